/-
  The landed scene: New, Spawn, Despawn, Adopt, Free.
-/
import Derived.Test.YtkondkajpmafkaaGreatMT36
namespace Go.Proofs.YtkondkajpmafkaaGreat
open Go.RowKit

section
variable {SB : World → Nat → (Nat → Prop) → St → Prop} {FB : World → Nat → (Nat → Prop) → FT → Prop}
set_option maxHeartbeats 4000000 in
set_option maxRecDepth 100000 in
theorem lnew11_any (hC : SCx SB) (hF : FCx FB) (w : World) (r : Nat) (hr : r ≤ 256) :
    Calls Tryz.prog 7 #[.int .i64 r] w fun e w' => ∃ g F, e = .returned (.tuple #[.pointer (some ⟨g, 0, none⟩), .int .i64 0]) ∧ LXB SB FB w' g F (Sc0 r) ∧ (∀ b, F b → w.heap.size ≤ b) ∧ Below w.heap.size w w' := by
  have HN := Lib.hid (hC.new w r hr)
  have HFn := Lib.hid hF.new
  have HK := Lib.hid (And.intro hC.kb hF.kb)
  clear hC hF
  go_enter Tryz.func7, Tryz.ntmps7
  go_wp2_with fail
  refine HN.out.mono ?_
  rintro e w1 ⟨gs, Fs, rfl, hs, fs, b1⟩
  have HS1 := Lib.hid (And.intro hs (And.intro fs b1))
  clear hs fs b1 HN
  go_wp2_with fail
  refine (HFn.out w1).mono ?_
  rintro e w2 ⟨gf, Ff, rfl, hf, ff, b2⟩
  have HE : Hid (∃ F, LXB SB FB (w2.alloc (.cells #[.pointer (some ⟨gs, 0, none⟩), .pointer (some ⟨gf, 0, none⟩)] 75)) w2.heap.size F (Sc0 r) ∧ (∀ b, F b → w.heap.size ≤ b) ∧ Below w.heap.size w (w2.alloc (.cells #[.pointer (some ⟨gs, 0, none⟩), .pointer (some ⟨gf, 0, none⟩)] 75))) := Lib.hid (by
    obtain ⟨hs, fs, b1⟩ := HS1.out
    obtain ⟨kS, kF⟩ := HK.out
    have hal := alloc_below w2 (.cells #[.pointer (some ⟨gs, 0, none⟩), .pointer (some ⟨gf, 0, none⟩)] 75)
    have hs2 := kS.keep hs b2
    have i1 := kS.inb _ _ _ _ hs
    have i2 := kF.inb _ _ _ _ hf
    refine ⟨fun b => b = w2.heap.size ∨ Fs b ∨ Ff b, ⟨gs, gf, Fs, Ff, Blk.new w2 _ _, ⟨kS.keep hs2 hal, kF.keep hf hal, fun b c d => ?_, fun b c => ?_, fun b c => ?_⟩, fun _ => Iff.rfl⟩, fun b c => ?_, balloc (bthen b1 b2) _⟩
    · have := i1 b c
      have := ff b d
      omega
    · have c' : b = w2.heap.size := c
      refine ⟨fun d => ?_, fun d => ?_⟩
      · have := i1 b d
        have := b2.size
        omega
      · have := i2 b d; omega
    · have c' : b = w2.heap.size := c
      rw [c']
      simp
    · have z1 := b1.size
      have z2 := b2.size
      rcases c with c | c | c
      · omega
      · exact fs b c
      · have := ff b c; omega)
  clear hf ff b2 HFn HS1 HK
  go_wp2
  go_ret2
  obtain ⟨F, k1, k2, k3⟩ := HE.out
  exact ⟨_, F, rfl, k1, k2, k3⟩
set_option maxHeartbeats 4000000 in
set_option maxRecDepth 100000 in
theorem lbad11_any (hC : SCx SB) (w : World) (x : Int) (hx : x < 0 ∨ 256 < x) :
    Calls Tryz.prog 7 #[.int .i64 x] w fun e w' => e = .returned (.tuple #[.pointer none, .int .i64 1]) ∧ Below w.heap.size w w' := by
  have HN := Lib.hid (hC.bad w x hx)
  clear hC hx
  go_enter Tryz.func7, Tryz.ntmps7
  go_wp2_with fail
  refine HN.out.mono ?_
  rintro e w1 ⟨rfl, b1⟩
  have HB := Lib.hid b1
  clear b1 HN
  go_wp2
  go_ret2
  exact ⟨rfl, HB.out⟩
set_option maxHeartbeats 4000000 in
set_option maxRecDepth 100000 in
theorem lspawn11_any (hC : SCx SB) (hF : FCx FB) (hL : SL SB) {w : World} {g : Nat} {F : Nat → Prop} {X : Sc} (h0 : LXB SB FB w g F X) (hW : WX X) (hB : BSc X 900) (P : PT) (p : Int) (hp : Rg p) :
    Calls Tryz.prog 22 #[.pointer (some ⟨g, 0, none⟩), .agg (pl P).toArray, .int .i64 p] w fun e w' => e = .returned (.tuple #[.int .i64 (xspV X P p), .int .i64 (xspE X P p)]) ∧ ChB (LXB SB FB) w w' g F (xspS X P p) := by
  have kS := hC.kb
  have kF := hF.kb
  have hKX := kb_lxb kS kF
  have H0 := Lib.hid h0
  have HKX := Lib.hid hKX
  obtain ⟨gs, gf, h⟩ := h0.open_
  have HKeep : Hid (∀ u, Below w.heap.size w u → LPS SB FB w u g gs gf F X) := Lib.hid (fun u q => h.keep kS kF q)
  obtain ⟨Fs, hfi, _, hS⟩ := h.withS kS kF
  obtain ⟨pp, hpp⟩ := hL w gs Fs X.S (hS w (Below.refl _ _)).1
  have HPP := Lib.hid hpp
  have HSp : Hid (∀ u, Below w.heap.size w u → w.heap.size < u.heap.size → Calls Tryz.prog 57 #[.pointer (some ⟨gs, 0, none⟩), .agg (pl P).toArray] u fun e w' => e = .returned (.tuple #[.int .i64 (spV X.S P), .int .i64 (spE X.S P)]) ∧ LPS SB FB w w' g gs gf F ⟨spS X.S P, X.L⟩ ∧ w'.heap[w.heap.size]? = u.heap[w.heap.size]?) := Lib.hid (fun u q c => (hC.spawn u gs Fs X.S P hW.ws (hB.bd.mono (by omega)) (hS u q).1).mono fun e w' k => ⟨k.1, (hS u q).2 _ _ k.2, by
    obtain ⟨_, _, f, _⟩ := k.2
    exact f.2.2.2.2 _ c (fun z => by have := hfi _ z; omega)⟩)
  have hLl : X.L.length ≤ 900 := hB.len
  have HSet : Hid (∀ u V, LPS SB FB w u g gs gf F ⟨spS X.S P, X.L⟩ → Rg V → Calls Tryz.prog 58 #[.pointer (some ⟨gf, 0, none⟩), .int .i64 V, .int .i64 p] u fun e w' => (∃ z : Int, e = .returned (.int .i64 z)) ∧ LPS SB FB w w' g gs gf F ⟨spS X.S P, setS9 X.L V p⟩) := Lib.hid (fun u V k hv => by
    obtain ⟨Ff, _, _, hFf⟩ := k.withF kS kF
    exact (hF.set u gf Ff X.L V p hW.wf (show X.L.length ≤ 1000 by omega) (hFf u (Below.refl _ _)).1 hv hp).mono fun e w' q => ⟨⟨_, q.1⟩, ((hFf u (Below.refl _ _)).2 _ _ q.2).1⟩)
  have HRv : Hid (spE X.S P = 0 → Rg (spV X.S P)) := Lib.hid (fun he => by
    have h1 : liveS (spS X.S P) (spV X.S P) = true := (live_sp hW.ws he _).2 (Or.inr rfl)
    have h2 := live_iff.1 h1
    unfold Rg
    omega)
  have HSz := Lib.hid (pl_size P)
  obtain ⟨lv, hlv⟩ : ∃ lv, lv = liveS X.S p := ⟨_, rfl⟩
  obtain ⟨V, hV⟩ : ∃ V, V = spV X.S P := ⟨_, rfl⟩
  obtain ⟨E, hE⟩ : ∃ E, E = spE X.S P := ⟨_, rfl⟩
  have HNo : Hid (noP X.S p = true → xspV X P p = 0 ∧ xspE X P p = 4 ∧ xspS X P p = X) := Lib.hid (fun c => by unfold xspV xspE xspS; rw [if_pos c, if_pos c, if_pos c]; exact ⟨rfl, rfl, rfl⟩)
  have HYes : Hid (noP X.S p = false → xspV X P p = V ∧ xspE X P p = E ∧ xspS X P p = ⟨spS X.S P, if E = 0 ∧ 0 ≤ p then setS9 X.L V p else X.L⟩) := Lib.hid (fun c => by unfold xspV xspE xspS; rw [c, hV, hE]; exact ⟨rfl, rfl, rfl⟩)
  have HV0 : Hid (E ≠ 0 → V = 0) := Lib.hid (fun c => by rw [hV]; unfold spV; rw [if_neg (by rw [← hE]; exact c)])
  have HNp : Hid (noP X.S p = (decide (0 ≤ p) && !lv)) := Lib.hid (by rw [hlv]; rfl)
  have HLv : Hid (∀ u, Below w.heap.size w u → Calls Tryz.prog 56 #[.pointer (some ⟨pp, 0, none⟩), .int .i64 p] u fun e w' => e = .returned (.bool lv) ∧ Below u.heap.size u w') := Lib.hid (fun u q => by rw [hlv]; exact (hpp u q).2.2 p)
  rw [← hV, ← hE] at HSp HRv
  obtain ⟨Xp, hXp⟩ : ∃ Xp, Xp = pl P := ⟨_, rfl⟩
  rw [← hXp] at HSp HSz ⊢
  have KP := Lib.hid (Blk.new w 43 Xp.toArray)
  have HB1 : Hid (Below w.heap.size w (w.alloc (.cells Xp.toArray 43))) := Lib.hid (alloc_below _ _)
  clear hXp hS hfi h0 h hW hB hlv hV hE hC hF hL hpp kS kF hKX hLl hp
  go_enter Tryz.func22, Tryz.ntmps22
  by_cases hp : 0 ≤ p
  · obtain ⟨c0, c1, hg⟩ := (HKeep.out _ HB1.out).reads
    obtain ⟨d0, hgs, -⟩ := HPP.out _ HB1.out
    go_wp2_with fail
    refine (HLv.out _ HB1.out).mono ?_
    rintro e w1 ⟨rfl, b1⟩
    replace KP := Lib.hid (KP.out.keep b1)
    replace HB1 := Lib.hid (bthen HB1.out b1)
    clear b1 c0 c1 hg d0 hgs
    cases lv with
    | false =>
      have HN := Lib.hid (HNo.out (by rw [HNp.out, decide_eq_true hp]; rfl))
      have HSt := Lib.hid (ChB.still HKX.out H0.out HB1.out)
      clear HNo HYes HNp HPP HLv HSp HSet HRv
      go_wp2
      go_ret2
      exact ⟨by rw [HN.out.1, HN.out.2.1]; rfl, by rw [HN.out.2.2]; exact HSt.out⟩
    | true =>
      have hno : (decide (0 ≤ p) && !true) = false := by rw [decide_eq_true hp]; rfl
      have HY := Lib.hid (HYes.out (HNp.out.trans hno))
      clear HYes HNo HNp hno HPP HLv
      obtain ⟨c0, c1, hg⟩ := (HKeep.out _ HB1.out).reads
      have hSz := HSz.out
      go_upto_region 5 with fail
      refine fin (fun W => LPS SB FB w W g gs gf F X ∧ W.rangeAt w.heap.size 0 Xp ∧ Below w.heap.size w W ∧ w.heap.size < W.heap.size) ⟨HKeep.out _ HB1.out, blk_whole KP.out, HB1.out, KP.out.lt⟩ ?_
      clear c0 c1 hg KP HB1
      rintro W0 ⟨hp0, r0, hb0, zb⟩
      obtain ⟨c0, -, hg⟩ := hp0.reads
      have HB1 := Lib.hid hb0
      have HR0 := Lib.hid r0
      clear hp0 hb0
      refine wp_region_held_drew (S := fun w' => w'.cell? ⟨g, 0, none⟩ = some (.pointer (some ⟨gs, 0, none⟩)) ∧ w'.rangeAt w.heap.size 0 Xp) (by kernel_rfl) (⟨c0, r0⟩) (fun hHeld => ?_)
      refine tk 0 hHeld ?_
      refine tk 1 hHeld ?_
      refine tk 2 hHeld ?_
      refine tk 3 hHeld ?_
      refine tkl 4 rfl (yieldsIf_load_mid (by rfl) _ _ rfl _ _ rfl _ _ (fun _ h => h.2) Tryz.underlying43 rfl HSz.out) hHeld ?_
      refine rd 5 (fun K hK => ?_)
      go_simp
      go_at_call 57
      refine (HSp.out _ (bthen HB1.out (drew_below _)) zb).mono ?_
      rintro e w3 ⟨rfl, hp3, hk3⟩
      have HP := Lib.hid hp3
      have HR3 := Lib.hid (range_same HR0.out hk3)
      clear hk3 hp3
      go_wp2_with fail
      refine hK.out _ _ (⟨HP.out.reads.1, HR3.out⟩) (fun hHeld => ?_)
      clear hK K
      refine tk 6 hHeld ?_
      refine tk 7 hHeld ?_
      refine tk 8 hHeld ?_
      refine tk 9 hHeld ?_
      refine tk 10 hHeld ?_
      refine wpAnyH_done (by kernel_rfl) ?_ _
      clear hHeld
      obtain ⟨c3, c4, hg3⟩ := HP.out.reads
      clear c0 r0 zb hg HSp HB1 HR0 HR3 hSz HSz HKeep c3
      by_cases hE : E = 0
      · have HRv1 := Lib.hid (HRv.out hE)
        subst hE
        have HT := Lib.hid (HSet.out w3 V HP.out HRv1.out)
        clear HP HSet HRv HRv1 HV0
        go_wp2_with fail
        refine HT.out.mono ?_
        rintro e w4 ⟨⟨z, rfl⟩, hd⟩
        have HD : Hid (ChB (LXB SB FB) w w4 g F (xspS X P p)) := Lib.hid (by
          rw [HY.out.2.2, if_pos (by first | exact ⟨rfl, hp⟩ | exact ⟨trivial, hp⟩)]
          exact hd.done)
        clear hd HT
        go_wp2
        go_ret2
        exact ⟨by rw [HY.out.1, HY.out.2.1]; rfl, HD.out⟩
      · have HD : Hid (ChB (LXB SB FB) w w3 g F (xspS X P p)) := Lib.hid (by
          rw [HY.out.2.2, if_neg (fun q => hE q.1)]
          exact HP.out.done)
        have HV1 := Lib.hid (HV0.out hE)
        clear HV0 HRv
        go_wp2
        go_ret2
        exact ⟨by rw [HY.out.1, HY.out.2.1, HV1.out]; rfl, HD.out⟩
  · have hno : (decide (0 ≤ p) && !lv) = false := by rw [decide_eq_false hp]; rfl
    have HY := Lib.hid (HYes.out (HNp.out.trans hno))
    clear HYes HNo HNp hno HPP HLv
    obtain ⟨c0, c1, hg⟩ := (HKeep.out _ HB1.out).reads
    have hSz := HSz.out
    go_upto_region 5 with fail
    refine fin (fun W => LPS SB FB w W g gs gf F X ∧ W.rangeAt w.heap.size 0 Xp ∧ Below w.heap.size w W ∧ w.heap.size < W.heap.size) ⟨HKeep.out _ HB1.out, blk_whole KP.out, HB1.out, KP.out.lt⟩ ?_
    clear c0 c1 hg KP HB1
    rintro W0 ⟨hp0, r0, hb0, zb⟩
    obtain ⟨c0, -, hg⟩ := hp0.reads
    have HB1 := Lib.hid hb0
    have HR0 := Lib.hid r0
    clear hp0 hb0
    refine wp_region_held_drew (S := fun w' => w'.cell? ⟨g, 0, none⟩ = some (.pointer (some ⟨gs, 0, none⟩)) ∧ w'.rangeAt w.heap.size 0 Xp) (by kernel_rfl) (⟨c0, r0⟩) (fun hHeld => ?_)
    refine tk 0 hHeld ?_
    refine tk 1 hHeld ?_
    refine tk 2 hHeld ?_
    refine tk 3 hHeld ?_
    refine tkl 4 rfl (yieldsIf_load_mid (by rfl) _ _ rfl _ _ rfl _ _ (fun _ h => h.2) Tryz.underlying43 rfl HSz.out) hHeld ?_
    refine rd 5 (fun K hK => ?_)
    go_simp
    go_at_call 57
    refine (HSp.out _ (bthen HB1.out (drew_below _)) zb).mono ?_
    rintro e w3 ⟨rfl, hp3, hk3⟩
    have HP := Lib.hid hp3
    have HR3 := Lib.hid (range_same HR0.out hk3)
    clear hk3 hp3
    go_wp2_with fail
    refine hK.out _ _ (⟨HP.out.reads.1, HR3.out⟩) (fun hHeld => ?_)
    clear hK K
    refine tk 6 hHeld ?_
    refine tk 7 hHeld ?_
    refine tk 8 hHeld ?_
    refine tk 9 hHeld ?_
    refine tk 10 hHeld ?_
    refine wpAnyH_done (by kernel_rfl) ?_ _
    clear hHeld
    obtain ⟨c3, c4, hg3⟩ := HP.out.reads
    clear c0 r0 zb hg HSp HB1 HR0 HR3 hSz HSz HKeep c3
    have HD : Hid (ChB (LXB SB FB) w w3 g F (xspS X P p)) := Lib.hid (by
      rw [HY.out.2.2, if_neg (fun q => by have := q.2; omega)]
      exact HP.out.done)
    by_cases hE : E = 0
    · subst hE
      clear HV0 HRv
      go_wp2
      go_ret2
      exact ⟨by rw [HY.out.1, HY.out.2.1]; rfl, HD.out⟩
    · have HV1 := Lib.hid (HV0.out hE)
      clear HV0 HRv
      go_wp2
      go_ret2
      exact ⟨by rw [HY.out.1, HY.out.2.1, HV1.out]; rfl, HD.out⟩
set_option maxHeartbeats 4000000 in
set_option maxRecDepth 100000 in
theorem ldespawn11_any (hC : SCx SB) (hF : FCx FB) {w : World} {g : Nat} {F : Nat → Prop} {X : Sc} (h0 : LXB SB FB w g F X) (hW : WX X) (hB : BSc X 900) (id : Int) (hid : Rg id) :
    Calls Tryz.prog 24 #[.pointer (some ⟨g, 0, none⟩), .int .i64 id] w fun e w' => e = .returned (.int .i64 (deE X.S id)) ∧ ChB (LXB SB FB) w w' g F (xdeS X id) := by
  have kS := hC.kb
  have kF := hF.kb
  obtain ⟨gs, gf, h⟩ := h0.open_
  obtain ⟨c0, c1, hg⟩ := h.reads
  have HEnt := Lib.hid (lent_any c0)
  obtain ⟨Fs, hfi, _, hS⟩ := h.withS kS kF
  have HDe : Hid (Calls Tryz.prog 60 #[.pointer (some ⟨gs, 0, none⟩), .int .i64 id] w fun e w' => e = .returned (.int .i64 (deE X.S id)) ∧ LPS SB FB w w' g gs gf F ⟨deS X.S id, X.L⟩) := Lib.hid ((hC.despawn w gs Fs X.S id hW.ws (hB.bd.mono (by omega)) (hS w (Below.refl _ _)).1).mono fun e w' k => ⟨k.1, (hS w (Below.refl _ _)).2 _ _ k.2⟩)
  have hLl : X.L.length ≤ 900 := hB.len
  have hbd : Bd (deS X.S id) 1000 := (bd_de hB.bd id).mono (by omega)
  have hws : WS (deS X.S id) := ws_de hW.ws id
  have hcn : (chF X.L id).length ≤ 1000 := Nat.le_trans (chF_len X.L id) (by omega)
  obtain ⟨C, hCC⟩ : ∃ C, C = chF X.L id := ⟨_, rfl⟩
  obtain ⟨n, hn⟩ : ∃ n, n = C.length := ⟨_, rfl⟩
  obtain ⟨S1, hS1⟩ : ∃ S1, S1 = deS X.S id := ⟨_, rfl⟩
  have HDr : Hid (∀ u, LPS SB FB w u g gs gf F ⟨S1, X.L⟩ → Calls Tryz.prog 61 #[.pointer (some ⟨gf, 0, none⟩), .int .i64 id] u fun e w' => ∃ a cap Fs, e = .returned (.slice a n cap) ∧ Row w' a n C ∧ SB w' gs Fs S1 ∧ Aw Fs a n ∧ LPS SB FB w w' g gs gf F ⟨S1, dropF X.L id⟩ ∧ ∀ w'' S', Chg SB w' w'' gs Fs S' → LPS SB FB w w'' g gs gf F ⟨S', dropF X.L id⟩) := Lib.hid (fun u k => by
    obtain ⟨Ff, _, _, hFf⟩ := k.withF kS kF
    refine (hF.drop u gf Ff X.L id hW.wf (show X.L.length ≤ 1000 by omega) (hFf u (Below.refl _ _)).1 hid).mono ?_
    rintro e w' ⟨v, rfl, ⟨a, cap, hv, hrow, hnew⟩, hch⟩
    rw [← hCC, ← hn] at hv hrow hnew
    obtain ⟨k1, k2⟩ := (hFf u (Below.refl _ _)).2 _ _ hch
    obtain ⟨Fs, k3, k4, k5⟩ := k2 a n hnew
    exact ⟨a, cap, Fs, by rw [hv], hrow, k3, k4, k1, k5⟩)
  have HTo : Hid (∀ u Fs a cap, SB u gs Fs S1 → Row u a n C → Aw Fs a n → Calls Tryz.prog 59 #[.pointer (some ⟨gs, 0, none⟩), .slice a n cap] u fun e w' => (∃ z : Int, e = .returned (.int .i64 z)) ∧ Chg SB u w' gs Fs (toS S1 C)) := Lib.hid (fun u Fs a cap k row haw => (hC.touch u gs Fs S1 a n cap C (by rw [hS1]; exact hws) (by rw [hS1]; exact hbd) k (by rw [hn, hCC]; exact hcn) row haw).mono fun e w' q => ⟨⟨_, q.1⟩, q.2⟩)
  have HYes : Hid (deE X.S id = 0 → xdeS X id = ⟨toS S1 C, dropF X.L id⟩) := Lib.hid (fun c => by unfold xdeS; rw [if_pos c, hS1, hCC])
  have HNo : Hid (deE X.S id ≠ 0 → xdeS X id = ⟨S1, X.L⟩) := Lib.hid (fun c => by unfold xdeS; rw [if_neg c, hS1, de_no c])
  have HKk := Lib.hid (And.intro kS kF)
  rw [← hS1] at HDe
  obtain ⟨E, hE⟩ : ∃ E, E = deE X.S id := ⟨_, rfl⟩
  rw [← hE] at HDe HYes HNo ⊢
  clear h0 h hW hB hS hfi hcn hCC hn hS1 hE hC hF hbd hws hid kS kF hLl
  go_enter Tryz.func24, Tryz.ntmps24
  go_wp2_with fail
  refine HEnt.out.mono ?_
  rintro e w1 ⟨rfl, rfl⟩
  go_wp2_with fail
  refine HDe.out.mono ?_
  rintro e w1 ⟨rfl, hp⟩
  have HP := Lib.hid hp
  clear hp c0 c1 hg HDe HEnt
  obtain ⟨c0, c1, hg⟩ := HP.out.reads
  by_cases hE : E = 0
  · have HY1 := Lib.hid (HYes.out hE)
    clear HYes HNo
    subst hE
    have HPd : Hid (LPS SB FB w w1.drew g gs gf F ⟨S1, X.L⟩) := Lib.hid (LPS.keep HKk.out.1 HKk.out.2 HP.out (drew_below _))
    go_wp2
    refine wp_region_held_drew (S := fun w' => w'.cell? ⟨g, 0, none⟩ = some (.pointer (some ⟨gs, 0, none⟩)) ∧ w'.cell? ⟨g, 1, none⟩ = some (.pointer (some ⟨gf, 0, none⟩))) (by kernel_rfl) (⟨c0, c1⟩) (fun hHeld => ?_)
    refine tk 0 hHeld ?_
    refine tk 1 hHeld ?_
    refine tk 2 hHeld ?_
    refine tk 3 hHeld ?_
    refine tk 4 hHeld ?_
    refine tk 5 hHeld ?_
    refine tk 6 hHeld ?_
    refine tk 7 hHeld ?_
    refine tk 8 hHeld ?_
    refine rd 9 (fun K hK => ?_)
    go_simp
    go_at_call 61
    refine (HDr.out _ HPd.out).mono ?_
    rintro e w2 ⟨a, cap, Fs2, rfl, row, hs2, haw, hp, hk⟩
    have HT := Lib.hid (HTo.out w2 Fs2 a cap hs2 row haw)
    have HK := Lib.hid hk
    have HR2 := Lib.hid hp.reads
    clear row hs2 haw hp hk HP HPd HDr HTo
    go_wp2_with fail
    refine hK.out _ _ (⟨HR2.out.1, HR2.out.2.1⟩) (fun hHeld => ?_)
    clear hK K
    refine rd 10 (fun K hK => ?_)
    go_simp
    go_at_call 59
    refine HT.out.mono ?_
    rintro e w3 ⟨⟨z, rfl⟩, hch⟩
    have HL3 := Lib.hid (HK.out _ _ hch)
    clear hch
    go_wp2_with fail
    refine hK.out _ _ (⟨HL3.out.reads.1, HL3.out.reads.2.1⟩) (fun hHeld => ?_)
    clear hK K
    refine wpAnyH_done (by kernel_rfl) ?_ _
    clear hHeld
    have HD := Lib.hid HL3.out.done
    clear HK HT HL3 HR2 c0 c1 hg
    go_wp2
    go_ret
    exact ⟨rfl, by rw [HY1.out]; exact HD.out⟩
  · have HD : Hid (ChB (LXB SB FB) w w1 g F (xdeS X id)) := Lib.hid (by rw [HNo.out hE]; exact HP.out.done)
    clear HP HDr HTo HYes HNo
    go_wp2
    go_ret
    exact ⟨rfl, HD.out⟩
set_option maxHeartbeats 4000000 in
set_option maxRecDepth 100000 in
theorem ladopt11_any (hC : SCx SB) (hF : FCx FB) (hL : SL SB) {w : World} {g : Nat} {F : Nat → Prop} {X : Sc} (h0 : LXB SB FB w g F X) (hW : WX X) (hB : BSc X 900) (c p : Int) (hrc : Rg c) (hrp : Rg p) :
    Calls Tryz.prog 23 #[.pointer (some ⟨g, 0, none⟩), .int .i64 c, .int .i64 p] w fun e w' => e = .returned (.int .i64 (xadE X c p)) ∧ ChB (LXB SB FB) w w' g F (xadS X c p) := by
  have kS := hC.kb
  have kF := hF.kb
  have hKX := kb_lxb kS kF
  obtain ⟨gs, gf, h⟩ := h0.open_
  obtain ⟨Fs, hfi, _, hS⟩ := h.withS kS kF
  obtain ⟨pp, hpp⟩ := hL w gs Fs X.S (hS w (Below.refl _ _)).1
  have HRd : Hid (∀ u, Below w.heap.size w u → u.cell? ⟨g, 0, none⟩ = some (.pointer (some ⟨gs, 0, none⟩)) ∧ u.cell? ⟨g, 1, none⟩ = some (.pointer (some ⟨gf, 0, none⟩)) ∧ g < u.heap.size ∧ u.cell? ⟨gs, 0, none⟩ = some (.pointer (some ⟨pp, 0, none⟩)) ∧ gs < u.heap.size) := Lib.hid (fun u q => by
    obtain ⟨a1, a2, a3⟩ := (h.keep kS kF q).reads
    exact ⟨a1, a2, a3, (hpp u q).1, (hpp u q).2.1⟩)
  have hLl : X.L.length ≤ 900 := hB.len
  obtain ⟨lc, hlc⟩ : ∃ b, b = liveS X.S c := ⟨_, rfl⟩
  obtain ⟨lp, hlp⟩ : ∃ b, b = liveS X.S p := ⟨_, rfl⟩
  have HL1 : Hid (∀ u, Below w.heap.size w u → Calls Tryz.prog 56 #[.pointer (some ⟨pp, 0, none⟩), .int .i64 c] u fun e w' => e = .returned (.bool lc) ∧ Below u.heap.size u w') := Lib.hid (fun u q => by rw [hlc]; exact (hpp u q).2.2 c)
  have HL2 : Hid (∀ u, Below w.heap.size w u → Calls Tryz.prog 56 #[.pointer (some ⟨pp, 0, none⟩), .int .i64 p] u fun e w' => e = .returned (.bool lp) ∧ Below u.heap.size u w') := Lib.hid (fun u q => by rw [hlp]; exact (hpp u q).2.2 p)
  have HE : Hid (xadE X c p = if lc && lp then fsetE X.L c p else 4) := Lib.hid (by rw [hlc, hlp]; rfl)
  obtain ⟨E, hE⟩ : ∃ E, E = fsetE X.L c p := ⟨_, rfl⟩
  have HSet : Hid (∀ u, Below w.heap.size w u → Calls Tryz.prog 58 #[.pointer (some ⟨gf, 0, none⟩), .int .i64 c, .int .i64 p] u fun e w' => e = .returned (.int .i64 E) ∧ LPS SB FB w w' g gs gf F ⟨X.S, setS9 X.L c p⟩) := Lib.hid (fun u q => by
    obtain ⟨Ff, _, _, hFf⟩ := h.withF kS kF
    exact (hF.set u gf Ff X.L c p hW.wf (show X.L.length ≤ 1000 by omega) (hFf u q).1 hrc hrp).mono fun e w' k => ⟨by rw [k.1, hE], ((hFf u q).2 _ _ k.2).1⟩)
  have HTo : Hid (∀ u L', LPS SB FB w u g gs gf F ⟨X.S, L'⟩ → Calls Tryz.prog 59 #[.pointer (some ⟨gs, 0, none⟩), .slice (some ⟨u.heap.size, 0, none⟩) 1 1] (u.alloc (.cells #[.int .i64 c] 31)) fun e w' => (∃ z : Int, e = .returned (.int .i64 z)) ∧ LPS SB FB w w' g gs gf F ⟨toS X.S [c], L'⟩) := Lib.hid (fun u L' k => by
    obtain ⟨Fs, hfi, _, hS⟩ := k.withS kS kF
    have hal := alloc_below u (.cells #[.int .i64 c] 31)
    exact (hC.touch _ gs Fs X.S (some ⟨u.heap.size, 0, none⟩) 1 1 [c] hW.ws (hB.bd.mono (by omega)) (hS _ hal).1 (by omega) (row1 _ _ _) (aw_new2 hfi)).mono fun e w' q => ⟨⟨_, q.1⟩, (hS _ hal).2 _ _ q.2⟩)
  have HSt : Hid (∀ u, Below w.heap.size w u → ChB (LXB SB FB) w u g F X) := Lib.hid (fun u q => ChB.still hKX h0 q)
  have HX : Hid (xadE X c p = 0 → xadS X c p = ⟨toS X.S [c], setS9 X.L c p⟩) := Lib.hid (fun q => by unfold xadS; rw [if_pos q])
  have HXn : Hid (xadE X c p ≠ 0 → xadS X c p = X) := Lib.hid (fun q => by unfold xadS; rw [if_neg q])
  have HSn : Hid (E ≠ 0 → setS9 X.L c p = X.L) := Lib.hid (fun q => by unfold setS9; rw [if_neg (by rw [← hE]; exact q)])
  clear h0 h hW hB hlc hlp hLl hC hF hL kS kF hKX hS hfi hpp hrc hrp
  rw [← hE] at HE
  clear hE
  obtain ⟨c0, c1, hg, d0, hgs⟩ := HRd.out w (Below.refl _ _)
  go_enter Tryz.func23, Tryz.ntmps23
  go_wp2_with fail
  refine (HL1.out _ (Below.refl _ _)).mono ?_
  rintro e w1 ⟨rfl, b1⟩
  have HB := Lib.hid b1
  clear b1 c0 c1 hg d0 hgs HL1
  obtain ⟨c0, c1, hg, d0, hgs⟩ := HRd.out w1 HB.out
  cases lc with
  | false =>
    have e1 : xadE X c p = 4 := by rw [HE.out]; rfl
    have HD : Hid (ChB (LXB SB FB) w w1 g F (xadS X c p)) := Lib.hid (by rw [HXn.out (by rw [e1]; decide)]; exact HSt.out w1 HB.out)
    have HE1 := Lib.hid e1
    clear e1 HE HX HXn HSn HTo HSet HSt HL2 HRd
    go_wp2
    go_ret
    exact ⟨by rw [HE1.out]; rfl, HD.out⟩
  | true =>
    go_wp2_with fail
    refine (HL2.out _ HB.out).mono ?_
    rintro e w2 ⟨rfl, b2⟩
    replace HB := Lib.hid (bthen HB.out b2)
    clear b2 c0 c1 hg d0 hgs HL2
    obtain ⟨c0, c1, hg, d0, hgs⟩ := HRd.out w2 HB.out
    cases lp with
    | false =>
      have e1 : xadE X c p = 4 := by rw [HE.out]; rfl
      have HD : Hid (ChB (LXB SB FB) w w2 g F (xadS X c p)) := Lib.hid (by rw [HXn.out (by rw [e1]; decide)]; exact HSt.out w2 HB.out)
      have HE1 := Lib.hid e1
      clear e1 HE HX HXn HSn HTo HSet HSt HRd
      go_wp2
      go_ret
      exact ⟨by rw [HE1.out]; rfl, HD.out⟩
    | true =>
      have HE1 : Hid (xadE X c p = E) := Lib.hid (by rw [HE.out]; rfl)
      clear HE HSt
      go_wp2_with fail
      refine (HSet.out _ HB.out).mono ?_
      rintro e w3 ⟨rfl, hp⟩
      have HP := Lib.hid hp
      clear hp c0 c1 hg d0 hgs HSet HRd HB
      obtain ⟨c0, c1, hg⟩ := HP.out.reads
      by_cases hE : E = 0
      · have HX1 := Lib.hid (HX.out (HE1.out.trans hE))
        subst hE
        have HT := Lib.hid (HTo.out _ _ HP.out)
        clear HTo HP HXn HSn HX
        go_wp2_with fail
        refine HT.out.mono ?_
        rintro e w4 ⟨⟨z, rfl⟩, hp⟩
        have HD : Hid (ChB (LXB SB FB) w w4 g F (xadS X c p)) := Lib.hid (by rw [HX1.out]; exact hp.done)
        clear hp HT HX1
        go_wp2
        go_ret
        exact ⟨by rw [HE1.out]; rfl, HD.out⟩
      · have HD : Hid (ChB (LXB SB FB) w w3 g F (xadS X c p)) := Lib.hid (by
          rw [HXn.out (by rw [HE1.out]; exact hE)]
          have := HP.out.done
          rw [HSn.out hE] at this
          exact this)
        clear HTo HP HXn HSn HX
        go_wp2
        go_ret
        exact ⟨by rw [HE1.out]; rfl, HD.out⟩
set_option maxHeartbeats 4000000 in
set_option maxRecDepth 100000 in
theorem lfree11_any (hC : SCx SB) (hF : FCx FB) (hL : SL SB) {w : World} {g : Nat} {F : Nat → Prop} {X : Sc} (h0 : LXB SB FB w g F X) (hW : WX X) (hB : BSc X 900) (c : Int) (hrc : Rg c) :
    Calls Tryz.prog 32 #[.pointer (some ⟨g, 0, none⟩), .int .i64 c] w fun e w' => e = .returned (.int .i64 (xfrE X c)) ∧ ChB (LXB SB FB) w w' g F (xfrS X c) := by
  have kS := hC.kb
  have kF := hF.kb
  have hKX := kb_lxb kS kF
  obtain ⟨gs, gf, h⟩ := h0.open_
  obtain ⟨Fs, hfi, _, hS⟩ := h.withS kS kF
  obtain ⟨pp, hpp⟩ := hL w gs Fs X.S (hS w (Below.refl _ _)).1
  have HRd : Hid (∀ u, Below w.heap.size w u → u.cell? ⟨g, 0, none⟩ = some (.pointer (some ⟨gs, 0, none⟩)) ∧ u.cell? ⟨g, 1, none⟩ = some (.pointer (some ⟨gf, 0, none⟩)) ∧ g < u.heap.size ∧ u.cell? ⟨gs, 0, none⟩ = some (.pointer (some ⟨pp, 0, none⟩)) ∧ gs < u.heap.size) := Lib.hid (fun u q => by
    obtain ⟨a1, a2, a3⟩ := (h.keep kS kF q).reads
    exact ⟨a1, a2, a3, (hpp u q).1, (hpp u q).2.1⟩)
  have hLl : X.L.length ≤ 900 := hB.len
  obtain ⟨lc, hlc⟩ : ∃ b, b = liveS X.S c := ⟨_, rfl⟩
  have HL1 : Hid (Calls Tryz.prog 56 #[.pointer (some ⟨pp, 0, none⟩), .int .i64 c] w fun e w' => e = .returned (.bool lc) ∧ Below w.heap.size w w') := Lib.hid (by rw [hlc]; exact (hpp w (Below.refl _ _)).2.2 c)
  have HE : Hid (xfrE X c = if lc then 0 else 4) := Lib.hid (by rw [hlc]; rfl)
  obtain ⟨had, hhad⟩ : ∃ b, b = (parO X.L c).isSome := ⟨_, rfl⟩
  obtain ⟨fn, hfn⟩ : ∃ n : Nat, n = frN X.L [c] := ⟨_, rfl⟩
  have hfh : fn = if had then 1 else 0 := by
    rw [hfn, hhad]
    show (if (parO X.L c).isSome then 1 else 0) + 0 = _
    rw [Nat.add_zero]
  have HFh := Lib.hid hfh
  have HFr : Hid (∀ u, Below w.heap.size w u → Calls Tryz.prog 65 #[.pointer (some ⟨gf, 0, none⟩), .slice (some ⟨u.heap.size, 0, none⟩) 1 1] (u.alloc (.cells #[.int .i64 c] 31)) fun e w' => e = .returned (.int .i64 fn) ∧ LPS SB FB w w' g gs gf F ⟨X.S, freeF X.L c⟩) := Lib.hid (fun u q => by
    obtain ⟨Ff, hffi, _, hFf⟩ := (h.keep kS kF q).withF kS kF
    have hal := alloc_below u (.cells #[.int .i64 c] 31)
    exact (hF.free _ gf Ff X.L (some ⟨u.heap.size, 0, none⟩) 1 1 [c] hW.wf (show X.L.length ≤ 1000 by omega) (hFf _ hal).1 (by omega) (row1 _ _ _) (aw_new2 hffi) (fun x hx => by rw [List.mem_singleton.1 hx]; exact hrc)).mono fun e w' k => ⟨by rw [k.1, hfn], ((hFf _ hal).2 _ _ k.2).1⟩)
  have HTo : Hid (∀ u L', LPS SB FB w u g gs gf F ⟨X.S, L'⟩ → Calls Tryz.prog 59 #[.pointer (some ⟨gs, 0, none⟩), .slice (some ⟨u.heap.size, 0, none⟩) 1 1] (u.alloc (.cells #[.int .i64 c] 31)) fun e w' => (∃ z : Int, e = .returned (.int .i64 z)) ∧ LPS SB FB w w' g gs gf F ⟨toS X.S [c], L'⟩) := Lib.hid (fun u L' k => by
    obtain ⟨Fs, hfi, _, hS⟩ := k.withS kS kF
    have hal := alloc_below u (.cells #[.int .i64 c] 31)
    exact (hC.touch _ gs Fs X.S (some ⟨u.heap.size, 0, none⟩) 1 1 [c] hW.ws (hB.bd.mono (by omega)) (hS _ hal).1 (by omega) (row1 _ _ _) (aw_new2 hfi)).mono fun e w' q => ⟨⟨_, q.1⟩, (hS _ hal).2 _ _ q.2⟩)
  have HSt : Hid (lc = false → ∀ u, Below w.heap.size w u → ChB (LXB SB FB) w u g F (xfrS X c)) := Lib.hid (fun q u b => by
    have e : xfrS X c = X := by unfold xfrS; rw [← hlc, q]; rfl
    rw [e]
    exact ChB.still hKX h0 b)
  have HX : Hid (lc = true → xfrS X c = ⟨if had then toS X.S [c] else X.S, freeF X.L c⟩) := Lib.hid (fun q => by unfold xfrS; rw [← hlc, q, hhad]; rfl)
  clear h0 h hW hB hlc hhad hLl hC hF hL kS kF hKX hS hfi hpp hrc hfn hfh
  obtain ⟨c0, c1, hg, d0, hgs⟩ := HRd.out w (Below.refl _ _)
  go_enter Tryz.func32, Tryz.ntmps32
  go_wp2_with fail
  refine HL1.out.mono ?_
  rintro e w1 ⟨rfl, b1⟩
  have HB := Lib.hid b1
  clear b1 c0 c1 hg d0 hgs HL1
  obtain ⟨c0, c1, hg, d0, hgs⟩ := HRd.out w1 HB.out
  cases lc with
  | false =>
    have HD := Lib.hid (HSt.out rfl w1 HB.out)
    have HE1 : Hid (xfrE X c = 4) := Lib.hid (by rw [HE.out]; rfl)
    clear HSt HE HX HTo HFr HRd
    go_wp2
    go_ret
    exact ⟨by rw [HE1.out]; rfl, HD.out⟩
  | true =>
    have HE1 : Hid (xfrE X c = 0) := Lib.hid (by rw [HE.out]; rfl)
    have HX1 := Lib.hid (HX.out rfl)
    clear HE HSt HX
    go_wp2_with fail
    refine (HFr.out w1 HB.out).mono ?_
    rintro e w2 ⟨rfl, hp⟩
    have HP := Lib.hid hp
    clear hp c0 c1 hg d0 hgs HFr HRd HB
    obtain ⟨c0, c1, hg⟩ := HP.out.reads
    cases had with
    | false =>
      have e0 : fn = 0 := HFh.out
      subst e0
      have HD : Hid (ChB (LXB SB FB) w w2 g F (xfrS X c)) := Lib.hid (by rw [HX1.out]; exact HP.out.done)
      clear HTo HP HX1 HFh
      go_wp2
      go_ret
      exact ⟨by rw [HE1.out]; rfl, HD.out⟩
    | true =>
      have e0 : fn = 1 := HFh.out
      subst e0
      have HT := Lib.hid (HTo.out _ _ HP.out)
      clear HTo HP HFh
      go_wp2_with fail
      refine HT.out.mono ?_
      rintro e w3 ⟨⟨z, rfl⟩, hp⟩
      have HD : Hid (ChB (LXB SB FB) w w3 g F (xfrS X c)) := Lib.hid (by rw [HX1.out]; exact hp.done)
      clear hp HT HX1
      go_wp2
      go_ret
      exact ⟨by rw [HE1.out]; rfl, HD.out⟩
end
end Go.Proofs.YtkondkajpmafkaaGreat
