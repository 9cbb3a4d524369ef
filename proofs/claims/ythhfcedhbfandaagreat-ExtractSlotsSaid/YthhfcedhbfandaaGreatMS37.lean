/-
  3 texts in one file, each with its own heading.
-/
import Derived.Test.YthhfcedhbfandaaGreatMS32
/-
  The landed scene: New, Spawn, Despawn, Adopt, Free.
-/
namespace Go.Proofs.YthhfcedhbfandaaGreat
open Go.RowKit

section
variable {SB : World → Nat → (Nat → Prop) → St → Prop} {FB : World → Nat → (Nat → Prop) → FT → Prop}
set_option maxHeartbeats 4000000 in
set_option maxRecDepth 100000 in
theorem lnew11_any (hC : SCx SB) (hF : FCx FB) (w : World) (r : Nat) (hr : r ≤ 256) :
    Calls Tryz.prog 7 #[.int .i64 r] w fun e w' => ∃ g F, e = .returned (.tuple #[.pointer (some ⟨g, 0, none⟩), .int .i64 0]) ∧ LXB SB FB w' g F (Sc0 r) ∧ (∀ b, F b → w.heap.size ≤ b) ∧ Below w.heap.size w w' := by
  have HN := Lib.hid (hC.new w r hr)
  have HFn := Lib.hid hF.new
  have HK := Lib.hid (And.intro hC.kb hF.kb)
  clear hC hF
  go_enter Tryz.func7, Tryz.ntmps7
  go_wp2_with fail
  refine HN.out.mono ?_
  rintro e w1 ⟨gs, Fs, rfl, hs, fs, b1⟩
  have HS1 := Lib.hid (And.intro hs (And.intro fs b1))
  clear hs fs b1 HN
  go_wp2_with fail
  refine (HFn.out w1).mono ?_
  rintro e w2 ⟨gf, Ff, rfl, hf, ff, b2⟩
  have HE : Hid (∃ F, LXB SB FB (w2.alloc (.cells #[.pointer (some ⟨gs, 0, none⟩), .pointer (some ⟨gf, 0, none⟩)] 100)) w2.heap.size F (Sc0 r) ∧ (∀ b, F b → w.heap.size ≤ b) ∧ Below w.heap.size w (w2.alloc (.cells #[.pointer (some ⟨gs, 0, none⟩), .pointer (some ⟨gf, 0, none⟩)] 100))) := Lib.hid (by
    obtain ⟨hs, fs, b1⟩ := HS1.out
    obtain ⟨kS, kF⟩ := HK.out
    have hal := alloc_below w2 (.cells #[.pointer (some ⟨gs, 0, none⟩), .pointer (some ⟨gf, 0, none⟩)] 100)
    have hs2 := kS.keep hs b2
    have i1 := kS.inb _ _ _ _ hs
    have i2 := kF.inb _ _ _ _ hf
    refine ⟨fun b => b = w2.heap.size ∨ Fs b ∨ Ff b, ⟨gs, gf, Fs, Ff, Blk.new w2 _ _, ⟨kS.keep hs2 hal, kF.keep hf hal, fun b c d => ?_, fun b c => ?_, fun b c => ?_⟩, fun _ => Iff.rfl⟩, fun b c => ?_, balloc (bthen b1 b2) _⟩
    · have := i1 b c
      have := ff b d
      omega
    · have c' : b = w2.heap.size := c
      refine ⟨fun d => ?_, fun d => ?_⟩
      · have := i1 b d
        have := b2.size
        omega
      · have := i2 b d; omega
    · have c' : b = w2.heap.size := c
      rw [c']
      simp
    · have z1 := b1.size
      have z2 := b2.size
      rcases c with c | c | c
      · omega
      · exact fs b c
      · have := ff b c; omega)
  clear hf ff b2 HFn HS1 HK
  go_wp2
  go_ret2
  obtain ⟨F, k1, k2, k3⟩ := HE.out
  exact ⟨_, F, rfl, k1, k2, k3⟩
set_option maxHeartbeats 4000000 in
set_option maxRecDepth 100000 in
theorem lbad11_any (hC : SCx SB) (w : World) (x : Int) (hx : x < 0 ∨ 256 < x) :
    Calls Tryz.prog 7 #[.int .i64 x] w fun e w' => e = .returned (.tuple #[.pointer none, .int .i64 1]) ∧ Below w.heap.size w w' := by
  have HN := Lib.hid (hC.bad w x hx)
  clear hC hx
  go_enter Tryz.func7, Tryz.ntmps7
  go_wp2_with fail
  refine HN.out.mono ?_
  rintro e w1 ⟨rfl, b1⟩
  have HB := Lib.hid b1
  clear b1 HN
  go_wp2
  go_ret2
  exact ⟨rfl, HB.out⟩
set_option maxHeartbeats 4000000 in
set_option maxRecDepth 100000 in
theorem lspawn11_any (hC : SCx SB) (hF : FCx FB) (hL : SL SB) {w : World} {g : Nat} {F : Nat → Prop} {X : Sc} (h0 : LXB SB FB w g F X) (hW : WX X) (hB : BSc X 900) (P : PT) (p : Int) (hp : Rg p) :
    Calls Tryz.prog 28 #[.pointer (some ⟨g, 0, none⟩), .agg (pl P).toArray, .int .i64 p] w fun e w' => e = .returned (.tuple #[.int .i64 (xspV X P p), .int .i64 (xspE X P p)]) ∧ ChB (LXB SB FB) w w' g F (xspS X P p) := by
  have kS := hC.kb
  have kF := hF.kb
  have hKX := kb_lxb kS kF
  have H0 := Lib.hid h0
  have HKX := Lib.hid hKX
  obtain ⟨gs, gf, h⟩ := h0.open_
  have HKeep : Hid (∀ u, Below w.heap.size w u → LPS SB FB w u g gs gf F X) := Lib.hid (fun u q => h.keep kS kF q)
  obtain ⟨Fs, hfi, _, hS⟩ := h.withS kS kF
  obtain ⟨pp, hpp⟩ := hL w gs Fs X.S (hS w (Below.refl _ _)).1
  have HPP := Lib.hid hpp
  have HSp : Hid (∀ u, Below w.heap.size w u → w.heap.size < u.heap.size → Calls Tryz.prog 62 #[.pointer (some ⟨gs, 0, none⟩), .agg (pl P).toArray] u fun e w' => e = .returned (.tuple #[.int .i64 (spV X.S P), .int .i64 (spE X.S P)]) ∧ LPS SB FB w w' g gs gf F ⟨spS X.S P, X.L⟩ ∧ w'.heap[w.heap.size]? = u.heap[w.heap.size]?) := Lib.hid (fun u q c => (hC.spawn u gs Fs X.S P hW.ws (hB.bd.mono (by omega)) (hS u q).1).mono fun e w' k => ⟨k.1, (hS u q).2 _ _ k.2, by
    obtain ⟨_, _, f, _⟩ := k.2
    exact f.2.2.2.2 _ c (fun z => by have := hfi _ z; omega)⟩)
  have hLl : X.L.length ≤ 900 := hB.len
  have HSet : Hid (∀ u V, LPS SB FB w u g gs gf F ⟨spS X.S P, X.L⟩ → Rg V → Calls Tryz.prog 63 #[.pointer (some ⟨gf, 0, none⟩), .int .i64 V, .int .i64 p] u fun e w' => (∃ z : Int, e = .returned (.int .i64 z)) ∧ LPS SB FB w w' g gs gf F ⟨spS X.S P, setS9 X.L V p⟩) := Lib.hid (fun u V k hv => by
    obtain ⟨Ff, _, _, hFf⟩ := k.withF kS kF
    exact (hF.set u gf Ff X.L V p hW.wf (show X.L.length ≤ 1000 by omega) (hFf u (Below.refl _ _)).1 hv hp).mono fun e w' q => ⟨⟨_, q.1⟩, ((hFf u (Below.refl _ _)).2 _ _ q.2).1⟩)
  have HRv : Hid (spE X.S P = 0 → Rg (spV X.S P)) := Lib.hid (fun he => by
    have h1 : liveS (spS X.S P) (spV X.S P) = true := (live_sp hW.ws he _).2 (Or.inr rfl)
    have h2 := live_iff.1 h1
    unfold Rg
    omega)
  have HSz := Lib.hid (pl_size P)
  obtain ⟨lv, hlv⟩ : ∃ lv, lv = liveS X.S p := ⟨_, rfl⟩
  obtain ⟨V, hV⟩ : ∃ V, V = spV X.S P := ⟨_, rfl⟩
  obtain ⟨E, hE⟩ : ∃ E, E = spE X.S P := ⟨_, rfl⟩
  have HNo : Hid (noP X.S p = true → xspV X P p = 0 ∧ xspE X P p = 4 ∧ xspS X P p = X) := Lib.hid (fun c => by unfold xspV xspE xspS; rw [if_pos c, if_pos c, if_pos c]; exact ⟨rfl, rfl, rfl⟩)
  have HYes : Hid (noP X.S p = false → xspV X P p = V ∧ xspE X P p = E ∧ xspS X P p = ⟨spS X.S P, if E = 0 ∧ 0 ≤ p then setS9 X.L V p else X.L⟩) := Lib.hid (fun c => by unfold xspV xspE xspS; rw [c, hV, hE]; exact ⟨rfl, rfl, rfl⟩)
  have HV0 : Hid (E ≠ 0 → V = 0) := Lib.hid (fun c => by rw [hV]; unfold spV; rw [if_neg (by rw [← hE]; exact c)])
  have HNp : Hid (noP X.S p = (decide (0 ≤ p) && !lv)) := Lib.hid (by rw [hlv]; rfl)
  have HLv : Hid (∀ u, Below w.heap.size w u → Calls Tryz.prog 61 #[.pointer (some ⟨pp, 0, none⟩), .int .i64 p] u fun e w' => e = .returned (.bool lv) ∧ Below u.heap.size u w') := Lib.hid (fun u q => by rw [hlv]; exact (hpp u q).2.2 p)
  rw [← hV, ← hE] at HSp HRv
  obtain ⟨Xp, hXp⟩ : ∃ Xp, Xp = pl P := ⟨_, rfl⟩
  rw [← hXp] at HSp HSz ⊢
  have KP := Lib.hid (Blk.new w 52 Xp.toArray)
  have HB1 : Hid (Below w.heap.size w (w.alloc (.cells Xp.toArray 52))) := Lib.hid (alloc_below _ _)
  clear hXp hS hfi h0 h hW hB hlv hV hE hC hF hL hpp kS kF hKX hLl hp
  go_enter Tryz.func28, Tryz.ntmps28
  by_cases hp : 0 ≤ p
  · obtain ⟨c0, c1, hg⟩ := (HKeep.out _ HB1.out).reads
    obtain ⟨d0, hgs, -⟩ := HPP.out _ HB1.out
    go_wp2_with fail
    refine (HLv.out _ HB1.out).mono ?_
    rintro e w1 ⟨rfl, b1⟩
    replace KP := Lib.hid (KP.out.keep b1)
    replace HB1 := Lib.hid (bthen HB1.out b1)
    clear b1 c0 c1 hg d0 hgs
    cases lv with
    | false =>
      have HN := Lib.hid (HNo.out (by rw [HNp.out, decide_eq_true hp]; rfl))
      have HSt := Lib.hid (ChB.still HKX.out H0.out HB1.out)
      clear HNo HYes HNp HPP HLv HSp HSet HRv
      go_wp2
      go_ret2
      exact ⟨by rw [HN.out.1, HN.out.2.1]; rfl, by rw [HN.out.2.2]; exact HSt.out⟩
    | true =>
      have hno : (decide (0 ≤ p) && !true) = false := by rw [decide_eq_true hp]; rfl
      have HY := Lib.hid (HYes.out (HNp.out.trans hno))
      clear HYes HNo HNp hno HPP HLv
      obtain ⟨c0, c1, hg⟩ := (HKeep.out _ HB1.out).reads
      have hSz := HSz.out
      go_upto_region 5 with fail
      refine fin (fun W => LPS SB FB w W g gs gf F X ∧ W.rangeAt w.heap.size 0 Xp ∧ Below w.heap.size w W ∧ w.heap.size < W.heap.size) ⟨HKeep.out _ HB1.out, blk_whole KP.out, HB1.out, KP.out.lt⟩ ?_
      clear c0 c1 hg KP HB1
      rintro W0 ⟨hp0, r0, hb0, zb⟩
      obtain ⟨c0, -, hg⟩ := hp0.reads
      have HB1 := Lib.hid hb0
      have HR0 := Lib.hid r0
      clear hp0 hb0
      refine wp_region_held_drew (S := fun w' => w'.cell? ⟨g, 0, none⟩ = some (.pointer (some ⟨gs, 0, none⟩)) ∧ w'.rangeAt w.heap.size 0 Xp) (by kernel_rfl) (⟨c0, r0⟩) (fun hHeld => ?_)
      refine tk 0 hHeld ?_
      refine tk 1 hHeld ?_
      refine tk 2 hHeld ?_
      refine tk 3 hHeld ?_
      refine tkl 4 rfl (yieldsIf_load_mid (by rfl) _ _ rfl _ _ rfl _ _ (fun _ h => h.2) Tryz.underlying52 rfl HSz.out) hHeld ?_
      refine rd 5 (fun K hK => ?_)
      go_simp
      go_at_call 62
      refine (HSp.out _ (bthen HB1.out (drew_below _)) zb).mono ?_
      rintro e w3 ⟨rfl, hp3, hk3⟩
      have HP := Lib.hid hp3
      have HR3 := Lib.hid (range_same HR0.out hk3)
      clear hk3 hp3
      go_wp2_with fail
      refine hK.out _ _ (⟨HP.out.reads.1, HR3.out⟩) (fun hHeld => ?_)
      clear hK K
      refine tk 6 hHeld ?_
      refine tk 7 hHeld ?_
      refine tk 8 hHeld ?_
      refine tk 9 hHeld ?_
      refine tk 10 hHeld ?_
      refine wpAnyH_done (by kernel_rfl) ?_ _
      clear hHeld
      obtain ⟨c3, c4, hg3⟩ := HP.out.reads
      clear c0 r0 zb hg HSp HB1 HR0 HR3 hSz HSz HKeep c3
      by_cases hE : E = 0
      · have HRv1 := Lib.hid (HRv.out hE)
        subst hE
        have HT := Lib.hid (HSet.out w3 V HP.out HRv1.out)
        clear HP HSet HRv HRv1 HV0
        go_wp2_with fail
        refine HT.out.mono ?_
        rintro e w4 ⟨⟨z, rfl⟩, hd⟩
        have HD : Hid (ChB (LXB SB FB) w w4 g F (xspS X P p)) := Lib.hid (by
          rw [HY.out.2.2, if_pos (by first | exact ⟨rfl, hp⟩ | exact ⟨trivial, hp⟩)]
          exact hd.done)
        clear hd HT
        go_wp2
        go_ret2
        exact ⟨by rw [HY.out.1, HY.out.2.1]; rfl, HD.out⟩
      · have HD : Hid (ChB (LXB SB FB) w w3 g F (xspS X P p)) := Lib.hid (by
          rw [HY.out.2.2, if_neg (fun q => hE q.1)]
          exact HP.out.done)
        have HV1 := Lib.hid (HV0.out hE)
        clear HV0 HRv
        go_wp2
        go_ret2
        exact ⟨by rw [HY.out.1, HY.out.2.1, HV1.out]; rfl, HD.out⟩
  · have hno : (decide (0 ≤ p) && !lv) = false := by rw [decide_eq_false hp]; rfl
    have HY := Lib.hid (HYes.out (HNp.out.trans hno))
    clear HYes HNo HNp hno HPP HLv
    obtain ⟨c0, c1, hg⟩ := (HKeep.out _ HB1.out).reads
    have hSz := HSz.out
    go_upto_region 5 with fail
    refine fin (fun W => LPS SB FB w W g gs gf F X ∧ W.rangeAt w.heap.size 0 Xp ∧ Below w.heap.size w W ∧ w.heap.size < W.heap.size) ⟨HKeep.out _ HB1.out, blk_whole KP.out, HB1.out, KP.out.lt⟩ ?_
    clear c0 c1 hg KP HB1
    rintro W0 ⟨hp0, r0, hb0, zb⟩
    obtain ⟨c0, -, hg⟩ := hp0.reads
    have HB1 := Lib.hid hb0
    have HR0 := Lib.hid r0
    clear hp0 hb0
    refine wp_region_held_drew (S := fun w' => w'.cell? ⟨g, 0, none⟩ = some (.pointer (some ⟨gs, 0, none⟩)) ∧ w'.rangeAt w.heap.size 0 Xp) (by kernel_rfl) (⟨c0, r0⟩) (fun hHeld => ?_)
    refine tk 0 hHeld ?_
    refine tk 1 hHeld ?_
    refine tk 2 hHeld ?_
    refine tk 3 hHeld ?_
    refine tkl 4 rfl (yieldsIf_load_mid (by rfl) _ _ rfl _ _ rfl _ _ (fun _ h => h.2) Tryz.underlying52 rfl HSz.out) hHeld ?_
    refine rd 5 (fun K hK => ?_)
    go_simp
    go_at_call 62
    refine (HSp.out _ (bthen HB1.out (drew_below _)) zb).mono ?_
    rintro e w3 ⟨rfl, hp3, hk3⟩
    have HP := Lib.hid hp3
    have HR3 := Lib.hid (range_same HR0.out hk3)
    clear hk3 hp3
    go_wp2_with fail
    refine hK.out _ _ (⟨HP.out.reads.1, HR3.out⟩) (fun hHeld => ?_)
    clear hK K
    refine tk 6 hHeld ?_
    refine tk 7 hHeld ?_
    refine tk 8 hHeld ?_
    refine tk 9 hHeld ?_
    refine tk 10 hHeld ?_
    refine wpAnyH_done (by kernel_rfl) ?_ _
    clear hHeld
    obtain ⟨c3, c4, hg3⟩ := HP.out.reads
    clear c0 r0 zb hg HSp HB1 HR0 HR3 hSz HSz HKeep c3
    have HD : Hid (ChB (LXB SB FB) w w3 g F (xspS X P p)) := Lib.hid (by
      rw [HY.out.2.2, if_neg (fun q => by have := q.2; omega)]
      exact HP.out.done)
    by_cases hE : E = 0
    · subst hE
      clear HV0 HRv
      go_wp2
      go_ret2
      exact ⟨by rw [HY.out.1, HY.out.2.1]; rfl, HD.out⟩
    · have HV1 := Lib.hid (HV0.out hE)
      clear HV0 HRv
      go_wp2
      go_ret2
      exact ⟨by rw [HY.out.1, HY.out.2.1, HV1.out]; rfl, HD.out⟩
set_option maxHeartbeats 4000000 in
set_option maxRecDepth 100000 in
theorem ldespawn11_any (hC : SCx SB) (hF : FCx FB) {w : World} {g : Nat} {F : Nat → Prop} {X : Sc} (h0 : LXB SB FB w g F X) (hW : WX X) (hB : BSc X 900) (id : Int) (hid : Rg id) :
    Calls Tryz.prog 29 #[.pointer (some ⟨g, 0, none⟩), .int .i64 id] w fun e w' => e = .returned (.int .i64 (deE X.S id)) ∧ ChB (LXB SB FB) w w' g F (xdeS X id) := by
  have kS := hC.kb
  have kF := hF.kb
  obtain ⟨gs, gf, h⟩ := h0.open_
  obtain ⟨c0, c1, hg⟩ := h.reads
  have HEnt := Lib.hid (lent_any c0)
  obtain ⟨Fs, hfi, _, hS⟩ := h.withS kS kF
  have HDe : Hid (Calls Tryz.prog 64 #[.pointer (some ⟨gs, 0, none⟩), .int .i64 id] w fun e w' => e = .returned (.int .i64 (deE X.S id)) ∧ LPS SB FB w w' g gs gf F ⟨deS X.S id, X.L⟩) := Lib.hid ((hC.despawn w gs Fs X.S id hW.ws (hB.bd.mono (by omega)) (hS w (Below.refl _ _)).1).mono fun e w' k => ⟨k.1, (hS w (Below.refl _ _)).2 _ _ k.2⟩)
  have hLl : X.L.length ≤ 900 := hB.len
  have hbd : Bd (deS X.S id) 1000 := (bd_de hB.bd id).mono (by omega)
  have hws : WS (deS X.S id) := ws_de hW.ws id
  have hcn : (chF X.L id).length ≤ 1000 := Nat.le_trans (chF_len X.L id) (by omega)
  obtain ⟨C, hCC⟩ : ∃ C, C = chF X.L id := ⟨_, rfl⟩
  obtain ⟨n, hn⟩ : ∃ n, n = C.length := ⟨_, rfl⟩
  obtain ⟨S1, hS1⟩ : ∃ S1, S1 = deS X.S id := ⟨_, rfl⟩
  have HDr : Hid (∀ u, LPS SB FB w u g gs gf F ⟨S1, X.L⟩ → Calls Tryz.prog 66 #[.pointer (some ⟨gf, 0, none⟩), .int .i64 id] u fun e w' => ∃ a cap Fs, e = .returned (.slice a n cap) ∧ Row w' a n C ∧ SB w' gs Fs S1 ∧ Aw Fs a n ∧ LPS SB FB w w' g gs gf F ⟨S1, dropF X.L id⟩ ∧ ∀ w'' S', Chg SB w' w'' gs Fs S' → LPS SB FB w w'' g gs gf F ⟨S', dropF X.L id⟩) := Lib.hid (fun u k => by
    obtain ⟨Ff, _, _, hFf⟩ := k.withF kS kF
    refine (hF.drop u gf Ff X.L id hW.wf (show X.L.length ≤ 1000 by omega) (hFf u (Below.refl _ _)).1 hid).mono ?_
    rintro e w' ⟨v, rfl, ⟨a, cap, hv, hrow, hnew⟩, hch⟩
    rw [← hCC, ← hn] at hv hrow hnew
    obtain ⟨k1, k2⟩ := (hFf u (Below.refl _ _)).2 _ _ hch
    obtain ⟨Fs, k3, k4, k5⟩ := k2 a n hnew
    exact ⟨a, cap, Fs, by rw [hv], hrow, k3, k4, k1, k5⟩)
  have HTo : Hid (∀ u Fs a cap, SB u gs Fs S1 → Row u a n C → Aw Fs a n → Calls Tryz.prog 65 #[.pointer (some ⟨gs, 0, none⟩), .slice a n cap] u fun e w' => (∃ z : Int, e = .returned (.int .i64 z)) ∧ Chg SB u w' gs Fs (toS S1 C)) := Lib.hid (fun u Fs a cap k row haw => (hC.touch u gs Fs S1 a n cap C (by rw [hS1]; exact hws) (by rw [hS1]; exact hbd) k (by rw [hn, hCC]; exact hcn) row haw).mono fun e w' q => ⟨⟨_, q.1⟩, q.2⟩)
  have HYes : Hid (deE X.S id = 0 → xdeS X id = ⟨toS S1 C, dropF X.L id⟩) := Lib.hid (fun c => by unfold xdeS; rw [if_pos c, hS1, hCC])
  have HNo : Hid (deE X.S id ≠ 0 → xdeS X id = ⟨S1, X.L⟩) := Lib.hid (fun c => by unfold xdeS; rw [if_neg c, hS1, de_no c])
  have HKk := Lib.hid (And.intro kS kF)
  rw [← hS1] at HDe
  obtain ⟨E, hE⟩ : ∃ E, E = deE X.S id := ⟨_, rfl⟩
  rw [← hE] at HDe HYes HNo ⊢
  clear h0 h hW hB hS hfi hcn hCC hn hS1 hE hC hF hbd hws hid kS kF hLl
  go_enter Tryz.func29, Tryz.ntmps29
  go_wp2_with fail
  refine HEnt.out.mono ?_
  rintro e w1 ⟨rfl, rfl⟩
  go_wp2_with fail
  refine HDe.out.mono ?_
  rintro e w1 ⟨rfl, hp⟩
  have HP := Lib.hid hp
  clear hp c0 c1 hg HDe HEnt
  obtain ⟨c0, c1, hg⟩ := HP.out.reads
  by_cases hE : E = 0
  · have HY1 := Lib.hid (HYes.out hE)
    clear HYes HNo
    subst hE
    have HPd : Hid (LPS SB FB w w1.drew g gs gf F ⟨S1, X.L⟩) := Lib.hid (LPS.keep HKk.out.1 HKk.out.2 HP.out (drew_below _))
    go_wp2
    refine wp_region_held_drew (S := fun w' => w'.cell? ⟨g, 0, none⟩ = some (.pointer (some ⟨gs, 0, none⟩)) ∧ w'.cell? ⟨g, 1, none⟩ = some (.pointer (some ⟨gf, 0, none⟩))) (by kernel_rfl) (⟨c0, c1⟩) (fun hHeld => ?_)
    refine tk 0 hHeld ?_
    refine tk 1 hHeld ?_
    refine tk 2 hHeld ?_
    refine tk 3 hHeld ?_
    refine tk 4 hHeld ?_
    refine tk 5 hHeld ?_
    refine tk 6 hHeld ?_
    refine tk 7 hHeld ?_
    refine tk 8 hHeld ?_
    refine rd 9 (fun K hK => ?_)
    go_simp
    go_at_call 66
    refine (HDr.out _ HPd.out).mono ?_
    rintro e w2 ⟨a, cap, Fs2, rfl, row, hs2, haw, hp, hk⟩
    have HT := Lib.hid (HTo.out w2 Fs2 a cap hs2 row haw)
    have HK := Lib.hid hk
    have HR2 := Lib.hid hp.reads
    clear row hs2 haw hp hk HP HPd HDr HTo
    go_wp2_with fail
    refine hK.out _ _ (⟨HR2.out.1, HR2.out.2.1⟩) (fun hHeld => ?_)
    clear hK K
    refine rd 10 (fun K hK => ?_)
    go_simp
    go_at_call 65
    refine HT.out.mono ?_
    rintro e w3 ⟨⟨z, rfl⟩, hch⟩
    have HL3 := Lib.hid (HK.out _ _ hch)
    clear hch
    go_wp2_with fail
    refine hK.out _ _ (⟨HL3.out.reads.1, HL3.out.reads.2.1⟩) (fun hHeld => ?_)
    clear hK K
    refine wpAnyH_done (by kernel_rfl) ?_ _
    clear hHeld
    have HD := Lib.hid HL3.out.done
    clear HK HT HL3 HR2 c0 c1 hg
    go_wp2
    go_ret
    exact ⟨rfl, by rw [HY1.out]; exact HD.out⟩
  · have HD : Hid (ChB (LXB SB FB) w w1 g F (xdeS X id)) := Lib.hid (by rw [HNo.out hE]; exact HP.out.done)
    clear HP HDr HTo HYes HNo
    go_wp2
    go_ret
    exact ⟨rfl, HD.out⟩
set_option maxHeartbeats 4000000 in
set_option maxRecDepth 100000 in
theorem ladopt11_any (hC : SCx SB) (hF : FCx FB) (hL : SL SB) {w : World} {g : Nat} {F : Nat → Prop} {X : Sc} (h0 : LXB SB FB w g F X) (hW : WX X) (hB : BSc X 900) (c p : Int) (hrc : Rg c) (hrp : Rg p) :
    Calls Tryz.prog 49 #[.pointer (some ⟨g, 0, none⟩), .int .i64 c, .int .i64 p] w fun e w' => e = .returned (.int .i64 (xadE X c p)) ∧ ChB (LXB SB FB) w w' g F (xadS X c p) := by
  have kS := hC.kb
  have kF := hF.kb
  have hKX := kb_lxb kS kF
  obtain ⟨gs, gf, h⟩ := h0.open_
  obtain ⟨Fs, hfi, _, hS⟩ := h.withS kS kF
  obtain ⟨pp, hpp⟩ := hL w gs Fs X.S (hS w (Below.refl _ _)).1
  have HRd : Hid (∀ u, Below w.heap.size w u → u.cell? ⟨g, 0, none⟩ = some (.pointer (some ⟨gs, 0, none⟩)) ∧ u.cell? ⟨g, 1, none⟩ = some (.pointer (some ⟨gf, 0, none⟩)) ∧ g < u.heap.size ∧ u.cell? ⟨gs, 0, none⟩ = some (.pointer (some ⟨pp, 0, none⟩)) ∧ gs < u.heap.size) := Lib.hid (fun u q => by
    obtain ⟨a1, a2, a3⟩ := (h.keep kS kF q).reads
    exact ⟨a1, a2, a3, (hpp u q).1, (hpp u q).2.1⟩)
  have hLl : X.L.length ≤ 900 := hB.len
  obtain ⟨lc, hlc⟩ : ∃ b, b = liveS X.S c := ⟨_, rfl⟩
  obtain ⟨lp, hlp⟩ : ∃ b, b = liveS X.S p := ⟨_, rfl⟩
  have HL1 : Hid (∀ u, Below w.heap.size w u → Calls Tryz.prog 61 #[.pointer (some ⟨pp, 0, none⟩), .int .i64 c] u fun e w' => e = .returned (.bool lc) ∧ Below u.heap.size u w') := Lib.hid (fun u q => by rw [hlc]; exact (hpp u q).2.2 c)
  have HL2 : Hid (∀ u, Below w.heap.size w u → Calls Tryz.prog 61 #[.pointer (some ⟨pp, 0, none⟩), .int .i64 p] u fun e w' => e = .returned (.bool lp) ∧ Below u.heap.size u w') := Lib.hid (fun u q => by rw [hlp]; exact (hpp u q).2.2 p)
  have HE : Hid (xadE X c p = if lc && lp then fsetE X.L c p else 4) := Lib.hid (by rw [hlc, hlp]; rfl)
  obtain ⟨E, hE⟩ : ∃ E, E = fsetE X.L c p := ⟨_, rfl⟩
  have HSet : Hid (∀ u, Below w.heap.size w u → Calls Tryz.prog 63 #[.pointer (some ⟨gf, 0, none⟩), .int .i64 c, .int .i64 p] u fun e w' => e = .returned (.int .i64 E) ∧ LPS SB FB w w' g gs gf F ⟨X.S, setS9 X.L c p⟩) := Lib.hid (fun u q => by
    obtain ⟨Ff, _, _, hFf⟩ := h.withF kS kF
    exact (hF.set u gf Ff X.L c p hW.wf (show X.L.length ≤ 1000 by omega) (hFf u q).1 hrc hrp).mono fun e w' k => ⟨by rw [k.1, hE], ((hFf u q).2 _ _ k.2).1⟩)
  have HTo : Hid (∀ u L', LPS SB FB w u g gs gf F ⟨X.S, L'⟩ → Calls Tryz.prog 65 #[.pointer (some ⟨gs, 0, none⟩), .slice (some ⟨u.heap.size, 0, none⟩) 1 1] (u.alloc (.cells #[.int .i64 c] 81)) fun e w' => (∃ z : Int, e = .returned (.int .i64 z)) ∧ LPS SB FB w w' g gs gf F ⟨toS X.S [c], L'⟩) := Lib.hid (fun u L' k => by
    obtain ⟨Fs, hfi, _, hS⟩ := k.withS kS kF
    have hal := alloc_below u (.cells #[.int .i64 c] 81)
    exact (hC.touch _ gs Fs X.S (some ⟨u.heap.size, 0, none⟩) 1 1 [c] hW.ws (hB.bd.mono (by omega)) (hS _ hal).1 (by omega) (row1 _ _ _) (aw_new2 hfi)).mono fun e w' q => ⟨⟨_, q.1⟩, (hS _ hal).2 _ _ q.2⟩)
  have HSt : Hid (∀ u, Below w.heap.size w u → ChB (LXB SB FB) w u g F X) := Lib.hid (fun u q => ChB.still hKX h0 q)
  have HX : Hid (xadE X c p = 0 → xadS X c p = ⟨toS X.S [c], setS9 X.L c p⟩) := Lib.hid (fun q => by unfold xadS; rw [if_pos q])
  have HXn : Hid (xadE X c p ≠ 0 → xadS X c p = X) := Lib.hid (fun q => by unfold xadS; rw [if_neg q])
  have HSn : Hid (E ≠ 0 → setS9 X.L c p = X.L) := Lib.hid (fun q => by unfold setS9; rw [if_neg (by rw [← hE]; exact q)])
  clear h0 h hW hB hlc hlp hLl hC hF hL kS kF hKX hS hfi hpp hrc hrp
  rw [← hE] at HE
  clear hE
  obtain ⟨c0, c1, hg, d0, hgs⟩ := HRd.out w (Below.refl _ _)
  go_enter Tryz.func49, Tryz.ntmps49
  go_wp2_with fail
  refine (HL1.out _ (Below.refl _ _)).mono ?_
  rintro e w1 ⟨rfl, b1⟩
  have HB := Lib.hid b1
  clear b1 c0 c1 hg d0 hgs HL1
  obtain ⟨c0, c1, hg, d0, hgs⟩ := HRd.out w1 HB.out
  cases lc with
  | false =>
    have e1 : xadE X c p = 4 := by rw [HE.out]; rfl
    have HD : Hid (ChB (LXB SB FB) w w1 g F (xadS X c p)) := Lib.hid (by rw [HXn.out (by rw [e1]; decide)]; exact HSt.out w1 HB.out)
    have HE1 := Lib.hid e1
    clear e1 HE HX HXn HSn HTo HSet HSt HL2 HRd
    go_wp2
    go_ret
    exact ⟨by rw [HE1.out]; rfl, HD.out⟩
  | true =>
    go_wp2_with fail
    refine (HL2.out _ HB.out).mono ?_
    rintro e w2 ⟨rfl, b2⟩
    replace HB := Lib.hid (bthen HB.out b2)
    clear b2 c0 c1 hg d0 hgs HL2
    obtain ⟨c0, c1, hg, d0, hgs⟩ := HRd.out w2 HB.out
    cases lp with
    | false =>
      have e1 : xadE X c p = 4 := by rw [HE.out]; rfl
      have HD : Hid (ChB (LXB SB FB) w w2 g F (xadS X c p)) := Lib.hid (by rw [HXn.out (by rw [e1]; decide)]; exact HSt.out w2 HB.out)
      have HE1 := Lib.hid e1
      clear e1 HE HX HXn HSn HTo HSet HSt HRd
      go_wp2
      go_ret
      exact ⟨by rw [HE1.out]; rfl, HD.out⟩
    | true =>
      have HE1 : Hid (xadE X c p = E) := Lib.hid (by rw [HE.out]; rfl)
      clear HE HSt
      go_wp2_with fail
      refine (HSet.out _ HB.out).mono ?_
      rintro e w3 ⟨rfl, hp⟩
      have HP := Lib.hid hp
      clear hp c0 c1 hg d0 hgs HSet HRd HB
      obtain ⟨c0, c1, hg⟩ := HP.out.reads
      by_cases hE : E = 0
      · have HX1 := Lib.hid (HX.out (HE1.out.trans hE))
        subst hE
        have HT := Lib.hid (HTo.out _ _ HP.out)
        clear HTo HP HXn HSn HX
        go_wp2_with fail
        refine HT.out.mono ?_
        rintro e w4 ⟨⟨z, rfl⟩, hp⟩
        have HD : Hid (ChB (LXB SB FB) w w4 g F (xadS X c p)) := Lib.hid (by rw [HX1.out]; exact hp.done)
        clear hp HT HX1
        go_wp2
        go_ret
        exact ⟨by rw [HE1.out]; rfl, HD.out⟩
      · have HD : Hid (ChB (LXB SB FB) w w3 g F (xadS X c p)) := Lib.hid (by
          rw [HXn.out (by rw [HE1.out]; exact hE)]
          have := HP.out.done
          rw [HSn.out hE] at this
          exact this)
        clear HTo HP HXn HSn HX
        go_wp2
        go_ret
        exact ⟨by rw [HE1.out]; rfl, HD.out⟩
set_option maxHeartbeats 4000000 in
set_option maxRecDepth 100000 in
theorem lfree11_any (hC : SCx SB) (hF : FCx FB) (hL : SL SB) {w : World} {g : Nat} {F : Nat → Prop} {X : Sc} (h0 : LXB SB FB w g F X) (hW : WX X) (hB : BSc X 900) (c : Int) (hrc : Rg c) :
    Calls Tryz.prog 50 #[.pointer (some ⟨g, 0, none⟩), .int .i64 c] w fun e w' => e = .returned (.int .i64 (xfrE X c)) ∧ ChB (LXB SB FB) w w' g F (xfrS X c) := by
  have kS := hC.kb
  have kF := hF.kb
  have hKX := kb_lxb kS kF
  obtain ⟨gs, gf, h⟩ := h0.open_
  obtain ⟨Fs, hfi, _, hS⟩ := h.withS kS kF
  obtain ⟨pp, hpp⟩ := hL w gs Fs X.S (hS w (Below.refl _ _)).1
  have HRd : Hid (∀ u, Below w.heap.size w u → u.cell? ⟨g, 0, none⟩ = some (.pointer (some ⟨gs, 0, none⟩)) ∧ u.cell? ⟨g, 1, none⟩ = some (.pointer (some ⟨gf, 0, none⟩)) ∧ g < u.heap.size ∧ u.cell? ⟨gs, 0, none⟩ = some (.pointer (some ⟨pp, 0, none⟩)) ∧ gs < u.heap.size) := Lib.hid (fun u q => by
    obtain ⟨a1, a2, a3⟩ := (h.keep kS kF q).reads
    exact ⟨a1, a2, a3, (hpp u q).1, (hpp u q).2.1⟩)
  have hLl : X.L.length ≤ 900 := hB.len
  obtain ⟨lc, hlc⟩ : ∃ b, b = liveS X.S c := ⟨_, rfl⟩
  have HL1 : Hid (Calls Tryz.prog 61 #[.pointer (some ⟨pp, 0, none⟩), .int .i64 c] w fun e w' => e = .returned (.bool lc) ∧ Below w.heap.size w w') := Lib.hid (by rw [hlc]; exact (hpp w (Below.refl _ _)).2.2 c)
  have HE : Hid (xfrE X c = if lc then 0 else 4) := Lib.hid (by rw [hlc]; rfl)
  obtain ⟨had, hhad⟩ : ∃ b, b = (parO X.L c).isSome := ⟨_, rfl⟩
  obtain ⟨fn, hfn⟩ : ∃ n : Nat, n = frN X.L [c] := ⟨_, rfl⟩
  have hfh : fn = if had then 1 else 0 := by
    rw [hfn, hhad]
    show (if (parO X.L c).isSome then 1 else 0) + 0 = _
    rw [Nat.add_zero]
  have HFh := Lib.hid hfh
  have HFr : Hid (∀ u, Below w.heap.size w u → Calls Tryz.prog 95 #[.pointer (some ⟨gf, 0, none⟩), .slice (some ⟨u.heap.size, 0, none⟩) 1 1] (u.alloc (.cells #[.int .i64 c] 81)) fun e w' => e = .returned (.int .i64 fn) ∧ LPS SB FB w w' g gs gf F ⟨X.S, freeF X.L c⟩) := Lib.hid (fun u q => by
    obtain ⟨Ff, hffi, _, hFf⟩ := (h.keep kS kF q).withF kS kF
    have hal := alloc_below u (.cells #[.int .i64 c] 81)
    exact (hF.free _ gf Ff X.L (some ⟨u.heap.size, 0, none⟩) 1 1 [c] hW.wf (show X.L.length ≤ 1000 by omega) (hFf _ hal).1 (by omega) (row1 _ _ _) (aw_new2 hffi) (fun x hx => by rw [List.mem_singleton.1 hx]; exact hrc)).mono fun e w' k => ⟨by rw [k.1, hfn], ((hFf _ hal).2 _ _ k.2).1⟩)
  have HTo : Hid (∀ u L', LPS SB FB w u g gs gf F ⟨X.S, L'⟩ → Calls Tryz.prog 65 #[.pointer (some ⟨gs, 0, none⟩), .slice (some ⟨u.heap.size, 0, none⟩) 1 1] (u.alloc (.cells #[.int .i64 c] 81)) fun e w' => (∃ z : Int, e = .returned (.int .i64 z)) ∧ LPS SB FB w w' g gs gf F ⟨toS X.S [c], L'⟩) := Lib.hid (fun u L' k => by
    obtain ⟨Fs, hfi, _, hS⟩ := k.withS kS kF
    have hal := alloc_below u (.cells #[.int .i64 c] 81)
    exact (hC.touch _ gs Fs X.S (some ⟨u.heap.size, 0, none⟩) 1 1 [c] hW.ws (hB.bd.mono (by omega)) (hS _ hal).1 (by omega) (row1 _ _ _) (aw_new2 hfi)).mono fun e w' q => ⟨⟨_, q.1⟩, (hS _ hal).2 _ _ q.2⟩)
  have HSt : Hid (lc = false → ∀ u, Below w.heap.size w u → ChB (LXB SB FB) w u g F (xfrS X c)) := Lib.hid (fun q u b => by
    have e : xfrS X c = X := by unfold xfrS; rw [← hlc, q]; rfl
    rw [e]
    exact ChB.still hKX h0 b)
  have HX : Hid (lc = true → xfrS X c = ⟨if had then toS X.S [c] else X.S, freeF X.L c⟩) := Lib.hid (fun q => by unfold xfrS; rw [← hlc, q, hhad]; rfl)
  clear h0 h hW hB hlc hhad hLl hC hF hL kS kF hKX hS hfi hpp hrc hfn hfh
  obtain ⟨c0, c1, hg, d0, hgs⟩ := HRd.out w (Below.refl _ _)
  go_enter Tryz.func50, Tryz.ntmps50
  go_wp2_with fail
  refine HL1.out.mono ?_
  rintro e w1 ⟨rfl, b1⟩
  have HB := Lib.hid b1
  clear b1 c0 c1 hg d0 hgs HL1
  obtain ⟨c0, c1, hg, d0, hgs⟩ := HRd.out w1 HB.out
  cases lc with
  | false =>
    have HD := Lib.hid (HSt.out rfl w1 HB.out)
    have HE1 : Hid (xfrE X c = 4) := Lib.hid (by rw [HE.out]; rfl)
    clear HSt HE HX HTo HFr HRd
    go_wp2
    go_ret
    exact ⟨by rw [HE1.out]; rfl, HD.out⟩
  | true =>
    have HE1 : Hid (xfrE X c = 0) := Lib.hid (by rw [HE.out]; rfl)
    have HX1 := Lib.hid (HX.out rfl)
    clear HE HSt HX
    go_wp2_with fail
    refine (HFr.out w1 HB.out).mono ?_
    rintro e w2 ⟨rfl, hp⟩
    have HP := Lib.hid hp
    clear hp c0 c1 hg d0 hgs HFr HRd HB
    obtain ⟨c0, c1, hg⟩ := HP.out.reads
    cases had with
    | false =>
      have e0 : fn = 0 := HFh.out
      subst e0
      have HD : Hid (ChB (LXB SB FB) w w2 g F (xfrS X c)) := Lib.hid (by rw [HX1.out]; exact HP.out.done)
      clear HTo HP HX1 HFh
      go_wp2
      go_ret
      exact ⟨by rw [HE1.out]; rfl, HD.out⟩
    | true =>
      have e0 : fn = 1 := HFh.out
      subst e0
      have HT := Lib.hid (HTo.out _ _ HP.out)
      clear HTo HP HFh
      go_wp2_with fail
      refine HT.out.mono ?_
      rintro e w3 ⟨⟨z, rfl⟩, hp⟩
      have HD : Hid (ChB (LXB SB FB) w w3 g F (xfrS X c)) := Lib.hid (by rw [HX1.out]; exact hp.done)
      clear hp HT HX1
      go_wp2
      go_ret
      exact ⟨by rw [HE1.out]; rfl, HD.out⟩
end
theorem nx_flow (n : Nd) : NXs (cNd n) 205 := ⟨rfl, by kernel_rfl, by kernel_rfl, all_oneCell_toArray (cNd_one n)⟩
set_option maxHeartbeats 8000000 in
set_option maxRecDepth 100000 in
theorem lnode_r4 {u0 u2 u3 u4 u5 u7 u8 u9 u10 u11 u12 u13 u14 u15 u16 u17 u18 u19 u20 u21 u22 u23 u24 u25 u26 u27 u28 u29 u30 u31 u32 u33 u34 u35 u36 u37 u38 u39 u40 u41 u42 u43 : Value} {Q : Exit → Go.Act → World → Prop} {w : World} {g6 : Nat} {id hs : Int} {hb : Bool} {XS X1 : List Value}
    (hQ : ∀ c a d v w, Q (.panic c) (a.put d v) w → Q (.panic c) a w)
    (hS : ∀ W, Below w.heap.size w W → W.cell? ⟨g6, 0, none⟩ = some (.int .i64 hs))
    (h1 : ∀ W, Calls Tryz.prog 194 #[] W fun e w' => e = .returned (.agg XS.toArray) ∧ Below W.heap.size W w')
    (h5 : ∀ W a, Row W a 1 [4] → Calls Tryz.prog 195 #[.int .i64 hs, .slice a 1 1] W fun e w' => e = .returned (.bool hb) ∧ W = w')
    (hbd : ∀ W, (Instr.build 205 #[(0, .int .i64 id), (1, .int .i64 (-1)), (2, .agg XS.toArray), (3, .bool hb)]).run Tryz.prog W = .ok (.agg X1.toArray) W)
    (hX1 : NXs X1 205)
    (hk : ∀ W' a8 a4, Below w.heap.size w W' → Blk W' a8 205 X1.toArray → w.heap.size ≤ a8 → Q .normal { tmps := #[u0, .int .i64 id, u2, u3, u4, u5, .pointer (some ⟨g6, 0, none⟩), u7, .pointer (some ⟨a8, 0, none⟩), u9, u10, u11, u12, u13, u14, u15, u16, u17, u18, u19, .int .i64 id, .agg XS.toArray, .pointer (some ⟨g6, 0, none⟩), .int .i64 hs, .slice (some ⟨a4, 0, none⟩) 1 1, .bool hb, .agg X1.toArray, u27, u28, u29, u30, u31, u32, u33, u34, u35, u36, u37, u38, u39, u40, u41, u42, u43], defers := [] } W') :
    (Code.region 4 #[{ dst := some 20, op := Op.move (Operand.tmp 1), type := 81, pos := "scene.go:128", after := #[], guard := none }, { dst := some 21, op := Op.call { callee := Callee.value (Operand.func 194), args := #[], argTypes := #[] }, type := 46, pos := "scene.go:128", after := #[], guard := none }, { dst := some 22, op := Op.fieldAddr 52 (Operand.tmp 6) 0, type := 0, pos := "scene.go:128", after := #[], guard := none }, { dst := some 23, op := Op.load 43 (Operand.tmp 22), type := 43, pos := "scene.go:128", after := #[{ on := 2, ground := Ground.data }], guard := none }, { dst := some 24, op := Op.buildSlice 53 1 #[(0, Operand.const (Value.int IntKind.i64 4))], type := 53, pos := "scene.go:128", after := #[], guard := none }, { dst := some 25, op := Op.call { callee := Callee.value (Operand.func 195), args := #[Operand.tmp 23, Operand.tmp 24], argTypes := #[43, 53] }, type := 4, pos := "scene.go:128", after := #[{ on := 3, ground := Ground.data }, { on := 4, ground := Ground.data }, { on := 1, ground := Ground.chain }], guard := none }, { dst := some 26, op := Op.build 205 #[(0, Operand.tmp 20), (1, Operand.const (Value.int IntKind.i64 (-1))), (2, Operand.tmp 21), (3, Operand.tmp 25)], type := 205, pos := "scene.go:128", after := #[{ on := 0, ground := Ground.data }, { on := 1, ground := Ground.data }, { on := 5, ground := Ground.data }], guard := none }, { dst := some 8, op := Op.alloc 205, type := 0, pos := "scene.go:128", after := #[], guard := none }, { dst := none, op := Op.store 205 (Operand.tmp 8) (Operand.tmp 26), type := 0, pos := "scene.go:128", after := #[{ on := 7, ground := Ground.data }, { on := 6, ground := Ground.data }, { on := 5, ground := Ground.chain }, { on := 0, ground := Ground.phase }, { on := 1, ground := Ground.phase }, { on := 2, ground := Ground.phase }, { on := 3, ground := Ground.phase }, { on := 4, ground := Ground.phase }, { on := 5, ground := Ground.phase }, { on := 6, ground := Ground.phase }, { on := 7, ground := Ground.phase }], guard := none }] true).wp Tryz.prog Q { tmps := #[u0, .int .i64 id, u2, u3, u4, u5, .pointer (some ⟨g6, 0, none⟩), u7, u8, u9, u10, u11, u12, u13, u14, u15, u16, u17, u18, u19, u20, u21, u22, u23, u24, u25, u26, u27, u28, u29, u30, u31, u32, u33, u34, u35, u36, u37, u38, u39, u40, u41, u42, u43], defers := [] } w := by
  have HK := Lib.hid hk
  have HS := Lib.hid hS
  have H1 := Lib.hid h1
  have H5 := Lib.hid h5
  have HBd := Lib.hid hbd
  have HX1 := Lib.hid hX1
  clear hk hS h1 h5 hbd hX1
  refine wp_region_held_drew (S := fun w' => w'.cell? ⟨g6, 0, none⟩ = some (.int .i64 hs)) (by kernel_rfl) (HS.out _ (drew_below _)) (fun hHeld => ?_)
  refine tk 0 hHeld ?_ (hQ := fun c a w h => hQ c a _ _ w h)
  refine tk 2 hHeld ?_ (hQ := fun c a w h => hQ c a _ _ w h)
  refine tk 3 hHeld ?_ (hQ := fun c a w h => hQ c a _ _ w h)
  refine fin (fun W => Below w.heap.size w W) (drew_below _) ?_
  clear hHeld
  rintro y0 hb0
  have HB0 := Lib.hid hb0
  clear hb0
  have hHeld := HS.out _ HB0.out
  refine wpAnyH_ready (rs := [1, 4, 7]) (by kernel_rfl) (by simp) ?_
  refine AllReadyH.cons rfl (fun K hK => ?_) (AllReadyH.cons rfl (fun K hK => ?_) (AllReadyH.cons rfl (fun K hK => ?_) AllReadyH.nil))
  · skip
    go_simp
    go_at_call 194
    refine (H1.out _).mono ?_
    rintro e x0 ⟨rfl, b1⟩
    go_wp2_with fail
    refine hK.out _ _ (HS.out _ (bthen HB0.out b1)) (fun hHeld => ?_)
    clear hK K hHeld
    refine fin (fun W => Below w.heap.size w W) (bthen HB0.out b1) ?_
    clear HB0
    rintro y1 hb0
    have HB0 := Lib.hid hb0
    clear hb0
    have hHeld := HS.out _ HB0.out
    clear b1
    refine wpAnyH_ready (rs := [4, 7]) (by kernel_rfl) (by simp) ?_
    refine AllReadyH.cons rfl (fun K hK => ?_) (AllReadyH.cons rfl (fun K hK => ?_) AllReadyH.nil)
    · skip
      go_simp
      refine hK.out _ _ (HS.out _ (balloc HB0.out _)) (fun hHeld => ?_)
      clear hK K hHeld
      refine fin (fun W => Below w.heap.size w W ∧ Row W (some ⟨y1.heap.size, 0, none⟩) 1 [4]) ⟨balloc HB0.out _, row1 _ _ _⟩ ?_
      clear HB0
      obtain ⟨a4, hgen⟩ : ∃ n, n = y1.heap.size := ⟨_, rfl⟩
      rw [← hgen]
      clear hgen
      rintro y2 ⟨hb0, r4⟩
      have HB0 := Lib.hid hb0
      have R4 := Lib.hid r4
      clear hb0 r4
      have hHeld := HS.out _ HB0.out
      refine wpAnyH_ready (rs := [5, 7]) (by kernel_rfl) (by simp) ?_
      refine AllReadyH.cons rfl (fun K hK => ?_) (AllReadyH.cons rfl (fun K hK => ?_) AllReadyH.nil)
      · skip
        go_simp
        go_at_call 195
        refine (H5.out _ _ R4.out).mono ?_
        rintro e x2 ⟨rfl, rfl⟩
        go_wp2_with fail
        refine hK.out _ _ (HS.out _ HB0.out) (fun hHeld => ?_)
        clear hK K
        refine wpAnyH_take (i := 6) (v := .agg X1.toArray) rfl (by kernel_rfl) (by kernel_rfl) (by kernel_rfl) (fun c a w h => hQ c a _ _ w h) (yieldsIf_bld4 (by rfl) 205 (.tmp 20) (.const (.int .i64 (-1))) (.tmp 21) (.tmp 25) rfl (.int .i64 id) (.int .i64 (-1)) (.agg XS.toArray) (.bool hb) (.agg X1.toArray) rfl rfl rfl rfl HBd.out) hHeld ?_
        simp only [Act.put, List.getElem_toArray, List.getElem_cons_zero, List.getElem_cons_succ, List.setIfInBounds_toArray, List.set_cons_zero, List.set_cons_succ]
        refine rd 7 (fun K hK => ?_)
        have h8 : w.heap.size ≤ y2.heap.size := HB0.out.size
        go_simp
        refine hK.out _ _ (HS.out _ (balloc HB0.out _)) (fun hHeld => ?_)
        clear hK K hHeld
        refine fin (fun W => Below w.heap.size w W ∧ Blk W y2.heap.size 205 (cNd n0d).toArray ∧ Row W (some ⟨a4, 0, none⟩) 1 [4]) ⟨balloc HB0.out _, Blk.new _ _ _, row_keep R4.out (alloc_below _ _)⟩ ?_
        clear HB0
        clear R4
        obtain ⟨a8, hgen⟩ : ∃ n, n = y2.heap.size := ⟨_, rfl⟩
        rw [← hgen] at h8 ⊢
        clear hgen
        rintro y3 ⟨hb0, k8, r4⟩
        have HB0 := Lib.hid hb0
        have K8 := Lib.hid k8
        have R4 := Lib.hid r4
        clear hb0 k8 r4
        have hHeld := HS.out _ HB0.out
        refine rd 8 (fun K hK => ?_)
        try rw [if_pos (by rfl)]
        refine wp_store_mid 205 (.tmp 8) (.tmp 26) rfl a8 0 X1.toArray rfl rfl (blk_there K8.out (by rw [List.size_toArray, HX1.out.len]; exact Nat.le_refl 15)) HX1.out.sizea HX1.out.onea ?_
        have HB9 : Hid (Below w.heap.size w (y3.setCells a8 0 X1)) := Lib.hid (below_setCells X1 HB0.out h8)
        refine hK.out _ _ (HS.out _ HB9.out) (fun hHeld => ?_)
        clear hK K
        refine wpAnyH_done (by kernel_rfl) ?_ _
        clear hHeld
        exact HK.out _ a8 a4 HB9.out (blk_over K8.out (by rw [HX1.out.len]; rfl)) h8
      · skip
        have h8 : w.heap.size ≤ y2.heap.size := HB0.out.size
        go_simp
        refine hK.out _ _ (HS.out _ (balloc HB0.out _)) (fun hHeld => ?_)
        clear hK K hHeld
        refine fin (fun W => Below w.heap.size w W ∧ Blk W y2.heap.size 205 (cNd n0d).toArray ∧ Row W (some ⟨a4, 0, none⟩) 1 [4]) ⟨balloc HB0.out _, Blk.new _ _ _, row_keep R4.out (alloc_below _ _)⟩ ?_
        clear HB0
        clear R4
        obtain ⟨a8, hgen⟩ : ∃ n, n = y2.heap.size := ⟨_, rfl⟩
        rw [← hgen] at h8 ⊢
        clear hgen
        rintro y4 ⟨hb0, k8, r4⟩
        have HB0 := Lib.hid hb0
        have K8 := Lib.hid k8
        have R4 := Lib.hid r4
        clear hb0 k8 r4
        have hHeld := HS.out _ HB0.out
        refine rd 5 (fun K hK => ?_)
        go_simp
        go_at_call 195
        refine (H5.out _ _ R4.out).mono ?_
        rintro e x4 ⟨rfl, rfl⟩
        go_wp2_with fail
        refine hK.out _ _ (HS.out _ HB0.out) (fun hHeld => ?_)
        clear hK K
        refine wpAnyH_take (i := 6) (v := .agg X1.toArray) rfl (by kernel_rfl) (by kernel_rfl) (by kernel_rfl) (fun c a w h => hQ c a _ _ w h) (yieldsIf_bld4 (by rfl) 205 (.tmp 20) (.const (.int .i64 (-1))) (.tmp 21) (.tmp 25) rfl (.int .i64 id) (.int .i64 (-1)) (.agg XS.toArray) (.bool hb) (.agg X1.toArray) rfl rfl rfl rfl HBd.out) hHeld ?_
        simp only [Act.put, List.getElem_toArray, List.getElem_cons_zero, List.getElem_cons_succ, List.setIfInBounds_toArray, List.set_cons_zero, List.set_cons_succ]
        refine rd 8 (fun K hK => ?_)
        try rw [if_pos (by rfl)]
        refine wp_store_mid 205 (.tmp 8) (.tmp 26) rfl a8 0 X1.toArray rfl rfl (blk_there K8.out (by rw [List.size_toArray, HX1.out.len]; exact Nat.le_refl 15)) HX1.out.sizea HX1.out.onea ?_
        have HB9 : Hid (Below w.heap.size w (y4.setCells a8 0 X1)) := Lib.hid (below_setCells X1 HB0.out h8)
        refine hK.out _ _ (HS.out _ HB9.out) (fun hHeld => ?_)
        clear hK K
        refine wpAnyH_done (by kernel_rfl) ?_ _
        clear hHeld
        exact HK.out _ a8 a4 HB9.out (blk_over K8.out (by rw [HX1.out.len]; rfl)) h8
    · skip
      have h8 : w.heap.size ≤ y1.heap.size := HB0.out.size
      go_simp
      refine hK.out _ _ (HS.out _ (balloc HB0.out _)) (fun hHeld => ?_)
      clear hK K hHeld
      refine fin (fun W => Below w.heap.size w W ∧ Blk W y1.heap.size 205 (cNd n0d).toArray) ⟨balloc HB0.out _, Blk.new _ _ _⟩ ?_
      clear HB0
      obtain ⟨a8, hgen⟩ : ∃ n, n = y1.heap.size := ⟨_, rfl⟩
      rw [← hgen] at h8 ⊢
      clear hgen
      rintro y5 ⟨hb0, k8⟩
      have HB0 := Lib.hid hb0
      have K8 := Lib.hid k8
      clear hb0 k8
      have hHeld := HS.out _ HB0.out
      refine rd 4 (fun K hK => ?_)
      go_simp
      refine hK.out _ _ (HS.out _ (balloc HB0.out _)) (fun hHeld => ?_)
      clear hK K hHeld
      refine fin (fun W => Below w.heap.size w W ∧ Blk W a8 205 (cNd n0d).toArray ∧ Row W (some ⟨y5.heap.size, 0, none⟩) 1 [4]) ⟨balloc HB0.out _, K8.out.keep (alloc_below _ _), row1 _ _ _⟩ ?_
      clear HB0
      clear K8
      obtain ⟨a4, hgen⟩ : ∃ n, n = y5.heap.size := ⟨_, rfl⟩
      rw [← hgen]
      clear hgen
      rintro y6 ⟨hb0, k8, r4⟩
      have HB0 := Lib.hid hb0
      have K8 := Lib.hid k8
      have R4 := Lib.hid r4
      clear hb0 k8 r4
      have hHeld := HS.out _ HB0.out
      refine rd 5 (fun K hK => ?_)
      go_simp
      go_at_call 195
      refine (H5.out _ _ R4.out).mono ?_
      rintro e x6 ⟨rfl, rfl⟩
      go_wp2_with fail
      refine hK.out _ _ (HS.out _ HB0.out) (fun hHeld => ?_)
      clear hK K
      refine wpAnyH_take (i := 6) (v := .agg X1.toArray) rfl (by kernel_rfl) (by kernel_rfl) (by kernel_rfl) (fun c a w h => hQ c a _ _ w h) (yieldsIf_bld4 (by rfl) 205 (.tmp 20) (.const (.int .i64 (-1))) (.tmp 21) (.tmp 25) rfl (.int .i64 id) (.int .i64 (-1)) (.agg XS.toArray) (.bool hb) (.agg X1.toArray) rfl rfl rfl rfl HBd.out) hHeld ?_
      simp only [Act.put, List.getElem_toArray, List.getElem_cons_zero, List.getElem_cons_succ, List.setIfInBounds_toArray, List.set_cons_zero, List.set_cons_succ]
      refine rd 8 (fun K hK => ?_)
      try rw [if_pos (by rfl)]
      refine wp_store_mid 205 (.tmp 8) (.tmp 26) rfl a8 0 X1.toArray rfl rfl (blk_there K8.out (by rw [List.size_toArray, HX1.out.len]; exact Nat.le_refl 15)) HX1.out.sizea HX1.out.onea ?_
      have HB9 : Hid (Below w.heap.size w (y6.setCells a8 0 X1)) := Lib.hid (below_setCells X1 HB0.out h8)
      refine hK.out _ _ (HS.out _ HB9.out) (fun hHeld => ?_)
      clear hK K
      refine wpAnyH_done (by kernel_rfl) ?_ _
      clear hHeld
      exact HK.out _ a8 a4 HB9.out (blk_over K8.out (by rw [HX1.out.len]; rfl)) h8
  · skip
    go_simp
    refine hK.out _ _ (HS.out _ (balloc HB0.out _)) (fun hHeld => ?_)
    clear hK K hHeld
    refine fin (fun W => Below w.heap.size w W ∧ Row W (some ⟨y0.heap.size, 0, none⟩) 1 [4]) ⟨balloc HB0.out _, row1 _ _ _⟩ ?_
    clear HB0
    obtain ⟨a4, hgen⟩ : ∃ n, n = y0.heap.size := ⟨_, rfl⟩
    rw [← hgen]
    clear hgen
    rintro y7 ⟨hb0, r4⟩
    have HB0 := Lib.hid hb0
    have R4 := Lib.hid r4
    clear hb0 r4
    have hHeld := HS.out _ HB0.out
    refine wpAnyH_ready (rs := [1, 7]) (by kernel_rfl) (by simp) ?_
    refine AllReadyH.cons rfl (fun K hK => ?_) (AllReadyH.cons rfl (fun K hK => ?_) AllReadyH.nil)
    · skip
      go_simp
      go_at_call 194
      refine (H1.out _).mono ?_
      rintro e x7 ⟨rfl, b1⟩
      go_wp2_with fail
      refine hK.out _ _ (HS.out _ (bthen HB0.out b1)) (fun hHeld => ?_)
      clear hK K hHeld
      refine fin (fun W => Below w.heap.size w W ∧ Row W (some ⟨a4, 0, none⟩) 1 [4]) ⟨bthen HB0.out b1, row_keep R4.out b1⟩ ?_
      clear HB0
      clear R4
      rintro y8 ⟨hb0, r4⟩
      have HB0 := Lib.hid hb0
      have R4 := Lib.hid r4
      clear hb0 r4
      have hHeld := HS.out _ HB0.out
      clear b1
      refine wpAnyH_ready (rs := [5, 7]) (by kernel_rfl) (by simp) ?_
      refine AllReadyH.cons rfl (fun K hK => ?_) (AllReadyH.cons rfl (fun K hK => ?_) AllReadyH.nil)
      · skip
        go_simp
        go_at_call 195
        refine (H5.out _ _ R4.out).mono ?_
        rintro e x8 ⟨rfl, rfl⟩
        go_wp2_with fail
        refine hK.out _ _ (HS.out _ HB0.out) (fun hHeld => ?_)
        clear hK K
        refine wpAnyH_take (i := 6) (v := .agg X1.toArray) rfl (by kernel_rfl) (by kernel_rfl) (by kernel_rfl) (fun c a w h => hQ c a _ _ w h) (yieldsIf_bld4 (by rfl) 205 (.tmp 20) (.const (.int .i64 (-1))) (.tmp 21) (.tmp 25) rfl (.int .i64 id) (.int .i64 (-1)) (.agg XS.toArray) (.bool hb) (.agg X1.toArray) rfl rfl rfl rfl HBd.out) hHeld ?_
        simp only [Act.put, List.getElem_toArray, List.getElem_cons_zero, List.getElem_cons_succ, List.setIfInBounds_toArray, List.set_cons_zero, List.set_cons_succ]
        refine rd 7 (fun K hK => ?_)
        have h8 : w.heap.size ≤ y8.heap.size := HB0.out.size
        go_simp
        refine hK.out _ _ (HS.out _ (balloc HB0.out _)) (fun hHeld => ?_)
        clear hK K hHeld
        refine fin (fun W => Below w.heap.size w W ∧ Blk W y8.heap.size 205 (cNd n0d).toArray ∧ Row W (some ⟨a4, 0, none⟩) 1 [4]) ⟨balloc HB0.out _, Blk.new _ _ _, row_keep R4.out (alloc_below _ _)⟩ ?_
        clear HB0
        clear R4
        obtain ⟨a8, hgen⟩ : ∃ n, n = y8.heap.size := ⟨_, rfl⟩
        rw [← hgen] at h8 ⊢
        clear hgen
        rintro y9 ⟨hb0, k8, r4⟩
        have HB0 := Lib.hid hb0
        have K8 := Lib.hid k8
        have R4 := Lib.hid r4
        clear hb0 k8 r4
        have hHeld := HS.out _ HB0.out
        refine rd 8 (fun K hK => ?_)
        try rw [if_pos (by rfl)]
        refine wp_store_mid 205 (.tmp 8) (.tmp 26) rfl a8 0 X1.toArray rfl rfl (blk_there K8.out (by rw [List.size_toArray, HX1.out.len]; exact Nat.le_refl 15)) HX1.out.sizea HX1.out.onea ?_
        have HB9 : Hid (Below w.heap.size w (y9.setCells a8 0 X1)) := Lib.hid (below_setCells X1 HB0.out h8)
        refine hK.out _ _ (HS.out _ HB9.out) (fun hHeld => ?_)
        clear hK K
        refine wpAnyH_done (by kernel_rfl) ?_ _
        clear hHeld
        exact HK.out _ a8 a4 HB9.out (blk_over K8.out (by rw [HX1.out.len]; rfl)) h8
      · skip
        have h8 : w.heap.size ≤ y8.heap.size := HB0.out.size
        go_simp
        refine hK.out _ _ (HS.out _ (balloc HB0.out _)) (fun hHeld => ?_)
        clear hK K hHeld
        refine fin (fun W => Below w.heap.size w W ∧ Blk W y8.heap.size 205 (cNd n0d).toArray ∧ Row W (some ⟨a4, 0, none⟩) 1 [4]) ⟨balloc HB0.out _, Blk.new _ _ _, row_keep R4.out (alloc_below _ _)⟩ ?_
        clear HB0
        clear R4
        obtain ⟨a8, hgen⟩ : ∃ n, n = y8.heap.size := ⟨_, rfl⟩
        rw [← hgen] at h8 ⊢
        clear hgen
        rintro y10 ⟨hb0, k8, r4⟩
        have HB0 := Lib.hid hb0
        have K8 := Lib.hid k8
        have R4 := Lib.hid r4
        clear hb0 k8 r4
        have hHeld := HS.out _ HB0.out
        refine rd 5 (fun K hK => ?_)
        go_simp
        go_at_call 195
        refine (H5.out _ _ R4.out).mono ?_
        rintro e x10 ⟨rfl, rfl⟩
        go_wp2_with fail
        refine hK.out _ _ (HS.out _ HB0.out) (fun hHeld => ?_)
        clear hK K
        refine wpAnyH_take (i := 6) (v := .agg X1.toArray) rfl (by kernel_rfl) (by kernel_rfl) (by kernel_rfl) (fun c a w h => hQ c a _ _ w h) (yieldsIf_bld4 (by rfl) 205 (.tmp 20) (.const (.int .i64 (-1))) (.tmp 21) (.tmp 25) rfl (.int .i64 id) (.int .i64 (-1)) (.agg XS.toArray) (.bool hb) (.agg X1.toArray) rfl rfl rfl rfl HBd.out) hHeld ?_
        simp only [Act.put, List.getElem_toArray, List.getElem_cons_zero, List.getElem_cons_succ, List.setIfInBounds_toArray, List.set_cons_zero, List.set_cons_succ]
        refine rd 8 (fun K hK => ?_)
        try rw [if_pos (by rfl)]
        refine wp_store_mid 205 (.tmp 8) (.tmp 26) rfl a8 0 X1.toArray rfl rfl (blk_there K8.out (by rw [List.size_toArray, HX1.out.len]; exact Nat.le_refl 15)) HX1.out.sizea HX1.out.onea ?_
        have HB9 : Hid (Below w.heap.size w (y10.setCells a8 0 X1)) := Lib.hid (below_setCells X1 HB0.out h8)
        refine hK.out _ _ (HS.out _ HB9.out) (fun hHeld => ?_)
        clear hK K
        refine wpAnyH_done (by kernel_rfl) ?_ _
        clear hHeld
        exact HK.out _ a8 a4 HB9.out (blk_over K8.out (by rw [HX1.out.len]; rfl)) h8
    · skip
      have h8 : w.heap.size ≤ y7.heap.size := HB0.out.size
      go_simp
      refine hK.out _ _ (HS.out _ (balloc HB0.out _)) (fun hHeld => ?_)
      clear hK K hHeld
      refine fin (fun W => Below w.heap.size w W ∧ Blk W y7.heap.size 205 (cNd n0d).toArray ∧ Row W (some ⟨a4, 0, none⟩) 1 [4]) ⟨balloc HB0.out _, Blk.new _ _ _, row_keep R4.out (alloc_below _ _)⟩ ?_
      clear HB0
      clear R4
      obtain ⟨a8, hgen⟩ : ∃ n, n = y7.heap.size := ⟨_, rfl⟩
      rw [← hgen] at h8 ⊢
      clear hgen
      rintro y11 ⟨hb0, k8, r4⟩
      have HB0 := Lib.hid hb0
      have K8 := Lib.hid k8
      have R4 := Lib.hid r4
      clear hb0 k8 r4
      have hHeld := HS.out _ HB0.out
      refine rd 1 (fun K hK => ?_)
      go_simp
      go_at_call 194
      refine (H1.out _).mono ?_
      rintro e x11 ⟨rfl, b1⟩
      go_wp2_with fail
      refine hK.out _ _ (HS.out _ (bthen HB0.out b1)) (fun hHeld => ?_)
      clear hK K hHeld
      refine fin (fun W => Below w.heap.size w W ∧ Blk W a8 205 (cNd n0d).toArray ∧ Row W (some ⟨a4, 0, none⟩) 1 [4]) ⟨bthen HB0.out b1, K8.out.keep b1, row_keep R4.out b1⟩ ?_
      clear HB0
      clear K8
      clear R4
      rintro y12 ⟨hb0, k8, r4⟩
      have HB0 := Lib.hid hb0
      have K8 := Lib.hid k8
      have R4 := Lib.hid r4
      clear hb0 k8 r4
      have hHeld := HS.out _ HB0.out
      clear b1
      refine rd 5 (fun K hK => ?_)
      go_simp
      go_at_call 195
      refine (H5.out _ _ R4.out).mono ?_
      rintro e x12 ⟨rfl, rfl⟩
      go_wp2_with fail
      refine hK.out _ _ (HS.out _ HB0.out) (fun hHeld => ?_)
      clear hK K
      refine wpAnyH_take (i := 6) (v := .agg X1.toArray) rfl (by kernel_rfl) (by kernel_rfl) (by kernel_rfl) (fun c a w h => hQ c a _ _ w h) (yieldsIf_bld4 (by rfl) 205 (.tmp 20) (.const (.int .i64 (-1))) (.tmp 21) (.tmp 25) rfl (.int .i64 id) (.int .i64 (-1)) (.agg XS.toArray) (.bool hb) (.agg X1.toArray) rfl rfl rfl rfl HBd.out) hHeld ?_
      simp only [Act.put, List.getElem_toArray, List.getElem_cons_zero, List.getElem_cons_succ, List.setIfInBounds_toArray, List.set_cons_zero, List.set_cons_succ]
      refine rd 8 (fun K hK => ?_)
      try rw [if_pos (by rfl)]
      refine wp_store_mid 205 (.tmp 8) (.tmp 26) rfl a8 0 X1.toArray rfl rfl (blk_there K8.out (by rw [List.size_toArray, HX1.out.len]; exact Nat.le_refl 15)) HX1.out.sizea HX1.out.onea ?_
      have HB9 : Hid (Below w.heap.size w (y12.setCells a8 0 X1)) := Lib.hid (below_setCells X1 HB0.out h8)
      refine hK.out _ _ (HS.out _ HB9.out) (fun hHeld => ?_)
      clear hK K
      refine wpAnyH_done (by kernel_rfl) ?_ _
      clear hHeld
      exact HK.out _ a8 a4 HB9.out (blk_over K8.out (by rw [HX1.out.len]; rfl)) h8
  · skip
    have h8 : w.heap.size ≤ y0.heap.size := HB0.out.size
    go_simp
    refine hK.out _ _ (HS.out _ (balloc HB0.out _)) (fun hHeld => ?_)
    clear hK K hHeld
    refine fin (fun W => Below w.heap.size w W ∧ Blk W y0.heap.size 205 (cNd n0d).toArray) ⟨balloc HB0.out _, Blk.new _ _ _⟩ ?_
    clear HB0
    obtain ⟨a8, hgen⟩ : ∃ n, n = y0.heap.size := ⟨_, rfl⟩
    rw [← hgen] at h8 ⊢
    clear hgen
    rintro y13 ⟨hb0, k8⟩
    have HB0 := Lib.hid hb0
    have K8 := Lib.hid k8
    clear hb0 k8
    have hHeld := HS.out _ HB0.out
    refine wpAnyH_ready (rs := [1, 4]) (by kernel_rfl) (by simp) ?_
    refine AllReadyH.cons rfl (fun K hK => ?_) (AllReadyH.cons rfl (fun K hK => ?_) AllReadyH.nil)
    · skip
      go_simp
      go_at_call 194
      refine (H1.out _).mono ?_
      rintro e x13 ⟨rfl, b1⟩
      go_wp2_with fail
      refine hK.out _ _ (HS.out _ (bthen HB0.out b1)) (fun hHeld => ?_)
      clear hK K hHeld
      refine fin (fun W => Below w.heap.size w W ∧ Blk W a8 205 (cNd n0d).toArray) ⟨bthen HB0.out b1, K8.out.keep b1⟩ ?_
      clear HB0
      clear K8
      rintro y14 ⟨hb0, k8⟩
      have HB0 := Lib.hid hb0
      have K8 := Lib.hid k8
      clear hb0 k8
      have hHeld := HS.out _ HB0.out
      clear b1
      refine rd 4 (fun K hK => ?_)
      go_simp
      refine hK.out _ _ (HS.out _ (balloc HB0.out _)) (fun hHeld => ?_)
      clear hK K hHeld
      refine fin (fun W => Below w.heap.size w W ∧ Blk W a8 205 (cNd n0d).toArray ∧ Row W (some ⟨y14.heap.size, 0, none⟩) 1 [4]) ⟨balloc HB0.out _, K8.out.keep (alloc_below _ _), row1 _ _ _⟩ ?_
      clear HB0
      clear K8
      obtain ⟨a4, hgen⟩ : ∃ n, n = y14.heap.size := ⟨_, rfl⟩
      rw [← hgen]
      clear hgen
      rintro y15 ⟨hb0, k8, r4⟩
      have HB0 := Lib.hid hb0
      have K8 := Lib.hid k8
      have R4 := Lib.hid r4
      clear hb0 k8 r4
      have hHeld := HS.out _ HB0.out
      refine rd 5 (fun K hK => ?_)
      go_simp
      go_at_call 195
      refine (H5.out _ _ R4.out).mono ?_
      rintro e x15 ⟨rfl, rfl⟩
      go_wp2_with fail
      refine hK.out _ _ (HS.out _ HB0.out) (fun hHeld => ?_)
      clear hK K
      refine wpAnyH_take (i := 6) (v := .agg X1.toArray) rfl (by kernel_rfl) (by kernel_rfl) (by kernel_rfl) (fun c a w h => hQ c a _ _ w h) (yieldsIf_bld4 (by rfl) 205 (.tmp 20) (.const (.int .i64 (-1))) (.tmp 21) (.tmp 25) rfl (.int .i64 id) (.int .i64 (-1)) (.agg XS.toArray) (.bool hb) (.agg X1.toArray) rfl rfl rfl rfl HBd.out) hHeld ?_
      simp only [Act.put, List.getElem_toArray, List.getElem_cons_zero, List.getElem_cons_succ, List.setIfInBounds_toArray, List.set_cons_zero, List.set_cons_succ]
      refine rd 8 (fun K hK => ?_)
      try rw [if_pos (by rfl)]
      refine wp_store_mid 205 (.tmp 8) (.tmp 26) rfl a8 0 X1.toArray rfl rfl (blk_there K8.out (by rw [List.size_toArray, HX1.out.len]; exact Nat.le_refl 15)) HX1.out.sizea HX1.out.onea ?_
      have HB9 : Hid (Below w.heap.size w (y15.setCells a8 0 X1)) := Lib.hid (below_setCells X1 HB0.out h8)
      refine hK.out _ _ (HS.out _ HB9.out) (fun hHeld => ?_)
      clear hK K
      refine wpAnyH_done (by kernel_rfl) ?_ _
      clear hHeld
      exact HK.out _ a8 a4 HB9.out (blk_over K8.out (by rw [HX1.out.len]; rfl)) h8
    · skip
      go_simp
      refine hK.out _ _ (HS.out _ (balloc HB0.out _)) (fun hHeld => ?_)
      clear hK K hHeld
      refine fin (fun W => Below w.heap.size w W ∧ Blk W a8 205 (cNd n0d).toArray ∧ Row W (some ⟨y13.heap.size, 0, none⟩) 1 [4]) ⟨balloc HB0.out _, K8.out.keep (alloc_below _ _), row1 _ _ _⟩ ?_
      clear HB0
      clear K8
      obtain ⟨a4, hgen⟩ : ∃ n, n = y13.heap.size := ⟨_, rfl⟩
      rw [← hgen]
      clear hgen
      rintro y16 ⟨hb0, k8, r4⟩
      have HB0 := Lib.hid hb0
      have K8 := Lib.hid k8
      have R4 := Lib.hid r4
      clear hb0 k8 r4
      have hHeld := HS.out _ HB0.out
      refine rd 1 (fun K hK => ?_)
      go_simp
      go_at_call 194
      refine (H1.out _).mono ?_
      rintro e x16 ⟨rfl, b1⟩
      go_wp2_with fail
      refine hK.out _ _ (HS.out _ (bthen HB0.out b1)) (fun hHeld => ?_)
      clear hK K hHeld
      refine fin (fun W => Below w.heap.size w W ∧ Blk W a8 205 (cNd n0d).toArray ∧ Row W (some ⟨a4, 0, none⟩) 1 [4]) ⟨bthen HB0.out b1, K8.out.keep b1, row_keep R4.out b1⟩ ?_
      clear HB0
      clear K8
      clear R4
      rintro y17 ⟨hb0, k8, r4⟩
      have HB0 := Lib.hid hb0
      have K8 := Lib.hid k8
      have R4 := Lib.hid r4
      clear hb0 k8 r4
      have hHeld := HS.out _ HB0.out
      clear b1
      refine rd 5 (fun K hK => ?_)
      go_simp
      go_at_call 195
      refine (H5.out _ _ R4.out).mono ?_
      rintro e x17 ⟨rfl, rfl⟩
      go_wp2_with fail
      refine hK.out _ _ (HS.out _ HB0.out) (fun hHeld => ?_)
      clear hK K
      refine wpAnyH_take (i := 6) (v := .agg X1.toArray) rfl (by kernel_rfl) (by kernel_rfl) (by kernel_rfl) (fun c a w h => hQ c a _ _ w h) (yieldsIf_bld4 (by rfl) 205 (.tmp 20) (.const (.int .i64 (-1))) (.tmp 21) (.tmp 25) rfl (.int .i64 id) (.int .i64 (-1)) (.agg XS.toArray) (.bool hb) (.agg X1.toArray) rfl rfl rfl rfl HBd.out) hHeld ?_
      simp only [Act.put, List.getElem_toArray, List.getElem_cons_zero, List.getElem_cons_succ, List.setIfInBounds_toArray, List.set_cons_zero, List.set_cons_succ]
      refine rd 8 (fun K hK => ?_)
      try rw [if_pos (by rfl)]
      refine wp_store_mid 205 (.tmp 8) (.tmp 26) rfl a8 0 X1.toArray rfl rfl (blk_there K8.out (by rw [List.size_toArray, HX1.out.len]; exact Nat.le_refl 15)) HX1.out.sizea HX1.out.onea ?_
      have HB9 : Hid (Below w.heap.size w (y17.setCells a8 0 X1)) := Lib.hid (below_setCells X1 HB0.out h8)
      refine hK.out _ _ (HS.out _ HB9.out) (fun hHeld => ?_)
      clear hK K
      refine wpAnyH_done (by kernel_rfl) ?_ _
      clear hHeld
      exact HK.out _ a8 a4 HB9.out (blk_over K8.out (by rw [HX1.out.len]; rfl)) h8
section
variable {SB : World → Nat → (Nat → Prop) → St → Prop} {FB : World → Nat → (Nat → Prop) → FT → Prop}
set_option maxHeartbeats 2000000 in
set_option maxRecDepth 100000 in
theorem lall11_any (hC : SCx SB) (hF : FCx FB) {w : World} {g : Nat} {F : Nat → Prop} {X : Sc} (h0 : LXB SB FB w g F X) (hW : WX X) (hB : BSc X 900) :
    Calls Tryz.prog 44 #[.pointer (some ⟨g, 0, none⟩)] w fun e w' => ∃ v, e = .returned v ∧ LRes w w' (alS X.S) v ∧ Below w.heap.size w w' := by
  have kS := hC.kb
  have kF := hF.kb
  obtain ⟨gs, gf, h⟩ := h0.open_
  obtain ⟨c0, c1, hg⟩ := h.reads
  have HEnt := Lib.hid (lent_any c0)
  obtain ⟨Fs, hfi, _, hS⟩ := h.withS kS kF
  have HCa := Lib.hid (hC.all w gs Fs X.S hW.ws (hB.bd.mono (by omega)) (hS w (Below.refl _ _)).1)
  obtain ⟨L, hL⟩ : ∃ L, L = alS X.S := ⟨_, rfl⟩
  rw [← hL] at HCa ⊢
  clear hL h0 hW hB hC hF kS kF h hfi hS
  go_enter Tryz.func44, Tryz.ntmps44
  go_wp2_with fail
  refine HEnt.out.mono ?_
  rintro e w1 ⟨rfl, rfl⟩
  go_wp2_with fail
  refine HCa.out.mono ?_
  rintro e w1 ⟨v, rfl, ⟨a, cap, rfl, lr, ln⟩, b1⟩
  have HR : Hid (LRes w w1 L (.slice a L.length cap) ∧ Below w.heap.size w w1) := Lib.hid ⟨⟨a, cap, rfl, lr, ln⟩, b1⟩
  clear lr ln b1 HCa HEnt c0 c1 hg
  go_wp2
  go_ret
  exact ⟨_, rfl, HR.out.1, HR.out.2⟩
set_option maxHeartbeats 2000000 in
set_option maxRecDepth 100000 in
theorem lchanged11_any (hC : SCx SB) (hF : FCx FB) {w : World} {g : Nat} {F : Nat → Prop} {X : Sc} (h0 : LXB SB FB w g F X) (hW : WX X) (hB : BSc X 900) (since : Int) :
    Calls Tryz.prog 127 #[.pointer (some ⟨g, 0, none⟩), .int .i64 since] w fun e w' => ∃ v, e = .returned v ∧ LRes w w' (chL X.S since) v ∧ Below w.heap.size w w' := by
  have kS := hC.kb
  have kF := hF.kb
  obtain ⟨gs, gf, h⟩ := h0.open_
  obtain ⟨c0, c1, hg⟩ := h.reads
  have HEnt := Lib.hid (lent_any c0)
  obtain ⟨Fs, hfi, _, hS⟩ := h.withS kS kF
  have HCa := Lib.hid (hC.changed w gs Fs X.S since hW.ws (hB.bd.mono (by omega)) (hS w (Below.refl _ _)).1)
  obtain ⟨L, hL⟩ : ∃ L, L = chL X.S since := ⟨_, rfl⟩
  rw [← hL] at HCa ⊢
  clear hL h0 hW hB hC hF kS kF h hfi hS
  go_enter Tryz.func127, Tryz.ntmps127
  go_wp2_with fail
  refine HEnt.out.mono ?_
  rintro e w1 ⟨rfl, rfl⟩
  go_wp2_with fail
  refine HCa.out.mono ?_
  rintro e w1 ⟨v, rfl, ⟨a, cap, rfl, lr, ln⟩, b1⟩
  have HR : Hid (LRes w w1 L (.slice a L.length cap) ∧ Below w.heap.size w w1) := Lib.hid ⟨⟨a, cap, rfl, lr, ln⟩, b1⟩
  clear lr ln b1 HCa HEnt c0 c1 hg
  go_wp2
  go_ret
  exact ⟨_, rfl, HR.out.1, HR.out.2⟩
set_option maxHeartbeats 2000000 in
set_option maxRecDepth 100000 in
theorem lgone11_any (hC : SCx SB) (hF : FCx FB) {w : World} {g : Nat} {F : Nat → Prop} {X : Sc} (h0 : LXB SB FB w g F X) (hW : WX X) (hB : BSc X 900) (since : Int) :
    Calls Tryz.prog 68 #[.pointer (some ⟨g, 0, none⟩), .int .i64 since] w fun e w' => ∃ v, e = .returned v ∧ LRes w w' (goL X.S since) v ∧ Below w.heap.size w w' := by
  have kS := hC.kb
  have kF := hF.kb
  obtain ⟨gs, gf, h⟩ := h0.open_
  obtain ⟨c0, c1, hg⟩ := h.reads
  have HEnt := Lib.hid (lent_any c0)
  obtain ⟨Fs, hfi, _, hS⟩ := h.withS kS kF
  have HCa := Lib.hid (hC.gone w gs Fs X.S since hW.ws (hB.bd.mono (by omega)) (hS w (Below.refl _ _)).1)
  obtain ⟨L, hL⟩ : ∃ L, L = goL X.S since := ⟨_, rfl⟩
  rw [← hL] at HCa ⊢
  clear hL h0 hW hB hC hF kS kF h hfi hS
  go_enter Tryz.func68, Tryz.ntmps68
  go_wp2_with fail
  refine HEnt.out.mono ?_
  rintro e w1 ⟨rfl, rfl⟩
  go_wp2_with fail
  refine HCa.out.mono ?_
  rintro e w1 ⟨v, rfl, ⟨a, cap, rfl, lr, ln⟩, b1⟩
  have HR : Hid (LRes w w1 L (.slice a L.length cap) ∧ Below w.heap.size w w1) := Lib.hid ⟨⟨a, cap, rfl, lr, ln⟩, b1⟩
  clear lr ln b1 HCa HEnt c0 c1 hg
  go_wp2
  go_ret
  exact ⟨_, rfl, HR.out.1, HR.out.2⟩
set_option maxHeartbeats 2000000 in
set_option maxRecDepth 100000 in
theorem ltick11_any (hC : SCx SB) (hF : FCx FB) {w : World} {g : Nat} {F : Nat → Prop} {X : Sc} (h0 : LXB SB FB w g F X) (hW : WX X) (hB : BSc X 900) :
    Calls Tryz.prog 16 #[.pointer (some ⟨g, 0, none⟩)] w fun e w' => e = .returned (.int .i64 X.S.now) ∧ Below w.heap.size w w' := by
  have kS := hC.kb
  have kF := hF.kb
  obtain ⟨gs, gf, h⟩ := h0.open_
  obtain ⟨c0, c1, hg⟩ := h.reads
  have HEnt := Lib.hid (lent_any c0)
  obtain ⟨Fs, hfi, _, hS⟩ := h.withS kS kF
  have HCa := Lib.hid (hC.tick w gs Fs X.S hW.ws (hB.bd.mono (by omega)) (hS w (Below.refl _ _)).1)
  obtain ⟨nw, hnw⟩ : ∃ nw, nw = X.S.now := ⟨_, rfl⟩
  rw [← hnw] at HCa ⊢
  clear hnw h0 hW hB hC hF kS kF h hfi hS
  go_enter Tryz.func16, Tryz.ntmps16
  go_wp2_with fail
  refine HEnt.out.mono ?_
  rintro e w1 ⟨rfl, rfl⟩
  go_wp2_with fail
  refine HCa.out.mono ?_
  rintro e w1 ⟨rfl, b1⟩
  have HB := Lib.hid b1
  clear b1 HCa HEnt c0 c1 hg
  go_wp2
  go_ret
  exact ⟨rfl, HB.out⟩
set_option maxHeartbeats 2000000 in
set_option maxRecDepth 100000 in
theorem lnext11_any (hC : SCx SB) (hF : FCx FB) {w : World} {g : Nat} {F : Nat → Prop} {X : Sc} (h0 : LXB SB FB w g F X) (hW : WX X) (hB : BSc X 900) :
    Calls Tryz.prog 33 #[.pointer (some ⟨g, 0, none⟩)] w fun e w' => e = .returned (.int .i64 (X.S.now + 1)) ∧ ChB (LXB SB FB) w w' g F (xneS X) := by
  have kS := hC.kb
  have kF := hF.kb
  obtain ⟨gs, gf, h⟩ := h0.open_
  obtain ⟨c0, c1, hg⟩ := h.reads
  have HEnt := Lib.hid (lent_any c0)
  obtain ⟨Fs, hfi, _, hS⟩ := h.withS kS kF
  have HCa := Lib.hid (hC.next w gs Fs X.S hW.ws (hB.bd.mono (by omega)) (hS w (Below.refl _ _)).1)
  have HD : Hid (∀ w', Chg SB w w' gs Fs (neS X.S) → ChB (LXB SB FB) w w' g F (xneS X)) := Lib.hid (fun w' q => ((hS w (Below.refl _ _)).2 _ _ q).done)
  obtain ⟨nw, hnw⟩ : ∃ nw, nw = X.S.now := ⟨_, rfl⟩
  rw [← hnw] at HCa ⊢
  clear hnw h0 hW hB hC hF kS kF h hfi hS
  go_enter Tryz.func33, Tryz.ntmps33
  go_wp2_with fail
  refine HEnt.out.mono ?_
  rintro e w1 ⟨rfl, rfl⟩
  go_wp2_with fail
  refine HCa.out.mono ?_
  rintro e w1 ⟨rfl, hc⟩
  have HB := Lib.hid (HD.out _ hc)
  clear hc HCa HEnt c0 c1 hg HD
  go_wp2
  go_ret
  exact ⟨rfl, HB.out⟩
set_option maxHeartbeats 2000000 in
set_option maxRecDepth 100000 in
theorem lcut11_any (hC : SCx SB) (hF : FCx FB) {w : World} {g : Nat} {F : Nat → Prop} {X : Sc} (h0 : LXB SB FB w g F X) (hW : WX X) (hB : BSc X 900) (id : Int) (a : Option Addr) (n cap : Nat) (ks : List Int) (hn : n ≤ 900) (row : Row w a n ks) (haw : Aw F a n) :
    Calls Tryz.prog 48 #[.pointer (some ⟨g, 0, none⟩), .int .i64 id, .slice a n cap] w fun e w' => e = .returned (.int .i64 (cuE X.S id ks)) ∧ ChB (LXB SB FB) w w' g F (xcuS X id ks) := by
  have kS := hC.kb
  have kF := hF.kb
  obtain ⟨gs, gf, h⟩ := h0.open_
  obtain ⟨c0, c1, hg⟩ := h.reads
  have HEnt := Lib.hid (lent_any c0)
  obtain ⟨Fs, hfi, hfn, hS⟩ := h.withS kS kF
  have HCa := Lib.hid (hC.cut w gs Fs X.S id a n cap ks hW.ws (hB.bd.mono (by omega)) (hS w (Below.refl _ _)).1 (by omega) row (aw_new haw row (Nat.le_refl _) hfn))
  have HD : Hid (∀ w', Chg SB w w' gs Fs (cuS X.S id ks) → ChB (LXB SB FB) w w' g F (xcuS X id ks)) := Lib.hid (fun w' q => ((hS w (Below.refl _ _)).2 _ _ q).done)
  obtain ⟨E, hE⟩ : ∃ E, E = cuE X.S id ks := ⟨_, rfl⟩
  rw [← hE] at HCa ⊢
  clear hE h0 hW hB hC hF kS kF h hfi hfn hS row haw
  go_enter Tryz.func48, Tryz.ntmps48
  go_wp2_with fail
  refine HEnt.out.mono ?_
  rintro e w1 ⟨rfl, rfl⟩
  go_wp2_with fail
  refine HCa.out.mono ?_
  rintro e w1 ⟨rfl, hc⟩
  have HB := Lib.hid (HD.out _ hc)
  clear hc HCa HEnt c0 c1 hg HD
  go_wp2
  go_ret
  exact ⟨rfl, HB.out⟩
set_option maxHeartbeats 4000000 in
set_option maxRecDepth 100000 in
theorem lput11_any (hC : SCx SB) (hF : FCx FB) {w : World} {g : Nat} {F : Nat → Prop} {X : Sc} (h0 : LXB SB FB w g F X) (hW : WX X) (hB : BSc X 900) (id : Int) (P : PT) (a : Option Addr) (n cap : Nat) (ks : List Int) (hn : n ≤ 900) (row : Row w a n ks) (haw : Aw F a n) :
    Calls Tryz.prog 47 #[.pointer (some ⟨g, 0, none⟩), .int .i64 id, .agg (pl P).toArray, .slice a n cap] w fun e w' => e = .returned (.int .i64 (puE X.S id P ks)) ∧ ChB (LXB SB FB) w w' g F (xpuS X id P ks) := by
  have kS := hC.kb
  have kF := hF.kb
  obtain ⟨gs, gf, h⟩ := h0.open_
  have HEnt : Hid (∀ u, Below w.heap.size w u → Calls Tryz.prog 42 #[.pointer (some ⟨g, 0, none⟩)] u fun e w' => e = .returned (.pointer (some ⟨gs, 0, none⟩)) ∧ u = w') := Lib.hid (fun u q => lent_any (h.keep kS kF q).reads.1)
  obtain ⟨Fs, hfi, hfn, hS⟩ := h.withS kS kF
  have HPu : Hid (∀ u, Below w.heap.size w u → w.heap.size < u.heap.size → Calls Tryz.prog 93 #[.pointer (some ⟨gs, 0, none⟩), .int .i64 id, .agg (pl P).toArray, .slice a n cap] u fun e w' => e = .returned (.int .i64 (puE X.S id P ks)) ∧ ChB (LXB SB FB) w w' g F (xpuS X id P ks) ∧ w'.heap[w.heap.size]? = u.heap[w.heap.size]?) := Lib.hid (fun u q c => (hC.put u gs Fs X.S id P a n cap ks hW.ws (hB.bd.mono (by omega)) (hS u q).1 (by omega) (row_keep row q) (aw_new haw row (Nat.le_refl _) hfn)).mono fun e w' k => ⟨k.1, ((hS u q).2 _ _ k.2).done, by
    obtain ⟨_, _, f, _⟩ := k.2
    exact f.2.2.2.2 _ c (fun z => by have := hfi _ z; omega)⟩)
  have HSz := Lib.hid (pl_size P)
  have hg : g < w.heap.size := h.reads.2.2
  obtain ⟨E, hE⟩ : ∃ E, E = puE X.S id P ks := ⟨_, rfl⟩
  rw [← hE] at HPu ⊢
  obtain ⟨Xp, hXp⟩ : ∃ Xp, Xp = pl P := ⟨_, rfl⟩
  rw [← hXp] at HPu HSz ⊢
  have KP := Lib.hid (Blk.new w 52 Xp.toArray)
  have HB1 : Hid (Below w.heap.size w (w.alloc (.cells Xp.toArray 52))) := Lib.hid (alloc_below _ _)
  clear hXp hE h0 hW hB hC hF kS kF h hfi hfn hS row haw
  go_enter Tryz.func47, Tryz.ntmps47
  go_upto_region 1 with fail
  refine fin (fun W => W.rangeAt w.heap.size 0 Xp ∧ Below w.heap.size w W ∧ w.heap.size < W.heap.size) ⟨blk_whole KP.out, HB1.out, KP.out.lt⟩ ?_
  clear KP HB1
  rintro W0 ⟨r0, hb0, zb⟩
  have HB1 := Lib.hid hb0
  have HR0 := Lib.hid r0
  clear hb0
  refine wp_region_held_drew (S := fun w' => w'.rangeAt w.heap.size 0 Xp) (by kernel_rfl) (r0) (fun hHeld => ?_)
  refine tk 0 hHeld ?_
  refine tk 2 hHeld ?_
  refine tkl 3 rfl (yieldsIf_load_mid (by rfl) _ _ rfl _ _ rfl _ _ (fun _ h => h) Tryz.underlying52 rfl HSz.out) hHeld ?_
  refine tk 4 hHeld ?_
  refine rd 1 (fun K hK => ?_)
  go_simp
  go_at_call 42
  refine (HEnt.out _ (bthen HB1.out (drew_below _))).mono ?_
  rintro e w2 ⟨rfl, rfl⟩
  go_wp2_with fail
  refine hK.out _ _ (r0) (fun hHeld => ?_)
  clear hK K
  refine rd 5 (fun K hK => ?_)
  go_simp
  go_at_call 93
  refine (HPu.out _ (bthen HB1.out (drew_below _)) zb).mono ?_
  rintro e w3 ⟨rfl, hp3, hk3⟩
  have HP := Lib.hid hp3
  have HR3 := Lib.hid (range_same HR0.out hk3)
  clear hk3 hp3
  go_wp2_with fail
  refine hK.out _ _ (HR3.out) (fun hHeld => ?_)
  clear hK K
  refine tk 6 hHeld ?_
  refine wpAnyH_done (by kernel_rfl) ?_ _
  clear hHeld r0 zb HPu HEnt HR0 HR3
  go_wp2
  go_ret
  exact ⟨rfl, HP.out⟩
set_option maxHeartbeats 4000000 in
set_option maxRecDepth 100000 in
theorem lget11_any (hC : SCx SB) (hF : FCx FB) {w : World} {g : Nat} {F : Nat → Prop} {X : Sc} (h0 : LXB SB FB w g F X) (hW : WX X) (hB : BSc X 900) (id : Int) :
    Calls Tryz.prog 136 #[.pointer (some ⟨g, 0, none⟩), .int .i64 id] w fun e w' => ∃ Y, e = .returned (.tuple #[.agg (List.toArray Y), .bool (getB X.S id)]) ∧ Y = pl (getP X.S id) ∧ Below w.heap.size w w' := by
  have kS := hC.kb
  have kF := hF.kb
  obtain ⟨gs, gf, h⟩ := h0.open_
  have HEnt : Hid (∀ u, Below w.heap.size w u → Calls Tryz.prog 42 #[.pointer (some ⟨g, 0, none⟩)] u fun e w' => e = .returned (.pointer (some ⟨gs, 0, none⟩)) ∧ u = w') := Lib.hid (fun u q => lent_any (h.keep kS kF q).reads.1)
  obtain ⟨Fs, hfi, hfn, hS⟩ := h.withS kS kF
  obtain ⟨ok, hok⟩ : ∃ ok, ok = getB X.S id := ⟨_, rfl⟩
  obtain ⟨Xp, hXp⟩ : ∃ Xp, Xp = pl (getP X.S id) := ⟨_, rfl⟩
  have HGe : Hid (∀ u, Below w.heap.size w u → Calls Tryz.prog 213 #[.pointer (some ⟨gs, 0, none⟩), .int .i64 id] u fun e w' => e = .returned (.tuple #[.agg Xp.toArray, .bool ok]) ∧ Below u.heap.size u w') := Lib.hid (fun u q => (hC.get u gs Fs X.S id hW.ws (hB.bd.mono (by omega)) (hS u q).1).mono fun e w' ⟨Y, k1, k2, k3⟩ => ⟨by rw [k1, k2, hXp, hok], k3⟩)
  have HPX : Hid (PXs Xp) := Lib.hid (by rw [hXp]; exact ⟨pl_len _, pl_size _, pl_size' _, pl_one _⟩)
  have hg : g < w.heap.size := h.reads.2.2
  have K4 := Lib.hid (Blk.new w 52 Z24.toArray)
  have HB4 : Hid (Below w.heap.size w (w.alloc (.cells Z24.toArray 52))) := Lib.hid (alloc_below _ _)
  rw [← hok, ← hXp]
  clear hok hXp h0 hW hB hC hF kS kF h hfi hfn hS
  go_enter Tryz.func136, Tryz.ntmps136
  go_wp2_with fail
  refine (HEnt.out _ HB4.out).mono ?_
  rintro e w1 ⟨rfl, rfl⟩
  go_wp2_with fail
  refine (HGe.out _ HB4.out).mono ?_
  rintro e w1 ⟨rfl, b1⟩
  replace K4 := Lib.hid (K4.out.keep b1)
  replace HB4 := Lib.hid (bthen HB4.out b1)
  have HT4 : Hid (w1.there w.heap.size 0 Xp.toArray.size) := Lib.hid (blk_there K4.out (by rw [List.size_toArray, HPX.out.1]; exact Nat.le_refl 24))
  have L4 : Hid (Blk (w1.setCells w.heap.size 0 Xp) w.heap.size 52 Xp.toArray) := Lib.hid (blk_over K4.out (by rw [HPX.out.1]; rfl))
  clear b1 HGe HEnt
  go_wp2_with (refine wpList_store_mid rfl 52 (.tmp 4) (.tmp 10) rfl w.heap.size 0 Xp.toArray rfl rfl HT4.out HPX.out.2.2.1 HPX.out.2.2.2 ?_)
  refine fin (fun W => Blk W w.heap.size 52 Xp.toArray ∧ Below w.heap.size w W) ⟨L4.out, below_setCells _ HB4.out (Nat.le_refl _)⟩ ?_
  rintro W ⟨kr, hb⟩
  have hl := run_loadVar_mid W w.heap.size 0 52 Xp _ (blk_whole kr) Tryz.underlying52 rfl HPX.out.2.1
  try simp only [Go.Act.put, List.setIfInBounds_toArray, List.set_cons_zero, List.set_cons_succ]
  exact bodyPost_ret (v := .tuple #[.agg Xp.toArray, .bool ok]) (results_cell2 Tryz.results136 rfl rfl hl) rfl ⟨Xp, rfl, rfl, hb⟩
set_option maxHeartbeats 4000000 in
set_option maxRecDepth 100000 in
theorem lparent11_any (hC : SCx SB) (hF : FCx FB) {w : World} {g : Nat} {F : Nat → Prop} {X : Sc} (h0 : LXB SB FB w g F X) (hW : WX X) (hB : BSc X 900) (id : Int) (hid : Rg id) :
    Calls Tryz.prog 196 #[.pointer (some ⟨g, 0, none⟩), .int .i64 id] w fun e w' => e = .returned (.tuple #[.int .i64 (parV (parO X.L id)), .bool (parO X.L id).isSome]) ∧ Below w.heap.size w w' := by
  have kS := hC.kb
  have kF := hF.kb
  obtain ⟨gs, gf, h⟩ := h0.open_
  obtain ⟨c0, c1, hg⟩ := h.reads
  obtain ⟨Ff, hfi, hfn, hFf⟩ := h.withF kS kF
  have hLl : X.L.length ≤ 900 := hB.len
  have HPa := Lib.hid (hF.parent w gf Ff X.L id hW.wf (show X.L.length ≤ 1000 by omega) (hFf w (Below.refl _ _)).1 hid)
  obtain ⟨pv, hpv⟩ : ∃ pv, pv = parV (parO X.L id) := ⟨_, rfl⟩
  obtain ⟨is, his⟩ : ∃ is, is = (parO X.L id).isSome := ⟨_, rfl⟩
  rw [← hpv, ← his] at HPa ⊢
  clear hpv his h0 hW hB hC hF kS kF h hfi hfn hFf hid hLl
  go_enter Tryz.func196, Tryz.ntmps196
  go_wp2_with fail
  refine HPa.out.mono ?_
  rintro e w1 ⟨rfl, b1⟩
  have HB := Lib.hid b1
  clear b1 HPa c0 c1 hg
  go_wp2
  go_ret2
  exact ⟨rfl, HB.out⟩
end
end Go.Proofs.YthhfcedhbfandaaGreat
