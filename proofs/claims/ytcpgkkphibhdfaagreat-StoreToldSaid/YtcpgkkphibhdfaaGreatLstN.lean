/-
  The landed store: what New answers; that it keeps the bundle of a store.
-/
import Derived.Test.YtcpgkkphibhdfaaGreatLstM
namespace Go.Proofs.YtcpgkkphibhdfaaGreat
open Go.RowKit

def newL (p mb : Nat) : List Value := (List.range 516).map (lF p mb 1 (fun _ => 0) (fun _ => 0) (.slice none 0 0))
theorem build_nl (p mb : Nat) (W : World) : (Instr.build 78 #[(0, .pointer (some ⟨p, 0, none⟩)), (1, .map (some mb)), (2, .int .i64 1)]).run Tryz.prog W = .ok (.agg (newL p mb).toArray) W := by kernel_rfl
theorem wpList_bld3 {ops : Array Oper} {rest : List Oper} {op : Oper} {a : Go.Act} {w : World} {Q : Exit → Go.Act → World → Prop} (hgd : op.guard = none) (t : TypeId) (x y z : Operand) (ho : op.op = .build t #[(0, x), (1, y), (2, z)]) (vx vy vz vr : Value) (hx : a.eval x = vx) (hy : a.eval y = vy) (hz : a.eval z = vz)
    (hrun : ∀ W, (Instr.build t #[(0, vx), (1, vy), (2, vz)]).run Tryz.prog W = .ok vr W)
    (h : wpList Tryz.prog ops Q rest (a.put op.dst vr) w) : wpList Tryz.prog ops Q (op :: rest) a w :=
  wpList_plain hgd fun K hK => by
    have h2 := hK _ _ h
    unfold Oper.wp execOp
    simp only [ho]
    simp [hx, hy, hz, hrun]
    exact h2
theorem li_zero (r : Nat) : LI (St0 r) (fun _ => 0) (fun _ => 0) := by
  refine ⟨?_, fun x h => ?_, ?_, List.Pairwise.nil, fun x h => ?_⟩
  · rintro x P ⟨i, _, h⟩
    cases h
  · have h2 : n0 (x % 256).toNat = true := (live_iff.1 h).2.2.1
    cases h2
  · show ([] : List Int).Nodup
    simp
  · cases h
theorem lm_new {w1 : World} {p r : Nat} (hp : w1.rowIs p 119 513 (poolF r z0 n0)) :
    ∃ F, LSB ((w1.alloc (.map #[] 0)).alloc (.cells (newL p w1.heap.size).toArray 78)) (w1.heap.size + 1) F (St0 r) ∧ ∀ b, F b → b = p ∨ w1.heap.size ≤ b := by
  have hpl := hp.lt
  have hs : (w1.alloc (.map #[] 0)).heap.size = w1.heap.size + 1 := by simp
  have hrow : ((w1.alloc (.map #[] 0)).alloc (.cells (newL p w1.heap.size).toArray 78)).rowIs (w1.heap.size + 1) 78 516 (lF p w1.heap.size 1 (fun _ => 0) (fun _ => 0) (.slice none 0 0)) := by
    have h := World.rowIs_alloc (w1.alloc (.map #[] 0)) (newL p w1.heap.size).toArray 78 (lF p w1.heap.size 1 (fun _ => 0) (fun _ => 0) (.slice none 0 0)) (fun i hi => by
      have hi' : i < 516 := by simpa [newL] using hi
      unfold newL
      simp [hi'])
    rw [hs] at h
    have e : (newL p w1.heap.size).toArray.size = 516 := by simp [newL]
    rwa [e] at h
  have hb : Below w1.heap.size w1 ((w1.alloc (.map #[] 0)).alloc (.cells (newL p w1.heap.size).toArray 78)) := bthen (alloc_below _ _) (alloc_below _ _)
  have hm : TM ((w1.alloc (.map #[] 0)).alloc (.cells (newL p w1.heap.size).toArray 78)) w1.heap.size (fun _ => none) := (TM.new w1).same ((alloc_below (w1.alloc (.map #[] 0)) (.cells (newL p w1.heap.size).toArray 78)).block _ (by rw [hs]; omega))
  refine ⟨lfoot (w1.heap.size + 1) p w1.heap.size (fun _ _ => False) (.slice none 0 0), ⟨fun _ => 0, fun _ => 0, ⟨p, w1.heap.size, fun _ => none, fun _ _ => False, .slice none 0 0, fun b => if b = p then 1 else if b = w1.heap.size then 2 else 0, ⟨hrow, World.rowIs.keep hp hb, hm, fun i _ => ⟨rfl, fun _ c => c⟩, ColX.nil _ _ _ _, ?_, ?_, ?_, fun b e => (by cases e), fun i _ b c => c.elim⟩, fun _ => Iff.rfl⟩, li_zero r⟩, ?_⟩
  · show (if w1.heap.size + 1 = p then 1 else if w1.heap.size + 1 = w1.heap.size then 2 else 0) = 0
    rw [if_neg (by omega), if_neg (by omega)]
  · show (if p = p then 1 else if p = w1.heap.size then 2 else 0) = 1
    rw [if_pos rfl]
  · show (if w1.heap.size = p then 1 else if w1.heap.size = w1.heap.size then 2 else 0) = 2
    rw [if_neg (by omega), if_pos rfl]
  · rintro b (e | e | e | e | ⟨i, _, e⟩)
    · exact Or.inr (by omega)
    · exact Or.inl e
    · exact Or.inr (by omega)
    · cases e
    · exact e.elim
set_option maxHeartbeats 2000000 in
set_option maxRecDepth 100000 in
theorem lnew_any (w : World) (r : Nat) (hr : r ≤ 256) :
    Calls Tryz.prog 7 #[.int .i64 r] w fun e w' => ∃ g F, e = .returned (.tuple #[.pointer (some ⟨g, 0, none⟩), .int .i64 0]) ∧ LSB w' g F (St0 r) ∧ (∀ b, F b → w.heap.size ≤ b) ∧ Below w.heap.size w w' := by
  have HPn := Lib.hid (qnew r w hr)
  have hmm := @run_makeMap Tryz.prog
  clear hr
  go_enter Tryz.func7, Tryz.ntmps7
  go_wp2_with fail
  refine HPn.out.mono ?_
  rintro e w1 ⟨p, rfl, hp, hrow, hb⟩
  obtain ⟨F, hF1, hF2⟩ := lm_new hrow
  have HF := Lib.hid (And.intro hF1 hF2)
  have HB := Lib.hid hb
  have HP := Lib.hid hp
  have HBd := Lib.hid (build_nl p w1.heap.size)
  obtain ⟨X, hX⟩ : ∃ X, X = newL p w1.heap.size := ⟨_, rfl⟩
  rw [← hX] at HF HBd
  clear hF1 hF2 hb hp hrow hX HPn
  go_wp2_with (refine wpList_bld3 rfl 78 (.tmp 14) (.tmp 15) (.const (.int .i64 1)) rfl (.pointer (some ⟨p, 0, none⟩)) (.map (some w1.heap.size)) (.int .i64 1) (.agg X.toArray) rfl rfl rfl HBd.out ?_)
  go_ret2
  refine ⟨w1.heap.size + 1, F, rfl, HF.out.1, fun b hb => ?_, bthen HB.out (bthen (alloc_below _ _) (alloc_below _ _))⟩
  rcases HF.out.2 b hb with c | c
  · rw [c]; exact HP.out
  · exact Nat.le_trans HB.out.size c
set_option maxHeartbeats 1000000 in
set_option maxRecDepth 100000 in
theorem lbad_any (w : World) (x : Int) (hx : x < 0 ∨ 256 < x) :
    Calls Tryz.prog 7 #[.int .i64 x] w fun e w' => e = .returned (.tuple #[.pointer none, .int .i64 1]) ∧ Below w.heap.size w w' := by
  have HPn := Lib.hid (qbad x w hx)
  clear hx
  go_enter Tryz.func7, Tryz.ntmps7
  go_wp2_with fail
  refine HPn.out.mono ?_
  rintro e w1 ⟨rfl, hb⟩
  have HB := Lib.hid hb
  clear hb HPn
  go_wp2
  go_ret2
  exact ⟨rfl, HB.out⟩

/-! All, once more: its answer is new memory -/
set_option maxHeartbeats 1000000 in
theorem qallD (g R : Nat) (G : Nat → Int) (L : Nat → Bool) (w : World) (hP : POk R G L) (row : w.rowIs g 119 513 (poolF R G L)) :
    Calls Tryz.prog 44 #[.pointer (some ⟨g, 0, none⟩)] w fun e w' => ∃ v, e = .returned v ∧ OwnD w' w.heap.size v (allL G L 256).length (allL G L 256) ∧ Below w.heap.size w w' := by
  have hall : allL G L 256 = allL G L R := by
    have h1 := all_room (G := G) (fun i hi => (hP.2.2 i hi).1) (256 - R)
    have h2 := hP.1
    rwa [show R + (256 - R) = 256 by omega] at h1
  rw [hall]
  have hR := hP.1
  have HRow := Lib.hid row
  have HG := Lib.hid hP.gen
  have cr := pool_room row
  clear row hP hall
  obtain ⟨i0, hi0, hz0, hz1, hz2⟩ := info_parts id_info
  have HI := Lib.hid (And.intro hi0 (And.intro hz0 (And.intro hz1 hz2)))
  clear hi0 hz0 hz1 hz2
  go_enter Tryz.func44, Tryz.ntmps44
  go_wp2
  go_loopw [3, 11] (fun v i wr => ∃ k : Nat, k ≤ R ∧ i = .int .i64 k ∧ OwnD wr w.heap.size v (allL G L k).length (allL G L k) ∧ Below w.heap.size w wr) (fun _ i _ => R - (ivl i).toNat)
  case atStart => exact ⟨0, by omega, rfl, OwnD.nil _ _, Below.refl _ _⟩
  case round =>
    clear cr
    obtain ⟨k, hk, rfl, hown, hb⟩ := hrel
    have HOwn := Lib.hid hown
    have HB := Lib.hid hb
    clear hown hb
    have HR2 := Lib.hid (World.rowIs.keep HRow.out HB.out)
    by_cases hlt : k < R
    · have cl := pool_live HR2.out (k := k) (by omega)
      have hk0 : (0 : Int) ≤ (k : Int) := by omega
      have hk1 : (k : Int) < 256 := by omega
      have hkR : (k : Int) < (R : Int) := by omega
      have zg : g < wr.heap.size := HR2.out.lt
      have hle := all_len G L k
      by_cases hL : L k = true
      · rw [hL] at cl
        have HA := Lib.hid (all_yes (G := G) hL)
        clear hL
        obtain ⟨n, hn⟩ : ∃ n, n = (allL G L k).length := ⟨_, rfl⟩
        rw [← hn] at HOwn hle
        have HN := Lib.hid hn
        clear hn
        have hsz : w.heap.size ≤ wr.heap.size := HB.out.size
        go_wp2_with fail
        refine (qname g R G L k _ HG.out (by omega) HR2.out).mono ?_
        rintro e w1 ⟨rfl, rfl⟩
        go_wp2_with (at_builtin; refine wpList_append_own _ rfl (.tmp 20) (.tmp 24) 53 rfl w.heap.size 35 i0 (.int .i64 0) 1 8 Tryz.underlying53 HI.out.1 HI.out.2.1 HI.out.2.2.1 HI.out.2.2.2 rfl (by decide) _ _ _ rfl (HOwn.out.alloc _) ⟨wr.heap.size, 0, none⟩ 1 1 [.int .i64 (nm (G k) k)] rfl rfl (cell_one_new _ _ _) (by intro u hu; simp at hu; subst hu; rfl) (by unfold maxLen; omega) (by omega) (by simp; omega) ?_)
        intro v' w2 hown' hgrow _
        have HOwn' := Lib.hid hown'
        have HGr := Lib.hid hgrow
        clear hown' hgrow
        go_wp2
        go_roundw
        case rel =>
          have el : (allL G L (k + 1)).length = n + 1 := by rw [HA.out, List.length_append, ← HN.out]; rfl
          refine ⟨k + 1, by omega, by go_num, ?_, grownD_below HOwn.out (Nat.le_refl _) HB.out hsz HGr.out⟩
          rw [el]
          unfold OwnD
          rw [HA.out, List.map_append]
          exact HOwn'.out
        case measure => simp [ivl] <;> omega
      · have hL' : L k = false := by simpa using hL
        rw [hL'] at cl
        have HA := Lib.hid (all_no (G := G) hL')
        clear hL hL'
        go_wp2
        go_roundw
        case rel => exact ⟨k + 1, by omega, by go_num, by rw [HA.out]; exact HOwn.out, HB.out⟩
        case measure => simp [ivl] <;> omega
    · obtain rfl : k = R := by omega
      obtain ⟨a, cap, hv, _⟩ := HOwn.out.row
      subst hv
      go_wp2
      go_ret
      exact ⟨_, rfl, HOwn.out, HB.out⟩
set_option maxHeartbeats 1000000 in
set_option maxRecDepth 100000 in
theorem lallD_any {w : World} {g : Nat} {F : Nat → Prop} {S : St} (h0 : LSB w g F S) (hW : WS S) :
    Calls Tryz.prog 13 #[.pointer (some ⟨g, 0, none⟩)] w fun e w' => ∃ v, e = .returned v ∧ LRes w w' (alS S) v ∧ Below w.heap.size w w' := by
  have hg := h0.inH
  obtain ⟨ls, lt, ⟨p, mb, ts, Lf, gv, lab, h, hF⟩, hI⟩ := h0
  have c0 := h.c0
  have HAl : Hid (Calls Tryz.prog 44 #[.pointer (some ⟨p, 0, none⟩)] w fun e w' => ∃ v, e = .returned v ∧ LRes w w' (alS S) v ∧ Below w.heap.size w w') := Lib.hid ((qallD p S.room S.G S.L w hW.ok h.pool).mono fun _ _ ⟨v, he, ho, hb⟩ => ⟨v, he, LRes.of9 ho (Nat.le_refl _), hb⟩)
  clear h hF hI hW
  go_enter Tryz.func13, Tryz.ntmps13
  go_wp2_with fail
  refine HAl.out.mono ?_
  rintro e w1 ⟨v, rfl, hr, hb⟩
  have HR := Lib.hid (And.intro hr hb)
  clear hr hb
  go_wp2
  go_ret
  exact ⟨v, rfl, HR.out.1, HR.out.2⟩

/-- the landed store keeps the bundle -/
theorem sc_holds : SC LSB :=
  ⟨fun _ _ _ _ _ ⟨ls, lt, ⟨p, mb, ts, Lf, gv, lab, h, hF⟩, hI⟩ he => ⟨ls, lt, ⟨p, mb, ts, Lf, gv, lab, h.same (fun b hb => he b ((hF b).2 hb)), hF⟩, hI⟩,
   fun _ _ _ _ ⟨_, _, ⟨_, _, _, _, _, _, h, hF⟩, _⟩ b hb => h.inb b ((hF b).1 hb),
   fun w r hr => lnew_any w r hr, fun w x hx => lbad_any w x hx, fun _ _ _ _ P hW hB h => lspawn_any h hW hB P, fun _ _ _ _ id hW hB h => ldespawn_any h hW hB id,
   fun _ _ _ _ id P a n cap ks hW hB h _ row _ => lput_any h hW hB id P a n cap ks row, fun _ _ _ _ id a n cap ks hW hB h _ row _ => lcut_any h hW hB id a n cap ks row,
   fun _ _ _ _ a n cap xs _ _ h hn row haw => ltouch_any h a n cap xs hn row haw, fun _ _ _ _ id hW hB h => lget_any h hW hB id, fun _ _ _ _ hW _ h => lallD_any h hW,
   fun _ _ _ _ x y _ hB h => lquery_any h hB x y, fun _ _ _ _ _ _ h => ltick_any h, fun _ _ _ _ _ hB h => lnext_any h hB, fun _ _ _ _ since hW _ h => lchanged_any h hW since, fun _ _ _ _ since _ hB h => lgone_any h hB since⟩

end Go.Proofs.YtcpgkkphibhdfaaGreat
