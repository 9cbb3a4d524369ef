/-
  9 texts in one file, each with its own heading.
-/
import Derived.Test.YthhfcedhbfandaaGreatMS35
import Derived.Test.YthhfcedhbfandaaGreatMS29
import Derived.Test.YthhfcedhbfandaaGreatMS19
import Derived.Maps.AppendAt
import Derived.Deep.QuietTactic
import Derived.WalkMore
import Derived.ScopeJumps
import Derived.Test.YthhfcedhbfandaaGreatMS37
/-
  The landed store: what Gone answers; what IDs of the landed table answers.
-/
namespace Go.Proofs.YthhfcedhbfandaaGreat
open Go.RowKit

def goK (S : St) (k : Nat) : List Int := ((S.go.drop k).reverse).map Prod.fst
theorem goK_step {S : St} {k : Nat} {x : Int × Int} (h : S.go[k]? = some x) : goK S k = goK S (k + 1) ++ [x.1] := by
  unfold goK
  have : S.go.drop k = x :: S.go.drop (k + 1) := by
    obtain ⟨hk, e⟩ := List.getElem?_eq_some_iff.1 h
    rw [← e, List.drop_eq_getElem_cons hk]
  rw [this, List.reverse_cons, List.map_append]
  rfl
theorem go_filter {S : St} {since : Int} {k : Nat} (hd : ∀ x ∈ S.go.drop k, since < x.2) (ht : ∀ x ∈ S.go.take k, x.2 ≤ since) : S.go.filter (fun x => decide (since < x.2)) = S.go.drop k := by
  have e : S.go = S.go.take k ++ S.go.drop k := (List.take_append_drop k S.go).symm
  rw [e, List.filter_append, List.filter_eq_nil_iff.2 (fun x hx => by have := ht x hx; simpa using this), List.filter_eq_self.2 (fun x hx => by have := hd x hx; simpa using this), List.nil_append, ← e]
theorem go_srt {S : St} {since : Int} {k : Nat} (hp : S.go.Pairwise (fun a b => a.2 ≤ b.2)) (hd : ∀ x ∈ S.go.drop k, since < x.2) (hk : ∀ x, 0 < k → S.go[k - 1]? = some x → x.2 ≤ since) (hl : k ≤ S.go.length) : (goK S k).mergeSort (fun x y => decide (x ≤ y)) = goL S since := by
  have ht : ∀ x ∈ S.go.take k, x.2 ≤ since := fun x hx => by
    obtain ⟨j, hj, e⟩ := List.mem_iff_getElem.1 hx
    rw [List.length_take] at hj
    rw [List.getElem_take] at e
    have hk1 : k - 1 < S.go.length := by omega
    have h1 := hk _ (by omega) (List.getElem?_eq_getElem hk1)
    by_cases c : j = k - 1
    · subst c; rw [← e]; exact h1
    · have := List.pairwise_iff_getElem.1 hp j (k - 1) (by omega) hk1 (by omega)
      rw [← e]
      omega
  refine srt_eq ?_
  rw [go_filter hd ht]
  unfold goK
  exact (List.reverse_perm _).map _
set_option maxHeartbeats 4000000 in
set_option maxRecDepth 100000 in
theorem lgone_any {w : World} {g : Nat} {F : Nat → Prop} {S : St} (h0 : LSB w g F S) (hB : Bd S 1000) (since : Int) :
    Calls Tryz.prog 118 #[.pointer (some ⟨g, 0, none⟩), .int .i64 since] w fun e w' => ∃ v, e = .returned v ∧ LRes w w' (goL S since) v ∧ Below w.heap.size w w' := by
  obtain ⟨ls, lt, ⟨p, mb, ts, Lf, gv, lab, h, hF⟩, hI⟩ := h0
  have HP := Lib.hid hI.gop
  have hg := h.row.lt
  have hlen := hB.2.1
  have c515 := h.c515
  obtain ⟨a, cap, hv, hcap, hmax⟩ := ColX.form h.gos
  rw [List.length_map] at hv hcap
  have hcol := h.gos
  rw [hv] at hcol c515
  have HR : Hid (∀ u, Below w.heap.size w u → ∀ j x, S.go[j]? = some x → ∃ b, a = some ⟨b, 0, none⟩ ∧ b < u.heap.size ∧ u.cell? ⟨b, j * 2, none⟩ = some (.int .i64 x.1) ∧ u.cell? ⟨b, j * 2 + 1, none⟩ = some (.int .i64 x.2)) := Lib.hid (fun u q j x hx => by
    have hj := (List.getElem?_eq_some_iff.1 hx).1
    obtain ⟨b, cap', cur, hvv, hbk, _⟩ := ColX.open_ hcol (by rw [List.length_map]; omega)
    injection hvv with hvv _ _
    subst hvv
    have hr := ColX.range (c := cG) (k := 2) (fun _ => rfl) hcol (i := j) (x := mkG x) (by rw [List.getElem?_map, hx]; rfl)
    have h1 : w.cell? ⟨b, j * 2, none⟩ = some (.int .i64 x.1) := hr 0 _ rfl
    have h2 : w.cell? ⟨b, j * 2 + 1, none⟩ = some (.int .i64 x.2) := hr 1 _ rfl
    exact ⟨b, rfl, Nat.lt_of_lt_of_le hbk.lt q.size, cell_keep h1 q, cell_keep h2 q⟩)
  have HC : Hid (∀ u, Below w.heap.size w u → u.cell? ⟨g, 515, none⟩ = some (.slice a S.go.length cap)) := Lib.hid (fun u q => cell_keep c515 q)
  obtain ⟨i0, hi0, hz0, hz1, hz2⟩ := info_parts id_info
  have HI := Lib.hid (And.intro hi0 (And.intro hz0 (And.intro hz1 hz2)))
  obtain ⟨n, hn⟩ : ∃ n, n = S.go.length := ⟨_, rfl⟩
  rw [← hn] at c515 HC hcap hlen
  have HN := Lib.hid hn
  clear hi0 hz0 hz1 hz2 h hF hI hB hcol hv hn
  go_enter Tryz.func118, Tryz.ntmps118
  go_wp2
  go_loopw [5, 6] (fun v i wr => ∃ k : Nat, k ≤ n ∧ i = .int .i64 ((k : Int) - 1) ∧ (∀ x ∈ S.go.drop k, since < x.2) ∧ OwnD wr w.heap.size v (n - k) (goK S k) ∧ Below w.heap.size w wr) (fun _ i _ => (ivl i + 1).toNat)
  case atStart => exact ⟨n, by omega, by go_num, by rw [HN.out, List.drop_length]; simp, by rw [Nat.sub_self, show goK S n = [] by unfold goK; rw [HN.out, List.drop_length]; rfl]; exact OwnD.nil _ _, Below.refl _ _⟩
  case round =>
    obtain ⟨k, hk, rfl, hall, hown, hb⟩ := hrel
    have HAll := Lib.hid hall
    have HOwn := Lib.hid hown
    have HB := Lib.hid hb
    have hgw : g < wr.heap.size := Nat.lt_of_lt_of_le hg hb.size
    have hsz : w.heap.size ≤ wr.heap.size := hb.size
    have cw := HC.out wr hb
    clear hall hown hb c515
    have HEnd : Hid ((∀ x, 0 < k → S.go[k - 1]? = some x → x.2 ≤ since) → ∃ v : Value, ∃ nn qa qcap, v = .slice qa nn qcap ∧ u5 = v ∧ Calls Tryz.prog 74 #[v] wr fun e w2 => e = .returned (.tuple #[]) ∧ LRes w w2 (goL S since) v ∧ Below w.heap.size w w2) := Lib.hid (fun hx => by
      obtain ⟨qa, qcap, hqv, _⟩ := HOwn.out.row
      refine ⟨u5, n - k, qa, qcap, hqv, rfl, ?_⟩
      refine (sort9_any HOwn.out (by omega)).mono ?_
      rintro e w2 ⟨rfl, ho, hgr⟩
      refine ⟨rfl, ?_, own_below9 HOwn.out (Nat.le_refl _) HB.out hgr⟩
      rw [go_srt HP.out HAll.out hx (by rw [← HN.out]; exact hk)] at ho
      exact LRes.of9 ho (Nat.le_refl _))
    by_cases hk0 : k = 0
    · subst hk0
      obtain ⟨v, nn, qa, qcap, hv, hu, hs⟩ := HEnd.out (fun x c => by omega)
      have HS := Lib.hid hs
      subst hu
      subst hv
      clear hs HEnd
      go_wp2_with fail
      refine HS.out.mono ?_
      rintro e w2 ⟨rfl, hr, hb⟩
      have HR2 := Lib.hid (And.intro hr hb)
      clear hr hb
      go_wp2
      go_ret
      exact ⟨_, rfl, HR2.out.1, HR2.out.2⟩
    · obtain ⟨j, rfl⟩ : ∃ j, k = j + 1 := ⟨k - 1, by omega⟩
      have hjn : j < n := by omega
      obtain ⟨x, hx⟩ : ∃ x, S.go[j]? = some x := ⟨_, List.getElem?_eq_getElem (by rw [← HN.out]; exact hjn)⟩
      obtain ⟨b, rfl, hbl, cx, ct⟩ := HR.out wr HB.out j x hx
      rw [show ((j + 1 : Nat) : Int) - 1 = (j : Int) by omega]
      have j0 : (0 : Int) ≤ (j : Int) := by omega
      have j1 : (j : Int) < (n : Int) := by omega
      have HK := Lib.hid (goK_step hx)
      have HX := Lib.hid hx
      obtain ⟨x1, t⟩ := x
      simp only at cx ct HK
      by_cases hc : since < t
      · have hcc : decide (since < t) = true := decide_eq_true hc
        clear HEnd hx
        go_wp2_with (at_builtin; refine wpList_append_own _ rfl (.tmp 31) (.tmp 40) 35 rfl w.heap.size 81 i0 (.int .i64 0) 1 8 Tryz.underlying35 HI.out.1 HI.out.2.1 HI.out.2.2.1 HI.out.2.2.2 rfl (by decide) _ _ _ rfl (HOwn.out.alloc _) ⟨wr.heap.size, 0, none⟩ 1 1 [.int .i64 x1] rfl rfl (cell_one_new _ _ _) (by intro u hu; simp at hu; subst hu; rfl) (by unfold maxLen; omega) (by omega) (by simp; omega) ?_)
        intro v' w2 hown' hgrow _
        have HOwn' := Lib.hid hown'
        have HGr := Lib.hid hgrow
        clear hown' hgrow
        go_wp2
        go_roundw
        case rel =>
          refine ⟨j, by omega, by go_num, fun y hy => ?_, ?_, grownD_below HOwn.out (Nat.le_refl _) HB.out hsz HGr.out⟩
          · obtain ⟨hj2, e⟩ := List.getElem?_eq_some_iff.1 HX.out
            rw [List.drop_eq_getElem_cons hj2, e] at hy
            rcases List.mem_cons.1 hy with rfl | hy
            · exact hc
            · exact HAll.out y hy
          · unfold OwnD
            rw [HK.out, List.map_append, show n - j = n - (j + 1) + 1 by omega]
            exact HOwn'.out
        case measure => simp [ivl] <;> omega
      · have hcc : decide (since < t) = false := decide_eq_false hc
        obtain ⟨v, nn, qa, qcap, hv, hu, hs⟩ := HEnd.out (fun y _ e => by
          rw [show j + 1 - 1 = j by omega, hx] at e
          injection e with e
          rw [← e]
          omega)
        have HS := Lib.hid hs
        subst hu
        subst hv
        clear hs HEnd hx
        go_wp2_with fail
        refine HS.out.mono ?_
        rintro e w2 ⟨rfl, hr, hb⟩
        have HR2 := Lib.hid (And.intro hr hb)
        clear hr hb
        go_wp2
        go_ret
        exact ⟨_, rfl, HR2.out.1, HR2.out.2⟩

def newL (p mb : Nat) : List Value := (List.range 516).map (lF p mb 1 (fun _ => 0) (fun _ => 0) (.slice none 0 0))
theorem build_nl (p mb : Nat) (W : World) : (Instr.build 138 #[(0, .pointer (some ⟨p, 0, none⟩)), (1, .map (some mb)), (2, .int .i64 1)]).run Tryz.prog W = .ok (.agg (newL p mb).toArray) W := by kernel_rfl
theorem wpList_bld3 {ops : Array Oper} {rest : List Oper} {op : Oper} {a : Go.Act} {w : World} {Q : Exit → Go.Act → World → Prop} (hgd : op.guard = none) (t : TypeId) (x y z : Operand) (ho : op.op = .build t #[(0, x), (1, y), (2, z)]) (vx vy vz vr : Value) (hx : a.eval x = vx) (hy : a.eval y = vy) (hz : a.eval z = vz)
    (hrun : ∀ W, (Instr.build t #[(0, vx), (1, vy), (2, vz)]).run Tryz.prog W = .ok vr W)
    (h : wpList Tryz.prog ops Q rest (a.put op.dst vr) w) : wpList Tryz.prog ops Q (op :: rest) a w :=
  wpList_plain hgd fun K hK => by
    have h2 := hK _ _ h
    unfold Oper.wp execOp
    simp only [ho]
    simp [hx, hy, hz, hrun]
    exact h2
theorem li_zero (r : Nat) : LI (St0 r) (fun _ => 0) (fun _ => 0) := by
  refine ⟨?_, fun x h => ?_, ?_, List.Pairwise.nil, fun x h => ?_⟩
  · rintro x P ⟨i, _, h⟩
    cases h
  · have h2 : n0 (x % 256).toNat = true := (live_iff.1 h).2.2.1
    cases h2
  · show ([] : List Int).Nodup
    simp
  · cases h
theorem lm_new {w1 : World} {p r : Nat} (hp : w1.rowIs p 189 513 (poolF r z0 n0)) :
    ∃ F, LSB ((w1.alloc (.map #[] 0)).alloc (.cells (newL p w1.heap.size).toArray 138)) (w1.heap.size + 1) F (St0 r) ∧ ∀ b, F b → b = p ∨ w1.heap.size ≤ b := by
  have hpl := hp.lt
  have hs : (w1.alloc (.map #[] 0)).heap.size = w1.heap.size + 1 := by simp
  have hrow : ((w1.alloc (.map #[] 0)).alloc (.cells (newL p w1.heap.size).toArray 138)).rowIs (w1.heap.size + 1) 138 516 (lF p w1.heap.size 1 (fun _ => 0) (fun _ => 0) (.slice none 0 0)) := by
    have h := World.rowIs_alloc (w1.alloc (.map #[] 0)) (newL p w1.heap.size).toArray 138 (lF p w1.heap.size 1 (fun _ => 0) (fun _ => 0) (.slice none 0 0)) (fun i hi => by
      have hi' : i < 516 := by simpa [newL] using hi
      unfold newL
      simp [hi'])
    rw [hs] at h
    have e : (newL p w1.heap.size).toArray.size = 516 := by simp [newL]
    rwa [e] at h
  have hb : Below w1.heap.size w1 ((w1.alloc (.map #[] 0)).alloc (.cells (newL p w1.heap.size).toArray 138)) := bthen (alloc_below _ _) (alloc_below _ _)
  have hm : TM ((w1.alloc (.map #[] 0)).alloc (.cells (newL p w1.heap.size).toArray 138)) w1.heap.size (fun _ => none) := (TM.new w1).same ((alloc_below (w1.alloc (.map #[] 0)) (.cells (newL p w1.heap.size).toArray 138)).block _ (by rw [hs]; omega))
  refine ⟨lfoot (w1.heap.size + 1) p w1.heap.size (fun _ _ => False) (.slice none 0 0), ⟨fun _ => 0, fun _ => 0, ⟨p, w1.heap.size, fun _ => none, fun _ _ => False, .slice none 0 0, fun b => if b = p then 1 else if b = w1.heap.size then 2 else 0, ⟨hrow, World.rowIs.keep hp hb, hm, fun i _ => ⟨rfl, fun _ c => c⟩, ColX.nil _ _ _ _, ?_, ?_, ?_, fun b e => (by cases e), fun i _ b c => c.elim⟩, fun _ => Iff.rfl⟩, li_zero r⟩, ?_⟩
  · show (if w1.heap.size + 1 = p then 1 else if w1.heap.size + 1 = w1.heap.size then 2 else 0) = 0
    rw [if_neg (by omega), if_neg (by omega)]
  · show (if p = p then 1 else if p = w1.heap.size then 2 else 0) = 1
    rw [if_pos rfl]
  · show (if w1.heap.size = p then 1 else if w1.heap.size = w1.heap.size then 2 else 0) = 2
    rw [if_neg (by omega), if_pos rfl]
  · rintro b (e | e | e | e | ⟨i, _, e⟩)
    · exact Or.inr (by omega)
    · exact Or.inl e
    · exact Or.inr (by omega)
    · cases e
    · exact e.elim
set_option maxHeartbeats 2000000 in
set_option maxRecDepth 100000 in
theorem lnew_any (w : World) (r : Nat) (hr : r ≤ 256) :
    Calls Tryz.prog 25 #[.int .i64 r] w fun e w' => ∃ g F, e = .returned (.tuple #[.pointer (some ⟨g, 0, none⟩), .int .i64 0]) ∧ LSB w' g F (St0 r) ∧ (∀ b, F b → w.heap.size ≤ b) ∧ Below w.heap.size w w' := by
  have HPn := Lib.hid (qnew r w hr)
  have hmm := @run_makeMap Tryz.prog
  clear hr
  go_enter Tryz.func25, Tryz.ntmps25
  go_wp2_with fail
  refine HPn.out.mono ?_
  rintro e w1 ⟨p, rfl, hp, hrow, hb⟩
  obtain ⟨F, hF1, hF2⟩ := lm_new hrow
  have HF := Lib.hid (And.intro hF1 hF2)
  have HB := Lib.hid hb
  have HP := Lib.hid hp
  have HBd := Lib.hid (build_nl p w1.heap.size)
  obtain ⟨X, hX⟩ : ∃ X, X = newL p w1.heap.size := ⟨_, rfl⟩
  rw [← hX] at HF HBd
  clear hF1 hF2 hb hp hrow hX HPn
  go_wp2_with (refine wpList_bld3 rfl 138 (.tmp 14) (.tmp 15) (.const (.int .i64 1)) rfl (.pointer (some ⟨p, 0, none⟩)) (.map (some w1.heap.size)) (.int .i64 1) (.agg X.toArray) rfl rfl rfl HBd.out ?_)
  go_ret2
  refine ⟨w1.heap.size + 1, F, rfl, HF.out.1, fun b hb => ?_, bthen HB.out (bthen (alloc_below _ _) (alloc_below _ _))⟩
  rcases HF.out.2 b hb with c | c
  · rw [c]; exact HP.out
  · exact Nat.le_trans HB.out.size c
set_option maxHeartbeats 1000000 in
set_option maxRecDepth 100000 in
theorem lbad_any (w : World) (x : Int) (hx : x < 0 ∨ 256 < x) :
    Calls Tryz.prog 25 #[.int .i64 x] w fun e w' => e = .returned (.tuple #[.pointer none, .int .i64 1]) ∧ Below w.heap.size w w' := by
  have HPn := Lib.hid (qbad x w hx)
  clear hx
  go_enter Tryz.func25, Tryz.ntmps25
  go_wp2_with fail
  refine HPn.out.mono ?_
  rintro e w1 ⟨rfl, hb⟩
  have HB := Lib.hid hb
  clear hb HPn
  go_wp2
  go_ret2
  exact ⟨rfl, HB.out⟩

set_option maxHeartbeats 1000000 in
theorem qallD (g R : Nat) (G : Nat → Int) (L : Nat → Bool) (w : World) (hP : POk R G L) (row : w.rowIs g 189 513 (poolF R G L)) :
    Calls Tryz.prog 161 #[.pointer (some ⟨g, 0, none⟩)] w fun e w' => ∃ v, e = .returned v ∧ OwnD w' w.heap.size v (allL G L 256).length (allL G L 256) ∧ Below w.heap.size w w' := by
  have hall : allL G L 256 = allL G L R := by
    have h1 := all_room (G := G) (fun i hi => (hP.2.2 i hi).1) (256 - R)
    have h2 := hP.1
    rwa [show R + (256 - R) = 256 by omega] at h1
  rw [hall]
  have hR := hP.1
  have HRow := Lib.hid row
  have HG := Lib.hid hP.gen
  have cr := pool_room row
  clear row hP hall
  obtain ⟨i0, hi0, hz0, hz1, hz2⟩ := info_parts id_info
  have HI := Lib.hid (And.intro hi0 (And.intro hz0 (And.intro hz1 hz2)))
  clear hi0 hz0 hz1 hz2
  go_enter Tryz.func161, Tryz.ntmps161
  go_wp2
  go_loopw [3, 11] (fun v i wr => ∃ k : Nat, k ≤ R ∧ i = .int .i64 k ∧ OwnD wr w.heap.size v (allL G L k).length (allL G L k) ∧ Below w.heap.size w wr) (fun _ i _ => R - (ivl i).toNat)
  case atStart => exact ⟨0, by omega, rfl, OwnD.nil _ _, Below.refl _ _⟩
  case round =>
    clear cr
    obtain ⟨k, hk, rfl, hown, hb⟩ := hrel
    have HOwn := Lib.hid hown
    have HB := Lib.hid hb
    clear hown hb
    have HR2 := Lib.hid (World.rowIs.keep HRow.out HB.out)
    by_cases hlt : k < R
    · have cl := pool_live HR2.out (k := k) (by omega)
      have hk0 : (0 : Int) ≤ (k : Int) := by omega
      have hk1 : (k : Int) < 256 := by omega
      have hkR : (k : Int) < (R : Int) := by omega
      have zg : g < wr.heap.size := HR2.out.lt
      have hle := all_len G L k
      by_cases hL : L k = true
      · rw [hL] at cl
        have HA := Lib.hid (all_yes (G := G) hL)
        clear hL
        obtain ⟨n, hn⟩ : ∃ n, n = (allL G L k).length := ⟨_, rfl⟩
        rw [← hn] at HOwn hle
        have HN := Lib.hid hn
        clear hn
        have hsz : w.heap.size ≤ wr.heap.size := HB.out.size
        go_wp2_with fail
        refine (qname g R G L k _ HG.out (by omega) HR2.out).mono ?_
        rintro e w1 ⟨rfl, rfl⟩
        go_wp2_with (at_builtin; refine wpList_append_own _ rfl (.tmp 20) (.tmp 24) 35 rfl w.heap.size 81 i0 (.int .i64 0) 1 8 Tryz.underlying35 HI.out.1 HI.out.2.1 HI.out.2.2.1 HI.out.2.2.2 rfl (by decide) _ _ _ rfl (HOwn.out.alloc _) ⟨wr.heap.size, 0, none⟩ 1 1 [.int .i64 (nm (G k) k)] rfl rfl (cell_one_new _ _ _) (by intro u hu; simp at hu; subst hu; rfl) (by unfold maxLen; omega) (by omega) (by simp; omega) ?_)
        intro v' w2 hown' hgrow _
        have HOwn' := Lib.hid hown'
        have HGr := Lib.hid hgrow
        clear hown' hgrow
        go_wp2
        go_roundw
        case rel =>
          have el : (allL G L (k + 1)).length = n + 1 := by rw [HA.out, List.length_append, ← HN.out]; rfl
          refine ⟨k + 1, by omega, by go_num, ?_, grownD_below HOwn.out (Nat.le_refl _) HB.out hsz HGr.out⟩
          rw [el]
          unfold OwnD
          rw [HA.out, List.map_append]
          exact HOwn'.out
        case measure => simp [ivl] <;> omega
      · have hL' : L k = false := by simpa using hL
        rw [hL'] at cl
        have HA := Lib.hid (all_no (G := G) hL')
        clear hL hL'
        go_wp2
        go_roundw
        case rel => exact ⟨k + 1, by omega, by go_num, by rw [HA.out]; exact HOwn.out, HB.out⟩
        case measure => simp [ivl] <;> omega
    · obtain rfl : k = R := by omega
      obtain ⟨a, cap, hv, _⟩ := HOwn.out.row
      subst hv
      go_wp2
      go_ret
      exact ⟨_, rfl, HOwn.out, HB.out⟩
set_option maxHeartbeats 1000000 in
set_option maxRecDepth 100000 in
theorem lallD_any {w : World} {g : Nat} {F : Nat → Prop} {S : St} (h0 : LSB w g F S) (hW : WS S) :
    Calls Tryz.prog 92 #[.pointer (some ⟨g, 0, none⟩)] w fun e w' => ∃ v, e = .returned v ∧ LRes w w' (alS S) v ∧ Below w.heap.size w w' := by
  have hg := h0.inH
  obtain ⟨ls, lt, ⟨p, mb, ts, Lf, gv, lab, h, hF⟩, hI⟩ := h0
  have c0 := h.c0
  have HAl : Hid (Calls Tryz.prog 161 #[.pointer (some ⟨p, 0, none⟩)] w fun e w' => ∃ v, e = .returned v ∧ LRes w w' (alS S) v ∧ Below w.heap.size w w') := Lib.hid ((qallD p S.room S.G S.L w hW.ok h.pool).mono fun _ _ ⟨v, he, ho, hb⟩ => ⟨v, he, LRes.of9 ho (Nat.le_refl _), hb⟩)
  clear h hF hI hW
  go_enter Tryz.func92, Tryz.ntmps92
  go_wp2_with fail
  refine HAl.out.mono ?_
  rintro e w1 ⟨v, rfl, hr, hb⟩
  have HR := Lib.hid (And.intro hr hb)
  clear hr hb
  go_wp2
  go_ret
  exact ⟨v, rfl, HR.out.1, HR.out.2⟩

section
variable {SB : World → Nat → (Nat → Prop) → St → Prop}
end
theorem wp_scope_once {P : Program} {a : Go.Act} {w : World} {Q : Exit → Go.Act → World → Prop} {c rest : Code} (l : Nat) (J : Go.Act → World → Prop) (μ : Go.Act → World → Nat) (hf : findLabel c l = some (Code.skip.seq rest))
    (pass : ∀ a w, J a w → rest.wp P (Exit.jump l (fun a' w' => J a' w' ∧ μ a' w' < μ a w) Q) a w)
    (first : (∀ a w, J a w → rest.wp P (Exit.jump l J Q) a w) → c.wp P (Exit.jump l J Q) a w) : (Code.scope c).wp P Q a w :=
  wp_scope_jumps l J μ hf (first (fun a w h => Code.wp_mono (fun e a' w' q => by
    cases e with
    | goto l' => exact ⟨q.1, q.2.1⟩
    | _ => exact q) (pass a w h))) (fun a w h => wp_seq (wp_skip (pass a w h)))
set_option maxRecDepth 100000 in
theorem wpList_cat9_at {ops : Array Oper} {rest : List Oper} {op : Oper} {a : Go.Act} {w : World} {Q : Exit → Go.Act → World → Prop} (hgd : op.guard = none) (ts tb : Operand)
    (ho : op.op = .call { callee := .builtin .append, args := #[ts, tb], argTypes := #[35, 35] }) (base n : Nat) (v : Value) (zs : List Int) (hs : a.eval ts = v) (hown : OwnD w base v n zs) (x : Option Addr) (m cap : Nat) (ys : List Int) (hx : a.eval tb = .slice x m cap) (row : Row w x m ys) (hn : n ≤ 100000) (hm : m ≤ 100000) (hb : base ≤ w.heap.size)
    (h : ∀ v' w', OwnD w' base v' (n + m) (zs ++ ys) → w.grownBy w' v.ownBlock → (v'.ownBlock = v.ownBlock ∨ v'.ownBlock = some w.heap.size) → wpList Tryz.prog ops Q rest (a.put op.dst v') w') : wpList Tryz.prog ops Q (op :: rest) a w := by
  obtain ⟨i0, hi0, hz0, hz1, hz2⟩ := info_parts id_info
  have hl : ys.length = m := row.1
  cases x with
  | none =>
    have hm0 : m = 0 := by
      rcases row.2.2 with c | ⟨b, off, e, _⟩
      · exact c
      · cases e
    subst hm0
    have hys : ys = [] := List.eq_nil_of_length_eq_zero hl
    subst hys
    have h2 := h v w (by rw [Nat.add_zero, List.append_nil]; exact hown) ⟨rfl, rfl, rfl, Nat.le_refl _, fun _ _ _ => rfl⟩ (Or.inl rfl)
    have hr : (Builtin.append_ #[35, 35] op.type #[v, .slice none 0 cap]).run Tryz.prog w = .ok v w := by
      rcases hown.2 with ⟨rfl, _⟩ | ⟨g, c, cur, rfl, _, _, hnc, _⟩
      · simp [Builtin.append_, run_underlying Tryz.underlying35, sizeOf, typeInfo, hi0, Builtin.lenOf, Builtin.firstCells]
      · simp [Builtin.append_, run_underlying Tryz.underlying35, sizeOf, typeInfo, hi0, Builtin.lenOf, Builtin.firstCells, loadCells, storeCells, hnc]
    refine wpList_plain hgd fun K hK => ?_
    have h3 := hK _ _ h2
    unfold Oper.wp execOp
    simp only [ho, resolve, invoke, builtin, Sem.run_bind, Sem.run_pure, Result.andThen_ok, List.map_toArray, List.map_cons, List.map_nil, hs, hx, hr]
    exact h3
  | some ad =>
    have hnews : ∀ j u, (ys.map (Value.int .i64))[j]? = some u → w.cell? (ad.add j) = some u := fun j u hu => by
      have hj : j < m := by have := (List.getElem?_eq_some_iff.1 hu).1; rw [List.length_map, hl] at this; exact this
      obtain ⟨b, off, y, e, hy, cy⟩ := row_at row hj
      injection e with e
      subst e
      rw [Addr.add_mid, cy]
      rw [List.getElem?_map, hy] at hu
      exact hu
    refine wpList_append_own_at _ hgd ts tb 35 ho base 81 i0 (.int .i64 0) 1 8 Tryz.underlying35 hi0 hz0 hz1 hz2 rfl (by decide) v n (zs.map (Value.int .i64)) hs hown ad m cap (ys.map (Value.int .i64)) hx (by rw [List.length_map, hl, Nat.mul_one]) hnews (one_enc ys) (by unfold maxLen; omega) (by omega) hb ?_
    intro v' w' h1 h2 _ h4
    refine h v' w' ?_ h2 h4
    unfold OwnD
    rw [List.map_append]
    exact h1
def slen : Value → Nat
  | .slice _ n _ => n
  | _ => 0
structure UInv (w wr : World) (L : FT) (xs : List Int) (v5 v8 : Value) (pre S : List Int) : Prop where
  eq : undL L xs = pre ++ S.reverse.flatMap (beh L)
  own5 : OwnD wr w.heap.size v5 pre.length pre
  own8 : OwnD wr w.heap.size v8 S.length S
  far : ∀ b, v5.ownBlock = some b → v8.ownBlock ≠ some b
  low : Below w.heap.size w wr
  rng : Rgs S
theorem flat_ge {L : FT} (h : WF L) : ∀ S : List Int, S.length ≤ (S.flatMap (beh L)).length
  | [] => Nat.le_refl _
  | x :: S => by
    have ih := flat_ge h S
    rw [List.flatMap_cons, List.length_append, List.length_cons, beh_eq h, List.length_cons]
    omega
theorem capOk_own {w : World} {base n : Nat} {v : Value} {zs : List Int} (h : OwnD w base v n zs) : CapOk v := by
  rcases h.2 with ⟨rfl, _⟩ | ⟨g, cap, cur, rfl, _, _, hn, _⟩
  · exact ⟨none, 0, 0, rfl, Nat.le_refl _⟩
  · exact ⟨_, n, cap, rfl, hn⟩
section
variable {w : World} {g gp gc : Nat} {L : FT} {bl cp : Int → Nat}
set_option maxHeartbeats 8000000 in
set_option maxRecDepth 100000 in
theorem lunder_any (h : LF w g L gp gc bl cp) (hW : WF L) (hL : L.length ≤ 1000) {a : Option Addr} {n cap : Nat} {xs : List Int} (hn : n ≤ 1000) (hr : Row w a n xs) (hx : Rgs xs) :
    Calls Tryz.prog 129 #[.pointer (some ⟨g, 0, none⟩), .slice a n cap] w fun e w' => ∃ v, e = .returned v ∧ LRes w w' (undL L xs) v ∧ CapOk v ∧ Below w.heap.size w w' := by
  have HTo := Lib.hid (ltops_any (cap := cap) h hW hn hr hx)
  have hul := undL_len hW xs
  rw [hr.1] at hul
  have HW := Lib.hid hW
  have HTr : Hid (Rgs (topL L xs)) := Lib.hid (fun z hz => hx z (mem_cmpS.1 (List.mem_filter.1 hz).1))
  have HUt := Lib.hid (und_tops L xs)
  have HCh : Hid (∀ u z, Below w.heap.size w u → Rg z → Calls Tryz.prog 121 #[.pointer (some ⟨g, 0, none⟩), .int .i64 z] u fun e w' => ∃ v, e = .returned v ∧ OwnD w' u.heap.size v (chF L z).length (chF L z) ∧ Below u.heap.size u w') := Lib.hid (fun u z q hz => lchildren_any (h.keep q) hL hz)
  have HCr : Hid (∀ x z, z ∈ chF L x → Rg z) := Lib.hid (fun x z hz => ch_rng hW.1 h.rng hz)
  obtain ⟨i0, hi0, hz0, hz1, hz2⟩ := info_parts id_info
  have HI := Lib.hid (And.intro hi0 (And.intro hz0 (And.intro hz1 hz2)))
  obtain ⟨N, hN⟩ : ∃ N, N = (undL L xs).length := ⟨_, rfl⟩
  rw [← hN] at hul
  have HN := Lib.hid hN
  clear h hW hr hx hi0 hz0 hz1 hz2 hN
  go_enter Tryz.func129, Tryz.ntmps129
  go_wp2
  refine wp_scope_once 0 (fun a' wr => ∃ (pre S : List Int) (v5 v6 v7 v8 u9 u10 u11 u12 u13 u14 u15 u16 u17 u18 u19 u20 u21 u22 u23 u24 u25 u26 u27 u28 u29 u30 u31 u32 u33 u34 u35 u36 u37 u38 u39 u40 u41 u42 : Value), a' = { tmps := #[.pointer (some ⟨g, 0, none⟩), .slice a n cap, undef, undef, .slice none 0 0, v5, v6, v7, v8, u9, u10, u11, u12, u13, u14, u15, u16, u17, u18, u19, u20, u21, u22, u23, u24, u25, u26, u27, u28, u29, u30, u31, u32, u33, u34, u35, u36, u37, u38, u39, u40, u41, u42], defers := [] } ∧ UInv w wr L xs v5 v8 pre S) (fun a' _ => N - slen (a'.tmps.getD 5 undef)) rfl ?_ ?_
  · rintro a' wr ⟨pre, S, v5, v6, v7, v8, u9, u10, u11, u12, u13, u14, u15, u16, u17, u18, u19, u20, u21, u22, u23, u24, u25, u26, u27, u28, u29, u30, u31, u32, u33, u34, u35, u36, u37, u38, u39, u40, u41, u42, rfl, hinv⟩
    have HV := Lib.hid hinv
    have hge := flat_ge HW.out S.reverse
    have hln : pre.length + (S.reverse.flatMap (beh L)).length = N := by rw [HN.out, hinv.eq, List.length_append]
    rw [List.length_reverse] at hge
    obtain ⟨qa, qcap, hqv, -⟩ := hinv.own5.row
    have hsz := hinv.low.size
    clear hinv
    rcases List.eq_nil_or_concat S with rfl | ⟨S', id, rfl⟩
    · have HR : Hid (undL L xs = pre) := Lib.hid (by rw [HV.out.eq]; simp)
      obtain ⟨ea, ecap, rfl, -⟩ := HV.out.own8.row
      have HE : Hid (LRes w wr (undL L xs) v5 ∧ CapOk v5 ∧ Below w.heap.size w wr) := Lib.hid ⟨by rw [HR.out]; exact LRes.of9 HV.out.own5 (Nat.le_refl _), capOk_own HV.out.own5, HV.out.low⟩
      clear hqv
      go_wp2
      simp only [Exit.jump]
      go_ret
      exact ⟨v5, rfl, HE.out⟩
    · have hrid : Rg id := HV.out.rng id (by simp)
      have HRid := Lib.hid hrid
      have HRS : Hid (Rgs S') := Lib.hid (fun z hz => HV.out.rng z (by simp [hz]))
      have hl8 : (S' ++ [id]).length = S'.length + 1 := by simp
      have o8 := HV.out.own8
      rw [List.concat_eq_append] at o8 hge hln
      rw [hl8] at o8 hge
      obtain ⟨q, hq⟩ : ∃ q, q = S'.length := ⟨_, rfl⟩
      rw [← hq] at o8 hge
      have HEq : Hid (undL L xs = (pre ++ [id]) ++ (S' ++ (chF L id).reverse).reverse.flatMap (beh L)) := Lib.hid (by
        rw [HV.out.eq, List.concat_eq_append, List.reverse_append, List.reverse_append, List.reverse_reverse, List.reverse_singleton, List.singleton_append, List.flatMap_cons, List.flatMap_append, beh_eq HW.out id]
        simp)
      have HFar := Lib.hid HV.out.far
      rcases o8.2 with ⟨_, k0⟩ | ⟨b8, cap8, cur8, hv8, _⟩
      · omega
      · subst hv8
        have cid : wr.cell? ⟨b8, q, none⟩ = some (.int .i64 id) := o8.at_ (by rw [hq]; simp)
        have hb8 := (o8.lt _ rfl).2
        have hc8 : q + 1 ≤ cap8 := by obtain ⟨_, _, _, _, z, _⟩ := o8.cells; exact z
        have O8 := Lib.hid (show OwnD wr w.heap.size (.slice (some ⟨b8, 0, none⟩) q cap8) q S' from by
          have := o8.cut (k := q) (by omega)
          rwa [List.take_left' hq.symm] at this)
        have O5 := Lib.hid HV.out.own5
        have HB := Lib.hid HV.out.low
        obtain ⟨m5, hm5⟩ : ∃ m5, m5 = pre.length := ⟨_, rfl⟩
        rw [← hm5] at O5 hln hqv
        have hlt5 : m5 < N := by omega
        have hm5b : m5 ≤ 2000 := by omega
        have hqb : q ≤ 2000 := by omega
        subst hqv
        clear o8 HV hl8 hq hrid hm5 hln hge
        have w1 : IntKind.i64.wrap (((q + 1 : Nat) : Int) - 1) = (q : Int) := by rw [IntKind.wrap_i64]; omega
        have z0 : ¬ (((q + 1 : Nat) : Int) = 0) := by omega
        have z1 : (0 : Int) ≤ (q : Int) := by omega
        have z2 : (q : Int) < ((q + 1 : Nat) : Int) := by omega
        have z3 : (q : Int) ≤ (cap8 : Int) := by omega
        obtain ⟨q1, hq1⟩ : ∃ q1, q1 = q + 1 := ⟨_, rfl⟩
        rw [← hq1] at w1 z0 z2 ⊢
        have hq1b : q1 ≤ 2001 := by omega
        clear hq1
        go_wp2
        go_quiet (fail)
        refine fin (fun W => OwnD W w.heap.size (.slice (some ⟨b8, 0, none⟩) q cap8) q S' ∧ OwnD W w.heap.size (.slice qa m5 qcap) m5 pre ∧ Below w.heap.size w W) ⟨O8.out.keep (Go.below_drewN (Below.refl _ _) nq), O5.out.keep (Go.below_drewN (Below.refl _ _) nq), Go.below_drewN HB.out nq⟩ ?_
        clear O8 O5 HB cid hb8
        rintro W ⟨o8, o5, hbw⟩
        have O8 := Lib.hid o8
        have O5 := Lib.hid o5
        have HB := Lib.hid hbw
        have hsW := hbw.size
        clear o8 o5 hbw
        go_wp2_with (at_builtin; refine wpList_append_own_at _ rfl (.tmp 31) (.tmp 33) 35 rfl w.heap.size 81 i0 (.int .i64 0) 1 8 Tryz.underlying35 HI.out.1 HI.out.2.1 HI.out.2.2.1 HI.out.2.2.2 rfl (by decide) _ _ _ rfl (O5.out.alloc _) ⟨W.heap.size, 0, none⟩ 1 1 [.int .i64 id] rfl rfl (cell_one_new _ _ _) (by intro u hu; simp at hu; subst hu; rfl) (by unfold maxLen; omega) (by omega) (by simp; omega) ?_)
        intro v5' W2 k1 k2 _ k4
        have O5b : Hid (OwnD W2 w.heap.size v5' (m5 + 1) (pre ++ [id])) := Lib.hid (by unfold OwnD; rw [List.map_append]; exact k1)
        have HB2 := Lib.hid (grownD_below O5.out (Nat.le_refl _) HB.out hsW k2)
        have O8b : Hid (OwnD W2 w.heap.size (.slice (some ⟨b8, 0, none⟩) q cap8) q S') := Lib.hid (by
          have hal : Below W.heap.size W (W.alloc (.cells #[.int .i64 id] 81)) := alloc_below _ _
          have o := O8.out.keep hal
          exact o.same (fun b e => k2.block b (o.lt b e).2 (fun e2 => HFar.out b e2.symm e)))
        have HFar2 : Hid (∀ b, v5'.ownBlock = some b → b ≠ b8) := Lib.hid (fun b e e2 => by
          rcases k4 with c | c
          · exact HFar.out b (c ▸ e) (by rw [e2]; rfl)
          · rw [c] at e
            injection e with e
            have h1 := (O8.out.lt b8 rfl).2
            have h2 : W.heap.size ≤ (W.alloc (.cells #[.int .i64 id] 81)).heap.size := (alloc_below W _).size
            omega)
        have hs2 := HB2.out.size
        obtain ⟨a5, c5, hv5, -⟩ := O5b.out.row
        subst hv5
        have HLt : Hid ((∀ b, (Value.slice a5 (m5 + 1) c5).ownBlock = some b → b < W2.heap.size) ∧ b8 < W2.heap.size) := Lib.hid ⟨fun b e => (O5b.out.lt b e).2, (O8b.out.lt b8 rfl).2⟩
        clear k1 k2 k4 O8 O5 HB HFar
        have HC := Lib.hid (HCh.out W2 id HB2.out HRid.out)
        go_wp2_with fail
        refine HC.out.mono ?_
        rintro e W3 ⟨v6b, rfl, o6, b3⟩
        have HRv := Lib.hid (rev9_any o6)
        have O6 := Lib.hid o6
        replace O5b := Lib.hid (O5b.out.keep b3)
        replace O8b := Lib.hid (O8b.out.keep b3)
        obtain ⟨xa, xcap, hx6, -⟩ := o6.row
        subst hx6
        have HB3 := Lib.hid (bthen HB2.out b3)
        have hs3 := HB3.out.size
        have hs23 := b3.size
        clear o6 b3 HC
        obtain ⟨mk, hmk⟩ : ∃ mk, mk = (chF L id).length := ⟨_, rfl⟩
        have hmk2 := chF_len L id
        rw [← hmk] at hmk2 HRv O6 ⊢
        clear hmk
        go_wp2_with fail
        refine HRv.out.mono ?_
        rintro e W4 ⟨rfl, o6, g4⟩
        have HB4 := Lib.hid (own_below9 O6.out hs2 HB3.out g4)
        have hs4 := HB4.out.size
        have O5d : Hid (OwnD W4 w.heap.size (.slice a5 (m5 + 1) c5) (m5 + 1) (pre ++ [id])) := Lib.hid (O5b.out.same (fun b e => g4.block b (O5b.out.lt b e).2 (fun e2 => by
          have h1 := (O6.out.lt b e2.symm).1
          have h2 := HLt.out.1 b e
          omega)))
        have O8d : Hid (OwnD W4 w.heap.size (.slice (some ⟨b8, 0, none⟩) q cap8) q S') := Lib.hid (O8b.out.same (fun b e => g4.block b (O8b.out.lt b e).2 (fun e2 => by
          have h1 := (O6.out.lt b e2.symm).1
          injection e with e
          have e : b8 = b := e
          have h2 := HLt.out.2
          omega)))
        have HX : Hid (Row W4 xa mk (chF L id).reverse) := Lib.hid (by
          obtain ⟨xa2, xcap2, e9, r9⟩ := o6.row
          injection e9 with e9 _ _
          rw [e9]
          exact r9)
        clear o6 g4 O6 O5b O8b HRv HB3 HB2
        go_wp2_with (at_builtin; refine wpList_cat9_at rfl (.tmp 40) (.tmp 41) rfl w.heap.size q _ S' rfl O8d.out xa mk xcap (chF L id).reverse rfl HX.out (by omega) (by omega) hs4 ?_)
        intro v8' W5 k1 k2 k3
        have HF : Hid (UInv w W5 L xs (.slice a5 (m5 + 1) c5) v8' (pre ++ [id]) (S' ++ (chF L id).reverse)) := Lib.hid (by
          have hl9 : (S' ++ (chF L id).reverse).length = q + mk := by
            have := k1.len
            exact this
          have hp9 : (pre ++ [id]).length = m5 + 1 := O5d.out.len
          refine ⟨HEq.out, ?_, by rw [hl9]; exact k1, fun b e e2 => ?_, own_below9 O8d.out (Nat.le_refl _) HB4.out k2, fun z hz => ?_⟩
          · rw [hp9]
            exact O5d.out.same (fun b e => k2.block b (O5d.out.lt b e).2 (fun e2 => by injection e2 with e2; exact HFar2.out b e e2))
          · rcases k3 with c | c
            · rw [c] at e2
              injection e2 with e2
              exact HFar2.out b e e2.symm
            · rw [c] at e2
              injection e2 with e2
              have := (O5d.out.lt b e).2
              omega
          · rcases List.mem_append.1 hz with hz | hz
            · exact HRS.out z hz
            · exact HCr.out id z (List.mem_reverse.1 hz))
        clear k1 k2 k3 O5d O8d HX HB4
        go_wp2
        go_step3
        refine ⟨rfl, ⟨pre ++ [id], S' ++ (chF L id).reverse, _, _, _, _, _, _, _, _, _, _, _, _, _, _, _, _, _, _, _, _, _, _, _, _, _, _, _, _, _, _, _, _, _, _, _, _, _, _, rfl, HF.out⟩, ?_⟩
        show N - (m5 + 1) < N - m5
        omega
  · intro hrest
    have HRest := Lib.hid hrest
    clear hrest
    go_wp2_with fail
    refine HTo.out.mono ?_
    rintro e w1 ⟨v8, rfl, o8, b1⟩
    have HRv := Lib.hid (rev9_any o8)
    have O8 := Lib.hid o8
    have HB1 := Lib.hid b1
    clear o8 b1 HTo
    go_wp2_with fail
    refine HRv.out.mono ?_
    rintro e w2 ⟨rfl, o8, g2⟩
    have HF : Hid (UInv w w2 L xs (.slice none 0 0) v8 [] (topL L xs).reverse) := Lib.hid ⟨by rw [HUt.out, List.reverse_reverse]; rfl, OwnD.nil _ _, by rw [List.length_reverse]; exact o8, fun b e => (by cases e), own_below9 O8.out (Nat.le_refl _) HB1.out g2, fun z hz => HTr.out z (List.mem_reverse.1 hz)⟩
    clear o8 g2 HRv O8 HB1
    go_wp2
    go_step3
    rename_i K9 hK9 
    refine hK9 _ _ ?_
    exact HRest.out _ _ ⟨[], (topL L xs).reverse, _, _, _, _, _, _, _, _, _, _, _, _, _, _, _, _, _, _, _, _, _, _, _, _, _, _, _, _, _, _, _, _, _, _, _, _, _, _, rfl, HF.out⟩
end
theorem hasX (s x : Int) : hasAll s [x] = hasB s x := by unfold hasAll; simp
theorem bldF_zero (W : World) : (Instr.build 205 #[]).run Tryz.prog W = .ok (.agg (cNd n0d).toArray) W := by kernel_rfl
section
variable {SB : World → Nat → (Nat → Prop) → St → Prop} {FB : World → Nat → (Nat → Prop) → FT → Prop}
set_option maxHeartbeats 16000000 in
set_option maxRecDepth 100000 in
theorem lnode11_any (hC : SCx SB) (hF : FCx FB) {w : World} {g : Nat} {F : Nat → Prop} {X : Sc} (h0 : LXB SB FB w g F X) (hW : WX X) (hB : BSc X 900) (id : Int) (hid : Rg id) :
    Calls Tryz.prog 128 #[.pointer (some ⟨g, 0, none⟩), .int .i64 id] w fun e w' => ∃ Y, e = .returned (.tuple #[.agg (List.toArray Y), .bool (getB X.S id)]) ∧ Y = cNd (nodeX X id) ∧ Below w.heap.size w w' := by
  obtain ⟨P, hP⟩ : ∃ P, P = getP X.S id := ⟨_, rfl⟩
  obtain ⟨ok, hok⟩ : ∃ ok, ok = getB X.S id := ⟨_, rfl⟩
  have hN : nodeX X id = if ok then ⟨id, (parO X.L id).getD (-1), if hasB P.1 0 then P.2.1 else sameM, hasB P.1 4⟩ else n0d := by rw [hok, hP]; rfl
  have hKX := kb_lxb hC.kb hF.kb (SB := SB) (FB := FB)
  have HGet : Hid (∀ u, Below w.heap.size w u → Calls Tryz.prog 136 #[.pointer (some ⟨g, 0, none⟩), .int .i64 id] u fun e w' => e = .returned (.tuple #[.agg (pl P).toArray, .bool ok]) ∧ Below u.heap.size u w') := Lib.hid (fun u q => (lget11_any hC hF (hKX.keep h0 q) hW hB id).mono fun e w' ⟨Y, k1, k2, k3⟩ => ⟨by rw [k1, k2, hP, hok], k3⟩)
  obtain ⟨o, ho⟩ : ∃ o, o = parO X.L id := ⟨_, rfl⟩
  have HPar : Hid (∀ u, Below w.heap.size w u → Calls Tryz.prog 196 #[.pointer (some ⟨g, 0, none⟩), .int .i64 id] u fun e w' => e = .returned (.tuple #[.int .i64 (parV o), .bool o.isSome]) ∧ Below u.heap.size u w') := Lib.hid (fun u q => by rw [ho]; exact lparent11_any hC hF (hKX.keep h0 q) hW hB id hid)
  obtain ⟨is, his⟩ : ∃ is, is = o.isSome := ⟨_, rfl⟩
  obtain ⟨pv, hpv⟩ : ∃ pv, pv = parV o := ⟨_, rfl⟩
  obtain ⟨up, hup⟩ : ∃ up, up = o.getD (-1) := ⟨_, rfl⟩
  have HUp : Hid ((is = false ∧ up = -1) ∨ (is = true ∧ up = pv)) := Lib.hid (by
    rw [his, hup, hpv]
    cases o with
    | none => exact Or.inl ⟨rfl, rfl⟩
    | some y => exact Or.inr ⟨rfl, rfl⟩)
  rw [← ho, ← hup] at hN
  rw [← his, ← hpv] at HPar
  rw [← hok]
  have HSame : Hid (∀ u, Calls Tryz.prog 194 #[] u fun e w' => e = .returned (.agg (lM sameM).toArray) ∧ Below u.heap.size u w') := Lib.hid (fun u => same_any u)
  obtain ⟨hs, hhs⟩ : ∃ hs, hs = P.1 := ⟨_, rfl⟩
  obtain ⟨pb, hpb⟩ : ∃ pb, pb = hasB P.1 0 := ⟨_, rfl⟩
  obtain ⟨hb, hhb⟩ : ∃ hb, hb = hasB P.1 4 := ⟨_, rfl⟩
  have HH0 : Hid (∀ u a, Row u a 1 [0] → Calls Tryz.prog 195 #[.int .i64 hs, .slice a 1 1] u fun e w' => e = .returned (.bool pb) ∧ u = w') := Lib.hid (fun u a r => by rw [hpb, hhs, ← hasX]; exact phas_any _ a 1 1 [0] u r)
  have HH4 : Hid (∀ u a, Row u a 1 [4] → Calls Tryz.prog 195 #[.int .i64 hs, .slice a 1 1] u fun e w' => e = .returned (.bool hb) ∧ u = w') := Lib.hid (fun u a r => by rw [hhb, hhs, ← hasX]; exact phas_any _ a 1 1 [4] u r)
  rw [← hpb, ← hhb] at hN
  have HPX : Hid (PXs (pl P)) := Lib.hid ⟨pl_len _, pl_size _, pl_size' _, pl_one _⟩
  obtain ⟨M, hM⟩ : ∃ M, M = P.2.1 := ⟨_, rfl⟩
  rw [← hM] at hN
  have HPC : Hid (∀ W gg, Blk W gg 52 (pl P).toArray → W.cell? ⟨gg, 0, none⟩ = some (.int .i64 hs) ∧ W.rangeAt gg 1 (lM M)) := Lib.hid (fun W gg k => ⟨by rw [hhs]; exact k.cell 0, by rw [hM]; exact blk_range k 1 12⟩)
  have HMX := Lib.hid (mx_any M)
  obtain ⟨XP, hXP⟩ : ∃ XP, XP = pl P := ⟨_, rfl⟩
  rw [← hXP] at HGet HPX HPC
  have HN := Lib.hid hN
  have HZ := Lib.hid (nx_flow n0d)
  have HBz := Lib.hid bldF_zero
  have HBn : Hid (∀ W, (Instr.build 205 #[(0, .int .i64 id), (1, .int .i64 (-1)), (2, .agg (lM sameM).toArray), (3, .bool hb)]).run Tryz.prog W = .ok (.agg (cNd ⟨id, -1, sameM, hb⟩).toArray) W) := Lib.hid (bld_nodeF id (-1) sameM hb)
  have HX1 := Lib.hid (nx_flow ⟨id, -1, sameM, hb⟩)
  have HXf : Hid (∀ n, NXs (cNd n) 205) := Lib.hid nx_flow
  have KZ := Lib.hid (Blk.new w 205 (cNd n0d).toArray)
  have HB0 : Hid (Below w.heap.size w (w.alloc (.cells (cNd n0d).toArray 205))) := Lib.hid (alloc_below _ _)
  obtain ⟨XS, hXS⟩ : ∃ XS, XS = lM sameM := ⟨_, rfl⟩
  rw [← hXS] at HSame HBn
  have HXS := Lib.hid hXS
  obtain ⟨X1, hX1⟩ : ∃ X1, X1 = cNd ⟨id, -1, sameM, hb⟩ := ⟨_, rfl⟩
  rw [← hX1] at HBn HX1
  have HX1e := Lib.hid hX1
  obtain ⟨ML, hML⟩ : ∃ ML, ML = lM M := ⟨_, rfl⟩
  rw [← hML] at HPC HMX
  have HMLe := Lib.hid hML
  clear hKX hC hF hid h0 hW hB hP hok hN ho his hpv hup hhs hpb hhb hM hXP hXS hX1 hML
  go_enter Tryz.func128, Tryz.ntmps128
  go_upto_region 1 with fail
  refine fin (fun W => Blk W w.heap.size 205 (cNd n0d).toArray ∧ Below w.heap.size w W) ⟨KZ.out, HB0.out⟩ ?_
  clear KZ HB0
  obtain ⟨XZ, hXZ⟩ : ∃ XZ, XZ = cNd n0d := ⟨_, rfl⟩
  rw [← hXZ] at HZ HBz
  rintro W ⟨kz, hbl⟩
  rw [← hXZ] at kz
  have HZe := Lib.hid hXZ
  have KZ := Lib.hid kz
  have HB := Lib.hid hbl
  clear kz hbl hXZ
  go_wp2_with fail
  refine (HGet.out W HB.out).mono ?_
  rintro e w1 ⟨rfl, b1⟩
  have z4 : w.heap.size < w1.heap.size := Nat.lt_of_lt_of_le KZ.out.lt b1.size
  replace KZ := Lib.hid (KZ.out.keep b1)
  replace HB := Lib.hid (bthen HB.out b1)
  have hal : Below w1.heap.size w1 (w1.alloc (.cells Z24.toArray 52)) := alloc_below _ _
  have hbs : Below w1.heap.size w1 ((w1.alloc (.cells Z24.toArray 52)).setCells w1.heap.size 0 XP) := below_setCells XP hal (Nat.le_refl _)
  have HT6 : Hid ((w1.alloc (.cells Z24.toArray 52)).there w1.heap.size 0 XP.toArray.size) := Lib.hid (blk_there (Blk.new w1 _ _) (by rw [List.size_toArray, HPX.out.1]; exact Nat.le_refl 24))
  have HE6 : Hid (Blk ((w1.alloc (.cells Z24.toArray 52)).setCells w1.heap.size 0 XP) w1.heap.size 52 XP.toArray ∧ Blk ((w1.alloc (.cells Z24.toArray 52)).setCells w1.heap.size 0 XP) w.heap.size 205 XZ.toArray ∧ Below w.heap.size w ((w1.alloc (.cells Z24.toArray 52)).setCells w1.heap.size 0 XP)) := Lib.hid ⟨blk_over (Blk.new w1 _ _) (by rw [HPX.out.1]; rfl), KZ.out.keep hbs, bthen HB.out hbs⟩
  clear b1 hal hbs HGet
  go_upto_region 2 with (refine wpList_store_mid rfl 52 (.tmp 6) (.tmp 15) rfl w1.heap.size 0 XP.toArray rfl rfl HT6.out HPX.out.2.2.1 HPX.out.2.2.2 ?_)
  refine fin (fun W => Blk W w1.heap.size 52 XP.toArray ∧ Blk W w.heap.size 205 XZ.toArray ∧ Below w.heap.size w W) HE6.out ?_
  clear HE6 HT6 KZ HB
  obtain ⟨g6, hg6⟩ : ∃ g6, g6 = w1.heap.size := ⟨_, rfl⟩
  rw [← hg6] at z4 ⊢
  rintro W2 ⟨k6, k4, hbl⟩
  have K6 := Lib.hid k6
  have K4 := Lib.hid k4
  have HB := Lib.hid hbl
  clear k6 k4 hbl hg6
  cases ok with
  | false =>
    have HNe : Hid (nodeX X id = n0d) := Lib.hid (by rw [HN.out]; rfl)
    have HT4 : Hid (W2.there w.heap.size 0 XZ.toArray.size) := Lib.hid (blk_there K4.out (by rw [List.size_toArray]; omega))
    have L4 : Hid (Blk (W2.setCells w.heap.size 0 XZ) w.heap.size 205 XZ.toArray) := Lib.hid (blk_over K4.out rfl)
    go_wp2_with (first | refine wpList_bldz rfl 205 rfl (.agg XZ.toArray) HBz.out ?_ | refine wpList_store_mid rfl 205 (.tmp 4) (.tmp 19) rfl w.heap.size 0 XZ.toArray rfl rfl HT4.out HZ.out.sizea HZ.out.onea ?_)
    refine fin (fun W => Blk W w.heap.size 205 XZ.toArray ∧ Below w.heap.size w W) ⟨L4.out, below_setCells _ HB.out (Nat.le_refl _)⟩ ?_
    rintro W3 ⟨kr, hbl⟩
    have hl := run_loadVar_mid W3 w.heap.size 0 205 XZ _ (blk_whole kr) Tryz.underlying205 rfl HZ.out.size
    try simp only [Go.Act.put, List.setIfInBounds_toArray, List.set_cons_zero, List.set_cons_succ]
    exact bodyPost_ret (v := .tuple #[.agg XZ.toArray, .bool false]) (results_cell2 Tryz.results128 rfl rfl hl) rfl ⟨XZ, rfl, by rw [HNe.out, HZe.out], hbl⟩
  | true =>
    have hS4 : ∀ W, Below W2.heap.size W2 W → W.cell? ⟨g6, 0, none⟩ = some (.int .i64 hs) := fun W q => (HPC.out W g6 (K6.out.keep q)).1
    go_upto_region 4 with fail
    refine lnode_r4 (id := id) (hs := hs) (hb := hb) (XS := XS) (X1 := X1) (g6 := g6) (fun _ _ d _ _ h => by cases d <;> exact h) hS4 HSame.out HH4.out HBn.out HX1.out ?_
    intro W3 a8 a4 hb3 k8 h8
    have HNe68 : Hid (g6 < a8) := Lib.hid (Nat.lt_of_lt_of_le K6.out.lt h8)
    have HNe8 : Hid (w.heap.size < a8) := Lib.hid (Nat.lt_of_lt_of_le K4.out.lt h8)
    replace K6 := Lib.hid (K6.out.keep hb3)
    replace K4 := Lib.hid (K4.out.keep hb3)
    replace HB := Lib.hid (bthen HB.out hb3)
    rw [HX1e.out] at k8
    have K8 := Lib.hid k8
    clear hS4 hb3 k8 h8 HSame HH4 HBn
    obtain ⟨g8, hg8⟩ : ∃ g8, g8 = a8 := ⟨_, rfl⟩
    rw [← hg8] at K8 HNe68 HNe8 ⊢
    clear hg8
    go_wp2_with fail
    refine (HPar.out W3 HB.out).mono ?_
    rintro e w4 ⟨rfl, b4⟩
    replace K8 := Lib.hid (K8.out.keep b4)
    replace K6 := Lib.hid (K6.out.keep b4)
    replace K4 := Lib.hid (K4.out.keep b4)
    replace HB := Lib.hid (bthen HB.out b4)
    clear b4 HPar
    rcases HUp.out with ⟨rfl, hup⟩ | ⟨rfl, hup⟩
    · have HE7 : Hid (Blk w4 g8 205 (cNd ⟨id, up, sameM, hb⟩).toArray ∧ Blk w4 g6 52 XP.toArray ∧ Blk w4 w.heap.size 205 XZ.toArray ∧ Below w.heap.size w w4) := Lib.hid ⟨by rw [hup]; exact K8.out, K6.out, K4.out, HB.out⟩
      clear HUp hup
      go_upto_region 8 with fail
      refine fin (fun W => Blk W g8 205 (cNd ⟨id, up, sameM, hb⟩).toArray ∧ Blk W g6 52 XP.toArray ∧ Blk W w.heap.size 205 XZ.toArray ∧ Below w.heap.size w W) HE7.out ?_
      clear HE7 K8 K6 K4 HB
      rintro W5 ⟨k8, k6, k4, hbl⟩
      have HL8 := Lib.hid (alloc_below W5 (.cells #[.int .i64 0] 244))
      have K8 := Lib.hid (k8.keep HL8.out)
      have K6 := Lib.hid (k6.keep HL8.out)
      have K4 := Lib.hid (k4.keep HL8.out)
      have HB := Lib.hid (bthen hbl HL8.out)
      obtain ⟨c6, -⟩ := HPC.out _ g6 k6
      have z6 := k6.lt
      have z8 := k8.lt
      clear k8 k6 k4 hbl HL8
      go_wp2_with fail
      refine (HH0.out _ _ (row1 _ _ _)).mono ?_
      rintro e w5 ⟨rfl, rfl⟩
      clear HH0 c6 z6 z8
      refine fin (fun W => Blk W g8 205 (cNd ⟨id, up, sameM, hb⟩).toArray ∧ Blk W g6 52 XP.toArray ∧ Blk W w.heap.size 205 XZ.toArray ∧ Below w.heap.size w W) ⟨K8.out, K6.out, K4.out, HB.out⟩ ?_
      clear K8 K6 K4 HB
      rintro W6 ⟨k8, k6, k4, hbl⟩
      have K8 := Lib.hid k8
      have K6 := Lib.hid k6
      have K4 := Lib.hid k4
      have HB := Lib.hid hbl
      clear k8 k6 k4 hbl
      obtain ⟨-, r6⟩ := HPC.out _ g6 K6.out
      have HR6 := Lib.hid r6
      have z6 := K6.out.lt
      have z8 := K8.out.lt
      clear r6
      cases pb with
      | false =>
        go_upto_region 10 with fail
        have HNe : Hid (nodeX X id = ⟨id, up, sameM, hb⟩) := Lib.hid (by rw [HN.out]; rfl)
        obtain ⟨X2, hX2⟩ : ∃ X2, X2 = cNd ⟨id, up, sameM, hb⟩ := ⟨_, rfl⟩
        have HX2 := Lib.hid (HXf.out ⟨id, up, sameM, hb⟩)
        have k8 := K8.out
        rw [← hX2] at HX2 k8
        have HX2e := Lib.hid hX2
        clear hX2
        have HR8 := Lib.hid (blk_whole k8)
        have HT4 : Hid (W6.there w.heap.size 0 X2.toArray.size) := Lib.hid (blk_there K4.out (by rw [List.size_toArray, HX2.out.len, HZ.out.len]; omega))
        have L4 : Hid (Blk (W6.setCells w.heap.size 0 X2) w.heap.size 205 X2.toArray) := Lib.hid (blk_over K4.out (by rw [HX2.out.len, HZ.out.len]))
        have HB9 := Lib.hid HB.out
        clear k8 K8 K4 HB K6
        go_wp2_with (first | refine wpList_load_mid rfl 205 (.tmp 8) rfl g8 0 rfl X2 _ HR8.out Tryz.underlying205 rfl HX2.out.size ?_ | refine wpList_store_mid rfl 205 (.tmp 4) (.tmp 43) rfl w.heap.size 0 X2.toArray rfl rfl HT4.out HX2.out.sizea HX2.out.onea ?_)
        refine fin (fun W => Blk W w.heap.size 205 X2.toArray ∧ Below w.heap.size w W) ⟨L4.out, below_setCells _ HB9.out (Nat.le_refl _)⟩ ?_
        rintro W3 ⟨kr, hbl⟩
        have hl := run_loadVar_mid W3 w.heap.size 0 205 X2 _ (blk_whole kr) Tryz.underlying205 rfl HX2.out.size
        try simp only [Go.Act.put, List.setIfInBounds_toArray, List.set_cons_zero, List.set_cons_succ]
        exact bodyPost_ret (v := .tuple #[.agg X2.toArray, .bool true]) (results_cell2 Tryz.results128 rfl rfl hl) rfl ⟨X2, rfl, by rw [HNe.out, HX2e.out], hbl⟩
      | true =>
        have HT8 : Hid (W6.there g8 2 ML.toArray.size) := Lib.hid (blk_there K8.out (by rw [List.size_toArray, HMX.out.len, cNd_len]; omega))
        have HE9 : Hid (Blk (W6.setCells g8 2 ML) g8 205 (cNd ⟨id, up, M, hb⟩).toArray ∧ Blk (W6.setCells g8 2 ML) g6 52 XP.toArray ∧ Blk (W6.setCells g8 2 ML) w.heap.size 205 XZ.toArray ∧ Below w.heap.size w (W6.setCells g8 2 ML)) := Lib.hid ⟨by
          have := blk_setCells ML (o := 2) K8.out (by rw [HMX.out.len, cNd_len]; omega)
          rw [HMLe.out, nd_pl] at this
          rw [HMLe.out]
          exact this, blk_setFar ML K6.out (by have := HNe68.out; omega), blk_setFar ML K4.out (by have := HNe8.out; omega), below_setCells ML HB.out (by have := HNe8.out; exact Nat.le_of_lt this)⟩
        go_upto_region 10 with (first | refine wpList_load_mid rfl 46 (.tmp 40) rfl g6 1 rfl ML _ HR6.out Tryz.underlying46 rfl HMX.out.size ?_ | refine wpList_store_mid rfl 46 (.tmp 42) (.tmp 41) rfl g8 2 ML.toArray rfl rfl HT8.out HMX.out.sizea HMX.out.onea ?_)
        refine fin (fun W => Blk W g8 205 (cNd ⟨id, up, M, hb⟩).toArray ∧ Blk W g6 52 XP.toArray ∧ Blk W w.heap.size 205 XZ.toArray ∧ Below w.heap.size w W) HE9.out ?_
        clear HE9 HT8 K8 K6 K4 HB HR6 z6 z8
        rintro W7 ⟨k8, k6, k4, hbl⟩
        have K8 := Lib.hid k8
        have K6 := Lib.hid k6
        have K4 := Lib.hid k4
        have HB := Lib.hid hbl
        have z8 := K8.out.lt
        clear k8 k6 k4 hbl
        have HNe : Hid (nodeX X id = ⟨id, up, M, hb⟩) := Lib.hid (by rw [HN.out]; rfl)
        obtain ⟨X2, hX2⟩ : ∃ X2, X2 = cNd ⟨id, up, M, hb⟩ := ⟨_, rfl⟩
        have HX2 := Lib.hid (HXf.out ⟨id, up, M, hb⟩)
        have k8 := K8.out
        rw [← hX2] at HX2 k8
        have HX2e := Lib.hid hX2
        clear hX2
        have HR8 := Lib.hid (blk_whole k8)
        have HT4 : Hid (W7.there w.heap.size 0 X2.toArray.size) := Lib.hid (blk_there K4.out (by rw [List.size_toArray, HX2.out.len, HZ.out.len]; omega))
        have L4 : Hid (Blk (W7.setCells w.heap.size 0 X2) w.heap.size 205 X2.toArray) := Lib.hid (blk_over K4.out (by rw [HX2.out.len, HZ.out.len]))
        have HB9 := Lib.hid HB.out
        clear k8 K8 K4 HB K6
        go_wp2_with (first | refine wpList_load_mid rfl 205 (.tmp 8) rfl g8 0 rfl X2 _ HR8.out Tryz.underlying205 rfl HX2.out.size ?_ | refine wpList_store_mid rfl 205 (.tmp 4) (.tmp 43) rfl w.heap.size 0 X2.toArray rfl rfl HT4.out HX2.out.sizea HX2.out.onea ?_)
        refine fin (fun W => Blk W w.heap.size 205 X2.toArray ∧ Below w.heap.size w W) ⟨L4.out, below_setCells _ HB9.out (Nat.le_refl _)⟩ ?_
        rintro W3 ⟨kr, hbl⟩
        have hl := run_loadVar_mid W3 w.heap.size 0 205 X2 _ (blk_whole kr) Tryz.underlying205 rfl HX2.out.size
        try simp only [Go.Act.put, List.setIfInBounds_toArray, List.set_cons_zero, List.set_cons_succ]
        exact bodyPost_ret (v := .tuple #[.agg X2.toArray, .bool true]) (results_cell2 Tryz.results128 rfl rfl hl) rfl ⟨X2, rfl, by rw [HNe.out, HX2e.out], hbl⟩
    · have c1 := K8.out.cell 1
      have f1 := K8.out.frozen 1
      have z8 := K8.out.lt
      have HE7 : Hid (Blk (w4.setCell ⟨g8, 1, none⟩ (.int .i64 pv)) g8 205 (cNd ⟨id, up, sameM, hb⟩).toArray ∧ Blk (w4.setCell ⟨g8, 1, none⟩ (.int .i64 pv)) g6 52 XP.toArray ∧ Blk (w4.setCell ⟨g8, 1, none⟩ (.int .i64 pv)) w.heap.size 205 XZ.toArray ∧ Below w.heap.size w (w4.setCell ⟨g8, 1, none⟩ (.int .i64 pv))) := Lib.hid ⟨by have := K8.out.set_ 1 (.int .i64 pv); rw [nd_par] at this; rw [hup]; exact this, K6.out.same (Go.Deep.blk_setCell_other _ _ _ _ (by show g6 ≠ g8; have := HNe68.out; omega)), K4.out.same (Go.Deep.blk_setCell_other _ _ _ _ (by show w.heap.size ≠ g8; have := HNe8.out; omega)), HB.out.setCell (p := ⟨g8, 1, none⟩) (by have := HNe8.out; exact Nat.le_of_lt this) _⟩
      clear HUp hup
      go_upto_region 8 with fail
      clear c1 f1 z8
      refine fin (fun W => Blk W g8 205 (cNd ⟨id, up, sameM, hb⟩).toArray ∧ Blk W g6 52 XP.toArray ∧ Blk W w.heap.size 205 XZ.toArray ∧ Below w.heap.size w W) HE7.out ?_
      clear HE7 K8 K6 K4 HB
      rintro W5 ⟨k8, k6, k4, hbl⟩
      have HL8 := Lib.hid (alloc_below W5 (.cells #[.int .i64 0] 244))
      have K8 := Lib.hid (k8.keep HL8.out)
      have K6 := Lib.hid (k6.keep HL8.out)
      have K4 := Lib.hid (k4.keep HL8.out)
      have HB := Lib.hid (bthen hbl HL8.out)
      obtain ⟨c6, -⟩ := HPC.out _ g6 k6
      have z6 := k6.lt
      have z8 := k8.lt
      clear k8 k6 k4 hbl HL8
      go_wp2_with fail
      refine (HH0.out _ _ (row1 _ _ _)).mono ?_
      rintro e w5 ⟨rfl, rfl⟩
      clear HH0 c6 z6 z8
      refine fin (fun W => Blk W g8 205 (cNd ⟨id, up, sameM, hb⟩).toArray ∧ Blk W g6 52 XP.toArray ∧ Blk W w.heap.size 205 XZ.toArray ∧ Below w.heap.size w W) ⟨K8.out, K6.out, K4.out, HB.out⟩ ?_
      clear K8 K6 K4 HB
      rintro W6 ⟨k8, k6, k4, hbl⟩
      have K8 := Lib.hid k8
      have K6 := Lib.hid k6
      have K4 := Lib.hid k4
      have HB := Lib.hid hbl
      clear k8 k6 k4 hbl
      obtain ⟨-, r6⟩ := HPC.out _ g6 K6.out
      have HR6 := Lib.hid r6
      have z6 := K6.out.lt
      have z8 := K8.out.lt
      clear r6
      cases pb with
      | false =>
        go_upto_region 10 with fail
        have HNe : Hid (nodeX X id = ⟨id, up, sameM, hb⟩) := Lib.hid (by rw [HN.out]; rfl)
        obtain ⟨X2, hX2⟩ : ∃ X2, X2 = cNd ⟨id, up, sameM, hb⟩ := ⟨_, rfl⟩
        have HX2 := Lib.hid (HXf.out ⟨id, up, sameM, hb⟩)
        have k8 := K8.out
        rw [← hX2] at HX2 k8
        have HX2e := Lib.hid hX2
        clear hX2
        have HR8 := Lib.hid (blk_whole k8)
        have HT4 : Hid (W6.there w.heap.size 0 X2.toArray.size) := Lib.hid (blk_there K4.out (by rw [List.size_toArray, HX2.out.len, HZ.out.len]; omega))
        have L4 : Hid (Blk (W6.setCells w.heap.size 0 X2) w.heap.size 205 X2.toArray) := Lib.hid (blk_over K4.out (by rw [HX2.out.len, HZ.out.len]))
        have HB9 := Lib.hid HB.out
        clear k8 K8 K4 HB K6
        go_wp2_with (first | refine wpList_load_mid rfl 205 (.tmp 8) rfl g8 0 rfl X2 _ HR8.out Tryz.underlying205 rfl HX2.out.size ?_ | refine wpList_store_mid rfl 205 (.tmp 4) (.tmp 43) rfl w.heap.size 0 X2.toArray rfl rfl HT4.out HX2.out.sizea HX2.out.onea ?_)
        refine fin (fun W => Blk W w.heap.size 205 X2.toArray ∧ Below w.heap.size w W) ⟨L4.out, below_setCells _ HB9.out (Nat.le_refl _)⟩ ?_
        rintro W3 ⟨kr, hbl⟩
        have hl := run_loadVar_mid W3 w.heap.size 0 205 X2 _ (blk_whole kr) Tryz.underlying205 rfl HX2.out.size
        try simp only [Go.Act.put, List.setIfInBounds_toArray, List.set_cons_zero, List.set_cons_succ]
        exact bodyPost_ret (v := .tuple #[.agg X2.toArray, .bool true]) (results_cell2 Tryz.results128 rfl rfl hl) rfl ⟨X2, rfl, by rw [HNe.out, HX2e.out], hbl⟩
      | true =>
        have HT8 : Hid (W6.there g8 2 ML.toArray.size) := Lib.hid (blk_there K8.out (by rw [List.size_toArray, HMX.out.len, cNd_len]; omega))
        have HE9 : Hid (Blk (W6.setCells g8 2 ML) g8 205 (cNd ⟨id, up, M, hb⟩).toArray ∧ Blk (W6.setCells g8 2 ML) g6 52 XP.toArray ∧ Blk (W6.setCells g8 2 ML) w.heap.size 205 XZ.toArray ∧ Below w.heap.size w (W6.setCells g8 2 ML)) := Lib.hid ⟨by
          have := blk_setCells ML (o := 2) K8.out (by rw [HMX.out.len, cNd_len]; omega)
          rw [HMLe.out, nd_pl] at this
          rw [HMLe.out]
          exact this, blk_setFar ML K6.out (by have := HNe68.out; omega), blk_setFar ML K4.out (by have := HNe8.out; omega), below_setCells ML HB.out (by have := HNe8.out; exact Nat.le_of_lt this)⟩
        go_upto_region 10 with (first | refine wpList_load_mid rfl 46 (.tmp 40) rfl g6 1 rfl ML _ HR6.out Tryz.underlying46 rfl HMX.out.size ?_ | refine wpList_store_mid rfl 46 (.tmp 42) (.tmp 41) rfl g8 2 ML.toArray rfl rfl HT8.out HMX.out.sizea HMX.out.onea ?_)
        refine fin (fun W => Blk W g8 205 (cNd ⟨id, up, M, hb⟩).toArray ∧ Blk W g6 52 XP.toArray ∧ Blk W w.heap.size 205 XZ.toArray ∧ Below w.heap.size w W) HE9.out ?_
        clear HE9 HT8 K8 K6 K4 HB HR6 z6 z8
        rintro W7 ⟨k8, k6, k4, hbl⟩
        have K8 := Lib.hid k8
        have K6 := Lib.hid k6
        have K4 := Lib.hid k4
        have HB := Lib.hid hbl
        have z8 := K8.out.lt
        clear k8 k6 k4 hbl
        have HNe : Hid (nodeX X id = ⟨id, up, M, hb⟩) := Lib.hid (by rw [HN.out]; rfl)
        obtain ⟨X2, hX2⟩ : ∃ X2, X2 = cNd ⟨id, up, M, hb⟩ := ⟨_, rfl⟩
        have HX2 := Lib.hid (HXf.out ⟨id, up, M, hb⟩)
        have k8 := K8.out
        rw [← hX2] at HX2 k8
        have HX2e := Lib.hid hX2
        clear hX2
        have HR8 := Lib.hid (blk_whole k8)
        have HT4 : Hid (W7.there w.heap.size 0 X2.toArray.size) := Lib.hid (blk_there K4.out (by rw [List.size_toArray, HX2.out.len, HZ.out.len]; omega))
        have L4 : Hid (Blk (W7.setCells w.heap.size 0 X2) w.heap.size 205 X2.toArray) := Lib.hid (blk_over K4.out (by rw [HX2.out.len, HZ.out.len]))
        have HB9 := Lib.hid HB.out
        clear k8 K8 K4 HB K6
        go_wp2_with (first | refine wpList_load_mid rfl 205 (.tmp 8) rfl g8 0 rfl X2 _ HR8.out Tryz.underlying205 rfl HX2.out.size ?_ | refine wpList_store_mid rfl 205 (.tmp 4) (.tmp 43) rfl w.heap.size 0 X2.toArray rfl rfl HT4.out HX2.out.sizea HX2.out.onea ?_)
        refine fin (fun W => Blk W w.heap.size 205 X2.toArray ∧ Below w.heap.size w W) ⟨L4.out, below_setCells _ HB9.out (Nat.le_refl _)⟩ ?_
        rintro W3 ⟨kr, hbl⟩
        have hl := run_loadVar_mid W3 w.heap.size 0 205 X2 _ (blk_whole kr) Tryz.underlying205 rfl HX2.out.size
        try simp only [Go.Act.put, List.setIfInBounds_toArray, List.set_cons_zero, List.set_cons_succ]
        exact bodyPost_ret (v := .tuple #[.agg X2.toArray, .bool true]) (results_cell2 Tryz.results128 rfl rfl hl) rfl ⟨X2, rfl, by rw [HNe.out, HX2e.out], hbl⟩
end
structure XN : Prop where
  spawn : ∀ w : World, Calls Tryz.prog 28 #[.pointer none, .agg Z24.toArray, .int .i64 (-1)] w fun e w' => ∃ v, e = .returned (.tuple #[.int .i64 v, .int .i64 1]) ∧ Below w.heap.size w w'
  get : ∀ w : World, Calls Tryz.prog 136 #[.pointer none, .int .i64 0] w fun e w' => ∃ Y, e = .returned (.tuple #[.agg (List.toArray Y), .bool false]) ∧ PXs Y ∧ Below w.heap.size w w'
  parent : ∀ w : World, Calls Tryz.prog 196 #[.pointer none, .int .i64 0] w fun e w' => ∃ v, e = .returned (.tuple #[.int .i64 v, .bool false]) ∧ Below w.heap.size w w'
  node : ∀ w : World, Calls Tryz.prog 128 #[.pointer none, .int .i64 0] w fun e w' => ∃ Y, e = .returned (.tuple #[.agg (List.toArray Y), .bool false]) ∧ NXs Y 205 ∧ Below w.heap.size w w'
  despawn : ∀ w : World, Calls Tryz.prog 29 #[.pointer none, .int .i64 0] w fun e w' => e = .returned (.int .i64 1) ∧ Below w.heap.size w w'
  put : ∀ w : World, Calls Tryz.prog 47 #[.pointer none, .int .i64 0, .agg Z24.toArray, .slice none 0 0] w fun e w' => e = .returned (.int .i64 1) ∧ Below w.heap.size w w'
  cut : ∀ w : World, Calls Tryz.prog 48 #[.pointer none, .int .i64 0, .slice none 0 0] w fun e w' => e = .returned (.int .i64 1) ∧ Below w.heap.size w w'
  adopt : ∀ w : World, Calls Tryz.prog 49 #[.pointer none, .int .i64 0, .int .i64 1] w fun e w' => e = .returned (.int .i64 1) ∧ Below w.heap.size w w'
  free : ∀ w : World, Calls Tryz.prog 50 #[.pointer none, .int .i64 0] w fun e w' => e = .returned (.int .i64 1) ∧ Below w.heap.size w w'
  all : ∀ w : World, Calls Tryz.prog 44 #[.pointer none] w fun e w' => ∃ a cap, e = .returned (.slice a 0 cap) ∧ Below w.heap.size w w'
  changed : ∀ w : World, Calls Tryz.prog 127 #[.pointer none, .int .i64 0] w fun e w' => ∃ a cap, e = .returned (.slice a 0 cap) ∧ Below w.heap.size w w'
  gone : ∀ w : World, Calls Tryz.prog 68 #[.pointer none, .int .i64 0] w fun e w' => ∃ a cap, e = .returned (.slice a 0 cap) ∧ Below w.heap.size w w'
  tick : ∀ w : World, Calls Tryz.prog 16 #[.pointer none] w fun e w' => e = .returned (.int .i64 0) ∧ Below w.heap.size w w'
  next : ∀ w : World, Calls Tryz.prog 33 #[.pointer none] w fun e w' => e = .returned (.int .i64 0) ∧ Below w.heap.size w w'
theorem scx_holds : SCx LSB :=
  ⟨fun _ _ _ _ _ ⟨ls, lt, ⟨p, mb, ts, Lf, gv, lab, h, hF⟩, hI⟩ he => ⟨ls, lt, ⟨p, mb, ts, Lf, gv, lab, h.same (fun b hb => he b ((hF b).2 hb)), hF⟩, hI⟩,
   fun _ _ _ _ ⟨_, _, ⟨_, _, _, _, _, _, h, hF⟩, _⟩ b hb => h.inb b ((hF b).1 hb),
   fun w r hr => lnew_any w r hr, fun w x hx => lbad_any w x hx, fun _ _ _ _ P hW hB h => lspawn_any h hW hB P, fun _ _ _ _ id hW hB h => ldespawn_any h hW hB id,
   fun _ _ _ _ id P a n cap ks hW hB h _ row _ => lput_any h hW hB id P a n cap ks row, fun _ _ _ _ id a n cap ks hW hB h _ row _ => lcut_any h hW hB id a n cap ks row,
   fun _ _ _ _ a n cap xs _ _ h hn row haw => ltouch_any h a n cap xs hn row haw, fun _ _ _ _ id hW hB h => lget_any h hW hB id, fun _ _ _ _ hW _ h => lallD_any h hW,
   fun _ _ _ _ _ _ h => ltick_any h, fun _ _ _ _ _ hB h => lnext_any h hB, fun _ _ _ _ since hW _ h => lchanged_any h hW since, fun _ _ _ _ since _ hB h => lgone_any h hB since⟩
theorem fcx_holds : FCx LFB where
  keep_ _ _ _ _ _ h he := h.keep_ he
  inb _ _ _ _ h := h.inb
  rng _ _ _ _ h := by
    obtain ⟨gp, gc, bl, cp, h1, _⟩ := h
    exact h1.rng
  new w := lfnew_any w
  set _ _ _ _ _ _ hW hL h hc hp := lset_any h hW hL hc hp
  free _ _ _ _ _ _ _ _ hW hL h hn hr ha hx := lfree_any h hW hL hn hr ha hx
  drop _ _ _ _ _ hW hL h hx := ldrop_any h hW hL hx
  parent _ _ _ _ _ _ _ h hx := by
    obtain ⟨gp, gc, bl, cp, h1, _⟩ := h
    exact (lparent_any h1 hx).mono fun _ _ q => ⟨q.1, q.2 ▸ Below.refl _ _⟩
theorem sl_holds : SL LSB := by
  rintro w g F S ⟨ls, lt, ⟨p, mb, ts, Lf, gv, lab, h, hF⟩, hI⟩
  refine ⟨p, fun u q => ?_⟩
  have h1 := h.keep q
  refine ⟨?_, h1.row.lt, fun x => qlive p S.room S.G S.L x u h1.pool⟩
  exact h1.row.cell (i := 0) (by omega)
theorem xc_holds : XC (LXB LSB LFB) where
  kb := kb_lxb scx_holds.kb fcx_holds.kb
  new w r hr := lnew11_any scx_holds fcx_holds w r hr
  bad w x hx := lbad11_any scx_holds w x hx
  spawn _ _ _ _ P p hW hB h hp := lspawn11_any scx_holds fcx_holds sl_holds h hW hB P p hp
  despawn _ _ _ _ id hW hB h hi := ldespawn11_any scx_holds fcx_holds h hW hB id hi
  put _ _ _ _ id P a n cap ks hW hB h hn row haw := lput11_any scx_holds fcx_holds h hW hB id P a n cap ks hn row haw
  cut _ _ _ _ id a n cap ks hW hB h hn row haw := lcut11_any scx_holds fcx_holds h hW hB id a n cap ks hn row haw
  adopt _ _ _ _ c p hW hB h hc hp := ladopt11_any scx_holds fcx_holds sl_holds h hW hB c p hc hp
  free _ _ _ _ c hW hB h hc := lfree11_any scx_holds fcx_holds sl_holds h hW hB c hc
  get _ _ _ _ id hW hB h := lget11_any scx_holds fcx_holds h hW hB id
  parent _ _ _ _ id hW hB h hi := lparent11_any scx_holds fcx_holds h hW hB id hi
  all _ _ _ _ hW hB h := lall11_any scx_holds fcx_holds h hW hB
  tick _ _ _ _ hW hB h := ltick11_any scx_holds fcx_holds h hW hB
  next _ _ _ _ hW hB h := lnext11_any scx_holds fcx_holds h hW hB
  changed _ _ _ _ since hW hB h := lchanged11_any scx_holds fcx_holds h hW hB since
  gone _ _ _ _ since hW hB h := lgone11_any scx_holds fcx_holds h hW hB since
  node _ _ _ _ id hW hB h hi := lnode11_any scx_holds fcx_holds h hW hB id hi
end Go.Proofs.YthhfcedhbfandaaGreat
