/-
  The landed store: what Query answers.
-/
import Derived.Test.YtcpgkkphibhdfaaGreatLstL
namespace Go.Proofs.YtcpgkkphibhdfaaGreat
open Go.RowKit

theorem srt_up {l K : List Int} (h : l.Perm K) (hK : K.Pairwise (· < ·)) : l.mergeSort (fun x y => decide (x ≤ y)) = K := by
  have tr : ∀ a b c : Int, decide (a ≤ b) = true → decide (b ≤ c) = true → decide (a ≤ c) = true := fun a b c h1 h2 => by simp only [decide_eq_true_eq] at *; omega
  have tt : ∀ a b : Int, (decide (a ≤ b) || decide (b ≤ a)) = true := fun a b => by simp only [Bool.or_eq_true, decide_eq_true_eq]; omega
  refine List.Perm.eq_of_pairwise (le := fun a b => decide (a ≤ b) = true) (fun a b _ _ h1 h2 => ?_) (List.pairwise_mergeSort tr tt l) (hK.imp (fun {a b} c => decide_eq_true (by omega))) ((List.mergeSort_perm l _).trans h)
  simp only [decide_eq_true_eq] at h1 h2
  omega
theorem sorts9 (m : Nat) : AnyZI.SortsIn Tryz.prog lay_sortedA_ren Fence.wide m :=
  ⟨fun blk off cap ss W hH hblk hsz => callsIn_wide.2 (AnyM.slices_Sort_int lay_sortA blk off cap ss W hH hblk hsz),
   fun p cap W => callsIn_wide.2 (AnyM.slices_Sort_int_none lay_sortA p cap W)⟩
theorem keys9 (mb : Option Nat) (w : World) : Calls Tryz.prog 46 #[.map mb] w fun e w' => e = .returned (.func (.func 82) #[] #[.pointer (some ⟨w.heap.size, 0, none⟩)]) ∧ w' = w.alloc (.cells #[.map mb] 72) :=
  (callsIn_wide (n := 5)).1 (AnyZI.keys_in lay_keysA Fence.wide 5 trivial rfl mb w)
set_option maxHeartbeats 1000000 in
theorem sorted9 {w : World} {mb : Nat} {ts : Nat → Option Nat} (h : TM w mb ts) : Calls Tryz.prog 45 #[.func (.func 82) #[] #[.pointer (some ⟨w.heap.size, 0, none⟩)]] (w.alloc (.cells #[.map (some mb)] 72)) fun e w' => ∃ v, e = .returned v ∧ w'.ownsRow w.heap.size 24 1 v (tsK ts).length ((tsK ts).map encZ) ∧ Below w.heap.size w w' := by
  obtain ⟨D, hown, hk⟩ := h
  have hbl := hown.lt
  have hsz := hk.size hown
  have hseq : SeqGives Fence.wide 2 Tryz.prog 82 #[.pointer (some ⟨w.heap.size, 0, none⟩)] encZ (fun ss => ss.Perm (intKeys D)) (Maps.size D) (w.alloc (.cells #[.map (some mb)] 72)) :=
    AnyZI.keys_gives (ρ := lay_keysA_ren) { lay_keysA with } Fence.wide _ trivial rfl (by omega) w.heap.size mb 32 D _ (by simp) (by simp) (by
      obtain ⟨es, clock, hb, Ft, hs, hD⟩ := hown
      exact ⟨es, clock, (Below.heap_alloc _ _ mb hbl).trans hb, Ft, hs, hD⟩)
  have cS := AnyZI.sorted_in lay_sortedA Fence.wide 5 trivial trivial trivial trivial rfl (by omega) (sorts9 _) (Go.Proofs.enters_of Tryz.func81 (by kernel_rfl) rfl) 82 #[.pointer (some ⟨w.heap.size, 0, none⟩)] trivial (Go.Proofs.enters_of Tryz.func82 (by kernel_rfl) rfl) _ (Maps.size D) (by unfold maxLen; omega) (by omega) _ hseq
  refine ((callsIn_wide (n := 5)).1 cS).mono ?_
  rintro e w' ⟨v, ss, rfl, hS, hrow, _, hb⟩
  have hp : ss.Perm (tsK ts) := hS.trans (hk.keys hown).symm
  have e1 := srt_up hp (tsK_lt ts)
  have e2 := hp.length_eq
  rw [e1, e2] at hrow
  exact ⟨v, rfl, ownsRow_base_a hrow (by simp), ((Below.refl _ w).alloc (Nat.le_refl _) _).trans (hb.mono (by simp))⟩
theorem owns_row9 {w : World} {base : Nat} {t : TypeId} {v : Value} {zs : List Int} (h : w.ownsRow base t 1 v zs.length (zs.map encZ)) : ∃ a cap, v = .slice a zs.length cap ∧ Row w a zs.length zs := by
  rcases h.2 with ⟨rfl, h0⟩ | ⟨g, cap, cur, rfl, hb, hg, hn, hm, hs, ht⟩
  · exact ⟨none, 0, by rw [h0], rfl, by omega, Or.inl h0⟩
  · refine ⟨_, cap, rfl, rfl, ?_, Or.inr ⟨g, 0, rfl, fun i hi => ?_⟩⟩
    · unfold maxLen at hm
      omega
    · rw [Nat.mul_one] at ht
      have : cur.toList[i]? = some (encZ (zs.getD i 0)) := by
        have h1 : (cur.toList.take zs.length)[i]? = (zs.map encZ)[i]? := by rw [ht]
        rw [List.getElem?_take_of_lt hi, List.getElem?_map, List.getElem?_eq_getElem hi] at h1
        rw [h1]
        simp [List.getD, List.getElem?_eq_getElem hi]
      simp only [World.cell?, hg, Nat.zero_add]
      rw [← Array.getElem?_toList]
      exact this

set_option maxRecDepth 100000 in
/-- one list of names behind another one -/
theorem wpList_cat9 {ops : Array Oper} {rest : List Oper} {op : Oper} {a : Go.Act} {w : World} {Q : Exit → Go.Act → World → Prop} (hgd : op.guard = none) (ts tb : Operand)
    (ho : op.op = .call { callee := .builtin .append, args := #[ts, tb], argTypes := #[53, 53] }) (base n : Nat) (v : Value) (zs : List Int) (hs : a.eval ts = v) (hown : OwnD w base v n zs) (x : Option Addr) (m cap : Nat) (ys : List Int) (hx : a.eval tb = .slice x m cap) (row : Row w x m ys) (hn : n ≤ 100000) (hm : m ≤ 1000) (hb : base ≤ w.heap.size)
    (h : ∀ v' w', OwnD w' base v' (n + m) (zs ++ ys) → w.grownBy w' v.ownBlock → wpList Tryz.prog ops Q rest (a.put op.dst v') w') : wpList Tryz.prog ops Q (op :: rest) a w := by
  obtain ⟨i0, hi0, hz0, hz1, hz2⟩ := info_parts id_info
  have hl : ys.length = m := row.1
  cases x with
  | none =>
    have hm0 : m = 0 := by
      rcases row.2.2 with c | ⟨b, off, e, _⟩
      · exact c
      · cases e
    subst hm0
    have hys : ys = [] := List.eq_nil_of_length_eq_zero hl
    subst hys
    have h2 := h v w (by rw [Nat.add_zero, List.append_nil]; exact hown) ⟨rfl, rfl, rfl, Nat.le_refl _, fun _ _ _ => rfl⟩
    have hr : (Builtin.append_ #[53, 53] op.type #[v, .slice none 0 cap]).run Tryz.prog w = .ok v w := by
      rcases hown.2 with ⟨rfl, _⟩ | ⟨g, c, cur, rfl, _, _, hnc, _⟩
      · simp [Builtin.append_, run_underlying Tryz.underlying53, sizeOf, typeInfo, hi0, Builtin.lenOf, Builtin.firstCells]
      · simp [Builtin.append_, run_underlying Tryz.underlying53, sizeOf, typeInfo, hi0, Builtin.lenOf, Builtin.firstCells, loadCells, storeCells, hnc]
    refine wpList_plain hgd fun K hK => ?_
    have h3 := hK _ _ h2
    unfold Oper.wp execOp
    simp only [ho, resolve, invoke, builtin, Sem.run_bind, Sem.run_pure, Result.andThen_ok, List.map_toArray, List.map_cons, List.map_nil, hs, hx, hr]
    exact h3
  | some ad =>
    have hnews : ∀ j u, (ys.map (Value.int .i64))[j]? = some u → w.cell? (ad.add j) = some u := fun j u hu => by
      have hj : j < m := by have := (List.getElem?_eq_some_iff.1 hu).1; rw [List.length_map, hl] at this; exact this
      obtain ⟨b, off, y, e, hy, cy⟩ := row_at row hj
      injection e with e
      subst e
      rw [Addr.add_mid, cy]
      rw [List.getElem?_map, hy] at hu
      exact hu
    refine wpList_append_own _ hgd ts tb 53 ho base 35 i0 (.int .i64 0) 1 8 Tryz.underlying53 hi0 hz0 hz1 hz2 rfl (by decide) v n (zs.map (Value.int .i64)) hs hown ad m cap (ys.map (Value.int .i64)) hx (by rw [List.length_map, hl, Nat.mul_one]) hnews (fun u hu => by
      obtain ⟨y, _, rfl⟩ := List.mem_map.1 hu
      rfl) (by unfold maxLen; omega) (by omega) hb ?_
    intro v' w' h1 h2 _
    refine h v' w' ?_ h2
    unfold OwnD
    rw [List.map_append]
    exact h1
/-- what the sets of a list give -/
def quK (S : St) (a n : Int) (l : List Int) : List Int := l.flatMap fun x => if quB x.toNat a n then (S.T x.toNat).map Prod.fst else []
theorem quK_yes {S : St} {a n : Int} {l : List Int} {k i : Nat} (h : l[k]? = some (i : Int)) (hq : quB i a n = true) : quK S a n (l.take (k + 1)) = quK S a n (l.take k) ++ (S.T i).map Prod.fst := by
  unfold quK
  rw [List.take_add_one, h, List.flatMap_append]
  simp [hq]
theorem quK_no {S : St} {a n : Int} {l : List Int} {k i : Nat} (h : l[k]? = some (i : Int)) (hq : quB i a n = false) : quK S a n (l.take (k + 1)) = quK S a n (l.take k) := by
  unfold quK
  rw [List.take_add_one, h, List.flatMap_append]
  simp [hq]
theorem flat_filter {α β : Type} (f : α → List β) (p : α → Bool) : ∀ l : List α, (∀ x ∈ l, p x = false → f x = []) → (l.filter p).flatMap f = l.flatMap f
  | [], _ => rfl
  | x :: l, h => by
    have ih := flat_filter f p l (fun y hy => h y (List.mem_cons_of_mem _ hy))
    by_cases c : p x = true
    · rw [List.filter_cons_of_pos c, List.flatMap_cons, List.flatMap_cons, ih]
    · rw [List.filter_cons_of_neg c, List.flatMap_cons, h x List.mem_cons_self (by simpa using c), ih, List.nil_append]
theorem quK_all {w : World} {g p mb : Nat} {S : St} {ls lt : Nat → Int} {ts : Nat → Option Nat} {Lf : Nat → Nat → Prop} {gv : Value} {lab : Nat → Nat} (h : LM w g S p mb ls lt ts Lf gv lab) (a n : Int) : quK S a n (tsK ts) = quL S a n := by
  unfold quK quL tsK
  rw [List.flatMap_map]
  simp only [Int.toNat_natCast]
  refine flat_filter _ _ _ (fun i hi hn => ?_)
  have ht := h.tab i (List.mem_range.1 hi)
  cases hts : ts i with
  | some b => rw [hts] at hn; cases hn
  | none =>
    rw [hts] at ht
    rw [ht.1]
    simp
theorem quK_len {S : St} {a n : Int} (h : ∀ i, i < 32 → (S.T i).length ≤ 1000) : ∀ l : List Int, (∀ x ∈ l, 0 ≤ x ∧ x < 32) → (quK S a n l).length ≤ l.length * 1000
  | [], _ => by simp [quK]
  | x :: l, hl => by
    have ih := quK_len (a := a) (n := n) h l (fun y hy => hl y (List.mem_cons_of_mem _ hy))
    have hx := hl x List.mem_cons_self
    unfold quK at ih ⊢
    rw [List.flatMap_cons, List.length_append, List.length_cons, Nat.add_mul]
    have h1 := h x.toNat (by omega)
    split
    · rw [List.length_map]; omega
    · rw [List.length_nil]; omega
set_option maxHeartbeats 4000000 in
set_option maxRecDepth 100000 in
theorem lquery_any {w : World} {g : Nat} {F : Nat → Prop} {S : St} (h0 : LSB w g F S) (hB : Bd S 1000) (x y : Int) :
    Calls Tryz.prog 14 #[.pointer (some ⟨g, 0, none⟩), .int .i64 x, .int .i64 y] w fun e w' => ∃ v, e = .returned v ∧ LRes w w' (quL S x y) v ∧ Below w.heap.size w w' := by
  obtain ⟨ls, lt, ⟨p, mb, ts, Lf, gv, lab, h, hF⟩, hI⟩ := h0
  have hg := h.row.lt
  have c1 := h.c1
  have HKs := Lib.hid (keys9 (some mb) w)
  have HSo := Lib.hid (sorted9 h.map)
  obtain ⟨K, hK⟩ : ∃ K, K = tsK ts := ⟨_, rfl⟩
  have HQL : Hid (quK S x y K = quL S x y) := Lib.hid (by rw [hK]; exact quK_all h x y)
  have hKl : K.length ≤ 32 := by rw [hK]; exact tsK_len ts
  have HQl : Hid (∀ k, (quK S x y (K.take k)).length ≤ 32000) := Lib.hid (fun k => by
    have h1 := quK_len (S := S) (a := x) (n := y) hB.2.2.1 (K.take k) (fun z hz => by
      have hz' := List.mem_of_mem_take hz
      rw [hK] at hz'
      obtain ⟨i, hi, _, rfl⟩ := tsK_mem.1 hz'
      omega)
    rw [List.length_take] at h1
    have : min k K.length ≤ 32 := by omega
    have := Nat.mul_le_mul_right 1000 this
    omega)
  have HE : Hid (∀ k z, K[k]? = some z → ∃ i b : Nat, i < 32 ∧ z = (i : Int) ∧ ∀ u, Below w.heap.size w u → (Instr.lookup 72 (.map (some mb)) (.int .i64 i) false).run Tryz.prog u = .ok (.pointer (some ⟨b, 0, none⟩)) u ∧ u.cell? ⟨g, 1, none⟩ = some (.map (some mb)) ∧ (S.T i).length ≤ 1000 ∧ Calls Tryz.prog 47 #[.pointer (some ⟨b, 0, none⟩)] u fun e w' => ∃ v, e = .returned v ∧ LRes u w' ((S.T i).map Prod.fst) v ∧ Below u.heap.size u w') := Lib.hid (fun k z hz => by
    have hz' := List.mem_of_getElem? hz
    rw [hK] at hz'
    obtain ⟨i, hi, hs, rfl⟩ := tsK_mem.1 hz'
    obtain ⟨b, hb⟩ := Option.isSome_iff_exists.1 hs
    refine ⟨i, b, hi, rfl, fun u q => ?_⟩
    have h1 := h.keep q
    have hl := h1.map.get hi
    rw [hb] at hl
    have ht := h1.tab i hi
    rw [hb] at ht
    exact ⟨hl, h1.c1, hB.2.2.1 i hi, tids_any ht (hB.2.2.1 i hi)⟩)
  rw [← hK] at HSo
  clear h hF hI hB hK
  go_enter Tryz.func14, Tryz.ntmps14
  go_wp2_with fail
  refine HKs.out.mono ?_
  rintro e w0 ⟨rfl, rfl⟩
  go_wp2_with fail
  refine HSo.out.mono ?_
  rintro e w1 ⟨v, rfl, hrow, hb1⟩
  obtain ⟨ka, kcap, hkv, krow⟩ := owns_row9 hrow
  subst hkv
  have HRow := Lib.hid krow
  have HB1 := Lib.hid hb1
  have hsz1 : w.heap.size ≤ w1.heap.size := hb1.size
  obtain ⟨n, hn⟩ : ∃ n, n = K.length := ⟨_, rfl⟩
  rw [← hn] at HRow hKl ⊢
  have HN := Lib.hid hn
  clear hrow krow hb1 HKs HSo c1 hn
  go_wp2
  go_loopw [7, 19] (fun v7 i wr => ∃ k : Nat, k ≤ n ∧ i = .int .i64 k ∧ OwnD wr w1.heap.size v7 (quK S x y (K.take k)).length (quK S x y (K.take k)) ∧ Below w1.heap.size w1 wr) (fun _ i _ => n - (ivl i).toNat)
  case atStart => exact ⟨0, by omega, rfl, OwnD.nil _ _, Below.refl _ _⟩
  case round =>
    obtain ⟨k, hk, rfl, hown, hb⟩ := hrel
    have HOwn := Lib.hid hown
    have HB := Lib.hid hb
    have hsz : w1.heap.size ≤ wr.heap.size := hb.size
    have hgw : g < wr.heap.size := Nat.lt_of_lt_of_le (Nat.lt_of_lt_of_le hg hsz1) hsz
    clear hown hb
    by_cases hlt : k < n
    · obtain ⟨b, off, z, rfl, hz, cz⟩ := row_at (row_keep HRow.out HB.out) hlt
      have hbl := World.block_lt_of_cell? _ _ cz
      obtain ⟨i, tb, hi, rfl, hE⟩ := HE.out k z hz
      obtain ⟨hlk, cg, hTl, hids⟩ := hE wr (bthen HB1.out HB.out)
      have HIk := Lib.hid hids
      have k0 : (0 : Int) ≤ (k : Int) := by omega
      have k1 : (k : Int) < (n : Int) := by omega
      have hql := HQl.out k
      obtain ⟨b1, hb1⟩ : ∃ b1, b1 = (bits .and .i64 (i : Int) x == x) := ⟨_, rfl⟩
      obtain ⟨b2, hb2⟩ : ∃ b2, b2 = (bits .and .i64 (i : Int) y == 0) := ⟨_, rfl⟩
      have HQb : Hid (quB i x y = (b1 && b2)) := Lib.hid (by unfold quB; rw [hb1, hb2])
      have hb1' := hb1.symm
      have hb2' := hb2.symm
      have HZ := Lib.hid hz
      clear hb1 hb2 hids hE hz
      cases b1 with
      | false =>
        have HQ := Lib.hid (quK_no (S := S) (a := x) (n := y) HZ.out (by rw [HQb.out]; rfl))
        go_wp2
        go_roundw
        case rel => exact ⟨k + 1, by omega, by go_num, by rw [HQ.out]; exact HOwn.out, HB.out⟩
        case measure => simp [ivl] <;> omega
      | true =>
        cases b2 with
        | false =>
          have HQ := Lib.hid (quK_no (S := S) (a := x) (n := y) HZ.out (by rw [HQb.out]; rfl))
          go_wp2
          go_roundw
          case rel => exact ⟨k + 1, by omega, by go_num, by rw [HQ.out]; exact HOwn.out, HB.out⟩
          case measure => simp [ivl] <;> omega
        | true =>
          have HQ := Lib.hid (quK_yes (S := S) (a := x) (n := y) HZ.out (by rw [HQb.out]; rfl))
          obtain ⟨ys, hys⟩ : ∃ ys, ys = (S.T i).map Prod.fst := ⟨_, rfl⟩
          have hyl : ys.length ≤ 1000 := by rw [hys, List.length_map]; exact hTl
          rw [← hys] at HQ HIk
          obtain ⟨Q, hQ⟩ : ∃ Q, Q = quK S x y (K.take k) := ⟨_, rfl⟩
          rw [← hQ] at HQ HOwn hql
          obtain ⟨nq, hnq⟩ : ∃ nq, nq = Q.length := ⟨_, rfl⟩
          rw [← hnq] at HOwn hql
          have HNq := Lib.hid hnq
          clear hys hQ hnq hTl
          go_wp2_with fail
          refine HIk.out.mono ?_
          rintro e w2 ⟨v, rfl, ⟨va, vcap, hv, vrow, -⟩, b2⟩
          subst hv
          have HVr := Lib.hid vrow
          replace HOwn := Lib.hid (ownD_keep HOwn.out b2)
          replace HB := Lib.hid (bthen HB.out b2)
          have hsz2 := HB.out.size
          obtain ⟨ny, hny⟩ : ∃ ny, ny = ys.length := ⟨_, rfl⟩
          rw [← hny] at HVr hyl ⊢
          have HNy := Lib.hid hny
          clear vrow b2 hny HIk
          go_wp2_with (at_builtin; refine wpList_cat9 rfl (.tmp 34) (.tmp 41) rfl w1.heap.size nq u7 Q rfl HOwn.out va ny vcap ys rfl HVr.out (by omega) hyl hsz2 ?_)
          intro v' w3 ho hgr
          have HO3 := Lib.hid ho
          have HB3 := Lib.hid (own_below9 HOwn.out (Nat.le_refl _) HB.out hgr)
          clear ho hgr
          go_wp2
          go_roundw
          case rel =>
            refine ⟨k + 1, by omega, by go_num, ?_, HB3.out⟩
            rw [HQ.out, List.length_append, ← HNq.out, ← HNy.out]
            exact HO3.out
          case measure => simp [ivl] <;> omega
    · obtain rfl : k = n := by omega
      have e0 : K.take k = K := List.take_of_length_le (by have := HN.out; omega)
      rw [e0, HQL.out] at HOwn
      have HLr := Lib.hid (LRes.of9 (w := w) HOwn.out hsz1)
      obtain ⟨qa, qcap, hqv, hqr⟩ := HOwn.out.row
      subst hqv
      clear hqr e0
      go_wp2
      go_ret
      exact ⟨_, rfl, HLr.out, bthen HB1.out HB.out⟩

end Go.Proofs.YtcpgkkphibhdfaaGreat
