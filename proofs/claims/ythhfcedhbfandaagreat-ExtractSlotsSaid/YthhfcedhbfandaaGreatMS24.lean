/-
  3 texts in one file, each with its own heading.
-/
import Derived.Test.YthhfcedhbfandaaGreatMS23
import Derived.Laws.IdiomCopy
/-
  The library's merge of two sorted ranges, walked.
-/
namespace Go.Proofs.YthhfcedhbfandaaGreat
open Go.RowKit

section
variable {α : Type} {key : α → Int}
structure Mrg (key : α → Int) (bs q a : Nat) (Y : List α) : Prop where
  at_ : a = q * (2 * bs)
  done : ∀ p, p < q → AscIn key Y (p * (2 * bs)) (p * (2 * bs) + 2 * bs)
  todo : ∀ p, 2 * q ≤ p → AscIn key Y (p * bs) (p * bs + bs)
theorem AscIn.all {X : List α} (h : AscIn key X 0 X.length) : Asc key X := asc_of fun i j a b hij ha hb => h i j a b (Nat.zero_le _) hij (List.getElem?_eq_some_iff.1 hb).1 ha hb
end
theorem ins_zero (av : Option Addr) (cap : Nat) (w : World) :
    Calls Tryz.prog 293 #[.slice av 0 cap, .int .i64 0, .int .i64 0, .func (.func 222) #[] #[]] w fun e w' => e = .returned (.tuple #[]) ∧ w = w' := by
  go_enter Tryz.func293, Tryz.ntmps293
  go_wp2
  refine wp_loop_rounds 1 ?_
  rw [rounds_succ]
  go_wp2
  go_end0
  exact ⟨rfl, rfl⟩
theorem stb_zero (av : Option Addr) (cap : Nat) (w : World) :
    Calls Tryz.prog 266 #[.slice av 0 cap, .int .i64 0, .func (.func 222) #[] #[]] w fun e w' => e = .returned (.tuple #[]) ∧ w = w' := by
  have HI := Lib.hid (ins_zero av cap w)
  go_enter Tryz.func266, Tryz.ntmps266
  go_wp2
  refine wp_loop_rounds 1 ?_
  rw [rounds_succ]
  go_wp2_with fail
  refine HI.out.mono ?_
  rintro e w1 ⟨rfl, rfl⟩
  go_wp2
  refine wp_loop_rounds 1 ?_
  rw [rounds_succ]
  go_wp2
  go_end0
  exact ⟨rfl, rfl⟩
theorem sort_zero (av : Option Addr) (cap : Nat) (w : World) :
    Calls Tryz.prog 221 #[.slice av 0 cap, .func (.func 222) #[] #[]] w fun e w' => e = .returned (.tuple #[]) ∧ w = w' := by
  have HS := Lib.hid (stb_zero av cap w)
  go_enter Tryz.func221, Tryz.ntmps221
  go_wp2_with fail
  refine HS.out.mono ?_
  rintro e w1 ⟨rfl, rfl⟩
  go_wp2
  go_end0
  exact ⟨rfl, rfl⟩
theorem rev_none (av : Option Addr) (cap : Nat) (w : World) :
    Calls Tryz.prog 220 #[.slice av 0 cap] w fun e w' => e = .returned (.tuple #[]) ∧ w = w' := by
  go_enter Tryz.func220, Tryz.ntmps220
  go_wp2
  refine wp_loop_rounds 1 ?_
  rw [rounds_succ]
  go_wp2
  go_end0
  exact ⟨rfl, rfl⟩
def Rise (L : List Rc) : Prop := L.Pairwise (fun a b => a.id < b.id)
def look (k : Int) (L : List Rc) : Option Rc := L.find? (fun x => x.id == k)
theorem look_fil {A B : List Rc} (h : Fil Rc.id A B) (k : Int) : look k B = look k A := by
  unfold look
  rw [← List.head?_filter, ← List.head?_filter, h k]
theorem look_app (k : Int) (A B : List Rc) : look k (A ++ B) = (look k A).or (look k B) := by
  unfold look
  rw [List.find?_append]
theorem look_mem {k : Int} {L : List Rc} {x : Rc} (h : look k L = some x) : x ∈ L ∧ x.id = k := ⟨List.mem_of_find?_eq_some h, by have := List.find?_some h; simpa using this⟩
theorem look_none {k : Int} {L : List Rc} (h : ∀ x ∈ L, x.id ≠ k) : look k L = none := by
  unfold look
  rw [List.find?_eq_none]
  intro x hx
  simpa using h x hx
theorem look_some {k : Int} {L : List Rc} {x : Rc} (h : x ∈ L) (hk : x.id = k) : ∃ y, look k L = some y := by
  cases e : look k L with
  | some y => exact ⟨y, rfl⟩
  | none =>
    unfold look at e
    rw [List.find?_eq_none] at e
    have := e x h
    rw [hk] at this
    simp at this
theorem look_cons (k : Int) (a : Rc) (L : List Rc) : look k (a :: L) = if a.id = k then some a else look k L := by
  unfold look
  rw [List.find?_cons]
  by_cases h : a.id = k
  · rw [if_pos h, beq_iff_eq.2 h]
  · rw [if_neg h, beq_eq_false_iff_ne.2 h]
theorem rise_cons {a : Rc} {L : List Rc} : Rise (a :: L) ↔ (∀ x ∈ L, a.id < x.id) ∧ Rise L := List.pairwise_cons
theorem rise_ext : ∀ {A B : List Rc}, Rise A → Rise B → (∀ k, look k A = look k B) → A = B
  | [], [], _, _, _ => rfl
  | [], b :: B, _, _, h => by
    have := h b.id
    rw [look_cons, if_pos rfl] at this
    cases this
  | a :: A, [], _, _, h => by
    have := h a.id
    rw [look_cons, if_pos rfl] at this
    cases this
  | a :: A, b :: B, hA, hB, h => by
    obtain ⟨a1, a2⟩ := rise_cons.1 hA
    obtain ⟨b1, b2⟩ := rise_cons.1 hB
    have e1 := h a.id
    have e2 := h b.id
    rw [look_cons, if_pos rfl] at e1
    rw [look_cons b.id b, if_pos rfl] at e2
    have m1 := look_mem e1.symm
    have m2 := look_mem e2
    have l1 : b.id ≤ a.id := by
      rcases List.mem_cons.1 m1.1 with e | e
      · rw [e]; exact Int.le_refl _
      · exact Int.le_of_lt (b1 a e)
    have l2 : a.id ≤ b.id := by
      rcases List.mem_cons.1 m2.1 with e | e
      · rw [e]; exact Int.le_refl _
      · exact Int.le_of_lt (a1 b e)
    have ei : a.id = b.id := by omega
    have eab : a = b := by
      rw [look_cons, if_pos ei.symm] at e1
      injection e1
    subst eab
    congr 1
    refine rise_ext a2 b2 fun k => ?_
    have e3 := h k
    rw [look_cons, look_cons] at e3
    by_cases hk : a.id = k
    · rw [look_none (fun x hx => by have := a1 x hx; omega), look_none (fun x hx => by have := b1 x hx; omega)]
    · rw [if_neg hk, if_neg hk] at e3
      exact e3
def keepAt (X : List Rc) (t : Nat) : Bool := match X[t]? with
  | none => false
  | some x => match X[t - 1]? with
    | none => true
    | some y => decide (t = 0) || !(x.id == y.id)
def compT (X : List Rc) : Nat → List Rc
  | 0 => []
  | t + 1 => compT X t ++ (if keepAt X t then (X[t]?).toList else [])
theorem keep_at {X : List Rc} {t : Nat} {x y : Rc} (hx : X[t + 1]? = some x) (hy : X[t]? = some y) : keepAt X (t + 1) = !(x.id == y.id) := by
  unfold keepAt
  rw [hx, Nat.add_sub_cancel, hy]
  simp
theorem keep_zero {X : List Rc} {x : Rc} (hx : X[0]? = some x) : keepAt X 0 = true := by
  unfold keepAt
  rw [hx]
  simp
theorem comp_len (X : List Rc) : ∀ t, t ≤ X.length → (compT X t).length ≤ t
  | 0, _ => Nat.le_refl _
  | t + 1, h => by
    have := comp_len X t (by omega)
    unfold compT
    rw [List.length_append]
    by_cases c : keepAt X t = true
    · rw [if_pos c, List.getElem?_eq_getElem (by omega)]; simp; omega
    · rw [if_neg c]; simp; omega
theorem comp_ok {X : List Rc} (hX : Asc Rc.id X) : ∀ t, t ≤ X.length → Rise (compT X t) ∧ (∀ x ∈ compT X t, x ∈ X.take t) ∧ ∀ k, look k (compT X t) = look k (X.take t)
  | 0, _ => ⟨List.Pairwise.nil, (by intro x hx; cases hx), (by intro k; simp [compT])⟩
  | t + 1, h => by
    obtain ⟨r, m, l⟩ := comp_ok hX t (by omega)
    have hx : X[t]? = some X[t] := List.getElem?_eq_getElem (by omega)
    have et : X.take (t + 1) = X.take t ++ [X[t]] := by rw [List.take_add_one, hx]; rfl
    unfold compT
    by_cases c : keepAt X t = true
    · rw [if_pos c, hx, et, Option.toList_some]
      have lt : ∀ x ∈ X.take t, x.id < (X[t]).id := fun x hm => by
        obtain ⟨i, hi⟩ := List.mem_iff_getElem?.1 hm
        have hit : i < t := by
          have := (List.getElem?_eq_some_iff.1 hi).1
          rw [List.length_take] at this; omega
        rw [List.getElem?_take, if_pos hit] at hi
        obtain ⟨s, rfl⟩ : ∃ s, t = s + 1 := ⟨t - 1, by omega⟩
        have hy : X[s]? = some X[s] := List.getElem?_eq_getElem (by omega)
        have e := keep_at hx hy
        rw [c] at e
        have ne : X[s + 1].id ≠ X[s].id := by simpa using e
        have l1 := asc_at hX (show i ≤ s by omega) hi hy
        have l2 := asc_at hX (Nat.le_succ s) hy hx
        omega
      refine ⟨List.pairwise_append.2 ⟨r, List.pairwise_singleton _ _, fun a ha b hb => ?_⟩, fun x hx' => ?_, fun k => ?_⟩
      · rw [List.mem_singleton.1 hb]; exact lt a (m a ha)
      · rcases List.mem_append.1 hx' with q | q
        · exact List.mem_append.2 (Or.inl (m x q))
        · exact List.mem_append.2 (Or.inr q)
      · rw [look_app, look_app, l k]
    · rw [if_neg c, List.append_nil]
      refine ⟨r, fun x hx' => by rw [et]; exact List.mem_append.2 (Or.inl (m x hx')), fun k => ?_⟩
      rw [et, look_app, l k]
      by_cases hk : (X[t]).id = k
      · have : ∃ y, look k (X.take t) = some y := by
          rcases Nat.eq_zero_or_pos t with rfl | ht
          · exact absurd (keep_zero hx) c
          · obtain ⟨s, rfl⟩ : ∃ s, t = s + 1 := ⟨t - 1, by omega⟩
            have hy : X[s]? = some X[s] := List.getElem?_eq_getElem (by omega)
            have e := keep_at hx hy
            have e2 : keepAt X (s + 1) = false := by simpa using c
            rw [e2] at e
            have eq : X[s + 1].id = X[s].id := by simpa using e.symm
            refine look_some (x := X[s]) ?_ (by rw [← eq]; exact hk)
            refine List.mem_iff_getElem?.2 ⟨s, ?_⟩
            rw [List.getElem?_take, if_pos (by omega)]
            exact hy
        obtain ⟨y, hy⟩ := this
        rw [hy]; rfl
      · have : look k [X[t]] = none := look_none (fun x hx' => by rw [List.mem_singleton.1 hx']; exact hk)
        rw [this]; simp
theorem zRc_info : (Tryz.prog.info? 92).map (fun i => (i.zero, i.size, i.bytes)) = some (some (.agg (cRc zRc).toArray), 12, 96) := by kernel_rfl
section
variable {α : Type} {k : Nat} {c : α → List Value} {w w' : World}
theorem rowx_flat (hc : ∀ x, (c x).length = k) {b : Nat} : ∀ (Y : List α) (off : Nat), (∀ i x, Y[i]? = some x → w.rangeAt b (off + i * k) (c x)) → w.rangeAt b off (Y.flatMap c)
  | [], _, _ => fun j v hv => by simp at hv
  | y :: Y, off, h => fun j v hv => by
    rw [List.flatMap_cons] at hv
    by_cases hj : j < k
    · rw [List.getElem?_append_left (by rw [hc]; exact hj)] at hv
      have := h 0 y rfl j v hv
      simpa using this
    · rw [List.getElem?_append_right (by rw [hc]; omega), hc] at hv
      have ih := rowx_flat hc Y (off + k) (fun i x hi => by
        have := h (i + 1) x (by simpa using hi)
        rw [Nat.add_mul, Nat.one_mul] at this
        rw [show off + k + i * k = off + (i * k + k) by omega]
        exact this) (j - k) v hv
      rw [show off + k + (j - k) = off + j by omega] at ih
      exact ih
theorem run_append_zero {t ty e : TypeId} {i : TypeInfo} {a b : Option Addr} {n cn cm : Nat} (ht : Tryz.prog.underlying t = some (.slice e)) (hi : Tryz.prog.info? e = some i) (hn : n ≤ cn) :
    (Builtin.append_ #[t, t] ty #[.slice a n cn, .slice b 0 cm]).run Tryz.prog w = .ok (.slice a n cn) w := by
  cases a <;> cases b <;> simp [Builtin.append_, run_underlying ht, sizeOf, typeInfo, hi, Builtin.lenOf, Builtin.firstCells, loadCells, loadCellsFrom, storeCells, hn]
theorem wpList_appendR {e : TypeId} {ops : Array Oper} {rest : List Oper} {op : Oper} {a : Go.Act} {Q : Exit → Go.Act → World → Prop} (hgd : op.guard = none) (ts tb : Operand) (t : TypeId) (by_ : Nat) (z : Value)
    (ho : op.op = .call { callee := .builtin .append, args := #[ts, tb], argTypes := #[t, t] }) (hu : Tryz.prog.underlying t = some (.slice e))
    (hinfo : (Tryz.prog.info? e).map (fun i => (i.zero, i.size, i.bytes)) = some (some z, k, by_)) (hzs : z.cells.size = k) (hk : 0 < k) (hby : by_ ≤ 1000) (hc : ∀ x, (c x).length = k) (hone : ∀ x, ∀ u ∈ c x, u.oneCell' = true)
    {base : Nat} {v : Value} {X Y : List α} (hs : a.eval ts = v) (hown : OwnX k c e w base v X) (av : Option Addr) (n cap : Nat) (hx : a.eval tb = .slice av n cap) (row : RowX k c w av n Y) (hX : X.length + n ≤ 4000000) (hbs : base ≤ w.heap.size)
    (h : ∀ v' w', OwnX k c e w' base v' (X ++ Y) → w.grownBy w' v.ownBlock → (v'.ownBlock = v.ownBlock ∨ v'.ownBlock = some w.heap.size) → wpList Tryz.prog ops Q rest (a.put op.dst v') w') : wpList Tryz.prog ops Q (op :: rest) a w := by
  obtain ⟨i0, hi0, hz0, hz1, hz2⟩ := info_parts hinfo
  rcases Nat.eq_zero_or_pos n with rfl | hn
  · have hY : Y = [] := List.eq_nil_of_length_eq_zero row.1
    subst hY
    obtain ⟨a0, c0, rfl, hc0, _, _⟩ := hown.row hc
    have h2 := h (.slice a0 X.length c0) w (by rw [List.append_nil]; exact hown) ⟨rfl, rfl, rfl, Nat.le_refl _, fun _ _ _ => rfl⟩ (Or.inl rfl)
    refine wpList_plain hgd fun K hK => ?_
    have h3 := hK _ _ h2
    have hr := run_append_zero (ty := op.type) (a := a0) (b := av) (cm := cap) (w := w) hu hi0 hc0
    unfold Oper.wp execOp
    simp only [ho, resolve, invoke, builtin, Sem.run_bind, Sem.run_pure, Result.andThen_ok, List.map_toArray, List.map_cons, List.map_nil, hs, hx, hr]
    exact h3
  · rcases row.2.2 with h0 | ⟨b, off, rfl, hb, hr⟩
    · omega
    · have hbytes : (X.length + n) * by_ ≤ 140737488355328 := by
        have : (X.length + n) * by_ ≤ 4000000 * 1000 := Nat.mul_le_mul hX hby
        omega
      refine wpList_append_own_at w hgd ts tb t ho base e i0 z k by_ hu hi0 hz0 hz1 hz2 hzs hk v X.length (X.flatMap c) hs hown ⟨b, off, none⟩ n cap (Y.flatMap c) hx (by rw [flatx_len hc, row.1]) (fun j u hj => by
        have := rowx_flat hc Y off hr j u hj
        rw [Addr.add_mid]
        exact this) (fun u hu' => by
        obtain ⟨x, _, hx'⟩ := List.mem_flatMap.1 hu'
        exact hone x u hx') (by unfold maxLen; omega) hbytes hbs ?_
      intro v' w' h1 h2 _ h4
      refine h v' w' ?_ h2 h4
      unfold OwnX
      rw [List.length_append, List.flatMap_append, row.1]
      exact h1
end
theorem run_clear_rows (w : World) (ty : TypeId) (b o n c : Nat) (ht : ∀ j, j < n * 12 → (w.cell? ⟨b, o + j, none⟩).isSome = true) (hf : ∀ j, j < n * 12 → w.frozen? ⟨b, o + j, none⟩ = false) (hn : 0 < n) :
    ∃ zs : List Value, zs.length = n * 12 ∧ (Builtin.clear_ #[85] ty #[.slice (some ⟨b, o, none⟩) n c]).run Tryz.prog w = .ok (.tuple #[]) (w.setCells b o zs) := by
  have hv : ∀ w, (zeroValue 92).run Tryz.prog w = .ok (.agg (cRc zRc).toArray) w := fun w => by kernel_rfl
  have hz : (Builtin.zeroCells (cRc zRc).toArray n).toList.length = n * 12 := by rw [Array.length_toList, size_zeroCells]; rfl
  have hst := run_storeCells_cells (P := Tryz.prog) b o (Builtin.zeroCells (cRc zRc).toArray n).toList 0 w (by rw [hz]; simpa using ht) (by rw [hz]; simpa using hf) (by
    intro v hv'
    simp only [Builtin.zeroCells, Array.toList_map, List.mem_map] at hv'
    obtain ⟨i, _, rfl⟩ := hv'
    refine cRc_one zRc _ ?_
    have hlt : i % (cRc zRc).toArray.size < (cRc zRc).toArray.size := Nat.mod_lt _ (by decide)
    rw [getElem!_pos (cRc zRc).toArray _ hlt, ← Array.getElem_toList]
    exact List.getElem_mem _)
  simp only [Nat.add_zero] at hst
  obtain ⟨m, rfl⟩ : ∃ m, n = m + 1 := ⟨n - 1, by omega⟩
  refine ⟨_, hz, ?_⟩
  simp [Builtin.clear_, run_underlying Tryz.underlying85, hv, Value.cells, hst]
end Go.Proofs.YthhfcedhbfandaaGreat
