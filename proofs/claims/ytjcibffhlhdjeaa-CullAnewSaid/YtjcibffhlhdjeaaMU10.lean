/-
  12 texts in one file, each with its own heading.
-/
import Derived.Test.YtjcibffhlhdjeaaMU08
import Derived.Test.YtjcibffhlhdjeaaMU09
import Derived.BigQuiet
import Derived.Laws.IdiomCopy
/-
  What the library's sort does to a list: two ranges changed about, one that goes past others, rows turned round.
-/
namespace Go.Proofs.Ytjcibffhlhdjeaa
open Go.RowKit

section
variable {α : Type}
def insZ (P S : List α) (v : α) (Q : List α) (j : Nat) : List α := P ++ (S.take j ++ v :: S.drop j) ++ Q
variable {key : α → Int}
end
theorem rc_all (x : Rc) : (cRc x).toArray.all (·.oneCell') = true := all_oneCell_toArray (cRc_one x)
structure InsAt (X : List Rc) (a i j : Nat) (P S : List Rc) (v : Rc) (Q Z : List Rc) : Prop where
  x : X = insZ P S v Q S.length
  z : Z = insZ P S v Q (j - a)
  lp : P.length = a
  ls : S.length = i - a
  aj : a ≤ j
  ji : j ≤ i
  asc : Asc Rc.id S
  above : ∀ r ∈ S.drop (j - a), v.id < r.id
theorem rc_size (x : Rc) : (Try.prog.info? 52).map (·.size) = some (cRc x).length := by
  rw [cRc_len]; kernel_rfl
structure RotAt (T : List Rc) (m i j : Nat) (P A B Q : List Rc) : Prop where
  t : P ++ (B ++ A) ++ Q = T
  lp : P.length + i = m
  la : A.length = i
  lb : B.length = j
  i0 : 0 < i
  j0 : 0 < j
section
variable {α : Type} {key : α → Int}
structure Mrg (key : α → Int) (bs q a : Nat) (Y : List α) : Prop where
  at_ : a = q * (2 * bs)
  done : ∀ p, p < q → AscIn key Y (p * (2 * bs)) (p * (2 * bs) + 2 * bs)
  todo : ∀ p, 2 * q ≤ p → AscIn key Y (p * bs) (p * bs + bs)
end
def Rise (L : List Rc) : Prop := L.Pairwise (fun a b => a.id < b.id)
def look (k : Int) (L : List Rc) : Option Rc := L.find? (fun x => x.id == k)
theorem look_app (k : Int) (A B : List Rc) : look k (A ++ B) = (look k A).or (look k B) := by
  unfold look
  rw [List.find?_append]
theorem look_mem {k : Int} {L : List Rc} {x : Rc} (h : look k L = some x) : x ∈ L ∧ x.id = k := ⟨List.mem_of_find?_eq_some h, by have := List.find?_some h; simpa using this⟩
theorem look_none {k : Int} {L : List Rc} (h : ∀ x ∈ L, x.id ≠ k) : look k L = none := by
  unfold look
  rw [List.find?_eq_none]
  intro x hx
  simpa using h x hx
theorem look_some {k : Int} {L : List Rc} {x : Rc} (h : x ∈ L) (hk : x.id = k) : ∃ y, look k L = some y := by
  cases e : look k L with
  | some y => exact ⟨y, rfl⟩
  | none =>
    unfold look at e
    rw [List.find?_eq_none] at e
    have := e x h
    rw [hk] at this
    simp at this
theorem look_cons (k : Int) (a : Rc) (L : List Rc) : look k (a :: L) = if a.id = k then some a else look k L := by
  unfold look
  rw [List.find?_cons]
  by_cases h : a.id = k
  · rw [if_pos h, beq_iff_eq.2 h]
  · rw [if_neg h, beq_eq_false_iff_ne.2 h]
theorem rise_cons {a : Rc} {L : List Rc} : Rise (a :: L) ↔ (∀ x ∈ L, a.id < x.id) ∧ Rise L := List.pairwise_cons
theorem rise_ext : ∀ {A B : List Rc}, Rise A → Rise B → (∀ k, look k A = look k B) → A = B
  | [], [], _, _, _ => rfl
  | [], b :: B, _, _, h => by
    have := h b.id
    rw [look_cons, if_pos rfl] at this
    cases this
  | a :: A, [], _, _, h => by
    have := h a.id
    rw [look_cons, if_pos rfl] at this
    cases this
  | a :: A, b :: B, hA, hB, h => by
    obtain ⟨a1, a2⟩ := rise_cons.1 hA
    obtain ⟨b1, b2⟩ := rise_cons.1 hB
    have e1 := h a.id
    have e2 := h b.id
    rw [look_cons, if_pos rfl] at e1
    rw [look_cons b.id b, if_pos rfl] at e2
    have m1 := look_mem e1.symm
    have m2 := look_mem e2
    have l1 : b.id ≤ a.id := by
      rcases List.mem_cons.1 m1.1 with e | e
      · rw [e]; exact Int.le_refl _
      · exact Int.le_of_lt (b1 a e)
    have l2 : a.id ≤ b.id := by
      rcases List.mem_cons.1 m2.1 with e | e
      · rw [e]; exact Int.le_refl _
      · exact Int.le_of_lt (a1 b e)
    have ei : a.id = b.id := by omega
    have eab : a = b := by
      rw [look_cons, if_pos ei.symm] at e1
      injection e1
    subst eab
    congr 1
    refine rise_ext a2 b2 fun k => ?_
    have e3 := h k
    rw [look_cons, look_cons] at e3
    by_cases hk : a.id = k
    · rw [look_none (fun x hx => by have := a1 x hx; omega), look_none (fun x hx => by have := b1 x hx; omega)]
    · rw [if_neg hk, if_neg hk] at e3
      exact e3
theorem zRf_info : (Try.prog.info? 50).map (fun i => (i.zero, i.size, i.bytes)) = some (some (.agg (cRc zRc).toArray), 12, 96) := by kernel_rfl
section
variable {α : Type} {k : Nat} {c : α → List Value} {w w' : World}
theorem rowx_flat (hc : ∀ x, (c x).length = k) {b : Nat} : ∀ (Y : List α) (off : Nat), (∀ i x, Y[i]? = some x → w.rangeAt b (off + i * k) (c x)) → w.rangeAt b off (Y.flatMap c)
  | [], _, _ => fun j v hv => by simp at hv
  | y :: Y, off, h => fun j v hv => by
    rw [List.flatMap_cons] at hv
    by_cases hj : j < k
    · rw [List.getElem?_append_left (by rw [hc]; exact hj)] at hv
      have := h 0 y rfl j v hv
      simpa using this
    · rw [List.getElem?_append_right (by rw [hc]; omega), hc] at hv
      have ih := rowx_flat hc Y (off + k) (fun i x hi => by
        have := h (i + 1) x (by simpa using hi)
        rw [Nat.add_mul, Nat.one_mul] at this
        rw [show off + k + i * k = off + (i * k + k) by omega]
        exact this) (j - k) v hv
      rw [show off + k + (j - k) = off + j by omega] at ih
      exact ih
theorem run_append_zero {t ty e : TypeId} {i : TypeInfo} {a b : Option Addr} {n cn cm : Nat} (ht : Try.prog.underlying t = some (.slice e)) (hi : Try.prog.info? e = some i) (hn : n ≤ cn) :
    (Builtin.append_ #[t, t] ty #[.slice a n cn, .slice b 0 cm]).run Try.prog w = .ok (.slice a n cn) w := by
  cases a <;> cases b <;> simp [Builtin.append_, run_underlying ht, sizeOf, typeInfo, hi, Builtin.lenOf, Builtin.firstCells, loadCells, loadCellsFrom, storeCells, hn]
theorem wpList_appendR {e : TypeId} {ops : Array Oper} {rest : List Oper} {op : Oper} {a : Go.Act} {Q : Exit → Go.Act → World → Prop} (hgd : op.guard = none) (ts tb : Operand) (t : TypeId) (by_ : Nat) (z : Value)
    (ho : op.op = .call { callee := .builtin .append, args := #[ts, tb], argTypes := #[t, t] }) (hu : Try.prog.underlying t = some (.slice e))
    (hinfo : (Try.prog.info? e).map (fun i => (i.zero, i.size, i.bytes)) = some (some z, k, by_)) (hzs : z.cells.size = k) (hk : 0 < k) (hby : by_ ≤ 1000) (hc : ∀ x, (c x).length = k) (hone : ∀ x, ∀ u ∈ c x, u.oneCell' = true)
    {base : Nat} {v : Value} {X Y : List α} (hs : a.eval ts = v) (hown : OwnX k c e w base v X) (av : Option Addr) (n cap : Nat) (hx : a.eval tb = .slice av n cap) (row : RowX k c w av n Y) (hX : X.length + n ≤ 4000000) (hbs : base ≤ w.heap.size)
    (h : ∀ v' w', OwnX k c e w' base v' (X ++ Y) → w.grownBy w' v.ownBlock → (v'.ownBlock = v.ownBlock ∨ v'.ownBlock = some w.heap.size) → wpList Try.prog ops Q rest (a.put op.dst v') w') : wpList Try.prog ops Q (op :: rest) a w := by
  obtain ⟨i0, hi0, hz0, hz1, hz2⟩ := info_parts hinfo
  rcases Nat.eq_zero_or_pos n with rfl | hn
  · have hY : Y = [] := List.eq_nil_of_length_eq_zero row.1
    subst hY
    obtain ⟨a0, c0, rfl, hc0, _, _⟩ := hown.row hc
    have h2 := h (.slice a0 X.length c0) w (by rw [List.append_nil]; exact hown) ⟨rfl, rfl, rfl, Nat.le_refl _, fun _ _ _ => rfl⟩ (Or.inl rfl)
    refine wpList_plain hgd fun K hK => ?_
    have h3 := hK _ _ h2
    have hr := run_append_zero (ty := op.type) (a := a0) (b := av) (cm := cap) (w := w) hu hi0 hc0
    unfold Oper.wp execOp
    simp only [ho, resolve, invoke, builtin, Sem.run_bind, Sem.run_pure, Result.andThen_ok, List.map_toArray, List.map_cons, List.map_nil, hs, hx, hr]
    exact h3
  · rcases row.2.2 with h0 | ⟨b, off, rfl, hb, hr⟩
    · omega
    · have hbytes : (X.length + n) * by_ ≤ 140737488355328 := by
        have : (X.length + n) * by_ ≤ 4000000 * 1000 := Nat.mul_le_mul hX hby
        omega
      refine wpList_append_own_at w hgd ts tb t ho base e i0 z k by_ hu hi0 hz0 hz1 hz2 hzs hk v X.length (X.flatMap c) hs hown ⟨b, off, none⟩ n cap (Y.flatMap c) hx (by rw [flatx_len hc, row.1]) (fun j u hj => by
        have := rowx_flat hc Y off hr j u hj
        rw [Addr.add_mid]
        exact this) (fun u hu' => by
        obtain ⟨x, _, hx'⟩ := List.mem_flatMap.1 hu'
        exact hone x u hx') (by unfold maxLen; omega) hbytes hbs ?_
      intro v' w' h1 h2 _ h4
      refine h v' w' ?_ h2 h4
      unfold OwnX
      rw [List.length_append, List.flatMap_append, row.1]
      exact h1
end
theorem eqVecR (n : Nat) (a b c d e f : Int) (w : World) : (Op.equalIn (n + 1 + 1) 38 (.agg #[.int .i64 a, .int .i64 b, .int .i64 c]) (.agg #[.int .i64 d, .int .i64 e, .int .i64 f])).run Try.prog w = .ok ((a == d) && (b == e) && (c == f)) w := by
  have u3 := Try.underlying36
  have a3 := Try.isAgg36
  have z3 := Try.sizeOf36
  rw [Op.equalIn]
  simp only [Sem.run_bind, run_underlying Try.underlying38, Result.andThen_ok]
  simp only [Std.Legacy.Range.forIn_eq_forIn_range', Std.Legacy.Range.size, Nat.sub_zero, Nat.add_sub_cancel, Nat.div_one, List.range'_succ, List.range'_zero, List.forIn_cons, List.forIn_nil]
  go_simp
  by_cases h0 : a = d
  · subst h0
    by_cases h1 : b = e
    · subst h1
      by_cases h2 : c = f
      · subst h2; simp
      · simp [h2]
    · simp [h1]
  · simp [h0]
abbrev RcRow := RowX 12 cRc
theorem grown_below2 {w w1 w2 : World} {r : Option Nat} (h1 : Below w.heap.size w w1) (h2 : w1.grownBy w2 r) (hr : ∀ b, r = some b → w.heap.size ≤ b) : Below w.heap.size w w2 :=
  ⟨h2.os.trans h1.os, h2.tape.trans h1.tape, h2.output.trans h1.output, Nat.le_trans h1.size h2.size, fun q hq => (h2.block q (Nat.lt_of_lt_of_le hq h1.size) (fun e => by have := hr q e.symm; omega)).trans (h1.block q hq)⟩
theorem splice_rc (a b : Rc) : splice (cRc a) 0 (cRc b) = cRc b := splice_all rfl
end Go.Proofs.Ytjcibffhlhdjeaa
