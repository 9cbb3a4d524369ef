/-
  5 texts in one file, each with its own heading.
-/
import Derived.Test.YtjcibffhlhdjeaaMU10
import Derived.Test.YtjcibffhlhdjeaaMU07
import Derived.Maps.OwnSet
import Derived.Lib.SlKeysI
import Derived.Test.YtjcibffhlhdjeaaMU08
/-
  The record of the least name; what a merge of two lists whose names rise keeps; the merge's statement that draws its order.
-/
namespace Go.Proofs.Ytjcibffhlhdjeaa
open Go.RowKit

structure MrgAt (F O Z F' O' : List Rc) : Prop where
  rz : Rise Z
  rf : Rise F'
  ro : Rise O'
  zf : ∀ z ∈ Z, ∀ x ∈ F', z.id < x.id
  zo : ∀ z ∈ Z, ∀ x ∈ O', z.id < x.id
  lk : ∀ k, (look k Z).or ((look k F').or (look k O')) = (look k F).or (look k O)
theorem look_one (k : Int) (r : Rc) : look k [r] = if r.id = k then some r else none := by rw [look_cons]; rfl
theorem wpList_bsR1 {ops : Array Oper} {rest : List Oper} {op : Oper} {a : Go.Act} {w : World} {Q : Exit → Go.Act → World → Prop} (hgd : op.guard = none) (t e : TypeId) (x : Operand) (ho : op.op = .buildSlice t 1 #[(0, x)]) (X : List Value) (hx : a.eval x = .agg X.toArray)
    (hrun : ∀ W, (Instr.buildSlice t 1 #[(0, .agg X.toArray)]).run Try.prog W = .ok (.slice (some ⟨W.heap.size, 0, none⟩) 1 1) (W.alloc (.cells X.toArray e)))
    (h : wpList Try.prog ops Q rest (a.put op.dst (.slice (some ⟨w.heap.size, 0, none⟩) 1 1)) (w.alloc (.cells X.toArray e))) : wpList Try.prog ops Q (op :: rest) a w := by
  refine wpList_plain hgd fun K hK => ?_
  unfold Oper.wp execOp
  simp only [ho]
  simp [hx, hrun]
  exact hK _ _ h
def Rg (x : Int) : Prop := -9223372036854775808 ≤ x ∧ x ≤ 9223372036854775807
instance (x : Int) : Decidable (Rg x) := by unfold Rg; exact inferInstance
def Rgs (xs : List Int) : Prop := ∀ x ∈ xs, Rg x
instance (xs : List Int) : Decidable (Rgs xs) := by unfold Rgs; exact inferInstance
theorem id_law : Go.Maps.Keyed Try.prog 46 := Go.Maps.int_keyed Try.underlying46
theorem id_key {x : Int} (h : Rg x) : keyOf Try.prog 46 (.int .i64 x) = some (.int .i64 x) := by
  refine Go.Maps.keyOf_int_mk Try.underlying46 ?_
  show (decide (IntKind.i64.min ≤ x) && decide (x ≤ IntKind.i64.max)) = true
  rw [decide_eq_true (show IntKind.i64.min ≤ x from h.1), decide_eq_true (show x ≤ IntKind.i64.max from h.2)]
  rfl
structure MK (α : Type) where
  t : TypeId
  e : TypeId
  V : Option α → Value
  E : Option α → DataW Unit
  R : Value → Option (DataW Unit × List MemPlace)
  ht : Try.prog.underlying t = some (.map 46 e)
  hz : ∀ w, (zeroValue e).run Try.prog w = .ok (V none) w
  rv : ∀ o, R (V o) = some (E o, [])
  inv : ∀ v o ps, R v = some (E o, ps) → v = V o
def MF {α : Type} (k : MK α) (w : World) (mb : Nat) (m : Int → Option α) : Prop := ∃ D : DataW Unit, w.ownsMap Try.prog 46 k.R mb 100000 D ∧ (∀ x, Rg x → D.atKey (.int .i64 x) (k.E none) = k.E (m x) ∧ Maps.has D (.int .i64 x) = (m x).isSome) ∧ ∀ x : Int, Maps.has D (.int .i64 x) = true → Rg x
def upm {α : Type} (m : Int → Option α) (x : Int) (o : Option α) (y : Int) : Option α := if y = x then o else m y
def ddI : List Int → List Int
  | [] => []
  | x :: l => if x ∈ l then ddI l else x :: ddI l
theorem mem_ddI {z : Int} : ∀ {l : List Int}, z ∈ ddI l ↔ z ∈ l
  | [] => Iff.rfl
  | x :: l => by
    unfold ddI
    by_cases c : x ∈ l
    · rw [if_pos c, mem_ddI, List.mem_cons]
      exact ⟨Or.inr, fun h => h.elim (fun e => e ▸ c) id⟩
    · rw [if_neg c, List.mem_cons, List.mem_cons, mem_ddI]
theorem nod_ddI : ∀ l : List Int, (ddI l).Nodup
  | [] => List.nodup_nil
  | x :: l => by
    unfold ddI
    by_cases c : x ∈ l
    · rw [if_pos c]; exact nod_ddI l
    · rw [if_neg c]; exact List.nodup_cons.2 ⟨fun h => c (mem_ddI.1 h), nod_ddI l⟩
theorem len_ddI : ∀ l : List Int, (ddI l).length ≤ l.length
  | [] => Nat.le_refl _
  | x :: l => by
    have ih := len_ddI l
    unfold ddI
    by_cases c : x ∈ l
    · rw [if_pos c, List.length_cons]; omega
    · rw [if_neg c, List.length_cons, List.length_cons]; omega
theorem own_small9 {R : Value → Option (DataW Unit × List MemPlace)} {w : World} {mb n : Nat} {D : DataW Unit} (hw : w.ownsMap Try.prog 46 R mb n D) (K : List Int) (hK : ∀ x : Int, Maps.has D (.int .i64 x) = true → x ∈ K) : Maps.size D ≤ K.length := by
  have hp : (ddI (K.filter fun x => Maps.has D (.int .i64 x))).Perm (intKeys D) := CollectedI.perm (left := fun _ => false) ⟨nod_ddI _, fun x => by
    rw [mem_ddI, List.mem_filter]
    exact ⟨fun h => ⟨h.2, rfl⟩, fun h => ⟨hK x h.1, h.1⟩⟩⟩ hw id_law Try.underlying46 (fun _ => rfl)
  have h1 := hp.length_eq
  have h2 := len_ddI (K.filter fun x => Maps.has D (.int .i64 x))
  have h3 := List.length_filter_le (fun x => Maps.has D (.int .i64 x)) K
  obtain ⟨es, rfl, _⟩ := hw.entries id_law
  unfold intKeys at h1
  rw [List.length_map] at h1
  rw [Maps.size_eq]
  omega
theorem own_size9 {R : Value → Option (DataW Unit × List MemPlace)} {w : World} {mb n m : Nat} {D : DataW Unit} (hw : w.ownsMap Try.prog 46 R mb n D) (h : Maps.size D ≤ m) : w.ownsMap Try.prog 46 R mb m D := by
  obtain ⟨es, clock, hb, F, hs, hD⟩ := hw
  refine ⟨es, clock, hb, F, ?_, hD⟩
  have e1 : Maps.size D = es.size := by rw [hD]; simp [Maps.size, length_sorted]
  omega
section
variable {α : Type} {k : MK α} {w w' : World} {mb : Nat} {m : Int → Option α} {x : Int}
theorem MF.lt (h : MF k w mb m) : mb < w.heap.size := by
  obtain ⟨D, hD, _⟩ := h
  exact hD.lt
theorem MF.same (h : MF k w mb m) (he : w'.heap[mb]? = w.heap[mb]?) : MF k w' mb m := by
  obtain ⟨D, ⟨es, clock, hb, F, hs, hD⟩, hk⟩ := h
  exact ⟨D, ⟨es, clock, he.trans hb, F, hs, hD⟩, hk⟩
theorem MF.keep (h : MF k w mb m) (hb : Below w.heap.size w w') : MF k w' mb m := h.same (hb.block mb h.lt)
theorem MF.eq (h : MF k w mb m) {m' : Int → Option α} (he : ∀ x, Rg x → m' x = m x) : MF k w mb m' := by
  obtain ⟨D, hD, hk, hr⟩ := h
  exact ⟨D, hD, fun x hx => by rw [he x hx]; exact hk x hx, hr⟩
theorem MF.new (k : MK α) (w : World) : MF k (w.alloc (.map #[] 0)) w.heap.size (fun _ => none) :=
  ⟨.map [], (World.ownsMap_made w _ _ _).mono (by omega), fun _ _ => ⟨rfl, rfl⟩, fun x h => by cases h⟩
theorem MF.get (h : MF k w mb m) (hx : Rg x) : (Instr.lookup k.t (.map (some mb)) (.int .i64 x) false).run Try.prog w = .ok (k.V (m x)) w := by
  obtain ⟨D, hD, hk, _⟩ := h
  obtain ⟨v, ps, hrun, hv⟩ := hD.lookup id_law k.ht (k.hz w) (k.rv none) (id_key hx)
  rw [(hk x hx).1] at hv
  rw [hrun, k.inv v _ _ hv]
theorem MF.put (h : MF k w mb m) (hx : Rg x) (a : α) (K : List Int) (hK : ∀ y, (upm m x (some a) y).isSome = true → y ∈ K) (hKl : K.length ≤ 100000) :
    ∃ w', (Instr.mapUpdate k.t (.map (some mb)) (.int .i64 x) (k.V (some a))).run Try.prog w = .ok () w' ∧ MF k w' mb (upm m x (some a)) ∧ w.grownBy w' (some mb) := by
  obtain ⟨D, hD, hk, hr⟩ := h
  obtain ⟨w', hrun, h1, h2⟩ := hD.update id_law k.ht (by unfold maxLen; omega) (id_key hx) (k.rv (some a))
  have hm : Maps.IsMap D := hD.isMap
  have hL : WideAt.IsKeyLit (.int .i64 x) := trivial
  have hne : ∀ {y : Int}, y ≠ x → (Lit.int .i64 y) ≠ .int .i64 x := fun hy e => by injection e with _ e; exact hy e
  have hr' : ∀ y : Int, Maps.has (D.put (.int .i64 x) (k.E (some a))) (.int .i64 y) = true → Rg y := fun y hy => by
    by_cases c : y = x
    · rw [c]; exact hx
    · rw [Maps.has_put_other (hne c)] at hy
      exact hr y hy
  have hk' : ∀ y, Rg y → (D.put (.int .i64 x) (k.E (some a))).atKey (.int .i64 y) (k.E none) = k.E (upm m x (some a) y) ∧ Maps.has (D.put (.int .i64 x) (k.E (some a))) (.int .i64 y) = (upm m x (some a) y).isSome := fun y hy => by
    unfold upm
    by_cases c : y = x
    · subst c
      rw [if_pos rfl, Maps.atKey_put_same hm hL, Maps.has_put_same hm hL]
      exact ⟨rfl, rfl⟩
    · rw [if_neg c, Maps.atKey_put_other (hne c), Maps.has_put_other (hne c)]
      exact hk y hy
  have hs := own_small9 h1 K (fun y hy => hK y (by rw [← (hk' y (hr' y hy)).2]; exact hy))
  exact ⟨w', hrun, ⟨_, own_size9 h1 (Nat.le_trans hs hKl), hk', hr'⟩, h2⟩
theorem MF.del (h : MF k w mb m) (hx : Rg x) :
    ∃ w', (∀ ty, (Builtin.delete_ #[k.t, 46] ty #[.map (some mb), .int .i64 x]).run Try.prog w = .ok (.tuple #[]) w') ∧ MF k w' mb (upm m x none) ∧ w.grownBy w' (some mb) := by
  obtain ⟨D, hD, hk, hr⟩ := h
  obtain ⟨w', hrun, h1, h2⟩ := hD.drop id_law k.ht (id_key hx) 0
  have hne : ∀ {y : Int}, y ≠ x → (Lit.int .i64 y) ≠ .int .i64 x := fun hy e => by injection e with _ e; exact hy e
  refine ⟨w', fun _ => hrun, ⟨_, h1, fun y hy => ?_, fun y hy => ?_⟩, h2.grown⟩
  · unfold upm
    by_cases c : y = x
    · subst c
      rw [if_pos rfl, Maps.atKey_del_same, Maps.has_del_same]
      exact ⟨rfl, rfl⟩
    · rw [if_neg c, Maps.atKey_del_other (hne c), Maps.has_del_other (hne c)]
      exact hk y hy
  · by_cases c : y = x
    · rw [c]; exact hx
    · rw [Maps.has_del_other (hne c)] at hy
      exact hr y hy
end
def enc1 : Value → DataW Unit
  | .int k x => .lit (.int k x)
  | .bool b => .lit (.bool b)
  | _ => .nil
def simp1 (v : Value) : Prop := (∃ k x, v = .int k x) ∨ ∃ b, v = .bool b
theorem enc1_inj {v u : Value} (hu : simp1 u) (h : enc1 v = enc1 u) : v = u := by
  rcases hu with ⟨k, x, rfl⟩ | ⟨b, rfl⟩
  · cases v <;> simp [enc1] at h ⊢
    exact h
  · cases v <;> simp [enc1] at h ⊢
    exact h
def encA : Value → DataW Unit
  | .agg a => .agg (a.toList.map enc1)
  | _ => .nil
theorem enc_list : ∀ {xs l : List Value}, (∀ u ∈ l, simp1 u) → xs.map enc1 = l.map enc1 → xs = l
  | [], [], _, _ => rfl
  | [], _ :: _, _, h => by simp at h
  | _ :: _, [], _, h => by simp at h
  | x :: xs, y :: l, hl, h => by
    rw [List.map_cons, List.map_cons] at h
    injection h with h1 h2
    rw [enc1_inj (hl y List.mem_cons_self) h1, enc_list (fun u hu => hl u (List.mem_cons_of_mem _ hu)) h2]
theorem encA_inj {v : Value} {l : List Value} (hl : ∀ u ∈ l, simp1 u) (h : encA v = encA (.agg l.toArray)) : v = .agg l.toArray := by
  cases v with
  | agg a =>
    unfold encA at h
    injection h with h
    have := enc_list (xs := a.toList) (l := l) hl h
    rw [← this]
  | _ => simp [encA] at h
def mkA {α : Type} (t e : TypeId) (V : Option α → Value) (ht : Try.prog.underlying t = some (.map 46 e)) (hz : ∀ w, (zeroValue e).run Try.prog w = .ok (V none) w) (hV : ∀ o, ∃ l : List Value, V o = .agg l.toArray ∧ ∀ u ∈ l, simp1 u) : MK α where
  t := t
  e := e
  V := V
  E o := encA (V o)
  R v := some (encA v, [])
  ht := ht
  hz := hz
  rv o := rfl
  inv v o ps h := by
    simp at h
    obtain ⟨l, hl, hs⟩ := hV o
    rw [hl] at h ⊢
    exact encA_inj hs h.1
def remL (X : List Rc) (zs : List Int) : List Rc := X.filter (fun r => !decide (r.id ∈ zs))
theorem rem_step {X : List Rc} {zs : List Int} {j : Nat} {x : Rc} (h : X[j]? = some x) : remL (X.take (j + 1)) zs = remL (X.take j) zs ++ (if x.id ∈ zs then [] else [x]) := by
  unfold remL
  rw [List.take_add_one, h, List.filter_append]
  by_cases q : x.id ∈ zs <;> simp [q]
section
variable {α : Type} {k : Nat} {c : α → List Value} {t : TypeId} {w w' : World} {base : Nat} {v : Value} {X : List α}
theorem wpList_pushY {ops : Array Oper} {rest : List Oper} {op : Oper} {a : Go.Act} {Q : Exit → Go.Act → World → Prop} (hgd : op.guard = none) (ts tb : Operand) (tl : TypeId) (by_ : Nat) (z : Value)
    (ho : op.op = .call { callee := .builtin .append, args := #[ts, tb], argTypes := #[tl, tl] }) (hu : Try.prog.underlying tl = some (.slice t))
    (hinfo : (Try.prog.info? t).map (fun i => (i.zero, i.size, i.bytes)) = some (some z, k, by_)) (hzs : z.cells.size = k) (hk : 0 < k) (hc : ∀ x, (c x).length = k) (x : α) (hone : ∀ u ∈ c x, u.oneCell' = true)
    (hs : a.eval ts = v) (hown : OwnX k c t w base v X) (gb : Nat) (cap : Nat) (hx : a.eval tb = .slice (some ⟨gb, 0, none⟩) 1 cap) (hb : w.rangeAt gb 0 (c x)) (hbytes : (X.length + 1) * by_ ≤ 140737488355328) (hX : X.length + 1 ≤ maxLen) (hbs : base ≤ w.heap.size)
    (h : ∀ v' w', OwnX k c t w' base v' (X ++ [x]) → w.grownBy w' v.ownBlock → (v'.ownBlock = v.ownBlock ∨ v'.ownBlock = some w.heap.size) → wpList Try.prog ops Q rest (a.put op.dst v') w') : wpList Try.prog ops Q (op :: rest) a w := by
  obtain ⟨i0, hi0, hz0, hz1, hz2⟩ := info_parts hinfo
  refine wpList_append_own_at w hgd ts tb tl ho base t i0 z k by_ hu hi0 hz0 hz1 hz2 hzs hk v X.length (X.flatMap c) hs hown ⟨gb, 0, none⟩ 1 cap (c x) hx (by rw [hc x, Nat.one_mul]) (fun j u hj => by
    have := hb j u hj
    rw [Addr.add_lit]
    exact this) hone hX hbytes hbs ?_
  intro v' w' h1 h2 _ h4
  refine h v' w' ?_ h2 h4
  unfold OwnX
  rw [List.length_append, List.flatMap_append]
  simpa using h1
end
theorem bs_rf1 (x : Rc) (W : World) : (Instr.buildSlice 29 1 #[(0, .agg (cRc x).toArray)]).run Try.prog W = .ok (.slice (some ⟨W.heap.size, 0, none⟩) 1 1) (W.alloc (.cells (cRc x).toArray 50)) := by kernel_rfl
theorem rf_size (x : Rc) : (Try.prog.info? 50).map (·.size) = some (cRc x).length := by
  rw [cRc_len]; kernel_rfl
theorem rc_cells {W : World} {g : Nat} {t : TypeId} {x : Rc} (k : Blk W g t (cRc x).toArray) :
    W.cell? ⟨g, 0, none⟩ = some (.int .i64 x.id) ∧ W.cell? ⟨g, 1, none⟩ = some (.int .i64 x.ms) ∧ W.cell? ⟨g, 2, none⟩ = some (.int .i64 x.pp) ∧ W.cell? ⟨g, 3, none⟩ = some (.int .i64 x.mt) ∧ W.cell? ⟨g, 4, none⟩ = some (.bool x.cl) ∧ W.cell? ⟨g, 5, none⟩ = some (.int .i64 x.ly) ∧
    W.cell? ⟨g, 6, none⟩ = some (.int .i64 x.x0) ∧ W.cell? ⟨g, 7, none⟩ = some (.int .i64 x.x1) ∧ W.cell? ⟨g, 8, none⟩ = some (.int .i64 x.x2) ∧ W.cell? ⟨g, 9, none⟩ = some (.int .i64 x.x3) ∧ W.cell? ⟨g, 10, none⟩ = some (.int .i64 x.x4) ∧ W.cell? ⟨g, 11, none⟩ = some (.int .i64 x.x5) :=
  ⟨k.cell 0, k.cell 1, k.cell 2, k.cell 3, k.cell 4, k.cell 5, k.cell 6, k.cell 7, k.cell 8, k.cell 9, k.cell 10, k.cell 11⟩
set_option maxHeartbeats 8000000 in
set_option maxRecDepth 100000 in
theorem gof_any (av : Option Addr) (n cap : Nat) (X : List Rc) (w : World) (row : RcRow w av n X) (hn : n * 96 ≤ 140737488355328) :
    Calls Try.prog 32 #[.slice av n cap] w fun e w' => ∃ v, e = .returned v ∧ OwnX 12 cRc 50 w' w.heap.size v X ∧ Below w.heap.size w w' := by
  have hbig := row.2.1
  have HLn := Lib.hid row.1
  have HRow := Lib.hid row
  clear row
  go_enter Try.func32, Try.ntmps32
  go_wp2
  go_loopw [3, 4, 5] (fun v3 v4 _ wr => ∃ j : Nat, v4 = .int .i64 j ∧ j ≤ n ∧ OwnX 12 cRc 50 wr w.heap.size v3 (X.take j) ∧ Below w.heap.size w wr) (fun _ v4 _ _ => n - (ivl v4).toNat)
  case atStart => exact ⟨0, rfl, by omega, OwnX.nil _ _ _ _ _, Below.refl _ _⟩
  case round =>
    obtain ⟨j, rfl, hj, ho, hb⟩ := hrel
    have HO := Lib.hid ho
    have HB := Lib.hid hb
    clear ho hb
    by_cases hlt : j < n
    · obtain ⟨b, off, x, rfl, hbl, hx, hr⟩ := HRow.out.at_ hlt
      have HTk : Hid (X.take (j + 1) = X.take j ++ [x]) := Lib.hid (by rw [List.take_add_one, hx]; rfl)
      have hpl : (X.take j).length = j := by rw [List.length_take, HLn.out]; omega
      have HLt : Hid (((X.take j).length + 1) * 96 ≤ 140737488355328 ∧ (X.take j).length + 1 ≤ maxLen) := Lib.hid (by rw [hpl]; unfold maxLen; omega)
      have HL0 : Hid (wr.rangeAt b (off + j * 12) (cRc x)) := Lib.hid (range_same hr (HB.out.block b hbl))
      have KN := Blk.new wr 52 (cRc zRc).toArray
      have HW1 : Hid (Blk ((wr.alloc (.cells (cRc zRc).toArray 52)).setCells wr.heap.size 0 (cRc x)) wr.heap.size 52 (cRc x).toArray ∧ OwnX 12 cRc 50 ((wr.alloc (.cells (cRc zRc).toArray 52)).setCells wr.heap.size 0 (cRc x)) w.heap.size u3 (X.take j) ∧ Below w.heap.size w ((wr.alloc (.cells (cRc zRc).toArray 52)).setCells wr.heap.size 0 (cRc x))) := Lib.hid (by
        have hbel : Below wr.heap.size wr ((wr.alloc (.cells (cRc zRc).toArray 52)).setCells wr.heap.size 0 (cRc x)) := below_setCells _ (alloc_below _ _) (Nat.le_refl _)
        refine ⟨?_, HO.out.keep hbel, bthen HB.out hbel⟩
        have := blk_setCells (cRc x) (o := 0) KN (Nat.le_refl 12)
        rw [splice_rc] at this
        exact this)
      have HTh0 : Hid ((wr.alloc (.cells (cRc zRc).toArray 52)).there wr.heap.size 0 12) := Lib.hid (blk_there KN (Nat.le_refl 12))
      have HSz := Lib.hid (rc_size x)
      have HOx := Lib.hid (rc_all x)
      have HCs : Hid (∀ W g, Blk W g 52 (cRc x).toArray → W.cell? ⟨g, 0, none⟩ = some (.int .i64 x.id) ∧ W.cell? ⟨g, 1, none⟩ = some (.int .i64 x.ms) ∧ W.cell? ⟨g, 2, none⟩ = some (.int .i64 x.pp) ∧ W.cell? ⟨g, 3, none⟩ = some (.int .i64 x.mt) ∧ W.cell? ⟨g, 4, none⟩ = some (.bool x.cl) ∧ W.cell? ⟨g, 5, none⟩ = some (.int .i64 x.ly) ∧
    W.cell? ⟨g, 6, none⟩ = some (.int .i64 x.x0) ∧ W.cell? ⟨g, 7, none⟩ = some (.int .i64 x.x1) ∧ W.cell? ⟨g, 8, none⟩ = some (.int .i64 x.x2) ∧ W.cell? ⟨g, 9, none⟩ = some (.int .i64 x.x3) ∧ W.cell? ⟨g, 10, none⟩ = some (.int .i64 x.x4) ∧ W.cell? ⟨g, 11, none⟩ = some (.int .i64 x.x5)) := Lib.hid (fun W g k => rc_cells k)
      obtain ⟨XX, hXX⟩ : ∃ XX, XX = cRc x := ⟨_, rfl⟩
      have HLx : Hid (XX.length = 12) := Lib.hid (by rw [hXX]; rfl)
      rw [← hXX] at HL0 HW1 HSz HOx HCs
      have HSz' : Hid ((Try.prog.info? 52).map (·.size) = some XX.toArray.size) := HSz
      have HTh : Hid ((wr.alloc (.cells (cRc zRc).toArray 52)).there wr.heap.size 0 XX.toArray.size) := Lib.hid (by show World.there _ _ 0 XX.length; rw [HLx.out]; exact HTh0.out)
      have j0 : (0 : Int) ≤ (j : Int) := by omega
      have j1 : (j : Int) < (n : Int) := by omega
      clear KN HTh0 hXX hx hr hbl HO HB
      go_upto_region 6 with (first
        | refine wpList_load_mid rfl 52 (.tmp 14) rfl b (off + j * 12) rfl XX _ HL0.out Try.underlying52 rfl HSz.out ?_
        | refine wpList_store_mid rfl 52 (.tmp 5) (.tmp 15) rfl wr.heap.size 0 XX.toArray rfl rfl HTh.out HSz'.out HOx.out ?_)
      refine fin (fun W => Blk W wr.heap.size 52 XX.toArray ∧ OwnX 12 cRc 50 W w.heap.size u3 (X.take j) ∧ Below w.heap.size w W) HW1.out ?_
      obtain ⟨g5, hg⟩ : ∃ g5, g5 = wr.heap.size := ⟨_, rfl⟩
      rw [← hg]
      clear HW1 HTh HL0 hg
      rintro W ⟨kx, ho, hb⟩
      obtain ⟨c0, c1, c2, c3, c4, c5, c6, c7, c8, c9, c10, c11⟩ := HCs.out _ _ kx
      have HO := Lib.hid ho
      have HB := Lib.hid hb
      have hbs := bs_rf1 x
      unfold cRc at hbs
      have hgl := kx.lt
      have hws : Hid (w.heap.size ≤ W.heap.size) := Lib.hid hb.size
      clear kx ho hb HCs
      go_wp2_with (at_builtin; refine wpList_pushY rfl (.tmp 16) (.tmp 32) 29 96 (.agg (cRc zRc).toArray) rfl Try.underlying29 zRf_info rfl (by decide) cRc_len x (cRc_one x) rfl (HO.out.keep (alloc_below _ _)) W.heap.size 1 rfl (blk_whole (X := cRc x) (Blk.new W _ _)) HLt.out.1 HLt.out.2 (Nat.le_trans hws.out (by simp)) ?_)
      intro v' W3 k1 k2 k3
      have K : Hid (OwnX 12 cRc 50 W3 w.heap.size v' (X.take (j + 1)) ∧ Below w.heap.size w W3) := Lib.hid ⟨by rw [HTk.out]; exact k1, grown_below2 (bthen HB.out (alloc_below _ _)) k2 (fun b e => (HO.out.lt b e).1)⟩
      clear k1 k2 k3 HO HB c0 c1 c2 c3 c4 c5 c6 c7 c8 c9 c10 c11 hbs
      go_wp2
      go_roundw
      case rel => exact ⟨j + 1, by go_num, by omega, K.out.1, K.out.2⟩
      case measure => simp [ivl] <;> omega
    · obtain rfl : j = n := by omega
      have j2 : ¬ (j : Int) < (j : Int) := by omega
      have HOz : Hid (OwnX 12 cRc 50 wr w.heap.size u3 X) := Lib.hid (by
        have q := HO.out
        rw [List.take_of_length_le (by rw [HLn.out]; exact Nat.le_refl _)] at q
        exact q)
      go_wp2
      go_ret
      exact ⟨u3, rfl, HOz.out, HB.out⟩
end Go.Proofs.Ytjcibffhlhdjeaa
