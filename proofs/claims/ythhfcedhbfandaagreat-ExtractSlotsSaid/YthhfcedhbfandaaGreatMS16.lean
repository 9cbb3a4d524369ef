/-
  5 texts in one file, each with its own heading.
-/
import Derived.Test.YthhfcedhbfandaaGreatMS15
import Derived.Test.YthhfcedhbfandaaGreatMS03
/-
  No ring among nodes makes a forest without rings; the reference's flow in memory; what its Names of layer 10 answers.
-/
namespace Go.Proofs.YthhfcedhbfandaaGreat
open Go.RowKit

theorem hangs_in {L : List Nd} {x : Int} (h : 0 ≤ hangs L x) : ∃ n ∈ L, n.id = x := by
  cases hx : elF Nd.id L x with
  | none => rw [hangs_none hx] at h; omega
  | some n =>
    obtain ⟨k, _, hk, _, e⟩ := ix_some hx
    exact ⟨n, List.mem_of_getElem? hk, e⟩
theorem hangs_on {L : List Nd} {x : Int} (h : 0 ≤ hangs L x) : ∃ n ∈ L, n.id = hangs L x := by
  cases hx : elF Nd.id L x with
  | none => rw [hangs_none hx] at h; omega
  | some n =>
    rw [hangs_some hx] at h ⊢
    by_cases c : n.par < 0 ∨ (elF Nd.id L n.par).isNone = true
    · rw [if_pos c] at h; omega
    · rw [if_neg c]
      cases hp : elF Nd.id L n.par with
      | none => exact absurd (Or.inr (by rw [hp]; rfl)) c
      | some m =>
        obtain ⟨k, _, hk, _, e⟩ := ix_some hp
        exact ⟨m, List.mem_of_getElem? hk, e⟩
theorem mem_trees {L : List Nd} {x y : Int} : (x, y) ∈ treesN L ↔ (∃ n ∈ L, n.id = x) ∧ 0 ≤ hangs L x ∧ y = hangs L x := by
  unfold treesN
  rw [List.mem_filterMap]
  constructor
  · rintro ⟨n, hn, h⟩
    by_cases c : 0 ≤ hangs L n.id
    · rw [if_pos c] at h
      injection h with h
      injection h with h1 h2
      subst h1
      exact ⟨⟨n, hn, rfl⟩, c, h2.symm⟩
    · rw [if_neg c] at h; cases h
  · rintro ⟨⟨n, hn, rfl⟩, c, rfl⟩
    exact ⟨n, hn, by rw [if_pos c]⟩
theorem trees_fst (L : List Nd) : (treesN L).map Prod.fst = (L.filter (fun n => decide (0 ≤ hangs L n.id))).map Nd.id := by
  have key : ∀ M : List Nd, (M.filterMap (fun n => if 0 ≤ hangs L n.id then some (n.id, hangs L n.id) else none)).map Prod.fst = (M.filter (fun n => decide (0 ≤ hangs L n.id))).map Nd.id := by
    intro M
    induction M with
    | nil => rfl
    | cons m M ih =>
      by_cases c : 0 ≤ hangs L m.id
      · rw [List.filterMap_cons_some (b := (m.id, hangs L m.id)) (by rw [if_pos c]), List.filter_cons_of_pos (by simpa using c), List.map_cons, List.map_cons, ih]
      · rw [List.filterMap_cons_none (by rw [if_neg c]), List.filter_cons_of_neg (by simpa using c), ih]
  exact key L
theorem trees_nod {L : List Nd} (h : (L.map Nd.id).Nodup) : ((treesN L).map Prod.fst).Nodup := by
  rw [trees_fst]
  exact h.sublist (List.Sublist.map _ List.filter_sublist)
theorem trees_len (L : List Nd) : (treesN L).length ≤ L.length := by
  unfold treesN
  exact List.length_filterMap_le _ _
theorem par_trees {L : List Nd} (h : (L.map Nd.id).Nodup) (x : Int) : parO (treesN L) x = if 0 ≤ hangs L x then some (hangs L x) else none := by
  by_cases c : 0 ≤ hangs L x
  · rw [if_pos c]
    exact par_of_mem (trees_nod h) (mem_trees.2 ⟨hangs_in c, c, rfl⟩)
  · rw [if_neg c]
    cases hp : parO (treesN L) x with
    | none => rfl
    | some y => exact absurd (mem_trees.1 (par_mem hp)).2.1 c
theorem tree_wf {L : List Nd} (h : (L.map Nd.id).Nodup) (hr : ∀ n ∈ L, ringB L n.id = false) : WF (treesN L) := by
  refine ⟨trees_nod h, ?_⟩
  have key : ∀ (k : Nat) (y : Int), ringI L k y < 0 → y < 0 ∨ ∃ l, IsA (treesN L) y l := by
    intro k
    induction k with
    | zero => exact fun y hy => Or.inl hy
    | succ k ih =>
      intro y hy
      by_cases c : 0 ≤ y
      · refine Or.inr ?_
        have hy' : ringI L k (hangs L y) < 0 := by
          have : ringI L (k + 1) y = ringI L k (hangs L y) := by show (if 0 ≤ y then _ else _) = _; rw [if_pos c]
          rw [← this]; exact hy
        by_cases d : 0 ≤ hangs L y
        · rcases ih _ hy' with q | ⟨l, hl⟩
          · omega
          · exact ⟨hangs L y :: l, by rw [par_trees h, if_pos d], hl⟩
        · exact ⟨[], by show parO _ _ = none; rw [par_trees h, if_neg d]⟩
      · exact Or.inl (by omega)
  intro x
  by_cases d : 0 ≤ hangs L x
  · obtain ⟨n, hn, e⟩ := hangs_in d
    have h1 := hr n hn
    rw [e] at h1
    unfold ringB at h1
    have h2 := of_decide_eq_false h1
    rcases key (L.length + 1) (hangs L x) (by omega) with q | ⟨l, hl⟩
    · omega
    · exact ⟨hangs L x :: l, by rw [par_trees h, if_pos d], hl⟩
  · exact ⟨[], by show parO _ _ = none; rw [par_trees h, if_neg d]⟩
structure RW (w : World) (g : Nat) (D : FD) (vl vd vs : Value) : Prop where
  blk : Blk w g 38 #[vl, vd, .bool D.begun, vs, .int .i64 D.steps]
  nod : OwnX 15 cNd 163 w 0 vl D.L
  dir : OwnD w 0 vd D.dirty.length D.dirty
  sts : OwnX 14 cSt 173 w 0 vs D.sts
  ol : ∀ b, vl.ownBlock = some b → b ≠ g ∧ vd.ownBlock ≠ some b ∧ vs.ownBlock ≠ some b
  od : ∀ b, vd.ownBlock = some b → b ≠ g ∧ vs.ownBlock ≠ some b
  os : ∀ b, vs.ownBlock = some b → b ≠ g
def footW (g : Nat) (vl vd vs : Value) (b : Nat) : Prop := b = g ∨ vl.ownBlock = some b ∨ vd.ownBlock = some b ∨ vs.ownBlock = some b
section
variable {w w' : World} {g : Nat} {D : FD} {vl vd vs : Value} {F : Nat → Prop}
theorem ownd_same {w w' : World} {base n : Nat} {v : Value} {zs : List Int} (h : OwnD w base v n zs) (he : ∀ b, v.ownBlock = some b → w'.heap[b]? = w.heap[b]?) : OwnD w' base v n zs :=
  ⟨h.1, h.2.imp id fun ⟨g, cap, cur, e, hb, hg, hr⟩ => ⟨g, cap, cur, e, hb, (he g (by rw [e]; rfl)).trans hg, hr⟩⟩
end
theorem below_drew9f (w : World) : Below w.heap.size w w.drew := ⟨rfl, rfl, rfl, Nat.le_refl _, fun _ _ => rfl⟩
section
variable {w : World} {g : Nat} {D : FD} {vl vd vs : Value}
end
section
variable {w : World} {g : Nat} {D : FD} {vl vd vs : Value}
end
theorem wpList_bld0f {ops : Array Oper} {rest : List Oper} {op : Oper} {a : Go.Act} {w : World} {Q : Exit → Go.Act → World → Prop} (hgd : op.guard = none) (t : TypeId) (ho : op.op = .build t #[]) (vr : Value)
    (hrun : ∀ W, (Instr.build t #[]).run Tryz.prog W = .ok vr W)
    (h : wpList Tryz.prog ops Q rest (a.put op.dst vr) w) : wpList Tryz.prog ops Q (op :: rest) a w :=
  wpList_plain hgd fun K hK => by
    have h2 := hK _ _ h
    unfold Oper.wp execOp
    simp only [ho]
    simp [hrun]
    exact h2
def zSt : Stt := ⟨0, fun _ => 0, false⟩
structure SX (X : List Value) (s : Stt) : Prop where
  eq : X = cSt s
  len : X.length = 14
  size : (Tryz.prog.info? 173).map (·.size) = some X.length
  sizea : (Tryz.prog.info? 173).map (·.size) = some X.toArray.size
  one : ∀ u ∈ X, u.oneCell' = true
  onea : X.toArray.all (·.oneCell') = true
def lM (M : Nat → Int) : List Value := [.int .i64 (M 0), .int .i64 (M 1), .int .i64 (M 2), .int .i64 (M 3), .int .i64 (M 4), .int .i64 (M 5), .int .i64 (M 6), .int .i64 (M 7), .int .i64 (M 8), .int .i64 (M 9), .int .i64 (M 10), .int .i64 (M 11)]
structure MX (X : List Value) (M : Nat → Int) : Prop where
  eq : X = lM M
  len : X.length = 12
  size : (Tryz.prog.info? 46).map (·.size) = some X.length
  sizea : (Tryz.prog.info? 46).map (·.size) = some X.toArray.size
  onea : X.toArray.all (·.oneCell') = true
theorem lM_one (M : Nat → Int) : ∀ u ∈ lM M, u.oneCell' = true := fun u hu => by
  unfold lM at hu
  simp only [List.mem_cons, List.not_mem_nil, or_false] at hu
  rcases hu with h | h | h | h | h | h | h | h | h | h | h | h <;> (rw [h]; rfl)
theorem mx_any (M : Nat → Int) : MX (lM M) M := ⟨rfl, rfl, by kernel_rfl, by kernel_rfl, all_oneCell_toArray (lM_one M)⟩
def ChX {δ : Type} (FB : World → Nat → (Nat → Prop) → δ → Prop) (w w' : World) (g : Nat) (F : Nat → Prop) (D : δ) : Prop := ∃ F', FB w' g F' D ∧ Fr w w' F ∧ ∀ b, F' b → F b ∨ w.heap.size ≤ b
section
variable {δ : Type} {FB : World → Nat → (Nat → Prop) → δ → Prop} {w w1 w2 : World} {g : Nat} {F F' : Nat → Prop} {D : δ}
end
section
variable {w wb w4 : World} {g : Nat} {D : FD} {vl vd vs : Value} {F : Nat → Prop}
theorem set_at {w : World} {g o q : Nat} {u : Value} (hq : q ≠ g) : (w.setCell ⟨g, o, none⟩ u).heap[q]? = w.heap[q]? := Go.Deep.blk_setCell_other _ _ _ _ hq
end
section
variable {w w' : World} {g : Nat} {D : FD} {vs : Value} {F : Nat → Prop}
end
end Go.Proofs.YthhfcedhbfandaaGreat
