/-
  3 texts in one file, each with its own heading.
-/
import Derived.Test.YtffbehcbokmpkaaML10
import Derived.Test.YtffbehcbokmpkaaML03
import Derived.Deep.OwnRows
import Derived.Test.YtffbehcbokmpkaaML05
import Derived.Deep.MidRow
import Derived.Deep.Cut
import Derived.Deep.CutRange
/-
  Sorting that keeps the order of equals, as plain lists: what stands where, what is told of each key; swaps.
-/
namespace Go.Proofs.Ytffbehcbokmpkaa
open Go.RowKit

section
variable {α : Type}
theorem at_mid (L : List α) (x : α) (R : List α) : (L ++ x :: R)[L.length]? = some x := by simp
theorem set_mid (L : List α) (x y : α) (R : List α) : (L ++ x :: R).set L.length y = L ++ y :: R := by
  rw [List.set_append_right _ _ (Nat.le_refl _), Nat.sub_self, List.set_cons_zero]
theorem at_far (L : List α) (x : α) (M : List α) (y : α) (R : List α) : (L ++ x :: (M ++ y :: R))[L.length + 1 + M.length]? = some y := by
  have h : L ++ x :: (M ++ y :: R) = (L ++ x :: M) ++ y :: R := by simp
  rw [h, show L.length + 1 + M.length = (L ++ x :: M).length by simp; omega]
  exact at_mid _ _ _
theorem set_far (L : List α) (x : α) (M : List α) (y z : α) (R : List α) : (L ++ x :: (M ++ y :: R)).set (L.length + 1 + M.length) z = L ++ x :: (M ++ z :: R) := by
  have h : L ++ x :: (M ++ y :: R) = (L ++ x :: M) ++ y :: R := by simp
  rw [h, show L.length + 1 + M.length = (L ++ x :: M).length by simp; omega, set_mid]
  simp
theorem swap_at (L : List α) (x : α) (M : List α) (y : α) (R : List α) : ((L ++ x :: (M ++ y :: R)).set L.length y).set (L.length + 1 + M.length) x = L ++ y :: (M ++ x :: R) := by
  rw [set_mid, set_far]
theorem swap_at' (L : List α) (x : α) (M : List α) (y : α) (R : List α) : ((L ++ x :: (M ++ y :: R)).set (L.length + 1 + M.length) x).set L.length y = L ++ y :: (M ++ x :: R) := by
  rw [set_far, set_mid]
end

section
variable {α : Type} (key : α → Int)
def Fil (L M : List α) : Prop := ∀ k, M.filter (fun x => key x == k) = L.filter (fun x => key x == k)
def Asc (L : List α) : Prop := L.Pairwise (fun a b => key a ≤ key b)
variable {key}
theorem Fil.refl (L : List α) : Fil key L L := fun _ => rfl
theorem Fil.trans {A B C : List α} (h : Fil key A B) (h' : Fil key B C) : Fil key A C := fun k => (h' k).trans (h k)
theorem Fil.app {A A' B B' : List α} (h : Fil key A A') (h' : Fil key B B') : Fil key (A ++ B) (A' ++ B') := fun k => by
  rw [List.filter_append, List.filter_append, h k, h' k]
theorem Fil.mem {A B : List α} (h : Fil key A B) (x : α) : x ∈ B ↔ x ∈ A := by
  have e := h (key x)
  have h1 : x ∈ B.filter (fun y => key y == key x) ↔ x ∈ B := by simp
  have h2 : x ∈ A.filter (fun y => key y == key x) ↔ x ∈ A := by simp
  rw [← h1, e, h2]
theorem fil_cross {A B : List α} (h : ∀ a ∈ A, ∀ b ∈ B, key a ≠ key b) : Fil key (A ++ B) (B ++ A) := fun k => by
  rw [List.filter_append, List.filter_append]
  by_cases hA : A.filter (fun x => key x == k) = []
  · rw [hA]; simp
  · obtain ⟨a, ha⟩ := List.exists_mem_of_ne_nil _ hA
    have ha' := List.mem_filter.1 ha
    have hB : B.filter (fun x => key x == k) = [] := by
      rw [List.filter_eq_nil_iff]
      intro b hb
      have := h a ha'.1 b hb
      have e : key a = k := by simpa using ha'.2
      rw [e] at this
      simpa using fun c => this c.symm
    rw [hB]; simp
theorem Fil.mid {P Q : List α} {S S' : List α} (h : Fil key S S') : Fil key (P ++ S ++ Q) (P ++ S' ++ Q) := ((Fil.refl P).app h).app (Fil.refl Q)
theorem Fil.asc {A A' B B' : List α} (hA : Fil key A A') (hB : Fil key B B') (aA : Asc key A') (aB : Asc key B') (h : ∀ a ∈ A, ∀ b ∈ B, key a ≤ key b) : Asc key (A' ++ B') :=
  List.pairwise_append.2 ⟨aA, aB, fun a ha b hb => h a ((hA.mem a).1 ha) b ((hB.mem b).1 hb)⟩
theorem asc_at {L : List α} (h : Asc key L) {i j : Nat} (hij : i ≤ j) {a b : α} (ha : L[i]? = some a) (hb : L[j]? = some b) : key a ≤ key b := by
  rcases Nat.lt_or_eq_of_le hij with h1 | rfl
  · obtain ⟨hi, ei⟩ := List.getElem?_eq_some_iff.1 ha
    obtain ⟨hj, ej⟩ := List.getElem?_eq_some_iff.1 hb
    have := List.pairwise_iff_getElem.1 h i j hi hj h1
    rw [ei, ej] at this
    exact this
  · rw [ha] at hb; injection hb with e; rw [e]; exact Int.le_refl _
theorem asc_of {L : List α} (h : ∀ (i j : Nat) (a b : α), i < j → L[i]? = some a → L[j]? = some b → key a ≤ key b) : Asc key L :=
  List.pairwise_iff_getElem.2 fun i j hi hj hij => h i j _ _ hij (List.getElem?_eq_getElem hi) (List.getElem?_eq_getElem hj)
def AscIn (key : α → Int) (X : List α) (lo hi : Nat) : Prop := ∀ (i j : Nat) (a b : α), lo ≤ i → i < j → j < hi → X[i]? = some a → X[j]? = some b → key a ≤ key b
theorem AscIn.same {X Y : List α} {lo hi : Nat} (h : AscIn key X lo hi) (he : ∀ i, lo ≤ i → i < hi → Y[i]? = X[i]?) : AscIn key Y lo hi :=
  fun i j a b h1 h2 h3 ha hb => h i j a b h1 h2 h3 (by rw [← he i h1 (by omega)]; exact ha) (by rw [← he j (by omega) h3]; exact hb)
theorem AscIn.mid {P S Q : List α} (h : Asc key S) : AscIn key (P ++ S ++ Q) P.length (P.length + S.length) := fun i j a b h1 h2 h3 ha hb => by
  rw [List.append_assoc, List.getElem?_append_right h1, List.getElem?_append_left (by omega)] at ha
  rw [List.append_assoc, List.getElem?_append_right (by omega), List.getElem?_append_left (by omega)] at hb
  exact asc_at h (by omega) ha hb
theorem AscIn.out {X : List α} {lo hi : Nat} (h : AscIn key X lo hi) : Asc key ((X.drop lo).take (hi - lo)) := asc_of fun i j a b hij ha hb => by
  have hj : j < hi - lo := by
    obtain ⟨hj, _⟩ := List.getElem?_eq_some_iff.1 hb
    rw [List.length_take] at hj; omega
  rw [List.getElem?_take, if_pos (by omega), List.getElem?_drop] at ha
  rw [List.getElem?_take, if_pos hj, List.getElem?_drop] at hb
  exact h (lo + i) (lo + j) a b (by omega) (by omega) (by omega) ha hb
theorem AscIn.one (X : List α) {lo hi : Nat} (h : hi ≤ lo + 1) : AscIn key X lo hi := fun i j _ _ h1 h2 h3 => by omega
structure SStep (key : α → Int) (X Y : List α) (lo hi : Nat) : Prop where
  len : Y.length = X.length
  fil : Fil key X Y
  out : ∀ i, i < lo ∨ hi ≤ i → Y[i]? = X[i]?
theorem SStep.refl (X : List α) (lo hi : Nat) : SStep key X X lo hi := ⟨rfl, Fil.refl X, fun _ _ => rfl⟩
theorem SStep.trans {X Y Z : List α} {lo hi : Nat} (h : SStep key X Y lo hi) (h' : SStep key Y Z lo hi) : SStep key X Z lo hi :=
  ⟨h'.len.trans h.len, h.fil.trans h'.fil, fun i hi => (h'.out i hi).trans (h.out i hi)⟩
theorem SStep.wide {X Y : List α} {lo hi lo' hi' : Nat} (h : SStep key X Y lo hi) (h1 : lo' ≤ lo) (h2 : hi ≤ hi') : SStep key X Y lo' hi' :=
  ⟨h.len, h.fil, fun i hi => h.out i (by omega)⟩
theorem SStep.mid {P S S' Q : List α} (hl : S'.length = S.length) (h : Fil key S S') : SStep key (P ++ S ++ Q) (P ++ S' ++ Q) P.length (P.length + S.length) :=
  ⟨by simp [hl], h.mid, fun i hi => by
    rcases hi with hi | hi
    · rw [List.append_assoc, List.append_assoc, List.getElem?_append_left hi, List.getElem?_append_left hi]
    · rw [List.getElem?_append_right (by simp; omega), List.getElem?_append_right (by simp; omega)]
      simp [hl]⟩
theorem three {X : List α} {lo hi : Nat} (h1 : lo ≤ hi) (h2 : hi ≤ X.length) : X = X.take lo ++ (X.drop lo).take (hi - lo) ++ X.drop hi ∧ (X.take lo).length = lo ∧ ((X.drop lo).take (hi - lo)).length = hi - lo := by
  refine ⟨?_, by rw [List.length_take]; omega, by rw [List.length_take, List.length_drop]; omega⟩
  have e : X.drop hi = (X.drop lo).drop (hi - lo) := by rw [List.drop_drop]; congr 1; omega
  rw [e, List.append_assoc, List.take_append_drop, List.take_append_drop]
end
section
variable {w : World} {g : Nat} {t : TypeId} {R : Int} {G : Nat → Int} {L : Nat → Bool} {k : Nat}
end
theorem grown_set (w : World) (g i : Nat) (u : Value) : w.grownBy (w.setCell ⟨g, i, none⟩ u) (some g) := by
  have hb := (Below.refl 0 w).setCell (p := ⟨g, i, none⟩) (Nat.zero_le _) u
  exact ⟨hb.os, hb.tape, hb.output, hb.size, fun k _ hne => Below.heap_setCell _ _ _ _ (fun e => hne (by rw [e]))⟩
theorem grown_trans {a b c : World} {r : Option Nat} (h : a.grownBy b r) (k : b.grownBy c r) : a.grownBy c r :=
  ⟨k.os.trans h.os, k.tape.trans h.tape, k.output.trans h.output, Nat.le_trans h.size k.size, fun i hi hn => (k.block i (Nat.lt_of_lt_of_le hi h.size) hn).trans (h.block i hi hn)⟩
theorem below_grown {a b : World} (h : Below a.heap.size a b) (r : Option Nat) : a.grownBy b r := ⟨h.os, h.tape, h.output, h.size, fun k hk _ => h.block k hk⟩
def nm (g : Int) (i : Nat) : Int := 256 * g + i
structure Rc where
  id : Int
  ms : Int
  pp : Int
  mt : Int
  cl : Bool
  ly : Int
  x0 : Int
  x1 : Int
  x2 : Int
  x3 : Int
  x4 : Int
  x5 : Int
def cRc (r : Rc) : List Value := [.int .i64 r.id, .int .i64 r.ms, .int .i64 r.pp, .int .i64 r.mt, .bool r.cl, .int .i64 r.ly, .int .i64 r.x0, .int .i64 r.x1, .int .i64 r.x2, .int .i64 r.x3, .int .i64 r.x4, .int .i64 r.x5]
def zRc : Rc := ⟨0, 0, 0, 0, false, 0, 0, 0, 0, 0, 0, 0⟩
theorem cRc_len (r : Rc) : (cRc r).length = 12 := rfl
theorem cRc_one (r : Rc) : ∀ u ∈ cRc r, u.oneCell' = true := fun u hu => by
  unfold cRc at hu
  simp only [List.mem_cons, List.not_mem_nil, or_false] at hu
  rcases hu with h | h | h | h | h | h | h | h | h | h | h | h <;> (rw [h]; rfl)
def cmpI (a b : Int) : Int := if a < b then -1 else if b < a then 1 else 0
theorem cmp_neg {a b : Int} : cmpI a b < 0 ↔ a < b := by
  unfold cmpI
  by_cases h : a < b
  · simp [h]
  · by_cases h' : b < a <;> simp [h, h']

section
variable {α : Type} {k : Nat} {c : α → List Value} {t : TypeId} {w w' : World} {g : Nat} {X : List α}
def MR (k : Nat) (c : α → List Value) (t : TypeId) (w : World) (g : Nat) (X : List α) : Prop := ∃ cur : List Value, Blk w g t cur.toArray ∧ X.length * k ≤ cur.length ∧ cur.take (X.length * k) = X.flatMap c
theorem MR.lt (h : MR k c t w g X) : g < w.heap.size := h.elim fun _ q => q.1.lt
theorem MR.same (h : MR k c t w g X) (e : w'.heap[g]? = w.heap[g]?) : MR k c t w' g X := h.imp fun _ q => ⟨q.1.same e, q.2⟩
theorem MR.keep (h : MR k c t w g X) (hb : Below w.heap.size w w') : MR k c t w' g X := h.same (hb.block g h.lt)
theorem MR.range (hc : ∀ x, (c x).length = k) (h : MR k c t w g X) {i : Nat} {x : α} (hi : X[i]? = some x) : w.rangeAt g (i * k) (c x) := by
  obtain ⟨cur, hb, hl, ht⟩ := h
  have hlt : i < X.length := (List.getElem?_eq_some_iff.1 hi).1
  have h2 : (i + 1) * k ≤ X.length * k := Nat.mul_le_mul_right _ hlt
  rw [Nat.add_mul] at h2
  have h1 := blk_range hb (i * k) k
  rw [← flatx_at hc X i x hi, ← ht, List.drop_take, List.take_take, Nat.min_eq_left (by omega)]
  exact h1
theorem MR.there (h : MR k c t w g X) {i : Nat} (hi : i < X.length) : w.there g (i * k) k := by
  obtain ⟨cur, hb, hl, ht⟩ := h
  have h2 : (i + 1) * k ≤ X.length * k := Nat.mul_le_mul_right _ hi
  rw [Nat.add_mul] at h2
  exact blk_there hb (by omega)
theorem flatx_set (hc : ∀ x, (c x).length = k) : ∀ (X : List α) (i : Nat) (y : α), i < X.length → (X.set i y).flatMap c = splice (X.flatMap c) (i * k) (c y)
  | [], i, y, h => by simp at h
  | a :: X, 0, y, h => by
    unfold splice
    rw [List.set_cons_zero, List.flatMap_cons, List.flatMap_cons, Nat.zero_mul, List.take_zero, Nat.zero_add, hc y, List.nil_append, ← hc a, List.drop_left]
  | a :: X, i + 1, y, h => by
    have ih := flatx_set hc X i y (by simpa using h)
    unfold splice at ih ⊢
    have e : (i + 1) * k = k + i * k := by rw [Nat.add_mul]; omega
    rw [List.set_cons_succ, List.flatMap_cons, List.flatMap_cons, ih, e, List.take_append, List.drop_append, hc a, List.take_of_length_le (l := c a) (by rw [hc a]; omega), List.drop_eq_nil_of_le (show (c a).length ≤ k + i * k + (c y).length by rw [hc a]; omega), show k + i * k - k = i * k by omega, show k + i * k + (c y).length - k = i * k + (c y).length by omega]
    simp
theorem splicex_take {A vs : List Value} {o n : Nat} (h : o + vs.length ≤ n) (hn : n ≤ A.length) : (splice A o vs).take n = splice (A.take n) o vs := by
  unfold splice
  rw [List.take_append, List.take_append, List.take_take, List.drop_take, List.length_append, List.length_take, Nat.min_eq_left (show o ≤ A.length by omega), List.take_take, Nat.min_eq_right (show o ≤ n by omega), Nat.min_eq_left (show o ≤ n by omega), List.take_of_length_le (show vs.length ≤ n - o by omega)]
theorem MR.set_ (hc : ∀ x, (c x).length = k) (h : MR k c t w g X) {i : Nat} (hi : i < X.length) (y : α) : MR k c t (w.setCells g (i * k) (c y)) g (X.set i y) := by
  obtain ⟨cur, hb, hl, ht⟩ := h
  have h2 : (i + 1) * k ≤ X.length * k := Nat.mul_le_mul_right _ hi
  rw [Nat.add_mul] at h2
  have hb' := blk_setCells (c y) (o := i * k) hb (by rw [hc]; omega)
  refine ⟨_, hb', ?_, ?_⟩
  · rw [List.length_set, splice_len (by rw [hc]; omega)]; exact hl
  · rw [List.length_set, splicex_take (by rw [hc]; omega) hl, ht, flatx_set hc X i y hi]
theorem grown_cells : ∀ (vs : List Value) (w : World) (g o : Nat), w.grownBy (w.setCells g o vs) (some g)
  | [], _, _, _ => ⟨rfl, rfl, rfl, Nat.le_refl _, fun _ _ _ => rfl⟩
  | v :: vs, w, g, o => grown_trans (grown_set w g o v) (grown_cells vs (w.setCell ⟨g, o, none⟩ v) g (o + 1))
end
def DR (w : World) (t : TypeId) (g : Nat) (w' : World) (X : List Rc) : Prop := MR 12 cRc t w' g X ∧ w.grownBy w' (some g)
theorem DR.below {w w' w'' : World} {t : TypeId} {g : Nat} {X : List Rc} (h : DR w t g w' X) (hb : Below w'.heap.size w' w'') : DR w t g w'' X := ⟨h.1.keep hb, grown_trans h.2 (below_grown hb _)⟩
theorem DR.next {w w' w'' : World} {t : TypeId} {g : Nat} {X Y : List Rc} (h : DR w t g w' X) (h' : DR w' t g w'' Y) : DR w t g w'' Y := ⟨h'.1, grown_trans h.2 h'.2⟩
theorem DR.start {w : World} {t : TypeId} {g : Nat} {X : List Rc} (h : MR 12 cRc t w g X) : DR w t g w X := ⟨h, below_grown (Below.refl _ _) _⟩
theorem DR.swap {w w' : World} {t : TypeId} {g : Nat} {X : List Rc} (h : DR w t g w' X) {p q : Nat} (hp : p < X.length) (hq : q < X.length) (x y : Rc) : DR w t g ((w'.drew.setCells g (p * 12) (cRc y)).setCells g (q * 12) (cRc x)) ((X.set p y).set q x) := by
  have h0 : MR 12 cRc t w'.drew g X := h.1.keep (bdrew (Below.refl _ _))
  have h1 := h0.set_ cRc_len hp y
  have h2 := h1.set_ cRc_len (i := q) (by simpa using hq) x
  exact ⟨h2, grown_trans h.2 (grown_trans (below_grown (bdrew (Below.refl _ _)) _) (grown_trans (grown_cells _ _ _ _) (grown_cells _ _ _ _)))⟩

theorem enters_by : Enters 26 := fun _ _ => by kernel_rfl
theorem enters_same : Enters 42 := fun _ _ => by kernel_rfl
theorem nan_any (a : Int) (w : World) : Calls Try.prog 62 #[.int .i64 a] w fun e w' => e = .returned (.bool false) ∧ w = w' := by
  go_enter Try.func62, Try.ntmps62
  go_wp2
  go_ret
  exact ⟨by simp, rfl⟩
theorem cmp_any (a b : Int) (w : World) : Calls Try.prog 41 #[.int .i64 a, .int .i64 b] w fun e w' => e = .returned (.int .i64 (cmpI a b)) ∧ w = w' := by
  have HE : Hid (∀ x : Int, cmpI x x = 0) := Lib.hid (fun x => by unfold cmpI; simp)
  have HL : Hid (∀ x y : Int, x < y → cmpI x y = -1) := Lib.hid (fun x y h => by unfold cmpI; simp [h])
  have HG : Hid (∀ x y : Int, y < x → cmpI x y = 1) := Lib.hid (fun x y h => by unfold cmpI; rw [if_neg (by omega), if_pos h])
  have HNa := Lib.hid (nan_any)
  by_cases h : a < b
  · go_enter Try.func41, Try.ntmps41
    go_wp2_with fail
    refine (HNa.out _ _).mono ?_
    rintro e w1 ⟨rfl, rfl⟩
    go_wp2_with fail
    refine (HNa.out _ _).mono ?_
    rintro e w1 ⟨rfl, rfl⟩
    go_wp2
    go_ret
    exact ⟨by rw [HL.out _ _ h]; rfl, rfl⟩
  · by_cases h2 : b < a
    · have h3 : a > b := h2
      go_enter Try.func41, Try.ntmps41
      go_wp2_with fail
      refine (HNa.out _ _).mono ?_
      rintro e w1 ⟨rfl, rfl⟩
      go_wp2_with fail
      refine (HNa.out _ _).mono ?_
      rintro e w1 ⟨rfl, rfl⟩
      go_wp2
      go_ret
      exact ⟨by rw [HG.out _ _ h2]; rfl, rfl⟩
    · obtain rfl : a = b := by omega
      go_enter Try.func41, Try.ntmps41
      go_wp2_with fail
      refine (HNa.out _ _).mono ?_
      rintro e w1 ⟨rfl, rfl⟩
      go_wp2_with fail
      refine (HNa.out _ _).mono ?_
      rintro e w1 ⟨rfl, rfl⟩
      go_wp2
      go_ret
      exact ⟨by rw [HE.out]; rfl, rfl⟩
theorem by_any (a b : Rc) (w : World) : Calls Try.prog 26 #[.agg (cRc a).toArray, .agg (cRc b).toArray] w fun e w' => e = .returned (.int .i64 (cmpI a.id b.id)) ∧ Below w.heap.size w w' := by
  have HC := Lib.hid (cmp_any a.id b.id)
  have K0 : Hid ((((w.alloc (.cells (cRc a).toArray 36)).alloc (.cells (cRc b).toArray 36)).cell? ⟨w.heap.size, 0, none⟩ = some (.int .i64 a.id)) ∧ (((w.alloc (.cells (cRc a).toArray 36)).alloc (.cells (cRc b).toArray 36)).cell? ⟨w.heap.size + 1, 0, none⟩ = some (.int .i64 b.id))) := Lib.hid ⟨((Blk.new w 36 (cRc a).toArray).alloc (.cells (cRc b).toArray 36)).cell 0, by
      have q := (Blk.new (w.alloc (.cells (cRc a).toArray 36)) 36 (cRc b).toArray).cell 0
      have e : (w.alloc (.cells (cRc a).toArray 36)).heap.size = w.heap.size + 1 := by simp
      rw [e] at q
      exact q⟩
  have HB : Hid (Below w.heap.size w ((w.alloc (.cells (cRc a).toArray 36)).alloc (.cells (cRc b).toArray 36))) := Lib.hid (balloc (alloc_below _ _) _)
  obtain ⟨A, hA⟩ : ∃ A, A = (cRc a).toArray := ⟨_, rfl⟩
  obtain ⟨B, hB⟩ : ∃ B, B = (cRc b).toArray := ⟨_, rfl⟩
  rw [← hA, ← hB] at K0 HB ⊢
  clear hA hB
  go_enter Try.func26, Try.ntmps26
  go_upto_region 1 with fail
  refine fin (fun W => W.cell? ⟨w.heap.size, 0, none⟩ = some (.int .i64 a.id) ∧ W.cell? ⟨w.heap.size + 1, 0, none⟩ = some (.int .i64 b.id) ∧ Below w.heap.size w W) ⟨K0.out.1, K0.out.2, HB.out⟩ ?_
  rintro W ⟨c0, c1, hb⟩
  have HB1 := Lib.hid hb
  clear hb HB K0
  go_wp2_with fail
  refine (HC.out _).mono ?_
  rintro e w1 ⟨rfl, rfl⟩
  go_wp2
  go_ret
  exact ⟨rfl, HB1.out⟩
theorem samename_any (a b : Rc) (w : World) : Calls Try.prog 42 #[.agg (cRc a).toArray, .agg (cRc b).toArray] w fun e w' => e = .returned (.bool (a.id == b.id)) ∧ Below w.heap.size w w' := by
  have K0 : Hid ((((w.alloc (.cells (cRc a).toArray 36)).alloc (.cells (cRc b).toArray 36)).cell? ⟨w.heap.size, 0, none⟩ = some (.int .i64 a.id)) ∧ (((w.alloc (.cells (cRc a).toArray 36)).alloc (.cells (cRc b).toArray 36)).cell? ⟨w.heap.size + 1, 0, none⟩ = some (.int .i64 b.id))) := Lib.hid ⟨((Blk.new w 36 (cRc a).toArray).alloc (.cells (cRc b).toArray 36)).cell 0, by
      have q := (Blk.new (w.alloc (.cells (cRc a).toArray 36)) 36 (cRc b).toArray).cell 0
      have e : (w.alloc (.cells (cRc a).toArray 36)).heap.size = w.heap.size + 1 := by simp
      rw [e] at q
      exact q⟩
  have HB : Hid (Below w.heap.size w ((w.alloc (.cells (cRc a).toArray 36)).alloc (.cells (cRc b).toArray 36))) := Lib.hid (balloc (alloc_below _ _) _)
  obtain ⟨A, hA⟩ : ∃ A, A = (cRc a).toArray := ⟨_, rfl⟩
  obtain ⟨B, hB⟩ : ∃ B, B = (cRc b).toArray := ⟨_, rfl⟩
  rw [← hA, ← hB] at K0 HB ⊢
  clear hA hB
  go_enter Try.func42, Try.ntmps42
  go_upto_region 1 with fail
  refine fin (fun W => W.cell? ⟨w.heap.size, 0, none⟩ = some (.int .i64 a.id) ∧ W.cell? ⟨w.heap.size + 1, 0, none⟩ = some (.int .i64 b.id) ∧ Below w.heap.size w W) ⟨K0.out.1, K0.out.2, HB.out⟩ ?_
  rintro W ⟨c0, c1, hb⟩
  have HB1 := Lib.hid hb
  clear hb HB K0
  go_wp2
  go_ret
  exact ⟨rfl, HB1.out⟩
end Go.Proofs.Ytffbehcbokmpkaa
