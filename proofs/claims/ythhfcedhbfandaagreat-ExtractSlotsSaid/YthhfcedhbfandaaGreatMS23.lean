/-
  6 texts in one file, each with its own heading.
-/
import Derived.Test.YthhfcedhbfandaaGreatMS21
import Derived.Test.YthhfcedhbfandaaGreatMS22
import Derived.BigQuiet
/-
  What the library's sort does to a list: two ranges changed about, one that goes past others, rows turned round.
-/
namespace Go.Proofs.YthhfcedhbfandaaGreat
open Go.RowKit

section
variable {α : Type}
def rngY (P A M B Q : List α) (i : Nat) : List α := P ++ (B.take i ++ A.drop i) ++ M ++ (A.take i ++ B.drop i) ++ Q
theorem rng_zero (P A M B Q : List α) : rngY P A M B Q 0 = P ++ A ++ M ++ B ++ Q := by unfold rngY; simp
theorem rng_end {P A M B Q : List α} {k : Nat} (hA : A.length = k) (hB : B.length = k) : rngY P A M B Q k = P ++ B ++ M ++ A ++ Q := by
  unfold rngY
  rw [List.take_of_length_le (l := A) (by omega), List.take_of_length_le (l := B) (by omega), List.drop_eq_nil_of_le (show A.length ≤ k by omega), List.drop_eq_nil_of_le (show B.length ≤ k by omega)]
  simp
theorem rng_len {P A M B Q : List α} {k i : Nat} (hA : A.length = k) (hB : B.length = k) (hi : i ≤ k) : (rngY P A M B Q i).length = P.length + k + M.length + k + Q.length := by
  unfold rngY
  simp only [List.length_append, List.length_take, List.length_drop]
  omega
theorem rng_step {P A M B Q : List α} {k i : Nat} (hA : A.length = k) (hB : B.length = k) (hi : i < k) : ∃ x y, (rngY P A M B Q i)[P.length + i]? = some x ∧ (rngY P A M B Q i)[P.length + k + M.length + i]? = some y ∧ ((rngY P A M B Q i).set (P.length + i) y).set (P.length + k + M.length + i) x = rngY P A M B Q (i + 1) := by
  have hx : A.drop i = A[i]'(by omega) :: A.drop (i + 1) := List.drop_eq_getElem_cons (by omega)
  have hy : B.drop i = B[i]'(by omega) :: B.drop (i + 1) := List.drop_eq_getElem_cons (by omega)
  have tx : A.take (i + 1) = A.take i ++ [A[i]'(by omega)] := by rw [List.take_add_one, List.getElem?_eq_getElem (by omega)]; rfl
  have ty : B.take (i + 1) = B.take i ++ [B[i]'(by omega)] := by rw [List.take_add_one, List.getElem?_eq_getElem (by omega)]; rfl
  have e : rngY P A M B Q i = (P ++ B.take i) ++ A[i]'(by omega) :: ((A.drop (i + 1) ++ M ++ A.take i) ++ B[i]'(by omega) :: (B.drop (i + 1) ++ Q)) := by
    unfold rngY; rw [hx, hy]; simp only [List.append_assoc, List.cons_append]
  have l1 : (P ++ B.take i).length = P.length + i := by rw [List.length_append, List.length_take]; omega
  have l2 : (P ++ B.take i).length + 1 + (A.drop (i + 1) ++ M ++ A.take i).length = P.length + k + M.length + i := by
    simp only [List.length_append, List.length_take, List.length_drop]; omega
  refine ⟨A[i]'(by omega), B[i]'(by omega), ?_, ?_, ?_⟩
  · rw [e, ← l1]; exact at_mid _ _ _
  · rw [e, ← l2]; exact at_far _ _ _ _ _
  · rw [e, ← l2, ← l1, swap_at]
    unfold rngY
    rw [tx, ty]
    simp only [List.append_assoc, List.cons_append, List.nil_append]
def insZ (P S : List α) (v : α) (Q : List α) (j : Nat) : List α := P ++ (S.take j ++ v :: S.drop j) ++ Q
theorem insz_len {P S Q : List α} {v : α} {j : Nat} (hj : j ≤ S.length) : (insZ P S v Q j).length = P.length + S.length + 1 + Q.length := by
  unfold insZ
  simp only [List.length_append, List.length_take, List.length_cons, List.length_drop]
  omega
theorem insz_at {P S Q : List α} {v : α} {j : Nat} (hj : j ≤ S.length) : (insZ P S v Q j)[P.length + j]? = some v := by
  have e : insZ P S v Q j = (P ++ S.take j) ++ v :: (S.drop j ++ Q) := by unfold insZ; simp
  rw [e, show P.length + j = (P ++ S.take j).length by rw [List.length_append, List.length_take]; omega]
  exact at_mid _ _ _
theorem insz_pieces {P S Q : List α} {v u : α} {j : Nat} (hu : S[j]? = some u) : insZ P S v Q (j + 1) = (P ++ S.take j) ++ u :: ([] ++ v :: (S.drop (j + 1) ++ Q)) ∧ insZ P S v Q j = (P ++ S.take j) ++ v :: ([] ++ u :: (S.drop (j + 1) ++ Q)) ∧ (P ++ S.take j).length = P.length + j := by
  obtain ⟨hj, e⟩ := List.getElem?_eq_some_iff.1 hu
  refine ⟨?_, ?_, by rw [List.length_append, List.length_take]; omega⟩
  · unfold insZ; rw [List.take_add_one, hu]; simp
  · unfold insZ; rw [List.drop_eq_getElem_cons hj, e]; simp
theorem insz_prev {P S Q : List α} {v u : α} {j : Nat} (hu : S[j]? = some u) : (insZ P S v Q (j + 1))[P.length + j]? = some u := by
  obtain ⟨e, _, l⟩ := insz_pieces (P := P) (Q := Q) (v := v) hu
  rw [e, ← l]; exact at_mid _ _ _
theorem insz_next {P S Q : List α} {v u : α} {j : Nat} (hu : S[j]? = some u) : (insZ P S v Q j)[P.length + (j + 1)]? = some u := by
  obtain ⟨_, e, l⟩ := insz_pieces (P := P) (Q := Q) (v := v) hu
  have := at_far (P ++ S.take j) v [] u (S.drop (j + 1) ++ Q)
  rw [e, show P.length + (j + 1) = (P ++ S.take j).length + 1 + ([] : List α).length by rw [l]; simp; omega]
  exact this
theorem insz_down {P S Q : List α} {v u : α} {j : Nat} (hu : S[j]? = some u) : ((insZ P S v Q (j + 1)).set (P.length + (j + 1)) u).set (P.length + j) v = insZ P S v Q j := by
  obtain ⟨e, e', l⟩ := insz_pieces (P := P) (Q := Q) (v := v) hu
  have := swap_at' (P ++ S.take j) u [] v (S.drop (j + 1) ++ Q)
  rw [e, e', show P.length + (j + 1) = (P ++ S.take j).length + 1 + ([] : List α).length by rw [l]; simp; omega, ← l]
  exact this
theorem insz_up {P S Q : List α} {v u : α} {j : Nat} (hu : S[j]? = some u) : ((insZ P S v Q j).set (P.length + j) u).set (P.length + (j + 1)) v = insZ P S v Q (j + 1) := by
  obtain ⟨e, e', l⟩ := insz_pieces (P := P) (Q := Q) (v := v) hu
  have := swap_at (P ++ S.take j) v [] u (S.drop (j + 1) ++ Q)
  rw [e, e', show P.length + (j + 1) = (P ++ S.take j).length + 1 + ([] : List α).length by rw [l]; simp; omega, ← l]
  exact this
variable {key : α → Int}
theorem ins_asc {S : List α} {v : α} {j : Nat} (hS : Asc key S) (h1 : ∀ r ∈ S.take j, key r ≤ key v) (h2 : ∀ r ∈ S.drop j, key v ≤ key r) : Asc key (S.take j ++ v :: S.drop j) := by
  have hS' : Asc key (S.take j ++ S.drop j) := by rw [List.take_append_drop]; exact hS
  obtain ⟨a1, a2, a3⟩ := List.pairwise_append.1 hS'
  refine List.pairwise_append.2 ⟨a1, List.pairwise_cons.2 ⟨h2, a2⟩, fun a ha b hb => ?_⟩
  rcases List.mem_cons.1 hb with rfl | hb
  · exact h1 a ha
  · exact a3 a ha b hb
theorem ins_fil_back {S : List α} {v : α} {j : Nat} (h2 : ∀ r ∈ S.drop j, key v < key r) : Fil key (S ++ [v]) (S.take j ++ v :: S.drop j) := by
  have e : S ++ [v] = S.take j ++ (S.drop j ++ [v]) := by rw [← List.append_assoc, List.take_append_drop]
  rw [e]
  refine (Fil.refl _).app (fil_cross fun a ha b hb => ?_)
  have := h2 a ha
  rw [List.mem_singleton.1 hb]
  omega
theorem ins_fil_front {S : List α} {v : α} {j : Nat} (h1 : ∀ r ∈ S.take j, key r < key v) : Fil key (v :: S) (S.take j ++ v :: S.drop j) := by
  have e : v :: S = ([v] ++ S.take j) ++ S.drop j := by rw [List.append_assoc, List.take_append_drop]; rfl
  have e' : S.take j ++ v :: S.drop j = (S.take j ++ [v]) ++ S.drop j := by simp
  rw [e, e']
  refine (fil_cross fun a ha b hb => ?_).app (Fil.refl _)
  have := h1 b hb
  rw [List.mem_singleton.1 ha]
  omega
theorem asc_take_le {S : List α} (hS : Asc key S) {j : Nat} {u : α} (hu : S[j]? = some u) : ∀ r ∈ S.take (j + 1), key r ≤ key u := fun r hr => by
  obtain ⟨i, hi⟩ := List.mem_iff_getElem?.1 hr
  have hij : i < j + 1 := by
    obtain ⟨h, _⟩ := List.getElem?_eq_some_iff.1 hi
    rw [List.length_take] at h; omega
  rw [List.getElem?_take, if_pos hij] at hi
  exact asc_at hS (by omega) hi hu
theorem asc_drop_le {S : List α} (hS : Asc key S) {j : Nat} {u : α} (hu : S[j]? = some u) : ∀ r ∈ S.drop j, key u ≤ key r := fun r hr => by
  obtain ⟨i, hi⟩ := List.mem_iff_getElem?.1 hr
  rw [List.getElem?_drop] at hi
  exact asc_at hS (by omega) hu hi
def RevTo (X : List α) (i : Nat) (Y : List α) : Prop := Y.length = X.length ∧ ∀ p, p < X.length → Y[p]? = if p < i ∨ X.length ≤ p + i then X[X.length - 1 - p]? else X[p]?
theorem rev_zero (X : List α) : RevTo X 0 X := ⟨rfl, fun p hp => by rw [if_neg (by omega)]⟩
theorem rev_step {X Y : List α} {i j : Nat} {x y : α} (h : RevTo X i Y) (hj : j + i + 1 = X.length) (hij : i < j) (hx : Y[i]? = some x) (hy : Y[j]? = some y) : RevTo X (i + 1) ((Y.set i y).set j x) := by
  have h1 := h.2 i (by omega)
  have h2 := h.2 j (by omega)
  rw [if_neg (by omega)] at h1 h2
  refine ⟨by simp [h.1], fun p hp => ?_⟩
  rw [List.getElem?_set, List.getElem?_set]
  by_cases e1 : j = p
  · subst e1
    rw [if_pos rfl, if_pos (by simp [h.1]; omega), if_pos (by omega), show X.length - 1 - j = i by omega, ← h1, hx]
  · rw [if_neg e1]
    by_cases e2 : i = p
    · subst e2
      rw [if_pos rfl, if_pos (by rw [h.1]; omega), if_pos (by omega), show X.length - 1 - i = j by omega, ← h2, hy]
    · rw [if_neg e2, h.2 p hp]
      by_cases e3 : p < i ∨ X.length ≤ p + i
      · rw [if_pos e3, if_pos (by omega)]
      · rw [if_neg e3, if_neg (by omega)]
theorem rev_end {X Y : List α} {i : Nat} (h : RevTo X i Y) (hi : X.length ≤ 2 * i + 1) : Y = X.reverse := by
  refine List.ext_getElem? fun p => ?_
  by_cases hp : p < X.length
  · rw [List.getElem?_reverse hp, h.2 p hp]
    by_cases e : p < i ∨ X.length ≤ p + i
    · rw [if_pos e]
    · rw [if_neg e]; congr 1; omega
  · rw [List.getElem?_eq_none (by rw [h.1]; omega), List.getElem?_eq_none (by simp; omega)]
end
theorem MR.len_big {w : World} {t : TypeId} {g : Nat} {X : List Rc} (h : MR 12 cRc t w g X) : ∀ {i : Nat} {x : Rc}, X[i]? = some x → w.drew.rangeAt g (i * 12) (cRc x) ∧ w.drew.there g (i * 12) 12 := fun hi => by
  have h' : MR 12 cRc t w.drew g X := h.keep (bdrew (Below.refl _ _))
  exact ⟨h'.range cRc_len hi, h'.there (List.getElem?_eq_some_iff.1 hi).1⟩
theorem rc_all (x : Rc) : (cRc x).toArray.all (·.oneCell') = true := all_oneCell_toArray (cRc_one x)
set_option maxHeartbeats 4000000 in
set_option maxRecDepth 100000 in
theorem rng_any (g n cap a b k : Nat) (cv : Value) (P A M B Q : List Rc) (w : World) (hX : MR 12 cRc 92 w g (P ++ A ++ M ++ B ++ Q)) (hn : (P ++ A ++ M ++ B ++ Q).length = n) (hbig : n ≤ 1000000000)
    (ha : P.length = a) (hA : A.length = k) (hB : B.length = k) (hb : b = a + k + M.length) :
    Calls Tryz.prog 322 #[.slice (some ⟨g, 0, none⟩) n cap, .int .i64 a, .int .i64 b, .int .i64 k, cv] w fun e w' => e = .returned (.tuple #[]) ∧ DR w 92 g w' (P ++ B ++ M ++ A ++ Q) := by
  have H0 : Hid (DR w 92 g w (rngY P A M B Q 0)) := Lib.hid (by rw [rng_zero]; exact DR.start hX)
  have HE : Hid (rngY P A M B Q k = P ++ B ++ M ++ A ++ Q) := Lib.hid (rng_end hA hB)
  have hn' : a + k + M.length + k + Q.length = n := by rw [← hn, ← ha]; simp only [List.length_append]; omega
  have HSt : Hid (∀ t, t < k → ∃ x y, (rngY P A M B Q t)[a + t]? = some x ∧ (rngY P A M B Q t)[b + t]? = some y ∧ ((rngY P A M B Q t).set (a + t) y).set (b + t) x = rngY P A M B Q (t + 1)) := Lib.hid (fun t ht => by
    have := rng_step (P := P) (A := A) (M := M) (B := B) (Q := Q) hA hB ht
    rw [ha, ← hb] at this
    exact this)
  have HLn : Hid (∀ t, t ≤ k → (rngY P A M B Q t).length = n) := Lib.hid (fun t ht => by rw [rng_len hA hB ht, ha]; exact hn')
  have hM : a + k ≤ b := by omega
  have hbk : b + k ≤ n := by omega
  obtain ⟨Z, hZ⟩ : ∃ Z, Z = P ++ B ++ M ++ A ++ Q := ⟨_, rfl⟩
  rw [← hZ] at HE ⊢
  clear hX hn ha hA hB hb hn' hZ
  go_enter Tryz.func322, Tryz.ntmps322
  go_wp2
  go_loopw [10] (fun i wr => ∃ t : Nat, t ≤ k ∧ i = .int .i64 t ∧ DR w 92 g wr (rngY P A M B Q t)) (fun i _ => k - (ivl i).toNat)
  case atStart => exact ⟨0, by omega, rfl, H0.out⟩
  case round =>
    clear H0
    obtain ⟨t, ht, rfl, hd⟩ := hrel
    have HD := Lib.hid hd
    clear hd
    by_cases hlt : t < k
    · obtain ⟨x, y, hx, hy, hs⟩ := HSt.out t hlt
      have HR := Lib.hid (HD.out.1.len_big hx)
      have HR' := Lib.hid (HD.out.1.len_big hy)
      have HN : Hid (∀ W, W = ((wr.drew.setCells g ((a + t) * 12) (cRc y)).setCells g ((b + t) * 12) (cRc x)) → DR w 92 g W (rngY P A M B Q (t + 1))) := Lib.hid (fun W e => by
        rw [e, ← hs]
        exact HD.out.swap (by rw [HLn.out t ht]; omega) (by rw [HLn.out t ht]; omega) x y)
      have wp : IntKind.i64.wrap ((a : Int) + (t : Int)) = ((a + t : Nat) : Int) := by rw [show (a : Int) + (t : Int) = ((a + t : Nat) : Int) by omega]; exact IntWalk.i64_in _ (by omega)
      have wq : IntKind.i64.wrap ((b : Int) + (t : Int)) = ((b + t : Nat) : Int) := by rw [show (b : Int) + (t : Int) = ((b + t : Nat) : Int) by omega]; exact IntWalk.i64_in _ (by omega)
      obtain ⟨p, hp⟩ : ∃ p, p = a + t := ⟨_, rfl⟩
      obtain ⟨q, hq⟩ : ∃ q, q = b + t := ⟨_, rfl⟩
      rw [← hp] at wp HR HN
      rw [← hq] at wq HR' HN
      have p0 : (0 : Int) ≤ (p : Int) := by omega
      have p1 : (p : Int) < (n : Int) := by omega
      have q0 : (0 : Int) ≤ (q : Int) := by omega
      have q1 : (q : Int) < (n : Int) := by omega
      have t1 : (t : Int) < (k : Int) := by omega
      have HWp := Lib.hid wp
      have HWq := Lib.hid wq
      clear hx hy hs HD hp hq wp wq
      go_upto_region 3 with fail
      refine swap_rng (p := p) (q := q) (Xp := cRc x) (Xq := cRc y) (fun _ _ d _ _ h => by cases d <;> exact h) HWp.out HWq.out p0 p1 q0 q1 rfl rfl (rc_all _) (rc_all _) HR.out.1 HR'.out.1 HR.out.2 HR'.out.2 ?_
      intro W hW
      have HD2 := Lib.hid (HN.out W hW)
      clear hW HN HR HR'
      go_wp2
      go_roundw
      case rel => exact ⟨t + 1, by omega, by go_num, HD2.out⟩
      case measure => simp [ivl] <;> omega
    · obtain rfl : t = k := by omega
      have t1 : ¬ (t : Int) < (t : Int) := by omega
      go_wp2
      go_end0
      exact ⟨rfl, by rw [← HE.out]; exact HD.out⟩
set_option maxHeartbeats 4000000 in
set_option maxRecDepth 100000 in
theorem rev_any (g n cap : Nat) (X : List Rc) (w : World) (hX : MR 12 cRc 92 w g X) (hn : X.length = n) (hbig : n ≤ 1000000000) :
    Calls Tryz.prog 220 #[.slice (some ⟨g, 0, none⟩) n cap] w fun e w' => e = .returned (.tuple #[]) ∧ DR w 92 g w' X.reverse := by
  have H0 : Hid (DR w 92 g w X ∧ RevTo X 0 X) := Lib.hid ⟨DR.start hX, rev_zero X⟩
  have HLn := Lib.hid hn
  clear hX hn
  go_enter Tryz.func220, Tryz.ntmps220
  go_wp2
  go_loopw [2, 3] (fun i j wr => ∃ (t : Nat) (Y : List Rc), i = .int .i64 t ∧ j = .int .i64 ((n : Int) - 1 - (t : Int)) ∧ 2 * t ≤ n + 1 ∧ DR w 92 g wr Y ∧ RevTo X t Y) (fun i _ _ => n + 1 - (ivl i).toNat)
  case atStart => exact ⟨0, X, rfl, by go_num, by omega, H0.out.1, H0.out.2⟩
  case round =>
    clear H0
    obtain ⟨t, Y, rfl, rfl, ht, hd, hr⟩ := hrel
    have HD := Lib.hid hd
    have HRv := Lib.hid hr
    clear hd hr
    by_cases hlt : (t : Int) < (n : Int) - 1 - (t : Int)
    · have hl : Y.length = n := HRv.out.1.trans HLn.out
      obtain ⟨j, hj⟩ : ∃ j : Nat, j + t + 1 = n := ⟨n - 1 - t, by omega⟩
      have ej : (n : Int) - 1 - (t : Int) = (j : Int) := by omega
      rw [ej] at hlt ⊢
      have hx : Y[t]? = some (Y[t]'(by omega)) := List.getElem?_eq_getElem (by omega)
      have hy : Y[j]? = some (Y[j]'(by omega)) := List.getElem?_eq_getElem (by omega)
      obtain ⟨x, ex⟩ : ∃ x, x = Y[t]'(by omega) := ⟨_, rfl⟩
      obtain ⟨y, ey⟩ : ∃ y, y = Y[j]'(by omega) := ⟨_, rfl⟩
      rw [← ex] at hx
      rw [← ey] at hy
      have HR := Lib.hid (HD.out.1.len_big hx)
      have HR' := Lib.hid (HD.out.1.len_big hy)
      have HN : Hid (∀ W, W = ((wr.drew.setCells g (t * 12) (cRc y)).setCells g (j * 12) (cRc x)) → DR w 92 g W ((Y.set t y).set j x)) := Lib.hid (fun W e => by
        rw [e]
        exact HD.out.swap (by omega) (by omega) x y)
      have HRv2 := Lib.hid (rev_step HRv.out (by rw [HLn.out]; exact hj) (by omega) hx hy)
      have p0 : (0 : Int) ≤ (t : Int) := by omega
      have p1 : (t : Int) < (n : Int) := by omega
      have q0 : (0 : Int) ≤ (j : Int) := by omega
      have q1 : (j : Int) < (n : Int) := by omega
      have HJ := Lib.hid hj
      have Hej := Lib.hid ej
      clear hx hy HD ex ey hl hj ej
      go_upto_region 3 with fail
      refine swap_rev (p := t) (q := j) (Xp := cRc x) (Xq := cRc y) (fun _ _ d _ _ h => by cases d <;> exact h) p0 p1 q0 q1 rfl rfl (rc_all _) (rc_all _) HR.out.1 HR'.out.1 HR.out.2 HR'.out.2 ?_
      intro W hW
      have HD2 := Lib.hid (HN.out W hW)
      clear hW HN HR HR'
      go_wp2
      go_roundw
      case rel => exact ⟨t + 1, _, by go_num, by have := HJ.out; go_num, by have := HJ.out; omega, HD2.out, HRv2.out⟩
      case measure => simp [ivl] <;> omega
    · have HEq := Lib.hid (rev_end HRv.out (by rw [HLn.out]; omega))
      go_wp2
      go_end0
      exact ⟨rfl, by rw [← HEq.out]; exact HD.out⟩
theorem AscIn.less {α : Type} {key : α → Int} {X : List α} {lo hi lo' hi' : Nat} (h : AscIn key X lo hi) (h1 : lo ≤ lo') (h2 : hi' ≤ hi) : AscIn key X lo' hi' := fun i j a b q1 q2 q3 ha hb => h i j a b (by omega) q2 (by omega) ha hb
structure InsAt (X : List Rc) (a i j : Nat) (P S : List Rc) (v : Rc) (Q Z : List Rc) : Prop where
  x : X = insZ P S v Q S.length
  z : Z = insZ P S v Q (j - a)
  lp : P.length = a
  ls : S.length = i - a
  aj : a ≤ j
  ji : j ≤ i
  asc : Asc Rc.id S
  above : ∀ r ∈ S.drop (j - a), v.id < r.id
theorem insAt_start {X : List Rc} {a i : Nat} (hai : a ≤ i) (hi : i < X.length) (h : AscIn Rc.id X a i) : ∃ P S v Q, InsAt X a i i P S v Q X := by
  obtain ⟨e, l1, l2⟩ := three (X := X) hai (by omega)
  have ed : X.drop i = X[i] :: X.drop (i + 1) := List.drop_eq_getElem_cons hi
  rw [ed] at e
  refine ⟨X.take a, (X.drop a).take (i - a), X[i], X.drop (i + 1), ?_⟩
  have ez : X = insZ (X.take a) ((X.drop a).take (i - a)) X[i] (X.drop (i + 1)) ((X.drop a).take (i - a)).length := by
    unfold insZ
    rw [List.take_length, List.drop_length]
    rw [List.append_assoc, List.append_assoc, List.singleton_append, ← List.append_assoc]
    exact e
  exact ⟨ez, by have q := ez; rw [l2] at q; exact q, l1, l2, hai, Nat.le_refl _, h.out, fun r hr => by rw [List.drop_of_length_le (by omega)] at hr; cases hr⟩
theorem InsAt.at_ {X : List Rc} {a i j : Nat} {P S : List Rc} {v : Rc} {Q Z : List Rc} (h : InsAt X a i j P S v Q Z) : Z[j]? = some v := by
  have := insz_at (P := P) (Q := Q) (v := v) (S := S) (j := j - a) (by rw [h.ls]; have := h.ji; omega)
  rw [h.z, show j = P.length + (j - a) by rw [h.lp]; have := h.aj; omega, show P.length + (j - a) - a = j - a by rw [h.lp]; omega]
  exact this
theorem InsAt.prev {X : List Rc} {a i j : Nat} {P S : List Rc} {v : Rc} {Q Z : List Rc} (h : InsAt X a i (j + 1) P S v Q Z) (hj : a ≤ j) : ∃ u, Z[j]? = some u ∧ S[j - a]? = some u := by
  have hs : j - a < S.length := by rw [h.ls]; have := h.ji; omega
  have e : S[j - a]? = some S[j - a] := List.getElem?_eq_getElem hs
  refine ⟨_, ?_, e⟩
  have := insz_prev (P := P) (Q := Q) (v := v) e
  rw [h.z, show j + 1 - a = j - a + 1 by omega]
  rw [h.lp, show a + (j - a) = j by omega] at this
  exact this
theorem InsAt.down {X : List Rc} {a i j : Nat} {P S : List Rc} {v u : Rc} {Q Z : List Rc} (h : InsAt X a i (j + 1) P S v Q Z) (hj : a ≤ j) (hu : S[j - a]? = some u) (hlt : v.id < u.id) : InsAt X a i j P S v Q ((Z.set (j + 1) u).set j v) := by
  refine ⟨h.x, ?_, h.lp, h.ls, hj, by have := h.ji; omega, h.asc, fun r hr => ?_⟩
  · have := insz_down (P := P) (Q := Q) (v := v) hu
    rw [h.lp, show a + (j - a + 1) = j + 1 by omega, show a + (j - a) = j by omega, show j - a + 1 = j + 1 - a by omega, ← h.z] at this
    exact this
  · have := asc_drop_le h.asc hu r hr
    omega
theorem InsAt.fin {X : List Rc} {a i j : Nat} {P S : List Rc} {v : Rc} {Q Z : List Rc} (h : InsAt X a i j P S v Q Z) (hs : ∀ r ∈ S.take (j - a), r.id ≤ v.id) : SStep Rc.id X Z a (i + 1) ∧ AscIn Rc.id Z a (i + 1) := by
  have hA : Asc Rc.id (S.take (j - a) ++ v :: S.drop (j - a)) := ins_asc h.asc hs (fun r hr => Int.le_of_lt (h.above r hr))
  have hF : Fil Rc.id (S ++ [v]) (S.take (j - a) ++ v :: S.drop (j - a)) := ins_fil_back h.above
  have hl : (S.take (j - a) ++ v :: S.drop (j - a)).length = (S ++ [v]).length := by
    simp only [List.length_append, List.length_take, List.length_cons, List.length_drop, List.length_nil]; omega
  have e1 : P.length + (S ++ [v]).length = i + 1 := by rw [h.lp, List.length_append, h.ls]; simp; have := h.aj; have := h.ji; omega
  have ex : X = P ++ (S ++ [v]) ++ Q := by rw [h.x]; unfold insZ; rw [List.take_length, List.drop_length]
  have hs1 := SStep.mid (key := Rc.id) (P := P) (Q := Q) hl hF
  have hs2 := AscIn.mid (key := Rc.id) (P := P) (Q := Q) hA
  rw [e1, h.lp, ← ex] at hs1
  rw [hl, e1, h.lp] at hs2
  rw [h.z]
  exact ⟨hs1, hs2⟩
theorem rc_size (x : Rc) : (Tryz.prog.info? 92).map (·.size) = some (cRc x).length := by
  rw [cRc_len]; kernel_rfl
set_option maxHeartbeats 8000000 in
set_option maxRecDepth 100000 in
theorem ins_any (g n cap a b : Nat) (X : List Rc) (w : World) (hX : MR 12 cRc 92 w g X) (hn : X.length = n) (hbig : n ≤ 1000000000) (hab : a ≤ b) (hb : b ≤ n) :
    Calls Tryz.prog 293 #[.slice (some ⟨g, 0, none⟩) n cap, .int .i64 a, .int .i64 b, .func (.func 222) #[] #[]] w fun e w' => e = .returned (.tuple #[]) ∧ ∃ Y, DR w 92 g w' Y ∧ SStep Rc.id X Y a b ∧ AscIn Rc.id Y a b := by
  have H0 : Hid (DR w 92 g w X) := Lib.hid (DR.start hX)
  have HLn := Lib.hid hn
  have hE := enters_by
  unfold Enters at hE
  clear hX hn
  go_enter Tryz.func293, Tryz.ntmps293
  go_wp2
  go_loopw [8, 9] (fun v8 v9 wr => ∃ (i : Nat) (Y : List Rc), v8 = .int .i64 i ∧ a + 1 ≤ i ∧ (i ≤ b ∨ i = a + 1) ∧ DR w 92 g wr Y ∧ SStep Rc.id X Y a b ∧ AscIn Rc.id Y a i) (fun v8 _ _ => b + 1 - (ivl v8).toNat)
  case atStart => exact ⟨a + 1, X, by go_num, Nat.le_refl _, Or.inr rfl, H0.out, SStep.refl _ _ _, AscIn.one _ (by omega)⟩
  case round =>
    clear H0
    obtain ⟨i, Y, rfl, hi1, hi2, hd, hs, ha⟩ := hrel
    have HD := Lib.hid hd
    have HSs := Lib.hid hs
    have HA := Lib.hid ha
    clear hd hs ha
    by_cases hlt : i < b
    · have hl : Y.length = n := HSs.out.len.trans HLn.out
      obtain ⟨P, S, v, Q, hia⟩ := insAt_start (X := Y) (a := a) (i := i) (by omega) (by omega) HA.out
      have HIA := Lib.hid hia
      have HL := Lib.hid hl
      clear hia hl HA
      have i1 : (i : Int) < (b : Int) := by omega
      go_wp2
      go_loopw [9] (fun v9 wr => ∃ (j : Nat) (Z : List Rc), v9 = .int .i64 j ∧ a ≤ j ∧ j ≤ i ∧ DR w 92 g wr Z ∧ InsAt Y a i j P S v Q Z) (fun v9 _ => (ivl v9).toNat)
      case atStart => exact ⟨i, Y, rfl, by omega, Nat.le_refl _, HD.out, HIA.out⟩
      case round =>
        clear HD HIA
        obtain ⟨j, Z, rfl, haj, hji, hd, hia⟩ := hrel
        have HD := Lib.hid hd
        have HIA := Lib.hid hia
        clear hd hia
        by_cases hj : a < j
        · obtain ⟨q, rfl⟩ : ∃ q, j = q + 1 := ⟨j - 1, by omega⟩
          obtain ⟨u, hzu, hsu⟩ := HIA.out.prev (by omega)
          have hzv := HIA.out.at_
          have hZl : Z.length = n := by rw [HIA.out.z, insz_len (by rw [HIA.out.ls]; omega), ← HL.out, HIA.out.x, insz_len (Nat.le_refl _)]
          have HR := Lib.hid (HD.out.1.len_big hzv)
          have HR' := Lib.hid (HD.out.1.len_big hzu)
          have HS : Hid (∀ W, Below wr.heap.size wr W → W.rangeAt g ((q + 1) * 12) (cRc v) ∧ W.rangeAt g (q * 12) (cRc u)) := Lib.hid (fun W hb => ⟨(HD.out.below hb).1.range cRc_len hzv, (HD.out.below hb).1.range cRc_len hzu⟩)
          have HCm : Hid (∀ W, Calls Tryz.prog 222 #[.agg (cRc v).toArray, .agg (cRc u).toArray] W fun e w' => e = .returned (.int .i64 (cmpI v.id u.id)) ∧ Below W.heap.size W w') := Lib.hid (fun W => by_any v u W)
          have HSz : Hid (((Tryz.prog.info? 92).map (·.size) = some (cRc v).length) ∧ ((Tryz.prog.info? 92).map (·.size) = some (cRc u).length)) := Lib.hid ⟨rc_size v, rc_size u⟩
          have HN : Hid (∀ W W', Below wr.heap.size wr W → W' = ((W.drew.setCells g ((q + 1) * 12) (cRc u)).setCells g (q * 12) (cRc v)) → DR w 92 g W' ((Z.set (q + 1) u).set q v)) := Lib.hid (fun W W' hb e => by
            rw [e]
            exact (HD.out.below hb).swap (by omega) (by omega) v u)
          have HDb : Hid (∀ W, Below wr.heap.size wr W → DR w 92 g W Z) := Lib.hid (fun W hb => HD.out.below hb)
          have HRW : Hid (∀ W, Below wr.heap.size wr W → (W.drew.rangeAt g ((q + 1) * 12) (cRc v) ∧ W.drew.there g ((q + 1) * 12) 12) ∧ (W.drew.rangeAt g (q * 12) (cRc u) ∧ W.drew.there g (q * 12) 12)) := Lib.hid (fun W hb => ⟨(HD.out.below hb).1.len_big hzv, (HD.out.below hb).1.len_big hzu⟩)
          have HStop : Hid (u.id ≤ v.id → SStep Rc.id Y Z a (i + 1) ∧ AscIn Rc.id Z a (i + 1)) := Lib.hid (fun hle => HIA.out.fin (fun r hr => by
            have e : q + 1 - a = q - a + 1 := by omega
            rw [e] at hr
            have := asc_take_le HIA.out.asc hsu r hr
            omega))
          have HDown : Hid (v.id < u.id → InsAt Y a i q P S v Q ((Z.set (q + 1) u).set q v)) := Lib.hid (fun h => HIA.out.down (by omega) hsu h)
          have HCn : Hid (cmpI v.id u.id < 0 ↔ v.id < u.id) := Lib.hid cmp_neg
          obtain ⟨XP, hXP⟩ : ∃ XP, XP = cRc v := ⟨_, rfl⟩
          obtain ⟨XQ, hXQ⟩ : ∃ XQ, XQ = cRc u := ⟨_, rfl⟩
          have HL1 : Hid (XP.length = 12 ∧ XQ.length = 12 ∧ XP.toArray.all (·.oneCell') = true ∧ XQ.toArray.all (·.oneCell') = true) := Lib.hid (by rw [hXP, hXQ]; exact ⟨rfl, rfl, rc_all _, rc_all _⟩)
          rw [← hXP, ← hXQ] at HCm HSz HN HRW HS
          obtain ⟨cc, hcc⟩ : ∃ cc, cc = cmpI v.id u.id := ⟨_, rfl⟩
          rw [← hcc] at HCm HCn
          clear hXP hXQ hzu hsu hzv hZl HR HR' HD HIA hcc
          have hw1 : IntKind.i64.wrap (((q + 1 : Nat) : Int) - 1) = (q : Int) := by rw [show ((q + 1 : Nat) : Int) - 1 = (q : Int) by omega]; exact IntWalk.i64_in _ (by omega)
          obtain ⟨p, hp⟩ : ∃ p, p = q + 1 := ⟨_, rfl⟩
          rw [← hp] at hw1 hj hji HS HN HRW HDown ⊢
          have p0 : (0 : Int) ≤ (p : Int) := by omega
          have p1 : (p : Int) < (n : Int) := by omega
          have q0 : (0 : Int) ≤ (q : Int) := by omega
          have q1 : (q : Int) < (n : Int) := by omega
          have pa : (a : Int) < (p : Int) := by omega
          have HP := Lib.hid hp
          clear hp
          go_wp2_with fail
          refine wp_region_held_drew (S := fun w' => w'.rangeAt g (p * 12) XP ∧ w'.rangeAt g (q * 12) XQ) (by kernel_rfl) (HS.out _ (bdrew (Below.refl _ _))) (fun hHeld => ?_)
          refine tk 0 hHeld ?_
          refine tk 1 hHeld ?_
          refine tk 2 hHeld ?_
          refine tk 3 hHeld ?_
          refine tk 4 hHeld ?_
          refine tk 5 hHeld ?_
          refine tk 6 hHeld ?_
          refine tk 7 hHeld ?_
          refine tkl 8 rfl (yieldsIf_load_mid (by rfl) _ _ rfl _ _ rfl _ _ (fun _ h => h.1) Tryz.underlying92 rfl HSz.out.1) hHeld ?_
          refine tk 9 hHeld ?_
          refine tk 10 hHeld ?_
          refine tk 11 hHeld ?_
          refine tk 12 hHeld ?_
          refine tkl 13 rfl (yieldsIf_load_mid (by rfl) _ _ rfl _ _ rfl _ _ (fun _ h => h.2) Tryz.underlying92 rfl HSz.out.2) hHeld ?_
          refine rd 14 (fun K hK => ?_)
          go_simp
          refine (HCm.out _).mono ?_
          rintro e w1 ⟨rfl, b1⟩
          go_wp2_with fail
          refine hK.out _ _ (HS.out _ (bthen (bdrew (Below.refl _ _)) b1)) (fun hHeld => ?_)
          clear hK K
          refine tk 15 hHeld ?_
          refine tk 16 hHeld ?_
          refine wpAnyH_done (by kernel_rfl) ?_ _
          clear hHeld
          refine fin (fun W => Below wr.heap.size wr W) (bthen (bdrew (Below.refl _ _)) b1) ?_
          clear b1 HS HCm
          rintro W hbW
          have HBW := Lib.hid hbW
          clear hbW
          by_cases hc : cc < 0
          · have hlt2 : v.id < u.id := HCn.out.1 hc
            have HRW2 := Lib.hid (HRW.out W HBW.out)
            have HN2 := Lib.hid (fun W' => HN.out W W' HBW.out)
            have HI2 := Lib.hid (HDown.out hlt2)
            clear HRW HN HDown HStop HDb hlt2
            go_upto_region 6 with fail
            refine swap_ins (p := p) (q := q) (Xp := XP) (Xq := XQ) (fun _ _ d _ _ h => by cases d <;> exact h) hw1 p0 p1 q0 q1 HL1.out.1 HL1.out.2.1 HL1.out.2.2.1 HL1.out.2.2.2 HRW2.out.1.1 HRW2.out.2.1 HRW2.out.1.2 HRW2.out.2.2 ?_
            intro W' hW
            have HD2 := Lib.hid (HN2.out W' hW)
            clear hW HN2 HRW2
            go_wp2
            go_roundw
            case rel => exact ⟨q, _, by go_num, by have := HP.out; omega, by have := HP.out; omega, HD2.out, HI2.out⟩
            case measure => have := HP.out; simp [ivl] <;> omega
          · have HSt := Lib.hid (HStop.out (by have := HCn.out; omega))
            have HD2 := Lib.hid (HDb.out W HBW.out)
            clear HRW HN HDown HStop HDb
            go_wp2
            go_roundw
            case rel => exact ⟨i + 1, Z, by go_num, by omega, by omega, HD2.out, HSs.out.trans (HSt.out.1.wide (Nat.le_refl _) (by omega)), HSt.out.2⟩
            case measure => simp [ivl] <;> omega
        · obtain rfl : j = a := by omega
          have HSt := Lib.hid (HIA.out.fin (fun r hr => by rw [Nat.sub_self] at hr; simp at hr))
          have pa : ¬ (j : Int) < (j : Int) := by omega
          go_wp2_with fail
          refine wp_region_held_drew (S := fun _ => True) (by kernel_rfl) (trivial) (fun hHeld => ?_)
          refine tk 0 hHeld ?_
          refine tk 1 hHeld ?_
          refine tk 2 hHeld ?_
          refine tk 3 hHeld ?_
          refine tks 4 hHeld ?_
          refine tks 5 hHeld ?_
          refine tks 6 hHeld ?_
          refine tks 7 hHeld ?_
          refine tks 8 hHeld ?_
          refine tks 9 hHeld ?_
          refine tks 10 hHeld ?_
          refine tks 11 hHeld ?_
          refine tks 12 hHeld ?_
          refine tks 13 hHeld ?_
          refine tks 14 hHeld ?_
          refine tks 15 hHeld ?_
          refine tk 16 hHeld ?_
          refine wpAnyH_done (by kernel_rfl) ?_ _
          clear hHeld
          refine fin (fun W => Below wr.heap.size wr W) (bdrew (Below.refl _ _)) ?_
          rintro W hbW
          have HD2 := Lib.hid (HD.out.below hbW)
          clear hbW HD
          go_wp2
          go_roundw
          case rel => exact ⟨i + 1, Z, by go_num, by omega, by omega, HD2.out, HSs.out.trans (HSt.out.1.wide (Nat.le_refl _) (by omega)), HSt.out.2⟩
          case measure => simp [ivl] <;> omega
    · have i1 : ¬ (i : Int) < (b : Int) := by omega
      go_wp2
      go_end0
      exact ⟨rfl, Y, HD.out, HSs.out, HA.out.less (Nat.le_refl _) (by omega)⟩
theorem take_drop_len {α : Type} {A : List α} {i j : Nat} (h : A.length = i) (hj : j ≤ i) : (A.take j).length = j ∧ (A.drop j).length = i - j := by
  rw [List.length_take, List.length_drop]; omega
structure RotAt (T : List Rc) (m i j : Nat) (P A B Q : List Rc) : Prop where
  t : P ++ (B ++ A) ++ Q = T
  lp : P.length + i = m
  la : A.length = i
  lb : B.length = j
  i0 : 0 < i
  j0 : 0 < j
theorem RotAt.left {T : List Rc} {m i j : Nat} {P A B Q : List Rc} (h : RotAt T m i j P A B Q) (hij : j < i) : RotAt T m (i - j) j (P ++ B) (A.drop j) (A.take j) Q := by
  obtain ⟨l1, l2⟩ := take_drop_len h.la (Nat.le_of_lt hij)
  have := h.lp
  have := h.j0
  refine ⟨?_, by rw [List.length_append, h.lb]; omega, l2, l1, by omega, h.j0⟩
  rw [List.take_append_drop, ← h.t]
  simp only [List.append_assoc]
theorem RotAt.right {T : List Rc} {m i j : Nat} {P A B Q : List Rc} (h : RotAt T m i j P A B Q) (hij : i < j) : RotAt T m i (j - i) P (B.drop (j - i)) (B.take (j - i)) (A ++ Q) := by
  obtain ⟨l1, l2⟩ := take_drop_len h.lb (show j - i ≤ j by omega)
  refine ⟨?_, h.lp, by rw [l2]; omega, l1, h.i0, by omega⟩
  rw [List.take_append_drop, ← h.t]
  simp only [List.append_assoc]
set_option maxHeartbeats 8000000 in
set_option maxRecDepth 100000 in
theorem rot_any (g n cap a m b : Nat) (cv : Value) (P U V Q : List Rc) (w : World) (hX : MR 12 cRc 92 w g (P ++ U ++ V ++ Q)) (hn : (P ++ U ++ V ++ Q).length = n) (hbig : n ≤ 1000000000)
    (ha : P.length = a) (hm : a + U.length = m) (hb : m + V.length = b) (hU : 0 < U.length) (hV : 0 < V.length) :
    Calls Tryz.prog 316 #[.slice (some ⟨g, 0, none⟩) n cap, .int .i64 a, .int .i64 m, .int .i64 b, cv] w fun e w' => e = .returned (.tuple #[]) ∧ DR w 92 g w' (P ++ V ++ U ++ Q) := by
  obtain ⟨T, hT⟩ : ∃ T, T = P ++ V ++ U ++ Q := ⟨_, rfl⟩
  rw [← hT]
  have H0 : Hid (DR w 92 g w (P ++ U ++ V ++ Q) ∧ RotAt T m (m - a) (b - m) P U V Q) := Lib.hid ⟨DR.start hX, by rw [hT]; simp only [List.append_assoc], by omega, by omega, by omega, by omega, by omega⟩
  have hn0 : m + V.length + Q.length = n := by rw [← hn, ← hm, ← ha]; simp only [List.length_append]
  have hbn : b ≤ n := by omega
  have hTl : Hid (T.length = n) := Lib.hid (by rw [hT, ← hn]; simp only [List.length_append]; omega)
  have ham : a ≤ m := by omega
  have hmb : m ≤ b := by omega
  have HR : Hid (∀ (wr : World) (a' b' k : Int) (pa pb pk : Nat) (P' A M B Q' : List Rc), DR w 92 g wr (P' ++ A ++ M ++ B ++ Q') → (P' ++ A ++ M ++ B ++ Q').length = n → a' = (pa : Int) → b' = (pb : Int) → k = (pk : Int) → P'.length = pa → A.length = pk → B.length = pk → pb = pa + pk + M.length →
      Calls Tryz.prog 322 #[.slice (some ⟨g, 0, none⟩) n cap, .int .i64 a', .int .i64 b', .int .i64 k, cv] wr fun e w' => e = .returned (.tuple #[]) ∧ DR w 92 g w' (P' ++ B ++ M ++ A ++ Q')) := Lib.hid (fun wr a' b' k pa pb pk P' A M B Q' hd hl e1 e2 e3 h1 h2 h3 h4 => by
    subst e1 e2 e3
    exact (rng_any g n cap pa pb pk cv P' A M B Q' wr hd.1 hl hbig h1 h2 h3 h4).mono (fun e w' h => ⟨h.1, hd.next h.2⟩))
  clear hX hn ha hm hb hT hn0 hU hV
  go_enter Tryz.func316, Tryz.ntmps316
  go_wp2
  go_loopw [10, 11] (fun v10 v11 wr => ∃ (i j : Nat) (P' A B Q' : List Rc), v10 = .int .i64 i ∧ v11 = .int .i64 j ∧ DR w 92 g wr (P' ++ A ++ B ++ Q') ∧ RotAt T m i j P' A B Q') (fun v10 v11 _ => (ivl v10).toNat + (ivl v11).toNat)
  case atStart => exact ⟨m - a, b - m, P, U, V, Q, by go_num, by go_num, H0.out.1, H0.out.2⟩
  case round =>
    clear H0
    obtain ⟨i, j, P', A, B, Q', rfl, rfl, hd, hr⟩ := hrel
    have HD := Lib.hid hd
    have HRt := Lib.hid hr
    have hlt : P'.length + j + i + Q'.length = n := by rw [← hTl.out, ← hr.t]; simp only [List.length_append, hr.la, hr.lb]; omega
    have hi0 := hr.i0
    have hj0 := hr.j0
    have hpm := hr.lp
    clear hd hr
    by_cases hij : i = j
    · subst hij
      have HC := Lib.hid (HR.out wr ((m : Int) - (i : Int)) m i P'.length m i P' A [] B Q' (by simpa using HD.out) (by have h1 := HRt.out.la; have h2 := HRt.out.lb; simp only [List.length_append, List.length_nil]; omega) (by omega) rfl rfl rfl HRt.out.la HRt.out.lb (by simp; omega))
      have HE : Hid (P' ++ B ++ [] ++ A ++ Q' = T) := Lib.hid (by rw [← HRt.out.t]; simp)
      have e1 : ((i : Int) != (i : Int)) = false := by simp
      clear HD HRt
      go_wp2_with fail
      refine HC.out.mono ?_
      rintro e w1 ⟨rfl, hd⟩
      have HD := Lib.hid (HE.out ▸ hd)
      clear hd HC HE
      go_wp2
      go_end0
      exact ⟨rfl, HD.out⟩
    · have e1 : ((i : Int) != (j : Int)) = true := by simp; omega
      by_cases hlt2 : j < i
      · have e2 : (j : Int) < (i : Int) := by omega
        obtain ⟨l1, l2⟩ := take_drop_len HRt.out.la (Nat.le_of_lt hlt2)
        have HC := Lib.hid (HR.out wr ((m : Int) - (i : Int)) m j P'.length m j P' (A.take j) (A.drop j) B Q' (by rw [List.append_assoc P', List.take_append_drop]; exact HD.out) (by have h2 := HRt.out.lb; simp only [List.length_append, l1, l2]; omega) (by omega) rfl rfl rfl l1 HRt.out.lb (by rw [l2]; omega))
        have HRt2 := Lib.hid (HRt.out.left hlt2)
        clear HD HRt l1 l2
        go_wp2_with fail
        refine HC.out.mono ?_
        rintro e w1 ⟨rfl, hd⟩
        have HD := Lib.hid hd
        clear hd HC
        go_wp2
        go_roundw
        case rel => exact ⟨i - j, j, _, _, _, _, by go_num, rfl, HD.out, HRt2.out⟩
        case measure => simp [ivl] <;> omega
      · have e2 : ¬ (j : Int) < (i : Int) := by omega
        have hlt3 : i < j := by omega
        obtain ⟨l1, l2⟩ := take_drop_len HRt.out.lb (show j - i ≤ j by omega)
        have HC := Lib.hid (HR.out wr ((m : Int) - (i : Int)) ((m : Int) + (j : Int) - (i : Int)) i P'.length (m + j - i) i P' A (B.take (j - i)) (B.drop (j - i)) Q' (by rw [List.append_assoc (P' ++ A), List.take_append_drop]; exact HD.out) (by have h2 := HRt.out.la; simp only [List.length_append, l1, l2]; omega) (by omega) (by omega) rfl rfl HRt.out.la (by rw [l2]; omega) (by rw [l1]; omega))
        have HRt2 := Lib.hid (HRt.out.right hlt3)
        have HAs : Hid (P' ++ B.drop (j - i) ++ B.take (j - i) ++ (A ++ Q') = P' ++ B.drop (j - i) ++ B.take (j - i) ++ A ++ Q') := Lib.hid (by simp only [List.append_assoc])
        clear HD HRt l1 l2
        go_wp2_with fail
        refine HC.out.mono ?_
        rintro e w1 ⟨rfl, hd⟩
        have HD := Lib.hid (HAs.out ▸ hd)
        clear hd HC HAs
        go_wp2
        go_roundw
        case rel => exact ⟨i, j - i, _, _, _, _, rfl, by go_num, HD.out, HRt2.out⟩
        case measure => simp [ivl] <;> omega
theorem sym_fin {U V : List Rc} {s t : Nat} (hU : Asc Rc.id U) (hV : Asc Rc.id V) (hs : s ≤ U.length) (ht : t ≤ V.length)
    (h1 : s = 0 ∨ t = V.length ∨ ∃ x y, U[s - 1]? = some x ∧ V[t]? = some y ∧ x.id ≤ y.id) (h2 : s = U.length ∨ t = 0 ∨ ∃ x y, V[t - 1]? = some y ∧ U[s]? = some x ∧ y.id < x.id) :
    (∀ p ∈ U.take s ++ V.take t, ∀ q ∈ U.drop s ++ V.drop t, p.id ≤ q.id) ∧ Fil Rc.id (U ++ V) ((U.take s ++ V.take t) ++ (U.drop s ++ V.drop t)) := by
  have hU' : Asc Rc.id (U.take s ++ U.drop s) := by rw [List.take_append_drop]; exact hU
  have hV' : Asc Rc.id (V.take t ++ V.drop t) := by rw [List.take_append_drop]; exact hV
  have uu := (List.pairwise_append.1 hU').2.2
  have vv := (List.pairwise_append.1 hV').2.2
  have uv : ∀ p ∈ U.take s, ∀ q ∈ V.drop t, p.id ≤ q.id := fun p hp q hq => by
    rcases h1 with rfl | rfl | ⟨x, y, hx, hy, hxy⟩
    · simp at hp
    · rw [List.drop_length] at hq; cases hq
    · rcases Nat.eq_zero_or_pos s with rfl | h0
      · simp at hp
      · have e1 := asc_take_le hU hx p (by rw [show s - 1 + 1 = s by omega]; exact hp)
        have e2 := asc_drop_le hV hy q hq
        omega
  have vu : ∀ p ∈ V.take t, ∀ q ∈ U.drop s, p.id < q.id := fun p hp q hq => by
    rcases h2 with rfl | rfl | ⟨x, y, hy, hx, hxy⟩
    · rw [List.drop_length] at hq; cases hq
    · simp at hp
    · rcases Nat.eq_zero_or_pos t with rfl | h0
      · simp at hp
      · have e1 := asc_take_le hV hy p (by rw [show t - 1 + 1 = t by omega]; exact hp)
        have e2 := asc_drop_le hU hx q hq
        omega
  refine ⟨fun p hp q hq => ?_, ?_⟩
  · rcases List.mem_append.1 hp with hp | hp <;> rcases List.mem_append.1 hq with hq | hq
    · exact uu p hp q hq
    · exact uv p hp q hq
    · exact Int.le_of_lt (vu p hp q hq)
    · exact vv p hp q hq
  · have e1 : U ++ V = U.take s ++ (U.drop s ++ V.take t) ++ V.drop t := by
      rw [List.append_assoc, List.append_assoc, List.take_append_drop, ← List.append_assoc, List.take_append_drop]
    have e2 : (U.take s ++ V.take t) ++ (U.drop s ++ V.drop t) = U.take s ++ (V.take t ++ U.drop s) ++ V.drop t := by simp only [List.append_assoc]
    rw [e1, e2]
    refine Fil.mid (fil_cross fun a ha b hb => ?_)
    have := vu b hb a ha
    omega
theorem one_of {S : List Rc} {v : Rc} (hS : Asc Rc.id S) {t : Nat} (ht : t ≤ S.length) (h1 : t = 0 ∨ ∃ y, S[t - 1]? = some y ∧ y.id < v.id) (h2 : t = S.length ∨ ∃ y, S[t]? = some y ∧ v.id ≤ y.id) :
    Asc Rc.id (S.take t ++ v :: S.drop t) ∧ Fil Rc.id ([v] ++ S) (S.take t ++ v :: S.drop t) := by
  have a1 : ∀ r ∈ S.take t, r.id < v.id := fun r hr => by
    rcases h1 with rfl | ⟨y, hy, hl⟩
    · simp at hr
    · rcases Nat.eq_zero_or_pos t with rfl | h0
      · simp at hr
      · have := asc_take_le hS hy r (by rw [show t - 1 + 1 = t by omega]; exact hr)
        omega
  have a2 : ∀ r ∈ S.drop t, v.id ≤ r.id := fun r hr => by
    rcases h2 with rfl | ⟨y, hy, hl⟩
    · rw [List.drop_length] at hr; cases hr
    · have := asc_drop_le hS hy r hr
      omega
  exact ⟨ins_asc hS (fun r hr => Int.le_of_lt (a1 r hr)) a2, ins_fil_front a1⟩
theorem last_of {S : List Rc} {v : Rc} (hS : Asc Rc.id S) {t : Nat} (ht : t ≤ S.length) (h1 : t = 0 ∨ ∃ y, S[t - 1]? = some y ∧ y.id ≤ v.id) (h2 : t = S.length ∨ ∃ y, S[t]? = some y ∧ v.id < y.id) :
    Asc Rc.id (S.take t ++ v :: S.drop t) ∧ Fil Rc.id (S ++ [v]) (S.take t ++ v :: S.drop t) := by
  have a1 : ∀ r ∈ S.take t, r.id ≤ v.id := fun r hr => by
    rcases h1 with rfl | ⟨y, hy, hl⟩
    · simp at hr
    · rcases Nat.eq_zero_or_pos t with rfl | h0
      · simp at hr
      · have := asc_take_le hS hy r (by rw [show t - 1 + 1 = t by omega]; exact hr)
        omega
  have a2 : ∀ r ∈ S.drop t, v.id < r.id := fun r hr => by
    rcases h2 with rfl | ⟨y, hy, hl⟩
    · rw [List.drop_length] at hr; cases hr
    · have := asc_drop_le hS hy r hr
      omega
  exact ⟨ins_asc hS a1 (fun r hr => Int.le_of_lt (a2 r hr)), ins_fil_back a2⟩
set_option maxHeartbeats 16000000 in
set_option maxRecDepth 100000 in
theorem sym_one (g n cap a m b : Nat) (P : List Rc) (u : Rc) (V Q : List Rc) (w : World) (hX : MR 12 cRc 92 w g (P ++ [u] ++ V ++ Q)) (hn : (P ++ [u] ++ V ++ Q).length = n) (hbig : n ≤ 1000000000)
    (ha : P.length = a) (hm : a + 1 = m) (hb : m + V.length = b) (hV : Asc Rc.id V) :
    Calls Tryz.prog 294 #[.slice (some ⟨g, 0, none⟩) n cap, .int .i64 a, .int .i64 m, .int .i64 b, .func (.func 222) #[] #[]] w fun e w' => e = .returned (.tuple #[]) ∧ ∃ Z, Z.length = 1 + V.length ∧ Fil Rc.id ([u] ++ V) Z ∧ Asc Rc.id Z ∧ DR w 92 g w' (P ++ Z ++ Q) := by
  have e0 : P ++ [u] ++ V ++ Q = insZ P V u Q 0 := by unfold insZ; simp
  have H0 : Hid (DR w 92 g w (insZ P V u Q 0)) := Lib.hid (by rw [← e0]; exact DR.start hX)
  have HAt : Hid (∀ j y, V[j]? = some y → (insZ P V u Q 0)[m + j]? = some y) := Lib.hid (fun j y hy => by
    rw [← e0, ← hm, ← ha, List.append_assoc, List.getElem?_append_right (by simp), List.getElem?_append_left]
    · simpa using hy
    · have := (List.getElem?_eq_some_iff.1 hy).1
      simp; omega)
  have HAu : Hid (∀ j, j ≤ V.length → (insZ P V u Q j)[a + j]? = some u) := Lib.hid (fun j hj => by rw [← ha]; exact insz_at hj)
  have HAn : Hid (∀ j y, V[j]? = some y → (insZ P V u Q j)[a + j + 1]? = some y ∧ ((insZ P V u Q j).set (a + j) y).set (a + j + 1) u = insZ P V u Q (j + 1)) := Lib.hid (fun j y hy => by rw [← ha, Nat.add_assoc]; exact ⟨insz_next hy, insz_up hy⟩)
  have HLn : Hid (∀ j, j ≤ V.length → (insZ P V u Q j).length = n) := Lib.hid (fun j hj => by rw [insz_len hj, ← hn]; simp; omega)
  have hbn : b ≤ n := by rw [← hn, ← hb, ← hm, ← ha]; simp; omega
  have hm1 : a + 1 ≤ m := by omega
  have hm2 : m ≤ a + 1 := by omega
  have hb1 : m + V.length ≤ b := by omega
  have hb2 : b ≤ m + V.length := by omega
  have g1 : ((m : Int) - (a : Int) == 1) = true := by simp; omega
  have HV := Lib.hid hV
  have hE := enters_by
  unfold Enters at hE
  clear hX hn ha hm hb hV e0
  go_enter Tryz.func294, Tryz.ntmps294
  go_wp2
  go_loopw [10, 11, 12] (fun v10 v11 _ wr => ∃ lo hi : Nat, v10 = .int .i64 lo ∧ v11 = .int .i64 hi ∧ m ≤ lo ∧ lo ≤ hi ∧ hi ≤ b ∧ DR w 92 g wr (insZ P V u Q 0) ∧ (lo - m = 0 ∨ ∃ y, V[lo - m - 1]? = some y ∧ y.id < u.id) ∧ (hi - m = V.length ∨ ∃ y, V[hi - m]? = some y ∧ u.id ≤ y.id)) (fun v10 v11 _ _ => (ivl v11).toNat - (ivl v10).toNat)
  case atStart => exact ⟨m, b, rfl, rfl, Nat.le_refl _, by omega, Nat.le_refl _, H0.out, Or.inl (by omega), Or.inl (by omega)⟩
  case round =>
    clear H0
    obtain ⟨lo, hi, rfl, rfl, hlo, hlh, hhi, hd, hc1, hc2⟩ := hrel
    have HD := Lib.hid hd
    have HC1 := Lib.hid hc1
    have HC2 := Lib.hid hc2
    clear hd hc1 hc2
    by_cases hlt : lo < hi
    · obtain ⟨h, hh⟩ : ∃ h : Nat, h = (lo + hi) / 2 := ⟨_, rfl⟩
      have hh2 : ((lo : Int) + (hi : Int)) / 2 = (h : Int) := by omega
      have hl1 : lo ≤ h := by omega
      have hl2 : h < hi := by omega
      clear hh
      obtain ⟨y, hy⟩ : ∃ y, V[h - m]? = some y := ⟨_, List.getElem?_eq_getElem (by omega)⟩
      have hp := HAt.out _ _ hy
      rw [show m + (h - m) = h by omega] at hp
      have hq := HAu.out 0 (by omega)
      rw [Nat.add_zero] at hq
      have HY := Lib.hid hy
      have HS : Hid (∀ W, Below wr.heap.size wr W → W.rangeAt g (h * 12) (cRc y) ∧ W.rangeAt g (a * 12) (cRc u)) := Lib.hid (fun W hb => ⟨(HD.out.below hb).1.range cRc_len hp, (HD.out.below hb).1.range cRc_len hq⟩)
      have HCm : Hid (∀ W, Calls Tryz.prog 222 #[.agg (cRc y).toArray, .agg (cRc u).toArray] W fun e w' => e = .returned (.int .i64 (cmpI (y).id (u).id)) ∧ Below W.heap.size W w') := Lib.hid (fun W => by_any y u W)
      have HSz : Hid (((Tryz.prog.info? 92).map (·.size) = some (cRc y).length) ∧ ((Tryz.prog.info? 92).map (·.size) = some (cRc u).length)) := Lib.hid ⟨rc_size y, rc_size u⟩
      have HCn : Hid (cmpI (y).id (u).id < 0 ↔ (y).id < (u).id) := Lib.hid cmp_neg
      obtain ⟨XP, hXP⟩ : ∃ XP, XP = cRc y := ⟨_, rfl⟩
      obtain ⟨XQ, hXQ⟩ : ∃ XQ, XQ = cRc u := ⟨_, rfl⟩
      rw [← hXP, ← hXQ] at HCm HSz HS
      obtain ⟨cc, hcc⟩ : ∃ cc, cc = cmpI (y).id (u).id := ⟨_, rfl⟩
      rw [← hcc] at HCm HCn
      clear hXP hXQ hcc
      have p0 : (0 : Int) ≤ (h : Int) := by omega
      have p1 : (h : Int) < (n : Int) := by omega
      have q0 : (0 : Int) ≤ (a : Int) := by omega
      have q1 : (a : Int) < (n : Int) := by omega
      have hli : (lo : Int) < (hi : Int) := by omega
      clear hp hq hy
      go_wp2_with fail
      refine wp_region_held_drew (S := fun w' => w'.rangeAt g (h * 12) XP ∧ w'.rangeAt g (a * 12) XQ) (by kernel_rfl) (HS.out _ (bdrew (Below.refl _ _))) (fun hHeld => ?_)
      refine tk 0 hHeld ?_
      refine tk 1 hHeld ?_
      refine tk 2 hHeld ?_
      refine tk 3 hHeld ?_
      refine tkl 4 rfl (yieldsIf_load_mid (by rfl) _ _ rfl _ _ rfl _ _ (fun _ h => h.1) Tryz.underlying92 rfl HSz.out.1) hHeld ?_
      refine tk 5 hHeld ?_
      refine tk 6 hHeld ?_
      refine tk 7 hHeld ?_
      refine tkl 8 rfl (yieldsIf_load_mid (by rfl) _ _ rfl _ _ rfl _ _ (fun _ h => h.2) Tryz.underlying92 rfl HSz.out.2) hHeld ?_
      refine rd 9 (fun K hK => ?_)
      go_simp
      refine (HCm.out _).mono ?_
      rintro e w1 ⟨rfl, b1⟩
      go_wp2_with fail
      refine hK.out _ _ (HS.out _ (bthen (bdrew (Below.refl _ _)) b1)) (fun hHeld => ?_)
      clear hK K
      refine tk 10 hHeld ?_
      refine wpAnyH_done (by kernel_rfl) ?_ _
      clear hHeld
      refine fin (fun W => Below wr.heap.size wr W) (bthen (bdrew (Below.refl _ _)) b1) ?_
      clear b1 HS HCm
      rintro W hbW
      have HBW := Lib.hid hbW
      clear hbW
      have HD2 := Lib.hid (HD.out.below HBW.out)
      by_cases hc : cc < 0
      · have hlt2 := Lib.hid (HCn.out.1 hc)
        clear HCn HD HBW
        go_wp2
        go_roundw
        case rel => exact ⟨h + 1, hi, by go_num, rfl, by omega, by omega, hhi, HD2.out, Or.inr ⟨y, by rw [show h + 1 - m - 1 = h - m by omega]; exact HY.out, hlt2.out⟩, HC2.out⟩
        case measure => simp [ivl] <;> omega
      · have hlt2 : Hid (u.id ≤ y.id) := Lib.hid (by have := HCn.out; omega)
        clear HCn HD HBW
        go_wp2
        go_roundw
        case rel => exact ⟨lo, h, rfl, rfl, hlo, hl1, by omega, HD2.out, HC1.out, Or.inr ⟨y, HY.out, hlt2.out⟩⟩
        case measure => simp [ivl] <;> omega
    · obtain rfl : hi = lo := by omega
      have hli : ¬ (hi : Int) < (hi : Int) := by omega
      obtain ⟨t, ht⟩ : ∃ t, t = hi - m := ⟨_, rfl⟩
      rw [← ht] at HC1 HC2
      have HF := Lib.hid (one_of HV.out (by omega) HC1.out HC2.out)
      have HT := Lib.hid ht
      have ht1 : m + t ≤ hi := by omega
      have ht2 : hi ≤ m + t := by omega
      clear ht HC1 HC2 HV
      go_wp2
      go_loopw [13] (fun v13 wr => ∃ j : Nat, v13 = .int .i64 ((a + j : Nat) : Int) ∧ j ≤ t ∧ DR w 92 g wr (insZ P V u Q j)) (fun v13 _ => n - (ivl v13).toNat)
      case atStart => exact ⟨0, by simp, by omega, HD.out⟩
      case round =>
        clear HD
        obtain ⟨j, rfl, hj, hd⟩ := hrel
        have HD := Lib.hid hd
        clear hd
        obtain ⟨k, hk⟩ : ∃ k, k = a + j := ⟨_, rfl⟩
        rw [← hk]
        by_cases hlt : j < t
        · obtain ⟨y, hy⟩ : ∃ y, V[j]? = some y := ⟨_, List.getElem?_eq_getElem (by omega)⟩
          obtain ⟨hq, hs⟩ := HAn.out _ _ hy
          have hp := HAu.out j (by omega)
          obtain ⟨Z, hZ⟩ : ∃ Z, Z = insZ P V u Q j := ⟨_, rfl⟩
          have hZl : Z.length = n := by rw [hZ]; exact HLn.out j (by omega)
          rw [← hZ] at hs hp hq HD
          rw [← hk] at hs hp hq
          obtain ⟨q, hqk⟩ : ∃ q, q = k + 1 := ⟨_, rfl⟩
          rw [← hqk] at hq hs
          have HRp := Lib.hid (HD.out.1.len_big hp)
          have HRq := Lib.hid (HD.out.1.len_big hq)
          have HN : Hid (∀ W', W' = ((wr.drew.setCells g (k * 12) (cRc y)).setCells g (q * 12) (cRc u)) → DR w 92 g W' ((Z.set k y).set q u)) := Lib.hid (fun W' e => by
            rw [e]
            exact HD.out.swap (by rw [hZl]; omega) (by rw [hZl]; omega) u y)
          rw [hs] at HN
          have hw1 : IntKind.i64.wrap ((k : Int) + 1) = (q : Int) := by rw [show (k : Int) + 1 = (q : Int) by omega]; exact IntWalk.i64_in _ (by omega)
          have p0 : (0 : Int) ≤ (k : Int) := by omega
          have p1 : (k : Int) < (n : Int) := by omega
          have q0 : (0 : Int) ≤ (q : Int) := by omega
          have q1 : (q : Int) < (n : Int) := by omega
          have hli2 : (k : Int) < (hi : Int) - 1 := by omega
          have HK := Lib.hid hk
          have HQ := Lib.hid hqk
          clear hk hs hp hq hy hZ hZl hqk HD
          go_upto_region 11 with fail
          refine swap_syA (p := k) (q := q) (Xp := cRc u) (Xq := cRc y) (fun _ _ d _ _ h => by cases d <;> exact h) hw1 p0 p1 q0 q1 rfl rfl (rc_all _) (rc_all _) HRp.out.1 HRq.out.1 HRp.out.2 HRq.out.2 ?_
          intro W hW
          have HD2 := Lib.hid (HN.out W hW)
          clear hW HN HRp HRq
          go_wp2
          go_roundw
          case rel => exact ⟨j + 1, by have := HK.out; have := HQ.out; go_num, by omega, HD2.out⟩
          case measure => have := HK.out; have := HQ.out; simp [ivl] <;> omega
        · obtain rfl : j = t := by omega
          have hli2 : ¬ (k : Int) < (hi : Int) - 1 := by omega
          clear hk
          go_wp2
          (try simp only [Exit.inBlock, Exit.then])
          refine bodyPost_ret (results_none rfl _ _ _) rfl ?_
          exact ⟨rfl, V.take j ++ u :: V.drop j, by simp only [List.length_append, List.length_take, List.length_cons, List.length_drop]; omega, HF.out.2, HF.out.1, by have q := HD.out; unfold insZ at q; simpa only [List.append_assoc, List.cons_append] using q⟩
set_option maxHeartbeats 16000000 in
set_option maxRecDepth 100000 in
theorem sym_last (g n cap a m b : Nat) (P : List Rc) (v : Rc) (U Q : List Rc) (w : World) (hX : MR 12 cRc 92 w g (P ++ U ++ [v] ++ Q)) (hn : (P ++ U ++ [v] ++ Q).length = n) (hbig : n ≤ 1000000000)
    (ha : P.length = a) (hm : a + U.length = m) (hb : m + 1 = b) (hU2 : 2 ≤ U.length) (hU : Asc Rc.id U) :
    Calls Tryz.prog 294 #[.slice (some ⟨g, 0, none⟩) n cap, .int .i64 a, .int .i64 m, .int .i64 b, .func (.func 222) #[] #[]] w fun e w' => e = .returned (.tuple #[]) ∧ ∃ Z, Z.length = U.length + 1 ∧ Fil Rc.id (U ++ [v]) Z ∧ Asc Rc.id Z ∧ DR w 92 g w' (P ++ Z ++ Q) := by
  have e0 : P ++ U ++ [v] ++ Q = insZ P U v Q U.length := by unfold insZ; rw [List.take_length, List.drop_length]; simp
  have H0 : Hid (DR w 92 g w (insZ P U v Q U.length)) := Lib.hid (by rw [← e0]; exact DR.start hX)
  have HAt : Hid (∀ j y, U[j]? = some y → (insZ P U v Q U.length)[a + j]? = some y) := Lib.hid (fun j y hy => by
    have hj := (List.getElem?_eq_some_iff.1 hy).1
    rw [← e0, ← ha, List.append_assoc, List.append_assoc, List.getElem?_append_right (by omega), List.getElem?_append_left (by omega)]
    simpa using hy)
  have HAu : Hid (∀ j, j ≤ U.length → (insZ P U v Q j)[a + j]? = some v) := Lib.hid (fun j hj => by rw [← ha]; exact insz_at hj)
  have HAn : Hid (∀ j y, U[j]? = some y → (insZ P U v Q (j + 1))[a + j]? = some y ∧ ((insZ P U v Q (j + 1)).set (a + j + 1) y).set (a + j) v = insZ P U v Q j) := Lib.hid (fun j y hy => by rw [← ha, Nat.add_assoc]; exact ⟨insz_prev hy, insz_down hy⟩)
  have HLn : Hid (∀ j, j ≤ U.length → (insZ P U v Q j).length = n) := Lib.hid (fun j hj => by rw [insz_len hj, ← hn]; simp; omega)
  have hbn : b ≤ n := by rw [← hn, ← hb, ← hm, ← ha]; simp; omega
  have hb1 : m + 1 ≤ b := by omega
  have hb2 : b ≤ m + 1 := by omega
  have hm1 : a + U.length ≤ m := by omega
  have hm2 : m ≤ a + U.length := by omega
  have g1 : ((m : Int) - (a : Int) == 1) = false := by simp; omega
  have g2 : ((b : Int) - (m : Int) == 1) = true := by simp; omega
  have HU := Lib.hid hU
  have hE := enters_by
  unfold Enters at hE
  clear hX hn ha hm hb hU e0
  go_enter Tryz.func294, Tryz.ntmps294
  go_wp2
  go_loopw [14, 15, 16] (fun v14 v15 _ wr => ∃ lo hi : Nat, v14 = .int .i64 lo ∧ v15 = .int .i64 hi ∧ a ≤ lo ∧ lo ≤ hi ∧ hi ≤ m ∧ DR w 92 g wr (insZ P U v Q U.length) ∧ (lo - a = 0 ∨ ∃ y, U[lo - a - 1]? = some y ∧ y.id ≤ v.id) ∧ (hi - a = U.length ∨ ∃ y, U[hi - a]? = some y ∧ v.id < y.id)) (fun v14 v15 _ _ => (ivl v15).toNat - (ivl v14).toNat)
  case atStart => exact ⟨a, m, rfl, rfl, Nat.le_refl _, by omega, Nat.le_refl _, H0.out, Or.inl (by omega), Or.inl (by omega)⟩
  case round =>
    clear H0
    obtain ⟨lo, hi, rfl, rfl, hlo, hlh, hhi, hd, hc1, hc2⟩ := hrel
    have HD := Lib.hid hd
    have HC1 := Lib.hid hc1
    have HC2 := Lib.hid hc2
    clear hd hc1 hc2
    by_cases hlt : lo < hi
    · obtain ⟨h, hh⟩ : ∃ h : Nat, h = (lo + hi) / 2 := ⟨_, rfl⟩
      have hh2 : ((lo : Int) + (hi : Int)) / 2 = (h : Int) := by omega
      have hl1 : lo ≤ h := by omega
      have hl2 : h < hi := by omega
      clear hh
      obtain ⟨y, hy⟩ : ∃ y, U[h - a]? = some y := ⟨_, List.getElem?_eq_getElem (by omega)⟩
      have hq := HAt.out _ _ hy
      rw [show a + (h - a) = h by omega] at hq
      have hp := HAu.out U.length (Nat.le_refl _)
      rw [show a + U.length = m by omega] at hp
      have HY := Lib.hid hy
      have HS : Hid (∀ W, Below wr.heap.size wr W → W.rangeAt g (m * 12) (cRc v) ∧ W.rangeAt g (h * 12) (cRc y)) := Lib.hid (fun W hb => ⟨(HD.out.below hb).1.range cRc_len hp, (HD.out.below hb).1.range cRc_len hq⟩)
      have HCm : Hid (∀ W, Calls Tryz.prog 222 #[.agg (cRc v).toArray, .agg (cRc y).toArray] W fun e w' => e = .returned (.int .i64 (cmpI (v).id (y).id)) ∧ Below W.heap.size W w') := Lib.hid (fun W => by_any v y W)
      have HSz : Hid (((Tryz.prog.info? 92).map (·.size) = some (cRc v).length) ∧ ((Tryz.prog.info? 92).map (·.size) = some (cRc y).length)) := Lib.hid ⟨rc_size v, rc_size y⟩
      have HCn : Hid (cmpI (v).id (y).id < 0 ↔ (v).id < (y).id) := Lib.hid cmp_neg
      obtain ⟨XP, hXP⟩ : ∃ XP, XP = cRc v := ⟨_, rfl⟩
      obtain ⟨XQ, hXQ⟩ : ∃ XQ, XQ = cRc y := ⟨_, rfl⟩
      rw [← hXP, ← hXQ] at HCm HSz HS
      obtain ⟨cc, hcc⟩ : ∃ cc, cc = cmpI (v).id (y).id := ⟨_, rfl⟩
      rw [← hcc] at HCm HCn
      clear hXP hXQ hcc
      have p0 : (0 : Int) ≤ (h : Int) := by omega
      have p1 : (h : Int) < (n : Int) := by omega
      have q0 : (0 : Int) ≤ (m : Int) := by omega
      have q1 : (m : Int) < (n : Int) := by omega
      have hli : (lo : Int) < (hi : Int) := by omega
      clear hp hq hy
      go_wp2_with fail
      refine wp_region_held_drew (S := fun w' => w'.rangeAt g (m * 12) XP ∧ w'.rangeAt g (h * 12) XQ) (by kernel_rfl) (HS.out _ (bdrew (Below.refl _ _))) (fun hHeld => ?_)
      refine tk 0 hHeld ?_
      refine tk 1 hHeld ?_
      refine tk 2 hHeld ?_
      refine tk 3 hHeld ?_
      refine tkl 4 rfl (yieldsIf_load_mid (by rfl) _ _ rfl _ _ rfl _ _ (fun _ h => h.1) Tryz.underlying92 rfl HSz.out.1) hHeld ?_
      refine tk 5 hHeld ?_
      refine tk 6 hHeld ?_
      refine tk 7 hHeld ?_
      refine tkl 8 rfl (yieldsIf_load_mid (by rfl) _ _ rfl _ _ rfl _ _ (fun _ h => h.2) Tryz.underlying92 rfl HSz.out.2) hHeld ?_
      refine rd 9 (fun K hK => ?_)
      go_simp
      refine (HCm.out _).mono ?_
      rintro e w1 ⟨rfl, b1⟩
      go_wp2_with fail
      refine hK.out _ _ (HS.out _ (bthen (bdrew (Below.refl _ _)) b1)) (fun hHeld => ?_)
      clear hK K
      refine tk 10 hHeld ?_
      refine tk 11 hHeld ?_
      refine wpAnyH_done (by kernel_rfl) ?_ _
      clear hHeld
      refine fin (fun W => Below wr.heap.size wr W) (bthen (bdrew (Below.refl _ _)) b1) ?_
      clear b1 HS HCm
      rintro W hbW
      have HBW := Lib.hid hbW
      clear hbW
      have HD2 := Lib.hid (HD.out.below HBW.out)
      by_cases hc : cc < 0
      · have hlt2 := Lib.hid (HCn.out.1 hc)
        have hc' : decide (cc < 0) = true := decide_eq_true hc
        clear HCn HD HBW
        rw [hc']
        go_wp2
        go_roundw
        case rel => exact ⟨lo, h, rfl, rfl, hlo, hl1, by omega, HD2.out, HC1.out, Or.inr ⟨y, HY.out, hlt2.out⟩⟩
        case measure => simp [ivl] <;> omega
      · have hlt2 : Hid (y.id ≤ v.id) := Lib.hid (by have := HCn.out; omega)
        have hc' : decide (cc < 0) = false := decide_eq_false hc
        clear HCn HD HBW
        rw [hc']
        go_wp2
        go_roundw
        case rel => exact ⟨h + 1, hi, by go_num, rfl, by omega, by omega, hhi, HD2.out, Or.inr ⟨y, by rw [show h + 1 - a - 1 = h - a by omega]; exact HY.out, hlt2.out⟩, HC2.out⟩
        case measure => simp [ivl] <;> omega
    · obtain rfl : hi = lo := by omega
      have hli : ¬ (hi : Int) < (hi : Int) := by omega
      obtain ⟨t, ht⟩ : ∃ t, t = hi - a := ⟨_, rfl⟩
      rw [← ht] at HC1 HC2
      have HF := Lib.hid (last_of HU.out (by omega) HC1.out HC2.out)
      have ht1 : a + t ≤ hi := by omega
      have ht2 : hi ≤ a + t := by omega
      clear ht HC1 HC2 HU
      go_wp2
      go_loopw [17] (fun v17 wr => ∃ j : Nat, v17 = .int .i64 ((a + j : Nat) : Int) ∧ t ≤ j ∧ j ≤ U.length ∧ DR w 92 g wr (insZ P U v Q j)) (fun v17 _ => (ivl v17).toNat)
      case atStart => exact ⟨U.length, by congr 1; omega, by omega, Nat.le_refl _, HD.out⟩
      case round =>
        clear HD
        obtain ⟨j, rfl, hj, hj2, hd⟩ := hrel
        have HD := Lib.hid hd
        clear hd
        obtain ⟨k, hk⟩ : ∃ k, k = a + j := ⟨_, rfl⟩
        rw [← hk]
        by_cases hlt : t < j
        · obtain ⟨i, rfl⟩ : ∃ i, j = i + 1 := ⟨j - 1, by omega⟩
          obtain ⟨y, hy⟩ : ∃ y, U[i]? = some y := ⟨_, List.getElem?_eq_getElem (by omega)⟩
          obtain ⟨hq, hs⟩ := HAn.out _ _ hy
          have hp := HAu.out (i + 1) (by omega)
          obtain ⟨Z, hZ⟩ : ∃ Z, Z = insZ P U v Q (i + 1) := ⟨_, rfl⟩
          have hZl : Z.length = n := by rw [hZ]; exact HLn.out (i + 1) (by omega)
          rw [← hZ] at hs hp hq HD
          rw [show a + i + 1 = k by omega] at hs
          rw [← hk] at hp
          obtain ⟨q, hqk⟩ : ∃ q, q = a + i := ⟨_, rfl⟩
          rw [← hqk] at hq hs
          have HRp := Lib.hid (HD.out.1.len_big hp)
          have HRq := Lib.hid (HD.out.1.len_big hq)
          have HN : Hid (∀ W', W' = ((wr.drew.setCells g (k * 12) (cRc y)).setCells g (q * 12) (cRc v)) → DR w 92 g W' ((Z.set k y).set q v)) := Lib.hid (fun W' e => by
            rw [e]
            exact HD.out.swap (by rw [hZl]; omega) (by rw [hZl]; omega) v y)
          rw [hs] at HN
          have hw1 : IntKind.i64.wrap ((k : Int) - 1) = (q : Int) := by rw [show (k : Int) - 1 = (q : Int) by omega]; exact IntWalk.i64_in _ (by omega)
          have p0 : (0 : Int) ≤ (k : Int) := by omega
          have p1 : (k : Int) < (n : Int) := by omega
          have q0 : (0 : Int) ≤ (q : Int) := by omega
          have q1 : (q : Int) < (n : Int) := by omega
          have hli2 : (hi : Int) < (k : Int) := by omega
          have HK := Lib.hid hk
          have HQ := Lib.hid hqk
          clear hk hs hp hq hy hZ hZl hqk HD
          go_upto_region 23 with fail
          refine swap_syB (p := k) (q := q) (Xp := cRc v) (Xq := cRc y) (fun _ _ d _ _ h => by cases d <;> exact h) hw1 p0 p1 q0 q1 rfl rfl (rc_all _) (rc_all _) HRp.out.1 HRq.out.1 HRp.out.2 HRq.out.2 ?_
          intro W hW
          have HD2 := Lib.hid (HN.out W hW)
          clear hW HN HRp HRq
          go_wp2
          go_roundw
          case rel => exact ⟨i, by have := HK.out; have := HQ.out; go_num, by omega, by omega, HD2.out⟩
          case measure => have := HK.out; have := HQ.out; simp [ivl] <;> omega
        · obtain rfl : j = t := by omega
          have hli2 : ¬ (hi : Int) < (k : Int) := by omega
          clear hk
          go_wp2
          (try simp only [Exit.inBlock, Exit.then])
          refine bodyPost_ret (results_none rfl _ _ _) rfl ?_
          exact ⟨rfl, U.take j ++ v :: U.drop j, by simp only [List.length_append, List.length_take, List.length_cons, List.length_drop]; omega, HF.out.2, HF.out.1, by have q := HD.out; unfold insZ at q; simpa only [List.append_assoc, List.cons_append] using q⟩
end Go.Proofs.YthhfcedhbfandaaGreat
