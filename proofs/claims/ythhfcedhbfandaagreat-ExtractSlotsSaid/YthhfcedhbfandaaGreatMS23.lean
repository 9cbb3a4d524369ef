/-
  6 texts in one file, each with its own heading.
-/
import Derived.Test.YthhfcedhbfandaaGreatMS21
import Derived.Test.YthhfcedhbfandaaGreatMS22
import Derived.BigQuiet
/-
  What the library's sort does to a list: two ranges changed about, one that goes past others, rows turned round.
-/
namespace Go.Proofs.YthhfcedhbfandaaGreat
open Go.RowKit

section
variable {α : Type}
def insZ (P S : List α) (v : α) (Q : List α) (j : Nat) : List α := P ++ (S.take j ++ v :: S.drop j) ++ Q
theorem insz_len {P S Q : List α} {v : α} {j : Nat} (hj : j ≤ S.length) : (insZ P S v Q j).length = P.length + S.length + 1 + Q.length := by
  unfold insZ
  simp only [List.length_append, List.length_take, List.length_cons, List.length_drop]
  omega
theorem insz_at {P S Q : List α} {v : α} {j : Nat} (hj : j ≤ S.length) : (insZ P S v Q j)[P.length + j]? = some v := by
  have e : insZ P S v Q j = (P ++ S.take j) ++ v :: (S.drop j ++ Q) := by unfold insZ; simp
  rw [e, show P.length + j = (P ++ S.take j).length by rw [List.length_append, List.length_take]; omega]
  exact at_mid _ _ _
theorem insz_pieces {P S Q : List α} {v u : α} {j : Nat} (hu : S[j]? = some u) : insZ P S v Q (j + 1) = (P ++ S.take j) ++ u :: ([] ++ v :: (S.drop (j + 1) ++ Q)) ∧ insZ P S v Q j = (P ++ S.take j) ++ v :: ([] ++ u :: (S.drop (j + 1) ++ Q)) ∧ (P ++ S.take j).length = P.length + j := by
  obtain ⟨hj, e⟩ := List.getElem?_eq_some_iff.1 hu
  refine ⟨?_, ?_, by rw [List.length_append, List.length_take]; omega⟩
  · unfold insZ; rw [List.take_add_one, hu]; simp
  · unfold insZ; rw [List.drop_eq_getElem_cons hj, e]; simp
theorem insz_prev {P S Q : List α} {v u : α} {j : Nat} (hu : S[j]? = some u) : (insZ P S v Q (j + 1))[P.length + j]? = some u := by
  obtain ⟨e, _, l⟩ := insz_pieces (P := P) (Q := Q) (v := v) hu
  rw [e, ← l]; exact at_mid _ _ _
theorem insz_down {P S Q : List α} {v u : α} {j : Nat} (hu : S[j]? = some u) : ((insZ P S v Q (j + 1)).set (P.length + (j + 1)) u).set (P.length + j) v = insZ P S v Q j := by
  obtain ⟨e, e', l⟩ := insz_pieces (P := P) (Q := Q) (v := v) hu
  have := swap_at' (P ++ S.take j) u [] v (S.drop (j + 1) ++ Q)
  rw [e, e', show P.length + (j + 1) = (P ++ S.take j).length + 1 + ([] : List α).length by rw [l]; simp; omega, ← l]
  exact this
variable {key : α → Int}
theorem ins_asc {S : List α} {v : α} {j : Nat} (hS : Asc key S) (h1 : ∀ r ∈ S.take j, key r ≤ key v) (h2 : ∀ r ∈ S.drop j, key v ≤ key r) : Asc key (S.take j ++ v :: S.drop j) := by
  have hS' : Asc key (S.take j ++ S.drop j) := by rw [List.take_append_drop]; exact hS
  obtain ⟨a1, a2, a3⟩ := List.pairwise_append.1 hS'
  refine List.pairwise_append.2 ⟨a1, List.pairwise_cons.2 ⟨h2, a2⟩, fun a ha b hb => ?_⟩
  rcases List.mem_cons.1 hb with rfl | hb
  · exact h1 a ha
  · exact a3 a ha b hb
theorem ins_fil_back {S : List α} {v : α} {j : Nat} (h2 : ∀ r ∈ S.drop j, key v < key r) : Fil key (S ++ [v]) (S.take j ++ v :: S.drop j) := by
  have e : S ++ [v] = S.take j ++ (S.drop j ++ [v]) := by rw [← List.append_assoc, List.take_append_drop]
  rw [e]
  refine (Fil.refl _).app (fil_cross fun a ha b hb => ?_)
  have := h2 a ha
  rw [List.mem_singleton.1 hb]
  omega
theorem asc_take_le {S : List α} (hS : Asc key S) {j : Nat} {u : α} (hu : S[j]? = some u) : ∀ r ∈ S.take (j + 1), key r ≤ key u := fun r hr => by
  obtain ⟨i, hi⟩ := List.mem_iff_getElem?.1 hr
  have hij : i < j + 1 := by
    obtain ⟨h, _⟩ := List.getElem?_eq_some_iff.1 hi
    rw [List.length_take] at h; omega
  rw [List.getElem?_take, if_pos hij] at hi
  exact asc_at hS (by omega) hi hu
theorem asc_drop_le {S : List α} (hS : Asc key S) {j : Nat} {u : α} (hu : S[j]? = some u) : ∀ r ∈ S.drop j, key u ≤ key r := fun r hr => by
  obtain ⟨i, hi⟩ := List.mem_iff_getElem?.1 hr
  rw [List.getElem?_drop] at hi
  exact asc_at hS (by omega) hu hi
def RevTo (X : List α) (i : Nat) (Y : List α) : Prop := Y.length = X.length ∧ ∀ p, p < X.length → Y[p]? = if p < i ∨ X.length ≤ p + i then X[X.length - 1 - p]? else X[p]?
theorem rev_zero (X : List α) : RevTo X 0 X := ⟨rfl, fun p hp => by rw [if_neg (by omega)]⟩
theorem rev_step {X Y : List α} {i j : Nat} {x y : α} (h : RevTo X i Y) (hj : j + i + 1 = X.length) (hij : i < j) (hx : Y[i]? = some x) (hy : Y[j]? = some y) : RevTo X (i + 1) ((Y.set i y).set j x) := by
  have h1 := h.2 i (by omega)
  have h2 := h.2 j (by omega)
  rw [if_neg (by omega)] at h1 h2
  refine ⟨by simp [h.1], fun p hp => ?_⟩
  rw [List.getElem?_set, List.getElem?_set]
  by_cases e1 : j = p
  · subst e1
    rw [if_pos rfl, if_pos (by simp [h.1]; omega), if_pos (by omega), show X.length - 1 - j = i by omega, ← h1, hx]
  · rw [if_neg e1]
    by_cases e2 : i = p
    · subst e2
      rw [if_pos rfl, if_pos (by rw [h.1]; omega), if_pos (by omega), show X.length - 1 - i = j by omega, ← h2, hy]
    · rw [if_neg e2, h.2 p hp]
      by_cases e3 : p < i ∨ X.length ≤ p + i
      · rw [if_pos e3, if_pos (by omega)]
      · rw [if_neg e3, if_neg (by omega)]
theorem rev_end {X Y : List α} {i : Nat} (h : RevTo X i Y) (hi : X.length ≤ 2 * i + 1) : Y = X.reverse := by
  refine List.ext_getElem? fun p => ?_
  by_cases hp : p < X.length
  · rw [List.getElem?_reverse hp, h.2 p hp]
    by_cases e : p < i ∨ X.length ≤ p + i
    · rw [if_pos e]
    · rw [if_neg e]; congr 1; omega
  · rw [List.getElem?_eq_none (by rw [h.1]; omega), List.getElem?_eq_none (by simp; omega)]
end
theorem MR.len_big {w : World} {t : TypeId} {g : Nat} {X : List Rc} (h : MR 12 cRc t w g X) : ∀ {i : Nat} {x : Rc}, X[i]? = some x → w.drew.rangeAt g (i * 12) (cRc x) ∧ w.drew.there g (i * 12) 12 := fun hi => by
  have h' : MR 12 cRc t w.drew g X := h.keep (bdrew (Below.refl _ _))
  exact ⟨h'.range cRc_len hi, h'.there (List.getElem?_eq_some_iff.1 hi).1⟩
theorem rc_all (x : Rc) : (cRc x).toArray.all (·.oneCell') = true := all_oneCell_toArray (cRc_one x)
set_option maxHeartbeats 4000000 in
set_option maxRecDepth 100000 in
theorem rev_any (g n cap : Nat) (X : List Rc) (w : World) (hX : MR 12 cRc 92 w g X) (hn : X.length = n) (hbig : n ≤ 1000000000) :
    Calls Tryz.prog 220 #[.slice (some ⟨g, 0, none⟩) n cap] w fun e w' => e = .returned (.tuple #[]) ∧ DR w 92 g w' X.reverse := by
  have H0 : Hid (DR w 92 g w X ∧ RevTo X 0 X) := Lib.hid ⟨DR.start hX, rev_zero X⟩
  have HLn := Lib.hid hn
  clear hX hn
  go_enter Tryz.func220, Tryz.ntmps220
  go_wp2
  go_loopw [2, 3] (fun i j wr => ∃ (t : Nat) (Y : List Rc), i = .int .i64 t ∧ j = .int .i64 ((n : Int) - 1 - (t : Int)) ∧ 2 * t ≤ n + 1 ∧ DR w 92 g wr Y ∧ RevTo X t Y) (fun i _ _ => n + 1 - (ivl i).toNat)
  case atStart => exact ⟨0, X, rfl, by go_num, by omega, H0.out.1, H0.out.2⟩
  case round =>
    clear H0
    obtain ⟨t, Y, rfl, rfl, ht, hd, hr⟩ := hrel
    have HD := Lib.hid hd
    have HRv := Lib.hid hr
    clear hd hr
    by_cases hlt : (t : Int) < (n : Int) - 1 - (t : Int)
    · have hl : Y.length = n := HRv.out.1.trans HLn.out
      obtain ⟨j, hj⟩ : ∃ j : Nat, j + t + 1 = n := ⟨n - 1 - t, by omega⟩
      have ej : (n : Int) - 1 - (t : Int) = (j : Int) := by omega
      rw [ej] at hlt ⊢
      have hx : Y[t]? = some (Y[t]'(by omega)) := List.getElem?_eq_getElem (by omega)
      have hy : Y[j]? = some (Y[j]'(by omega)) := List.getElem?_eq_getElem (by omega)
      obtain ⟨x, ex⟩ : ∃ x, x = Y[t]'(by omega) := ⟨_, rfl⟩
      obtain ⟨y, ey⟩ : ∃ y, y = Y[j]'(by omega) := ⟨_, rfl⟩
      rw [← ex] at hx
      rw [← ey] at hy
      have HR := Lib.hid (HD.out.1.len_big hx)
      have HR' := Lib.hid (HD.out.1.len_big hy)
      have HN : Hid (∀ W, W = ((wr.drew.setCells g (t * 12) (cRc y)).setCells g (j * 12) (cRc x)) → DR w 92 g W ((Y.set t y).set j x)) := Lib.hid (fun W e => by
        rw [e]
        exact HD.out.swap (by omega) (by omega) x y)
      have HRv2 := Lib.hid (rev_step HRv.out (by rw [HLn.out]; exact hj) (by omega) hx hy)
      have p0 : (0 : Int) ≤ (t : Int) := by omega
      have p1 : (t : Int) < (n : Int) := by omega
      have q0 : (0 : Int) ≤ (j : Int) := by omega
      have q1 : (j : Int) < (n : Int) := by omega
      have HJ := Lib.hid hj
      have Hej := Lib.hid ej
      clear hx hy HD ex ey hl hj ej
      go_upto_region 3 with fail
      refine swap_rev (p := t) (q := j) (Xp := cRc x) (Xq := cRc y) (fun _ _ d _ _ h => by cases d <;> exact h) p0 p1 q0 q1 rfl rfl (rc_all _) (rc_all _) HR.out.1 HR'.out.1 HR.out.2 HR'.out.2 ?_
      intro W hW
      have HD2 := Lib.hid (HN.out W hW)
      clear hW HN HR HR'
      go_wp2
      go_roundw
      case rel => exact ⟨t + 1, _, by go_num, by have := HJ.out; go_num, by have := HJ.out; omega, HD2.out, HRv2.out⟩
      case measure => simp [ivl] <;> omega
    · have HEq := Lib.hid (rev_end HRv.out (by rw [HLn.out]; omega))
      go_wp2
      go_end0
      exact ⟨rfl, by rw [← HEq.out]; exact HD.out⟩
theorem AscIn.less {α : Type} {key : α → Int} {X : List α} {lo hi lo' hi' : Nat} (h : AscIn key X lo hi) (h1 : lo ≤ lo') (h2 : hi' ≤ hi) : AscIn key X lo' hi' := fun i j a b q1 q2 q3 ha hb => h i j a b (by omega) q2 (by omega) ha hb
structure InsAt (X : List Rc) (a i j : Nat) (P S : List Rc) (v : Rc) (Q Z : List Rc) : Prop where
  x : X = insZ P S v Q S.length
  z : Z = insZ P S v Q (j - a)
  lp : P.length = a
  ls : S.length = i - a
  aj : a ≤ j
  ji : j ≤ i
  asc : Asc Rc.id S
  above : ∀ r ∈ S.drop (j - a), v.id < r.id
theorem insAt_start {X : List Rc} {a i : Nat} (hai : a ≤ i) (hi : i < X.length) (h : AscIn Rc.id X a i) : ∃ P S v Q, InsAt X a i i P S v Q X := by
  obtain ⟨e, l1, l2⟩ := three (X := X) hai (by omega)
  have ed : X.drop i = X[i] :: X.drop (i + 1) := List.drop_eq_getElem_cons hi
  rw [ed] at e
  refine ⟨X.take a, (X.drop a).take (i - a), X[i], X.drop (i + 1), ?_⟩
  have ez : X = insZ (X.take a) ((X.drop a).take (i - a)) X[i] (X.drop (i + 1)) ((X.drop a).take (i - a)).length := by
    unfold insZ
    rw [List.take_length, List.drop_length]
    rw [List.append_assoc, List.append_assoc, List.singleton_append, ← List.append_assoc]
    exact e
  exact ⟨ez, by have q := ez; rw [l2] at q; exact q, l1, l2, hai, Nat.le_refl _, h.out, fun r hr => by rw [List.drop_of_length_le (by omega)] at hr; cases hr⟩
theorem InsAt.at_ {X : List Rc} {a i j : Nat} {P S : List Rc} {v : Rc} {Q Z : List Rc} (h : InsAt X a i j P S v Q Z) : Z[j]? = some v := by
  have := insz_at (P := P) (Q := Q) (v := v) (S := S) (j := j - a) (by rw [h.ls]; have := h.ji; omega)
  rw [h.z, show j = P.length + (j - a) by rw [h.lp]; have := h.aj; omega, show P.length + (j - a) - a = j - a by rw [h.lp]; omega]
  exact this
theorem InsAt.prev {X : List Rc} {a i j : Nat} {P S : List Rc} {v : Rc} {Q Z : List Rc} (h : InsAt X a i (j + 1) P S v Q Z) (hj : a ≤ j) : ∃ u, Z[j]? = some u ∧ S[j - a]? = some u := by
  have hs : j - a < S.length := by rw [h.ls]; have := h.ji; omega
  have e : S[j - a]? = some S[j - a] := List.getElem?_eq_getElem hs
  refine ⟨_, ?_, e⟩
  have := insz_prev (P := P) (Q := Q) (v := v) e
  rw [h.z, show j + 1 - a = j - a + 1 by omega]
  rw [h.lp, show a + (j - a) = j by omega] at this
  exact this
theorem InsAt.down {X : List Rc} {a i j : Nat} {P S : List Rc} {v u : Rc} {Q Z : List Rc} (h : InsAt X a i (j + 1) P S v Q Z) (hj : a ≤ j) (hu : S[j - a]? = some u) (hlt : v.id < u.id) : InsAt X a i j P S v Q ((Z.set (j + 1) u).set j v) := by
  refine ⟨h.x, ?_, h.lp, h.ls, hj, by have := h.ji; omega, h.asc, fun r hr => ?_⟩
  · have := insz_down (P := P) (Q := Q) (v := v) hu
    rw [h.lp, show a + (j - a + 1) = j + 1 by omega, show a + (j - a) = j by omega, show j - a + 1 = j + 1 - a by omega, ← h.z] at this
    exact this
  · have := asc_drop_le h.asc hu r hr
    omega
theorem InsAt.fin {X : List Rc} {a i j : Nat} {P S : List Rc} {v : Rc} {Q Z : List Rc} (h : InsAt X a i j P S v Q Z) (hs : ∀ r ∈ S.take (j - a), r.id ≤ v.id) : SStep Rc.id X Z a (i + 1) ∧ AscIn Rc.id Z a (i + 1) := by
  have hA : Asc Rc.id (S.take (j - a) ++ v :: S.drop (j - a)) := ins_asc h.asc hs (fun r hr => Int.le_of_lt (h.above r hr))
  have hF : Fil Rc.id (S ++ [v]) (S.take (j - a) ++ v :: S.drop (j - a)) := ins_fil_back h.above
  have hl : (S.take (j - a) ++ v :: S.drop (j - a)).length = (S ++ [v]).length := by
    simp only [List.length_append, List.length_take, List.length_cons, List.length_drop, List.length_nil]; omega
  have e1 : P.length + (S ++ [v]).length = i + 1 := by rw [h.lp, List.length_append, h.ls]; simp; have := h.aj; have := h.ji; omega
  have ex : X = P ++ (S ++ [v]) ++ Q := by rw [h.x]; unfold insZ; rw [List.take_length, List.drop_length]
  have hs1 := SStep.mid (key := Rc.id) (P := P) (Q := Q) hl hF
  have hs2 := AscIn.mid (key := Rc.id) (P := P) (Q := Q) hA
  rw [e1, h.lp, ← ex] at hs1
  rw [hl, e1, h.lp] at hs2
  rw [h.z]
  exact ⟨hs1, hs2⟩
theorem rc_size (x : Rc) : (Tryz.prog.info? 92).map (·.size) = some (cRc x).length := by
  rw [cRc_len]; kernel_rfl
set_option maxHeartbeats 8000000 in
set_option maxRecDepth 100000 in
theorem ins_any (g n cap a b : Nat) (X : List Rc) (w : World) (hX : MR 12 cRc 92 w g X) (hn : X.length = n) (hbig : n ≤ 1000000000) (hab : a ≤ b) (hb : b ≤ n) :
    Calls Tryz.prog 293 #[.slice (some ⟨g, 0, none⟩) n cap, .int .i64 a, .int .i64 b, .func (.func 222) #[] #[]] w fun e w' => e = .returned (.tuple #[]) ∧ ∃ Y, DR w 92 g w' Y ∧ SStep Rc.id X Y a b ∧ AscIn Rc.id Y a b := by
  have H0 : Hid (DR w 92 g w X) := Lib.hid (DR.start hX)
  have HLn := Lib.hid hn
  have hE := enters_by
  unfold Enters at hE
  clear hX hn
  go_enter Tryz.func293, Tryz.ntmps293
  go_wp2
  go_loopw [8, 9] (fun v8 v9 wr => ∃ (i : Nat) (Y : List Rc), v8 = .int .i64 i ∧ a + 1 ≤ i ∧ (i ≤ b ∨ i = a + 1) ∧ DR w 92 g wr Y ∧ SStep Rc.id X Y a b ∧ AscIn Rc.id Y a i) (fun v8 _ _ => b + 1 - (ivl v8).toNat)
  case atStart => exact ⟨a + 1, X, by go_num, Nat.le_refl _, Or.inr rfl, H0.out, SStep.refl _ _ _, AscIn.one _ (by omega)⟩
  case round =>
    clear H0
    obtain ⟨i, Y, rfl, hi1, hi2, hd, hs, ha⟩ := hrel
    have HD := Lib.hid hd
    have HSs := Lib.hid hs
    have HA := Lib.hid ha
    clear hd hs ha
    by_cases hlt : i < b
    · have hl : Y.length = n := HSs.out.len.trans HLn.out
      obtain ⟨P, S, v, Q, hia⟩ := insAt_start (X := Y) (a := a) (i := i) (by omega) (by omega) HA.out
      have HIA := Lib.hid hia
      have HL := Lib.hid hl
      clear hia hl HA
      have i1 : (i : Int) < (b : Int) := by omega
      go_wp2
      go_loopw [9] (fun v9 wr => ∃ (j : Nat) (Z : List Rc), v9 = .int .i64 j ∧ a ≤ j ∧ j ≤ i ∧ DR w 92 g wr Z ∧ InsAt Y a i j P S v Q Z) (fun v9 _ => (ivl v9).toNat)
      case atStart => exact ⟨i, Y, rfl, by omega, Nat.le_refl _, HD.out, HIA.out⟩
      case round =>
        clear HD HIA
        obtain ⟨j, Z, rfl, haj, hji, hd, hia⟩ := hrel
        have HD := Lib.hid hd
        have HIA := Lib.hid hia
        clear hd hia
        by_cases hj : a < j
        · obtain ⟨q, rfl⟩ : ∃ q, j = q + 1 := ⟨j - 1, by omega⟩
          obtain ⟨u, hzu, hsu⟩ := HIA.out.prev (by omega)
          have hzv := HIA.out.at_
          have hZl : Z.length = n := by rw [HIA.out.z, insz_len (by rw [HIA.out.ls]; omega), ← HL.out, HIA.out.x, insz_len (Nat.le_refl _)]
          have HR := Lib.hid (HD.out.1.len_big hzv)
          have HR' := Lib.hid (HD.out.1.len_big hzu)
          have HS : Hid (∀ W, Below wr.heap.size wr W → W.rangeAt g ((q + 1) * 12) (cRc v) ∧ W.rangeAt g (q * 12) (cRc u)) := Lib.hid (fun W hb => ⟨(HD.out.below hb).1.range cRc_len hzv, (HD.out.below hb).1.range cRc_len hzu⟩)
          have HCm : Hid (∀ W, Calls Tryz.prog 222 #[.agg (cRc v).toArray, .agg (cRc u).toArray] W fun e w' => e = .returned (.int .i64 (cmpI v.id u.id)) ∧ Below W.heap.size W w') := Lib.hid (fun W => by_any v u W)
          have HSz : Hid (((Tryz.prog.info? 92).map (·.size) = some (cRc v).length) ∧ ((Tryz.prog.info? 92).map (·.size) = some (cRc u).length)) := Lib.hid ⟨rc_size v, rc_size u⟩
          have HN : Hid (∀ W W', Below wr.heap.size wr W → W' = ((W.drew.setCells g ((q + 1) * 12) (cRc u)).setCells g (q * 12) (cRc v)) → DR w 92 g W' ((Z.set (q + 1) u).set q v)) := Lib.hid (fun W W' hb e => by
            rw [e]
            exact (HD.out.below hb).swap (by omega) (by omega) v u)
          have HDb : Hid (∀ W, Below wr.heap.size wr W → DR w 92 g W Z) := Lib.hid (fun W hb => HD.out.below hb)
          have HRW : Hid (∀ W, Below wr.heap.size wr W → (W.drew.rangeAt g ((q + 1) * 12) (cRc v) ∧ W.drew.there g ((q + 1) * 12) 12) ∧ (W.drew.rangeAt g (q * 12) (cRc u) ∧ W.drew.there g (q * 12) 12)) := Lib.hid (fun W hb => ⟨(HD.out.below hb).1.len_big hzv, (HD.out.below hb).1.len_big hzu⟩)
          have HStop : Hid (u.id ≤ v.id → SStep Rc.id Y Z a (i + 1) ∧ AscIn Rc.id Z a (i + 1)) := Lib.hid (fun hle => HIA.out.fin (fun r hr => by
            have e : q + 1 - a = q - a + 1 := by omega
            rw [e] at hr
            have := asc_take_le HIA.out.asc hsu r hr
            omega))
          have HDown : Hid (v.id < u.id → InsAt Y a i q P S v Q ((Z.set (q + 1) u).set q v)) := Lib.hid (fun h => HIA.out.down (by omega) hsu h)
          have HCn : Hid (cmpI v.id u.id < 0 ↔ v.id < u.id) := Lib.hid cmp_neg
          obtain ⟨XP, hXP⟩ : ∃ XP, XP = cRc v := ⟨_, rfl⟩
          obtain ⟨XQ, hXQ⟩ : ∃ XQ, XQ = cRc u := ⟨_, rfl⟩
          have HL1 : Hid (XP.length = 12 ∧ XQ.length = 12 ∧ XP.toArray.all (·.oneCell') = true ∧ XQ.toArray.all (·.oneCell') = true) := Lib.hid (by rw [hXP, hXQ]; exact ⟨rfl, rfl, rc_all _, rc_all _⟩)
          rw [← hXP, ← hXQ] at HCm HSz HN HRW HS
          obtain ⟨cc, hcc⟩ : ∃ cc, cc = cmpI v.id u.id := ⟨_, rfl⟩
          rw [← hcc] at HCm HCn
          clear hXP hXQ hzu hsu hzv hZl HR HR' HD HIA hcc
          have hw1 : IntKind.i64.wrap (((q + 1 : Nat) : Int) - 1) = (q : Int) := by rw [show ((q + 1 : Nat) : Int) - 1 = (q : Int) by omega]; exact IntWalk.i64_in _ (by omega)
          obtain ⟨p, hp⟩ : ∃ p, p = q + 1 := ⟨_, rfl⟩
          rw [← hp] at hw1 hj hji HS HN HRW HDown ⊢
          have p0 : (0 : Int) ≤ (p : Int) := by omega
          have p1 : (p : Int) < (n : Int) := by omega
          have q0 : (0 : Int) ≤ (q : Int) := by omega
          have q1 : (q : Int) < (n : Int) := by omega
          have pa : (a : Int) < (p : Int) := by omega
          have HP := Lib.hid hp
          clear hp
          go_wp2_with fail
          refine wp_region_held_drew (S := fun w' => w'.rangeAt g (p * 12) XP ∧ w'.rangeAt g (q * 12) XQ) (by kernel_rfl) (HS.out _ (bdrew (Below.refl _ _))) (fun hHeld => ?_)
          refine tk 0 hHeld ?_
          refine tk 1 hHeld ?_
          refine tk 2 hHeld ?_
          refine tk 3 hHeld ?_
          refine tk 4 hHeld ?_
          refine tk 5 hHeld ?_
          refine tk 6 hHeld ?_
          refine tk 7 hHeld ?_
          refine tkl 8 rfl (yieldsIf_load_mid (by rfl) _ _ rfl _ _ rfl _ _ (fun _ h => h.1) Tryz.underlying92 rfl HSz.out.1) hHeld ?_
          refine tk 9 hHeld ?_
          refine tk 10 hHeld ?_
          refine tk 11 hHeld ?_
          refine tk 12 hHeld ?_
          refine tkl 13 rfl (yieldsIf_load_mid (by rfl) _ _ rfl _ _ rfl _ _ (fun _ h => h.2) Tryz.underlying92 rfl HSz.out.2) hHeld ?_
          refine rd 14 (fun K hK => ?_)
          go_simp
          refine (HCm.out _).mono ?_
          rintro e w1 ⟨rfl, b1⟩
          go_wp2_with fail
          refine hK.out _ _ (HS.out _ (bthen (bdrew (Below.refl _ _)) b1)) (fun hHeld => ?_)
          clear hK K
          refine tk 15 hHeld ?_
          refine tk 16 hHeld ?_
          refine wpAnyH_done (by kernel_rfl) ?_ _
          clear hHeld
          refine fin (fun W => Below wr.heap.size wr W) (bthen (bdrew (Below.refl _ _)) b1) ?_
          clear b1 HS HCm
          rintro W hbW
          have HBW := Lib.hid hbW
          clear hbW
          by_cases hc : cc < 0
          · have hlt2 : v.id < u.id := HCn.out.1 hc
            have HRW2 := Lib.hid (HRW.out W HBW.out)
            have HN2 := Lib.hid (fun W' => HN.out W W' HBW.out)
            have HI2 := Lib.hid (HDown.out hlt2)
            clear HRW HN HDown HStop HDb hlt2
            go_upto_region 6 with fail
            refine swap_ins (p := p) (q := q) (Xp := XP) (Xq := XQ) (fun _ _ d _ _ h => by cases d <;> exact h) hw1 p0 p1 q0 q1 HL1.out.1 HL1.out.2.1 HL1.out.2.2.1 HL1.out.2.2.2 HRW2.out.1.1 HRW2.out.2.1 HRW2.out.1.2 HRW2.out.2.2 ?_
            intro W' hW
            have HD2 := Lib.hid (HN2.out W' hW)
            clear hW HN2 HRW2
            go_wp2
            go_roundw
            case rel => exact ⟨q, _, by go_num, by have := HP.out; omega, by have := HP.out; omega, HD2.out, HI2.out⟩
            case measure => have := HP.out; simp [ivl] <;> omega
          · have HSt := Lib.hid (HStop.out (by have := HCn.out; omega))
            have HD2 := Lib.hid (HDb.out W HBW.out)
            clear HRW HN HDown HStop HDb
            go_wp2
            go_roundw
            case rel => exact ⟨i + 1, Z, by go_num, by omega, by omega, HD2.out, HSs.out.trans (HSt.out.1.wide (Nat.le_refl _) (by omega)), HSt.out.2⟩
            case measure => simp [ivl] <;> omega
        · obtain rfl : j = a := by omega
          have HSt := Lib.hid (HIA.out.fin (fun r hr => by rw [Nat.sub_self] at hr; simp at hr))
          have pa : ¬ (j : Int) < (j : Int) := by omega
          go_wp2_with fail
          refine wp_region_held_drew (S := fun _ => True) (by kernel_rfl) (trivial) (fun hHeld => ?_)
          refine tk 0 hHeld ?_
          refine tk 1 hHeld ?_
          refine tk 2 hHeld ?_
          refine tk 3 hHeld ?_
          refine tks 4 hHeld ?_
          refine tks 5 hHeld ?_
          refine tks 6 hHeld ?_
          refine tks 7 hHeld ?_
          refine tks 8 hHeld ?_
          refine tks 9 hHeld ?_
          refine tks 10 hHeld ?_
          refine tks 11 hHeld ?_
          refine tks 12 hHeld ?_
          refine tks 13 hHeld ?_
          refine tks 14 hHeld ?_
          refine tks 15 hHeld ?_
          refine tk 16 hHeld ?_
          refine wpAnyH_done (by kernel_rfl) ?_ _
          clear hHeld
          refine fin (fun W => Below wr.heap.size wr W) (bdrew (Below.refl _ _)) ?_
          rintro W hbW
          have HD2 := Lib.hid (HD.out.below hbW)
          clear hbW HD
          go_wp2
          go_roundw
          case rel => exact ⟨i + 1, Z, by go_num, by omega, by omega, HD2.out, HSs.out.trans (HSt.out.1.wide (Nat.le_refl _) (by omega)), HSt.out.2⟩
          case measure => simp [ivl] <;> omega
    · have i1 : ¬ (i : Int) < (b : Int) := by omega
      go_wp2
      go_end0
      exact ⟨rfl, Y, HD.out, HSs.out, HA.out.less (Nat.le_refl _) (by omega)⟩
structure RotAt (T : List Rc) (m i j : Nat) (P A B Q : List Rc) : Prop where
  t : P ++ (B ++ A) ++ Q = T
  lp : P.length + i = m
  la : A.length = i
  lb : B.length = j
  i0 : 0 < i
  j0 : 0 < j
end Go.Proofs.YthhfcedhbfandaaGreat
