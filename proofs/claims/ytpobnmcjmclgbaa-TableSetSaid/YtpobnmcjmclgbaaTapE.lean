/-
  A table as it landed: which rows its columns hold; what Len, there and Find answer.
-/
import Derived.Test.YtpobnmcjmclgbaaTapD
import Derived.Deep.RegionHeld3
namespace Go.Proofs.Ytpobnmcjmclgbaa
open Go.RowKit

/-- has a set the kind of a column? -/
def hasC (s : Int) (i : Nat) : Bool := if i = 0 then true else if i = 1 then hasN s 0 else if i ≤ 3 then hasN s 1 else if i ≤ 6 then hasN s 2 else hasN s 3
/-- the rows that a column holds -/
def Rs (s : Int) (R : TR) (i : Nat) : TR := if hasC s i then R else []
theorem Rs0 (s : Int) (R : TR) : Rs s R 0 = R := rfl
theorem Rs_len (s : Int) (R : TR) (i : Nat) : (Rs s R i).length ≤ R.length := by
  unfold Rs
  split
  · exact Nat.le_refl _
  · simp
/-- the landed table -/
def TBl (w : World) (g : Nat) (L : Nat → Prop) (s : Int) (R : TR) : Prop := ∃ v, Tab w g s v (Rs s R) ∧ (∀ b, L b ↔ foot g v b) ∧ (0 ≤ s ∧ s ≤ 31) ∧ ∀ x ∈ R, fitsB s x.2 = true
theorem Fr.of {w w' : World} {L M : Nat → Prop} (h : Fr w w' L) (e : ∀ b, L b → M b) : Fr w w' M := ⟨h.1, h.2.1, h.2.2.1, h.2.2.2.1, fun b hb hn => h.2.2.2.2 b hb (fun c => hn (e b c))⟩

set_option maxHeartbeats 1000000 in
set_option maxRecDepth 100000 in
theorem tlen_any {g : Nat} {s : Int} {v : Nat → Value} {X : Nat → TR} {w : World} (h : Tab w g s v X) :
    Calls Try.prog 10 #[.pointer (some ⟨g, 0, none⟩)] w fun e w' => e = .returned (.int .i64 ((X 0).length : Nat)) ∧ w = w' := by
  have c1 : w.cell? ⟨g, 1, none⟩ = some (v 0) := (h.cell (j := 0) (by omega)).1
  have hg := h.blk.lt
  obtain ⟨a, cap, hv, hcap, hmax⟩ := (h.own 0 (by omega)).form
  rw [hv] at c1
  obtain ⟨n, hn⟩ : ∃ n, n = (X 0).length := ⟨_, rfl⟩
  rw [← hn] at c1 hcap ⊢
  clear hn hv h
  go_enter Try.func10, Try.ntmps10
  go_wp2
  go_ret
  exact ⟨rfl, rfl⟩

def thB (n : Nat) (row : Int) : Bool := decide (0 ≤ row) && decide (row < (n : Int))
set_option maxHeartbeats 1000000 in
set_option maxRecDepth 100000 in
theorem there_any {g : Nat} {s : Int} {v : Nat → Value} {X : Nat → TR} {w : World} (h : Tab w g s v X) (row : Int) {b : Bool} (hb : thB (X 0).length row = b) :
    Calls Try.prog 14 #[.pointer (some ⟨g, 0, none⟩), .int .i64 row] w fun e w' => e = .returned (.bool b) ∧ w = w' := by
  subst hb
  unfold thB
  have HT := Lib.hid h
  clear h
  by_cases h0 : 0 ≤ row
  · have g0 : decide (0 ≤ row) = true := by simpa using h0
    go_enter Try.func14, Try.ntmps14
    go_wp2_with fail
    refine (tlen_any HT.out).mono ?_
    rintro e w1 ⟨rfl, rfl⟩
    go_wp2
    go_ret
    exact ⟨by rw [g0]; rfl, rfl⟩
  · have g0 : decide (0 ≤ row) = false := by simpa using h0
    go_enter Try.func14, Try.ntmps14
    go_wp2
    go_ret
    exact ⟨rfl, rfl⟩

theorem find_no {X : TR} {id : Int} {k : Nat} (hl : X.length ≤ k) (h : ∀ j, j < k → (X.getD j d0).1 ≠ id) : findI X id = -1 := by
  unfold findI
  have : X.findIdx? (fun r => r.1 == id) = none := List.findIdx?_eq_none_iff.2 (fun x hx => by
    obtain ⟨j, hj, rfl⟩ := List.mem_iff_getElem.1 hx
    have := h j (by omega)
    simpa [List.getD, List.getElem?_eq_getElem hj] using this)
  rw [this]
theorem find_yes {X : TR} {id : Int} {k : Nat} (hl : k < X.length) (h : ∀ j, j < k → (X.getD j d0).1 ≠ id) (hk : (X.getD k d0).1 = id) : findI X id = (k : Int) := by
  unfold findI
  have : X.findIdx? (fun r => r.1 == id) = some k := by
    rw [List.findIdx?_eq_some_iff_getElem]
    refine ⟨hl, ?_, fun j hj => ?_⟩
    · simpa [List.getD, List.getElem?_eq_getElem hl] using hk
    · have := h j hj
      simpa [List.getD, List.getElem?_eq_getElem (show j < X.length by omega)] using this
  rw [this]
set_option maxHeartbeats 1000000 in
set_option maxRecDepth 100000 in
theorem index_any (v : Value) (X : TR) (id : Int) (w : World) (h : ColX w 30 1 cId v X) (hX : X.length ≤ 1000) :
    Calls Try.prog 17 #[v, .int .i64 id] w fun e w' => e = .returned (.int .i64 (findI X id)) ∧ w = w' := by
  obtain ⟨a, cap, rfl, hcap, hmax⟩ := h.form
  have HX := Lib.hid h
  obtain ⟨n, hn⟩ : ∃ n, n = X.length := ⟨_, rfl⟩
  rw [← hn] at hX hcap HX ⊢
  have HN := Lib.hid hn
  clear h hn
  go_enter Try.func17, Try.ntmps17
  go_wp2
  go_loopw [5, 8] (fun _ i wr => ∃ j : Nat, j ≤ n ∧ i = .int .i64 j ∧ (∀ q, q < j → (X.getD q d0).1 ≠ id) ∧ wr = w) (fun _ i _ => n - (intOf i).toNat)
  case atStart => exact ⟨0, by omega, rfl, fun q hq => by omega, rfl⟩
  case round =>
    obtain ⟨j, hj, rfl, hz, rfl⟩ := hrel
    have HZ := Lib.hid hz
    clear hz
    by_cases hlt : j < n
    · obtain ⟨g, cap', cur, hv, hbk, _⟩ := HX.out.open_ (by rw [← HN.out]; omega)
      injection hv with h1 h2 h3
      subst h1
      have c0 := range1 (ColX.range (c := cId) (k := 1) (fun _ => rfl) HX.out (getD_at (i := j) (by rw [← HN.out]; omega)))
      have hg := hbk.lt
      have j0 : (0 : Int) ≤ (j : Int) := by omega
      have j1 : (j : Int) < (n : Int) := by omega
      clear hbk h2 h3
      obtain ⟨y, hy⟩ : ∃ y, y = (X.getD j d0).1 := ⟨_, rfl⟩
      rw [← hy] at c0
      have HY := Lib.hid hy
      clear hy
      by_cases he : id = y
      · have he' : (id == y) = true := by simpa using he
        have HE := Lib.hid he
        clear he
        go_wp2
        go_ret
        exact ⟨by rw [find_yes (by rw [← HN.out]; exact hlt) HZ.out (by rw [← HY.out, HE.out])]; rfl, rfl⟩
      · have he' : (id == y) = false := by simpa using he
        have HE := Lib.hid he
        clear he
        go_wp2
        go_roundw
        case rel => exact ⟨j + 1, by omega, by go_num, fun q hq => by
          rcases Nat.lt_succ_iff_lt_or_eq.1 hq with c | c
          · exact HZ.out q c
          · rw [c, ← HY.out]; exact fun c => HE.out c.symm, by trivial⟩
        case measure => simp [intOf] <;> omega
    · obtain rfl : j = n := by omega
      go_wp2
      go_ret
      exact ⟨by rw [find_no (by rw [← HN.out]; exact Nat.le_refl _) HZ.out]; rfl, rfl⟩
set_option maxHeartbeats 1000000 in
set_option maxRecDepth 100000 in
theorem find_any {g : Nat} {s : Int} {v : Nat → Value} {X : Nat → TR} {w : World} (h : Tab w g s v X) (hX : (X 0).length ≤ 1000) (id : Int) :
    Calls Try.prog 8 #[.pointer (some ⟨g, 0, none⟩), .int .i64 id] w fun e w' => e = .returned (.int .i64 (findI (X 0) id)) ∧ w = w' := by
  have c1 : w.cell? ⟨g, 1, none⟩ = some (v 0) := (h.cell (j := 0) (by omega)).1
  have hg := h.blk.lt
  have HO := Lib.hid (h.own 0 (by omega))
  obtain ⟨u, hu⟩ : ∃ u, u = v 0 := ⟨_, rfl⟩
  rw [← hu] at c1 HO
  clear hu h
  go_enter Try.func8, Try.ntmps8
  go_wp2_with fail
  refine (index_any u (X 0) id w HO.out hX).mono ?_
  rintro e w1 ⟨rfl, rfl⟩
  go_wp2
  go_ret
  exact ⟨rfl, rfl⟩

end Go.Proofs.Ytpobnmcjmclgbaa
