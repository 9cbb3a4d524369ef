/-
  4 texts in one file, each with its own heading.
-/
import Derived.Test.YtdndafdninnjfaaGreatMFod
import Derived.Test.YtdndafdninnjfaaGreatMAff
/-
  A flow as plain data: nodes, who hangs on whom, no ring, what Put, Drop and Run make of it, by the document's own steps.
-/
namespace Go.Proofs.YtdndafdninnjfaaGreat
open Go.RowKit

/-- a node -/
structure Nd where
  id : Int
  par : Int
  pl : Nat → Int
  hid : Bool
instance : Inhabited Nd := ⟨⟨0, 0, fun _ => 0, false⟩⟩
/-- a state -/
structure Stt where
  id : Int
  wo : Nat → Int
  sh : Bool
instance : Inhabited Stt := ⟨⟨0, fun _ => 0, false⟩⟩
/-- the first of that name, and its place -/
def elF {α : Type} (f : α → Int) (L : List α) (x : Int) : Option α := L.find? (fun n => f n == x)
def ixF {α : Type} (f : α → Int) (L : List α) (x : Int) : Int := match L.findIdx? (fun n => f n == x) with | some i => (i : Int) | none => -1
def hangs (L : List Nd) (x : Int) : Int := match elF Nd.id L x with
  | none => -1
  | some n => if n.par < 0 ∨ (elF Nd.id L n.par).isNone = true then -1 else n.par
def ringI (L : List Nd) : Nat → Int → Int
  | 0, x => x
  | k + 1, x => if 0 ≤ x then ringI L k (hangs L x) else x
def ringB (L : List Nd) (x : Int) : Bool := decide (0 ≤ ringI L (L.length + 1) (hangs L x))
def withN (L : List Nd) (n : Nd) : List Nd := L.filter (fun m => m.id != n.id) ++ [n]
def withS (L l : List Nd) : List Nd := l.foldl withN L
def badN (n : Nd) : Bool := !okM n.pl || decide (n.id < 0)
/-- a flow's data -/
structure FD where
  L : List Nd
  dirty : List Int
  begun : Bool
  sts : List Stt
  steps : Nat
def FD0 : FD := ⟨[], [], false, [], 0⟩
def putFE (D : FD) (l : List Nd) : Int := if l.any badN then 1 else if (withS D.L l).any (fun n => ringB (withS D.L l) n.id) then 8 else 0
def putFD (D : FD) (l : List Nd) : FD := if putFE D l = 0 then { D with L := withS D.L l, dirty := D.dirty ++ l.map Nd.id } else D
def dropFB (D : FD) (x : Int) : Bool := (elF Nd.id D.L x).isSome
def dropFD (D : FD) (x : Int) : FD := if dropFB D x then { D with L := D.L.filter (fun m => m.id != x), dirty := D.dirty ++ (D.L.filter (fun n => hangs D.L n.id == x)).map Nd.id } else D
def namesN (L : List Nd) : List Int := sortI (L.map Nd.id)
def treesN (L : List Nd) : FT := L.filterMap (fun n => if 0 ≤ hangs L n.id then some (n.id, hangs L n.id) else none)
def dirtyN (D : FD) : List Int := if D.begun then D.dirty.filter (fun x => decide (x ∈ namesN D.L)) else namesN D.L
def touchN (D : FD) : List Int := undL (treesN D.L) (dirtyN D)
/-- of a row of nodes so far: states, the least name that fails, its error -/
structure Acc where
  out : List Stt
  least : Int
  e : Int
def failA (s : Acc) (x e : Int) : Acc := if s.least < 0 ∨ x < s.least then ⟨s.out, x, e⟩ else s
def allA (L : List Nd) (s : Acc) (x : Int) : Acc := match elF Nd.id L x with
  | none => s
  | some n => if hangs L n.id < 0 then ⟨s.out ++ [⟨n.id, n.pl, !n.hid⟩], s.least, s.e⟩ else match elF Stt.id s.out (hangs L n.id) with
    | none => s
    | some u => if 16 < (abv (treesN L) n.id).length + 1 then failA s n.id 7 else if prodE2 u.wo n.pl = 0 then ⟨s.out ++ [⟨n.id, prodM u.wo n.pl, u.sh && !n.hid⟩], s.least, s.e⟩ else failA s n.id (prodE2 u.wo n.pl)
def orderN (L : List Nd) : List Int := undL (treesN L) (namesN L)
def allN (L : List Nd) : Acc := (orderN L).foldl (allA L) ⟨[], -1, 0⟩
def runE (D : FD) : Int := (allN D.L).e
def runD (D : FD) : FD := { D with dirty := [], begun := decide (runE D = 0), sts := if runE D = 0 then (allN D.L).out else [], steps := D.steps + (touchN D).length }
/-- a node's state, if it has one -/
def stateN (D : FD) (x : Int) : Option Stt := if D.begun = true ∧ x ∉ touchN D ∧ (elF Nd.id D.L x).isSome = true then elF Stt.id D.sts x else none
/-! the place of a name -/
section
variable {α : Type} {f : α → Int} {L : List α} {x : Int} {n : α}
theorem ix_none (h : elF f L x = none) : ixF f L x = -1 := by
  unfold ixF
  have : L.findIdx? (fun n => f n == x) = none := by
    rw [List.findIdx?_eq_none_iff]
    intro n hn
    have := List.find?_eq_none.1 h n hn
    simpa using this
  rw [this]
theorem ix_some (h : elF f L x = some n) : ∃ k : Nat, ixF f L x = (k : Int) ∧ L[k]? = some n ∧ k < L.length ∧ f n = x := by
  unfold elF at h
  have hx := List.find?_some h
  cases hf : L.findIdx? (fun n => f n == x) with
  | none =>
    rw [List.findIdx?_eq_none_iff] at hf
    have := hf n (List.mem_of_find?_eq_some h)
    rw [this] at hx
    cases hx
  | some k =>
    obtain ⟨hlt, hyes, hmin⟩ := List.findIdx?_eq_some_iff_getElem.1 hf
    refine ⟨k, by unfold ixF; rw [hf], ?_, hlt, by simpa using hx⟩
    rw [List.find?_eq_some_iff_getElem] at h
    obtain ⟨_, i, hi, e, hno⟩ := h
    have : i = k := by
      rcases Nat.lt_trichotomy i k with c | c | c
      · have := hmin i c
        rw [e] at this
        exact absurd hx this
      · exact c
      · have := hno k c
        rw [hyes] at this
        cases this
    subst this
    rw [List.getElem?_eq_getElem hlt, e]
theorem ix_neg (f : α → Int) (L : List α) (x : Int) : decide (ixF f L x < 0) = (elF f L x).isNone := by
  cases h : elF f L x with
  | none => rw [ix_none h]; rfl
  | some n =>
    obtain ⟨k, e, _⟩ := ix_some h
    rw [e]
    simp
theorem ix_take_no {k : Nat} (h : ∀ m ∈ L.take k, f m ≠ x) (hn : L[k]? = some n) (hne : f n ≠ x) : ∀ m ∈ L.take (k + 1), f m ≠ x := fun m hm => by
  rw [List.take_add_one, hn] at hm
  rcases List.mem_append.1 hm with hm | hm
  · exact h m hm
  · have : m = n := by simpa using hm
    rw [this]; exact hne
theorem ix_yes {k : Nat} (h : ∀ m ∈ L.take k, f m ≠ x) (hn : L[k]? = some n) (he : f n = x) : ixF f L x = (k : Int) ∧ elF f L x = some n := by
  obtain ⟨hk, e⟩ := List.getElem?_eq_some_iff.1 hn
  have hb : ∀ j (hj : j < k), f (L[j]'(by omega)) ≠ x := fun j hj => h _ (List.mem_iff_getElem.2 ⟨j, by rw [List.length_take]; omega, by rw [List.getElem_take]⟩)
  have h1 : elF f L x = some n := by
    unfold elF
    rw [List.find?_eq_some_iff_getElem]
    exact ⟨by simpa using he, k, hk, e, fun j hj => by simpa using hb j hj⟩
  refine ⟨?_, h1⟩
  unfold ixF
  have : L.findIdx? (fun n => f n == x) = some k := by
    rw [List.findIdx?_eq_some_iff_getElem]
    exact ⟨hk, by rw [e]; simpa using he, fun j hj => by simpa using hb j hj⟩
  rw [this]
theorem ix_no (h : ∀ m ∈ L, f m ≠ x) : ixF f L x = -1 := ix_none (List.find?_eq_none.2 (fun m hm => by simpa using h m hm))
end
theorem hangs_none {L : List Nd} {x : Int} (h : elF Nd.id L x = none) : hangs L x = -1 := by
  unfold hangs
  rw [h]
theorem hangs_some {L : List Nd} {x : Int} {n : Nd} (h : elF Nd.id L x = some n) : hangs L x = if n.par < 0 ∨ (elF Nd.id L n.par).isNone = true then -1 else n.par := by
  unfold hangs
  rw [h]
end Go.Proofs.YtdndafdninnjfaaGreat
/-
  Rows of nodes and of states in memory; what the reference's at, find, Hangs and ring of layer 10 answer.
-/
namespace Go.Proofs.YtdndafdninnjfaaGreat
open Go.RowKit

def cNd (n : Nd) : List Value := [.int .i64 n.id, .int .i64 n.par, .int .i64 (n.pl 0), .int .i64 (n.pl 1), .int .i64 (n.pl 2), .int .i64 (n.pl 3), .int .i64 (n.pl 4), .int .i64 (n.pl 5), .int .i64 (n.pl 6), .int .i64 (n.pl 7), .int .i64 (n.pl 8), .int .i64 (n.pl 9), .int .i64 (n.pl 10), .int .i64 (n.pl 11), .bool n.hid]
def cSt (s : Stt) : List Value := [.int .i64 s.id, .int .i64 (s.wo 0), .int .i64 (s.wo 1), .int .i64 (s.wo 2), .int .i64 (s.wo 3), .int .i64 (s.wo 4), .int .i64 (s.wo 5), .int .i64 (s.wo 6), .int .i64 (s.wo 7), .int .i64 (s.wo 8), .int .i64 (s.wo 9), .int .i64 (s.wo 10), .int .i64 (s.wo 11), .bool s.sh]
theorem cNd_len (n : Nd) : (cNd n).length = 15 := rfl
theorem cSt_len (s : Stt) : (cSt s).length = 14 := rfl
/-- a slice that reads as rows of k cells -/
def RowX {α : Type} (k : Nat) (c : α → List Value) (w : World) (a : Option Addr) (n : Nat) (X : List α) : Prop := X.length = n ∧ n ≤ 9223372036854775807 ∧ (n = 0 ∨ ∃ b off, a = some ⟨b, off, none⟩ ∧ b < w.heap.size ∧ ∀ i x, X[i]? = some x → w.rangeAt b (off + i * k) (c x))
section
variable {α : Type} {k : Nat} {c : α → List Value} {w w' : World} {a : Option Addr} {n : Nat} {X : List α}
theorem RowX.keep (h : RowX k c w a n X) (hb : Below w.heap.size w w') : RowX k c w' a n X := ⟨h.1, h.2.1, h.2.2.imp id (fun ⟨b, o, e, hl, hr⟩ => ⟨b, o, e, Nat.lt_of_lt_of_le hl hb.size, fun i x hx => range_same (hr i x hx) (hb.block b hl)⟩)⟩
theorem RowX.at_ (h : RowX k c w a n X) {i : Nat} (hi : i < n) : ∃ b off x, a = some ⟨b, off, none⟩ ∧ b < w.heap.size ∧ X[i]? = some x ∧ w.rangeAt b (off + i * k) (c x) := by
  obtain ⟨h1, h2, h3⟩ := h
  rcases h3 with h3 | ⟨b, off, e, hb, hr⟩
  · omega
  · have hx : X[i]? = some (X[i]'(by omega)) := List.getElem?_eq_getElem (by omega)
    exact ⟨b, off, _, e, hb, hx, hr i _ hx⟩
end
abbrev NRow := RowX 15 cNd
abbrev SRow := RowX 14 cSt
set_option maxHeartbeats 2000000 in
set_option maxRecDepth 100000 in
theorem gat_any (a : Option Addr) (n cap : Nat) (L : List Nd) (x : Int) (w : World) (row : NRow w a n L) :
    Calls Tryz.prog 30 #[.slice a n cap, .int .i64 x] w fun e w' => e = .returned (.int .i64 (ixF Nd.id L x)) ∧ w = w' := by
  have hbig := row.2.1
  have HL := Lib.hid row.1
  have HRow := Lib.hid row
  clear row
  go_enter Tryz.func30, Tryz.ntmps30
  go_wp2
  go_loopw [5] (fun i wr => ∃ j : Nat, j ≤ n ∧ i = .int .i64 j ∧ (∀ m ∈ L.take j, m.id ≠ x) ∧ wr = w) (fun i _ => n - (ivl i).toNat)
  case atStart => exact ⟨0, by omega, rfl, fun m hm => by simp at hm, rfl⟩
  case round =>
    obtain ⟨j, hj, rfl, hz, rfl⟩ := hrel
    have HZ := Lib.hid hz
    clear hz
    by_cases hlt : j < n
    · obtain ⟨b, off, nd, rfl, hb, hx, hr⟩ := HRow.out.at_ hlt
      have cx : wr.cell? ⟨b, off + j * 15, none⟩ = some (.int .i64 nd.id) := hr 0 _ rfl
      have j0 : (0 : Int) ≤ (j : Int) := by omega
      have j1 : (j : Int) < (n : Int) := by omega
      obtain ⟨y, hy⟩ : ∃ y, y = nd.id := ⟨_, rfl⟩
      rw [← hy] at cx
      by_cases he : y = x
      · have he' : (y == x) = true := by simpa using he
        have HP := Lib.hid (ix_yes HZ.out hx (hy.symm.trans he)).1
        clear he hx hr hy
        go_wp2
        go_ret
        exact ⟨by rw [HP.out]; rfl, rfl⟩
      · have he' : (y == x) = false := by simpa using he
        have HP := Lib.hid (ix_take_no HZ.out hx (fun k => he (hy.trans k)))
        clear he hx hr hy
        go_wp2
        go_roundw
        case rel => exact ⟨j + 1, by omega, by go_num, HP.out, by trivial⟩
        case measure => simp [ivl] <;> omega
    · obtain rfl : j = n := by omega
      have HP : Hid (ixF Nd.id L x = -1) := Lib.hid (by have := HZ.out; rw [List.take_of_length_le (by rw [HL.out]; exact Nat.le_refl _)] at this; exact ix_no this)
      have j1 : ¬ (j : Int) < (j : Int) := by omega
      go_wp2
      go_ret
      exact ⟨by rw [HP.out]; rfl, rfl⟩
set_option maxHeartbeats 2000000 in
set_option maxRecDepth 100000 in
theorem gfind_any (a : Option Addr) (n cap : Nat) (L : List Stt) (x : Int) (w : World) (row : SRow w a n L) :
    Calls Tryz.prog 53 #[.slice a n cap, .int .i64 x] w fun e w' => e = .returned (.int .i64 (ixF Stt.id L x)) ∧ w = w' := by
  have hbig := row.2.1
  have HL := Lib.hid row.1
  have HRow := Lib.hid row
  clear row
  go_enter Tryz.func53, Tryz.ntmps53
  go_wp2
  go_loopw [5] (fun i wr => ∃ j : Nat, j ≤ n ∧ i = .int .i64 j ∧ (∀ m ∈ L.take j, m.id ≠ x) ∧ wr = w) (fun i _ => n - (ivl i).toNat)
  case atStart => exact ⟨0, by omega, rfl, fun m hm => by simp at hm, rfl⟩
  case round =>
    obtain ⟨j, hj, rfl, hz, rfl⟩ := hrel
    have HZ := Lib.hid hz
    clear hz
    by_cases hlt : j < n
    · obtain ⟨b, off, nd, rfl, hb, hx, hr⟩ := HRow.out.at_ hlt
      have cx : wr.cell? ⟨b, off + j * 14, none⟩ = some (.int .i64 nd.id) := hr 0 _ rfl
      have j0 : (0 : Int) ≤ (j : Int) := by omega
      have j1 : (j : Int) < (n : Int) := by omega
      obtain ⟨y, hy⟩ : ∃ y, y = nd.id := ⟨_, rfl⟩
      rw [← hy] at cx
      by_cases he : y = x
      · have he' : (y == x) = true := by simpa using he
        have HP := Lib.hid (ix_yes HZ.out hx (hy.symm.trans he)).1
        clear he hx hr hy
        go_wp2
        go_ret
        exact ⟨by rw [HP.out]; rfl, rfl⟩
      · have he' : (y == x) = false := by simpa using he
        have HP := Lib.hid (ix_take_no HZ.out hx (fun k => he (hy.trans k)))
        clear he hx hr hy
        go_wp2
        go_roundw
        case rel => exact ⟨j + 1, by omega, by go_num, HP.out, by trivial⟩
        case measure => simp [ivl] <;> omega
    · obtain rfl : j = n := by omega
      have HP : Hid (ixF Stt.id L x = -1) := Lib.hid (by have := HZ.out; rw [List.take_of_length_le (by rw [HL.out]; exact Nat.le_refl _)] at this; exact ix_no this)
      have j1 : ¬ (j : Int) < (j : Int) := by omega
      go_wp2
      go_ret
      exact ⟨by rw [HP.out]; rfl, rfl⟩
set_option maxHeartbeats 2000000 in
set_option maxRecDepth 100000 in
theorem ghangs_any (a : Option Addr) (n cap : Nat) (L : List Nd) (x : Int) (w : World) (row : NRow w a n L) :
    Calls Tryz.prog 12 #[.slice a n cap, .int .i64 x] w fun e w' => e = .returned (.int .i64 (hangs L x)) ∧ w = w' := by
  have hbig := row.2.1
  have hlen := row.1
  have HAt : Hid (∀ y, Calls Tryz.prog 30 #[.slice a n cap, .int .i64 y] w fun e w' => e = .returned (.int .i64 (ixF Nd.id L y)) ∧ w = w') := Lib.hid (fun y => gat_any a n cap L y w row)
  have HA1 := Lib.hid (HAt.out x)
  cases hx : elF Nd.id L x with
  | none =>
    rw [ix_none hx] at HA1
    have HR := Lib.hid (hangs_none hx)
    clear row hx
    go_enter Tryz.func12, Tryz.ntmps12
    go_wp2_with fail
    refine HA1.out.mono ?_
    rintro e w1 ⟨rfl, rfl⟩
    go_wp2
    go_ret
    exact ⟨by rw [HR.out]; rfl, rfl⟩
  | some nd =>
    obtain ⟨k, hk, hkL, hkl, hid⟩ := ix_some hx
    rw [hk] at HA1
    have hkn : k < n := by omega
    obtain ⟨b, off, nd', rfl, hb, hx', hr⟩ := row.at_ hkn
    have en : nd' = nd := by rw [hkL] at hx'; injection hx' with q; exact q.symm
    subst en
    have cx : w.cell? ⟨b, off + k * 15 + 1, none⟩ = some (.int .i64 nd'.par) := hr 1 _ rfl
    have HR := Lib.hid (hangs_some hx)
    have HA2 := Lib.hid (HAt.out nd'.par)
    have hneg := ix_neg Nd.id L nd'.par
    obtain ⟨q, hq⟩ : ∃ q, q = nd'.par := ⟨_, rfl⟩
    rw [← hq] at cx HR HA2 hneg
    have k0 : (0 : Int) ≤ (k : Int) := by omega
    have k1 : (k : Int) < (n : Int) := by omega
    have k2 : ¬ (k : Int) < 0 := by omega
    obtain ⟨z, hz⟩ : ∃ z, z = ixF Nd.id L q := ⟨_, rfl⟩
    rw [← hz] at HA2 hneg
    have HNeg := Lib.hid hneg
    clear row hx hr hx' hkL hq hz hneg HAt hk hkl hid hlen
    by_cases hp : q < 0
    · have HR2 : Hid (hangs L x = -1) := Lib.hid (by rw [HR.out, if_pos (Or.inl hp)])
      go_enter Tryz.func12, Tryz.ntmps12
      go_wp2_with fail
      refine HA1.out.mono ?_
      rintro e w1 ⟨rfl, rfl⟩
      go_wp2
      go_ret
      exact ⟨by rw [HR2.out]; rfl, rfl⟩
    · by_cases hz2 : z < 0
      · have HR2 : Hid (hangs L x = -1) := Lib.hid (by rw [HR.out, if_pos (Or.inr (by rw [← HNeg.out]; exact decide_eq_true hz2))])
        go_enter Tryz.func12, Tryz.ntmps12
        go_wp2_with fail
        refine HA1.out.mono ?_
        rintro e w1 ⟨rfl, rfl⟩
        go_wp2_with fail
        refine HA2.out.mono ?_
        rintro e w1 ⟨rfl, rfl⟩
        go_wp2
        go_ret
        exact ⟨by rw [HR2.out]; rfl, rfl⟩
      · have HR2 : Hid (hangs L x = q) := Lib.hid (by rw [HR.out, if_neg (fun c => c.elim hp (fun d => hz2 (by rw [← HNeg.out] at d; exact of_decide_eq_true d)))])
        go_enter Tryz.func12, Tryz.ntmps12
        go_wp2_with fail
        refine HA1.out.mono ?_
        rintro e w1 ⟨rfl, rfl⟩
        go_wp2_with fail
        refine HA2.out.mono ?_
        rintro e w1 ⟨rfl, rfl⟩
        go_wp2
        go_ret
        exact ⟨by rw [HR2.out]; rfl, rfl⟩
set_option maxHeartbeats 2000000 in
set_option maxRecDepth 100000 in
theorem gring_any (a : Option Addr) (n cap : Nat) (L : List Nd) (x : Int) (w : World) (row : NRow w a n L) (hn : n ≤ 100000) :
    Calls Tryz.prog 39 #[.slice a n cap, .int .i64 x] w fun e w' => e = .returned (.bool (ringB L x)) ∧ w = w' := by
  have HHa : Hid (∀ y, Calls Tryz.prog 12 #[.slice a n cap, .int .i64 y] w fun e w' => e = .returned (.int .i64 (hangs L y)) ∧ w = w') := Lib.hid (fun y => ghangs_any a n cap L y w row)
  have HRB : Hid (ringB L x = decide (0 ≤ ringI L (n + 1) (hangs L x))) := Lib.hid (by unfold ringB; rw [row.1])
  clear row
  go_enter Tryz.func39, Tryz.ntmps39
  go_wp2_with fail
  refine (HHa.out x).mono ?_
  rintro e w1 ⟨rfl, rfl⟩
  go_wp2
  go_loopw [5, 6] (fun v5 i wr => ∃ (j : Nat) (y : Int), j ≤ n + 1 ∧ i = .int .i64 j ∧ v5 = .int .i64 y ∧ ringI L (n + 1) (hangs L x) = ringI L (n + 1 - j) y ∧ wr = w) (fun _ i _ => n + 1 - (ivl i).toNat)
  case atStart => exact ⟨0, hangs L x, by omega, rfl, rfl, rfl, rfl⟩
  case round =>
    obtain ⟨j, y, hj, rfl, rfl, he, rfl⟩ := hrel
    have HE := Lib.hid he
    clear he
    by_cases hlt : j ≤ n
    · have j1 : (j : Int) ≤ (n : Int) := by omega
      by_cases hy : 0 ≤ y
      · have HS : Hid (ringI L (n + 1 - j) y = ringI L (n + 1 - (j + 1)) (hangs L y)) := Lib.hid (by
          rw [show n + 1 - j = (n + 1 - (j + 1)) + 1 by omega]
          show (if 0 ≤ y then _ else _) = _
          rw [if_pos hy])
        go_wp2_with fail
        refine (HHa.out y).mono ?_
        rintro e w1 ⟨rfl, rfl⟩
        go_wp2
        go_roundw
        case rel => exact ⟨j + 1, hangs L y, by omega, by go_num, rfl, HE.out.trans HS.out, by trivial⟩
        case measure => simp [ivl] <;> omega
      · have HS : Hid (ringI L (n + 1 - j) y = y) := Lib.hid (by
          rw [show n + 1 - j = (n + 1 - (j + 1)) + 1 by omega]
          show (if 0 ≤ y then _ else _) = _
          rw [if_neg hy])
        go_wp2
        go_ret
        exact ⟨by rw [HRB.out, HE.out, HS.out, show decide (0 ≤ y) = false from decide_eq_false (by omega)]; rfl, rfl⟩
    · have j1 : ¬ (j : Int) ≤ (n : Int) := by omega
      have HS : Hid (ringI L (n + 1 - j) y = y) := Lib.hid (by rw [show n + 1 - j = 0 by omega]; rfl)
      by_cases hy : 0 ≤ y
      · go_wp2
        go_ret
        exact ⟨by rw [HRB.out, HE.out, HS.out, decide_eq_true hy]; rfl, rfl⟩
      · go_wp2
        go_ret
        exact ⟨by rw [HRB.out, HE.out, HS.out, show decide (0 ≤ y) = false from decide_eq_false (by omega)]; rfl, rfl⟩
end Go.Proofs.YtdndafdninnjfaaGreat
/-
  Rows that the call itself has laid; what the reference's with and Names of layer 10 answer.
-/
namespace Go.Proofs.YtdndafdninnjfaaGreat
open Go.RowKit

/-- rows that the call has laid, k cells each -/
def OwnX {α : Type} (k : Nat) (c : α → List Value) (t : TypeId) (w : World) (base : Nat) (v : Value) (X : List α) : Prop := w.ownsRow base t k v X.length (X.flatMap c)
section
variable {α : Type} {k : Nat} {c : α → List Value} {t : TypeId} {w w' : World} {base : Nat} {v : Value} {X : List α}
theorem flatx_len (hc : ∀ x, (c x).length = k) : ∀ X : List α, (X.flatMap c).length = X.length * k
  | [] => by simp
  | x :: X => by
    rw [List.flatMap_cons, List.length_append, hc, flatx_len hc X, List.length_cons, Nat.add_mul]
    omega
theorem flatx_at (hc : ∀ x, (c x).length = k) : ∀ (X : List α) (i : Nat) (x : α), X[i]? = some x → ((X.flatMap c).drop (i * k)).take k = c x
  | [], i, x, h => by simp at h
  | a :: X, 0, x, h => by
    simp at h
    subst h
    rw [List.flatMap_cons, Nat.zero_mul, List.drop_zero, ← hc a, List.take_left]
  | a :: X, i + 1, x, h => by
    have ih := flatx_at hc X i x (by simpa using h)
    rw [List.flatMap_cons, List.drop_append, hc a, List.drop_of_length_le (by rw [hc a, Nat.add_mul]; omega), List.nil_append, show (i + 1) * k - k = i * k by rw [Nat.add_mul]; omega]
    exact ih
theorem OwnX.nil (k : Nat) (c : α → List Value) (t : TypeId) (w : World) (base : Nat) : OwnX k c t w base (.slice none 0 0) [] := World.ownsRow_nil _ _ _ _
theorem OwnX.lt (h : OwnX k c t w base v X) : ∀ b, v.ownBlock = some b → base ≤ b ∧ b < w.heap.size := World.ownsRow.lt h
theorem OwnX.same (h : OwnX k c t w base v X) (he : ∀ b, v.ownBlock = some b → w'.heap[b]? = w.heap[b]?) : OwnX k c t w' base v X :=
  ⟨h.1, h.2.imp id fun ⟨g, cap, cur, e, hb, hg, hr⟩ => ⟨g, cap, cur, e, hb, (he g (by rw [e]; rfl)).trans hg, hr⟩⟩
theorem OwnX.keep (h : OwnX k c t w base v X) (hb : Below w.heap.size w w') : OwnX k c t w' base v X := h.same (fun b e => hb.block b (h.lt b e).2)
theorem OwnX.low (h : OwnX k c t w base v X) {b' : Nat} (hb : b' ≤ base) : OwnX k c t w b' v X := ⟨h.1, h.2.imp id fun ⟨g, cap, cur, h1, h2, h3⟩ => ⟨g, cap, cur, h1, Nat.le_trans hb h2, h3⟩⟩
theorem OwnX.row (hc : ∀ x, (c x).length = k) (h : OwnX k c t w base v X) : ∃ a cap, v = .slice a X.length cap ∧ X.length ≤ cap ∧ cap ≤ maxLen ∧ RowX k c w a X.length X := by
  rcases h.2 with ⟨rfl, h0⟩ | ⟨g, cap, cur, rfl, hb, hg, hn, hm, hs, ht⟩
  · exact ⟨none, 0, by rw [h0], by omega, by unfold maxLen; omega, rfl, by omega, Or.inl h0⟩
  · refine ⟨_, cap, rfl, hn, hm, rfl, by unfold maxLen at hm; omega, Or.inr ⟨g, 0, rfl, (Array.getElem?_eq_some_iff.1 hg).1, fun i x hx => ?_⟩⟩
    have hlt : i < X.length := (List.getElem?_eq_some_iff.1 hx).1
    have hbk : Blk w g t cur.toList.toArray := by unfold Blk; rw [Array.toArray_toList]; exact hg
    have h1 := blk_range hbk (i * k) k
    have e : (cur.toList.drop (i * k)).take k = c x := by
      have h2 : (i + 1) * k ≤ X.length * k := Nat.mul_le_mul_right _ hlt
      rw [Nat.add_mul] at h2
      rw [← flatx_at hc X i x hx, ← ht, List.drop_take, List.take_take, Nat.min_eq_left (by omega)]
    rw [e] at h1
    rw [Nat.zero_add]
    exact h1
/-- one row more -/
theorem wpList_pushX {ops : Array Oper} {rest : List Oper} {op : Oper} {a : Go.Act} {Q : Exit → Go.Act → World → Prop} (hgd : op.guard = none) (ts tb : Operand) (tl : TypeId) (by_ : Nat) (z : Value)
    (ho : op.op = .call { callee := .builtin .append, args := #[ts, tb], argTypes := #[tl, tl] }) (hu : Tryz.prog.underlying tl = some (.slice t))
    (hinfo : (Tryz.prog.info? t).map (fun i => (i.zero, i.size, i.bytes)) = some (some z, k, by_)) (hzs : z.cells.size = k) (hk : 0 < k) (hby : by_ ≤ 1000) (hc : ∀ x, (c x).length = k) (x : α) (hone : ∀ u ∈ c x, u.oneCell' = true)
    (hs : a.eval ts = v) (hown : OwnX k c t w base v X) (gb : Nat) (cap : Nat) (hx : a.eval tb = .slice (some ⟨gb, 0, none⟩) 1 cap) (hb : w.rangeAt gb 0 (c x)) (hX : X.length ≤ 2000) (hbs : base ≤ w.heap.size)
    (h : ∀ v' w', OwnX k c t w' base v' (X ++ [x]) → w.grownBy w' v.ownBlock → (v'.ownBlock = v.ownBlock ∨ v'.ownBlock = some w.heap.size) → wpList Tryz.prog ops Q rest (a.put op.dst v') w') : wpList Tryz.prog ops Q (op :: rest) a w := by
  obtain ⟨i0, hi0, hz0, hz1, hz2⟩ := info_parts hinfo
  have hbytes : (X.length + 1) * by_ ≤ 140737488355328 := by
    have : (X.length + 1) * by_ ≤ 2001 * 1000 := Nat.mul_le_mul (by omega) hby
    omega
  refine wpList_append_own_at w hgd ts tb tl ho base t i0 z k by_ hu hi0 hz0 hz1 hz2 hzs hk v X.length (X.flatMap c) hs hown ⟨gb, 0, none⟩ 1 cap (c x) hx (by rw [hc x, Nat.one_mul]) (fun j u hj => by
    have := hb j u hj
    rw [Addr.add_lit]
    exact this) hone (by unfold maxLen; omega) hbytes hbs ?_
  intro v' w' h1 h2 _ h4
  refine h v' w' ?_ h2 h4
  unfold OwnX
  rw [List.length_append, List.flatMap_append]
  simpa using h1
end
theorem zN_info : (Tryz.prog.info? 84).map (fun i => (i.zero, i.size, i.bytes)) = some (some (.agg (cNd default).toArray), 15, 120) := by kernel_rfl
theorem zS_info : (Tryz.prog.info? 52).map (fun i => (i.zero, i.size, i.bytes)) = some (some (.agg (cSt default).toArray), 14, 112) := by kernel_rfl
theorem cNd_one (n : Nd) : ∀ u ∈ cNd n, u.oneCell' = true := fun u hu => by
  unfold cNd at hu
  simp only [List.mem_cons, List.not_mem_nil, or_false] at hu
  rcases hu with h | h | h | h | h | h | h | h | h | h | h | h | h | h | h <;> (rw [h]; rfl)
theorem cSt_one (n : Stt) : ∀ u ∈ cSt n, u.oneCell' = true := fun u hu => by
  unfold cSt at hu
  simp only [List.mem_cons, List.not_mem_nil, or_false] at hu
  rcases hu with h | h | h | h | h | h | h | h | h | h | h | h | h | h <;> (rw [h]; rfl)
/-- what the walk wants of a node's cells -/
structure NX (X : List Value) (n : Nd) : Prop where
  eq : X = cNd n
  len : X.length = 15
  size : (Tryz.prog.info? 84).map (·.size) = some X.length
  one : ∀ u ∈ X, u.oneCell' = true
  bs : ∀ W, (Instr.buildSlice 30 1 #[(0, .agg X.toArray)]).run Tryz.prog W = .ok (.slice (some ⟨W.heap.size, 0, none⟩) 1 1) (W.alloc (.cells X.toArray 84))
theorem bs_node (n : Nd) (W : World) : (Instr.buildSlice 30 1 #[(0, .agg (cNd n).toArray)]).run Tryz.prog W = .ok (.slice (some ⟨W.heap.size, 0, none⟩) 1 1) (W.alloc (.cells (cNd n).toArray 84)) := by kernel_rfl
theorem bs_state (n : Stt) (W : World) : (Instr.buildSlice 31 1 #[(0, .agg (cSt n).toArray)]).run Tryz.prog W = .ok (.slice (some ⟨W.heap.size, 0, none⟩) 1 1) (W.alloc (.cells (cSt n).toArray 52)) := by kernel_rfl
theorem nx_any (n : Nd) : NX (cNd n) n := ⟨rfl, rfl, by kernel_rfl, cNd_one n, bs_node n⟩
theorem with_step {L : List Nd} {j : Nat} {n m : Nd} (h : L[j]? = some m) : (L.take (j + 1)).filter (fun q => q.id != n.id) = (L.take j).filter (fun q => q.id != n.id) ++ (if m.id = n.id then [] else [m]) := by
  rw [List.take_add_one, h, List.filter_append]
  by_cases q : m.id = n.id <;> simp [q]
set_option maxHeartbeats 4000000 in
set_option maxRecDepth 100000 in
theorem gwith_any (a : Option Addr) (n cap : Nat) (L : List Nd) (nd : Nd) (w : World) (row : NRow w a n L) (hn : n ≤ 1000) :
    Calls Tryz.prog 38 #[.slice a n cap, .agg (cNd nd).toArray] w fun e w' => ∃ v, e = .returned v ∧ OwnX 15 cNd 84 w' w.heap.size v (withN L nd) ∧ Below w.heap.size w w' := by
  have hbig := row.2.1
  have HL := Lib.hid row.1
  have HRow := Lib.hid row
  have HX := Lib.hid (nx_any nd)
  have HWi : Hid (withN L nd = L.filter (fun q => q.id != nd.id) ++ [nd]) := Lib.hid rfl
  have hcx : ∀ u g, Blk u g 84 (cNd nd).toArray → u.cell? ⟨g, 0, none⟩ = some (.int .i64 nd.id) := fun u g k => k.cell 0
  obtain ⟨X, hXe⟩ : ∃ X, X = cNd nd := ⟨_, rfl⟩
  rw [← hXe] at hcx HX
  rw [← hXe]
  have HCx := Lib.hid hcx
  obtain ⟨y, hy⟩ : ∃ y, y = nd.id := ⟨_, rfl⟩
  rw [← hy] at HCx
  have HY := Lib.hid hy
  have KX := Lib.hid (Blk.new w 84 X.toArray)
  have HB0 : Hid (Below w.heap.size w (w.alloc (.cells X.toArray 84))) := Lib.hid (alloc_below _ _)
  clear row hcx hXe hy
  go_enter Tryz.func38, Tryz.ntmps38
  go_upto_region 3 with fail
  refine fin (fun W => Blk W w.heap.size 84 X.toArray ∧ Below w.heap.size w W) ⟨KX.out, HB0.out⟩ ?_
  clear KX HB0
  rintro W0 ⟨kx, hb0⟩
  have KX := Lib.hid kx
  have HB0 := Lib.hid hb0
  clear kx hb0
  go_loopw [5, 6] (fun v5 i wr => ∃ j : Nat, j ≤ n ∧ i = .int .i64 j ∧ OwnX 15 cNd 84 wr (w.heap.size + 1) v5 ((L.take j).filter (fun q => q.id != nd.id)) ∧ Blk wr w.heap.size 84 X.toArray ∧ Below w.heap.size w wr) (fun _ i _ => n - (ivl i).toNat)
  case atStart => exact ⟨0, by omega, rfl, OwnX.nil _ _ _ _ _, KX.out, HB0.out⟩
  case round =>
    clear KX HB0
    obtain ⟨j, hj, rfl, ho, kx, hb⟩ := hrel
    have HO := Lib.hid ho
    have KX := Lib.hid kx
    have HB := Lib.hid hb
    have HR := Lib.hid (HRow.out.keep hb)
    have hxl := kx.lt
    have cb : wr.cell? ⟨w.heap.size, 0, none⟩ = some (.int .i64 y) := HCx.out _ _ kx
    clear ho kx hb
    have hpl : ((L.take j).filter (fun q => q.id != nd.id)).length ≤ 1000 := by
      have q1 := List.length_filter_le (fun q => q.id != nd.id) (L.take j)
      rw [List.length_take] at q1
      omega
    by_cases hlt : j < n
    · obtain ⟨b, off, md, rfl, hbl, hm, hr⟩ := HR.out.at_ hlt
      have cx : wr.cell? ⟨b, off + j * 15, none⟩ = some (.int .i64 md.id) := hr 0 _ rfl
      have HM := Lib.hid (nx_any md)
      have HRg : Hid (∀ u, Below wr.heap.size wr u → u.rangeAt b (off + j * 15) (cNd md)) := Lib.hid (fun u q => range_same hr (q.block b hbl))
      obtain ⟨M, hMe⟩ : ∃ M, M = cNd md := ⟨_, rfl⟩
      rw [← hMe] at HM HRg
      obtain ⟨z, hz⟩ : ∃ z, z = md.id := ⟨_, rfl⟩
      have HSt : Hid ((L.take (j + 1)).filter (fun q => q.id != nd.id) = (L.take j).filter (fun q => q.id != nd.id) ++ (if z = y then [] else [md])) := Lib.hid (by rw [with_step (n := nd) hm, hz, HY.out])
      rw [← hz] at cx
      have j0 : (0 : Int) ≤ (j : Int) := by omega
      have j1 : (j : Int) < (n : Int) := by omega
      clear hm hr hMe hz HR
      go_wp2
      go_quiet (fail)
      refine fin (fun W => OwnX 15 cNd 84 W (w.heap.size + 1) u5 ((L.take j).filter (fun q => q.id != nd.id)) ∧ Blk W w.heap.size 84 X.toArray ∧ Below w.heap.size w W ∧ W.rangeAt b (off + j * 15) M ∧ b < W.heap.size) ⟨HO.out.keep (Go.below_drewN (Below.refl _ _) nq), KX.out.keep (Go.below_drewN (Below.refl _ _) nq), Go.below_drewN HB.out nq, HRg.out _ (Go.below_drewN (Below.refl _ _) nq), hbl⟩ ?_
      clear HO KX HB HRg hbl cx cb hxl
      rintro W ⟨ho, kx, hb, hrg, hbl⟩
      have HO := Lib.hid ho
      have KX := Lib.hid kx
      have HB := Lib.hid hb
      have HRg := Lib.hid hrg
      have hsW : w.heap.size + 1 ≤ W.heap.size := kx.lt
      clear ho kx hb hrg
      by_cases he : z = y
      · have he' : (z == y) = true := by simpa using he
        rw [if_pos he, List.append_nil] at HSt
        go_wp2
        go_roundw
        case rel => exact ⟨j + 1, by omega, by go_num, by rw [HSt.out]; exact HO.out, KX.out, HB.out⟩
        case measure => simp [ivl] <;> omega
      · have he' : (z == y) = false := by simpa using he
        rw [if_neg he] at HSt
        have hml : M.length = 15 := HM.out.len
        go_wp2_with (first
          | refine wpList_load_mid rfl 84 (.tmp 24) rfl b (off + j * 15) rfl M _ HRg.out Tryz.underlying84 rfl HM.out.size ?_
          | refine wpList_bs8 rfl 30 84 (.tmp 25) rfl M rfl HM.out.bs ?_
          | (at_builtin; refine wpList_pushX rfl (.tmp 21) (.tmp 26) 30 120 (.agg (cNd default).toArray) rfl Tryz.underlying30 zN_info rfl (by decide) (by decide) cNd_len md (cNd_one md) rfl (HO.out.keep (alloc_below _ _)) W.heap.size 1 rfl (by rw [← HM.out.eq]; exact blk_whole (Blk.new W _ _)) (by omega) (by simp; omega) ?_))
        intro v' W2 k1 k2 k3
        have hal : Below W.heap.size W (W.alloc (.cells M.toArray 84)) := alloc_below _ _
        have hoW := HO.out
        have K : Hid (OwnX 15 cNd 84 W2 (w.heap.size + 1) v' ((L.take (j + 1)).filter (fun q => q.id != nd.id)) ∧ Blk W2 w.heap.size 84 X.toArray ∧ Below w.heap.size w W2) := Lib.hid (by
          refine ⟨by rw [HSt.out]; exact k1, (KX.out.keep hal).same (k2.block _ (KX.out.keep hal).lt (fun e => by have := (hoW.lt _ e.symm).1; omega)), ?_⟩
          have hb1 := bthen HB.out hal
          exact ⟨k2.os.trans hb1.os, k2.tape.trans hb1.tape, k2.output.trans hb1.output, Nat.le_trans hb1.size k2.size, fun q hq => (k2.block q (Nat.lt_of_lt_of_le hq hb1.size) (fun e => by have := (hoW.lt _ e.symm).1; omega)).trans (hb1.block q hq)⟩)
        clear k1 k2 k3 hal hoW
        go_wp2
        go_roundw
        case rel => exact ⟨j + 1, by omega, by go_num, K.out.1, K.out.2.1, K.out.2.2⟩
        case measure => simp [ivl] <;> omega
    · obtain rfl : j = n := by omega
      have e0 : L.take j = L := List.take_of_length_le (by rw [HL.out]; exact Nat.le_refl _)
      rw [e0] at HO hpl
      have j1 : ¬ (j : Int) < (j : Int) := by omega
      have hsW : w.heap.size + 1 ≤ wr.heap.size := KX.out.lt
      clear e0 HR cb
      have hml : X.length = 15 := HX.out.len
      go_wp2_with (first
        | refine wpList_load_mid rfl 84 (.tmp 3) rfl w.heap.size 0 rfl X _ (blk_whole KX.out) Tryz.underlying84 rfl HX.out.size ?_
        | refine wpList_bs8 rfl 30 84 (.tmp 29) rfl X rfl HX.out.bs ?_
        | (at_builtin; refine wpList_pushX rfl (.tmp 28) (.tmp 30) 30 120 (.agg (cNd default).toArray) rfl Tryz.underlying30 zN_info rfl (by decide) (by decide) cNd_len nd (cNd_one nd) rfl (HO.out.keep (alloc_below _ _)) wr.heap.size 1 rfl (by rw [← HX.out.eq]; exact blk_whole (Blk.new wr _ _)) (by omega) (by simp; omega) ?_))
      intro v' W2 k1 k2 k3
      have hal : Below wr.heap.size wr (wr.alloc (.cells X.toArray 84)) := alloc_below _ _
      have hoW := HO.out
      have K : Hid (OwnX 15 cNd 84 W2 w.heap.size v' (withN L nd) ∧ Below w.heap.size w W2) := Lib.hid (by
        refine ⟨by rw [HWi.out]; exact OwnX.low k1 (by omega), ?_⟩
        have hb1 := bthen HB.out hal
        exact ⟨k2.os.trans hb1.os, k2.tape.trans hb1.tape, k2.output.trans hb1.output, Nat.le_trans hb1.size k2.size, fun q hq => (k2.block q (Nat.lt_of_lt_of_le hq hb1.size) (fun e => by have := (hoW.lt _ e.symm).1; omega)).trans (hb1.block q hq)⟩)
      clear k1 k2 k3 hal hoW
      go_wp2
      go_ret
      exact ⟨v', rfl, K.out⟩
end Go.Proofs.YtdndafdninnjfaaGreat
/-
  No ring among nodes makes a forest without rings; the reference's flow in memory; what its Names of layer 10 answers.
-/
namespace Go.Proofs.YtdndafdninnjfaaGreat
open Go.RowKit

theorem hangs_in {L : List Nd} {x : Int} (h : 0 ≤ hangs L x) : ∃ n ∈ L, n.id = x := by
  cases hx : elF Nd.id L x with
  | none => rw [hangs_none hx] at h; omega
  | some n =>
    obtain ⟨k, _, hk, _, e⟩ := ix_some hx
    exact ⟨n, List.mem_of_getElem? hk, e⟩
theorem hangs_on {L : List Nd} {x : Int} (h : 0 ≤ hangs L x) : ∃ n ∈ L, n.id = hangs L x := by
  cases hx : elF Nd.id L x with
  | none => rw [hangs_none hx] at h; omega
  | some n =>
    rw [hangs_some hx] at h ⊢
    by_cases c : n.par < 0 ∨ (elF Nd.id L n.par).isNone = true
    · rw [if_pos c] at h; omega
    · rw [if_neg c]
      cases hp : elF Nd.id L n.par with
      | none => exact absurd (Or.inr (by rw [hp]; rfl)) c
      | some m =>
        obtain ⟨k, _, hk, _, e⟩ := ix_some hp
        exact ⟨m, List.mem_of_getElem? hk, e⟩
theorem mem_trees {L : List Nd} {x y : Int} : (x, y) ∈ treesN L ↔ (∃ n ∈ L, n.id = x) ∧ 0 ≤ hangs L x ∧ y = hangs L x := by
  unfold treesN
  rw [List.mem_filterMap]
  constructor
  · rintro ⟨n, hn, h⟩
    by_cases c : 0 ≤ hangs L n.id
    · rw [if_pos c] at h
      injection h with h
      injection h with h1 h2
      subst h1
      exact ⟨⟨n, hn, rfl⟩, c, h2.symm⟩
    · rw [if_neg c] at h; cases h
  · rintro ⟨⟨n, hn, rfl⟩, c, rfl⟩
    exact ⟨n, hn, by rw [if_pos c]⟩
theorem trees_fst (L : List Nd) : (treesN L).map Prod.fst = (L.filter (fun n => decide (0 ≤ hangs L n.id))).map Nd.id := by
  have key : ∀ M : List Nd, (M.filterMap (fun n => if 0 ≤ hangs L n.id then some (n.id, hangs L n.id) else none)).map Prod.fst = (M.filter (fun n => decide (0 ≤ hangs L n.id))).map Nd.id := by
    intro M
    induction M with
    | nil => rfl
    | cons m M ih =>
      by_cases c : 0 ≤ hangs L m.id
      · rw [List.filterMap_cons_some (b := (m.id, hangs L m.id)) (by rw [if_pos c]), List.filter_cons_of_pos (by simpa using c), List.map_cons, List.map_cons, ih]
      · rw [List.filterMap_cons_none (by rw [if_neg c]), List.filter_cons_of_neg (by simpa using c), ih]
  exact key L
theorem trees_nod {L : List Nd} (h : (L.map Nd.id).Nodup) : ((treesN L).map Prod.fst).Nodup := by
  rw [trees_fst]
  exact h.sublist (List.Sublist.map _ List.filter_sublist)
theorem trees_len (L : List Nd) : (treesN L).length ≤ L.length := by
  unfold treesN
  exact List.length_filterMap_le _ _
theorem par_trees {L : List Nd} (h : (L.map Nd.id).Nodup) (x : Int) : parO (treesN L) x = if 0 ≤ hangs L x then some (hangs L x) else none := by
  by_cases c : 0 ≤ hangs L x
  · rw [if_pos c]
    exact par_of_mem (trees_nod h) (mem_trees.2 ⟨hangs_in c, c, rfl⟩)
  · rw [if_neg c]
    cases hp : parO (treesN L) x with
    | none => rfl
    | some y => exact absurd (mem_trees.1 (par_mem hp)).2.1 c
/-- no ring: all ways end -/
theorem tree_wf {L : List Nd} (h : (L.map Nd.id).Nodup) (hr : ∀ n ∈ L, ringB L n.id = false) : WF (treesN L) := by
  refine ⟨trees_nod h, ?_⟩
  have key : ∀ (k : Nat) (y : Int), ringI L k y < 0 → y < 0 ∨ ∃ l, IsA (treesN L) y l := by
    intro k
    induction k with
    | zero => exact fun y hy => Or.inl hy
    | succ k ih =>
      intro y hy
      by_cases c : 0 ≤ y
      · refine Or.inr ?_
        have hy' : ringI L k (hangs L y) < 0 := by
          have : ringI L (k + 1) y = ringI L k (hangs L y) := by show (if 0 ≤ y then _ else _) = _; rw [if_pos c]
          rw [← this]; exact hy
        by_cases d : 0 ≤ hangs L y
        · rcases ih _ hy' with q | ⟨l, hl⟩
          · omega
          · exact ⟨hangs L y :: l, by rw [par_trees h, if_pos d], hl⟩
        · exact ⟨[], by show parO _ _ = none; rw [par_trees h, if_neg d]⟩
      · exact Or.inl (by omega)
  intro x
  by_cases d : 0 ≤ hangs L x
  · obtain ⟨n, hn, e⟩ := hangs_in d
    have h1 := hr n hn
    rw [e] at h1
    unfold ringB at h1
    have h2 := of_decide_eq_false h1
    rcases key (L.length + 1) (hangs L x) (by omega) with q | ⟨l, hl⟩
    · omega
    · exact ⟨hangs L x :: l, by rw [par_trees h, if_pos d], hl⟩
  · exact ⟨[], by show parO _ _ = none; rw [par_trees h, if_neg d]⟩
/-! the reference's flow in memory -/
structure RW (w : World) (g : Nat) (D : FD) (vl vd vs : Value) : Prop where
  blk : Blk w g 33 #[vl, vd, .bool D.begun, vs, .int .i64 D.steps]
  nod : OwnX 15 cNd 84 w 0 vl D.L
  dir : OwnD w 0 vd D.dirty.length D.dirty
  sts : OwnX 14 cSt 52 w 0 vs D.sts
  ol : ∀ b, vl.ownBlock = some b → b ≠ g ∧ vd.ownBlock ≠ some b ∧ vs.ownBlock ≠ some b
  od : ∀ b, vd.ownBlock = some b → b ≠ g ∧ vs.ownBlock ≠ some b
  os : ∀ b, vs.ownBlock = some b → b ≠ g
def footW (g : Nat) (vl vd vs : Value) (b : Nat) : Prop := b = g ∨ vl.ownBlock = some b ∨ vd.ownBlock = some b ∨ vs.ownBlock = some b
def RWB (w : World) (g : Nat) (F : Nat → Prop) (D : FD) : Prop := ∃ vl vd vs, RW w g D vl vd vs ∧ ∀ b, F b ↔ footW g vl vd vs b
section
variable {w w' : World} {g : Nat} {D : FD} {vl vd vs : Value} {F : Nat → Prop}
theorem RW.inb (h : RW w g D vl vd vs) : ∀ b, footW g vl vd vs b → b < w.heap.size := by
  rintro b (rfl | e | e | e)
  · exact h.blk.lt
  · exact (h.nod.lt b e).2
  · exact (World.ownsRow.lt h.dir b e).2
  · exact (h.sts.lt b e).2
theorem ownd_same {w w' : World} {base n : Nat} {v : Value} {zs : List Int} (h : OwnD w base v n zs) (he : ∀ b, v.ownBlock = some b → w'.heap[b]? = w.heap[b]?) : OwnD w' base v n zs :=
  ⟨h.1, h.2.imp id fun ⟨g, cap, cur, e, hb, hg, hr⟩ => ⟨g, cap, cur, e, hb, (he g (by rw [e]; rfl)).trans hg, hr⟩⟩
theorem RW.same (h : RW w g D vl vd vs) (he : ∀ b, footW g vl vd vs b → w'.heap[b]? = w.heap[b]?) : RW w' g D vl vd vs :=
  ⟨h.blk.same (he g (Or.inl rfl)), h.nod.same (fun b e => he b (Or.inr (Or.inl e))), ownd_same h.dir (fun b e => he b (Or.inr (Or.inr (Or.inl e)))), h.sts.same (fun b e => he b (Or.inr (Or.inr (Or.inr e)))), h.ol, h.od, h.os⟩
theorem RW.keep (h : RW w g D vl vd vs) (hb : Below w.heap.size w w') : RW w' g D vl vd vs := h.same (fun b hf => hb.block b (h.inb b hf))
theorem RWB.same (h : RWB w g F D) (he : ∀ b, F b → w'.heap[b]? = w.heap[b]?) : RWB w' g F D := by
  obtain ⟨vl, vd, vs, h1, h2⟩ := h
  exact ⟨vl, vd, vs, h1.same (fun b hb => he b ((h2 b).2 hb)), h2⟩
theorem RWB.inb (h : RWB w g F D) : ∀ b, F b → b < w.heap.size := by
  obtain ⟨vl, vd, vs, h1, h2⟩ := h
  exact fun b hb => h1.inb b ((h2 b).1 hb)
theorem RWB.keep (h : RWB w g F D) (hb : Below w.heap.size w w') : RWB w' g F D := h.same (fun b hf => hb.block b (h.inb b hf))
/-- what the walk reads of its nodes -/
theorem RW.nodes (h : RW w g D vl vd vs) : ∃ a cap, vl = .slice a D.L.length cap ∧ ∀ u, Below w.heap.size w u → u.cell? ⟨g, 0, none⟩ = some (.slice a D.L.length cap) ∧ g < u.heap.size ∧ NRow u a D.L.length D.L := by
  obtain ⟨a, cap, hv, _, _, hr⟩ := h.nod.row cNd_len
  exact ⟨a, cap, hv, fun u q => ⟨by have := (h.keep q).blk.cell 0; rw [hv] at this; exact this, (h.keep q).blk.lt, hr.keep q⟩⟩
set_option maxHeartbeats 2000000 in
set_option maxRecDepth 100000 in
theorem gnames_any (h : RW w g D vl vd vs) (hn : D.L.length ≤ 1000) :
    Calls Tryz.prog 50 #[.pointer (some ⟨g, 0, none⟩)] w fun e w' => ∃ v, e = .returned v ∧ LRes w w' (namesN D.L) v ∧ Below w.heap.size w w' := by
  obtain ⟨a, cap, -, hrd⟩ := h.nodes
  have HRd := Lib.hid hrd
  obtain ⟨i0, hi0, hz0, hz1, hz2⟩ := info_parts id_info
  have HI := Lib.hid (And.intro hi0 (And.intro hz0 (And.intro hz1 hz2)))
  have HNa : Hid (namesN D.L = sortI (D.L.map Nd.id)) := Lib.hid rfl
  obtain ⟨L, hLe⟩ : ∃ L, L = D.L := ⟨_, rfl⟩
  rw [← hLe] at HRd hn HNa ⊢
  obtain ⟨n, hne⟩ : ∃ n, n = L.length := ⟨_, rfl⟩
  rw [← hne] at HRd hn
  have HN := Lib.hid hne
  have hg := (HRd.out w (Below.refl _ _)).2.1
  clear h hrd hi0 hz0 hz1 hz2 hLe hne
  go_enter Tryz.func50, Tryz.ntmps50
  go_wp2
  go_loopw [3, 4] (fun v3 i wr => ∃ j : Nat, j ≤ n ∧ i = .int .i64 j ∧ OwnD wr w.heap.size v3 j ((L.take j).map Nd.id) ∧ Below w.heap.size w wr) (fun _ i _ => n - (ivl i).toNat)
  case atStart => exact ⟨0, by omega, rfl, OwnD.nil _ _, Below.refl _ _⟩
  case round =>
    clear hg
    obtain ⟨j, hj, rfl, ho, hb⟩ := hrel
    have HOwn := Lib.hid ho
    have HB := Lib.hid hb
    obtain ⟨c0, hg, hr⟩ := HRd.out wr hb
    have hsz : w.heap.size ≤ wr.heap.size := hb.size
    have HR := Lib.hid hr
    clear ho hb hr
    by_cases hlt : j < n
    · obtain ⟨b, off, nd, rfl, hbl, hx, hr⟩ := HR.out.at_ hlt
      have cx : wr.cell? ⟨b, off + j * 15, none⟩ = some (.int .i64 nd.id) := hr 0 _ rfl
      have HSt : Hid ((L.take (j + 1)).map Nd.id = (L.take j).map Nd.id ++ [nd.id]) := Lib.hid (by rw [List.take_add_one, hx, List.map_append]; rfl)
      obtain ⟨y, hy⟩ : ∃ y, y = nd.id := ⟨_, rfl⟩
      rw [← hy] at cx HSt
      obtain ⟨pre, hpre⟩ : ∃ pre, pre = (L.take j).map Nd.id := ⟨_, rfl⟩
      rw [← hpre] at HOwn HSt
      have j0 : (0 : Int) ≤ (j : Int) := by omega
      have j1 : (j : Int) < (n : Int) := by omega
      clear hx hr hy HR hpre
      go_wp2_with (at_builtin; refine wpList_append_own _ rfl (.tmp 14) (.tmp 23) 24 rfl w.heap.size 41 i0 (.int .i64 0) 1 8 Tryz.underlying24 HI.out.1 HI.out.2.1 HI.out.2.2.1 HI.out.2.2.2 rfl (by decide) _ _ _ rfl (HOwn.out.alloc _) ⟨wr.heap.size, 0, none⟩ 1 1 [.int .i64 y] rfl rfl (cell_one_new _ _ _) (by intro u hu; simp at hu; subst hu; rfl) (by unfold maxLen; omega) (by omega) (by simp; omega) ?_)
      intro v' w2 hown' hgrow _
      have HOwn' := Lib.hid hown'
      have HB2 := Lib.hid (grownD_below HOwn.out (Nat.le_refl _) HB.out hsz hgrow)
      clear hown' hgrow
      go_wp2
      go_roundw
      case rel =>
        refine ⟨j + 1, by omega, by go_num, ?_, HB2.out⟩
        rw [HSt.out]
        unfold OwnD
        rw [List.map_append]
        exact HOwn'.out
      case measure => simp [ivl] <;> omega
    · obtain rfl : j = n := by omega
      have e0 : L.take j = L := List.take_of_length_le (by rw [HN.out]; exact Nat.le_refl _)
      rw [e0] at HOwn
      obtain ⟨qa, qcap, hqv, hqr⟩ := HOwn.out.row
      subst hqv
      have HS := Lib.hid (rsorted_any qa j qcap (L.map Nd.id) wr hqr (by omega))
      have j1 : ¬ (j : Int) < (j : Int) := by omega
      clear e0 hqr HR
      go_wp2_with fail
      refine HS.out.mono ?_
      rintro e w2 ⟨v, rfl, hlr, hb2⟩
      have HE : Hid (LRes w w2 (namesN L) v ∧ Below w.heap.size w w2) := Lib.hid ⟨by
        obtain ⟨a9, c9, e9, r9, q9⟩ := hlr
        rw [HNa.out]
        exact ⟨a9, c9, e9, r9, q9.imp id (fun q ad e => Nat.le_trans hsz (q ad e))⟩, bthen HB.out hb2⟩
      clear hlr hb2 HS
      go_wp2
      go_ret
      exact ⟨v, rfl, HE.out⟩
end
end Go.Proofs.YtdndafdninnjfaaGreat
