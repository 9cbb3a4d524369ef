/-
  An act of the law of layer 11: which entities it is of, what it makes of a scene; Fits, pick, Do, Want.
-/
import Derived.Test.YtkondkajpmafkaaGreatMT36
namespace Go.Proofs.YtkondkajpmafkaaGreat
open Go.RowKit

structure A11 where
  k : Int
  one : Int
  two : Int
  P : PT
  a : Option Addr
  n : Nat
  cap : Nat
  ks : List Int
def c11 (x : A11) : List Value := .int .u8 x.k :: .int .u8 x.one :: .int .u8 x.two :: (pl x.P ++ [.slice x.a x.n x.cap])
theorem c11_len (x : A11) : (c11 x).length = 28 := rfl
theorem c11_size (x : A11) : (Tryz.prog.info? 46).map (·.size) = some (c11 x).length := by rw [c11_len]; kernel_rfl
/-- an act as it may be -/
def ok11 (w : World) (x : A11) : Prop := 0 ≤ x.k ∧ x.k ≤ 255 ∧ 0 ≤ x.one ∧ x.one ≤ 255 ∧ 0 ≤ x.two ∧ x.two ≤ 255 ∧ Row w x.a x.n x.ks
def pickV (zs : List Int) (v : Int) : Int := if 250 ≤ v ∨ zs.length = 0 then v - 251 else zs.getD (v % zs.length).toNat 0
def p11 (X : Sc) (v : Int) : Int := pickV (alS X.S) v
def doX (X : Sc) (x : A11) : Sc :=
  if x.k % 11 = 3 then xdeS X (p11 X x.one) else if x.k % 11 = 4 ∨ x.k % 11 = 5 then xpuS X (p11 X x.one) x.P x.ks else if x.k % 11 = 6 then xcuS X (p11 X x.one) x.ks
  else if x.k % 11 = 7 ∨ x.k % 11 = 8 then xadS X (p11 X x.one) (p11 X x.two) else if x.k % 11 = 9 then xfrS X (p11 X x.one) else if x.k % 11 = 10 then xneS X else xspS X x.P (p11 X x.two)
def doXE (X : Sc) (x : A11) : Int :=
  if x.k % 11 = 3 then deE X.S (p11 X x.one) else if x.k % 11 = 4 ∨ x.k % 11 = 5 then puE X.S (p11 X x.one) x.P x.ks else if x.k % 11 = 6 then cuE X.S (p11 X x.one) x.ks
  else if x.k % 11 = 7 ∨ x.k % 11 = 8 then xadE X (p11 X x.one) (p11 X x.two) else if x.k % 11 = 9 then xfrE X (p11 X x.one) else if x.k % 11 = 10 then 0 else xspE X x.P (p11 X x.two)
def doXV (X : Sc) (x : A11) : Int := if x.k % 11 = 10 then X.S.now + 1 else if x.k % 11 < 3 then xspV X x.P (p11 X x.two) else 0
theorem BSc.does {X : Sc} {m : Nat} (h : BSc X m) (hw : WX X) (x : A11) : BSc (doX X x) (m + 2) := by
  unfold doX
  split
  · exact h.de hw _
  · split
    · exact h.pu _ _ _
    · split
      · exact h.cu _ _
      · split
        · exact h.ad _ _
        · split
          · exact h.fr _
          · split
            · exact h.ne
            · exact h.sp _ _
theorem ToldX.does {I : Int → PT → Prop} {Io : Int → Option Int} {since : Int} {X : Sc} (h : ToldX I Io since X) (x : A11) : ToldX I Io since (doX X x) := by
  unfold doX
  split
  · exact h.de _
  · split
    · exact h.pu _ _ _
    · split
      · exact h.cu _ _
      · split
        · exact h.ad _ _
        · split
          · exact h.fr _
          · split
            · exact h.ne
            · exact h.sp _ _
theorem p11_rg {X : Sc} (h : WX X) {v : Int} (h0 : 0 ≤ v) (h1 : v ≤ 255) : Rg (p11 X v) := by
  unfold p11 pickV
  split
  · unfold Rg; omega
  · rename_i c
    have hl : (alS X.S).length ≠ 0 := fun e => c (Or.inr e)
    have hi : (v % ((alS X.S).length : Int)).toNat < (alS X.S).length := by
      have h1 := Int.emod_nonneg v (show ((alS X.S).length : Int) ≠ 0 by omega)
      have h2 := Int.emod_lt_of_pos v (show (0 : Int) < ((alS X.S).length : Int) by omega)
      omega
    have hm : (alS X.S).getD (v % ((alS X.S).length : Int)).toNat 0 ∈ alS X.S := getD_mem hi
    have h2 := live_iff.1 ((mem_all h.ws).1 hm)
    unfold Rg
    omega
set_option maxHeartbeats 2000000 in
set_option maxRecDepth 100000 in
theorem pick11_any (a : Option Addr) (n cap : Nat) (zs : List Int) (v : Int) (w : World) (h0 : 0 ≤ v) (h1 : v ≤ 255) (hn : n ≤ 1000) (row : Row w a n zs) :
    Calls Tryz.prog 29 #[.slice a n cap, .int .u8 v] w fun e w' => e = .returned (.int .i64 (pickV zs v)) ∧ w = w' := by
  have hl : zs.length = n := row.1
  by_cases h2 : 250 ≤ v
  · have e : Hid (pickV zs v = v - 251) := Lib.hid (by unfold pickV; rw [if_pos (Or.inl h2)])
    have hw : IntKind.i64.wrap (v - 251) = v - 251 := IntWalk.i64_in _ (by omega)
    rw [e.out]
    clear row hl
    go_enter Tryz.func29, Tryz.ntmps29
    go_wp2
    go_ret
    exact ⟨rfl, rfl⟩
  · by_cases hn0 : n = 0
    · have e : Hid (pickV zs v = v - 251) := Lib.hid (by unfold pickV; rw [if_pos (Or.inr (by rw [hl, hn0]))])
      have hw : IntKind.i64.wrap (v - 251) = v - 251 := IntWalk.i64_in _ (by omega)
      rw [e.out]
      subst hn0
      clear row hl
      go_enter Tryz.func29, Tryz.ntmps29
      go_wp2
      go_ret
      exact ⟨rfl, rfl⟩
    · obtain ⟨t1, t2⟩ : v.tmod (n : Int) = ((v % (n : Int)).toNat : Int) ∧ (v % (n : Int)).toNat < n := by
        have h3 := Int.emod_nonneg v (show (n : Int) ≠ 0 by omega)
        have h4 := Int.emod_lt_of_pos v (show (0 : Int) < (n : Int) by omega)
        rw [Int.tmod_eq_emod_of_nonneg h0]
        omega
      obtain ⟨r, hr⟩ : ∃ r, r = (v % (n : Int)).toNat := ⟨_, rfl⟩
      rw [← hr] at t1 t2
      obtain ⟨b, off, y, rfl, hy, cy⟩ := row_at row t2
      have e : Hid (pickV zs v = y) := Lib.hid (by
        unfold pickV
        rw [if_neg (fun c => c.elim h2 (fun c => hn0 (by rw [← hl]; exact c))), hl, ← hr]
        simp [List.getD, hy])
      rw [e.out]
      have hb := World.block_lt_of_cell? _ _ cy
      have n0 : ¬ (n : Int) = 0 := by omega
      have n1 : ((n : Int) == 0) = false := by simpa using hn0
      have r0 : (0 : Int) ≤ (r : Int) := by omega
      have r1 : (r : Int) < (n : Int) := by omega
      clear hr hy hl row
      go_enter Tryz.func29, Tryz.ntmps29
      go_wp2
      go_ret
      exact ⟨rfl, rfl⟩

/-- a slice of acts -/
def ARow11 (w : World) (a : Option Addr) (len : Nat) (xs : List A11) : Prop := xs.length = len ∧ len ≤ 9223372036854775807 ∧ (len = 0 ∨ ∃ b off, a = some ⟨b, off, none⟩ ∧ b < w.heap.size ∧ ∀ i x, xs[i]? = some x → w.rangeAt b (off + i * 28) (c11 x) ∧ ok11 w x)
theorem ok11.keep {w w' : World} {x : A11} (h : ok11 w x) (hb : Below w.heap.size w w') : ok11 w' x := ⟨h.1, h.2.1, h.2.2.1, h.2.2.2.1, h.2.2.2.2.1, h.2.2.2.2.2.1, row_keep h.2.2.2.2.2.2 hb⟩
theorem ARow11.at_ {w : World} {a : Option Addr} {n : Nat} {xs : List A11} (h : ARow11 w a n xs) {i : Nat} (hi : i < n) : ∃ b off x, a = some ⟨b, off, none⟩ ∧ xs[i]? = some x ∧ w.rangeAt b (off + i * 28) (c11 x) ∧ ok11 w x := by
  obtain ⟨h1, h2, h3⟩ := h
  rcases h3 with h3 | ⟨b, off, e, hb, hr⟩
  · omega
  · have hx : xs[i]? = some (xs[i]'(by omega)) := List.getElem?_eq_getElem (by omega)
    exact ⟨b, off, _, e, hx, hr i _ hx⟩
set_option maxHeartbeats 2000000 in
set_option maxRecDepth 100000 in
theorem fits11_any (a : Option Addr) (len cap : Nat) (xs : List A11) (w : World) (row : ARow11 w a len xs) :
    Calls Tryz.prog 5 #[.slice a len cap] w fun e w' => ∃ b, e = .returned (.bool b) ∧ (b = true → len ≤ 80 ∧ ∀ x ∈ xs, x.n ≤ 80) ∧ w = w' := by
  have hbig := row.2.1
  have HL := Lib.hid row.1
  have HRow := Lib.hid row
  clear row
  go_enter Tryz.func5, Tryz.ntmps5
  go_wp2
  go_loopw [3] (fun i wr => ∃ j : Nat, j ≤ len ∧ j ≤ 81 ∧ i = .int .i64 j ∧ (∀ q x, q < j → xs[q]? = some x → x.n ≤ 80) ∧ wr = w) (fun i _ => len - (intOf i).toNat)
  case atStart => exact ⟨0, by omega, by omega, rfl, fun q x hq => by omega, rfl⟩
  case round =>
    obtain ⟨j, hj, hj2, rfl, hz, rfl⟩ := hrel
    have HZ := Lib.hid hz
    clear hz
    by_cases hlt : j < len
    · have j1 : (j : Int) < (len : Int) := by omega
      have j0 : (0 : Int) ≤ (j : Int) := by omega
      by_cases h80 : j ≤ 80
      · have j2 : (j : Int) ≤ 80 := by omega
        obtain ⟨b, off, x, rfl, hx, hr, hok⟩ := HRow.out.at_ hlt
        have cx : wr.cell? ⟨b, off + j * 28 + 27, none⟩ = some (.slice x.a x.n x.cap) := hr 27 _ rfl
        have hb := World.block_lt_of_cell? _ _ cx
        have HX := Lib.hid hx
        have hxn := hok.2.2.2.2.2.2.2.1
        clear hr hok hx
        obtain ⟨xn, hxe⟩ : ∃ xn, xn = x.n := ⟨_, rfl⟩
        have HXE := Lib.hid hxe
        rw [← hxe] at cx hxn
        clear hxe
        by_cases hn : xn ≤ 80
        · have n1 : ¬ (80 : Int) < (xn : Int) := by omega
          go_wp2
          go_roundw
          case rel => exact ⟨j + 1, by omega, by omega, by go_num, fun q y hq hy => by
            rcases Nat.lt_succ_iff_lt_or_eq.1 hq with c | c
            · exact HZ.out q y c hy
            · rw [c, HX.out] at hy
              injection hy with hy
              rw [← hy, ← HXE.out]
              exact hn, by trivial⟩
          case measure => simp [intOf] <;> omega
        · have n1 : (80 : Int) < (xn : Int) := by omega
          go_wp2
          go_ret
          exact Or.inl ⟨rfl, rfl⟩
      · have j2 : ¬ (j : Int) ≤ 80 := by omega
        have hl80 : ¬ (len : Int) ≤ 80 := by omega
        go_wp2
        go_ret
        exact Or.inl ⟨rfl, rfl⟩
    · obtain rfl : j = len := by omega
      go_wp2
      go_ret
      refine ⟨decide ((j : Int) ≤ 80), rfl, fun c => ?_, rfl⟩
      have c' : (j : Int) ≤ 80 := by simpa using c
      refine ⟨by omega, fun x hx => ?_⟩
      obtain ⟨q, hq, e⟩ := List.mem_iff_getElem.1 hx
      exact HZ.out q x (by rw [HL.out] at hq; exact hq) (by rw [← e]; exact List.getElem?_eq_getElem hq)
end Go.Proofs.YtkondkajpmafkaaGreat
