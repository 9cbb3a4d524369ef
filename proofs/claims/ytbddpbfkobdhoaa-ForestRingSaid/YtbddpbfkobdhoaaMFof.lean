/-
  3 texts in one file, each with its own heading.
-/
import Derived.Test.YtbddpbfkobdhoaaMFod
/-
  What the calls of package forest are to answer, as one bundle; the program's forest and the reference's side by side; an act of the law of layer 9, its first two names, its step.
-/
namespace Go.Proofs.Ytbddpbfkobdhoaa
open Go.RowKit

/-- a number of 64 bits -/
def Rg (x : Int) : Prop := -9223372036854775808 ≤ x ∧ x ≤ 9223372036854775807
instance (x : Int) : Decidable (Rg x) := by unfold Rg; exact inferInstance
def Rgs (xs : List Int) : Prop := ∀ x ∈ xs, Rg x
instance (xs : List Int) : Decidable (Rgs xs) := by unfold Rgs; exact inferInstance
theorem Rgs.getD {xs : List Int} (h : Rgs xs) (i : Nat) : Rg (xs.getD i 0) := by
  cases hx : xs[i]? with
  | none => rw [List.getD, hx]; show -9223372036854775808 ≤ (0 : Int) ∧ (0 : Int) ≤ 9223372036854775807; omega
  | some y => rw [List.getD, hx]; exact h y (List.mem_of_getElem? hx)
/-- a list that is handed out: new memory, or memory that was the forest's -/
def LDr (F : Nat → Prop) (w w' : World) (xs : List Int) (v : Value) : Prop := ∃ a cap, v = .slice a xs.length cap ∧ Row w' a xs.length xs ∧ (xs.length = 0 ∨ ∀ ad, a = some ad → F ad.block ∨ w.heap.size ≤ ad.block)
theorem ldr_aw {w : World} {F Fq : Nat → Prop} {a : Option Addr} {n : Nat} (hq : ∀ b, Fq b → b < w.heap.size) (hf : ∀ b, F b → ¬ Fq b) (h : n = 0 ∨ ∀ ad, a = some ad → F ad.block ∨ w.heap.size ≤ ad.block) : Aw Fq a n := by
  refine h.imp id (fun h ad e c => ?_)
  rcases h ad e with d | d
  · exact hf _ d c
  · have := hq _ c; omega
/-- a slice as it may be -/
def CapOk (v : Value) : Prop := ∃ a n cap, v = .slice a n cap ∧ n ≤ cap
structure FC (FB : World → Nat → (Nat → Prop) → FT → Prop) : Prop where
  keep_ : ∀ w w' g F L, FB w g F L → (∀ b, F b → w'.heap[b]? = w.heap[b]?) → FB w' g F L
  inb : ∀ w g F L, FB w g F L → ∀ b, F b → b < w.heap.size
  rng : ∀ w g F L, FB w g F L → ∀ p ∈ L, Rg p.1 ∧ Rg p.2
  new : ∀ w : World, Calls Try.prog 7 #[] w fun e w' => ∃ g F, e = .returned (.pointer (some ⟨g, 0, none⟩)) ∧ FB w' g F [] ∧ (∀ b, F b → w.heap.size ≤ b) ∧ Below w.heap.size w w'
  set : ∀ (w : World) g F L (c p : Int), WF L → L.length ≤ 1000 → FB w g F L → Rg c → Rg p → Calls Try.prog 19 #[.pointer (some ⟨g, 0, none⟩), .int .i64 c, .int .i64 p] w fun e w' => e = .returned (.int .i64 (fsetE L c p)) ∧ ChF FB w w' g F (setS9 L c p)
  free : ∀ (w : World) g F L (a : Option Addr) (n cap : Nat) (xs : List Int), WF L → L.length ≤ 1000 → FB w g F L → n ≤ 1000 → Row w a n xs → Aw F a n → Rgs xs → Calls Try.prog 20 #[.pointer (some ⟨g, 0, none⟩), .slice a n cap] w fun e w' => e = .returned (.int .i64 (frN L xs : Nat)) ∧ ChF FB w w' g F (freeS L xs)
  drop : ∀ (w : World) g F L (x : Int), WF L → L.length ≤ 1000 → FB w g F L → Rg x → Calls Try.prog 21 #[.pointer (some ⟨g, 0, none⟩), .int .i64 x] w fun e w' => ∃ v, e = .returned v ∧ LDr F w w' (chF L x) v ∧ ChF FB w w' g F (dropF L x)
  parent : ∀ (w : World) g F L (x : Int), WF L → L.length ≤ 1000 → FB w g F L → Rg x → Calls Try.prog 9 #[.pointer (some ⟨g, 0, none⟩), .int .i64 x] w fun e w' => e = .returned (.tuple #[.int .i64 (parV (parO L x)), .bool (parO L x).isSome]) ∧ Below w.heap.size w w'
  children : ∀ (w : World) g F L (x : Int), WF L → L.length ≤ 1000 → FB w g F L → Rg x → Calls Try.prog 12 #[.pointer (some ⟨g, 0, none⟩), .int .i64 x] w fun e w' => ∃ v, e = .returned v ∧ LRes w w' (chF L x) v ∧ Below w.heap.size w w'
  above : ∀ (w : World) g F L (x : Int), WF L → L.length ≤ 1000 → FB w g F L → Rg x → Calls Try.prog 14 #[.pointer (some ⟨g, 0, none⟩), .int .i64 x] w fun e w' => ∃ v, e = .returned v ∧ LRes w w' (abv L x) v ∧ Below w.heap.size w w'
  under : ∀ (w : World) g F L (a : Option Addr) (n cap : Nat) (xs : List Int), WF L → L.length ≤ 1000 → FB w g F L → n ≤ 1000 → Row w a n xs → Aw F a n → Rgs xs → Calls Try.prog 16 #[.pointer (some ⟨g, 0, none⟩), .slice a n cap] w fun e w' => ∃ v, e = .returned v ∧ LRes w w' (undL L xs) v ∧ CapOk v ∧ Below w.heap.size w w'
  depth : ∀ (w : World) g F L (x : Int), WF L → L.length ≤ 1000 → FB w g F L → Rg x → Calls Try.prog 18 #[.pointer (some ⟨g, 0, none⟩), .int .i64 x] w fun e w' => e = .returned (.int .i64 ((abv L x).length + 1 : Nat)) ∧ Below w.heap.size w w'
theorem RFB.same {w w' : World} {g : Nat} {F : Nat → Prop} {L : FT} (h : RFB w g F L) (he : ∀ b, F b → w'.heap[b]? = w.heap[b]?) : RFB w' g F L := by
  obtain ⟨v, h1, h2⟩ := h
  exact ⟨v, h1.same (fun b hb => he b ((h2 b).2 hb)), h2⟩
section
variable {FB : World → Nat → (Nat → Prop) → FT → Prop}
theorem FC.keep (h : FC FB) {w w' : World} {g : Nat} {F : Nat → Prop} {L : FT} (hs : FB w g F L) (hb : Below w.heap.size w w') : FB w' g F L := h.keep_ w w' g F L hs (fun b hf => hb.block b (h.inb w g F L hs b hf))
/-- both side by side; w0: the world ahead of both -/
structure Duo9 (FB : World → Nat → (Nat → Prop) → FT → Prop) (w0 w : World) (gp gr : Nat) (Fp Fq : Nat → Prop) (Lp Lq : FT) : Prop where
  p : FB w gp Fp Lp
  q : RFB w gr Fq Lq
  far : ∀ b, Fp b → ¬ Fq b
  low : Below w0.heap.size w0 w
  np : ∀ b, Fp b → w0.heap.size ≤ b
  nq : ∀ b, Fq b → w0.heap.size ≤ b
variable {w0 w w' : World} {gp gr : Nat} {Fp Fq : Nat → Prop} {Lp Lq Lp' Lq' : FT}
theorem Duo9.keep (hC : FC FB) (h : Duo9 FB w0 w gp gr Fp Fq Lp Lq) (hb : Below w.heap.size w w') : Duo9 FB w0 w' gp gr Fp Fq Lp Lq := ⟨hC.keep h.p hb, h.q.keep hb, h.far, bthen h.low hb, h.np, h.nq⟩
theorem Duo9.prog (h : Duo9 FB w0 w gp gr Fp Fq Lp Lq) (k : ChF FB w w' gp Fp Lp') : ∃ Fp', Duo9 FB w0 w' gp gr Fp' Fq Lp' Lq := by
  obtain ⟨F', k1, k2, k3⟩ := k
  have hq := h.q.inb
  refine ⟨F', k1, h.q.same (fun b hb => k2.2.2.2.2 b (hq b hb) (fun c => h.far b c hb)), fun b hb hc => ?_, Fr.below k2 h.low h.np h.low.size, fun b hb => ?_, h.nq⟩
  · rcases k3 b hb with d | d
    · exact h.far b d hc
    · have := hq b hc; omega
  · rcases k3 b hb with d | d
    · exact h.np b d
    · exact Nat.le_trans h.low.size d
theorem Duo9.ref (hC : FC FB) (h : Duo9 FB w0 w gp gr Fp Fq Lp Lq) (k : ChF RFB w w' gr Fq Lq') : ∃ Fq', Duo9 FB w0 w' gp gr Fp Fq' Lp Lq' := by
  obtain ⟨F', k1, k2, k3⟩ := k
  have hp := hC.inb w gp Fp Lp h.p
  refine ⟨F', hC.keep_ w w' gp Fp Lp h.p (fun b hb => k2.2.2.2.2 b (hp b hb) (fun c => h.far b hb c)), k1, fun b hb hc => ?_, Fr.below k2 h.low h.nq h.low.size, h.np, fun b hb => ?_⟩
  · rcases k3 b hc with d | d
    · exact h.far b hb d
    · have := hp b hb; omega
  · rcases k3 b hb with d | d
    · exact h.nq b d
    · exact Nat.le_trans h.low.size d
/-- a slice from ahead of both is in neither's memory -/
theorem aw_old {F : Nat → Prop} {a : Option Addr} {n : Nat} {xs : List Int} (hr : Row w0 a n xs) (hn : ∀ b, F b → w0.heap.size ≤ b) : Aw F a n := by
  rcases hr.2.2 with c | ⟨b, off, e, hc⟩
  · exact Or.inl c
  · by_cases q : n = 0
    · exact Or.inl q
    · refine Or.inr (fun ad e' hf => ?_)
      have hlt := World.block_lt_of_cell? _ _ (hc 0 (by omega))
      rw [e] at e'
      injection e' with e'
      rw [← e'] at hf
      have h1 : w0.heap.size ≤ b := hn _ hf
      have h2 : b < w0.heap.size := hlt
      omega
end
/-! an act -/
structure A9 where
  k : Int
  a : Option Addr
  n : Nat
  cap : Nat
  xs : List Int
def ok9 (w : World) (x : A9) : Prop := 0 ≤ x.k ∧ x.k ≤ 255 ∧ Row w x.a x.n x.xs ∧ Rgs x.xs
set_option maxHeartbeats 2000000 in
set_option maxRecDepth 100000 in
theorem two_any (w : World) (k : Int) (a : Option Addr) (n cap : Nat) (xs : List Int) (row : Row w a n xs) :
    Calls Try.prog 23 #[.agg #[.int .u8 k, .slice a n cap]] w fun e w' => e = .returned (.tuple #[.int .i64 (xs.getD 0 0), .int .i64 (xs.getD 1 0)]) ∧ Below w.heap.size w w' := by
  have hl := row.1
  have hbig := row.2.1
  have HB : Hid (Below w.heap.size w (w.alloc (.cells #[.int .u8 k, .slice a n cap] 35))) := Lib.hid (alloc_below _ _)
  have KB := Lib.hid (Blk.new w 35 #[.int .u8 k, .slice a n cap])
  have HRow : Hid (Row (w.alloc (.cells #[.int .u8 k, .slice a n cap] 35)) a n xs) := Lib.hid (row_keep row HB.out)
  clear row
  match xs, hl, HRow with
  | [], hl, _ =>
    obtain rfl : n = 0 := hl.symm
    go_enter Try.func23, Try.ntmps23
    go_wp2
    go_ret2
    exact ⟨rfl, HB.out⟩
  | [x], hl, HRow =>
    obtain rfl : n = 1 := hl.symm
    obtain ⟨b, off, y, rfl, hy, cy⟩ := row_at HRow.out (show 0 < 1 by omega)
    have ey : y = x := by simpa using hy.symm
    subst ey
    have hbl := World.block_lt_of_cell? _ _ cy
    rw [Nat.add_zero] at cy
    clear hy
    go_enter Try.func23, Try.ntmps23
    go_wp2
    go_ret2
    exact ⟨rfl, HB.out⟩
  | x :: y :: r, hl, HRow =>
    have hn : n = r.length + 2 := hl.symm
    obtain ⟨b, off, x', rfl, hx, cx⟩ := row_at HRow.out (show 0 < n by omega)
    obtain ⟨b2, off2, y', e2, hy, cy⟩ := row_at HRow.out (show 1 < n by omega)
    injection e2 with e2
    injection e2 with e3 e4 _
    subst e3
    subst e4
    have ex : x' = x := by simpa using hx.symm
    have ey : y' = y := by simpa using hy.symm
    subst ex
    subst ey
    have hbl := World.block_lt_of_cell? _ _ cx
    have h0 : ((n : Int) == 0) = false := by simp; omega
    have h1 : ((n : Int) == 1) = false := by simp; omega
    have q0 : (0 : Int) < (n : Int) := by omega
    have q1 : (1 : Int) < (n : Int) := by omega
    clear hx hy hl hn
    go_enter Try.func23, Try.ntmps23
    go_upto_region 6 with fail
    refine fin (fun W => W.cell? ⟨w.heap.size, 1, none⟩ = some (.slice (some ⟨b, off, none⟩) n cap) ∧ W.cell? ⟨b, off, none⟩ = some (.int .i64 x') ∧ W.cell? ⟨b, off + 1, none⟩ = some (.int .i64 y') ∧ w.heap.size < W.heap.size ∧ b < W.heap.size ∧ Below w.heap.size w W) ⟨KB.out.cell 1, by simpa using cx, cy, KB.out.lt, hbl, HB.out⟩ ?_
    clear KB HB cx cy hbl HRow
    rintro W ⟨c1, cx, cy, z1, z2, hb⟩
    have HB := Lib.hid hb
    clear hb
    go_wp2
    go_quiet (fail)
    go_wp2
    go_ret2
    exact ⟨rfl, Go.below_drewN HB.out nq⟩

end Go.Proofs.Ytbddpbfkobdhoaa
/-
  A step of the law of layer 9, for any package that answers as the bundle says.
-/
namespace Go.Proofs.Ytbddpbfkobdhoaa
open Go.RowKit

section
variable {FB : World → Nat → (Nat → Prop) → FT → Prop}
variable {w0 w w' : World} {gp gr : Nat} {Fp Fq : Nat → Prop} {Lp Lq Lp' Lq' : FT}
theorem Duo9.progB (h : Duo9 FB w0 w gp gr Fp Fq Lp Lq) (k : ChF FB w w' gp Fp Lp') : ∃ Fp', Duo9 FB w0 w' gp gr Fp' Fq Lp' Lq ∧ ∀ b, b < w.heap.size → ¬ Fp b → w'.heap[b]? = w.heap[b]? ∧ ¬ Fp' b := by
  have k0 := k
  obtain ⟨F', k1, k2, k3⟩ := k
  have hq := h.q.inb
  refine ⟨F', ⟨k1, h.q.same (fun b hb => k2.2.2.2.2 b (hq b hb) (fun c => h.far b c hb)), fun b hb hc => ?_, Fr.below k2 h.low h.np h.low.size, fun b hb => ?_, h.nq⟩, fun b hl hn => ⟨k2.2.2.2.2 b hl hn, fun c => ?_⟩⟩
  · rcases k3 b hb with d | d
    · exact h.far b d hc
    · have := hq b hc; omega
  · rcases k3 b hb with d | d
    · exact h.np b d
    · exact Nat.le_trans h.low.size d
  · rcases k3 b c with d | d
    · exact hn d
    · omega
theorem Duo9.refB (hC : FC FB) (h : Duo9 FB w0 w gp gr Fp Fq Lp Lq) (k : ChF RFB w w' gr Fq Lq') : ∃ Fq', Duo9 FB w0 w' gp gr Fp Fq' Lp Lq' ∧ ∀ b, b < w.heap.size → ¬ Fq b → w'.heap[b]? = w.heap[b]? ∧ ¬ Fq' b := by
  obtain ⟨F', k1, k2, k3⟩ := k
  have hp := hC.inb w gp Fp Lp h.p
  refine ⟨F', ⟨hC.keep_ w w' gp Fp Lp h.p (fun b hb => k2.2.2.2.2 b (hp b hb) (fun c => h.far b hb c)), k1, fun b hb hc => ?_, Fr.below k2 h.low h.nq h.low.size, h.np, fun b hb => ?_⟩, fun b hl hn => ⟨k2.2.2.2.2 b hl hn, fun c => ?_⟩⟩
  · rcases k3 b hc with d | d
    · exact h.far b hb d
    · have := hp b hb; omega
  · rcases k3 b hb with d | d
    · exact h.nq b d
    · exact Nat.le_trans h.low.size d
  · rcases k3 b c with d | d
    · exact hn d
    · omega
set_option maxHeartbeats 8000000 in
set_option maxRecDepth 100000 in
theorem step9_any (hC : FC FB) {L : FT} (h : Duo9 FB w0 w gp gr Fp Fq L L) (hW : WF L) (hL : L.length ≤ 500) (k : Int) (hk0 : 0 ≤ k) (hk1 : k ≤ 255) (a : Option Addr) (n cap : Nat) (xs : List Int) (row : Row w0 a n xs) (hn : n ≤ 1000) (hrg : Rgs xs) :
    Calls Try.prog 8 #[.pointer (some ⟨gp, 0, none⟩), .pointer (some ⟨gr, 0, none⟩), .agg #[.int .u8 k, .slice a n cap]] w fun e w' => e = .returned (.bool true) ∧ ∃ Fp' Fq', Duo9 FB w0 w' gp gr Fp' Fq' (doF L k xs) (doF L k xs) := by
  have hbig := row.2.1
  have HRow := Lib.hid row
  have hgr : gr < w.heap.size := h.q.inH
  have hal : Below w.heap.size w (w.alloc (.cells #[.int .u8 k, .slice a n cap] 35)) := alloc_below _ _
  have HD := Lib.hid (h.keep hC hal)
  have KB := Lib.hid (Blk.new w 35 #[.int .u8 k, .slice a n cap])
  have HNp : Hid (¬ Fp w.heap.size) := Lib.hid (fun c => by have := hC.inb w gp Fp L h.p _ c; omega)
  have HNq : Hid (¬ Fq w.heap.size) := Lib.hid (fun c => by have := h.q.inb _ c; omega)
  have HW := Lib.hid hW
  have HRg := Lib.hid hrg
  have HRx := Lib.hid (hrg.getD 0)
  have HRy := Lib.hid (hrg.getD 1)
  clear hrg
  have HTwo : Hid (∀ u, Below w0.heap.size w0 u → Calls Try.prog 23 #[.agg #[.int .u8 k, .slice a n cap]] u fun e w' => e = .returned (.tuple #[.int .i64 (xs.getD 0 0), .int .i64 (xs.getD 1 0)]) ∧ Below u.heap.size u w') := Lib.hid (fun u q => two_any u k a n cap xs (row_keep row q))
  obtain ⟨x, hx⟩ : ∃ x, x = xs.getD 0 0 := ⟨_, rfl⟩
  obtain ⟨y, hy⟩ : ∃ y, y = xs.getD 1 0 := ⟨_, rfl⟩
  rw [← hx, ← hy] at HTwo
  rw [← hx] at HRx
  rw [← hy] at HRy
  have HX := Lib.hid hx
  have HY := Lib.hid hy
  clear h hW row hal hx hy
  go_enter Try.func8, Try.ntmps8
  go_upto_region 1 with fail
  refine fin (fun W => Duo9 FB w0 W gp gr Fp Fq L L ∧ Blk W w.heap.size 35 #[.int .u8 k, .slice a n cap]) ⟨HD.out, KB.out⟩ ?_
  clear HD KB
  rintro W ⟨hd, kb⟩
  have HD := Lib.hid hd
  have KB := Lib.hid kb
  have c0 : W.cell? ⟨w.heap.size, 0, none⟩ = some (.int .u8 k) := kb.cell 0
  have c1 : W.cell? ⟨w.heap.size, 1, none⟩ = some (.slice a n cap) := kb.cell 1
  have zb := kb.lt
  have hd2 := hd.low
  clear hd kb
  go_wp2_with fail
  refine (HTwo.out _ hd2).mono ?_
  rintro e w1 ⟨rfl, b1⟩
  replace HD := Lib.hid (HD.out.keep hC b1)
  replace KB := Lib.hid (Blk.keep KB.out b1)
  clear b1 hd2 c0 c1 zb HTwo
  have c0 : w1.cell? ⟨w.heap.size, 0, none⟩ = some (.int .u8 k) := KB.out.cell 0
  have c1 : w1.cell? ⟨w.heap.size, 1, none⟩ = some (.slice a n cap) := KB.out.cell 1
  have zb := KB.out.lt
  have hgr1 : gr < w1.heap.size := HD.out.q.inH
  by_cases h4 : k % 6 = 4
  · have HDo : Hid (doF L k xs = freeS L xs) := Lib.hid (by unfold doF; rw [if_pos h4])
    go_wp2
    clear h4
    go_loopw [9, 10, 11] (fun v9 i _ wr => ∃ j : Nat, j ≤ n ∧ i = .int .i64 j ∧ v9 = .int .i64 (frN L (xs.take j) : Nat) ∧ ∃ Fq', Duo9 FB w0 wr gp gr Fp Fq' L (freeS L (xs.take j)) ∧ ¬ Fq' w.heap.size ∧ Blk wr w.heap.size 35 #[.int .u8 k, .slice a n cap]) (fun _ i _ _ => n - (ivl i).toNat)
    case atStart => exact ⟨0, by omega, rfl, rfl, Fq, HD.out, HNq.out, KB.out⟩
    case round =>
      clear c0 c1 zb hgr1 HD KB
      obtain ⟨j, hj, rfl, rfl, F1, hd, hnf, kb⟩ := hrel
      have HD := Lib.hid hd
      have HNf := Lib.hid hnf
      have KB := Lib.hid kb
      have c1 : wr.cell? ⟨w.heap.size, 1, none⟩ = some (.slice a n cap) := kb.cell 1
      have zb := kb.lt
      have hgw : gr < wr.heap.size := hd.q.inH
      have HR := Lib.hid (row_keep HRow.out hd.low)
      have hfl := frN_le (xs.take j) L
      rw [List.length_take] at hfl
      obtain ⟨cn, hcn⟩ : ∃ cn, cn = frN L (xs.take j) := ⟨_, rfl⟩
      rw [← hcn] at hfl ⊢
      have HCn := Lib.hid hcn
      clear hd hnf kb hcn
      by_cases hlt : j < n
      · obtain ⟨b, off, z, rfl, hz, cz⟩ := row_at HR.out hlt
        have hbl := World.block_lt_of_cell? _ _ cz
        have HS := Lib.hid (frees_snoc (L := L) hz)
        have HSn := Lib.hid (frN_snoc (L := L) hz)
        rw [← HCn.out] at HSn
        have j0 : (0 : Int) ≤ (j : Int) := by omega
        have j1 : (j : Int) < (n : Int) := by omega
        have HF := Lib.hid (rfree_any HD.out.q (Nat.le_trans (frees_len _ _) (by omega)) z)
        obtain ⟨hb, hhb⟩ : ∃ hb, hb = (parO (freeS L (xs.take j)) z).isSome := ⟨_, rfl⟩
        rw [← hhb] at HF HSn
        clear hz hhb
        go_wp2_with fail
        refine HF.out.mono ?_
        rintro e w2 ⟨rfl, hch⟩
        obtain ⟨F2, hd2, hkeep⟩ := HD.out.refB hC hch
        have HN2 : Hid (∃ Fq', Duo9 FB w0 w2 gp gr Fp Fq' L (freeS L (xs.take (j + 1))) ∧ ¬ Fq' w.heap.size ∧ Blk w2 w.heap.size 35 #[.int .u8 k, .slice (some ⟨b, off, none⟩) n cap]) := Lib.hid (by
          obtain ⟨e1, e2⟩ := hkeep w.heap.size zb HNf.out
          exact ⟨F2, by rw [HS.out]; exact hd2, e2, KB.out.same e1⟩)
        clear hch hd2 hkeep HF
        cases hb with
        | false =>
          go_wp2
          go_roundw
          case rel => exact ⟨j + 1, by omega, by go_num, by rw [HSn.out]; rfl, HN2.out⟩
          case measure => simp [ivl] <;> omega
        | true =>
          go_wp2
          go_roundw
          case rel => exact ⟨j + 1, by omega, by go_num, by rw [HSn.out]; go_num, HN2.out⟩
          case measure => simp [ivl] <;> omega
      · obtain rfl : j = n := by omega
        have e0 : xs.take j = xs := List.take_of_length_le (by rw [HRow.out.1]; exact Nat.le_refl _)
        rw [e0] at HD HCn
        have HF := Lib.hid (hC.free wr gp Fp L a j cap xs HW.out (by omega) HD.out.p hn HR.out (aw_old HRow.out HD.out.np) HRg.out)
        rw [← HCn.out] at HF
        have j1 : ¬ (j : Int) < (j : Int) := by omega
        clear e0
        go_wp2_with fail
        refine HF.out.mono ?_
        rintro e w2 ⟨rfl, hch⟩
        obtain ⟨F2, hd2⟩ := HD.out.prog hch
        have HE : Hid (∃ Fp' Fq', Duo9 FB w0 w2 gp gr Fp' Fq' (doF L k xs) (doF L k xs)) := Lib.hid ⟨F2, F1, by rw [HDo.out]; exact hd2⟩
        clear hch hd2 HF
        go_wp2
        go_ret
        exact ⟨by simp, HE.out⟩
  · by_cases h5 : k % 6 = 5
    · have HDo : Hid (doF L k xs = dropF L x) := Lib.hid (by unfold doF; rw [if_neg h4, if_pos h5, HX.out])
      have HP := Lib.hid (hC.drop w1 gp Fp L x HW.out (by omega) HD.out.p HRx.out)
      have HPs : Hid (∀ u a b n m cap cap' (zs : List Int), Row u a n zs → Row u b m zs → Calls Try.prog 11 #[.slice a n cap, .slice b m cap'] u fun e w' => e = .returned (.bool true) ∧ Below u.heap.size u w') := Lib.hid (fun u a b n m cap cap' zs r1 r2 => (psame_any a b n m cap cap' zs zs u r1 r2).mono fun _ _ q => ⟨by rw [q.1]; simp, q.2⟩)
      obtain ⟨C, hCC⟩ : ∃ C, C = chF L x := ⟨_, rfl⟩
      rw [← hCC] at HP
      have HCC := Lib.hid hCC
      clear hCC
      go_wp2_with fail
      refine HP.out.mono ?_
      rintro e w2 ⟨v, rfl, ⟨va, vcap, hv, vrow, vnew⟩, hch⟩
      subst hv
      have hch2 := hch
      obtain ⟨F2, hd2, -⟩ := HD.out.progB hch
      have HVr := Lib.hid vrow
      have HVn := Lib.hid vnew
      have hs12 : w1.heap.size ≤ w2.heap.size := by obtain ⟨_, _, q, _⟩ := hch2; exact q.2.2.2.1
      have HQin : Hid (∀ b, Fq b → b < w1.heap.size) := Lib.hid HD.out.q.inb
      have HFar : Hid (∀ b, Fp b → ¬ Fq b) := Lib.hid HD.out.far
      have hgr2 : gr < w2.heap.size := hd2.q.inH
      have HR := Lib.hid (rdrop_any hd2.q (show L.length ≤ 1000 by omega) x)
      rw [← HCC.out] at HR
      have HD2 := Lib.hid hd2
      clear vrow vnew hch hch2 hd2 HP HD c0 c1 zb hgr1
      go_wp2_with fail
      refine HR.out.mono ?_
      rintro e w3 ⟨u, rfl, ⟨ua, ucap, hu, urow, -⟩, hch⟩
      subst hu
      obtain ⟨F3, hd3, -⟩ := HD2.out.refB hC hch
      have HV3 : Hid (Row w3 va C.length C) := Lib.hid (by
        obtain ⟨_, _, q, _⟩ := hch
        exact row_frame HVr.out (ldr_aw HQin.out HFar.out HVn.out) q)
      have HS := Lib.hid (HPs.out w3 va ua C.length C.length vcap ucap C HV3.out urow)
      have HE : Hid (Duo9 FB w0 w3 gp gr F2 F3 (doF L k xs) (doF L k xs)) := Lib.hid (by rw [HDo.out]; exact hd3)
      clear urow hch hd3 HR
      go_wp2_with fail
      refine HS.out.mono ?_
      rintro e w4 ⟨rfl, b4⟩
      have HE4 := Lib.hid (HE.out.keep hC b4)
      clear b4
      go_wp2
      go_ret
      exact ⟨rfl, F2, F3, HE4.out⟩
    · have HDo : Hid (doF L k xs = setS9 L x y) := Lib.hid (by unfold doF; rw [if_neg h4, if_neg h5, HX.out, HY.out])
      have HP := Lib.hid (hC.set w1 gp Fp L x y HW.out (by omega) HD.out.p HRx.out HRy.out)
      obtain ⟨E, hE⟩ : ∃ E, E = fsetE L x y := ⟨_, rfl⟩
      rw [← hE] at HP
      have HE := Lib.hid hE
      have h4b : decide (k % 6 = 4) = false := decide_eq_false h4
      have h5b : decide (k % 6 = 5) = false := decide_eq_false h5
      have h4c : (k % 6 == 4) = false := by simpa using h4
      have h5c : (k % 6 == 5) = false := by simpa using h5
      clear hE
      go_wp2_with fail
      refine HP.out.mono ?_
      rintro e w2 ⟨rfl, hch⟩
      obtain ⟨F2, hd2⟩ := HD.out.prog hch
      have hgr2 : gr < w2.heap.size := hd2.q.inH
      have HR := Lib.hid (rset_any hd2.q HW.out (show L.length ≤ 1000 by omega) x y)
      rw [← HE.out] at HR
      have HD2 := Lib.hid hd2
      clear hch hd2 HP HD c0 c1 zb hgr1
      go_wp2_with fail
      refine HR.out.mono ?_
      rintro e w3 ⟨rfl, hch⟩
      obtain ⟨F3, hd3⟩ := HD2.out.ref hC hch
      have HE3 : Hid (Duo9 FB w0 w3 gp gr F2 F3 (doF L k xs) (doF L k xs)) := Lib.hid (by rw [HDo.out]; exact hd3)
      clear hch hd3 HR
      go_wp2
      go_ret
      exact ⟨by simp, F2, F3, HE3.out⟩
end
end Go.Proofs.Ytbddpbfkobdhoaa
/-
  The acts of the law of layer 9 as a row; what Fits answers; its live question, for any package that answers as the bundle says.
-/
namespace Go.Proofs.Ytbddpbfkobdhoaa
open Go.RowKit

def c9 (x : A9) : List Value := [.int .u8 x.k, .slice x.a x.n x.cap]
def ARow9 (w : World) (a : Option Addr) (len : Nat) (xs : List A9) : Prop := xs.length = len ∧ len ≤ 9223372036854775807 ∧ (len = 0 ∨ ∃ b off, a = some ⟨b, off, none⟩ ∧ b < w.heap.size ∧ ∀ i x, xs[i]? = some x → w.rangeAt b (off + i * 2) (c9 x) ∧ ok9 w x)
theorem ok9.keep {w w' : World} {x : A9} (h : ok9 w x) (hb : Below w.heap.size w w') : ok9 w' x := ⟨h.1, h.2.1, row_keep h.2.2.1 hb, h.2.2.2⟩
theorem ARow9.keep {w w' : World} {a : Option Addr} {n : Nat} {xs : List A9} (h : ARow9 w a n xs) (hb : Below w.heap.size w w') : ARow9 w' a n xs := ⟨h.1, h.2.1, h.2.2.imp id (fun ⟨b, o, e, hl, hr⟩ => ⟨b, o, e, Nat.lt_of_lt_of_le hl hb.size, fun i x hx => ⟨range_same (hr i x hx).1 (hb.block b hl), (hr i x hx).2.keep hb⟩⟩)⟩
theorem ARow9.at_ {w : World} {a : Option Addr} {n : Nat} {xs : List A9} (h : ARow9 w a n xs) {i : Nat} (hi : i < n) : ∃ b off x, a = some ⟨b, off, none⟩ ∧ xs[i]? = some x ∧ w.rangeAt b (off + i * 2) (c9 x) ∧ ok9 w x := by
  obtain ⟨h1, h2, h3⟩ := h
  rcases h3 with h3 | ⟨b, off, e, hb, hr⟩
  · omega
  · have hx : xs[i]? = some (xs[i]'(by omega)) := List.getElem?_eq_getElem (by omega)
    exact ⟨b, off, _, e, hx, hr i _ hx⟩
set_option maxHeartbeats 2000000 in
set_option maxRecDepth 100000 in
theorem fits9_any (a : Option Addr) (len cap : Nat) (xs : List A9) (w : World) (row : ARow9 w a len xs) :
    Calls Try.prog 5 #[.slice a len cap] w fun e w' => ∃ b, e = .returned (.bool b) ∧ (b = true → len ≤ 80 ∧ ∀ x ∈ xs, x.n ≤ 80) ∧ w = w' := by
  have hbig := row.2.1
  have HL := Lib.hid row.1
  have HRow := Lib.hid row
  clear row
  go_enter Try.func5, Try.ntmps5
  go_wp2
  go_loopw [3] (fun i wr => ∃ j : Nat, j ≤ len ∧ j ≤ 81 ∧ i = .int .i64 j ∧ (∀ q x, q < j → xs[q]? = some x → x.n ≤ 80) ∧ wr = w) (fun i _ => len - (ivl i).toNat)
  case atStart => exact ⟨0, by omega, by omega, rfl, fun q x hq => by omega, rfl⟩
  case round =>
    obtain ⟨j, hj, hj2, rfl, hz, rfl⟩ := hrel
    have HZ := Lib.hid hz
    clear hz
    by_cases hlt : j < len
    · have j1 : (j : Int) < (len : Int) := by omega
      have j0 : (0 : Int) ≤ (j : Int) := by omega
      by_cases h80 : j ≤ 80
      · have j2 : (j : Int) ≤ 80 := by omega
        obtain ⟨b, off, x, rfl, hx, hr, hok⟩ := HRow.out.at_ hlt
        have cx : wr.cell? ⟨b, off + j * 2 + 1, none⟩ = some (.slice x.a x.n x.cap) := hr 1 _ rfl
        have hb := World.block_lt_of_cell? _ _ cx
        have HX := Lib.hid hx
        have hxn := hok.2.2.1.2.1
        clear hr hok hx
        obtain ⟨xn, hxe⟩ : ∃ xn, xn = x.n := ⟨_, rfl⟩
        have HXE := Lib.hid hxe
        rw [← hxe] at cx hxn
        clear hxe
        by_cases hn : xn ≤ 80
        · have n1 : ¬ (80 : Int) < (xn : Int) := by omega
          go_wp2
          go_roundw
          case rel => exact ⟨j + 1, by omega, by omega, by go_num, fun q y hq hy => by
            rcases Nat.lt_succ_iff_lt_or_eq.1 hq with c | c
            · exact HZ.out q y c hy
            · rw [c, HX.out] at hy
              injection hy with hy
              rw [← hy, ← HXE.out]
              exact hn, by trivial⟩
          case measure => simp [ivl] <;> omega
        · have n1 : (80 : Int) < (xn : Int) := by omega
          go_wp2
          go_ret
          exact Or.inl ⟨rfl, rfl⟩
      · have j2 : ¬ (j : Int) ≤ 80 := by omega
        have hl80 : ¬ (len : Int) ≤ 80 := by omega
        go_wp2
        go_ret
        exact Or.inl ⟨rfl, rfl⟩
    · obtain rfl : j = len := by omega
      go_wp2
      go_ret
      refine ⟨decide ((j : Int) ≤ 80), rfl, fun c => ?_, rfl⟩
      have c' : (j : Int) ≤ 80 := by simpa using c
      refine ⟨by omega, fun x hx => ?_⟩
      obtain ⟨q, hq, e⟩ := List.mem_iff_getElem.1 hx
      exact HZ.out q x (by rw [HL.out] at hq; exact hq) (by rw [← e]; exact List.getElem?_eq_getElem hq)

section
variable {FB : World → Nat → (Nat → Prop) → FT → Prop}
/-- it stays behind w -/
theorem ChF.low {w w1 w2 : World} {g : Nat} {F : Nat → Prop} {L : FT} (h : ChF FB w1 w2 g F L) (hb : Below w.heap.size w w1) (hF : ∀ b, F b → w.heap.size ≤ b) : ∃ F', FB w2 g F' L ∧ (∀ b, F' b → w.heap.size ≤ b) ∧ Below w.heap.size w w2 := by
  obtain ⟨F', h1, h2, h3⟩ := h
  exact ⟨F', h1, fun b c => (h3 b c).elim (hF b) (fun d => Nat.le_trans hb.size d), Fr.below h2 hb hF hb.size⟩
theorem row_lit (w : World) (t : TypeId) (xs : List Int) (h : xs.length ≤ 1000) : Row (w.alloc (.cells (xs.map (Value.int .i64)).toArray t)) (some ⟨w.heap.size, 0, none⟩) xs.length xs := by
  refine ⟨rfl, by omega, Or.inr ⟨w.heap.size, 0, rfl, fun i hi => ?_⟩⟩
  have := (Blk.new w t (xs.map (Value.int .i64)).toArray).cell (0 + i)
  rw [this]
  simp [hi, List.getD]
def l91 : FT := [(5, 3)]
def l92 : FT := [(5, 3), (4, 3)]
def l93 : FT := [(5, 3), (4, 3), (7, 5)]
theorem f91 : setS9 [] 5 3 = l91 ∧ setS9 l91 4 3 = l92 ∧ setS9 l92 7 5 = l93 ∧ setS9 l93 3 7 = l93 := by decide +kernel
theorem e91 : fsetE [] 5 3 = 0 ∧ fsetE l91 4 3 = 0 ∧ fsetE l92 7 5 = 0 ∧ fsetE l93 3 7 = 8 := by decide +kernel
theorem u91 : undL l93 [7, 3] = [3, 4, 5, 7] ∧ abv l93 7 = [5, 3] := by decide +kernel
theorem wf91 : WF l91 ∧ WF l92 ∧ WF l93 := by
  have h1 : WF l91 := f91.1 ▸ WF.nil.set9 5 3
  have h2 : WF l92 := f91.2.1 ▸ h1.set9 4 3
  exact ⟨h1, h2, f91.2.2.1 ▸ h2.set9 7 5⟩
set_option maxHeartbeats 4000000 in
set_option maxRecDepth 100000 in
theorem alive9_any (hC : FC FB) (w : World) :
    Calls Try.prog 6 #[] w fun e w' => e = .returned (.bool true) ∧ Below w.heap.size w w' := by
  have HN := Lib.hid (hC.new w)
  have HS1 : Hid (∀ u g F, FB u g F [] → Calls Try.prog 19 #[.pointer (some ⟨g, 0, none⟩), .int .i64 5, .int .i64 3] u fun e w' => e = .returned (.int .i64 0) ∧ ChF FB u w' g F l91) := Lib.hid (fun u g F h => by have := hC.set u g F [] 5 3 WF.nil (by show 0 ≤ 1000; omega) h (by decide) (by decide); rwa [e91.1, f91.1] at this)
  have HS2 : Hid (∀ u g F, FB u g F l91 → Calls Try.prog 19 #[.pointer (some ⟨g, 0, none⟩), .int .i64 4, .int .i64 3] u fun e w' => e = .returned (.int .i64 0) ∧ ChF FB u w' g F l92) := Lib.hid (fun u g F h => by have := hC.set u g F l91 4 3 wf91.1 (by decide) h (by decide) (by decide); rwa [e91.2.1, f91.2.1] at this)
  have HS3 : Hid (∀ u g F, FB u g F l92 → Calls Try.prog 19 #[.pointer (some ⟨g, 0, none⟩), .int .i64 7, .int .i64 5] u fun e w' => e = .returned (.int .i64 0) ∧ ChF FB u w' g F l93) := Lib.hid (fun u g F h => by have := hC.set u g F l92 7 5 wf91.2.1 (by decide) h (by decide) (by decide); rwa [e91.2.2.1, f91.2.2.1] at this)
  have HS4 : Hid (∀ u g F, FB u g F l93 → Calls Try.prog 19 #[.pointer (some ⟨g, 0, none⟩), .int .i64 3, .int .i64 7] u fun e w' => e = .returned (.int .i64 8) ∧ ChF FB u w' g F l93) := Lib.hid (fun u g F h => by have := hC.set u g F l93 3 7 wf91.2.2 (by decide) h (by decide) (by decide); rwa [e91.2.2.2, f91.2.2.2] at this)
  have HU : Hid (∀ u g F, FB u g F l93 → Calls Try.prog 16 #[.pointer (some ⟨g, 0, none⟩), .slice (some ⟨u.heap.size, 0, none⟩) 2 2] (u.alloc (.cells #[.int .i64 7, .int .i64 3] 23)) fun e w' => ∃ a cap, e = .returned (.slice a 4 cap) ∧ Row w' a 4 [3, 4, 5, 7] ∧ Below u.heap.size u w') := Lib.hid (fun u g F h => by
    have hal : Below u.heap.size u (u.alloc (.cells #[.int .i64 7, .int .i64 3] 23)) := alloc_below _ _
    refine (hC.under _ g F l93 (some ⟨u.heap.size, 0, none⟩) 2 2 [7, 3] wf91.2.2 (by decide) (hC.keep h hal) (by omega) (row2 u 7 3 _) (Or.inr (fun ad e c => by
      injection e with e
      rw [← e] at c
      have := hC.inb u g F l93 h _ c
      exact Nat.lt_irrefl _ this)) (by decide)).mono ?_
    rintro e w' ⟨v, rfl, ⟨a, cap, hv, hr, _⟩, _, hb⟩
    rw [u91.1] at hv hr
    exact ⟨a, cap, by rw [hv]; rfl, hr, bthen hal hb⟩)
  have HA : Hid (∀ u g F, FB u g F l93 → Calls Try.prog 14 #[.pointer (some ⟨g, 0, none⟩), .int .i64 7] u fun e w' => ∃ a cap, e = .returned (.slice a 2 cap) ∧ Row w' a 2 [5, 3] ∧ Below u.heap.size u w') := Lib.hid (fun u g F h => by
    refine (hC.above u g F l93 7 wf91.2.2 (by decide) h (by decide)).mono ?_
    rintro e w' ⟨v, rfl, ⟨a, cap, hv, hr, _⟩, hb⟩
    rw [u91.2] at hv hr
    exact ⟨a, cap, by rw [hv]; rfl, hr, hb⟩)
  have HDp : Hid (∀ u g F, FB u g F l93 → Calls Try.prog 18 #[.pointer (some ⟨g, 0, none⟩), .int .i64 7] u fun e w' => e = .returned (.int .i64 3) ∧ Below u.heap.size u w') := Lib.hid (fun u g F h => by
    refine (hC.depth u g F l93 7 wf91.2.2 (by decide) h (by decide)).mono ?_
    rintro e w' ⟨rfl, hb⟩
    rw [u91.2]
    exact ⟨rfl, hb⟩)
  have HPs : Hid (∀ u a b n m cap cap' (zs : List Int), Row u a n zs → Row u b m zs → Calls Try.prog 11 #[.slice a n cap, .slice b m cap'] u fun e w' => e = .returned (.bool true) ∧ Below u.heap.size u w') := Lib.hid (fun u a b n m cap cap' zs r1 r2 => (psame_any a b n m cap cap' zs zs u r1 r2).mono fun _ _ q => ⟨by rw [q.1]; simp, q.2⟩)
  obtain ⟨M1, hM1⟩ : ∃ M1, M1 = l91 := ⟨_, rfl⟩
  obtain ⟨M2, hM2⟩ : ∃ M2, M2 = l92 := ⟨_, rfl⟩
  obtain ⟨M3, hM3⟩ : ∃ M3, M3 = l93 := ⟨_, rfl⟩
  rw [← hM1] at HS1 HS2
  rw [← hM2] at HS2 HS3
  rw [← hM3] at HS3 HS4 HU HA HDp
  clear hM1 hM2 hM3
  go_enter Try.func6, Try.ntmps6
  go_wp2_with fail
  refine HN.out.mono ?_
  rintro e w1 ⟨g, F, rfl, hf, hF, hb⟩
  have HF := Lib.hid hF
  have HB := Lib.hid hb
  have HFB := Lib.hid hf
  clear hf hF hb
  go_wp2_with fail
  refine (HS1.out _ _ _ HFB.out).mono ?_
  rintro e w2 ⟨rfl, hc⟩
  obtain ⟨F1, hf, hF, hb⟩ := hc.low HB.out HF.out
  replace HF := Lib.hid hF
  replace HB := Lib.hid hb
  replace HFB := Lib.hid hf
  clear hc hf hF hb
  go_wp2_with fail
  refine (HS2.out _ _ _ HFB.out).mono ?_
  rintro e w3 ⟨rfl, hc⟩
  obtain ⟨F2, hf, hF, hb⟩ := hc.low HB.out HF.out
  replace HF := Lib.hid hF
  replace HB := Lib.hid hb
  replace HFB := Lib.hid hf
  clear hc hf hF hb
  go_wp2_with fail
  refine (HS3.out _ _ _ HFB.out).mono ?_
  rintro e w4 ⟨rfl, hc⟩
  obtain ⟨F3, hf, hF, hb⟩ := hc.low HB.out HF.out
  replace HF := Lib.hid hF
  replace HB := Lib.hid hb
  replace HFB := Lib.hid hf
  clear hc hf hF hb
  go_wp2_with fail
  refine (HS4.out _ _ _ HFB.out).mono ?_
  rintro e w5 ⟨rfl, hc⟩
  obtain ⟨F4, hf, hF, hb⟩ := hc.low HB.out HF.out
  replace HF := Lib.hid hF
  replace HB := Lib.hid hb
  replace HFB := Lib.hid hf
  clear hc hf hF hb
  go_wp2_with fail
  refine (HU.out _ _ _ HFB.out).mono ?_
  rintro e w6 ⟨ua, ucap, rfl, hr, hb⟩
  have HR := Lib.hid hr
  replace HFB := Lib.hid (hC.keep HFB.out hb)
  replace HB := Lib.hid (bthen HB.out hb)
  clear hr hb
  have HS := Lib.hid (HPs.out (w6.alloc (.cells #[.int .i64 3, .int .i64 4, .int .i64 5, .int .i64 7] 23)) ua (some ⟨w6.heap.size, 0, none⟩) 4 4 ucap 4 [3, 4, 5, 7] (row_keep HR.out (alloc_below _ _)) (row_lit w6 23 [3, 4, 5, 7] (by decide)))
  go_wp2_with fail
  refine HS.out.mono ?_
  rintro e w7 ⟨rfl, hb⟩
  have hb7 : Below w6.heap.size w6 w7 := bthen (alloc_below _ _) hb
  replace HFB := Lib.hid (hC.keep HFB.out hb7)
  replace HB := Lib.hid (bthen HB.out hb7)
  clear hb hb7 HS HR
  go_wp2_with fail
  refine (HA.out _ _ _ HFB.out).mono ?_
  rintro e w8 ⟨aa, acap, rfl, hr, hb⟩
  have HR := Lib.hid hr
  replace HFB := Lib.hid (hC.keep HFB.out hb)
  replace HB := Lib.hid (bthen HB.out hb)
  clear hr hb
  have HS := Lib.hid (HPs.out (w8.alloc (.cells #[.int .i64 5, .int .i64 3] 23)) aa (some ⟨w8.heap.size, 0, none⟩) 2 2 acap 2 [5, 3] (row_keep HR.out (alloc_below _ _)) (row_lit w8 23 [5, 3] (by decide)))
  go_wp2_with fail
  refine HS.out.mono ?_
  rintro e w9 ⟨rfl, hb⟩
  have hb9 : Below w8.heap.size w8 w9 := bthen (alloc_below _ _) hb
  replace HFB := Lib.hid (hC.keep HFB.out hb9)
  replace HB := Lib.hid (bthen HB.out hb9)
  clear hb hb9 HS HR
  go_wp2_with fail
  refine (HDp.out _ _ _ HFB.out).mono ?_
  rintro e w10 ⟨rfl, hb⟩
  replace HB := Lib.hid (bthen HB.out hb)
  clear hb
  go_wp2
  go_ret
  exact ⟨rfl, HB.out⟩
end
end Go.Proofs.Ytbddpbfkobdhoaa
