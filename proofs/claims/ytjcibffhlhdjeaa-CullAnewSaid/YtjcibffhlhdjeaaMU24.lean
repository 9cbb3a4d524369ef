/-
  The live question of layer 15, for any package that answers as the bundle says.
-/
import Derived.Test.YtjcibffhlhdjeaaMU23
namespace Go.Proofs.Ytjcibffhlhdjeaa
open Go.RowKit

/-- one by itself; w0: the world ahead of it -/
structure Uno15 (PB : World → Nat → (Nat → Prop) → Ku → Prop) (w0 w : World) (g : Nat) (F : Nat → Prop) (K : Ku) : Prop where
  p : PB w g F K
  low : Below w0.heap.size w0 w
  np : ∀ b, F b → w0.heap.size ≤ b
section
variable {PB : World → Nat → (Nat → Prop) → Ku → Prop} {w0 w w' : World} {g : Nat} {F : Nat → Prop} {K K' : Ku}
theorem Uno15.keep (hP : KB15 PB) (h : Uno15 PB w0 w g F K) (hb : Below w.heap.size w w') : Uno15 PB w0 w' g F K := ⟨hP.keep h.p hb, bthen h.low hb, h.np⟩
theorem Uno15.step (h : Uno15 PB w0 w g F K) (k : ChX PB w w' g F K') : ∃ F', Uno15 PB w0 w' g F' K' ∧ (∀ b, b < w.heap.size → ¬ F b → w'.heap[b]? = w.heap[b]? ∧ ¬ F' b) ∧ w.heap.size ≤ w'.heap.size := by
  obtain ⟨F', k1, k2, k3⟩ := k
  refine ⟨F', ⟨k1, Fr.below k2 h.low h.np h.low.size, fun b hb => ?_⟩, fun b hl hn => ⟨k2.2.2.2.2 b hl hn, fun c => ?_⟩, k2.2.2.2.1⟩
  · rcases k3 b hb with d | d
    · exact h.np b d
    · exact Nat.le_trans h.low.size d
  · rcases k3 b c with d | d
    · exact hn d
    · omega
end
def rA15 : Rc := ⟨4, 0, 0, 0, false, 1, 0, 0, 0, 0, 0, 0⟩
def rB15 : Rc := ⟨2, 0, 0, 0, false, 2, 0, 0, 0, 0, 0, 0⟩
def eA15 (i : Nat) : Int := if i = 3 then 9 else 0
def vA15 : Vw := ⟨[], eA15, 3⟩
def KA1 : Ku := putsK Ku0 [rA15, rB15]
def KA2 : Ku := lookS KA1 vA15
def KA3 : Ku := runS15 KA2
def KA4 : Ku := lookS KA3 vA15
def KA5 : Ku := runS15 KA4
def KA6 : Ku := dropsK KA5 [2]
theorem ka_l1 : lookA KA1 vA15 = (true, 0) := by decide +kernel
theorem ka_l3 : lookA KA3 vA15 = (false, 0) := by decide +kernel
theorem ka_r2 : KA2.D.length = 2 ∧ runE15 KA2 = 0 := by decide +kernel
theorem ka_r4 : KA4.D.length = 0 ∧ runE15 KA4 = 0 := by decide +kernel
theorem ka_s3 : seenK KA3 = [(2, 9), (4, 9)] := by decide +kernel
theorem ka_s6 : (seenK KA6).length = 1 := by decide +kernel
theorem ka_n : KA2.n = 0 ∧ KA4.n = 2 ∧ KA6.n = 2 := by decide +kernel
theorem ka_len : KA1.R.length = 2 ∧ KA2.R.length = 2 ∧ KA3.R.length = 2 ∧ KA4.R.length = 2 ∧ KA5.R.length = 2 ∧ KA6.R.length = 1 := by decide +kernel
theorem ka_rg : ∀ r ∈ [rA15, rB15], Rg r.id := fun r h => by
  simp only [List.mem_cons, List.not_mem_nil, or_false] at h
  rcases h with rfl | rfl
  · exact ⟨by decide, by decide⟩
  · exact ⟨by decide, by decide⟩
theorem ka_ok1 : KOk KA1 ∧ VOk KA1 := ⟨KOk.zero.puts ka_rg, VOk.puts (fun v h => nomatch (show (none : Option Vw) = some v from h)) _⟩
theorem ka_ok2 : KOk KA2 ∧ VOk KA2 := ⟨ka_ok1.1.look _, ka_ok1.2.look _⟩
theorem ka_ok3 : KOk KA3 ∧ VOk KA3 := ⟨ka_ok2.1.run, ka_ok2.2.run⟩
theorem ka_ok4 : KOk KA4 ∧ VOk KA4 := ⟨ka_ok3.1.look _, ka_ok3.2.look _⟩
theorem ka_ok5 : KOk KA5 ∧ VOk KA5 := ⟨ka_ok4.1.run, ka_ok4.2.run⟩
theorem ka_ok6 : KOk KA6 ∧ VOk KA6 := ⟨ka_ok5.1.drops, ka_ok5.2.drops _⟩
theorem row2_15 {W : World} {g : Nat} {t : TypeId} {x y : Rc} (k : Blk W g t (cRc x ++ cRc y).toArray) : RcRow W (some ⟨g, 0, none⟩) 2 [x, y] := by
  refine ⟨rfl, by omega, Or.inr ⟨g, 0, rfl, k.lt, fun i z hz => ?_⟩⟩
  match i, hz with
  | 0, hz =>
    injection hz with hz
    subst hz
    intro j v hv
    have hj : j < 12 := by have := (List.getElem?_eq_some_iff.1 hv).1; rw [cRc_len] at this; exact this
    refine blk_whole k (0 * 12 + j) v ?_ |> fun q => by simpa using q
    rw [show 0 * 12 + j = j by omega, List.getElem?_append_left (by rw [cRc_len]; exact hj)]
    exact hv
  | 1, hz =>
    injection hz with hz
    subst hz
    intro j v hv
    refine blk_whole k (1 * 12 + j) v ?_ |> fun q => by simpa using q
    rw [List.getElem?_append_right (by rw [cRc_len]; omega), cRc_len, show 1 * 12 + j - 12 = j by omega]
    exact hv
section
variable {PB : World → Nat → (Nat → Prop) → Ku → Prop}
set_option maxHeartbeats 16000000 in
set_option maxRecDepth 100000 in
theorem alive15_any (hC : KC PB) (w : World) : Calls Try.prog 5 #[] w fun e w' => e = .returned (.bool true) ∧ Below w.heap.size w w' := by
  have HNew : Hid (Calls Try.prog 6 #[] w fun e w' => ∃ g F, e = .returned (.pointer (some ⟨g, 0, none⟩)) ∧ Uno15 PB w w' g F Ku0) := Lib.hid ((hC.new w).mono fun e w' => by
    rintro ⟨g, F, h1, h2, h3, h4⟩
    exact ⟨g, F, h1, h2, h4, h3⟩)
  have HPut : Hid (∀ u g F a, Uno15 PB w u g F Ku0 → RcRow u a 2 [rA15, rB15] → AwX F a 2 → Calls Try.prog 8 #[.pointer (some ⟨g, 0, none⟩), .slice a 2 2] u fun e w' => e = .returned (.tuple #[]) ∧ ∃ F', Uno15 PB w w' g F' KA1) := Lib.hid (fun u g F a d r ha => (hC.put u g F Ku0 a 2 2 [rA15, rB15] KOk.zero (by decide) (by decide) d.p r ha ka_rg).mono fun e w' q => by
    obtain ⟨F', k1, _⟩ := d.step q.2
    exact ⟨q.1, F', k1⟩)
  have HLk1 : Hid (∀ u g F, Uno15 PB w u g F KA1 → Calls Try.prog 9 #[.pointer (some ⟨g, 0, none⟩), .agg #[.slice none 0 0, .int .i64 0, .int .i64 0, .int .i64 0, .int .i64 9, .int .i64 3]] u fun e w' => e = .returned (.tuple #[.bool true, .int .i64 0]) ∧ ∃ F', Uno15 PB w w' g F' KA2) := Lib.hid (fun u g F d => by
    refine (hC.look u g F KA1 none 0 0 [] eA15 3 ka_ok1.1 ka_ok1.2 (by rw [ka_len.1]; decide) d.p ⟨rfl, by omega, Or.inl rfl⟩ (Or.inl rfl) (by omega)).mono fun e w' q => ?_
    obtain ⟨F', k1, _⟩ := d.step q.2
    have e1 := q.1
    rw [show (⟨[], eA15, 3⟩ : Vw) = vA15 from rfl, ka_l1] at e1
    exact ⟨e1, F', k1⟩)
  have HRn2 : Hid (∀ u g F, Uno15 PB w u g F KA2 → Calls Try.prog 10 #[.pointer (some ⟨g, 0, none⟩)] u fun e w' => e = .returned (.tuple #[.int .i64 2, .int .i64 0]) ∧ ∃ F', Uno15 PB w w' g F' KA3) := Lib.hid (fun u g F d => by
    refine (hC.run u g F KA2 ka_ok2.1 ka_ok2.2 (by rw [ka_len.2.1]; decide) (by rw [ka_n.1]; decide) (by rw [ka_n.1]; decide) d.p).mono fun e w' q => ?_
    obtain ⟨F', k1, _⟩ := d.step q.2
    have e1 := q.1
    rw [ka_r2.1, ka_r2.2] at e1
    exact ⟨e1, F', k1⟩)
  have HSn3 : Hid (∀ u g F, Uno15 PB w u g F KA3 → Calls Try.prog 13 #[.pointer (some ⟨g, 0, none⟩)] u fun e w' => ∃ b off cap, e = .returned (.slice (some ⟨b, off, none⟩) 2 cap) ∧ w'.cell? ⟨b, off, none⟩ = some (.int .i64 2) ∧ w'.cell? ⟨b, off + 1, none⟩ = some (.int .i64 9) ∧ ¬ F b ∧ b < w'.heap.size ∧ Uno15 PB w w' g F KA3) := Lib.hid (fun u g F d => by
    refine (hC.seen u g F KA3 ka_ok3.1 ka_ok3.2 (by rw [ka_len.2.2.1]; decide) d.p).mono fun e w' q => ?_
    obtain ⟨a, cap, e1, r, nw, hb⟩ := q
    rw [ka_s3] at e1 r nw
    obtain ⟨b, off, x, rfl, hbl, hx, hr⟩ := r.at_ (i := 0) (by decide)
    injection hx with hx
    subst hx
    have n1 : u.heap.size ≤ b := by
      rcases nw with c | c
      · cases c
      · exact c _ rfl
    exact ⟨b, off, cap, e1, by simpa using hr 0 _ rfl, by simpa using hr 1 _ rfl, fun c => by have := hC.kb.inb _ _ _ _ d.p b c; omega, hbl, d.keep hC.kb hb⟩)
  have HLk3 : Hid (∀ u g F b off, Uno15 PB w u g F KA3 → u.cell? ⟨b, off, none⟩ = some (.int .i64 2) → u.cell? ⟨b, off + 1, none⟩ = some (.int .i64 9) → ¬ F b → b < u.heap.size → Calls Try.prog 9 #[.pointer (some ⟨g, 0, none⟩), .agg #[.slice none 0 0, .int .i64 0, .int .i64 0, .int .i64 0, .int .i64 9, .int .i64 3]] u fun e w' => e = .returned (.tuple #[.bool false, .int .i64 0]) ∧ ∃ F', Uno15 PB w w' g F' KA4 ∧ w'.cell? ⟨b, off, none⟩ = some (.int .i64 2) ∧ w'.cell? ⟨b, off + 1, none⟩ = some (.int .i64 9) ∧ ¬ F' b ∧ b < w'.heap.size) := Lib.hid (fun u g F b off d c0 c1 hn hl => by
    refine (hC.look u g F KA3 none 0 0 [] eA15 3 ka_ok3.1 ka_ok3.2 (by rw [ka_len.2.2.1]; decide) d.p ⟨rfl, by omega, Or.inl rfl⟩ (Or.inl rfl) (by omega)).mono fun e w' q => ?_
    obtain ⟨F', k1, k2, k3⟩ := d.step q.2
    have e1 := q.1
    rw [show (⟨[], eA15, 3⟩ : Vw) = vA15 from rfl, ka_l3] at e1
    obtain ⟨s1, s2⟩ := k2 b hl hn
    exact ⟨e1, F', k1, by simp only [World.cell?] at c0 ⊢; rw [s1]; exact c0, by simp only [World.cell?] at c1 ⊢; rw [s1]; exact c1, s2, by omega⟩)
  have HRn4 : Hid (∀ u g F b off, Uno15 PB w u g F KA4 → u.cell? ⟨b, off, none⟩ = some (.int .i64 2) → u.cell? ⟨b, off + 1, none⟩ = some (.int .i64 9) → ¬ F b → b < u.heap.size → Calls Try.prog 10 #[.pointer (some ⟨g, 0, none⟩)] u fun e w' => e = .returned (.tuple #[.int .i64 0, .int .i64 0]) ∧ ∃ F', Uno15 PB w w' g F' KA5 ∧ w'.cell? ⟨b, off, none⟩ = some (.int .i64 2) ∧ w'.cell? ⟨b, off + 1, none⟩ = some (.int .i64 9) ∧ ¬ F' b ∧ b < w'.heap.size) := Lib.hid (fun u g F b off d c0 c1 hn hl => by
    refine (hC.run u g F KA4 ka_ok4.1 ka_ok4.2 (by rw [ka_len.2.2.2.1]; decide) (by rw [ka_n.2.1]; decide) (by rw [ka_n.2.1]; decide) d.p).mono fun e w' q => ?_
    obtain ⟨F', k1, k2, k3⟩ := d.step q.2
    have e1 := q.1
    rw [ka_r4.1, ka_r4.2] at e1
    obtain ⟨s1, s2⟩ := k2 b hl hn
    exact ⟨e1, F', k1, by simp only [World.cell?] at c0 ⊢; rw [s1]; exact c0, by simp only [World.cell?] at c1 ⊢; rw [s1]; exact c1, s2, by omega⟩)
  have HDr : Hid (∀ u g F b off ab, Uno15 PB w u g F KA5 → u.cell? ⟨b, off, none⟩ = some (.int .i64 2) → u.cell? ⟨b, off + 1, none⟩ = some (.int .i64 9) → ¬ F b → b < u.heap.size → Row u (some ⟨ab, 0, none⟩) 1 [2] → ¬ F ab → Calls Try.prog 14 #[.pointer (some ⟨g, 0, none⟩), .slice (some ⟨ab, 0, none⟩) 1 1] u fun e w' => (∃ v, e = .returned v) ∧ ∃ F', Uno15 PB w w' g F' KA6 ∧ w'.cell? ⟨b, off, none⟩ = some (.int .i64 2) ∧ w'.cell? ⟨b, off + 1, none⟩ = some (.int .i64 9) ∧ b < w'.heap.size) := Lib.hid (fun u g F b off ab d c0 c1 hn hl r hab => by
    refine (hC.drop u g F KA5 (some ⟨ab, 0, none⟩) 1 1 [2] ka_ok5.1 (by rw [ka_len.2.2.2.2.1]; decide) (by omega) d.p r (Or.inr (fun ad e c => by injection e with e; rw [← e] at c; exact hab c)) (fun x hx => by
      rw [List.mem_singleton.1 hx]
      exact ⟨by decide, by decide⟩)).mono fun e w' q => ?_
    obtain ⟨F', k1, k2, k3⟩ := d.step q.2
    obtain ⟨s1, s2⟩ := k2 b hl hn
    exact ⟨⟨_, q.1⟩, F', k1, by simp only [World.cell?] at c0 ⊢; rw [s1]; exact c0, by simp only [World.cell?] at c1 ⊢; rw [s1]; exact c1, by omega⟩)
  have HSn6 : Hid (∀ u g F, Uno15 PB w u g F KA6 → Calls Try.prog 13 #[.pointer (some ⟨g, 0, none⟩)] u fun e w' => ∃ a cap, e = .returned (.slice a 1 cap) ∧ Uno15 PB w w' g F KA6) := Lib.hid (fun u g F d => by
    refine (hC.seen u g F KA6 ka_ok6.1 ka_ok6.2 (by rw [ka_len.2.2.2.2.2]; decide) d.p).mono fun e w' q => ?_
    obtain ⟨a, cap, e1, r, nw, hb⟩ := q
    rw [ka_s6] at e1
    exact ⟨a, cap, e1, d.keep hC.kb hb⟩)
  have HSt : Hid (∀ u g F, Uno15 PB w u g F KA6 → Calls Try.prog 15 #[.pointer (some ⟨g, 0, none⟩)] u fun e w' => e = .returned (.int .i64 2) ∧ Below w.heap.size w w') := Lib.hid (fun u g F d => by
    refine (hC.steps u g F KA6 (by rw [ka_n.2.2]; decide) (by rw [ka_n.2.2]; decide) d.p).mono fun e w' q => ?_
    have e1 := q.1
    rw [ka_n.2.2] at e1
    exact ⟨e1, (d.keep hC.kb q.2).low⟩)
  have HKp : Hid (∀ u u' g F K, Uno15 PB w u g F K → Below u.heap.size u u' → Uno15 PB w u' g F K) := Lib.hid (fun u u' g F K d b => d.keep hC.kb b)
  have HIb : Hid (∀ u g F K, Uno15 PB w u g F K → ∀ b, F b → b < u.heap.size) := Lib.hid (fun u g F K d => hC.kb.inb _ _ _ _ d.p)
  have HBr : Hid (∀ W : World, RcRow (W.alloc (.cells #[.int .i64 4, .int .i64 0, .int .i64 0, .int .i64 0, .bool false, .int .i64 1, .int .i64 0, .int .i64 0, .int .i64 0, .int .i64 0, .int .i64 0, .int .i64 0, .int .i64 2, .int .i64 0, .int .i64 0, .int .i64 0, .bool false, .int .i64 2, .int .i64 0, .int .i64 0, .int .i64 0, .int .i64 0, .int .i64 0, .int .i64 0] 52)) (some ⟨W.heap.size, 0, none⟩) 2 [rA15, rB15]) := Lib.hid (fun W => row2_15 (Blk.new W _ _))
  have hbi : ∀ W, (Instr.buildSlice 30 1 #[(0, .int .i64 2)]).run Try.prog W = .ok (.slice (some ⟨W.heap.size, 0, none⟩) 1 1) (W.alloc (.cells #[.int .i64 2] 46)) := fun W => bs_id 2 W
  clear hC
  go_enter Try.func5, Try.ntmps5
  go_wp2_with fail
  refine HNew.out.mono ?_
  rintro e w1 ⟨g, F, rfl, d1⟩
  have HD1 := Lib.hid d1
  clear HNew d1
  go_wp2_with fail
  refine (HPut.out _ g F (some ⟨w1.heap.size, 0, none⟩) (HKp.out _ _ _ _ _ HD1.out (alloc_below _ _)) (HBr.out w1) (Or.inr (fun ad e c => by
    injection e with e
    rw [← e] at c
    have h1 : w1.heap.size < w1.heap.size := HIb.out _ _ _ _ HD1.out _ c
    omega))).mono ?_
  rintro e w2 ⟨rfl, F2, d2⟩
  have HD2 := Lib.hid d2
  clear HPut HD1 HBr d2
  go_wp2_with fail
  refine (HLk1.out _ _ _ HD2.out).mono ?_
  rintro e w3 ⟨rfl, F3, d3⟩
  have HD3 := Lib.hid d3
  clear HLk1 HD2 d3
  go_wp2_with fail
  refine (HRn2.out _ _ _ HD3.out).mono ?_
  rintro e w4 ⟨rfl, F4, d4⟩
  have HD4 := Lib.hid d4
  clear HRn2 HD3 d4
  go_wp2_with fail
  refine (HSn3.out _ _ _ HD4.out).mono ?_
  rintro e w5 ⟨b, off, cap, rfl, c50, c51, n5, l5, d5⟩
  have HD5 := Lib.hid (And.intro d5 (And.intro c50 (And.intro c51 (And.intro n5 l5))))
  clear HSn3 HD4 d5 c50 c51 n5 l5
  go_wp2_with fail
  refine (HLk3.out _ _ _ b off HD5.out.1 HD5.out.2.1 HD5.out.2.2.1 HD5.out.2.2.2.1 HD5.out.2.2.2.2).mono ?_
  rintro e w6 ⟨rfl, F6, d6, c60, c61, n6, l6⟩
  have HD6 := Lib.hid (And.intro d6 (And.intro c60 (And.intro c61 (And.intro n6 l6))))
  clear HLk3 HD5 d6 c60 c61 n6 l6
  go_wp2_with fail
  refine (HRn4.out _ _ _ b off HD6.out.1 HD6.out.2.1 HD6.out.2.2.1 HD6.out.2.2.2.1 HD6.out.2.2.2.2).mono ?_
  rintro e w7 ⟨rfl, F7, d7, c70, c71, n7, l7⟩
  have HD7 := Lib.hid d7
  have HA7 : Hid (Below w7.heap.size w7 (w7.alloc (.cells #[.int .i64 2] 46))) := Lib.hid (alloc_below _ _)
  have HR7 : Hid (Row (w7.alloc (.cells #[.int .i64 2] 46)) (some ⟨w7.heap.size, 0, none⟩) 1 [2]) := Lib.hid ⟨rfl, by omega, Or.inr ⟨w7.heap.size, 0, rfl, fun i hi => by
    obtain rfl : i = 0 := by omega
    exact (Blk.new w7 46 #[.int .i64 2]).cell 0⟩⟩
  have HC7 := Lib.hid (And.intro (cell_keep c70 HA7.out) (And.intro (cell_keep c71 HA7.out) (And.intro n7 l7)))
  clear HRn4 HD6 d7 c70 c71 n7 l7
  go_wp2_with fail
  refine (HDr.out _ _ _ b off w7.heap.size (HKp.out _ _ _ _ _ HD7.out HA7.out) HC7.out.1 HC7.out.2.1 HC7.out.2.2.1 (Nat.lt_of_lt_of_le HC7.out.2.2.2 HA7.out.size) HR7.out (fun c => by
    have h1 : w7.heap.size < w7.heap.size := HIb.out _ _ _ _ HD7.out _ c
    omega)).mono ?_
  rintro e w8 ⟨⟨v8, rfl⟩, F8, d8, c80, c81, l8⟩
  have HD8 := Lib.hid d8
  clear HDr HD7 HA7 HR7 HC7 d8 hbi
  go_wp2_with fail
  refine (HSn6.out _ _ _ HD8.out).mono ?_
  rintro e w9 ⟨a9, cap9, rfl, d9⟩
  have HD9 := Lib.hid d9
  clear HSn6 HD8 d9 c80 c81 l8
  go_wp2_with fail
  refine (HSt.out _ _ _ HD9.out).mono ?_
  rintro e w10 ⟨rfl, b10⟩
  have HB := Lib.hid b10
  clear HSt HD9 b10
  go_wp2
  go_ret
  exact ⟨rfl, HB.out⟩
end
end Go.Proofs.Ytjcibffhlhdjeaa
