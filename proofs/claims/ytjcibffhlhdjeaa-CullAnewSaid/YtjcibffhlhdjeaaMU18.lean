/-
  14 texts in one file, each with its own heading.
-/
import Derived.Test.YtjcibffhlhdjeaaMU16
import Derived.Test.YtjcibffhlhdjeaaMU17
import Derived.Test.YtjcibffhlhdjeaaMU03
import Derived.Test.YtjcibffhlhdjeaaMU14
import Derived.Test.YtjcibffhlhdjeaaMU10
import Derived.BigQuiet
import Derived.Test.YtjcibffhlhdjeaaRows
import Derived.Test.YtjcibffhlhdjeaaMU13
import Derived.WalkKit
import Derived.ProofKit
import Derived.OpenShut
import Derived.ShutString
import Derived.ChangeOld
import Derived.Below
import Derived.Deep.Slices
import Derived.Laws.IdiomArrays
import Derived.Test.YtjcibffhlhdjeaaMU07
import Derived.Test.YtjcibffhlhdjeaaMU04
/-
  The reference's forest in memory: pairs; what its Parent, Above and Free of layer 9 answer.
-/
namespace Go.Proofs.Ytjcibffhlhdjeaa
open Go.RowKit

section
variable {w w' : World} {g : Nat} {v : Value} {L : FT} {F : Nat → Prop}
end
structure Nd where
  id : Int
  par : Int
  pl : Nat → Int
  hid : Bool
instance : Inhabited Nd := ⟨⟨0, 0, fun _ => 0, false⟩⟩
structure Stt where
  id : Int
  wo : Nat → Int
  sh : Bool
instance : Inhabited Stt := ⟨⟨0, fun _ => 0, false⟩⟩
structure FD where
  L : List Nd
  dirty : List Int
  begun : Bool
  sts : List Stt
  steps : Nat
structure Acc where
  out : List Stt
  least : Int
  e : Int
section
variable {α : Type} {f : α → Int} {L : List α} {x : Int} {n : α}
end
structure A15 where
  k : Int
  pa : Option Addr
  pn : Nat
  pc : Nat
  P : List (Nat → Int)
  E : Nat → Int
  m : Int
  ra : Option Addr
  rn : Nat
  rc : Nat
  L : List Rc
  ia : Option Addr
  iN : Nat
  ic : Nat
  I : List Int
def ok15 (w : World) (x : A15) : Prop := 0 ≤ x.k ∧ x.k ≤ 255 ∧ PlRow w x.pa x.pn x.P ∧ (RcRow w x.ra x.rn x.L ∧ ∀ r ∈ x.L, Rg r.id) ∧ Row w x.ia x.iN x.I ∧ Rgs x.I
def c15 (x : A15) : List Value := .int .u8 x.k :: (cVw (.slice x.pa x.pn x.pc) x.E x.m ++ [.slice x.ra x.rn x.rc, .slice x.ia x.iN x.ic])
theorem c15_len (x : A15) : (c15 x).length = 9 := rfl
def ARow15 (w : World) (a : Option Addr) (len : Nat) (xs : List A15) : Prop := xs.length = len ∧ len ≤ 9223372036854775807 ∧ (len = 0 ∨ ∃ b off, a = some ⟨b, off, none⟩ ∧ b < w.heap.size ∧ ∀ i x, xs[i]? = some x → w.rangeAt b (off + i * 9) (c15 x) ∧ ok15 w x)
theorem ok15.keep {w w' : World} {x : A15} (h : ok15 w x) (hb : Below w.heap.size w w') : ok15 w' x := ⟨h.1, h.2.1, h.2.2.1.keep hb, ⟨h.2.2.2.1.1.keep hb, h.2.2.2.1.2⟩, row_keep h.2.2.2.2.1 hb, h.2.2.2.2.2⟩
theorem ARow15.keep {w w' : World} {a : Option Addr} {n : Nat} {xs : List A15} (h : ARow15 w a n xs) (hb : Below w.heap.size w w') : ARow15 w' a n xs := ⟨h.1, h.2.1, h.2.2.imp id (fun ⟨b, o, e, hl, hr⟩ => ⟨b, o, e, Nat.lt_of_lt_of_le hl hb.size, fun i x hx => ⟨range_same (hr i x hx).1 (hb.block b hl), (hr i x hx).2.keep hb⟩⟩)⟩
theorem ARow15.at_ {w : World} {a : Option Addr} {n : Nat} {xs : List A15} (h : ARow15 w a n xs) {i : Nat} (hi : i < n) : ∃ b off x, a = some ⟨b, off, none⟩ ∧ xs[i]? = some x ∧ w.rangeAt b (off + i * 9) (c15 x) ∧ ok15 w x := by
  obtain ⟨h1, h2, h3⟩ := h
  rcases h3 with h3 | ⟨b, off, e, hb, hr⟩
  · omega
  · have hx : xs[i]? = some (xs[i]'(by omega)) := List.getElem?_eq_getElem (by omega)
    exact ⟨b, off, _, e, hx, hr i _ hx⟩
def suA15 (xs : List A15) (j : Nat) : Nat := ((xs.take j).map (fun x => x.rn + x.iN)).sum
theorem suA15_step {xs : List A15} {j : Nat} {x : A15} (h : xs[j]? = some x) : suA15 xs (j + 1) = suA15 xs j + (x.rn + x.iN) := by
  unfold suA15
  rw [List.take_add_one, h, List.map_append, List.sum_append]
  simp
def small15 (x : A15) : Prop := x.pn ≤ 40 ∧ x.rn ≤ 40 ∧ x.iN ≤ 40
set_option maxHeartbeats 4000000 in
set_option maxRecDepth 100000 in
theorem fits15_any (a : Option Addr) (len cap : Nat) (xs : List A15) (w : World) (row : ARow15 w a len xs) :
    Calls Try.prog 4 #[.slice a len cap] w fun e w' => ∃ b, e = .returned (.bool b) ∧ (b = true → len ≤ 40 ∧ (∀ j x, j < len → xs[j]? = some x → small15 x) ∧ ∀ j, j ≤ len → suA15 xs j ≤ 160) ∧ Below w.heap.size w w' := by
  have hbig := row.2.1
  have HL := Lib.hid row.1
  have HRow : Hid (∀ u, Below w.heap.size w u → ARow15 u a len xs) := Lib.hid (fun u q => row.keep q)
  clear row
  go_enter Try.func4, Try.ntmps4
  go_wp2
  go_loopw [3, 4] (fun v3 i wr => ∃ j : Nat, j ≤ len ∧ j ≤ 41 ∧ i = .int .i64 j ∧ v3 = .int .i64 (suA15 xs j : Nat) ∧ (∀ q, q ≤ j → suA15 xs q ≤ 160) ∧ (∀ q x, q < j → xs[q]? = some x → small15 x) ∧ Below w.heap.size w wr) (fun _ i _ => len - (ivl i).toNat)
  case atStart => exact ⟨0, by omega, by omega, rfl, rfl, fun q hq => (by rw [show q = 0 by omega]; exact Nat.zero_le _), fun q _ hq => by omega, Below.refl _ _⟩
  case round =>
    obtain ⟨j, hj, hj2, rfl, rfl, hz, hsm, hb⟩ := hrel
    have HZ := Lib.hid hz
    have HSm := Lib.hid hsm
    have HB := Lib.hid hb
    have hrw := HRow.out wr hb
    have hs80 := hz j (Nat.le_refl _)
    clear hz hb hsm
    by_cases hlt : j < len
    · have j1 : (j : Int) < (len : Int) := by omega
      have j0 : (0 : Int) ≤ (j : Int) := by omega
      by_cases h30 : j ≤ 40
      · have j2 : (j : Int) ≤ 40 := by omega
        obtain ⟨b, off, x, rfl, hx, hr, hok⟩ := hrw.at_ hlt
        have c0 : wr.cell? ⟨b, off + j * 9 + 1, none⟩ = some (.slice x.pa x.pn x.pc) := hr 1 _ rfl
        have c1 : wr.cell? ⟨b, off + j * 9 + 7, none⟩ = some (.slice x.ra x.rn x.rc) := hr 7 _ rfl
        have c2 : wr.cell? ⟨b, off + j * 9 + 8, none⟩ = some (.slice x.ia x.iN x.ic) := hr 8 _ rfl
        have hbl := World.block_lt_of_cell? _ _ c1
        have HSu := Lib.hid (suA15_step hx)
        have HX := Lib.hid hx
        have hn0 := hok.2.2.1.2.1
        have hn1 := hok.2.2.2.1.1.2.1
        have hn2 := hok.2.2.2.2.1.2.1
        obtain ⟨xp, hxp⟩ : ∃ xp, xp = x.pn := ⟨_, rfl⟩
        obtain ⟨xn, hxn⟩ : ∃ xn, xn = x.rn := ⟨_, rfl⟩
        obtain ⟨xm, hxm⟩ : ∃ xm, xm = x.iN := ⟨_, rfl⟩
        obtain ⟨s, hs⟩ : ∃ s, s = suA15 xs j := ⟨_, rfl⟩
        have HSx : Hid (xp ≤ 40 ∧ xn ≤ 40 ∧ xm ≤ 40 → small15 x) := Lib.hid (fun q => ⟨by rw [← hxp]; exact q.1, by rw [← hxn]; exact q.2.1, by rw [← hxm]; exact q.2.2⟩)
        rw [← hxp] at c0 hn0
        rw [← hxn] at c1 HSu hn1
        rw [← hxm] at c2 HSu hn2
        rw [← hs] at HSu hs80 ⊢
        clear hrw hx hr hok hxp hxn hxm hs
        by_cases hg0 : xp ≤ 40
        · have g0 : ¬ (40 : Int) < (xp : Int) := by omega
          by_cases hg1 : xn ≤ 40
          · have g1 : ¬ (40 : Int) < (xn : Int) := by omega
            by_cases hg2 : xm ≤ 40
            · have g2 : ¬ (40 : Int) < (xm : Int) := by omega
              have HSy := Lib.hid (HSx.out ⟨hg0, hg1, hg2⟩)
              have w1 : IntKind.i64.wrap ((s : Int) + (xn : Int)) = (s : Int) + (xn : Int) := by rw [IntKind.wrap_i64]; omega
              have w2 : IntKind.i64.wrap ((s : Int) + (xn : Int) + (xm : Int)) = (s : Int) + (xn : Int) + (xm : Int) := by rw [IntKind.wrap_i64]; omega
              clear HSx
              go_wp2
              go_quiet (fail)
              have HB2 := Lib.hid (Go.below_drewN HB.out nq)
              by_cases h80 : s + (xn + xm) ≤ 160
              · have g3 : ¬ (160 : Int) < (s : Int) + (xn : Int) + (xm : Int) := by omega
                go_wp2
                go_roundw
                case rel => exact ⟨j + 1, by omega, by omega, by go_num, by rw [HSu.out]; simp only [Value.int.injEq, true_and]; omega, fun q hq => by
                  rcases Nat.lt_or_ge q (j + 1) with c | c
                  · exact HZ.out q (by omega)
                  · obtain rfl : q = j + 1 := by omega
                    rw [HSu.out]; exact h80, fun q y hq hy => by
                  rcases Nat.lt_or_ge q j with c | c
                  · exact HSm.out q y c hy
                  · obtain rfl : q = j := by omega
                    have e : x = y := Option.some.inj (HX.out.symm.trans hy)
                    rw [← e]; exact HSy.out, HB2.out⟩
                case measure => simp [ivl] <;> omega
              · have g3 : (160 : Int) < (s : Int) + (xn : Int) + (xm : Int) := by omega
                go_wp2
                go_ret
                first | exact ⟨false, rfl, fun c => (by cases c), HB2.out⟩ | exact Or.inl ⟨rfl, HB2.out⟩
            · have g2 : (40 : Int) < (xm : Int) := by omega
              go_wp2
              go_ret
              first | exact ⟨false, rfl, fun c => (by cases c), HB.out⟩ | exact Or.inl ⟨rfl, HB.out⟩
          · have g1 : (40 : Int) < (xn : Int) := by omega
            go_wp2
            go_ret
            first | exact ⟨false, rfl, fun c => (by cases c), HB.out⟩ | exact Or.inl ⟨rfl, HB.out⟩
        · have g0 : (40 : Int) < (xp : Int) := by omega
          go_wp2
          go_ret
          first | exact ⟨false, rfl, fun c => (by cases c), HB.out⟩ | exact Or.inl ⟨rfl, HB.out⟩
      · have j2 : ¬ (j : Int) ≤ 40 := by omega
        have hl30 : ¬ (len : Int) ≤ 40 := by omega
        go_wp2
        go_ret
        first | exact ⟨false, rfl, fun c => (by cases c), HB.out⟩ | exact Or.inl ⟨rfl, HB.out⟩
    · obtain rfl : j = len := by omega
      clear hrw
      go_wp2
      go_ret
      refine ⟨decide ((j : Int) ≤ 40), rfl, fun c => ?_, HB.out⟩
      have c' : (j : Int) ≤ 40 := by simpa using c
      exact ⟨by omega, HSm.out, HZ.out⟩
end Go.Proofs.Ytjcibffhlhdjeaa
namespace Go.Proofs.Ytjcibffhlhdjeaa
open Go.ChangeShapes Go.WideShapes Go.ChangeAt Go.RowKit Go.Deep
set_option linter.unusedVariables false

instance : Inhabited A15 := ⟨⟨0, none, 0, 0, [], fun _ => 0, 0, none, 0, 0, [], none, 0, 0, []⟩⟩
section
variable {H : Type} {enc : TypeId × Value → H} {w : World} {base : Nat} {held : Bool}
theorem open_ids15 {fuel : Nat} {cs : List Value} {x : DataW H × List MemPlace} (h : DataW.trod enc Try.prog w base (fun _ => true) held fuel 30 cs = some x) : ∃ a len cap zs, cs = [.slice a len cap] ∧ Row w a len zs ∧ Rgs zs := by
  rcases open_ints Try.underlying30 Try.underlying46 (by kernel_rfl) h with ⟨hcs, _⟩ | ⟨ad, l, c, zs, hcs, _, hl, hm, hz, _, hcell, hwz⟩
  · exact ⟨none, 0, 0, [], hcs, ⟨rfl, by omega, .inl rfl⟩, fun x hx => by cases hx⟩
  · unfold maxLen at hm
    simp only [if_true] at hz
    refine ⟨some ad, l, c, zs.take l, hcs, ⟨by rw [List.length_take]; omega, by omega, ?_⟩, fun x hx => rg_wf12 (hwz x (List.mem_of_mem_take hx))⟩
    by_cases h0 : l = 0
    · exact .inl h0
    · obtain ⟨b, off, spot⟩ := ad
      have hspot : spot = none := by simpa [Addr.add] using World.cell?_spot (hcell 0 (by omega))
      subst hspot
      refine .inr ⟨b, off, rfl, fun i hi => ?_⟩
      have := hcell i (by omega)
      rw [Addr.add_mid] at this
      rw [this]
      simp [hi]
theorem act_open15 {fuel : Nat} {cs : List Value} {x : DataW H × List MemPlace} (hl : cs.length = 9) (h : DataW.trod enc Try.prog w base (fun _ => true) held fuel 45 cs = some x) : ∃ a : A15, cs = c15 a ∧ ok15 w a := by
  obtain ⟨xs, n, _, _, _, hxl, hx⟩ := DataW.trod_struct Try.underlying45 h
  have hxl2 : xs.length = 4 := hxl
  have hc0 : Try.prog.cellsOf 5 = 1 := by kernel_rfl
  have f0 : DataW.trod enc Try.prog w base (fun _ => true) held n 5 ((cs.drop 0).take 1) = some (xs[0]'(by omega)) := by
    have := (hx 0 _ rfl).trans (List.getElem?_eq_getElem (show 0 < xs.length by omega))
    exact (congrArg (fun c => DataW.trod enc Try.prog w base (fun _ => true) held n 5 ((cs.drop 0).take c)) hc0.symm).trans this
  have hc1 : Try.prog.cellsOf 42 = 6 := by kernel_rfl
  have f1 : DataW.trod enc Try.prog w base (fun _ => true) held n 42 ((cs.drop 1).take 6) = some (xs[1]'(by omega)) := by
    have := (hx 1 _ rfl).trans (List.getElem?_eq_getElem (show 1 < xs.length by omega))
    exact (congrArg (fun c => DataW.trod enc Try.prog w base (fun _ => true) held n 42 ((cs.drop 1).take c)) hc1.symm).trans this
  have hc2 : Try.prog.cellsOf 43 = 1 := by kernel_rfl
  have f2 : DataW.trod enc Try.prog w base (fun _ => true) held n 43 ((cs.drop 7).take 1) = some (xs[2]'(by omega)) := by
    have := (hx 2 _ rfl).trans (List.getElem?_eq_getElem (show 2 < xs.length by omega))
    exact (congrArg (fun c => DataW.trod enc Try.prog w base (fun _ => true) held n 43 ((cs.drop 7).take c)) hc2.symm).trans this
  have hc3 : Try.prog.cellsOf 30 = 1 := by kernel_rfl
  have f3 : DataW.trod enc Try.prog w base (fun _ => true) held n 30 ((cs.drop 8).take 1) = some (xs[3]'(by omega)) := by
    have := (hx 3 _ rfl).trans (List.getElem?_eq_getElem (show 3 < xs.length by omega))
    exact (congrArg (fun c => DataW.trod enc Try.prog w base (fun _ => true) held n 30 ((cs.drop 8).take c)) hc3.symm).trans this
  obtain ⟨v0, e0, _, w0⟩ := DataW.trod_int Try.underlying5 f0
  obtain ⟨pa, pl, pc, P, E, m, e1, rowp, _, _⟩ := view_open (by rw [List.length_take, List.length_drop]; omega) f1
  obtain ⟨ra, rl, rc, R, e2, rowr, _, _, hrg, _⟩ := open_recs f2
  obtain ⟨ka, kl, kc, ks, e3, rowk, hrgk⟩ := open_ids15 f3
  refine ⟨⟨v0, pa, pl, pc, P, E, m, ra, rl, rc, R, ka, kl, kc, ks⟩, ?_, (bounds_u8 w0).1, (bounds_u8 w0).2, rowp, ⟨rowr, hrg⟩, rowk, hrgk⟩
  have d0 : cs = (cs.drop 0).take 1 ++ ((cs.drop 1).take 6 ++ ((cs.drop 7).take 1 ++ (cs.drop 8).take 1)) := by
    have a5 : (cs.drop 8).take 1 = cs.drop 8 := List.take_of_length_le (by rw [List.length_drop]; omega)
    have st : ∀ o k, (cs.drop o).take k ++ cs.drop (o + k) = cs.drop o := fun o k => by
      have := List.take_append_drop k (cs.drop o)
      rwa [List.drop_drop] at this
    rw [a5, st 7 1, st 1 6, st 0 1, List.drop_zero]
  rw [d0, e0, e1, e2, e3]
  rfl
theorem open_acts15 {fuel : Nat} {a : Option Addr} {len cap : Nat} {x : DataW H × List MemPlace} (h : DataW.trod enc Try.prog w base (fun _ => true) held fuel 22 [.slice a len cap] = some x) : ∃ As, ARow15 w a len As := by
  rcases open_slice Try.underlying22 h with ⟨hcs, _⟩ | ⟨ad, l, c, m, n, D, Pl, hcs, _, hlc, hm, hmm, _, hi⟩
  · simp at hcs
    obtain ⟨rfl, rfl, rfl⟩ := hcs
    exact ⟨[], rfl, by omega, .inl rfl⟩
  · simp at hcs
    obtain ⟨rfl, rfl, rfl⟩ := hcs
    unfold maxLen at hm
    have hC : Try.prog.cellsOf 45 = 9 := by kernel_rfl
    rw [hC] at hi
    simp only [if_true] at hmm
    subst hmm
    obtain ⟨V, hV⟩ := choose_lt (α := A15) (n := len) (p := fun i x => (∀ j v, (c15 x)[j]? = some v → w.cell? ((ad.add (i * 9)).add j) = some v) ∧ ok15 w x) (fun i hil => by
      obtain ⟨cs', hc, ht⟩ := hi i (by omega)
      obtain ⟨_, hlen, hat⟩ := World.cells?_some hc
      obtain ⟨x, hx, hb⟩ := act_open15 hlen ht
      refine ⟨x, fun j v hv => ?_, hb⟩
      have hj : j < 9 := by have := (List.getElem?_eq_some_iff.1 hv).1; rw [c15_len] at this; exact this
      rw [hat j hj, hx]
      exact hv)
    refine ⟨(List.range len).map V, by simp, by omega, ?_⟩
    by_cases h0 : len = 0
    · exact .inl h0
    · obtain ⟨b, off, spot⟩ := ad
      have c0 := (hV 0 (by omega)).1 0 _ rfl
      have hspot : spot = none := by simpa [Addr.add] using World.cell?_spot c0
      subst hspot
      have hb : b < w.heap.size := by
        have := World.block_lt_of_cell? _ _ c0
        simpa [add_plain] using this
      refine .inr ⟨b, off, rfl, hb, fun i x hx => ?_⟩
      have hil : i < len := by have := (List.getElem?_eq_some_iff.1 hx).1; simpa using this
      have e : V i = x := by
        rw [List.getElem?_map, List.getElem?_range hil] at hx
        simpa using hx
      rw [← e]
      refine ⟨fun j v hv => ?_, (hV i hil).2⟩
      have := (hV i hil).1 j v hv
      simpa only [add_plain] using this
end
end Go.Proofs.Ytjcibffhlhdjeaa
namespace Go.Proofs.Ytjcibffhlhdjeaa
open Go.RowKit

def cNd (n : Nd) : List Value := [.int .i64 n.id, .int .i64 n.par, .int .i64 (n.pl 0), .int .i64 (n.pl 1), .int .i64 (n.pl 2), .int .i64 (n.pl 3), .int .i64 (n.pl 4), .int .i64 (n.pl 5), .int .i64 (n.pl 6), .int .i64 (n.pl 7), .int .i64 (n.pl 8), .int .i64 (n.pl 9), .int .i64 (n.pl 10), .int .i64 (n.pl 11), .bool n.hid]
def cSt (s : Stt) : List Value := [.int .i64 s.id, .int .i64 (s.wo 0), .int .i64 (s.wo 1), .int .i64 (s.wo 2), .int .i64 (s.wo 3), .int .i64 (s.wo 4), .int .i64 (s.wo 5), .int .i64 (s.wo 6), .int .i64 (s.wo 7), .int .i64 (s.wo 8), .int .i64 (s.wo 9), .int .i64 (s.wo 10), .int .i64 (s.wo 11), .bool s.sh]
abbrev NRow := RowX 15 cNd
abbrev SRow := RowX 14 cSt
section
variable {w w' : World} {g : Nat} {D : FD} {vl vd vs : Value} {F : Nat → Prop}
theorem ownd_same {w w' : World} {base n : Nat} {v : Value} {zs : List Int} (h : OwnD w base v n zs) (he : ∀ b, v.ownBlock = some b → w'.heap[b]? = w.heap[b]?) : OwnD w' base v n zs :=
  ⟨h.1, h.2.imp id fun ⟨g, cap, cur, e, hb, hg, hr⟩ => ⟨g, cap, cur, e, hb, (he g (by rw [e]; rfl)).trans hg, hr⟩⟩
end
section
variable {w : World} {g : Nat} {D : FD} {vl vd vs : Value}
end
section
variable {w : World} {g : Nat} {D : FD} {vl vd vs : Value}
end
theorem wp_appD {op : Oper} {a : Go.Act} {w : World} {K : Go.Act → World → Prop} {Q : Exit → Go.Act → World → Prop} (ts tb : Operand)
    (ho : op.op = .call { callee := .builtin .append, args := #[ts, tb], argTypes := #[30, 30] }) (v : Value) (zs : List Int) (hs : a.eval ts = v) (hown : OwnD w 0 v zs.length zs) (hz : zs.length ≤ 12000) (y : Int) (H : Nat) (hb : Blk w H 46 #[.int .i64 y]) (hx : a.eval tb = .slice (some ⟨H, 0, none⟩) 1 1)
    (h : ∀ g cap w', OwnD w' 0 (.slice (some ⟨g, 0, none⟩) (zs.length + 1) cap) (zs.length + 1) (zs ++ [y]) → w.grownBy w' v.ownBlock → (v.ownBlock = some g ∨ w.heap.size ≤ g) → K (a.put op.dst (.slice (some ⟨g, 0, none⟩) (zs.length + 1) cap)) w') : op.wp Try.prog a w K Q := by
  obtain ⟨i0, hi0, hz0, hz1, hz2⟩ := info_parts id_info
  refine wp_append_lies w ts tb 30 ho 0 46 i0 (.int .i64 0) 1 8 Try.underlying30 hi0 hz0 hz1 hz2 rfl (by decide) v zs.length (zs.map (Value.int .i64)) hs hown ⟨H, 0, none⟩ 1 1 [.int .i64 y] hx rfl (World.news_of_block (show Blk w H _ ([.int .i64 y] : List Value).toArray from hb)) (by intro u hu; simp at hu; subst hu; rfl) (by omega) (by unfold maxLen; omega) (by omega) (Nat.zero_le _) w.heap.size rfl ?_
  intro g cap w' h1 h2 h3 _
  refine h g cap w' ?_ h2 (h3.imp id (fun e => by omega))
  unfold OwnD
  rw [List.map_append]
  exact h1
theorem bs_id (x : Int) (W : World) : (Instr.buildSlice 30 1 #[(0, .int .i64 x)]).run Try.prog W = .ok (.slice (some ⟨W.heap.size, 0, none⟩) 1 1) (W.alloc (.cells #[.int .i64 x] 46)) := by kernel_rfl
def ChX {δ : Type} (FB : World → Nat → (Nat → Prop) → δ → Prop) (w w' : World) (g : Nat) (F : Nat → Prop) (D : δ) : Prop := ∃ F', FB w' g F' D ∧ Fr w w' F ∧ ∀ b, F' b → F b ∨ w.heap.size ≤ b
section
variable {δ : Type} {FB : World → Nat → (Nat → Prop) → δ → Prop} {w w1 w2 : World} {g : Nat} {F F' : Nat → Prop} {D : δ}
theorem ChX.join (hfr : Fr w w1 F) (hn : ∀ b, F' b → F b ∨ w.heap.size ≤ b) (k : ChX FB w1 w2 g F' D) : ChX FB w w2 g F D := by
  obtain ⟨F'', k1, k2, k3⟩ := k
  refine ⟨F'', k1, ⟨k2.1.trans hfr.1, k2.2.1.trans hfr.2.1, k2.2.2.1.trans hfr.2.2.1, Nat.le_trans hfr.2.2.2.1 k2.2.2.2.1, fun b hb hnn => ?_⟩, fun b hb => ?_⟩
  · refine (k2.2.2.2.2 b (Nat.lt_of_lt_of_le hb hfr.2.2.2.1) (fun c => ?_)).trans (hfr.2.2.2.2 b hb hnn)
    rcases hn b c with d | d
    · exact hnn d
    · omega
  · rcases k3 b hb with d | d
    · exact hn b d
    · exact Or.inr (Nat.le_trans hfr.2.2.2.1 d)
theorem ChX.still (h : FB w1 g F D) (hb : Below w.heap.size w w1) : ChX FB w w1 g F D := ⟨F, h, ⟨hb.os, hb.tape, hb.output, hb.size, fun b hl _ => hb.block b hl⟩, fun _ k => Or.inl k⟩
end
section
variable {w wb w4 : World} {g : Nat} {D : FD} {vl vd vs : Value} {F : Nat → Prop}
theorem set_at {w : World} {g o q : Nat} {u : Value} (hq : q ≠ g) : (w.setCell ⟨g, o, none⟩ u).heap[q]? = w.heap[q]? := Go.Deep.blk_setCell_other _ _ _ _ hq
end
section
variable {w w' : World} {g : Nat} {D : FD} {vs : Value} {F : Nat → Prop}
end
end Go.Proofs.Ytjcibffhlhdjeaa
