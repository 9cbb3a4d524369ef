/-
  3 texts in one file, each with its own heading.
-/
import Derived.Test.YtdndafdninnjfaaGreatMFlq
import Derived.Test.YtdndafdninnjfaaGreatMFlk
/-
  What the calls of package flow are to answer, as one bundle; and of a nil flow.
-/
namespace Go.Proofs.YtdndafdninnjfaaGreat
open Go.RowKit

/-- a told state's cells -/
def cFs (s : Stt) : List Value := [.int .i64 (s.wo 0), .int .i64 (s.wo 1), .int .i64 (s.wo 2), .int .i64 (s.wo 3), .int .i64 (s.wo 4), .int .i64 (s.wo 5), .int .i64 (s.wo 6), .int .i64 (s.wo 7), .int .i64 (s.wo 8), .int .i64 (s.wo 9), .int .i64 (s.wo 10), .int .i64 (s.wo 11), .bool s.sh]
/-- an answer behind which it is another one, in no other memory -/
def ChR (FB : World → Nat → (Nat → Prop) → FD → Prop) (w w' : World) (g : Nat) (F : Nat → Prop) (D : FD) : Prop := ∃ F', FB w' g F' D ∧ Fr w w' F ∧ ∀ b, F' b → F b
theorem ChR.toX {FB : World → Nat → (Nat → Prop) → FD → Prop} {w w' : World} {g : Nat} {F : Nat → Prop} {D : FD} (h : ChR FB w w' g F D) : ChX FB w w' g F D := by
  obtain ⟨F', h1, h2, h3⟩ := h
  exact ⟨F', h1, h2, fun b hb => Or.inl (h3 b hb)⟩
structure FWC (FB : World → Nat → (Nat → Prop) → FD → Prop) : Prop where
  keep_ : ∀ w w' g F D, FB w g F D → (∀ b, F b → w'.heap[b]? = w.heap[b]?) → FB w' g F D
  inb : ∀ w g F D, FB w g F D → ∀ b, F b → b < w.heap.size
  new : ∀ w : World, Calls Tryz.prog 6 #[] w fun e w' => ∃ g F, e = .returned (.pointer (some ⟨g, 0, none⟩)) ∧ FB w' g F FD0 ∧ (∀ b, F b → w.heap.size ≤ b) ∧ Below w.heap.size w w'
  put : ∀ (w : World) g F D (a : Option Addr) (n cap : Nat) (l : List Nd), DOk D → D.L.length ≤ 300 → FB w g F D → n ≤ 300 → NRow w a n l → (∀ m ∈ l, Rg m.id ∧ Rg m.par) → Calls Tryz.prog 15 #[.pointer (some ⟨g, 0, none⟩), .slice a n cap] w fun e w' => e = .returned (.int .i64 (putFE D l)) ∧ ChX FB w w' g F (putFD D l)
  drop : ∀ (w : World) g F D (a : Option Addr) (n cap : Nat) (xs : List Int), DOk D → D.L.length ≤ 300 → FB w g F D → n ≤ 1000 → Row w a n xs → Aw F a n → Rgs xs → Calls Tryz.prog 21 #[.pointer (some ⟨g, 0, none⟩), .slice a n cap] w fun e w' => e = .returned (.int .i64 (dropN D xs : Nat)) ∧ ChX FB w w' g F (dropS D xs)
  run : ∀ (w : World) g F D, DOk D → D.L.length ≤ 300 → D.steps ≤ 1000000 → FB w g F D → Calls Tryz.prog 8 #[.pointer (some ⟨g, 0, none⟩)] w fun e w' => ∃ v, e = .returned (.tuple #[v, .int .i64 (runE D)]) ∧ LRes w w' (touchN D) v ∧ ChR FB w w' g F (runD D)
  state : ∀ (w : World) g F D (x : Int), DOk D → D.L.length ≤ 300 → FB w g F D → Rg x → Calls Tryz.prog 13 #[.pointer (some ⟨g, 0, none⟩), .int .i64 x] w fun e w' => ∃ Y, e = .returned (.tuple #[.agg (List.toArray Y), .bool (stateN D x).isSome]) ∧ Y = cFs ((stateN D x).getD zSt) ∧ Below w.heap.size w w'
  nodes : ∀ (w : World) g F D, DOk D → D.L.length ≤ 300 → FB w g F D → Calls Tryz.prog 27 #[.pointer (some ⟨g, 0, none⟩)] w fun e w' => ∃ v, e = .returned v ∧ LRes w w' (namesN D.L) v ∧ Below w.heap.size w w'
  steps : ∀ (w : World) g F D, FB w g F D → Calls Tryz.prog 10 #[.pointer (some ⟨g, 0, none⟩)] w fun e w' => e = .returned (.int .i64 D.steps) ∧ Below w.heap.size w w'
structure FWN : Prop where
  run : ∀ w : World, Calls Tryz.prog 8 #[.pointer none] w fun e w' => e = .returned (.tuple #[.slice none 0 0, .int .i64 1]) ∧ Below w.heap.size w w'
  state : ∀ w : World, Calls Tryz.prog 13 #[.pointer none, .int .i64 1] w fun e w' => ∃ Y, e = .returned (.tuple #[.agg (List.toArray Y), .bool false]) ∧ Y = cFs zSt ∧ Below w.heap.size w w'
  put : ∀ (w : World) (a : Option Addr) (n cap : Nat), Calls Tryz.prog 15 #[.pointer none, .slice a n cap] w fun e w' => e = .returned (.int .i64 1) ∧ Below w.heap.size w w'
  drop : ∀ (w : World) (a : Option Addr) (n cap : Nat), Calls Tryz.prog 21 #[.pointer none, .slice a n cap] w fun e w' => e = .returned (.int .i64 0) ∧ Below w.heap.size w w'
  steps : ∀ w : World, Calls Tryz.prog 10 #[.pointer none] w fun e w' => e = .returned (.int .i64 0) ∧ Below w.heap.size w w'
  nodes : ∀ w : World, Calls Tryz.prog 27 #[.pointer none] w fun e w' => e = .returned (.slice none 0 0) ∧ Below w.heap.size w w'
section
variable {FB : World → Nat → (Nat → Prop) → FD → Prop}
theorem FWC.keep (h : FWC FB) {w w' : World} {g : Nat} {F : Nat → Prop} {D : FD} (hs : FB w g F D) (hb : Below w.heap.size w w') : FB w' g F D := h.keep_ w w' g F D hs (fun b hf => hb.block b (h.inb w g F D hs b hf))
end
end Go.Proofs.YtdndafdninnjfaaGreat
/-
  The acts of the laws of layer 10 as a row; what Fits, Of and nodes answer.
-/
namespace Go.Proofs.YtdndafdninnjfaaGreat
open Go.RowKit

/-- an act: its kind, its nodes, its names -/
structure A10 where
  k : Int
  a : Option Addr
  n : Nat
  cap : Nat
  l : List Nd
  b : Option Addr
  m : Nat
  cap' : Nat
  ids : List Int
def rgN (l : List Nd) : Prop := ∀ x ∈ l, Rg x.id ∧ Rg x.par
def ok10 (w : World) (x : A10) : Prop := 0 ≤ x.k ∧ x.k ≤ 255 ∧ (NRow w x.a x.n x.l ∧ rgN x.l) ∧ Row w x.b x.m x.ids ∧ Rgs x.ids
def c10 (x : A10) : List Value := [.int .u8 x.k, .slice x.a x.n x.cap, .slice x.b x.m x.cap']
theorem c10_len (x : A10) : (c10 x).length = 3 := rfl
def ARow10 (w : World) (a : Option Addr) (len : Nat) (xs : List A10) : Prop := xs.length = len ∧ len ≤ 9223372036854775807 ∧ (len = 0 ∨ ∃ b off, a = some ⟨b, off, none⟩ ∧ b < w.heap.size ∧ ∀ i x, xs[i]? = some x → w.rangeAt b (off + i * 3) (c10 x) ∧ ok10 w x)
theorem ok10.keep {w w' : World} {x : A10} (h : ok10 w x) (hb : Below w.heap.size w w') : ok10 w' x := ⟨h.1, h.2.1, ⟨h.2.2.1.1.keep hb, h.2.2.1.2⟩, row_keep h.2.2.2.1 hb, h.2.2.2.2⟩
theorem ARow10.keep {w w' : World} {a : Option Addr} {n : Nat} {xs : List A10} (h : ARow10 w a n xs) (hb : Below w.heap.size w w') : ARow10 w' a n xs := ⟨h.1, h.2.1, h.2.2.imp id (fun ⟨b, o, e, hl, hr⟩ => ⟨b, o, e, Nat.lt_of_lt_of_le hl hb.size, fun i x hx => ⟨range_same (hr i x hx).1 (hb.block b hl), (hr i x hx).2.keep hb⟩⟩)⟩
theorem ARow10.at_ {w : World} {a : Option Addr} {n : Nat} {xs : List A10} (h : ARow10 w a n xs) {i : Nat} (hi : i < n) : ∃ b off x, a = some ⟨b, off, none⟩ ∧ xs[i]? = some x ∧ w.rangeAt b (off + i * 3) (c10 x) ∧ ok10 w x := by
  obtain ⟨h1, h2, h3⟩ := h
  rcases h3 with h3 | ⟨b, off, e, hb, hr⟩
  · omega
  · have hx : xs[i]? = some (xs[i]'(by omega)) := List.getElem?_eq_getElem (by omega)
    exact ⟨b, off, _, e, hx, hr i _ hx⟩
/-- how many nodes and names the first acts have -/
def suA (xs : List A10) (j : Nat) : Nat := ((xs.take j).map (fun x => x.n + x.m)).sum
theorem suA_step {xs : List A10} {j : Nat} {x : A10} (h : xs[j]? = some x) : suA xs (j + 1) = suA xs j + (x.n + x.m) := by
  unfold suA
  rw [List.take_add_one, h, List.map_append, List.sum_append]
  simp
set_option maxHeartbeats 4000000 in
set_option maxRecDepth 100000 in
theorem fits10_any (a : Option Addr) (len cap : Nat) (xs : List A10) (w : World) (row : ARow10 w a len xs) :
    Calls Tryz.prog 4 #[.slice a len cap] w fun e w' => ∃ b, e = .returned (.bool b) ∧ (b = true → len ≤ 30 ∧ ∀ j, j ≤ len → suA xs j ≤ 80) ∧ Below w.heap.size w w' := by
  have hbig := row.2.1
  have HL := Lib.hid row.1
  have HRow : Hid (∀ u, Below w.heap.size w u → ARow10 u a len xs) := Lib.hid (fun u q => row.keep q)
  clear row
  go_enter Tryz.func4, Tryz.ntmps4
  go_wp2
  go_loopw [3, 4] (fun v3 i wr => ∃ j : Nat, j ≤ len ∧ j ≤ 31 ∧ i = .int .i64 j ∧ v3 = .int .i64 (suA xs j : Nat) ∧ (∀ q, q ≤ j → suA xs q ≤ 80) ∧ Below w.heap.size w wr) (fun _ i _ => len - (ivl i).toNat)
  case atStart => exact ⟨0, by omega, by omega, rfl, rfl, fun q hq => (by rw [show q = 0 by omega]; exact Nat.zero_le _), Below.refl _ _⟩
  case round =>
    obtain ⟨j, hj, hj2, rfl, rfl, hz, hb⟩ := hrel
    have HZ := Lib.hid hz
    have HB := Lib.hid hb
    have hrw := HRow.out wr hb
    have hs80 := hz j (Nat.le_refl _)
    clear hz hb
    by_cases hlt : j < len
    · have j1 : (j : Int) < (len : Int) := by omega
      have j0 : (0 : Int) ≤ (j : Int) := by omega
      by_cases h30 : j ≤ 30
      · have j2 : (j : Int) ≤ 30 := by omega
        obtain ⟨b, off, x, rfl, hx, hr, hok⟩ := hrw.at_ hlt
        have c1 : wr.cell? ⟨b, off + j * 3 + 1, none⟩ = some (.slice x.a x.n x.cap) := hr 1 _ rfl
        have c2 : wr.cell? ⟨b, off + j * 3 + 2, none⟩ = some (.slice x.b x.m x.cap') := hr 2 _ rfl
        have hbl := World.block_lt_of_cell? _ _ c1
        have HSu := Lib.hid (suA_step hx)
        have hn1 := hok.2.2.1.1.2.1
        have hn2 := hok.2.2.2.1.2.1
        obtain ⟨xn, hxn⟩ : ∃ xn, xn = x.n := ⟨_, rfl⟩
        obtain ⟨xm, hxm⟩ : ∃ xm, xm = x.m := ⟨_, rfl⟩
        obtain ⟨s, hs⟩ : ∃ s, s = suA xs j := ⟨_, rfl⟩
        rw [← hxn] at c1 HSu hn1
        rw [← hxm] at c2 HSu hn2
        rw [← hs] at HSu hs80 ⊢
        clear hrw hx hr hok hxn hxm hs
        by_cases hbg : xn ≤ 30 ∧ xm ≤ 30
        · obtain ⟨hg1, hg2⟩ := hbg
          have w1 : IntKind.i64.wrap ((s : Int) + (xn : Int)) = (s : Int) + (xn : Int) := by rw [IntKind.wrap_i64]; omega
          have w2 : IntKind.i64.wrap ((s : Int) + (xn : Int) + (xm : Int)) = (s : Int) + (xn : Int) + (xm : Int) := by rw [IntKind.wrap_i64]; omega
          have g1 : ¬ (30 : Int) < (xn : Int) := by omega
          have g2 : ¬ (30 : Int) < (xm : Int) := by omega
          go_wp2
          go_quiet (fail)
          by_cases h80 : s + (xn + xm) ≤ 80
          · have g3 : ¬ (80 : Int) < (s : Int) + (xn : Int) + (xm : Int) := by omega
            have HB2 := Lib.hid (Go.below_drewN HB.out nq)
            have c1' : (wr.drewN nq).cell? ⟨b, off + j * 3 + 1, none⟩ = some (.slice x.a xn x.cap) := c1
            have c2' : (wr.drewN nq).cell? ⟨b, off + j * 3 + 2, none⟩ = some (.slice x.b xm x.cap') := c2
            go_wp2
            go_roundw
            case rel => exact ⟨j + 1, by omega, by omega, by go_num, by rw [HSu.out]; simp only [Value.int.injEq, true_and]; omega, fun q hq => by
              rcases Nat.lt_or_ge q (j + 1) with c | c
              · exact HZ.out q (by omega)
              · obtain rfl : q = j + 1 := by omega
                rw [HSu.out]; exact h80, HB2.out⟩
            case measure => simp [ivl] <;> omega
          · have g3 : (80 : Int) < (s : Int) + (xn : Int) + (xm : Int) := by omega
            have HB2 := Lib.hid (Go.below_drewN HB.out nq)
            have c1' : (wr.drewN nq).cell? ⟨b, off + j * 3 + 1, none⟩ = some (.slice x.a xn x.cap) := c1
            have c2' : (wr.drewN nq).cell? ⟨b, off + j * 3 + 2, none⟩ = some (.slice x.b xm x.cap') := c2
            go_wp2
            go_ret
            first | exact ⟨false, rfl, fun c => (by cases c), HB2.out⟩ | exact Or.inl ⟨rfl, HB2.out⟩
        · obtain ⟨z1, hz1⟩ : ∃ z1, IntKind.i64.wrap ((s : Int) + (xn : Int)) = z1 := ⟨_, rfl⟩
          obtain ⟨z2, hz2⟩ : ∃ z2, IntKind.i64.wrap (z1 + (xm : Int)) = z2 := ⟨_, rfl⟩
          by_cases hg1 : xn ≤ 30
          · have g1 : ¬ (30 : Int) < (xn : Int) := by omega
            have g2 : (30 : Int) < (xm : Int) := by omega
            clear hbg
            go_wp2
            go_quiet (fail)
            have HB2 := Lib.hid (Go.below_drewN HB.out nq)
            have c1' : (wr.drewN nq).cell? ⟨b, off + j * 3 + 1, none⟩ = some (.slice x.a xn x.cap) := c1
            have c2' : (wr.drewN nq).cell? ⟨b, off + j * 3 + 2, none⟩ = some (.slice x.b xm x.cap') := c2
            go_wp2
            go_ret
            first | exact ⟨false, rfl, fun c => (by cases c), HB2.out⟩ | exact Or.inl ⟨rfl, HB2.out⟩
          · have g1 : (30 : Int) < (xn : Int) := by omega
            clear hbg
            go_wp2
            go_quiet (fail)
            have HB2 := Lib.hid (Go.below_drewN HB.out nq)
            have c1' : (wr.drewN nq).cell? ⟨b, off + j * 3 + 1, none⟩ = some (.slice x.a xn x.cap) := c1
            have c2' : (wr.drewN nq).cell? ⟨b, off + j * 3 + 2, none⟩ = some (.slice x.b xm x.cap') := c2
            go_wp2
            go_ret
            first | exact ⟨false, rfl, fun c => (by cases c), HB2.out⟩ | exact Or.inl ⟨rfl, HB2.out⟩
      · have j2 : ¬ (j : Int) ≤ 30 := by omega
        have hl30 : ¬ (len : Int) ≤ 30 := by omega
        go_wp2
        go_ret
        first | exact ⟨false, rfl, fun c => (by cases c), HB.out⟩ | exact Or.inl ⟨rfl, HB.out⟩
    · obtain rfl : j = len := by omega
      clear hrw
      go_wp2
      go_ret
      refine ⟨decide ((j : Int) ≤ 30), rfl, fun c => ?_, HB.out⟩
      have c' : (j : Int) ≤ 30 := by simpa using c
      exact ⟨by omega, HZ.out⟩
end Go.Proofs.YtdndafdninnjfaaGreat
/-
  What Of and nodes of the law of layer 10 answer: the same nodes, in new memory.
-/
namespace Go.Proofs.YtdndafdninnjfaaGreat
open Go.RowKit

theorem yieldsIf_bld4 {ops : Array Oper} {S : World → Prop} {op : Oper} {a : Go.Act} (hw : Region.wanted op (yielded ops a.tmps) = true) (t : TypeId) (x0 x1 x2 x3 : Operand) (ho : op.op = .build t #[(0, x0), (1, x1), (2, x2), (3, x3)]) (v0 v1 v2 v3 vr : Value) (h0 : a.eval x0 = v0) (h1 : a.eval x1 = v1) (h2 : a.eval x2 = v2) (h3 : a.eval x3 = v3)
    (hrun : ∀ W, (Instr.build t #[(0, v0), (1, v1), (2, v2), (3, v3)]).run Tryz.prog W = .ok vr W) : YieldsIf Tryz.prog ops S op vr a :=
  .inl ⟨hw, fun w _ => by
    unfold execOp
    simp only [ho]
    simp [h0, h1, h2, h3, hrun]⟩
theorem wp_bs1 {op : Oper} {a : Go.Act} {w : World} {K : Go.Act → World → Prop} {Q : Exit → Go.Act → World → Prop} (t e : TypeId) (x : Operand) (ho : op.op = .buildSlice t 1 #[(0, x)]) (X : List Value) (hx : a.eval x = .agg X.toArray)
    (hrun : ∀ W, (Instr.buildSlice t 1 #[(0, .agg X.toArray)]).run Tryz.prog W = .ok (.slice (some ⟨W.heap.size, 0, none⟩) 1 1) (W.alloc (.cells X.toArray e)))
    (h : K (a.put op.dst (.slice (some ⟨w.heap.size, 0, none⟩) 1 1)) (w.alloc (.cells X.toArray e))) : op.wp Tryz.prog a w K Q := by
  unfold Oper.wp execOp
  simp only [ho]
  simp [hx, hrun]
  exact h
theorem wp_pushX {α : Type} {k : Nat} {c : α → List Value} {t : TypeId} {op : Oper} {a : Go.Act} {w : World} {K : Go.Act → World → Prop} {Q : Exit → Go.Act → World → Prop} (ts tb : Operand) (tl : TypeId) (by_ : Nat) (z : Value)
    (ho : op.op = .call { callee := .builtin .append, args := #[ts, tb], argTypes := #[tl, tl] }) (hu : Tryz.prog.underlying tl = some (.slice t))
    (hinfo : (Tryz.prog.info? t).map (fun i => (i.zero, i.size, i.bytes)) = some (some z, k, by_)) (hzs : z.cells.size = k) (hk : 0 < k) (hby : by_ ≤ 1000) (hc : ∀ x, (c x).length = k) (x : α) (hone : ∀ u ∈ c x, u.oneCell' = true) (v : Value) (X : List α) (base : Nat)
    (hs : a.eval ts = v) (hown : OwnX k c t w base v X) (H : Nat) (hx : a.eval tb = .slice (some ⟨H, 0, none⟩) 1 1) (hb : Blk w H t (c x).toArray) (hX : X.length ≤ 2000) (hbs : base ≤ w.heap.size)
    (h : ∀ v' w', OwnX k c t w' base v' (X ++ [x]) → w.grownBy w' v.ownBlock → (v'.ownBlock = v.ownBlock ∨ v'.ownBlock = some w.heap.size) → K (a.put op.dst v') w') : op.wp Tryz.prog a w K Q := by
  obtain ⟨i0, hi0, hz0, hz1, hz2⟩ := info_parts hinfo
  have hbytes : (X.length + 1) * by_ ≤ 140737488355328 := by
    have : (X.length + 1) * by_ ≤ 2001 * 1000 := Nat.mul_le_mul (by omega) hby
    omega
  refine wp_append_lies w ts tb tl ho base t i0 z k by_ hu hi0 hz0 hz1 hz2 hzs hk v X.length (X.flatMap c) hs hown ⟨H, 0, none⟩ 1 1 (c x) hx (by rw [hc x, Nat.one_mul]) (World.news_of_block hb) hone (by omega) (by unfold maxLen; omega) hbytes hbs w.heap.size rfl ?_
  intro g cap w' h1 h2 h3 _
  refine h _ w' ?_ h2 (h3.imp (fun e => e.symm) (fun e => by rw [← e]; rfl))
  unfold OwnX
  rw [List.length_append, List.flatMap_append, List.flatMap_cons, List.flatMap_nil, List.append_nil]
  exact h1
theorem bld_node (a b : Int) (M : Nat → Int) (h : Bool) (W : World) : (Instr.build 84 #[(0, .int .i64 a), (1, .int .i64 b), (2, .agg (lM M).toArray), (3, .bool h)]).run Tryz.prog W = .ok (.agg (cNd ⟨a, b, M, h⟩).toArray) W := by kernel_rfl
theorem bs_nodeF (n : Nd) (W : World) : (Instr.buildSlice 23 1 #[(0, .agg (cNd n).toArray)]).run Tryz.prog W = .ok (.slice (some ⟨W.heap.size, 0, none⟩) 1 1) (W.alloc (.cells (cNd n).toArray 59)) := by kernel_rfl
set_option maxHeartbeats 4000000 in
set_option maxRecDepth 100000 in
theorem lOf_any (a : Option Addr) (n cap : Nat) (l : List Nd) (w : World) (row : NRow w a n l) (hn : n ≤ 1000) :
    Calls Tryz.prog 19 #[.slice a n cap] w fun e w' => ∃ v, e = .returned v ∧ OwnX 15 cNd 84 w' w.heap.size v l ∧ Below w.heap.size w w' := by
  have hbig := row.2.1
  have HL := Lib.hid row.1
  have HRow : Hid (∀ u, Below w.heap.size w u → NRow u a n l) := Lib.hid (fun u q => row.keep q)
  have HIb : Hid (∀ b off, a = some ⟨b, off, none⟩ → n = 0 ∨ b < w.heap.size) := Lib.hid (fun b off e => by
    rcases row.2.2 with c | ⟨b', off', e', hb', _⟩
    · exact Or.inl c
    · rw [e] at e'
      injection e' with e'
      injection e' with e1
      rw [e1]
      exact Or.inr hb')
  clear row
  go_enter Tryz.func19, Tryz.ntmps19
  go_wp2
  go_loopw [3, 4] (fun v3 i wr => ∃ j : Nat, j ≤ n ∧ i = .int .i64 j ∧ OwnX 15 cNd 84 wr w.heap.size v3 (l.take j) ∧ Below w.heap.size w wr) (fun _ i _ => n - (ivl i).toNat)
  case atStart => exact ⟨0, by omega, rfl, OwnX.nil _ _ _ _ _, Below.refl _ _⟩
  case round =>
    obtain ⟨j, hj, rfl, ho, hb⟩ := hrel
    have HO := Lib.hid ho
    have HB := Lib.hid hb
    have hrw := HRow.out wr hb
    have hsz : w.heap.size ≤ wr.heap.size := hb.size
    have hol := HO.out.lt
    clear ho hb
    by_cases hlt : j < n
    · obtain ⟨b, off, nd, rfl, hbl, hx, hr⟩ := hrw.at_ hlt
      have hbw : b < w.heap.size := (HIb.out b off rfl).resolve_left (by omega)
      have HSt : Hid (l.take (j + 1) = l.take j ++ [nd]) := Lib.hid (by rw [List.take_add_one, hx]; rfl)
      have HBd : Hid (∀ W, (Instr.build 84 #[(0, .int .i64 nd.id), (1, .int .i64 nd.par), (2, .agg (lM nd.pl).toArray), (3, .bool nd.hid)]).run Tryz.prog W = .ok (.agg (cNd nd).toArray) W) := Lib.hid (bld_node nd.id nd.par nd.pl nd.hid)
      have HBs : Hid (∀ W, (Instr.buildSlice 30 1 #[(0, .agg (cNd nd).toArray)]).run Tryz.prog W = .ok (.slice (some ⟨W.heap.size, 0, none⟩) 1 1) (W.alloc (.cells (cNd nd).toArray 84))) := Lib.hid (bs_node nd)
      have HMX := Lib.hid (mx_any nd.pl)
      have HSu : Hid (∀ u : World, u.heap[b]? = wr.heap[b]? → u.cell? ⟨b, off + j * 15, none⟩ = some (.int .i64 nd.id) ∧ u.cell? ⟨b, off + j * 15 + 1, none⟩ = some (.int .i64 nd.par) ∧ u.cell? ⟨b, off + j * 15 + 14, none⟩ = some (.bool nd.hid) ∧ u.rangeAt b (off + j * 15 + 2) (lM nd.pl)) := Lib.hid (fun u e => by
        have q := range_same hr e
        exact ⟨q 0 _ rfl, q 1 _ rfl, q 14 _ rfl, mat_at q⟩)
      have hlj : (l.take j).length ≤ 2000 := by rw [List.length_take]; omega
      obtain ⟨XM, hXM⟩ : ∃ XM, XM = cNd nd := ⟨_, rfl⟩
      obtain ⟨MM, hMM⟩ : ∃ MM, MM = lM nd.pl := ⟨_, rfl⟩
      rw [← hXM] at HBd HBs
      rw [← hMM] at HBd HMX HSu
      obtain ⟨x0, hx0⟩ : ∃ x0, x0 = nd.id := ⟨_, rfl⟩
      obtain ⟨x1, hx1⟩ : ∃ x1, x1 = nd.par := ⟨_, rfl⟩
      obtain ⟨x2, hx2⟩ : ∃ x2, x2 = nd.hid := ⟨_, rfl⟩
      rw [← hx0, ← hx1, ← hx2] at HBd HSu
      have HXe := Lib.hid hXM
      have hbd := HBd.out
      have j0 : (0 : Int) ≤ (j : Int) := by omega
      have j1 : (j : Int) < (n : Int) := by omega
      have hal : Below wr.heap.size wr (wr.drew.alloc (.cells XM.toArray 84)) := bthen (below_drew9f wr) (alloc_below _ _)
      have SA := Lib.hid (HSu.out wr.drew rfl)
      have SB := Lib.hid (HSu.out _ (hal.block b hbl))
      clear hrw hx hr hXM hMM hx0 hx1 hx2 hlt
      go_wp2
      refine wp_region_held_drew (S := fun w' => w'.cell? ⟨b, off + j * 15, none⟩ = some (.int .i64 x0) ∧ w'.cell? ⟨b, off + j * 15 + 1, none⟩ = some (.int .i64 x1) ∧ w'.cell? ⟨b, off + j * 15 + 14, none⟩ = some (.bool x2) ∧ w'.rangeAt b (off + j * 15 + 2) MM) (by kernel_rfl) (SA.out) (fun hHeld => ?_)
      refine wpAnyH_take (i := 0) (v := ?_) rfl (by kernel_rfl) (by kernel_rfl) (by kernel_rfl) (fun _ _ _ h => h) (Or.inl ⟨by rfl, ?_⟩) hHeld ?_
      rotate_left
      · intro w hSw
        obtain ⟨s0, s1, s2, s3⟩ := hSw
        go_simp
        with_reducible rfl
      simp only [Act.put, List.getElem_toArray, List.getElem_cons_zero, List.setIfInBounds_toArray, List.set_cons_zero, List.set_cons_succ]
      refine wpAnyH_take (i := 1) (v := ?_) rfl (by kernel_rfl) (by kernel_rfl) (by kernel_rfl) (fun _ _ _ h => h) (Or.inl ⟨by rfl, ?_⟩) hHeld ?_
      rotate_left
      · intro w hSw
        obtain ⟨s0, s1, s2, s3⟩ := hSw
        go_simp
        with_reducible rfl
      simp only [Act.put, List.getElem_toArray, List.getElem_cons_zero, List.getElem_cons_succ, List.setIfInBounds_toArray, List.set_cons_zero, List.set_cons_succ]
      refine wpAnyH_take (i := 2) (v := ?_) rfl (by kernel_rfl) (by kernel_rfl) (by kernel_rfl) (fun _ _ _ h => h) (Or.inl ⟨by rfl, ?_⟩) hHeld ?_
      rotate_left
      · intro w hSw
        obtain ⟨s0, s1, s2, s3⟩ := hSw
        go_simp
        with_reducible rfl
      simp only [Act.put, List.getElem_toArray, List.getElem_cons_zero, List.getElem_cons_succ, List.setIfInBounds_toArray, List.set_cons_zero, List.set_cons_succ]
      refine wpAnyH_take (i := 3) (v := ?_) rfl (by kernel_rfl) (by kernel_rfl) (by kernel_rfl) (fun _ _ _ h => h) (Or.inl ⟨by rfl, ?_⟩) hHeld ?_
      rotate_left
      · intro w hSw
        obtain ⟨s0, s1, s2, s3⟩ := hSw
        go_simp
        with_reducible rfl
      simp only [Act.put, List.getElem_toArray, List.getElem_cons_zero, List.getElem_cons_succ, List.setIfInBounds_toArray, List.set_cons_zero, List.set_cons_succ]
      refine wpAnyH_take (i := 4) (v := ?_) rfl (by kernel_rfl) (by kernel_rfl) (by kernel_rfl) (fun _ _ _ h => h) (Or.inl ⟨by rfl, ?_⟩) hHeld ?_
      rotate_left
      · intro w hSw
        obtain ⟨s0, s1, s2, s3⟩ := hSw
        go_simp
        with_reducible rfl
      simp only [Act.put, List.getElem_toArray, List.getElem_cons_zero, List.getElem_cons_succ, List.setIfInBounds_toArray, List.set_cons_zero, List.set_cons_succ]
      refine wpAnyH_take (i := 5) (v := ?_) rfl (by kernel_rfl) (by kernel_rfl) (by kernel_rfl) (fun _ _ _ h => h) (Or.inl ⟨by rfl, ?_⟩) hHeld ?_
      rotate_left
      · intro w hSw
        obtain ⟨s0, s1, s2, s3⟩ := hSw
        go_simp
        with_reducible rfl
      simp only [Act.put, List.getElem_toArray, List.getElem_cons_zero, List.getElem_cons_succ, List.setIfInBounds_toArray, List.set_cons_zero, List.set_cons_succ]
      refine wpAnyH_take (i := 6) (v := ?_) rfl (by kernel_rfl) (by kernel_rfl) (by kernel_rfl) (fun _ _ _ h => h) (Or.inl ⟨by rfl, ?_⟩) hHeld ?_
      rotate_left
      · intro w hSw
        obtain ⟨s0, s1, s2, s3⟩ := hSw
        go_simp
        with_reducible rfl
      simp only [Act.put, List.getElem_toArray, List.getElem_cons_zero, List.getElem_cons_succ, List.setIfInBounds_toArray, List.set_cons_zero, List.set_cons_succ]
      refine wpAnyH_take (i := 7) (v := ?_) rfl (by kernel_rfl) (by kernel_rfl) (by kernel_rfl) (fun _ _ _ h => h) (Or.inl ⟨by rfl, ?_⟩) hHeld ?_
      rotate_left
      · intro w hSw
        obtain ⟨s0, s1, s2, s3⟩ := hSw
        go_simp
        with_reducible rfl
      simp only [Act.put, List.getElem_toArray, List.getElem_cons_zero, List.getElem_cons_succ, List.setIfInBounds_toArray, List.set_cons_zero, List.set_cons_succ]
      refine wpAnyH_take (i := 8) (v := ?_) rfl (by kernel_rfl) (by kernel_rfl) (by kernel_rfl) (fun _ _ _ h => h) (Or.inl ⟨by rfl, ?_⟩) hHeld ?_
      rotate_left
      · intro w hSw
        obtain ⟨s0, s1, s2, s3⟩ := hSw
        go_simp
        with_reducible rfl
      simp only [Act.put, List.getElem_toArray, List.getElem_cons_zero, List.getElem_cons_succ, List.setIfInBounds_toArray, List.set_cons_zero, List.set_cons_succ]
      refine wpAnyH_take (i := 9) (v := ?_) rfl (by kernel_rfl) (by kernel_rfl) (by kernel_rfl) (fun _ _ _ h => h) (Or.inl ⟨by rfl, ?_⟩) hHeld ?_
      rotate_left
      · intro w hSw
        obtain ⟨s0, s1, s2, s3⟩ := hSw
        go_simp
        with_reducible rfl
      simp only [Act.put, List.getElem_toArray, List.getElem_cons_zero, List.getElem_cons_succ, List.setIfInBounds_toArray, List.set_cons_zero, List.set_cons_succ]
      refine wpAnyH_take (i := 10) (v := ?_) rfl (by kernel_rfl) (by kernel_rfl) (by kernel_rfl) (fun _ _ _ h => h) (Or.inl ⟨by rfl, ?_⟩) hHeld ?_
      rotate_left
      · intro w hSw
        obtain ⟨s0, s1, s2, s3⟩ := hSw
        go_simp
        with_reducible rfl
      simp only [Act.put, List.getElem_toArray, List.getElem_cons_zero, List.getElem_cons_succ, List.setIfInBounds_toArray, List.set_cons_zero, List.set_cons_succ]
      refine wpAnyH_take (i := 11) (v := ?_) rfl (by kernel_rfl) (by kernel_rfl) (by kernel_rfl) (fun _ _ _ h => h) (Or.inl ⟨by rfl, ?_⟩) hHeld ?_
      rotate_left
      · intro w hSw
        obtain ⟨s0, s1, s2, s3⟩ := hSw
        go_simp
        with_reducible rfl
      simp only [Act.put, List.getElem_toArray, List.getElem_cons_zero, List.getElem_cons_succ, List.setIfInBounds_toArray, List.set_cons_zero, List.set_cons_succ]
      refine wpAnyH_take (i := 12) (v := ?_) rfl (by kernel_rfl) (by kernel_rfl) (by kernel_rfl) (fun _ _ _ h => h) (Or.inl ⟨by rfl, ?_⟩) hHeld ?_
      rotate_left
      · intro w hSw
        obtain ⟨s0, s1, s2, s3⟩ := hSw
        go_simp
        with_reducible rfl
      simp only [Act.put, List.getElem_toArray, List.getElem_cons_zero, List.getElem_cons_succ, List.setIfInBounds_toArray, List.set_cons_zero, List.set_cons_succ]
      refine wpAnyH_take (i := 13) (v := ?_) rfl (by kernel_rfl) (by kernel_rfl) (by kernel_rfl) (fun _ _ _ h => h) (Or.inl ⟨by rfl, ?_⟩) hHeld ?_
      rotate_left
      · intro w hSw
        obtain ⟨s0, s1, s2, s3⟩ := hSw
        go_simp
        with_reducible rfl
      simp only [Act.put, List.getElem_toArray, List.getElem_cons_zero, List.getElem_cons_succ, List.setIfInBounds_toArray, List.set_cons_zero, List.set_cons_succ]
      refine wpAnyH_take (i := 14) (v := ?_) rfl (by kernel_rfl) (by kernel_rfl) (by kernel_rfl) (fun _ _ _ h => h) (Or.inl ⟨by rfl, ?_⟩) hHeld ?_
      rotate_left
      · intro w hSw
        obtain ⟨s0, s1, s2, s3⟩ := hSw
        go_simp
        with_reducible rfl
      simp only [Act.put, List.getElem_toArray, List.getElem_cons_zero, List.getElem_cons_succ, List.setIfInBounds_toArray, List.set_cons_zero, List.set_cons_succ]
      refine wpAnyH_take (i := 15) (v := _) rfl (by kernel_rfl) (by kernel_rfl) (by kernel_rfl) (fun _ _ _ h => h) (yieldsIf_load_mid (by rfl) _ _ rfl _ _ rfl _ _ (fun _ h => h.2.2.2) Tryz.underlying46 rfl HMX.out.size) hHeld ?_
      simp only [Act.put, List.getElem_toArray, List.getElem_cons_zero, List.getElem_cons_succ, List.setIfInBounds_toArray, List.set_cons_zero, List.set_cons_succ]
      refine wpAnyH_take (i := 16) (v := ?_) rfl (by kernel_rfl) (by kernel_rfl) (by kernel_rfl) (fun _ _ _ h => h) (Or.inl ⟨by rfl, ?_⟩) hHeld ?_
      rotate_left
      · intro w hSw
        obtain ⟨s0, s1, s2, s3⟩ := hSw
        go_simp
        with_reducible rfl
      simp only [Act.put, List.getElem_toArray, List.getElem_cons_zero, List.getElem_cons_succ, List.setIfInBounds_toArray, List.set_cons_zero, List.set_cons_succ]
      refine wpAnyH_take (i := 17) (v := ?_) rfl (by kernel_rfl) (by kernel_rfl) (by kernel_rfl) (fun _ _ _ h => h) (Or.inl ⟨by rfl, ?_⟩) hHeld ?_
      rotate_left
      · intro w hSw
        obtain ⟨s0, s1, s2, s3⟩ := hSw
        go_simp
        with_reducible rfl
      simp only [Act.put, List.getElem_toArray, List.getElem_cons_zero, List.getElem_cons_succ, List.setIfInBounds_toArray, List.set_cons_zero, List.set_cons_succ]
      refine wpAnyH_take (i := 18) (v := ?_) rfl (by kernel_rfl) (by kernel_rfl) (by kernel_rfl) (fun _ _ _ h => h) (Or.inl ⟨by rfl, ?_⟩) hHeld ?_
      rotate_left
      · intro w hSw
        obtain ⟨s0, s1, s2, s3⟩ := hSw
        go_simp
        with_reducible rfl
      simp only [Act.put, List.getElem_toArray, List.getElem_cons_zero, List.getElem_cons_succ, List.setIfInBounds_toArray, List.set_cons_zero, List.set_cons_succ]
      refine wpAnyH_take (i := 19) (v := ?_) rfl (by kernel_rfl) (by kernel_rfl) (by kernel_rfl) (fun _ _ _ h => h) (Or.inl ⟨by rfl, ?_⟩) hHeld ?_
      rotate_left
      · intro w hSw
        obtain ⟨s0, s1, s2, s3⟩ := hSw
        go_simp
        with_reducible rfl
      simp only [Act.put, List.getElem_toArray, List.getElem_cons_zero, List.getElem_cons_succ, List.setIfInBounds_toArray, List.set_cons_zero, List.set_cons_succ]
      refine wpAnyH_take (i := 20) (v := ?_) rfl (by kernel_rfl) (by kernel_rfl) (by kernel_rfl) (fun _ _ _ h => h) (Or.inl ⟨by rfl, ?_⟩) hHeld ?_
      rotate_left
      · intro w hSw
        obtain ⟨s0, s1, s2, s3⟩ := hSw
        go_simp
        with_reducible rfl
      simp only [Act.put, List.getElem_toArray, List.getElem_cons_zero, List.getElem_cons_succ, List.setIfInBounds_toArray, List.set_cons_zero, List.set_cons_succ]
      refine wpAnyH_take (i := 21) (v := .agg XM.toArray) rfl (by kernel_rfl) (by kernel_rfl) (by kernel_rfl) (fun _ _ _ h => h) (yieldsIf_bld4 (by rfl) 84 _ _ _ _ rfl (.int .i64 x0) (.int .i64 x1) (.agg MM.toArray) (.bool x2) (.agg XM.toArray) rfl rfl rfl rfl hbd) hHeld ?_
      simp only [Act.put, List.getElem_toArray, List.getElem_cons_zero, List.getElem_cons_succ, List.setIfInBounds_toArray, List.set_cons_zero, List.set_cons_succ]
      refine wpAnyH_ready (rs := [22]) (by kernel_rfl) (by simp) ?_
      refine AllReadyH.cons rfl (fun K hK => ?_) AllReadyH.nil
      rw [if_pos (by rfl)]
      refine wp_bs1 30 84 (.tmp 32) rfl XM rfl HBs.out ?_
      refine hK.out _ _ SB.out (fun hHeld => ?_)
      clear hK K
      refine wpAnyH_ready (rs := [23]) (by kernel_rfl) (by simp) ?_
      refine AllReadyH.cons rfl (fun K hK => ?_) AllReadyH.nil
      rw [if_pos (by rfl)]
      refine wp_pushX (.tmp 11) (.tmp 33) 30 120 (.agg (cNd default).toArray) rfl Tryz.underlying30 zN_info rfl (by decide) (by decide) cNd_len nd (cNd_one nd) u3 (l.take j) w.heap.size rfl (HO.out.keep hal) wr.heap.size rfl (by rw [← HXe.out]; exact Blk.new wr.drew _ _) hlj (Nat.le_trans hsz hal.size) ?_
      intro v' W2 k1 k2 k3
      have HE : Hid (OwnX 15 cNd 84 W2 w.heap.size v' (l.take (j + 1)) ∧ Below w.heap.size w W2) := Lib.hid (by
        refine ⟨by rw [HSt.out]; exact k1, ?_⟩
        have hb1 := bthen HB.out hal
        exact ⟨k2.os.trans hb1.os, k2.tape.trans hb1.tape, k2.output.trans hb1.output, Nat.le_trans hb1.size k2.size, fun q hq => (k2.block q (Nat.lt_of_lt_of_le hq hb1.size) (fun e => by have := (hol _ e.symm).1; omega)).trans (hb1.block q hq)⟩)
      have e2 : W2.heap[b]? = wr.heap[b]? := (HE.out.2.block b hbw).trans (HB.out.block b hbw).symm
      have SE := Lib.hid (HSu.out W2 e2)
      clear k1 k2 k3 e2
      refine hK.out _ _ SE.out (fun hHeld => ?_)
      clear hK K
      refine wpAnyH_take (i := 24) (v := ?_) rfl (by kernel_rfl) (by kernel_rfl) (by kernel_rfl) (fun _ _ _ h => h) (Or.inl ⟨by rfl, ?_⟩) hHeld ?_
      rotate_left
      · intro w hSw
        obtain ⟨s0, s1, s2, s3⟩ := hSw
        go_simp
        with_reducible rfl
      simp only [Act.put, List.getElem_toArray, List.getElem_cons_zero, List.getElem_cons_succ, List.setIfInBounds_toArray, List.set_cons_zero, List.set_cons_succ]
      refine wpAnyH_done (by kernel_rfl) ?_ _
      go_wp2
      go_roundw
      case rel => exact ⟨j + 1, by omega, by go_num, HE.out⟩
      case measure => simp [ivl] <;> omega
    · obtain rfl : j = n := by omega
      have e0 : l.take j = l := List.take_of_length_le (by rw [HL.out]; exact Nat.le_refl _)
      rw [e0] at HO
      have j1 : ¬ (j : Int) < (j : Int) := by omega
      clear e0 hrw
      go_wp2
      go_ret
      exact ⟨_, rfl, HO.out, HB.out⟩
end Go.Proofs.YtdndafdninnjfaaGreat
