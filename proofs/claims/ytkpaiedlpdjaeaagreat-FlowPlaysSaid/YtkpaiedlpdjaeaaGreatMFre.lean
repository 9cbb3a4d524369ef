/-
  2 texts in one file, each with its own heading.
-/
import Derived.Test.YtkpaiedlpdjaeaaGreatMQFlrD
/-
  What same of the laws of layer 10 answers, for any package that answers as the bundle says.
-/
namespace Go.Proofs.YtkpaiedlpdjaeaaGreat
open Go.RowKit

theorem cFs_eqE (s : Stt) : cFs s = lM s.wo ++ [.bool s.sh] := rfl
theorem cFs_oneE (s : Stt) : ∀ u ∈ cFs s, u.oneCell' = true := fun u hu => by
  rw [cFs_eqE] at hu
  rcases List.mem_append.1 hu with h | h
  · exact lM_one _ u h
  · rw [List.mem_singleton.1 h]; rfl
structure FE (X : List Value) : Prop where
  len : X.length = 13
  sizea : (Tryz.prog.info? 45).map (·.size) = some X.toArray.size
  onea : X.toArray.all (·.oneCell') = true
theorem fe_any (s : Stt) : FE (cFs s) := ⟨rfl, by kernel_rfl, all_oneCell_toArray (cFs_oneE s)⟩
theorem eqLM (M : Nat → Int) (w : World) : (Op.equalIn 10000 43 (.agg (lM M).toArray) (.agg (lM M).toArray)).run Tryz.prog w = .ok true w := eqMat _ _ _ _ _ _ _ _ _ _ _ _ w
theorem names_rg {D : FD} (hD : DOk D) : Rgs (namesN D.L) := fun z hz => by
  obtain ⟨n, hn, e⟩ := el_isSome.1 (mem_names.1 hz)
  rw [← e]
  exact (hD.rg n hn).1
section
variable {FB : World → Nat → (Nat → Prop) → FD → Prop}
variable {w0 w : World} {gp gr : Nat} {Fp Fq : Nat → Prop}
set_option maxHeartbeats 8000000 in
set_option maxRecDepth 100000 in
theorem same10_any (hC : FWC FB) {D : FD} (h : Duo10 FB RWB w0 w gp gr Fp Fq D D) (hD : DOk D) (hL : D.L.length ≤ 200) (hd : D.dirty.length ≤ 9000) :
    Calls Tryz.prog 10 #[.pointer (some ⟨gp, 0, none⟩), .pointer (some ⟨gr, 0, none⟩)] w fun e w' => e = .returned (.bool true) ∧ Below w.heap.size w w' := by
  have HNa : Hid (∀ u, Below w.heap.size w u → Calls Tryz.prog 27 #[.pointer (some ⟨gr, 0, none⟩)] u fun e w' => ∃ a cap, e = .returned (.slice a D.L.length cap) ∧ Row w' a D.L.length (namesN D.L) ∧ Below u.heap.size u w') := Lib.hid (fun u q => by
    obtain ⟨vl, vd, vs, h1, _⟩ := kb_rwb.keep h.q q
    refine (gnames_any h1 (by omega)).mono ?_
    rintro e w' ⟨v, rfl, ⟨a, c, rfl, r, _⟩, hb⟩
    rw [names_len] at r ⊢
    exact ⟨a, c, rfl, r, hb⟩)
  have HNo : Hid (∀ u, Below w.heap.size w u → Calls Tryz.prog 16 #[.pointer (some ⟨gp, 0, none⟩)] u fun e w' => ∃ a cap, e = .returned (.slice a D.L.length cap) ∧ Row w' a D.L.length (namesN D.L) ∧ Below u.heap.size u w') := Lib.hid (fun u q => by
    refine (hC.nodes u gp Fp D hD (by omega) (hC.keep h.p q)).mono ?_
    rintro e w' ⟨v, rfl, ⟨a, c, rfl, r, _⟩, hb⟩
    rw [names_len] at r ⊢
    exact ⟨a, c, rfl, r, hb⟩)
  have HSt : Hid (∀ u, Below w.heap.size w u → u.cell? ⟨gr, 4, none⟩ = some (.int .i64 D.steps) ∧ gr < u.heap.size ∧ Calls Tryz.prog 15 #[.pointer (some ⟨gp, 0, none⟩)] u fun e w' => e = .returned (.int .i64 D.steps) ∧ w'.cell? ⟨gr, 4, none⟩ = some (.int .i64 D.steps) ∧ Below u.heap.size u w') := Lib.hid (fun u q => by
    have hk : ∀ v, Below w.heap.size w v → v.cell? ⟨gr, 4, none⟩ = some (.int .i64 D.steps) ∧ gr < v.heap.size := fun v q => by
      obtain ⟨vl, vd, vs, h1, _⟩ := kb_rwb.keep h.q q
      exact ⟨h1.blk.cell 4, h1.blk.lt⟩
    refine ⟨(hk u q).1, (hk u q).2, (hC.steps u gp Fp D (hC.keep h.p q)).mono fun e w' k => ⟨k.1, (hk w' (bthen q k.2)).1, k.2⟩⟩)
  have HS1 : Hid (∀ u x, Below w.heap.size w u → Rg x → Calls Tryz.prog 12 #[.pointer (some ⟨gp, 0, none⟩), .int .i64 x] u fun e w' => e = .returned (.tuple #[.agg (cFs ((stateN D x).getD zSt)).toArray, .bool (stateN D x).isSome]) ∧ Below u.heap.size u w') := Lib.hid (fun u x q hx => (hC.state u gp Fp D x hD (by omega) (hC.keep h.p q) hx).mono fun e w' ⟨Y, k1, k2, k3⟩ => ⟨by rw [k1, k2], k3⟩)
  have HS2 : Hid (∀ u x, Below w.heap.size w u → Calls Tryz.prog 28 #[.pointer (some ⟨gr, 0, none⟩), .int .i64 x] u fun e w' => e = .returned (.tuple #[.agg (cSt ((stateN D x).getD zSt)).toArray, .bool (stateN D x).isSome]) ∧ Below u.heap.size u w') := Lib.hid (fun u x q => by
    obtain ⟨vl, vd, vs, h1, _⟩ := kb_rwb.keep h.q q
    exact (gstate_any h1 hD.wf (by omega) (by omega) x).mono fun e w' ⟨Y, k1, k2, k3⟩ => ⟨by rw [k1, k2], k3⟩)
  have HNr := Lib.hid (names_rg hD)
  obtain ⟨K, hK⟩ : ∃ K, K = namesN D.L := ⟨_, rfl⟩
  rw [← hK] at HNa HNo HNr
  obtain ⟨n, hn⟩ : ∃ n, n = D.L.length := ⟨_, rfl⟩
  rw [← hn] at HNa HNo hL
  obtain ⟨st, hst⟩ : ∃ st, st = D.steps := ⟨_, rfl⟩
  rw [← hst] at HSt
  clear h hC hK hn hst hD hd
  go_enter Tryz.func10, Tryz.ntmps10
  go_wp2_with fail
  refine (HNa.out w (Below.refl _ _)).mono ?_
  rintro e w1 ⟨ia, ic, rfl, r1, b1⟩
  have HR1 := Lib.hid r1
  have HB1 := Lib.hid b1
  have hbig := r1.2.1
  clear r1 b1 HNa
  go_wp2_with fail
  refine (HNo.out w1 HB1.out).mono ?_
  rintro e w2 ⟨na, nc, rfl, r2, b2⟩
  have HS := Lib.hid (psame_yes (cap := nc) (cap' := ic) r2 (row_keep HR1.out b2))
  replace HR1 := Lib.hid (row_keep HR1.out b2)
  replace HB1 := Lib.hid (bthen HB1.out b2)
  clear r2 b2 HNo
  go_wp2_with fail
  refine HS.out.mono ?_
  rintro e w3 ⟨rfl, b3⟩
  have HR := Lib.hid (row_keep HR1.out b3)
  have HB := Lib.hid (bthen HB1.out b3)
  clear b3 HS HR1 HB1
  obtain ⟨c4, hg, hs⟩ := HSt.out w3.drew (bthen HB.out (below_drew9f w3))
  have HStp := Lib.hid hs
  have c40 : w3.cell? ⟨gr, 4, none⟩ = some (.int .i64 st) := c4
  have hg0 : gr < w3.heap.size := hg
  clear hs HSt
  go_upto_region 3 with fail
  go_region_held3 (fun w' => w'.cell? ⟨gr, 4, none⟩ = some (.int .i64 st)) (first | exact c4 | exact c42)
    (first | (go_at_call 15; refine HStp.out.mono ?_; rintro e w4 ⟨rfl, c42, b4⟩; have HB4 := Lib.hid (bthen (below_drew9f w3) b4); clear b4))
  have HR4 := Lib.hid (row_keep HR.out HB4.out)
  have HBw := Lib.hid (bthen HB.out HB4.out)
  clear HR HB HB4 HStp c4 c40 c42 hg hg0
  go_wp2
  go_loopw [7, 8, 9, 10, 11] (fun i _ _ _ _ wr => ∃ j : Nat, j ≤ n ∧ i = .int .i64 j ∧ Below w.heap.size w wr ∧ Below w4.heap.size w4 wr) (fun i _ _ _ _ _ => n - (ivl i).toNat)
  case atStart => exact ⟨0, by omega, rfl, HBw.out, Below.refl _ _⟩
  case round =>
    obtain ⟨j, hj, rfl, hb, hb4⟩ := hrel
    have HB := Lib.hid hb
    have HB4 := Lib.hid hb4
    have hrw := row_keep HR4.out hb4
    clear hb hb4
    by_cases hlt : j < n
    · obtain ⟨b, off, x, rfl, hz, cz⟩ := row_at hrw hlt
      have hbl := World.block_lt_of_cell? _ _ cz
      have hxr := HNr.out x (List.mem_of_getElem? hz)
      have HC1 := Lib.hid (HS1.out wr x HB.out hxr)
      have HC2 := Lib.hid (fun u q => HS2.out u x q)
      obtain ⟨s, hs⟩ : ∃ s, s = (stateN D x).getD zSt := ⟨_, rfl⟩
      obtain ⟨is, his⟩ : ∃ is, is = (stateN D x).isSome := ⟨_, rfl⟩
      rw [← hs, ← his] at HC1 HC2
      have HX := Lib.hid (fe_any s)
      have HY := Lib.hid (sx_any s)
      have HCx : Hid (∀ W gg, Blk W gg 45 (cFs s).toArray → W.rangeAt gg 0 (lM s.wo) ∧ W.cell? ⟨gg, 12, none⟩ = some (.bool s.sh)) := Lib.hid (fun W gg k => ⟨blk_range k 0 12, k.cell 12⟩)
      have HCy : Hid (∀ W gg, Blk W gg 58 (cSt s).toArray → W.rangeAt gg 1 (lM s.wo) ∧ W.cell? ⟨gg, 13, none⟩ = some (.bool s.sh)) := Lib.hid (fun W gg k => ⟨blk_range k 1 12, k.cell 13⟩)
      have HMX := Lib.hid (mx_any s.wo)
      have HEq : Hid (∀ W : World, (Op.equalIn 10000 43 (.agg (lM s.wo).toArray) (.agg (lM s.wo).toArray)).run Tryz.prog W = .ok true W) := Lib.hid (eqLM s.wo)
      obtain ⟨XX, hXX⟩ : ∃ XX, XX = cFs s := ⟨_, rfl⟩
      obtain ⟨XY, hXY⟩ : ∃ XY, XY = cSt s := ⟨_, rfl⟩
      obtain ⟨MM, hMM⟩ : ∃ MM, MM = lM s.wo := ⟨_, rfl⟩
      obtain ⟨sh, hsh⟩ : ∃ sh, sh = s.sh := ⟨_, rfl⟩
      rw [← hXX] at HC1 HX HCx
      rw [← hXY] at HC2 HY HCy
      rw [← hMM] at HCx HCy HMX HEq
      rw [← hsh] at HCx HCy
      have heq := HEq.out
      have HCz : Hid (∀ u, Below wr.heap.size wr u → u.cell? ⟨b, off + j, none⟩ = some (.int .i64 x) ∧ b < u.heap.size) := Lib.hid (fun u q => ⟨cell_keep cz q, Nat.lt_of_lt_of_le hbl q.size⟩)
      have j0 : (0 : Int) ≤ (j : Int) := by omega
      have j1 : (j : Int) < (n : Int) := by omega
      clear hrw hz hxr hs his hXX hXY hMM hsh HEq
      go_wp2_with fail
      refine HC1.out.mono ?_
      rintro e w5 ⟨rfl, b5⟩
      have hal : Below w5.heap.size w5 (w5.alloc (.cells (cFs zSt).toArray 45)) := alloc_below _ _
      have hbs : Below w5.heap.size w5 ((w5.alloc (.cells (cFs zSt).toArray 45)).setCells w5.heap.size 0 XX) := below_setCells XX hal (Nat.le_refl _)
      have HTh : Hid ((w5.alloc (.cells (cFs zSt).toArray 45)).there w5.heap.size 0 XX.toArray.size) := Lib.hid (blk_there (Blk.new w5 _ _) (by rw [List.size_toArray, HX.out.len]; exact Nat.le_refl 13))
      have HK : Hid (Blk ((w5.alloc (.cells (cFs zSt).toArray 45)).setCells w5.heap.size 0 XX) w5.heap.size 45 XX.toArray ∧ Below wr.heap.size wr ((w5.alloc (.cells (cFs zSt).toArray 45)).setCells w5.heap.size 0 XX)) := Lib.hid ⟨blk_over (Blk.new w5 _ _) (by rw [HX.out.len]; rfl), bthen b5 hbs⟩
      clear b5 hal hbs HC1
      go_upto_region 9 with (refine wpList_store_mid rfl 45 (.tmp 8) (.tmp 42) rfl w5.heap.size 0 XX.toArray rfl rfl HTh.out HX.out.sizea HX.out.onea ?_)
      refine fin (fun W => Blk W w5.heap.size 45 XX.toArray ∧ Below wr.heap.size wr W) HK.out ?_
      clear HK HTh cz hbl
      obtain ⟨g8, hg8⟩ : ∃ g8, g8 = w5.heap.size := ⟨_, rfl⟩
      rw [← hg8]
      rintro W ⟨k8, hbW⟩
      have K8 := Lib.hid k8
      have HBW := Lib.hid hbW
      obtain ⟨cz, hbl⟩ := HCz.out W hbW
      have HC3 := Lib.hid (HC2.out W (bthen HB.out hbW))
      clear k8 hbW hg8 HC2
      go_wp2_with fail
      refine HC3.out.mono ?_
      rintro e w6 ⟨rfl, b6⟩
      have hal : Below w6.heap.size w6 (w6.alloc (.cells (cSt zSt).toArray 58)) := alloc_below _ _
      have hbs : Below w6.heap.size w6 ((w6.alloc (.cells (cSt zSt).toArray 58)).setCells w6.heap.size 0 XY) := below_setCells XY hal (Nat.le_refl _)
      have HTh : Hid ((w6.alloc (.cells (cSt zSt).toArray 58)).there w6.heap.size 0 XY.toArray.size) := Lib.hid (blk_there (Blk.new w6 _ _) (by rw [List.size_toArray, HY.out.len]; exact Nat.le_refl 14))
      have HK : Hid (Blk ((w6.alloc (.cells (cSt zSt).toArray 58)).setCells w6.heap.size 0 XY) w6.heap.size 58 XY.toArray ∧ Blk ((w6.alloc (.cells (cSt zSt).toArray 58)).setCells w6.heap.size 0 XY) g8 45 XX.toArray ∧ Below wr.heap.size wr ((w6.alloc (.cells (cSt zSt).toArray 58)).setCells w6.heap.size 0 XY)) := Lib.hid ⟨blk_over (Blk.new w6 _ _) (by rw [HY.out.len]; rfl), (K8.out.keep b6).keep hbs, bthen (bthen HBW.out b6) hbs⟩
      clear b6 hal hbs HC3 K8 HBW cz hbl
      go_upto_region 10 with (refine wpList_store_mid rfl 58 (.tmp 10) (.tmp 51) rfl w6.heap.size 0 XY.toArray rfl rfl HTh.out HY.out.sizea HY.out.onea ?_)
      refine fin (fun W => Blk W w6.heap.size 58 XY.toArray ∧ Blk W g8 45 XX.toArray ∧ Below wr.heap.size wr W) HK.out ?_
      clear HK HTh
      obtain ⟨g10, hg10⟩ : ∃ g10, g10 = w6.heap.size := ⟨_, rfl⟩
      rw [← hg10]
      rintro W2 ⟨k10, k8, hbW⟩
      obtain ⟨hr10, c10⟩ := HCy.out W2 g10 k10
      obtain ⟨hr8, c8⟩ := HCx.out W2 g8 k8
      have HR8 := Lib.hid hr8
      have HR10 := Lib.hid hr10
      have z8 := k8.lt
      have z10 := k10.lt
      have HBn := Lib.hid (And.intro (bthen HB.out hbW) (bthen HB4.out hbW))
      clear hr8 hr10 k10 k8 hbW hg10 HB HB4
      go_wp2_with (first | refine wpList_load_g (by rfl) 43 (.tmp 57) rfl g8 0 rfl MM _ HR8.out Tryz.underlying43 rfl HMX.out.size ?_ | refine wpList_load_g (by rfl) 43 (.tmp 59) rfl g10 1 rfl MM _ HR10.out Tryz.underlying43 rfl HMX.out.size ?_)
      go_roundw
      case rel => exact ⟨j + 1, by omega, by go_num, HBn.out⟩
      case measure => simp [ivl] <;> omega
    · obtain rfl : j = n := by omega
      have j1 : ¬ (j : Int) < (j : Int) := by omega
      clear hrw
      go_wp2
      go_ret
      exact ⟨rfl, HB.out⟩
end
end Go.Proofs.YtkpaiedlpdjaeaaGreat
/-
  The live question of the laws of layer 10, for any package that answers as the bundle says.
-/
namespace Go.Proofs.YtkpaiedlpdjaeaaGreat
open Go.RowKit

section
variable {FB : World → Nat → (Nat → Prop) → FD → Prop}
/-- it stays behind w, and so does what is beside it -/
theorem ChX.low {w w1 w2 : World} {g : Nat} {F : Nat → Prop} {D : FD} (h : ChX FB w1 w2 g F D) (hb : Below w.heap.size w w1) (hF : ∀ b, F b → w.heap.size ≤ b) : ∃ F', FB w2 g F' D ∧ (∀ b, F' b → w.heap.size ≤ b) ∧ Below w.heap.size w w2 ∧ (∀ b, b < w1.heap.size → ¬ F b → w2.heap[b]? = w1.heap[b]? ∧ ¬ F' b) := by
  obtain ⟨F', h1, h2, h3⟩ := h
  exact ⟨F', h1, fun b c => (h3 b c).elim (hF b) (fun d => Nat.le_trans hb.size d), Fr.below h2 hb hF hb.size, fun b hl hn => ⟨h2.2.2.2.2 b hl hn, fun c => (h3 b c).elim hn (fun d => by omega)⟩⟩
end
theorem rowx_lit {w : World} {g : Nat} {t : TypeId} {X : List Nd} (h : Blk w g t (X.flatMap cNd).toArray) (hl : X.length ≤ 1000) : NRow w (some ⟨g, 0, none⟩) X.length X := by
  refine ⟨rfl, by omega, Or.inr ⟨g, 0, rfl, h.lt, fun i x hx => ?_⟩⟩
  have := blk_range h (i * 15) 15
  rw [flatx_at cNd_len X i x hx] at this
  rw [Nat.zero_add]
  exact this
theorem wpList_bs3 {ops : Array Oper} {rest : List Oper} {op : Oper} {a : Go.Act} {w : World} {Q : Exit → Go.Act → World → Prop} (hgd : op.guard = none) (t e : TypeId) (x y z : Operand) (ho : op.op = .buildSlice t 3 #[(0, x), (1, y), (2, z)]) (X Y Z V : List Value) (hx : a.eval x = .agg X.toArray) (hy : a.eval y = .agg Y.toArray) (hz : a.eval z = .agg Z.toArray)
    (hrun : ∀ W, (Instr.buildSlice t 3 #[(0, .agg X.toArray), (1, .agg Y.toArray), (2, .agg Z.toArray)]).run Tryz.prog W = .ok (.slice (some ⟨W.heap.size, 0, none⟩) 3 3) (W.alloc (.cells V.toArray e)))
    (h : wpList Tryz.prog ops Q rest (a.put op.dst (.slice (some ⟨w.heap.size, 0, none⟩) 3 3)) (w.alloc (.cells V.toArray e))) : wpList Tryz.prog ops Q (op :: rest) a w :=
  wpList_plain hgd fun K hK => by
    have h2 := hK _ _ h
    unfold Oper.wp execOp
    simp only [ho]
    simp [hx, hy, hz, hrun]
    exact h2
theorem wpList_bld4f {ops : Array Oper} {rest : List Oper} {op : Oper} {a : Go.Act} {w : World} {Q : Exit → Go.Act → World → Prop} (hgd : op.guard = none) (t : TypeId) (x y z u : Operand) (ho : op.op = .build t #[(0, x), (1, y), (2, z), (3, u)]) (vx vy vz vu vr : Value) (hx : a.eval x = vx) (hy : a.eval y = vy) (hz : a.eval z = vz) (hu : a.eval u = vu)
    (hrun : ∀ W, (Instr.build t #[(0, vx), (1, vy), (2, vz), (3, vu)]).run Tryz.prog W = .ok vr W)
    (h : wpList Tryz.prog ops Q rest (a.put op.dst vr) w) : wpList Tryz.prog ops Q (op :: rest) a w :=
  wpList_plain hgd fun K hK => by
    have h2 := hK _ _ h
    unfold Oper.wp execOp
    simp only [ho]
    simp [hx, hy, hz, hu, hrun]
    exact h2
def mvA : Nat → Int := fun i => [65536, 0, 0, 65536, 0, 65536, 0, 0, 0, 0, 65536, 0].getD i 0
def nA (i p : Int) (h : Bool) : Nd := ⟨i, p, mvA, h⟩
def lA1 : List Nd := [nA 4 7 false, nA 7 (-1) true, nA 9 (-1) false]
def lA2 : List Nd := [nA 7 4 false]
def lA3 : List Nd := [nA 7 (-1) false]
def dA1 : FD := putFD FD0 lA1
def dA2 : FD := runD dA1
def dA3 : FD := putFD dA2 lA3
def dA4 : FD := runD dA3
theorem bldA3 (a b : Int) (W : World) : (Instr.build 64 #[(0, .int .i64 a), (1, .int .i64 b), (2, .agg (lM mvA).toArray)]).run Tryz.prog W = .ok (.agg (cNd (nA a b false)).toArray) W := by kernel_rfl
theorem bldA4 (a b : Int) (W : World) : (Instr.build 64 #[(0, .int .i64 a), (1, .int .i64 b), (2, .agg (lM mvA).toArray), (3, .bool true)]).run Tryz.prog W = .ok (.agg (cNd (nA a b true)).toArray) W := by kernel_rfl
theorem bsA3 (x y z : Nd) (W : World) : (Instr.buildSlice 34 3 #[(0, .agg (cNd x).toArray), (1, .agg (cNd y).toArray), (2, .agg (cNd z).toArray)]).run Tryz.prog W = .ok (.slice (some ⟨W.heap.size, 0, none⟩) 3 3) (W.alloc (.cells ([x, y, z].flatMap cNd).toArray 64)) := by kernel_rfl
theorem mvA_move (w : World) : Calls Tryz.prog 22 #[.agg #[.int .i64 65536, .int .i64 0, .int .i64 0]] w fun e w' => e = .returned (.agg (lM mvA).toArray) ∧ Below w.heap.size w w' := rmove_xyz 65536 0 0 w
theorem rgA (i p : Int) (h : Bool) (hi : Rg i) (hp : Rg p) : Rg (nA i p h).id ∧ Rg (nA i p h).par := ⟨hi, hp⟩
theorem rgA1 : rgN lA1 := by
  intro x hx
  unfold lA1 at hx
  simp only [List.mem_cons, List.not_mem_nil, or_false] at hx
  rcases hx with rfl | rfl | rfl <;> exact rgA _ _ _ (by decide) (by decide)
theorem rgA2 : rgN lA2 := by
  intro x hx
  rw [List.mem_singleton.1 hx]
  exact rgA _ _ _ (by decide) (by decide)
theorem rgA3 : rgN lA3 := by
  intro x hx
  rw [List.mem_singleton.1 hx]
  exact rgA _ _ _ (by decide) (by decide)
theorem okA1 : DOk dA1 := DOk.zero.put rgA1
theorem okA2 : DOk dA2 := okA1.run
theorem okA3 : DOk dA3 := okA2.put rgA3
theorem okA4 : DOk dA4 := okA3.run
theorem eA : putFE FD0 lA1 = 0 ∧ runE dA1 = 0 ∧ touchN dA1 = [7, 4, 9] ∧ putFE dA2 lA2 = 8 ∧ runE dA3 = 0 ∧ touchN dA3 = [7, 4] ∧ dA4.steps = 5 := by decide +kernel
theorem sA : (stateN dA2 4).isSome = true ∧ ((stateN dA2 4).getD zSt).sh = false ∧ ((stateN dA2 4).getD zSt).wo 3 = 131072 ∧ (stateN dA4 4).isSome = true ∧ ((stateN dA4 4).getD zSt).sh = true := by decide +kernel
theorem lenA : dA1.L.length = 3 ∧ dA2.L.length = 3 ∧ dA3.L.length = 3 ∧ dA4.L.length = 3 ∧ dA1.steps ≤ 1000 ∧ dA3.steps ≤ 1000 := by decide +kernel
end Go.Proofs.YtkpaiedlpdjaeaaGreat
