/-
  3 texts in one file, each with its own heading.
-/
import Derived.Test.YtjcibffhlhdjeaaMU14
import Derived.Test.YtjcibffhlhdjeaaMU12
import Derived.Test.YtjcibffhlhdjeaaMU18
import Derived.Test.YtjcibffhlhdjeaaMU13
import Derived.Test.YtjcibffhlhdjeaaMU06
/-
  The reference's cull of layer 15 in memory: its view, records and dirty names; what it is behind each of them is changed.
-/
namespace Go.Proofs.Ytjcibffhlhdjeaa
open Go.RowKit

theorem below_drew15 (w : World) : Below w.heap.size w w.drew := ⟨rfl, rfl, rfl, Nat.le_refl _, fun _ _ => rfl⟩
theorem ownd_low {w : World} {base base' n : Nat} {v : Value} {zs : List Int} (h : OwnD w base v n zs) (hb : base' ≤ base) : OwnD w base' v n zs := ⟨h.1, h.2.imp id fun ⟨g, cap, cur, e, hg, r⟩ => ⟨g, cap, cur, e, Nat.le_trans hb hg, r⟩⟩
def VwM (w : World) (vV vs : Value) (V : Option Vw) : Prop := match V with
  | none => vV = .slice none 0 0 ∧ vs = .slice none 0 0
  | some v => ∃ bv, vV = .slice (some ⟨bv, 0, none⟩) 1 1 ∧ Blk w bv 42 (cVw vs v.eye v.m).toArray ∧ OwnX 4 cPl 40 w 0 vs v.ps
theorem VwM.same {w w' : World} {vV vs : Value} {V : Option Vw} (h : VwM w vV vs V) (h1 : ∀ b, vV.ownBlock = some b → w'.heap[b]? = w.heap[b]?) (h2 : ∀ b, vs.ownBlock = some b → w'.heap[b]? = w.heap[b]?) : VwM w' vV vs V := by
  cases V with
  | none => exact h
  | some v =>
    obtain ⟨bv, e, k, o⟩ := h
    exact ⟨bv, e, k.same (h1 bv (by rw [e]; rfl)), o.same h2⟩
theorem VwM.lt {w : World} {vV vs : Value} {V : Option Vw} (h : VwM w vV vs V) : (∀ b, vV.ownBlock = some b → b < w.heap.size) ∧ ∀ b, vs.ownBlock = some b → b < w.heap.size := by
  cases V with
  | none =>
    rw [h.1, h.2]
    exact ⟨fun b e => (by cases e), fun b e => (by cases e)⟩
  | some v =>
    obtain ⟨bv, e, k, o⟩ := h
    refine ⟨fun b e2 => ?_, fun b e2 => (o.lt b e2).2⟩
    rw [e] at e2
    injection e2 with e2
    rw [← e2]; exact k.lt
def othK (vV vs vR : Value) (b : Nat) : Prop := vV.ownBlock = some b ∨ vs.ownBlock = some b ∨ vR.ownBlock = some b
structure RK (w : World) (g : Nat) (K : Ku) (vV vs vR vD vS : Value) (st : Int) : Prop where
  blk : Blk w g 33 #[vV, vR, vD, vS, .int .i64 st]
  vw : VwM w vV vs K.V
  rc : OwnX 12 cRc 50 w 0 vR K.R
  dir : OwnD w 0 vD K.D.length K.D
  o : ∀ b, othK vV vs vR b → b ≠ g ∧ vD.ownBlock ≠ some b
  od : ∀ b, vD.ownBlock = some b → b ≠ g
def footK (g : Nat) (vV vs vR vD : Value) (b : Nat) : Prop := b = g ∨ othK vV vs vR b ∨ vD.ownBlock = some b
def RKB (w : World) (g : Nat) (F : Nat → Prop) (K : Ku) : Prop := ∃ vV vs vR vD vS st, RK w g K vV vs vR vD vS st ∧ ∀ b, F b ↔ footK g vV vs vR vD b
section
variable {w w' wb w4 : World} {g : Nat} {K : Ku} {vV vs vR vD vS : Value} {st : Int} {F : Nat → Prop}
theorem RK.inb (h : RK w g K vV vs vR vD vS st) : ∀ b, footK g vV vs vR vD b → b < w.heap.size := by
  rintro b (e | (e | e | e) | e)
  · rw [e]; exact h.blk.lt
  · exact h.vw.lt.1 b e
  · exact h.vw.lt.2 b e
  · exact (h.rc.lt b e).2
  · exact (World.ownsRow.lt h.dir b e).2
theorem RK.same (h : RK w g K vV vs vR vD vS st) (he : ∀ b, footK g vV vs vR vD b → w'.heap[b]? = w.heap[b]?) : RK w' g K vV vs vR vD vS st :=
  ⟨h.blk.same (he g (Or.inl rfl)), h.vw.same (fun b e => he b (Or.inr (Or.inl (Or.inl e)))) (fun b e => he b (Or.inr (Or.inl (Or.inr (Or.inl e))))), h.rc.same (fun b e => he b (Or.inr (Or.inl (Or.inr (Or.inr e))))), ownd_same h.dir (fun b e => he b (Or.inr (Or.inr e))), h.o, h.od⟩
theorem RK.keep (h : RK w g K vV vs vR vD vS st) (hb : Below w.heap.size w w') : RK w' g K vV vs vR vD vS st := h.same (fun b hf => hb.block b (h.inb b hf))
theorem RKB.same (h : RKB w g F K) (he : ∀ b, F b → w'.heap[b]? = w.heap[b]?) : RKB w' g F K := by
  obtain ⟨vV, vs, vR, vD, vS, st, h1, h2⟩ := h
  exact ⟨vV, vs, vR, vD, vS, st, h1.same (fun b hb => he b ((h2 b).2 hb)), h2⟩
theorem RKB.inb (h : RKB w g F K) : ∀ b, F b → b < w.heap.size := by
  obtain ⟨vV, vs, vR, vD, vS, st, h1, h2⟩ := h
  exact fun b hb => h1.inb b ((h2 b).1 hb)
theorem RKB.keep (h : RKB w g F K) (hb : Below w.heap.size w w') : RKB w' g F K := h.same (fun b hf => hb.block b (h.inb b hf))
theorem fr_set {o : Nat} {u : Value} (hg : F g) (hb : Below w.heap.size w wb) : Fr w (wb.setCell ⟨g, o, none⟩ u) F :=
  ⟨hb.os, hb.tape, hb.output, by simpa [World.setCell] using hb.size, fun b hl hn => by
    rw [set_at (fun q => hn (by rw [q]; exact hg))]
    exact hb.block b hl⟩
theorem RK.setD (h : RK w g K vV vs vR vD vS st) (hF : ∀ b, F b ↔ footK g vV vs vR vD b) (hb : Below w.heap.size w wb) {v : Value} {D' : List Int} (ho : OwnD wb w.heap.size v D'.length D') :
    RK (wb.setCell ⟨g, 2, none⟩ v) g { K with D := D' } vV vs vR v vS st ∧ Fr w (wb.setCell ⟨g, 2, none⟩ v) F ∧ ∀ b, footK g vV vs vR v b → F b ∨ w.heap.size ≤ b := by
  have h1 := h.keep hb
  have hnew : ∀ b, v.ownBlock = some b → w.heap.size ≤ b := fun b e => (World.ownsRow.lt ho b e).1
  have hin := h.inb
  have hgl := h.blk.lt
  refine ⟨⟨h1.blk.set_ 2 v, h1.vw.same (fun b e => set_at (h.o b (Or.inl e)).1) (fun b e => set_at (h.o b (Or.inr (Or.inl e))).1), h1.rc.same (fun b e => set_at (h.o b (Or.inr (Or.inr e))).1), ownd_same (ownd_low ho (Nat.zero_le _)) (fun b e => set_at (fun q => by have := hnew b e; omega)), fun b e => ⟨(h.o b e).1, fun e2 => ?_⟩, fun b e => by have := hnew b e; omega⟩, fr_set ((hF g).2 (Or.inl rfl)) hb, ?_⟩
  · have := hnew b e2
    have := hin b (Or.inr (Or.inl e))
    omega
  · rintro b (e | e | e)
    · exact Or.inl ((hF b).2 (Or.inl e))
    · exact Or.inl ((hF b).2 (Or.inr (Or.inl e)))
    · exact Or.inr (hnew b e)
theorem RK.setR (h : RK w g K vV vs vR vD vS st) (hF : ∀ b, F b ↔ footK g vV vs vR vD b) (hb : Below w.heap.size w wb) {v : Value} {R' : List Rc} (ho : OwnX 12 cRc 50 wb w.heap.size v R') :
    RK (wb.setCell ⟨g, 1, none⟩ v) g { K with R := R' } vV vs v vD vS st ∧ Fr w (wb.setCell ⟨g, 1, none⟩ v) F ∧ ∀ b, footK g vV vs v vD b → F b ∨ w.heap.size ≤ b := by
  have h1 := h.keep hb
  have hnew : ∀ b, v.ownBlock = some b → w.heap.size ≤ b := fun b e => (ho.lt b e).1
  have hin := h.inb
  have hgl := h.blk.lt
  refine ⟨⟨h1.blk.set_ 1 v, h1.vw.same (fun b e => set_at (h.o b (Or.inl e)).1) (fun b e => set_at (h.o b (Or.inr (Or.inl e))).1), (ho.low (Nat.zero_le _)).same (fun b e => set_at (fun q => by have := hnew b e; omega)), ownd_same h1.dir (fun b e => set_at (h.od b e)), ?_, h.od⟩, fr_set ((hF g).2 (Or.inl rfl)) hb, ?_⟩
  · rintro b (e | e | e)
    · exact h.o b (Or.inl e)
    · exact h.o b (Or.inr (Or.inl e))
    · have h2 := hnew b e
      refine ⟨by omega, fun e2 => ?_⟩
      have := hin b (Or.inr (Or.inr e2))
      omega
  · rintro b (e | (e | e | e) | e)
    · exact Or.inl ((hF b).2 (Or.inl e))
    · exact Or.inl ((hF b).2 (Or.inr (Or.inl (Or.inl e))))
    · exact Or.inl ((hF b).2 (Or.inr (Or.inl (Or.inr (Or.inl e)))))
    · exact Or.inr (hnew b e)
    · exact Or.inl ((hF b).2 (Or.inr (Or.inr e)))
theorem RK.setV (h : RK w g K vV vs vR vD vS st) (hF : ∀ b, F b ↔ footK g vV vs vR vD b) (hb : Below w.heap.size w wb) {v s : Value} {V' : Option Vw} (ho : VwM wb v s V') (hv : ∀ b, v.ownBlock = some b → w.heap.size ≤ b) (hs : ∀ b, s.ownBlock = some b → w.heap.size ≤ b) :
    RK (wb.setCell ⟨g, 0, none⟩ v) g { K with V := V' } v s vR vD vS st ∧ Fr w (wb.setCell ⟨g, 0, none⟩ v) F ∧ ∀ b, footK g v s vR vD b → F b ∨ w.heap.size ≤ b := by
  have h1 := h.keep hb
  have hin := h.inb
  have hgl := h.blk.lt
  refine ⟨⟨h1.blk.set_ 0 v, ho.same (fun b e => set_at (fun q => by have := hv b e; omega)) (fun b e => set_at (fun q => by have := hs b e; omega)), h1.rc.same (fun b e => set_at (h.o b (Or.inr (Or.inr e))).1), ownd_same h1.dir (fun b e => set_at (h.od b e)), ?_, h.od⟩, fr_set ((hF g).2 (Or.inl rfl)) hb, ?_⟩
  · rintro b (e | e | e)
    · have h2 := hv b e
      refine ⟨by omega, fun e2 => ?_⟩
      have := hin b (Or.inr (Or.inr e2))
      omega
    · have h2 := hs b e
      refine ⟨by omega, fun e2 => ?_⟩
      have := hin b (Or.inr (Or.inr e2))
      omega
    · exact h.o b (Or.inr (Or.inr e))
  · rintro b (e | (e | e | e) | e)
    · exact Or.inl ((hF b).2 (Or.inl e))
    · exact Or.inr (hv b e)
    · exact Or.inr (hs b e)
    · exact Or.inl ((hF b).2 (Or.inr (Or.inl (Or.inr (Or.inr e)))))
    · exact Or.inl ((hF b).2 (Or.inr (Or.inr e)))
theorem RK.pushD (h : RK w g K vV vs vR vD vS st) (hF : ∀ b, F b ↔ footK g vV vs vR vD b) {ob : Obj} (hgr : (w.alloc ob).grownBy w4 vD.ownBlock) {gu nn gcap : Nat} {B : List Int} (hn : nn = B.length) (ho : OwnD w4 0 (.slice (some ⟨gu, 0, none⟩) nn gcap) nn B) (hat : vD.ownBlock = some gu ∨ (w.alloc ob).heap.size ≤ gu) :
    RK (w4.setCell ⟨g, 2, none⟩ (.slice (some ⟨gu, 0, none⟩) nn gcap)) g { K with D := B } vV vs vR (.slice (some ⟨gu, 0, none⟩) nn gcap) vS st ∧ Fr w (w4.setCell ⟨g, 2, none⟩ (.slice (some ⟨gu, 0, none⟩) nn gcap)) F ∧ (∀ b, footK g vV vs vR (.slice (some ⟨gu, 0, none⟩) nn gcap) b → F b ∨ w.heap.size ≤ b) ∧ Blk w4 g 33 #[vV, vR, vD, vS, .int .i64 st] ∧ ∀ b, b < w.heap.size → vD.ownBlock ≠ some b → w4.heap[b]? = w.heap[b]? := by
  have hal : Below w.heap.size w (w.alloc ob) := alloc_below _ _
  have hin := h.inb
  have hst : ∀ b, b < w.heap.size → vD.ownBlock ≠ some b → w4.heap[b]? = w.heap[b]? := fun b hb hne => (hgr.block b (Nat.lt_of_lt_of_le hb hal.size) (fun e => hne e.symm)).trans (hal.block b hb)
  have hgu : gu ≠ g ∧ ∀ b, othK vV vs vR b → b ≠ gu := by
    rcases hat with q | q
    · exact ⟨h.od gu q, fun b e e2 => (h.o b e).2 (by rw [e2]; exact q)⟩
    · have h2 := hal.size
      have h3 := h.blk.lt
      refine ⟨fun e => by omega, fun b e e2 => ?_⟩
      have := hin b (Or.inr (Or.inl e))
      omega
  have hb4 : Blk w4 g 33 #[vV, vR, vD, vS, .int .i64 st] := h.blk.same (hst g h.blk.lt (fun e => h.od g e rfl))
  have hoth : ∀ b u, othK vV vs vR b → (w4.setCell ⟨g, 2, none⟩ u).heap[b]? = w.heap[b]? := fun b u e => (set_at (h.o b e).1).trans (hst b (hin b (Or.inr (Or.inl e))) (h.o b e).2)
  subst hn
  refine ⟨⟨hb4.set_ 2 _, h.vw.same (fun b e => hoth b _ (Or.inl e)) (fun b e => hoth b _ (Or.inr (Or.inl e))), h.rc.same (fun b e => hoth b _ (Or.inr (Or.inr e))), ownd_same ho (fun b e => set_at (fun q => ?_)), fun b e => ⟨(h.o b e).1, fun e2 => ?_⟩, fun b e => ?_⟩, ?_, ?_, hb4, hst⟩
  · have : gu = b := by simpa [Value.ownBlock] using e
    exact hgu.1 (this.trans q)
  · have : gu = b := by simpa [Value.ownBlock] using e2
    exact hgu.2 b e this.symm
  · have : gu = b := by simpa [Value.ownBlock] using e
    rw [← this]; exact hgu.1
  · refine ⟨hgr.os.trans hal.os, hgr.tape.trans hal.tape, hgr.output.trans hal.output, by have := hgr.size; have := hal.size; simp [World.setCell]; omega, fun b hl hn => ?_⟩
    rw [set_at (fun q => hn ((hF b).2 (Or.inl q)))]
    exact hst b hl (fun e => hn ((hF b).2 (Or.inr (Or.inr e))))
  · rintro b (e | e | e)
    · exact Or.inl ((hF b).2 (Or.inl e))
    · exact Or.inl ((hF b).2 (Or.inr (Or.inl e)))
    · have : gu = b := by simpa [Value.ownBlock] using e
      rw [← this]
      rcases hat with q | q
      · exact Or.inl ((hF gu).2 (Or.inr (Or.inr q)))
      · exact Or.inr (Nat.le_trans hal.size q)
end
theorem viwright_b {a : Option Addr} {len cap : Nat} {X : List (Nat → Int)} {E : Nat → Int} {m : Int} {w : World} {b : Bool} (row : PlRow w a len X) (h : okVw ⟨X, E, m⟩ = b) :
    Calls Try.prog 21 #[.agg #[.slice a len cap, .int .i64 (E 0), .int .i64 (E 1), .int .i64 (E 2), .int .i64 (E 3), .int .i64 m]] w fun e w' => e = .returned (.bool b) ∧ Below w.heap.size w w' := (viwright_any a len cap X E m w row).mono fun _ _ ⟨he, hw⟩ => ⟨by rw [he, h], hw⟩
theorem rviwright_b {a : Option Addr} {len cap : Nat} {X : List (Nat → Int)} {E : Nat → Int} {m : Int} {w : World} {b : Bool} (row : PlRow w a len X) (h : okVw ⟨X, E, m⟩ = b) :
    Calls Try.prog 29 #[.agg #[.slice a len cap, .int .i64 (E 0), .int .i64 (E 1), .int .i64 (E 2), .int .i64 (E 3), .int .i64 m]] w fun e w' => e = .returned (.bool b) ∧ Below w.heap.size w w' := (rviwright_any a len cap X E m w row).mono fun _ _ ⟨he, hw⟩ => ⟨by rw [he, h], hw⟩
theorem rcblk {w : World} {g : Nat} {t : TypeId} {z0 z1 z2 z3 z4 z5 x0 x1 x2 x3 x4 x5 : Value} (h : Blk w g t #[z0, z1, z2, z3, z4, z5, x0, x1, x2, x3, x4, x5]) : w.cell? ⟨g, 5, none⟩ = some z5 ∧ w.cell? ⟨g, 6, none⟩ = some x0 ∧ w.cell? ⟨g, 7, none⟩ = some x1 ∧ w.cell? ⟨g, 8, none⟩ = some x2 ∧ w.cell? ⟨g, 9, none⟩ = some x3 ∧ w.cell? ⟨g, 10, none⟩ = some x4 ∧ w.cell? ⟨g, 11, none⟩ = some x5 ∧ g < w.heap.size :=
  ⟨h.cell 5, h.cell 6, h.cell 7, h.cell 8, h.cell 9, h.cell 10, h.cell 11, h.lt⟩
def ansT (t : Int × Bool × Int) : Value := .tuple #[.int .i64 t.1, .bool t.2.1, .int .i64 t.2.2]
theorem stop_end {B : Nat → Int} {X : List (Nat → Int)} {n : Nat} (h : X.length = n) : stopS B (X.drop n) = none := by rw [List.drop_of_length_le (by omega)]; rfl
set_option maxHeartbeats 8000000 in
set_option maxRecDepth 10000 in
theorem sees_any (a : Option Addr) (len cap : Nat) (X : List (Nat → Int)) (E : Nat → Int) (m : Int) (z0 z1 z2 z3 z4 : Value) (ly : Int) (B : Nat → Int) (w : World) (row : PlRow w a len X) :
    Calls Try.prog 42 #[.agg #[.slice a len cap, .int .i64 (E 0), .int .i64 (E 1), .int .i64 (E 2), .int .i64 (E 3), .int .i64 m], .agg #[z0, z1, z2, z3, z4, .int .i64 ly, .int .i64 (B 0), .int .i64 (B 1), .int .i64 (B 2), .int .i64 (B 3), .int .i64 (B 4), .int .i64 (B 5)]] w fun e w' => e = .returned (ansT (seeT ⟨X, E, m⟩ ly B)) ∧ Below w.heap.size w w' := by
  have hbig := row.2.1
  have hbel := balloc (alloc_below w (.cells #[.slice a len cap, .int .i64 (E 0), .int .i64 (E 1), .int .i64 (E 2), .int .i64 (E 3), .int .i64 m] 42)) (.cells #[z0, z1, z2, z3, z4, .int .i64 ly, .int .i64 (B 0), .int .i64 (B 1), .int .i64 (B 2), .int .i64 (B 3), .int .i64 (B 4), .int .i64 (B 5)] 52)
  have HLn := Lib.hid row.1
  have HRow := Lib.hid (row.keep hbel)
  have HBel := Lib.hid hbel
  have K := Lib.hid ((Blk.new w 42 #[.slice a len cap, .int .i64 (E 0), .int .i64 (E 1), .int .i64 (E 2), .int .i64 (E 3), .int .i64 m]).alloc (.cells #[z0, z1, z2, z3, z4, .int .i64 ly, .int .i64 (B 0), .int .i64 (B 1), .int .i64 (B 2), .int .i64 (B 3), .int .i64 (B 4), .int .i64 (B 5)] 52))
  have K' := Lib.hid (blkAt (Blk.new (w.alloc (.cells #[.slice a len cap, .int .i64 (E 0), .int .i64 (E 1), .int .i64 (E 2), .int .i64 (E 3), .int .i64 m] 42)) 52 #[z0, z1, z2, z3, z4, .int .i64 ly, .int .i64 (B 0), .int .i64 (B 1), .int .i64 (B 2), .int .i64 (B 3), .int .i64 (B 4), .int .i64 (B 5)]) (g' := w.heap.size + 1) (by simp))
  have HSp : Hid (∀ (P : Nat → Int) w', Calls Try.prog 54 #[.agg #[.int .i64 (P 0), .int .i64 (P 1), .int .i64 (P 2), .int .i64 (P 3)], .agg #[.int .i64 (B 0), .int .i64 (B 1), .int .i64 (B 2), .int .i64 (B 3), .int .i64 (B 4), .int .i64 (B 5)]] w' fun e w'' => e = .returned (.tuple #[.int .i64 (spnLo P B), .int .i64 (spnHi P B), .int .i64 (spnE P B)]) ∧ Below w'.heap.size w' w'') := Lib.hid (fun P w' => shspan_any P B w')
  obtain ⟨b1, hb1⟩ : ∃ b1, okVw ⟨X, E, m⟩ = b1 := ⟨_, rfl⟩
  have HB1 := Lib.hid hb1
  have HNo : Hid (b1 = false → seeT ⟨X, E, m⟩ ly B = (0, false, 1)) := Lib.hid (fun h => see_no (hb1.trans h))
  obtain ⟨z, hz⟩ : ∃ z, bits .and .i64 ly m = z := ⟨_, rfl⟩
  have HAp : Hid (b1 = true → z = 0 → seeT ⟨X, E, m⟩ ly B = (0, false, 0)) := Lib.hid (fun h k => see_apart (hb1.trans h) (hz.trans k))
  have HSt : Hid (∀ e, b1 = true → z ≠ 0 → stopS B X = some e → seeT ⟨X, E, m⟩ ly B = (0, false, e)) := Lib.hid (fun e h k q => see_stop (hb1.trans h) (fun c => k (hz.symm.trans c)) q)
  have HYes : Hid (b1 = true → z ≠ 0 → stopS B X = none → seeT ⟨X, E, m⟩ ly B = (spnLo E B, spnE E B == 0, spnE E B)) := Lib.hid (fun h k q => see_yes (hb1.trans h) (fun c => k (hz.symm.trans c)) q)
  obtain ⟨T, hT⟩ : ∃ T, T = seeT ⟨X, E, m⟩ ly B := ⟨_, rfl⟩
  rw [← hT] at HNo HAp HSt HYes ⊢
  clear row hb1 hbel hT
  go_enter Try.func42, Try.ntmps42
  go_wp2_with fail
  refine (viwright_b HRow.out HB1.out).mono ?_
  rintro e w1 ⟨rfl, q1⟩
  replace K := Lib.hid (K.out.keep q1)
  replace K' := Lib.hid (K'.out.keep q1)
  replace HRow := Lib.hid (HRow.out.keep q1)
  replace HBel := Lib.hid (bthen HBel.out q1)
  clear q1
  obtain ⟨c0, c1, c2, c3, c4, c5, y⟩ := vblk K.out
  obtain ⟨d5, d6, d7, d8, d9, d10, d11, y'⟩ := rcblk K'.out
  cases b1
  · replace HNo := Lib.hid (HNo.out rfl)
    go_wp2
    exact bodyPost_ret (v := .tuple #[.int .i64 0, .bool false, .int .i64 1]) (by simp [results, Try.results42, go_sem]) rfl ⟨by rw [HNo.out]; rfl, HBel.out⟩
  · by_cases hz0 : z = 0
    · replace HAp := Lib.hid (HAp.out rfl hz0)
      clear HNo HSt HYes
      subst hz0
      go_wp2
      exact bodyPost_ret (v := .tuple #[.int .i64 0, .bool false, .int .i64 0]) (by simp [results, Try.results42, go_sem]) rfl ⟨by rw [HAp.out]; rfl, HBel.out⟩
    · replace HSt := Lib.hid (fun e => HSt.out e rfl hz0)
      replace HYes := Lib.hid (HYes.out rfl hz0)
      clear HNo HAp
      have hzb : (z == 0) = false := beq_eq_false_iff_ne.2 hz0
      go_wp2
      clear c0 c1 c2 c3 c4 c5 y d5 d6 d7 d8 d9 d10 d11 y' hz hz0 hzb
      go_loopw [8, 9, 10, 11, 27] (fun _ _ _ _ i wr => ∃ k : Nat, k ≤ len ∧ i = .int .i64 k ∧ stopS B X = stopS B (X.drop k) ∧ Below w1.heap.size w1 wr) (fun _ _ _ _ i _ => len - (ivl i).toNat)
      case atStart => exact ⟨0, Nat.zero_le _, rfl, rfl, Below.refl _ _⟩
      case round =>
        obtain ⟨k, hk, rfl, hr, hb⟩ := hrel
        have HE := Lib.hid hr
        have HB := Lib.hid hb
        clear hr hb
        obtain ⟨c0, c1, c2, c3, c4, c5, y⟩ := vblk (K.out.keep HB.out)
        obtain ⟨d5, d6, d7, d8, d9, d10, d11, y'⟩ := rcblk (K'.out.keep HB.out)
        by_cases hlt : k < len
        · have hk0 : (0 : Int) ≤ (k : Int) := by omega
          have hk1 : (k : Int) < (len : Int) := by omega
          obtain ⟨b, off, P, rfl, hbl, hx, hv⟩ := HRow.out.at_ hlt
          obtain ⟨m0, m1, m2, m3⟩ := pl_cells (range_same hv (HB.out.block b hbl))
          have HS0 := Lib.hid (stop_at (B := B) hx)
          have HC := HSp.out P
          obtain ⟨sl, hsl⟩ : ∃ sl, sl = spnLo P B := ⟨_, rfl⟩
          obtain ⟨sh, hsh⟩ : ∃ sh, sh = spnHi P B := ⟨_, rfl⟩
          obtain ⟨se, hse⟩ : ∃ se, se = spnE P B := ⟨_, rfl⟩
          rw [← hsl, ← hsh, ← hse] at HC
          rw [← hsh, ← hse] at HS0
          have HC0 := Lib.hid HC
          clear hv hx hbl hsl hsh hse HC
          go_wp2_with fail
          refine (HC0.out _).mono ?_
          rintro e w2 ⟨rfl, q2⟩
          have B2 := Lib.hid (bthen (balloc HB.out (.cells #[.int .i64 (P 0), .int .i64 (P 1), .int .i64 (P 2), .int .i64 (P 3)] 40)) q2)
          clear q2 m0 m1 m2 m3 c0 c1 c2 c3 c4 c5 y d5 d6 d7 d8 d9 d10 d11 y'
          by_cases he : se = 0
          · by_cases hh : sh < 0
            · have HG : Hid (stopS B X = some se) := Lib.hid (by rw [HE.out, HS0.out, if_pos (Or.inr hh)])
              subst he
              go_wp2
              exact bodyPost_ret (v := .tuple #[.int .i64 0, .bool false, .int .i64 0]) (by simp [results, Try.results42, go_sem]) rfl ⟨by rw [HSt.out _ HG.out]; rfl, bthen HBel.out B2.out⟩
            · have HG : Hid (stopS B X = stopS B (X.drop (k + 1))) := Lib.hid (by rw [HE.out, HS0.out, if_neg (fun c => c.elim (fun k => k he) hh)])
              subst he
              go_wp2
              go_roundw
              case rel => exact ⟨k + 1, by omega, by go_num, HG.out, B2.out⟩
              case measure => simp [ivl] <;> omega
          · have HG : Hid (stopS B X = some se) := Lib.hid (by rw [HE.out, HS0.out, if_pos (Or.inl he)])
            go_wp2
            exact bodyPost_ret (v := .tuple #[.int .i64 0, .bool false, .int .i64 se]) (by simp [results, Try.results42, go_sem]) rfl ⟨by rw [HSt.out _ HG.out]; rfl, bthen HBel.out B2.out⟩
        · obtain rfl : k = len := by omega
          have HG : Hid (stopS B X = none) := Lib.hid (HE.out.trans (stop_end HLn.out))
          have HC := HSp.out E
          have HY := Lib.hid (HYes.out HG.out)
          obtain ⟨sl, hsl⟩ : ∃ sl, sl = spnLo E B := ⟨_, rfl⟩
          obtain ⟨sh, hsh⟩ : ∃ sh, sh = spnHi E B := ⟨_, rfl⟩
          obtain ⟨se, hse⟩ : ∃ se, se = spnE E B := ⟨_, rfl⟩
          rw [← hsl, ← hsh, ← hse] at HC
          rw [← hsl, ← hse] at HY
          have HC0 := Lib.hid HC
          clear hsl hsh hse HC
          go_wp2_with fail
          refine (HC0.out _).mono ?_
          rintro e w2 ⟨rfl, q2⟩
          have B2 := Lib.hid (bthen HB.out q2)
          clear q2 c0 c1 c2 c3 c4 c5 y d5 d6 d7 d8 d9 d10 d11 y'
          by_cases he : se = 0
          · subst he
            go_wp2
            exact bodyPost_ret (v := .tuple #[.int .i64 sl, .bool true, .int .i64 0]) (by simp [results, Try.results42, go_sem]) rfl ⟨by rw [HY.out]; rfl, bthen HBel.out B2.out⟩
          · have he' : (se == 0) = false := beq_eq_false_iff_ne.2 he
            have HY' := Lib.hid (HY.out.trans (by rw [he']))
            go_wp2
            exact bodyPost_ret (v := .tuple #[.int .i64 sl, .bool false, .int .i64 se]) (by simp [results, Try.results42, go_sem]) rfl ⟨by rw [HY.out, he']; rfl, bthen HBel.out B2.out⟩
set_option maxHeartbeats 8000000 in
set_option maxRecDepth 10000 in
theorem rsees_any (a : Option Addr) (len cap : Nat) (X : List (Nat → Int)) (E : Nat → Int) (m : Int) (z0 z1 z2 z3 z4 : Value) (ly : Int) (B : Nat → Int) (w : World) (row : PlRow w a len X) :
    Calls Try.prog 48 #[.agg #[.slice a len cap, .int .i64 (E 0), .int .i64 (E 1), .int .i64 (E 2), .int .i64 (E 3), .int .i64 m], .agg #[z0, z1, z2, z3, z4, .int .i64 ly, .int .i64 (B 0), .int .i64 (B 1), .int .i64 (B 2), .int .i64 (B 3), .int .i64 (B 4), .int .i64 (B 5)]] w fun e w' => e = .returned (ansT (seeT ⟨X, E, m⟩ ly B)) ∧ Below w.heap.size w w' := by
  have hbig := row.2.1
  have hbel := balloc (alloc_below w (.cells #[.slice a len cap, .int .i64 (E 0), .int .i64 (E 1), .int .i64 (E 2), .int .i64 (E 3), .int .i64 m] 42)) (.cells #[z0, z1, z2, z3, z4, .int .i64 ly, .int .i64 (B 0), .int .i64 (B 1), .int .i64 (B 2), .int .i64 (B 3), .int .i64 (B 4), .int .i64 (B 5)] 50)
  have HLn := Lib.hid row.1
  have HRow := Lib.hid (row.keep hbel)
  have HBel := Lib.hid hbel
  have K := Lib.hid ((Blk.new w 42 #[.slice a len cap, .int .i64 (E 0), .int .i64 (E 1), .int .i64 (E 2), .int .i64 (E 3), .int .i64 m]).alloc (.cells #[z0, z1, z2, z3, z4, .int .i64 ly, .int .i64 (B 0), .int .i64 (B 1), .int .i64 (B 2), .int .i64 (B 3), .int .i64 (B 4), .int .i64 (B 5)] 50))
  have K' := Lib.hid (blkAt (Blk.new (w.alloc (.cells #[.slice a len cap, .int .i64 (E 0), .int .i64 (E 1), .int .i64 (E 2), .int .i64 (E 3), .int .i64 m] 42)) 50 #[z0, z1, z2, z3, z4, .int .i64 ly, .int .i64 (B 0), .int .i64 (B 1), .int .i64 (B 2), .int .i64 (B 3), .int .i64 (B 4), .int .i64 (B 5)]) (g' := w.heap.size + 1) (by simp))
  have HSp : Hid (∀ (P : Nat → Int) w', Calls Try.prog 57 #[.agg #[.int .i64 (P 0), .int .i64 (P 1), .int .i64 (P 2), .int .i64 (P 3)], .agg #[.int .i64 (B 0), .int .i64 (B 1), .int .i64 (B 2), .int .i64 (B 3), .int .i64 (B 4), .int .i64 (B 5)]] w' fun e w'' => e = .returned (.tuple #[.int .i64 (spnLo P B), .int .i64 (spnHi P B), .int .i64 (spnE P B)]) ∧ Below w'.heap.size w' w'') := Lib.hid (fun P w' => rspan_any P B w')
  obtain ⟨b1, hb1⟩ : ∃ b1, okVw ⟨X, E, m⟩ = b1 := ⟨_, rfl⟩
  have HB1 := Lib.hid hb1
  have HNo : Hid (b1 = false → seeT ⟨X, E, m⟩ ly B = (0, false, 1)) := Lib.hid (fun h => see_no (hb1.trans h))
  obtain ⟨z, hz⟩ : ∃ z, bits .and .i64 ly m = z := ⟨_, rfl⟩
  have HAp : Hid (b1 = true → z = 0 → seeT ⟨X, E, m⟩ ly B = (0, false, 0)) := Lib.hid (fun h k => see_apart (hb1.trans h) (hz.trans k))
  have HSt : Hid (∀ e, b1 = true → z ≠ 0 → stopS B X = some e → seeT ⟨X, E, m⟩ ly B = (0, false, e)) := Lib.hid (fun e h k q => see_stop (hb1.trans h) (fun c => k (hz.symm.trans c)) q)
  have HYes : Hid (b1 = true → z ≠ 0 → stopS B X = none → seeT ⟨X, E, m⟩ ly B = (spnLo E B, spnE E B == 0, spnE E B)) := Lib.hid (fun h k q => see_yes (hb1.trans h) (fun c => k (hz.symm.trans c)) q)
  obtain ⟨T, hT⟩ : ∃ T, T = seeT ⟨X, E, m⟩ ly B := ⟨_, rfl⟩
  rw [← hT] at HNo HAp HSt HYes ⊢
  rw [bits_comm ly m] at hz
  clear row hb1 hbel hT
  go_enter Try.func48, Try.ntmps48
  go_wp2_with fail
  refine (rviwright_b HRow.out HB1.out).mono ?_
  rintro e w1 ⟨rfl, q1⟩
  replace K := Lib.hid (K.out.keep q1)
  replace K' := Lib.hid (K'.out.keep q1)
  replace HRow := Lib.hid (HRow.out.keep q1)
  replace HBel := Lib.hid (bthen HBel.out q1)
  clear q1
  obtain ⟨c0, c1, c2, c3, c4, c5, y⟩ := vblk K.out
  obtain ⟨d5, d6, d7, d8, d9, d10, d11, y'⟩ := rcblk K'.out
  cases b1
  · replace HNo := Lib.hid (HNo.out rfl)
    go_wp2
    exact bodyPost_ret (v := .tuple #[.int .i64 0, .bool false, .int .i64 1]) (by simp [results, Try.results48, go_sem]) rfl ⟨by rw [HNo.out]; rfl, HBel.out⟩
  · by_cases hz0 : z = 0
    · replace HAp := Lib.hid (HAp.out rfl hz0)
      clear HNo HSt HYes
      subst hz0
      go_wp2_with fail
      refine (common_any m ly _).mono ?_
      rintro e w2 ⟨rfl, rfl⟩
      rw [hz]
      go_wp2
      exact bodyPost_ret (v := .tuple #[.int .i64 0, .bool false, .int .i64 0]) (by simp [results, Try.results48, go_sem]) rfl ⟨by rw [HAp.out]; rfl, HBel.out⟩
    · replace HSt := Lib.hid (fun e => HSt.out e rfl hz0)
      replace HYes := Lib.hid (HYes.out rfl hz0)
      clear HNo HAp
      have hzb : (z != 0) = true := bne_iff_ne.2 hz0
      go_wp2_with fail
      refine (common_any m ly _).mono ?_
      rintro e w2 ⟨rfl, rfl⟩
      rw [hz, hzb]
      clear hzb
      go_wp2
      clear c0 c1 c2 c3 c4 c5 y d5 d6 d7 d8 d9 d10 d11 y' hz hz0
      go_loopw [9, 10, 11, 12] (fun i _ _ _ wr => ∃ k : Nat, k ≤ len ∧ i = .int .i64 k ∧ stopS B X = stopS B (X.drop k) ∧ Below w1.heap.size w1 wr) (fun i _ _ _ _ => len - (ivl i).toNat)
      case atStart => exact ⟨0, Nat.zero_le _, rfl, rfl, Below.refl _ _⟩
      case round =>
        obtain ⟨k, hk, rfl, hr, hb⟩ := hrel
        have HE := Lib.hid hr
        have HB := Lib.hid hb
        clear hr hb
        obtain ⟨c0, c1, c2, c3, c4, c5, y⟩ := vblk (K.out.keep HB.out)
        obtain ⟨d5, d6, d7, d8, d9, d10, d11, y'⟩ := rcblk (K'.out.keep HB.out)
        by_cases hlt : k < len
        · have hk0 : (0 : Int) ≤ (k : Int) := by omega
          have hk1 : (k : Int) < (len : Int) := by omega
          obtain ⟨b, off, P, rfl, hbl, hx, hv⟩ := HRow.out.at_ hlt
          obtain ⟨m0, m1, m2, m3⟩ := pl_cells (range_same hv (HB.out.block b hbl))
          have HS0 := Lib.hid (stop_at (B := B) hx)
          have HC := HSp.out P
          obtain ⟨sl, hsl⟩ : ∃ sl, sl = spnLo P B := ⟨_, rfl⟩
          obtain ⟨sh, hsh⟩ : ∃ sh, sh = spnHi P B := ⟨_, rfl⟩
          obtain ⟨se, hse⟩ : ∃ se, se = spnE P B := ⟨_, rfl⟩
          rw [← hsl, ← hsh, ← hse] at HC
          rw [← hsh, ← hse] at HS0
          have HC0 := Lib.hid HC
          clear hv hx hbl hsl hsh hse HC
          have HS : Hid (∀ w', Below wr.heap.size wr w' → (w'.cell? ⟨w.heap.size, 0, none⟩ = some (.slice (some ⟨b, off, none⟩) len cap) ∧ w'.cell? ⟨b, off + k * 4, none⟩ = some (.int .i64 (P 0)) ∧ w'.cell? ⟨b, off + k * 4 + 1, none⟩ = some (.int .i64 (P 1)) ∧ w'.cell? ⟨b, off + k * 4 + 2, none⟩ = some (.int .i64 (P 2)) ∧ w'.cell? ⟨b, off + k * 4 + 3, none⟩ = some (.int .i64 (P 3)) ∧ w'.cell? ⟨w.heap.size + 1, 6, none⟩ = some (.int .i64 (B 0)) ∧ w'.cell? ⟨w.heap.size + 1, 7, none⟩ = some (.int .i64 (B 1)) ∧ w'.cell? ⟨w.heap.size + 1, 8, none⟩ = some (.int .i64 (B 2)) ∧ w'.cell? ⟨w.heap.size + 1, 9, none⟩ = some (.int .i64 (B 3)) ∧ w'.cell? ⟨w.heap.size + 1, 10, none⟩ = some (.int .i64 (B 4)) ∧ w'.cell? ⟨w.heap.size + 1, 11, none⟩ = some (.int .i64 (B 5)))) := Lib.hid (fun w' hb => ⟨cell_keep c0 hb, cell_keep m0 hb, cell_keep m1 hb, cell_keep m2 hb, cell_keep m3 hb, cell_keep d6 hb, cell_keep d7 hb, cell_keep d8 hb, cell_keep d9 hb, cell_keep d10 hb, cell_keep d11 hb⟩)
          go_wp2
          go_region_held3 (fun w' => w'.cell? ⟨w.heap.size, 0, none⟩ = some (.slice (some ⟨b, off, none⟩) len cap) ∧ w'.cell? ⟨b, off + k * 4, none⟩ = some (.int .i64 (P 0)) ∧ w'.cell? ⟨b, off + k * 4 + 1, none⟩ = some (.int .i64 (P 1)) ∧ w'.cell? ⟨b, off + k * 4 + 2, none⟩ = some (.int .i64 (P 2)) ∧ w'.cell? ⟨b, off + k * 4 + 3, none⟩ = some (.int .i64 (P 3)) ∧ w'.cell? ⟨w.heap.size + 1, 6, none⟩ = some (.int .i64 (B 0)) ∧ w'.cell? ⟨w.heap.size + 1, 7, none⟩ = some (.int .i64 (B 1)) ∧ w'.cell? ⟨w.heap.size + 1, 8, none⟩ = some (.int .i64 (B 2)) ∧ w'.cell? ⟨w.heap.size + 1, 9, none⟩ = some (.int .i64 (B 3)) ∧ w'.cell? ⟨w.heap.size + 1, 10, none⟩ = some (.int .i64 (B 4)) ∧ w'.cell? ⟨w.heap.size + 1, 11, none⟩ = some (.int .i64 (B 5))) (first | exact HS.out _ (bdrewn (Below.refl _ _)) | exact HS.out _ (bdrew c9))
            (first | (go_at_call 57; refine (HC0.out _).mono ?_; rintro e w2 ⟨rfl, c9⟩))
          have B2 := Lib.hid (bthen HB.out (bdrew c9))
          clear m0 m1 m2 m3 c0 c1 c2 c3 c4 c5 y d5 d6 d7 d8 d9 d10 d11 y' c9
          by_cases he : se = 0
          · by_cases hh : sh < 0
            · have HG : Hid (stopS B X = some se) := Lib.hid (by rw [HE.out, HS0.out, if_pos (Or.inr hh)])
              subst he
              go_wp2
              exact bodyPost_ret (v := .tuple #[.int .i64 0, .bool false, .int .i64 0]) (by simp [results, Try.results48, go_sem]) rfl ⟨by rw [HSt.out _ HG.out]; rfl, bthen HBel.out B2.out⟩
            · have HG : Hid (stopS B X = stopS B (X.drop (k + 1))) := Lib.hid (by rw [HE.out, HS0.out, if_neg (fun c => c.elim (fun k => k he) hh)])
              subst he
              go_wp2
              go_roundw
              case rel => exact ⟨k + 1, by omega, by go_num, HG.out, B2.out⟩
              case measure => simp [ivl] <;> omega
          · have HG : Hid (stopS B X = some se) := Lib.hid (by rw [HE.out, HS0.out, if_pos (Or.inl he)])
            go_wp2
            exact bodyPost_ret (v := .tuple #[.int .i64 0, .bool false, .int .i64 se]) (by simp [results, Try.results48, go_sem]) rfl ⟨by rw [HSt.out _ HG.out]; rfl, bthen HBel.out B2.out⟩
        · obtain rfl : k = len := by omega
          have HG : Hid (stopS B X = none) := Lib.hid (HE.out.trans (stop_end HLn.out))
          have HC := HSp.out E
          have HY := Lib.hid (HYes.out HG.out)
          obtain ⟨sl, hsl⟩ : ∃ sl, sl = spnLo E B := ⟨_, rfl⟩
          obtain ⟨sh, hsh⟩ : ∃ sh, sh = spnHi E B := ⟨_, rfl⟩
          obtain ⟨se, hse⟩ : ∃ se, se = spnE E B := ⟨_, rfl⟩
          rw [← hsl, ← hsh, ← hse] at HC
          rw [← hsl, ← hse] at HY
          have HC0 := Lib.hid HC
          clear hsl hsh hse HC
          go_wp2_with fail
          refine (HC0.out _).mono ?_
          rintro e w2 ⟨rfl, q2⟩
          have B2 := Lib.hid (bthen HB.out q2)
          clear q2 c0 c1 c2 c3 c4 c5 y d5 d6 d7 d8 d9 d10 d11 y'
          by_cases he : se = 0
          · subst he
            go_wp2
            exact bodyPost_ret (v := .tuple #[.int .i64 sl, .bool true, .int .i64 0]) (by simp [results, Try.results48, go_sem]) rfl ⟨by rw [HY.out]; rfl, bthen HBel.out B2.out⟩
          · have he' : (se == 0) = false := beq_eq_false_iff_ne.2 he
            have HY' := Lib.hid (HY.out.trans (by rw [he']))
            go_wp2
            exact bodyPost_ret (v := .tuple #[.int .i64 sl, .bool false, .int .i64 se]) (by simp [results, Try.results48, go_sem]) rfl ⟨by rw [HY.out, he']; rfl, bthen HBel.out B2.out⟩
theorem rcrow {w : World} {t : TypeId} {base n cap : Nat} {a : Option Addr} {X : List Rc} (h : OwnX 12 cRc t w base (.slice a n cap) X) (hn : n = X.length) : RcRow w a n X := by
  obtain ⟨a', c', e, _, _, r⟩ := h.row cRc_len
  injection e with e1 e2 e3
  rw [e1, hn]; exact r
section
variable {w : World} {g : Nat} {U : Ku} {F : Nat → Prop}
set_option maxHeartbeats 16000000 in
set_option maxRecDepth 100000 in
theorem rall_any (h0 : RKB w g F U) (hn : U.R.length ≤ 1000) :
    Calls Try.prog 31 #[.pointer (some ⟨g, 0, none⟩)] w fun e w' => e = .returned (.tuple #[]) ∧ ChX RKB w w' g F { U with D := U.R.map Rc.id } := by
  obtain ⟨vV, vs, vR, vD, vS, st, h, hF⟩ := h0
  have HSl := Lib.hid (h.setD hF (Below.refl _ _) (v := .slice none 0 0) (D' := []) (OwnD.nil _ _))
  obtain ⟨a, cap, hvR, hcap, hmax, -⟩ := h.rc.row cRc_len
  subst hvR
  obtain ⟨n, hN⟩ : ∃ n, n = U.R.length := ⟨_, rfl⟩
  have HN := Lib.hid hN
  rw [← hN] at HSl hn hcap h
  have c2 : w.cell? ⟨g, 2, none⟩ = some vD := h.blk.cell 2
  have f2 := h.blk.frozen 2
  have hg := h.blk.lt
  have HTk : Hid (U.R.take n = U.R) := Lib.hid (List.take_of_length_le (by rw [hN]; exact Nat.le_refl _))
  clear h hF hN
  go_enter Try.func31, Try.ntmps31
  go_upto_region 1 with fail
  refine fin (fun W => RK W g { U with D := [] } vV vs (.slice a n cap) (.slice none 0 0) vS st ∧ Fr w W F ∧ ∀ b, footK g vV vs (.slice a n cap) (.slice none 0 0) b → F b ∨ w.heap.size ≤ b) HSl.out ?_
  clear HSl c2 f2 hg
  rintro W0 h3
  have H3 := Lib.hid h3
  clear h3
  go_wp2
  go_loopw [2] (fun i wr => ∃ (k : Nat) (vD' : Value), k ≤ n ∧ i = .int .i64 k ∧ RK wr g { U with D := (U.R.take k).map Rc.id } vV vs (.slice a n cap) vD' vS st ∧ Fr w wr F ∧ ∀ b, footK g vV vs (.slice a n cap) vD' b → F b ∨ w.heap.size ≤ b) (fun i _ => n - (ivl i).toNat)
  case atStart => exact ⟨0, .slice none 0 0, by omega, rfl, by rw [List.take_zero]; exact H3.out.1, H3.out.2.1, H3.out.2.2⟩
  case round =>
    clear H3
    obtain ⟨k, vD', hk, rfl, hw, hfr, hsub⟩ := hrel
    have HW := Lib.hid hw
    have HFr := Lib.hid hfr
    have HSub := Lib.hid hsub
    have hg3 := hw.blk.lt
    have c1 : wr.cell? ⟨g, 1, none⟩ = some (.slice a n cap) := hw.blk.cell 1
    by_cases hlt : k < n
    · obtain ⟨b, off, x, rfl, hbl, hx, hr⟩ := (rcrow hw.rc HN.out).at_ hlt
      clear hw hfr hsub
      have cx : wr.cell? ⟨b, off + k * 12, none⟩ = some (.int .i64 x.id) := hr 0 _ rfl
      have HSt : Hid ((U.R.take (k + 1)).map Rc.id = (U.R.take k).map Rc.id ++ [x.id]) := Lib.hid (by rw [List.take_add_one, hx, List.map_append]; rfl)
      obtain ⟨y, hy⟩ : ∃ y, y = x.id := ⟨_, rfl⟩
      rw [← hy] at cx HSt
      obtain ⟨da, dcap, hdv, -⟩ := HW.out.dir.row
      have hdl : ((U.R.take k).map Rc.id).length ≤ 1000 := by
        rw [List.length_map, List.length_take]
        omega
      obtain ⟨B, hB⟩ : ∃ B, B = (U.R.take k).map Rc.id := ⟨_, rfl⟩
      rw [← hB] at HW hdl hdv HSt
      have hdv2 : vD' = .slice da B.length dcap := hdv
      subst hdv2
      have hbo : othK vV vs (.slice (some ⟨b, off, none⟩) n cap) b := Or.inr (Or.inr rfl)
      have HNb : Hid ((Value.slice da B.length dcap).ownBlock ≠ some b) := Lib.hid (HW.out.o b hbo).2
      have hbg : b ≠ g := (HW.out.o b hbo).1
      have m0 : (0 : Int) ≤ (k : Int) := by omega
      have m1 : (k : Int) < (n : Int) := by omega
      clear hbo
      go_upto_region 4 with fail
      refine fin (fun V => V.cell? ⟨b, off + k * 12, none⟩ = some (.int .i64 y) ∧ RK V g { U with D := B } vV vs (.slice (some ⟨b, off, none⟩) n cap) (.slice da B.length dcap) vS st ∧ Fr w V F ∧ b < V.heap.size) ⟨cx, HW.out, HFr.out, hbl⟩ ?_
      clear cx HW HFr hbl hg3 hr hy hB hx c1
      rintro V ⟨cx, hw, hfr, hbl⟩
      have HW := Lib.hid hw
      have HFr := Lib.hid hfr
      have cr : V.cell? ⟨g, 1, none⟩ = some (.slice (some ⟨b, off, none⟩) n cap) := hw.blk.cell 1
      have cd : V.cell? ⟨g, 2, none⟩ = some (.slice da B.length dcap) := hw.blk.cell 2
      have hgV := hw.blk.lt
      have CW := Lib.hid (And.intro cx (And.intro cr cd))
      have CB : Hid ((V.drew.alloc (.cells #[.int .i64 y] 46)).cell? ⟨g, 2, none⟩ = some (.slice da B.length dcap) ∧ (V.drew.alloc (.cells #[.int .i64 y] 46)).cell? ⟨b, off + k * 12, none⟩ = some (.int .i64 y) ∧ (V.drew.alloc (.cells #[.int .i64 y] 46)).cell? ⟨g, 1, none⟩ = some (.slice (some ⟨b, off, none⟩) n cap)) := Lib.hid ⟨cell_keep (w := V.drew) cd (alloc_below _ _), cell_keep (w := V.drew) cx (alloc_below _ _), cell_keep (w := V.drew) cr (alloc_below _ _)⟩
      clear cx cd cr hw hfr
      refine wp_region_held_drew (S := fun w' => w'.cell? ⟨b, off + k * 12, none⟩ = some (.int .i64 y) ∧ w'.cell? ⟨g, 1, none⟩ = some (.slice (some ⟨b, off, none⟩) n cap)) (by kernel_rfl) (⟨CW.out.1, CW.out.2.1⟩) (fun hHeld => ?_)
      refine tk 0 hHeld ?_
      refine tk 1 hHeld ?_
      refine tk 2 hHeld ?_
      refine tk 3 hHeld ?_
      refine tk 5 hHeld ?_
      refine tk 6 hHeld ?_
      refine tk 7 hHeld ?_
      refine tk 8 hHeld ?_
      refine tk 9 hHeld ?_
      refine tk 10 hHeld ?_
      refine tk 11 hHeld ?_
      refine tk 12 hHeld ?_
      refine wpAnyH_pair (i := 4) (j := 13) (v := .slice da B.length dcap) (u := .slice (some ⟨V.heap.size, 0, none⟩) 1 1) (w' := V.drew.alloc (.cells #[.int .i64 y] 46)) rfl rfl (by kernel_rfl) (by kernel_rfl) (by kernel_rfl) (by rfl) (by rfl) (by rfl) (by rfl) (exec_cell rfl rfl Try.underlying30 CW.out.2.2) (exec_bs rfl rfl (bs_id y _)) (exec_bs rfl rfl (bs_id y _)) (exec_cell rfl rfl Try.underlying30 CB.out.1) rfl hHeld (CB.out.2) ?_
      simp only [Act.put, List.getElem_toArray, List.getElem_cons_zero, List.getElem_cons_succ, List.setIfInBounds_toArray, List.set_cons_zero, List.set_cons_succ]
      refine rd 14 (fun K hK => ?_)
      rw [if_pos (by rfl)]
      refine wp_appD (.tmp 19) (.tmp 28) rfl (.slice da B.length dcap) B rfl (ownd_same HW.out.dir (fun d e => (alloc_below V.drew (.cells #[.int .i64 y] 46)).block d (World.ownsRow.lt HW.out.dir d e).2)) (by omega) y V.heap.size (Blk.new V.drew _ _) rfl ?_
      intro gu gcap w4 ho4 hgr hat
      obtain ⟨hrw, hfr2, hsub2, k4, hvb⟩ := RK.pushD (w := V.drew) (HW.out.keep (below_drew15 V)) (fun _ => Iff.rfl) hgr (by rw [List.length_append]; rfl) ho4 hat
      have c4 : w4.cell? ⟨b, off + k * 12, none⟩ = some (.int .i64 y) := by
        have := CW.out.1
        simp only [World.cell?] at this ⊢
        rw [hvb b hbl HNb.out]
        exact this
      have r4 : w4.cell? ⟨g, 1, none⟩ = some (.slice (some ⟨b, off, none⟩) n cap) := k4.cell 1
      have HRW : Hid (RK (w4.setCell ⟨g, 2, none⟩ (.slice (some ⟨gu, 0, none⟩) (B.length + 1) gcap)) g { U with D := (U.R.take (k + 1)).map Rc.id } vV vs (.slice (some ⟨b, off, none⟩) n cap) (.slice (some ⟨gu, 0, none⟩) (B.length + 1) gcap) vS st) := Lib.hid (by rw [HSt.out]; exact hrw)
      have HFr2 : Hid (Fr w (w4.setCell ⟨g, 2, none⟩ (.slice (some ⟨gu, 0, none⟩) (B.length + 1) gcap)) F) := Lib.hid (Fr.two (Fr.behind HFr.out (below_drew15 V)) hfr2 HSub.out)
      have HSub2 : Hid (∀ d, footK g vV vs (.slice (some ⟨b, off, none⟩) n cap) (.slice (some ⟨gu, 0, none⟩) (B.length + 1) gcap) d → F d ∨ w.heap.size ≤ d) := Lib.hid (fun d e => by
        rcases hsub2 d e with q | q
        · exact HSub.out d q
        · exact Or.inr (Nat.le_trans HFr.out.2.2.2.1 q))
      have d4 : w4.cell? ⟨g, 2, none⟩ = some (.slice da B.length dcap) := k4.cell 2
      have f4 : w4.frozen? ⟨g, 2, none⟩ = false := k4.frozen 2
      have hg4 := k4.lt
      have c5' : (w4.setCell ⟨g, 2, none⟩ (.slice (some ⟨gu, 0, none⟩) (B.length + 1) gcap)).cell? ⟨b, off + k * 12, none⟩ = some (.int .i64 y) := by
        have := c4
        simp only [World.cell?] at this ⊢
        rw [set_at hbg]
        exact this
      have r5' : (w4.setCell ⟨g, 2, none⟩ (.slice (some ⟨gu, 0, none⟩) (B.length + 1) gcap)).cell? ⟨g, 1, none⟩ = some (.slice (some ⟨b, off, none⟩) n cap) := hrw.blk.cell 1
      generalize B.length + 1 = nn at HRW HFr2 HSub2 c5' r5' ⊢
      clear ho4 hgr hat hrw hfr2 hsub2 k4 hvb
      refine hK.out _ _ ⟨c4, r4⟩ (fun hHeld => ?_)
      clear hK K
      simp only [Act.put, List.getElem_toArray, List.getElem_cons_zero, List.getElem_cons_succ, List.setIfInBounds_toArray, List.set_cons_zero, List.set_cons_succ]
      refine tk 15 hHeld ?_
      refine tk 16 hHeld ?_
      refine rd 17 (fun K hK => ?_)
      go_simp
      refine hK.out _ _ ⟨c5', r5'⟩ (fun hHeld => ?_)
      clear hK K
      refine wpAnyH_done (by kernel_rfl) ?_ _
      clear hHeld
      refine fin (fun W => ∃ vq, RK W g { U with D := (U.R.take (k + 1)).map Rc.id } vV vs (.slice (some ⟨b, off, none⟩) n cap) vq vS st ∧ Fr w W F ∧ ∀ d, footK g vV vs (.slice (some ⟨b, off, none⟩) n cap) vq d → F d ∨ w.heap.size ≤ d) ⟨_, HRW.out, HFr2.out, HSub2.out⟩ ?_
      clear HRW HFr2 HSub2 c4 c5' r4 r5' d4 f4 hg4 CW CB HW HFr HSub HNb
      rintro W9 ⟨vq, h91, h92, h93⟩
      have H9 := Lib.hid (And.intro h91 (And.intro h92 h93))
      clear h91 h92 h93
      go_wp2
      go_roundw
      case rel => exact ⟨k + 1, vq, by omega, by go_num, H9.out.1, H9.out.2.1, H9.out.2.2⟩
      case measure => simp [ivl] <;> omega
    · obtain rfl : k = n := by omega
      rw [HTk.out] at HW
      have m1 : ¬ (k : Int) < (k : Int) := by omega
      clear hw hfr hsub
      go_wp2
      go_end0
      exact ⟨rfl, _, ⟨_, _, _, _, _, _, HW.out, fun _ => Iff.rfl⟩, HFr.out, HSub.out⟩
end
end Go.Proofs.Ytjcibffhlhdjeaa
