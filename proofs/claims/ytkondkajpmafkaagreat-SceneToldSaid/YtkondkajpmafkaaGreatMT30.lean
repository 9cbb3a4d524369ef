/-
  3 texts in one file, each with its own heading.
-/
import Derived.Test.YtkondkajpmafkaaGreatMT28
import Derived.Test.YtkondkajpmafkaaGreatMT29
import Derived.Test.YtkondkajpmafkaaGreatMT27
/-
  A scene in memory: a store and a forest apart from one another, and a block that holds what points to them; how a call on one of them changes the whole.
-/
namespace Go.Proofs.YtkondkajpmafkaaGreat
open Go.RowKit

structure KB {α : Type} (B : World → Nat → (Nat → Prop) → α → Prop) : Prop where
  keep_ : ∀ w w' g F x, B w g F x → (∀ b, F b → w'.heap[b]? = w.heap[b]?) → B w' g F x
  inb : ∀ w g F x, B w g F x → ∀ b, F b → b < w.heap.size
def ChB {α : Type} (B : World → Nat → (Nat → Prop) → α → Prop) (w w' : World) (g : Nat) (F : Nat → Prop) (x : α) : Prop := ∃ F', B w' g F' x ∧ Fr w w' F ∧ ∀ b, F' b → F b ∨ w.heap.size ≤ b
theorem KB.keep {α : Type} {B : World → Nat → (Nat → Prop) → α → Prop} (k : KB B) {w w' : World} {g : Nat} {F : Nat → Prop} {x : α} (h : B w g F x) (hb : Below w.heap.size w w') : B w' g F x := k.keep_ w w' g F x h (fun b hf => hb.block b (k.inb w g F x h b hf))
theorem ChB.still {α : Type} {B : World → Nat → (Nat → Prop) → α → Prop} (k : KB B) {w w' : World} {g : Nat} {F : Nat → Prop} {x : α} (h : B w g F x) (hb : Below w.heap.size w w') : ChB B w w' g F x := ⟨F, k.keep h hb, ⟨hb.os, hb.tape, hb.output, hb.size, fun b hl _ => hb.block b hl⟩, fun _ c => Or.inl c⟩
structure PR (SB : World → Nat → (Nat → Prop) → St → Prop) (FB : World → Nat → (Nat → Prop) → FT → Prop) (w : World) (gs gf : Nat) (Fs Ff H : Nat → Prop) (X : Sc) : Prop where
  st : SB w gs Fs X.S
  fo : FB w gf Ff X.L
  apart : ∀ b, Fs b → ¬ Ff b
  hs : ∀ b, H b → ¬ Fs b ∧ ¬ Ff b
  hin : ∀ b, H b → b < w.heap.size
def PSt (SB : World → Nat → (Nat → Prop) → St → Prop) (FB : World → Nat → (Nat → Prop) → FT → Prop) (w0 w : World) (gs gf : Nat) (H F : Nat → Prop) (X : Sc) : Prop := ∃ Fs Ff, PR SB FB w gs gf Fs Ff H X ∧ Fr w0 w F ∧ (∀ b, Fs b ∨ Ff b → F b ∨ w0.heap.size ≤ b) ∧ ∀ b, H b → F b ∧ w.heap[b]? = w0.heap[b]?
theorem fr_then {w w1 w2 : World} {F F1 : Nat → Prop} (h1 : Fr w w1 F) (h2 : Fr w1 w2 F1) (hn : ∀ b, F1 b → F b ∨ w.heap.size ≤ b) : Fr w w2 F :=
  ⟨h2.1.trans h1.1, h2.2.1.trans h1.2.1, h2.2.2.1.trans h1.2.2.1, Nat.le_trans h1.2.2.2.1 h2.2.2.2.1, fun b hb hnn => (h2.2.2.2.2 b (Nat.lt_of_lt_of_le hb h1.2.2.2.1) (fun c => by
    rcases hn b c with d | d
    · exact hnn d
    · omega)).trans (h1.2.2.2.2 b hb hnn)⟩
theorem fr_belowX {w w1 w2 : World} {F : Nat → Prop} (h1 : Fr w w1 F) (hb : Below w1.heap.size w1 w2) : Fr w w2 F := fr_then h1 (F1 := fun _ => False) ⟨hb.os, hb.tape, hb.output, hb.size, fun b hl _ => hb.block b hl⟩ (fun _ c => c.elim)
theorem fr_reflX (w : World) (F : Nat → Prop) : Fr w w F := ⟨rfl, rfl, rfl, Nat.le_refl _, fun _ _ _ => rfl⟩
section
variable {SB : World → Nat → (Nat → Prop) → St → Prop} {FB : World → Nat → (Nat → Prop) → FT → Prop} {w0 w w' : World} {gs gf : Nat} {Fs Ff H F : Nat → Prop} {X : Sc}
theorem PR.keep (kS : KB SB) (kF : KB FB) (h : PR SB FB w gs gf Fs Ff H X) (hb : Below w.heap.size w w') : PR SB FB w' gs gf Fs Ff H X := ⟨kS.keep h.st hb, kF.keep h.fo hb, h.apart, h.hs, fun b c => Nat.lt_of_lt_of_le (h.hin b c) hb.size⟩
theorem PSt.init (h : PR SB FB w gs gf Fs Ff H X) (hF : ∀ b, F b ↔ H b ∨ Fs b ∨ Ff b) : PSt SB FB w w gs gf H F X := ⟨Fs, Ff, h, fr_reflX _ _, fun b c => Or.inl ((hF b).2 (Or.inr c)), fun b c => ⟨(hF b).2 (Or.inl c), rfl⟩⟩
theorem PSt.keep (kS : KB SB) (kF : KB FB) (h : PSt SB FB w0 w gs gf H F X) (hb : Below w.heap.size w w') : PSt SB FB w0 w' gs gf H F X := by
  obtain ⟨Fs, Ff, h1, h2, h3, h4⟩ := h
  exact ⟨Fs, Ff, h1.keep kS kF hb, fr_belowX h2 hb, h3, fun b c => ⟨(h4 b c).1, (hb.block b (h1.hin b c)).trans (h4 b c).2⟩⟩
theorem PSt.withS (kS : KB SB) (kF : KB FB) (h : PSt SB FB w0 w gs gf H F X) : ∃ Fs, (∀ b, Fs b → b < w.heap.size) ∧ (∀ b, Fs b → F b ∨ w0.heap.size ≤ b) ∧ ∀ w1, Below w.heap.size w w1 → SB w1 gs Fs X.S ∧ ∀ w' S', ChB SB w1 w' gs Fs S' → PSt SB FB w0 w' gs gf H F ⟨S', X.L⟩ := by
  obtain ⟨Fs, Ff, h1, h2, h3, h4⟩ := h
  refine ⟨Fs, kS.inb _ _ _ _ h1.st, fun b c => h3 b (Or.inl c), fun w1 hb => ⟨kS.keep h1.st hb, fun w' S' ⟨F', c1, c2, c3⟩ => ?_⟩⟩
  have h1' := h1.keep kS kF hb
  have hfi := kF.inb _ _ _ _ h1'.fo
  refine ⟨F', Ff, ⟨c1, kF.keep_ w1 w' gf Ff X.L h1'.fo (fun b hf => c2.2.2.2.2 b (hfi b hf) (fun q => h1.apart b q hf)), fun b hb1 hf => ?_, fun b hH => ⟨fun hb1 => ?_, (h1.hs b hH).2⟩, fun b hH => Nat.lt_of_lt_of_le (h1'.hin b hH) c2.2.2.2.1⟩, fr_then (fr_belowX h2 hb) c2 (fun b q => h3 b (Or.inl q)), fun b q => ?_, fun b hH => ⟨(h4 b hH).1, ?_⟩⟩
  · rcases c3 b hb1 with d | d
    · exact h1.apart b d hf
    · have := hfi b hf; omega
  · rcases c3 b hb1 with d | d
    · exact (h1.hs b hH).1 d
    · have := h1'.hin b hH; omega
  · rcases q with q | q
    · rcases c3 b q with d | d
      · exact h3 b (Or.inl d)
      · exact Or.inr (Nat.le_trans (Nat.le_trans h2.2.2.2.1 hb.size) d)
    · exact h3 b (Or.inr q)
  · exact (c2.2.2.2.2 b (h1'.hin b hH) (h1.hs b hH).1).trans ((hb.block b (h1.hin b hH)).trans (h4 b hH).2)
theorem PSt.withF (kS : KB SB) (kF : KB FB) (h : PSt SB FB w0 w gs gf H F X) : ∃ Ff, (∀ b, Ff b → b < w.heap.size) ∧ (∀ b, Ff b → F b ∨ w0.heap.size ≤ b) ∧ ∀ w1, Below w.heap.size w w1 → FB w1 gf Ff X.L ∧ ∀ w' L', ChB FB w1 w' gf Ff L' → PSt SB FB w0 w' gs gf H F ⟨X.S, L'⟩ ∧ ∀ (a : Option Addr) (n : Nat), (n = 0 ∨ ∀ ad, a = some ad → Ff ad.block ∨ w1.heap.size ≤ ad.block) → ∃ Fs, SB w' gs Fs X.S ∧ Aw Fs a n ∧ ∀ w'' S', ChB SB w' w'' gs Fs S' → PSt SB FB w0 w'' gs gf H F ⟨S', L'⟩ := by
  obtain ⟨Fs, Ff, h1, h2, h3, h4⟩ := h
  refine ⟨Ff, kF.inb _ _ _ _ h1.fo, fun b c => h3 b (Or.inr c), fun w1 hb => ⟨kF.keep h1.fo hb, fun w' L' ⟨F', c1, c2, c3⟩ => ?_⟩⟩
  have h1' := h1.keep kS kF hb
  have hsi := kS.inb _ _ _ _ h1'.st
  have hs' : SB w' gs Fs X.S := kS.keep_ w1 w' gs Fs X.S h1'.st (fun b hf => c2.2.2.2.2 b (hsi b hf) (fun q => h1.apart b hf q))
  have hP : PR SB FB w' gs gf Fs F' H ⟨X.S, L'⟩ := by
    refine ⟨hs', c1, fun b hf hb1 => ?_, fun b hH => ⟨(h1.hs b hH).1, fun hb1 => ?_⟩, fun b hH => Nat.lt_of_lt_of_le (h1'.hin b hH) c2.2.2.2.1⟩
    · rcases c3 b hb1 with d | d
      · exact h1.apart b hf d
      · have := hsi b hf; omega
    · rcases c3 b hb1 with d | d
      · exact (h1.hs b hH).2 d
      · have := h1'.hin b hH; omega
  have hfr : Fr w0 w' F := fr_then (fr_belowX h2 hb) c2 (fun b q => h3 b (Or.inr q))
  have hn : ∀ b, Fs b ∨ F' b → F b ∨ w0.heap.size ≤ b := fun b q => by
    rcases q with q | q
    · exact h3 b (Or.inl q)
    · rcases c3 b q with d | d
      · exact h3 b (Or.inr d)
      · exact Or.inr (Nat.le_trans (Nat.le_trans h2.2.2.2.1 hb.size) d)
  have hH2 : ∀ b, H b → F b ∧ w'.heap[b]? = w0.heap[b]? := fun b hH => ⟨(h4 b hH).1, (c2.2.2.2.2 b (h1'.hin b hH) (h1.hs b hH).2).trans ((hb.block b (h1.hin b hH)).trans (h4 b hH).2)⟩
  have hPS : PSt SB FB w0 w' gs gf H F ⟨X.S, L'⟩ := ⟨Fs, F', hP, hfr, hn, hH2⟩
  refine ⟨hPS, fun a n ha => ⟨Fs, hs', ?_, fun w'' S' ch => ?_⟩⟩
  · refine ha.imp id (fun q ad e hf => ?_)
    rcases q ad e with d | d
    · exact h1.apart _ hf d
    · have := hsi _ hf; omega
  · obtain ⟨G', c1', c2', c3'⟩ := ch
    have hfi := kF.inb _ _ _ _ c1
    refine ⟨G', F', ⟨c1', kF.keep_ w' w'' gf F' L' c1 (fun b hf => c2'.2.2.2.2 b (hfi b hf) (fun q => hP.apart b q hf)), fun b hb1 hf => ?_, fun b hH => ⟨fun hb1 => ?_, (hP.hs b hH).2⟩, fun b hH => Nat.lt_of_lt_of_le (hP.hin b hH) c2'.2.2.2.1⟩, fr_then hfr c2' (fun b q => hn b (Or.inl q)), fun b q => ?_, fun b hH => ⟨(hH2 b hH).1, (c2'.2.2.2.2 b (hP.hin b hH) (hP.hs b hH).1).trans (hH2 b hH).2⟩⟩
    · rcases c3' b hb1 with d | d
      · exact hP.apart b d hf
      · have := hfi b hf; omega
    · rcases c3' b hb1 with d | d
      · exact (hP.hs b hH).1 d
      · have := hP.hin b hH; omega
    · rcases q with q | q
      · rcases c3' b q with d | d
        · exact hn b (Or.inl d)
        · exact Or.inr (Nat.le_trans hfr.2.2.2.1 d)
      · exact hn b (Or.inr q)
end

def RSB (w : World) (g : Nat) (F : Nat → Prop) (X : Sc) : Prop := ∃ gs Fs Ff, PR RB (RGB (.pointer (some ⟨gs, 0, none⟩))) w gs g Fs Ff (fun _ => False) X ∧ ∀ b, F b ↔ Fs b ∨ Ff b
abbrev RPS (w0 w : World) (gs g : Nat) (F : Nat → Prop) (X : Sc) : Prop := PSt RB (RGB (.pointer (some ⟨gs, 0, none⟩))) w0 w gs g (fun _ => False) F X
theorem drew_below (w : World) : Below w.heap.size w w.drew := ⟨rfl, rfl, rfl, Nat.le_refl _, fun _ _ => rfl⟩
def cNd (n : Nd) : List Value := [.int .i64 n.id, .int .i64 n.par, .int .i64 (n.pl 0), .int .i64 (n.pl 1), .int .i64 (n.pl 2), .int .i64 (n.pl 3), .int .i64 (n.pl 4), .int .i64 (n.pl 5), .int .i64 (n.pl 6), .int .i64 (n.pl 7), .int .i64 (n.pl 8), .int .i64 (n.pl 9), .int .i64 (n.pl 10), .int .i64 (n.pl 11), .bool n.hid]
def cSt (s : Stt) : List Value := [.int .i64 s.id, .int .i64 (s.wo 0), .int .i64 (s.wo 1), .int .i64 (s.wo 2), .int .i64 (s.wo 3), .int .i64 (s.wo 4), .int .i64 (s.wo 5), .int .i64 (s.wo 6), .int .i64 (s.wo 7), .int .i64 (s.wo 8), .int .i64 (s.wo 9), .int .i64 (s.wo 10), .int .i64 (s.wo 11), .bool s.sh]
theorem cNd_len (n : Nd) : (cNd n).length = 15 := rfl
def RowX {α : Type} (k : Nat) (c : α → List Value) (w : World) (a : Option Addr) (n : Nat) (X : List α) : Prop := X.length = n ∧ n ≤ 9223372036854775807 ∧ (n = 0 ∨ ∃ b off, a = some ⟨b, off, none⟩ ∧ b < w.heap.size ∧ ∀ i x, X[i]? = some x → w.rangeAt b (off + i * k) (c x))
section
variable {α : Type} {k : Nat} {c : α → List Value} {w w' : World} {a : Option Addr} {n : Nat} {X : List α}
theorem RowX.keep (h : RowX k c w a n X) (hb : Below w.heap.size w w') : RowX k c w' a n X := ⟨h.1, h.2.1, h.2.2.imp id (fun ⟨b, o, e, hl, hr⟩ => ⟨b, o, e, Nat.lt_of_lt_of_le hl hb.size, fun i x hx => range_same (hr i x hx) (hb.block b hl)⟩)⟩
theorem RowX.at_ (h : RowX k c w a n X) {i : Nat} (hi : i < n) : ∃ b off x, a = some ⟨b, off, none⟩ ∧ b < w.heap.size ∧ X[i]? = some x ∧ w.rangeAt b (off + i * k) (c x) := by
  obtain ⟨h1, h2, h3⟩ := h
  rcases h3 with h3 | ⟨b, off, e, hb, hr⟩
  · omega
  · have hx : X[i]? = some (X[i]'(by omega)) := List.getElem?_eq_getElem (by omega)
    exact ⟨b, off, _, e, hb, hx, hr i _ hx⟩
end
abbrev NRow := RowX 15 cNd
abbrev SRow := RowX 14 cSt
end Go.Proofs.YtkondkajpmafkaaGreat
