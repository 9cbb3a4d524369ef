/-
  3 texts in one file, each with its own heading.
-/
import Derived.Test.YtkondkajpmafkaaGreatMP29
import Derived.Test.YtkondkajpmafkaaGreatMP30
import Derived.Test.YtkondkajpmafkaaGreatMP28
/-
  A scene in memory: a store and a forest apart from one another, and a block that holds what points to them; how a call on one of them changes the whole.
-/
namespace Go.Proofs.YtkondkajpmafkaaGreat
open Go.RowKit

structure KB {α : Type} (B : World → Nat → (Nat → Prop) → α → Prop) : Prop where
  keep_ : ∀ w w' g F x, B w g F x → (∀ b, F b → w'.heap[b]? = w.heap[b]?) → B w' g F x
  inb : ∀ w g F x, B w g F x → ∀ b, F b → b < w.heap.size
def ChB {α : Type} (B : World → Nat → (Nat → Prop) → α → Prop) (w w' : World) (g : Nat) (F : Nat → Prop) (x : α) : Prop := ∃ F', B w' g F' x ∧ Fr w w' F ∧ ∀ b, F' b → F b ∨ w.heap.size ≤ b
theorem KB.keep {α : Type} {B : World → Nat → (Nat → Prop) → α → Prop} (k : KB B) {w w' : World} {g : Nat} {F : Nat → Prop} {x : α} (h : B w g F x) (hb : Below w.heap.size w w') : B w' g F x := k.keep_ w w' g F x h (fun b hf => hb.block b (k.inb w g F x h b hf))
theorem ChB.still {α : Type} {B : World → Nat → (Nat → Prop) → α → Prop} (k : KB B) {w w' : World} {g : Nat} {F : Nat → Prop} {x : α} (h : B w g F x) (hb : Below w.heap.size w w') : ChB B w w' g F x := ⟨F, k.keep h hb, ⟨hb.os, hb.tape, hb.output, hb.size, fun b hl _ => hb.block b hl⟩, fun _ c => Or.inl c⟩
theorem kb_rb : KB RB := ⟨fun _ _ _ _ _ h he => h.same he, fun _ _ _ _ h => h.inb⟩
theorem RGB.same {sp : Value} {w w' : World} {g : Nat} {F : Nat → Prop} {L : FT} (h : RGB sp w g F L) (he : ∀ b, F b → w'.heap[b]? = w.heap[b]?) : RGB sp w' g F L := by
  obtain ⟨v, h1, h2⟩ := h
  exact ⟨v, h1.same (fun b hb => he b ((h2 b).2 hb)), h2⟩
theorem kb_rgb (sp : Value) : KB (RGB sp) := ⟨fun _ _ _ _ _ h he => h.same he, fun _ _ _ _ h => h.inb⟩

structure PR (SB : World → Nat → (Nat → Prop) → St → Prop) (FB : World → Nat → (Nat → Prop) → FT → Prop) (w : World) (gs gf : Nat) (Fs Ff H : Nat → Prop) (X : Sc) : Prop where
  st : SB w gs Fs X.S
  fo : FB w gf Ff X.L
  apart : ∀ b, Fs b → ¬ Ff b
  hs : ∀ b, H b → ¬ Fs b ∧ ¬ Ff b
  hin : ∀ b, H b → b < w.heap.size
def PSt (SB : World → Nat → (Nat → Prop) → St → Prop) (FB : World → Nat → (Nat → Prop) → FT → Prop) (w0 w : World) (gs gf : Nat) (H F : Nat → Prop) (X : Sc) : Prop := ∃ Fs Ff, PR SB FB w gs gf Fs Ff H X ∧ Fr w0 w F ∧ (∀ b, Fs b ∨ Ff b → F b ∨ w0.heap.size ≤ b) ∧ ∀ b, H b → F b ∧ w.heap[b]? = w0.heap[b]?
theorem fr_then {w w1 w2 : World} {F F1 : Nat → Prop} (h1 : Fr w w1 F) (h2 : Fr w1 w2 F1) (hn : ∀ b, F1 b → F b ∨ w.heap.size ≤ b) : Fr w w2 F :=
  ⟨h2.1.trans h1.1, h2.2.1.trans h1.2.1, h2.2.2.1.trans h1.2.2.1, Nat.le_trans h1.2.2.2.1 h2.2.2.2.1, fun b hb hnn => (h2.2.2.2.2 b (Nat.lt_of_lt_of_le hb h1.2.2.2.1) (fun c => by
    rcases hn b c with d | d
    · exact hnn d
    · omega)).trans (h1.2.2.2.2 b hb hnn)⟩
theorem fr_belowX {w w1 w2 : World} {F : Nat → Prop} (h1 : Fr w w1 F) (hb : Below w1.heap.size w1 w2) : Fr w w2 F := fr_then h1 (F1 := fun _ => False) ⟨hb.os, hb.tape, hb.output, hb.size, fun b hl _ => hb.block b hl⟩ (fun _ c => c.elim)
theorem fr_reflX (w : World) (F : Nat → Prop) : Fr w w F := ⟨rfl, rfl, rfl, Nat.le_refl _, fun _ _ _ => rfl⟩
section
variable {SB : World → Nat → (Nat → Prop) → St → Prop} {FB : World → Nat → (Nat → Prop) → FT → Prop} {w0 w w' : World} {gs gf : Nat} {Fs Ff H F : Nat → Prop} {X : Sc}
theorem PR.keep (kS : KB SB) (kF : KB FB) (h : PR SB FB w gs gf Fs Ff H X) (hb : Below w.heap.size w w') : PR SB FB w' gs gf Fs Ff H X := ⟨kS.keep h.st hb, kF.keep h.fo hb, h.apart, h.hs, fun b c => Nat.lt_of_lt_of_le (h.hin b c) hb.size⟩
theorem PSt.init (h : PR SB FB w gs gf Fs Ff H X) (hF : ∀ b, F b ↔ H b ∨ Fs b ∨ Ff b) : PSt SB FB w w gs gf H F X := ⟨Fs, Ff, h, fr_reflX _ _, fun b c => Or.inl ((hF b).2 (Or.inr c)), fun b c => ⟨(hF b).2 (Or.inl c), rfl⟩⟩
theorem PSt.keep (kS : KB SB) (kF : KB FB) (h : PSt SB FB w0 w gs gf H F X) (hb : Below w.heap.size w w') : PSt SB FB w0 w' gs gf H F X := by
  obtain ⟨Fs, Ff, h1, h2, h3, h4⟩ := h
  exact ⟨Fs, Ff, h1.keep kS kF hb, fr_belowX h2 hb, h3, fun b c => ⟨(h4 b c).1, (hb.block b (h1.hin b c)).trans (h4 b c).2⟩⟩
theorem PSt.withS (kS : KB SB) (kF : KB FB) (h : PSt SB FB w0 w gs gf H F X) : ∃ Fs, (∀ b, Fs b → b < w.heap.size) ∧ (∀ b, Fs b → F b ∨ w0.heap.size ≤ b) ∧ ∀ w1, Below w.heap.size w w1 → SB w1 gs Fs X.S ∧ ∀ w' S', ChB SB w1 w' gs Fs S' → PSt SB FB w0 w' gs gf H F ⟨S', X.L⟩ := by
  obtain ⟨Fs, Ff, h1, h2, h3, h4⟩ := h
  refine ⟨Fs, kS.inb _ _ _ _ h1.st, fun b c => h3 b (Or.inl c), fun w1 hb => ⟨kS.keep h1.st hb, fun w' S' ⟨F', c1, c2, c3⟩ => ?_⟩⟩
  have h1' := h1.keep kS kF hb
  have hfi := kF.inb _ _ _ _ h1'.fo
  refine ⟨F', Ff, ⟨c1, kF.keep_ w1 w' gf Ff X.L h1'.fo (fun b hf => c2.2.2.2.2 b (hfi b hf) (fun q => h1.apart b q hf)), fun b hb1 hf => ?_, fun b hH => ⟨fun hb1 => ?_, (h1.hs b hH).2⟩, fun b hH => Nat.lt_of_lt_of_le (h1'.hin b hH) c2.2.2.2.1⟩, fr_then (fr_belowX h2 hb) c2 (fun b q => h3 b (Or.inl q)), fun b q => ?_, fun b hH => ⟨(h4 b hH).1, ?_⟩⟩
  · rcases c3 b hb1 with d | d
    · exact h1.apart b d hf
    · have := hfi b hf; omega
  · rcases c3 b hb1 with d | d
    · exact (h1.hs b hH).1 d
    · have := h1'.hin b hH; omega
  · rcases q with q | q
    · rcases c3 b q with d | d
      · exact h3 b (Or.inl d)
      · exact Or.inr (Nat.le_trans (Nat.le_trans h2.2.2.2.1 hb.size) d)
    · exact h3 b (Or.inr q)
  · exact (c2.2.2.2.2 b (h1'.hin b hH) (h1.hs b hH).1).trans ((hb.block b (h1.hin b hH)).trans (h4 b hH).2)
theorem PSt.withF (kS : KB SB) (kF : KB FB) (h : PSt SB FB w0 w gs gf H F X) : ∃ Ff, (∀ b, Ff b → b < w.heap.size) ∧ (∀ b, Ff b → F b ∨ w0.heap.size ≤ b) ∧ ∀ w1, Below w.heap.size w w1 → FB w1 gf Ff X.L ∧ ∀ w' L', ChB FB w1 w' gf Ff L' → PSt SB FB w0 w' gs gf H F ⟨X.S, L'⟩ ∧ ∀ (a : Option Addr) (n : Nat), (n = 0 ∨ ∀ ad, a = some ad → Ff ad.block ∨ w1.heap.size ≤ ad.block) → ∃ Fs, SB w' gs Fs X.S ∧ Aw Fs a n ∧ ∀ w'' S', ChB SB w' w'' gs Fs S' → PSt SB FB w0 w'' gs gf H F ⟨S', L'⟩ := by
  obtain ⟨Fs, Ff, h1, h2, h3, h4⟩ := h
  refine ⟨Ff, kF.inb _ _ _ _ h1.fo, fun b c => h3 b (Or.inr c), fun w1 hb => ⟨kF.keep h1.fo hb, fun w' L' ⟨F', c1, c2, c3⟩ => ?_⟩⟩
  have h1' := h1.keep kS kF hb
  have hsi := kS.inb _ _ _ _ h1'.st
  have hs' : SB w' gs Fs X.S := kS.keep_ w1 w' gs Fs X.S h1'.st (fun b hf => c2.2.2.2.2 b (hsi b hf) (fun q => h1.apart b hf q))
  have hP : PR SB FB w' gs gf Fs F' H ⟨X.S, L'⟩ := by
    refine ⟨hs', c1, fun b hf hb1 => ?_, fun b hH => ⟨(h1.hs b hH).1, fun hb1 => ?_⟩, fun b hH => Nat.lt_of_lt_of_le (h1'.hin b hH) c2.2.2.2.1⟩
    · rcases c3 b hb1 with d | d
      · exact h1.apart b hf d
      · have := hsi b hf; omega
    · rcases c3 b hb1 with d | d
      · exact (h1.hs b hH).2 d
      · have := h1'.hin b hH; omega
  have hfr : Fr w0 w' F := fr_then (fr_belowX h2 hb) c2 (fun b q => h3 b (Or.inr q))
  have hn : ∀ b, Fs b ∨ F' b → F b ∨ w0.heap.size ≤ b := fun b q => by
    rcases q with q | q
    · exact h3 b (Or.inl q)
    · rcases c3 b q with d | d
      · exact h3 b (Or.inr d)
      · exact Or.inr (Nat.le_trans (Nat.le_trans h2.2.2.2.1 hb.size) d)
  have hH2 : ∀ b, H b → F b ∧ w'.heap[b]? = w0.heap[b]? := fun b hH => ⟨(h4 b hH).1, (c2.2.2.2.2 b (h1'.hin b hH) (h1.hs b hH).2).trans ((hb.block b (h1.hin b hH)).trans (h4 b hH).2)⟩
  have hPS : PSt SB FB w0 w' gs gf H F ⟨X.S, L'⟩ := ⟨Fs, F', hP, hfr, hn, hH2⟩
  refine ⟨hPS, fun a n ha => ⟨Fs, hs', ?_, fun w'' S' ch => ?_⟩⟩
  · refine ha.imp id (fun q ad e hf => ?_)
    rcases q ad e with d | d
    · exact h1.apart _ hf d
    · have := hsi _ hf; omega
  · obtain ⟨G', c1', c2', c3'⟩ := ch
    have hfi := kF.inb _ _ _ _ c1
    refine ⟨G', F', ⟨c1', kF.keep_ w' w'' gf F' L' c1 (fun b hf => c2'.2.2.2.2 b (hfi b hf) (fun q => hP.apart b q hf)), fun b hb1 hf => ?_, fun b hH => ⟨fun hb1 => ?_, (hP.hs b hH).2⟩, fun b hH => Nat.lt_of_lt_of_le (hP.hin b hH) c2'.2.2.2.1⟩, fr_then hfr c2' (fun b q => hn b (Or.inl q)), fun b q => ?_, fun b hH => ⟨(hH2 b hH).1, (c2'.2.2.2.2 b (hP.hin b hH) (hP.hs b hH).1).trans (hH2 b hH).2⟩⟩
    · rcases c3' b hb1 with d | d
      · exact hP.apart b d hf
      · have := hfi b hf; omega
    · rcases c3' b hb1 with d | d
      · exact (hP.hs b hH).1 d
      · have := hP.hin b hH; omega
    · rcases q with q | q
      · rcases c3' b q with d | d
        · exact hn b (Or.inl d)
        · exact Or.inr (Nat.le_trans hfr.2.2.2.1 d)
      · exact hn b (Or.inr q)
end

def RSB (w : World) (g : Nat) (F : Nat → Prop) (X : Sc) : Prop := ∃ gs Fs Ff, PR RB (RGB (.pointer (some ⟨gs, 0, none⟩))) w gs g Fs Ff (fun _ => False) X ∧ ∀ b, F b ↔ Fs b ∨ Ff b
theorem kb_rsb : KB RSB := ⟨fun w w' g F X ⟨gs, Fs, Ff, h, hF⟩ he => ⟨gs, Fs, Ff, ⟨kb_rb.keep_ _ _ _ _ _ h.st (fun b c => he b ((hF b).2 (Or.inl c))), (kb_rgb _).keep_ _ _ _ _ _ h.fo (fun b c => he b ((hF b).2 (Or.inr c))), h.apart, h.hs, fun _ c => c.elim⟩, hF⟩, fun w g F X ⟨gs, Fs, Ff, h, hF⟩ b hb => by
  rcases (hF b).1 hb with c | c
  · exact kb_rb.inb _ _ _ _ h.st b c
  · exact (kb_rgb _).inb _ _ _ _ h.fo b c⟩
abbrev RPS (w0 w : World) (gs g : Nat) (F : Nat → Prop) (X : Sc) : Prop := PSt RB (RGB (.pointer (some ⟨gs, 0, none⟩))) w0 w gs g (fun _ => False) F X
theorem RSB.open_ {w : World} {g : Nat} {F : Nat → Prop} {X : Sc} (h : RSB w g F X) : ∃ gs, RPS w w gs g F X := by
  obtain ⟨gs, Fs, Ff, h1, hF⟩ := h
  exact ⟨gs, PSt.init h1 (fun b => (hF b).trans ⟨fun c => Or.inr c, fun c => c.resolve_left (fun q => q)⟩)⟩
theorem RPS.done {w0 w : World} {gs g : Nat} {F : Nat → Prop} {X : Sc} (h : RPS w0 w gs g F X) : ChB RSB w0 w g F X := by
  obtain ⟨Fs, Ff, h1, h2, h3, h4⟩ := h
  exact ⟨fun b => Fs b ∨ Ff b, ⟨gs, Fs, Ff, h1, fun _ => Iff.rfl⟩, h2, h3⟩
theorem RPS.keep {w0 w w' : World} {gs g : Nat} {F : Nat → Prop} {X : Sc} (h : RPS w0 w gs g F X) (hb : Below w.heap.size w w') : RPS w0 w' gs g F X := PSt.keep kb_rb (kb_rgb _) h hb
theorem RPS.reads {w0 w : World} {gs g : Nat} {F : Nat → Prop} {X : Sc} (h : RPS w0 w gs g F X) : w.cell? ⟨g, 0, none⟩ = some (.pointer (some ⟨gs, 0, none⟩)) ∧ g < w.heap.size ∧ gs < w.heap.size := by
  obtain ⟨Fs, Ff, h1, h2, h3, h4⟩ := h
  obtain ⟨v, k1, k2⟩ := h1.fo
  exact ⟨k1.blk.cell 0, k1.blk.lt, kb_rb.inb _ _ _ _ h1.st gs h1.st.at_⟩
theorem RPS.withS {w0 w : World} {gs g : Nat} {F : Nat → Prop} {X : Sc} (h : RPS w0 w gs g F X) : ∃ Fs, (∀ b, Fs b → b < w.heap.size) ∧ (∀ b, Fs b → F b ∨ w0.heap.size ≤ b) ∧ ∀ w1, Below w.heap.size w w1 → RB w1 gs Fs X.S ∧ ∀ w' S', Chg RB w1 w' gs Fs S' → RPS w0 w' gs g F ⟨S', X.L⟩ := PSt.withS kb_rb (kb_rgb _) h
theorem RPS.withF {w0 w : World} {gs g : Nat} {F : Nat → Prop} {X : Sc} (h : RPS w0 w gs g F X) : ∃ Ff, (∀ b, Ff b → b < w.heap.size) ∧ (∀ b, Ff b → F b ∨ w0.heap.size ≤ b) ∧ ∀ w1, Below w.heap.size w w1 → RGB (.pointer (some ⟨gs, 0, none⟩)) w1 g Ff X.L ∧ ∀ w' L', ChF (RGB (.pointer (some ⟨gs, 0, none⟩))) w1 w' g Ff L' → RPS w0 w' gs g F ⟨X.S, L'⟩ ∧ ∀ (a : Option Addr) (n : Nat), (n = 0 ∨ ∀ ad, a = some ad → Ff ad.block ∨ w1.heap.size ≤ ad.block) → ∃ Fs, RB w' gs Fs X.S ∧ Aw Fs a n ∧ ∀ w'' S', Chg RB w' w'' gs Fs S' → RPS w0 w'' gs g F ⟨S', L'⟩ := PSt.withF kb_rb (kb_rgb _) h
theorem rlive8 {w : World} {g : Nat} {F : Nat → Prop} {S : St} (h0 : RB w g F S) (x : Int) : Calls Tryz.prog 76 #[.pointer (some ⟨g, 0, none⟩), .int .i64 x] w fun e w' => e = .returned (.bool (liveS S x)) ∧ w = w' := by
  obtain ⟨tv, cv, gv, h, hF⟩ := h0
  exact plive8 (E := stE tv S.now cv gv) (t := 96) (N := 580) (by omega) g S.room S.G S.L x w h.row

theorem drew_below (w : World) : Below w.heap.size w w.drew := ⟨rfl, rfl, rfl, Nat.le_refl _, fun _ _ => rfl⟩
set_option maxHeartbeats 2000000 in
set_option maxRecDepth 100000 in
theorem xlive_any {w0 w : World} {gs g : Nat} {F : Nat → Prop} {X : Sc} (h : RPS w0 w gs g F X) (x : Int) :
    Calls Tryz.prog 72 #[.pointer (some ⟨g, 0, none⟩), .int .i64 x] w fun e w' => e = .returned (.bool (liveS X.S x)) ∧ w = w' := by
  obtain ⟨c0, hg, hgs⟩ := h.reads
  obtain ⟨Fs, _, _, hS⟩ := h.withS
  have HL := Lib.hid (rlive8 (hS w (Below.refl _ _)).1 x)
  obtain ⟨b, hb⟩ : ∃ b, b = liveS X.S x := ⟨_, rfl⟩
  rw [← hb] at HL ⊢
  clear hS h hb
  go_enter Tryz.func72, Tryz.ntmps72
  go_wp2_with fail
  refine HL.out.mono ?_
  rintro e w1 ⟨rfl, rfl⟩
  go_wp2
  go_ret
  exact ⟨rfl, rfl⟩
set_option maxHeartbeats 2000000 in
set_option maxRecDepth 100000 in
theorem xnew_any (w : World) (r : Nat) :
    Calls Tryz.prog 8 #[.int .i64 r] w fun e w' => ∃ g F, e = .returned (.pointer (some ⟨g, 0, none⟩)) ∧ RSB w' g F (Sc0 r) ∧ (∀ b, F b → w.heap.size ≤ b) ∧ Below w.heap.size w w' := by
  have HN := Lib.hid (rnew8_any w r)
  go_enter Tryz.func8, Tryz.ntmps8
  go_wp2_with fail
  refine HN.out.mono ?_
  rintro e w1 ⟨gs, Fs, rfl, rb, fq, b1⟩
  have HE : Hid (∃ F, RSB (w1.alloc (.cells #[.pointer (some ⟨gs, 0, none⟩), .slice none 0 0] 82)) w1.heap.size F (Sc0 r) ∧ (∀ b, F b → w.heap.size ≤ b) ∧ Below w.heap.size w (w1.alloc (.cells #[.pointer (some ⟨gs, 0, none⟩), .slice none 0 0] 82))) := Lib.hid (by
    have hal := alloc_below w1 (.cells #[.pointer (some ⟨gs, 0, none⟩), .slice none 0 0] 82)
    have hi := rb.inb
    refine ⟨fun b => Fs b ∨ footF w1.heap.size (.slice none 0 0) b, ⟨gs, Fs, footF w1.heap.size (.slice none 0 0), ⟨rb.keep hal, ⟨.slice none 0 0, ⟨Blk.new w1 82 #[.pointer (some ⟨gs, 0, none⟩), .slice none 0 0], ColX.nil _ _ _ _, fun e => by cases e⟩, fun _ => Iff.rfl⟩, fun b hb hf => ?_, fun _ c => c.elim, fun _ c => c.elim⟩, fun _ => Iff.rfl⟩, fun b hb => ?_, balloc b1 _⟩
    · rcases hf with e | e
      · have := hi b hb; omega
      · cases e
    · rcases hb with c | e | e
      · exact fq b c
      · rw [e]; exact b1.size
      · cases e)
  clear rb fq b1 HN
  go_wp2
  go_ret
  obtain ⟨F, k1, k2, k3⟩ := HE.out
  exact ⟨_, F, rfl, k1, k2, k3⟩
set_option maxHeartbeats 4000000 in
set_option maxRecDepth 100000 in
theorem xspawn_any {w : World} {g : Nat} {F : Nat → Prop} {X : Sc} (h0 : RSB w g F X) (hW : WX X) (hB : BSc X 900) (P : PT) (p : Int) :
    Calls Tryz.prog 39 #[.pointer (some ⟨g, 0, none⟩), .agg (pl P).toArray, .int .i64 p] w fun e w' => e = .returned (.tuple #[.int .i64 (xspV X P p), .int .i64 (xspE X P p)]) ∧ ChB RSB w w' g F (xspS X P p) := by
  obtain ⟨gs, h⟩ := h0.open_
  have HH := Lib.hid h
  have H0 := Lib.hid h0
  obtain ⟨Fs, hfi, _, hS⟩ := h.withS
  have HS := Lib.hid hS
  have HFi := Lib.hid hfi
  have HLv : Hid (∀ u, Below w.heap.size w u → Calls Tryz.prog 72 #[.pointer (some ⟨g, 0, none⟩), .int .i64 p] u fun e w' => e = .returned (.bool (liveS X.S p)) ∧ u = w') := Lib.hid (fun u q => xlive_any (h.keep q) p)
  have HSp : Hid (∀ u, Below w.heap.size w u → w.heap.size < u.heap.size → Calls Tryz.prog 75 #[.pointer (some ⟨gs, 0, none⟩), .agg (pl P).toArray] u fun e w' => e = .returned (.tuple #[.int .i64 (spV X.S P), .int .i64 (spE X.S P)]) ∧ RPS w w' gs g F ⟨spS X.S P, X.L⟩ ∧ w'.heap[w.heap.size]? = u.heap[w.heap.size]?) := Lib.hid (fun u q c => (rspawn_any (hS u q).1 hW.ws (hB.bd.mono (by omega)) P).mono fun e w' k => ⟨k.1, (hS u q).2 _ _ k.2, by
    obtain ⟨_, _, f, _⟩ := k.2
    exact f.2.2.2.2 _ c (fun z => by have := hfi _ z; omega)⟩)
  have HWf := Lib.hid hW.wf
  have hLl : X.L.length ≤ 900 := hB.len
  have HSz := Lib.hid (pl_size P)
  have hu := Tryz.underlying43
  obtain ⟨lv, hlv⟩ : ∃ lv, lv = liveS X.S p := ⟨_, rfl⟩
  obtain ⟨V, hV⟩ : ∃ V, V = spV X.S P := ⟨_, rfl⟩
  obtain ⟨E, hE⟩ : ∃ E, E = spE X.S P := ⟨_, rfl⟩
  have HNo : Hid (noP X.S p = true → xspV X P p = 0 ∧ xspE X P p = 4 ∧ xspS X P p = X) := Lib.hid (fun c => by unfold xspV xspE xspS; rw [if_pos c, if_pos c, if_pos c]; exact ⟨rfl, rfl, rfl⟩)
  have HYes : Hid (noP X.S p = false → xspV X P p = V ∧ xspE X P p = E ∧ xspS X P p = ⟨spS X.S P, if E = 0 ∧ 0 ≤ p then setS9 X.L V p else X.L⟩) := Lib.hid (fun c => by unfold xspV xspE xspS; rw [c, hV, hE]; exact ⟨rfl, rfl, rfl⟩)
  have HNp : Hid (noP X.S p = (decide (0 ≤ p) && !lv)) := Lib.hid (by rw [hlv]; rfl)
  rw [← hlv] at HLv
  rw [← hV, ← hE] at HSp
  obtain ⟨Xp, hXp⟩ : ∃ Xp, Xp = pl P := ⟨_, rfl⟩
  rw [← hXp] at HSp HSz ⊢
  have KP := Lib.hid (Blk.new w 43 Xp.toArray)
  have HB1 : Hid (Below w.heap.size w (w.alloc (.cells Xp.toArray 43))) := Lib.hid (alloc_below _ _)
  clear hXp hS hfi h0 h hW hB hlv hV hE
  go_enter Tryz.func39, Tryz.ntmps39
  go_wp2_with fail
  refine (HLv.out _ HB1.out).mono ?_
  rintro e w1 ⟨rfl, rfl⟩
  have hcase : (0 ≤ p ∧ lv = false) ∨ (0 ≤ p ∧ lv = true) ∨ ¬ 0 ≤ p := by
    by_cases c : 0 ≤ p
    · cases lv
      · exact Or.inl ⟨c, rfl⟩
      · exact Or.inr (Or.inl ⟨c, rfl⟩)
    · exact Or.inr (Or.inr c)
  rcases hcase with ⟨hp, rfl⟩ | ⟨hp, rfl⟩ | hp
  · have HN := Lib.hid (HNo.out (by rw [HNp.out, decide_eq_true hp]; rfl))
    have HSt := Lib.hid (ChB.still kb_rsb H0.out HB1.out)
    clear HNo HYes HNp
    go_wp2
    go_ret2
    exact ⟨by rw [HN.out.1, HN.out.2.1]; rfl, by rw [HN.out.2.2]; exact HSt.out⟩
  · have hno : (decide (0 ≤ p) && !true) = false := by rw [decide_eq_true hp]; rfl
    have HY := Lib.hid (HYes.out (HNp.out.trans hno))
    clear HYes HNo HNp hno
    obtain ⟨c0, hg, hgs⟩ := (HH.out.keep HB1.out).reads
    have r0 := blk_whole KP.out
    have zb := KP.out.lt
    have hSz := HSz.out
    go_wp2
    refine fin (fun W => RPS w W gs g F X ∧ W.rangeAt w.heap.size 0 Xp ∧ Below w.heap.size w W ∧ w.heap.size < W.heap.size) ⟨HH.out.keep HB1.out, r0, HB1.out, zb⟩ ?_
    clear c0 hg hgs r0 zb KP HB1
    rintro W0 ⟨hp0, r0, hb0, zb⟩
    obtain ⟨c0, hg, hgs⟩ := hp0.reads
    have HB1 := Lib.hid hb0
    have HR0 := Lib.hid r0
    clear hp0 hb0
    refine wp_region_held_drew (S := fun w' => w'.cell? ⟨g, 0, none⟩ = some (.pointer (some ⟨gs, 0, none⟩)) ∧ w'.rangeAt w.heap.size 0 Xp) (by kernel_rfl) (⟨c0, r0⟩) (fun hHeld => ?_)
    refine tk 0 hHeld ?_
    refine tk 1 hHeld ?_
    refine tk 2 hHeld ?_
    refine tk 3 hHeld ?_
    refine tkl 4 rfl (yieldsIf_load_mid (by rfl) _ _ rfl _ _ rfl _ _ (fun _ h => h.2) Tryz.underlying43 rfl HSz.out) hHeld ?_
    refine rd 5 (fun K hK => ?_)
    go_simp
    go_at_call 75
    refine (HSp.out _ (bthen HB1.out (drew_below _)) zb).mono ?_
    rintro e w3 ⟨rfl, hp3, hk3⟩
    have HP := Lib.hid hp3
    have HR3 := Lib.hid (range_same HR0.out hk3)
    clear hk3 hp3
    go_wp2_with fail
    refine hK.out _ _ (⟨HP.out.reads.1, HR3.out⟩) (fun hHeld => ?_)
    clear hK K
    refine tk 6 hHeld ?_
    refine tk 7 hHeld ?_
    refine tk 8 hHeld ?_
    refine tk 9 hHeld ?_
    refine tk 10 hHeld ?_
    refine wpAnyH_done (by kernel_rfl) ?_ _
    clear hHeld
    have hg3 := HP.out.reads.2.1
    clear c0 r0 zb hg hgs HSp HB1 HR0 HR3 hSz HSz hu HH
    by_cases hE : E = 0
    · subst hE
      obtain ⟨Ff, _, _, hF⟩ := HP.out.withF
      have HF := Lib.hid (hF w3 (Below.refl _ _))
      have HSet : Hid (Calls Tryz.prog 73 #[.pointer (some ⟨g, 1, none⟩), .int .i64 V, .int .i64 p] w3 fun e w' => (∃ z, e = .returned (.int .i64 z)) ∧ ChB RSB w w' g F (xspS X P p)) := Lib.hid ((sset_any HF.out.1 HWf.out (show X.L.length ≤ 1000 by omega) V p).mono fun e w' k => ⟨⟨_, k.1⟩, by
        rw [HY.out.2.2, if_pos ⟨rfl, hp⟩]
        exact ((HF.out.2 _ _ k.2).1).done⟩)
      clear hF HF HP
      go_wp2_with fail
      refine HSet.out.mono ?_
      rintro e w4 ⟨⟨z, rfl⟩, hd⟩
      have HD := Lib.hid hd
      clear hd HSet
      go_wp2
      go_ret2
      exact ⟨by rw [HY.out.1, HY.out.2.1]; rfl, HD.out⟩
    · have HD : Hid (ChB RSB w w3 g F (xspS X P p)) := Lib.hid (by
        rw [HY.out.2.2, if_neg (fun q => hE q.1)]
        exact HP.out.done)
      go_wp2
      go_ret2
      exact ⟨by rw [HY.out.1, HY.out.2.1]; rfl, HD.out⟩
  · have hno : (decide (0 ≤ p) && !lv) = false := by rw [decide_eq_false hp]; rfl
    have HY := Lib.hid (HYes.out (HNp.out.trans hno))
    clear HYes HNo HNp hno
    obtain ⟨c0, hg, hgs⟩ := (HH.out.keep HB1.out).reads
    have r0 := blk_whole KP.out
    have zb := KP.out.lt
    have hSz := HSz.out
    go_wp2
    refine fin (fun W => RPS w W gs g F X ∧ W.rangeAt w.heap.size 0 Xp ∧ Below w.heap.size w W ∧ w.heap.size < W.heap.size) ⟨HH.out.keep HB1.out, r0, HB1.out, zb⟩ ?_
    clear c0 hg hgs r0 zb KP HB1
    rintro W0 ⟨hp0, r0, hb0, zb⟩
    obtain ⟨c0, hg, hgs⟩ := hp0.reads
    have HB1 := Lib.hid hb0
    have HR0 := Lib.hid r0
    clear hp0 hb0
    refine wp_region_held_drew (S := fun w' => w'.cell? ⟨g, 0, none⟩ = some (.pointer (some ⟨gs, 0, none⟩)) ∧ w'.rangeAt w.heap.size 0 Xp) (by kernel_rfl) (⟨c0, r0⟩) (fun hHeld => ?_)
    refine tk 0 hHeld ?_
    refine tk 1 hHeld ?_
    refine tk 2 hHeld ?_
    refine tk 3 hHeld ?_
    refine tkl 4 rfl (yieldsIf_load_mid (by rfl) _ _ rfl _ _ rfl _ _ (fun _ h => h.2) Tryz.underlying43 rfl HSz.out) hHeld ?_
    refine rd 5 (fun K hK => ?_)
    go_simp
    go_at_call 75
    refine (HSp.out _ (bthen HB1.out (drew_below _)) zb).mono ?_
    rintro e w3 ⟨rfl, hp3, hk3⟩
    have HP := Lib.hid hp3
    have HR3 := Lib.hid (range_same HR0.out hk3)
    clear hk3 hp3
    go_wp2_with fail
    refine hK.out _ _ (⟨HP.out.reads.1, HR3.out⟩) (fun hHeld => ?_)
    clear hK K
    refine tk 6 hHeld ?_
    refine tk 7 hHeld ?_
    refine tk 8 hHeld ?_
    refine tk 9 hHeld ?_
    refine tk 10 hHeld ?_
    refine wpAnyH_done (by kernel_rfl) ?_ _
    clear hHeld
    have hg3 := HP.out.reads.2.1
    clear c0 r0 zb hg hgs HSp HB1 HR0 HR3 hSz HSz hu HH
    have HD : Hid (ChB RSB w w3 g F (xspS X P p)) := Lib.hid (by
      rw [HY.out.2.2, if_neg (fun q => by have := q.2; omega)]
      exact HP.out.done)
    by_cases hE : E = 0
    · subst hE
      go_wp2
      go_ret2
      exact ⟨by rw [HY.out.1, HY.out.2.1]; rfl, HD.out⟩
    · go_wp2
      go_ret2
      exact ⟨by rw [HY.out.1, HY.out.2.1]; rfl, HD.out⟩
set_option maxHeartbeats 4000000 in
set_option maxRecDepth 100000 in
theorem xdespawn_any {w : World} {g : Nat} {F : Nat → Prop} {X : Sc} (h0 : RSB w g F X) (hW : WX X) (hB : BSc X 900) (id : Int) :
    Calls Tryz.prog 34 #[.pointer (some ⟨g, 0, none⟩), .int .i64 id] w fun e w' => e = .returned (.int .i64 (deE X.S id)) ∧ ChB RSB w w' g F (xdeS X id) := by
  obtain ⟨gs, h⟩ := h0.open_
  obtain ⟨c0, hg, hgs⟩ := h.reads
  obtain ⟨Fs, hfi, _, hS⟩ := h.withS
  have HDe : Hid (Calls Tryz.prog 66 #[.pointer (some ⟨gs, 0, none⟩), .int .i64 id] w fun e w' => e = .returned (.int .i64 (deE X.S id)) ∧ RPS w w' gs g F ⟨deS X.S id, X.L⟩) := Lib.hid ((rdespawn8_any (hS w (Below.refl _ _)).1 hW.ws (hB.bd.mono (by omega)) id).mono fun e w' k => ⟨k.1, (hS w (Below.refl _ _)).2 _ _ k.2⟩)
  have hLl : X.L.length ≤ 900 := hB.len
  have hcl : (deS X.S id).ch.length + (chF X.L id).length ≤ 1000 := by
    rw [de_ch]
    have h1 := chF_len X.L id
    have h2 := hB.1
    omega
  obtain ⟨C, hC⟩ : ∃ C, C = chF X.L id := ⟨_, rfl⟩
  obtain ⟨n, hn⟩ : ∃ n, n = C.length := ⟨_, rfl⟩
  obtain ⟨S1, hS1⟩ : ∃ S1, S1 = deS X.S id := ⟨_, rfl⟩
  have HDr : Hid (∀ u, RPS w u gs g F ⟨S1, X.L⟩ → Calls Tryz.prog 67 #[.pointer (some ⟨g, 1, none⟩), .int .i64 id] u fun e w' => ∃ a cap Fs, e = .returned (.slice a n cap) ∧ Row w' a n C ∧ RB w' gs Fs S1 ∧ Aw Fs a n ∧ RPS w w' gs g F ⟨S1, dropF X.L id⟩ ∧ ∀ w'' S', Chg RB w' w'' gs Fs S' → RPS w w'' gs g F ⟨S', dropF X.L id⟩) := Lib.hid (fun u k => by
    obtain ⟨Ff, _, _, hF⟩ := k.withF
    refine (sdrop_any (hF u (Below.refl _ _)).1 (show X.L.length ≤ 1000 by omega) id).mono ?_
    rintro e w' ⟨v, rfl, ⟨a, cap, hv, hrow, hnew⟩, hch⟩
    rw [← hC, ← hn] at hv hrow hnew
    obtain ⟨k1, k2⟩ := (hF u (Below.refl _ _)).2 _ _ hch
    obtain ⟨Fs, k3, k4, k5⟩ := k2 a n (hnew.imp_right (fun q ad e => Or.inr (q ad e)))
    exact ⟨a, cap, Fs, by rw [hv], hrow, k3, k4, k1, k5⟩)
  have HTo : Hid (∀ u Fs a cap, RB u gs Fs S1 → Row u a n C → Aw Fs a n → Calls Tryz.prog 68 #[.pointer (some ⟨gs, 0, none⟩), .slice a n cap] u fun e w' => (∃ z : Int, e = .returned (.int .i64 z)) ∧ Chg RB u w' gs Fs (toS S1 C)) := Lib.hid (fun u Fs a cap k row haw => (rtouch8_any k a n cap C (by rw [hS1, hn, hC]; exact hcl) row haw).mono fun e w' q => ⟨⟨_, q.1⟩, q.2⟩)
  have HYes : Hid (deE X.S id = 0 → xdeS X id = ⟨toS S1 C, dropF X.L id⟩) := Lib.hid (fun c => by unfold xdeS; rw [if_pos c, hS1, hC])
  have HNo : Hid (deE X.S id ≠ 0 → xdeS X id = ⟨S1, X.L⟩) := Lib.hid (fun c => by unfold xdeS; rw [if_neg c, hS1, de_no c])
  rw [← hS1] at HDe
  obtain ⟨E, hE⟩ : ∃ E, E = deE X.S id := ⟨_, rfl⟩
  rw [← hE] at HDe HYes HNo ⊢
  clear h0 h hW hB hS hfi hcl hC hn hS1 hE
  go_enter Tryz.func34, Tryz.ntmps34
  go_wp2_with fail
  refine HDe.out.mono ?_
  rintro e w1 ⟨rfl, hp⟩
  have HP := Lib.hid hp
  clear hp c0 hg hgs HDe
  obtain ⟨c0, hg, hgs⟩ := HP.out.reads
  by_cases hE : E = 0
  · have HY1 := Lib.hid (HYes.out hE)
    clear HYes HNo
    subst hE
    go_wp2_with fail
    refine (HDr.out _ HP.out).mono ?_
    rintro e w2 ⟨a, cap, Fs2, rfl, row, hs2, haw, hp, hk⟩
    have HT := Lib.hid (HTo.out w2 Fs2 a cap hs2 row haw)
    have HK := Lib.hid hk
    clear c0 hg hgs
    obtain ⟨c0, hg, hgs⟩ := hp.reads
    clear row hs2 haw hp hk HP HDr HTo
    go_wp2_with fail
    refine HT.out.mono ?_
    rintro e w3 ⟨⟨z, rfl⟩, hch⟩
    have HD := Lib.hid (HK.out _ _ hch).done
    clear hch HK HT
    go_wp2
    go_ret
    exact ⟨rfl, by rw [HY1.out]; exact HD.out⟩
  · have HD : Hid (ChB RSB w w1 g F (xdeS X id)) := Lib.hid (by rw [HNo.out hE]; exact HP.out.done)
    clear HP HDr HTo HYes HNo
    go_wp2
    go_ret
    exact ⟨rfl, HD.out⟩
set_option maxHeartbeats 4000000 in
set_option maxRecDepth 100000 in
theorem xadopt_any {w : World} {g : Nat} {F : Nat → Prop} {X : Sc} (h0 : RSB w g F X) (hW : WX X) (hB : BSc X 900) (c p : Int) :
    Calls Tryz.prog 37 #[.pointer (some ⟨g, 0, none⟩), .int .i64 c, .int .i64 p] w fun e w' => e = .returned (.int .i64 (xadE X c p)) ∧ ChB RSB w w' g F (xadS X c p) := by
  obtain ⟨gs, h⟩ := h0.open_
  have HLv : Hid (∀ y, Calls Tryz.prog 72 #[.pointer (some ⟨g, 0, none⟩), .int .i64 y] w fun e w' => e = .returned (.bool (liveS X.S y)) ∧ w = w') := Lib.hid (fun y => xlive_any h y)
  have HH := Lib.hid h
  have hLl : X.L.length ≤ 900 := hB.len
  have HWf := Lib.hid hW.wf
  have hcl : X.S.ch.length + 1 ≤ 1000 := by have := hB.1; omega
  obtain ⟨lc, hlc⟩ : ∃ b, b = liveS X.S c := ⟨_, rfl⟩
  obtain ⟨lp, hlp⟩ : ∃ b, b = liveS X.S p := ⟨_, rfl⟩
  have HL1 := Lib.hid (HLv.out c)
  have HL2 := Lib.hid (HLv.out p)
  rw [← hlc] at HL1
  rw [← hlp] at HL2
  have HE : Hid (xadE X c p = if lc && lp then fsetE X.L c p else 4) := Lib.hid (by rw [hlc, hlp]; rfl)
  obtain ⟨E, hE⟩ : ∃ E, E = fsetE X.L c p := ⟨_, rfl⟩
  have HSet : Hid (Calls Tryz.prog 73 #[.pointer (some ⟨g, 1, none⟩), .int .i64 c, .int .i64 p] w fun e w' => e = .returned (.int .i64 E) ∧ RPS w w' gs g F ⟨X.S, setS9 X.L c p⟩) := Lib.hid (by
    obtain ⟨Ff, _, _, hF⟩ := h.withF
    exact (sset_any (hF w (Below.refl _ _)).1 hW.wf (show X.L.length ≤ 1000 by omega) c p).mono fun e w' k => ⟨by rw [k.1, hE], ((hF w (Below.refl _ _)).2 _ _ k.2).1⟩)
  have HTo : Hid (∀ u L', RPS w u gs g F ⟨X.S, L'⟩ → Calls Tryz.prog 68 #[.pointer (some ⟨gs, 0, none⟩), .slice (some ⟨u.heap.size, 0, none⟩) 1 1] (u.alloc (.cells #[.int .i64 c] 31)) fun e w' => (∃ z : Int, e = .returned (.int .i64 z)) ∧ RPS w w' gs g F ⟨toS X.S [c], L'⟩) := Lib.hid (fun u L' k => by
    obtain ⟨Fs, hfi, _, hS⟩ := k.withS
    have hal := alloc_below u (.cells #[.int .i64 c] 31)
    exact (rtouch8_any (hS _ hal).1 (some ⟨u.heap.size, 0, none⟩) 1 1 [c] hcl (row1 _ _ _) (aw_new2 hfi)).mono fun e w' q => ⟨⟨_, q.1⟩, (hS _ hal).2 _ _ q.2⟩)
  have HSt : Hid (ChB RSB w w g F X) := Lib.hid (ChB.still kb_rsb h0 (Below.refl _ _))
  have HX : Hid (xadE X c p = 0 → xadS X c p = ⟨toS X.S [c], setS9 X.L c p⟩) := Lib.hid (fun q => by unfold xadS; rw [if_pos q])
  have HXn : Hid (xadE X c p ≠ 0 → xadS X c p = X) := Lib.hid (fun q => by unfold xadS; rw [if_neg q])
  have HSn : Hid (E ≠ 0 → setS9 X.L c p = X.L) := Lib.hid (fun q => by unfold setS9; rw [if_neg (by rw [← hE]; exact q)])
  clear h0 h hW hB hcl hlc hlp HLv HWf hLl
  rw [← hE] at HE
  clear hE
  go_enter Tryz.func37, Tryz.ntmps37
  go_wp2_with fail
  refine HL1.out.mono ?_
  rintro e w1 ⟨rfl, rfl⟩
  go_wp2_with fail
  refine HL2.out.mono ?_
  rintro e w1 ⟨rfl, rfl⟩
  clear HL1 HL2
  have hcase : (lc = false) ∨ (lc = true ∧ lp = false) ∨ (lc = true ∧ lp = true) := by cases lc <;> cases lp <;> simp
  rcases hcase with rfl | ⟨rfl, rfl⟩ | ⟨rfl, rfl⟩
  · have e1 : xadE X c p = 4 := by rw [HE.out]; rfl
    have HD : Hid (ChB RSB w w g F (xadS X c p)) := Lib.hid (by rw [HXn.out (by rw [e1]; decide)]; exact HSt.out)
    have HE1 := Lib.hid e1
    clear e1 HE HX HXn HSn HTo HSet HH HSt
    go_wp2
    go_ret
    exact ⟨by rw [HE1.out]; rfl, HD.out⟩
  · have e1 : xadE X c p = 4 := by rw [HE.out]; rfl
    have HD : Hid (ChB RSB w w g F (xadS X c p)) := Lib.hid (by rw [HXn.out (by rw [e1]; decide)]; exact HSt.out)
    have HE1 := Lib.hid e1
    clear e1 HE HX HXn HSn HTo HSet HH HSt
    go_wp2
    go_ret
    exact ⟨by rw [HE1.out]; rfl, HD.out⟩
  · have HE1 : Hid (xadE X c p = E) := Lib.hid (by rw [HE.out]; rfl)
    obtain ⟨c0, hg, hgs⟩ := HH.out.reads
    clear HE HSt
    go_wp2_with fail
    refine HSet.out.mono ?_
    rintro e w2 ⟨rfl, hp⟩
    have HP := Lib.hid hp
    clear hp c0 hg hgs HSet HH
    obtain ⟨c0, hg, hgs⟩ := HP.out.reads
    by_cases hE : E = 0
    · subst hE
      have HT := Lib.hid (HTo.out _ _ HP.out)
      clear HTo HP HXn HSn
      go_wp2_with fail
      refine HT.out.mono ?_
      rintro e w3 ⟨⟨z, rfl⟩, hp⟩
      have HD : Hid (ChB RSB w w3 g F (xadS X c p)) := Lib.hid (by rw [HX.out HE1.out]; exact hp.done)
      clear hp HT HX
      go_wp2
      go_ret
      exact ⟨by rw [HE1.out]; rfl, HD.out⟩
    · have HD : Hid (ChB RSB w w2 g F (xadS X c p)) := Lib.hid (by
        rw [HXn.out (by rw [HE1.out]; exact hE)]
        have := HP.out.done
        rw [HSn.out hE] at this
        exact this)
      clear HTo HP HXn HSn HX
      go_wp2
      go_ret
      exact ⟨by rw [HE1.out]; rfl, HD.out⟩
set_option maxHeartbeats 4000000 in
set_option maxRecDepth 100000 in
theorem xfree_any {w : World} {g : Nat} {F : Nat → Prop} {X : Sc} (h0 : RSB w g F X) (hB : BSc X 900) (c : Int) :
    Calls Tryz.prog 38 #[.pointer (some ⟨g, 0, none⟩), .int .i64 c] w fun e w' => e = .returned (.int .i64 (xfrE X c)) ∧ ChB RSB w w' g F (xfrS X c) := by
  obtain ⟨gs, h⟩ := h0.open_
  have HL1 := Lib.hid (xlive_any h c)
  have HH := Lib.hid h
  have hLl : X.L.length ≤ 900 := hB.len
  have hcl : X.S.ch.length + 1 ≤ 1000 := by have := hB.1; omega
  obtain ⟨lc, hlc⟩ : ∃ b, b = liveS X.S c := ⟨_, rfl⟩
  rw [← hlc] at HL1
  have HE : Hid (xfrE X c = if lc then 0 else 4) := Lib.hid (by rw [hlc]; rfl)
  obtain ⟨had, hhad⟩ : ∃ b, b = (parO X.L c).isSome := ⟨_, rfl⟩
  have HFr : Hid (Calls Tryz.prog 74 #[.pointer (some ⟨g, 1, none⟩), .int .i64 c] w fun e w' => e = .returned (.bool had) ∧ RPS w w' gs g F ⟨X.S, freeF X.L c⟩) := Lib.hid (by
    obtain ⟨Ff, _, _, hF⟩ := h.withF
    exact (sfree_any (hF w (Below.refl _ _)).1 (show X.L.length ≤ 1000 by omega) c).mono fun e w' k => ⟨by rw [k.1, hhad], ((hF w (Below.refl _ _)).2 _ _ k.2).1⟩)
  have HTo : Hid (∀ u L', RPS w u gs g F ⟨X.S, L'⟩ → Calls Tryz.prog 68 #[.pointer (some ⟨gs, 0, none⟩), .slice (some ⟨u.heap.size, 0, none⟩) 1 1] (u.alloc (.cells #[.int .i64 c] 31)) fun e w' => (∃ z : Int, e = .returned (.int .i64 z)) ∧ RPS w w' gs g F ⟨toS X.S [c], L'⟩) := Lib.hid (fun u L' k => by
    obtain ⟨Fs, hfi, _, hS⟩ := k.withS
    have hal := alloc_below u (.cells #[.int .i64 c] 31)
    exact (rtouch8_any (hS _ hal).1 (some ⟨u.heap.size, 0, none⟩) 1 1 [c] hcl (row1 _ _ _) (aw_new2 hfi)).mono fun e w' q => ⟨⟨_, q.1⟩, (hS _ hal).2 _ _ q.2⟩)
  have HSt : Hid (lc = false → ChB RSB w w g F (xfrS X c)) := Lib.hid (fun q => by
    have e : xfrS X c = X := by unfold xfrS; rw [← hlc, q]; rfl
    rw [e]
    exact ChB.still kb_rsb h0 (Below.refl _ _))
  have HX : Hid (lc = true → xfrS X c = ⟨if had then toS X.S [c] else X.S, freeF X.L c⟩) := Lib.hid (fun q => by unfold xfrS; rw [← hlc, q, hhad]; rfl)
  clear h0 h hB hcl hlc hhad hLl
  go_enter Tryz.func38, Tryz.ntmps38
  go_wp2_with fail
  refine HL1.out.mono ?_
  rintro e w1 ⟨rfl, rfl⟩
  clear HL1
  cases lc with
  | false =>
    have HD := Lib.hid (HSt.out rfl)
    have HE1 : Hid (xfrE X c = 4) := Lib.hid (by rw [HE.out]; rfl)
    clear HSt HE HX HTo HFr HH
    go_wp2
    go_ret
    exact ⟨by rw [HE1.out]; rfl, HD.out⟩
  | true =>
    have HE1 : Hid (xfrE X c = 0) := Lib.hid (by rw [HE.out]; rfl)
    have HX1 := Lib.hid (HX.out rfl)
    obtain ⟨c0, hg, hgs⟩ := HH.out.reads
    clear HE HSt HX
    go_wp2_with fail
    refine HFr.out.mono ?_
    rintro e w2 ⟨rfl, hp⟩
    have HP := Lib.hid hp
    clear hp c0 hg hgs HFr HH
    obtain ⟨c0, hg, hgs⟩ := HP.out.reads
    cases had with
    | false =>
      have HD : Hid (ChB RSB w w2 g F (xfrS X c)) := Lib.hid (by rw [HX1.out]; exact HP.out.done)
      clear HTo HP HX1
      go_wp2
      go_ret
      exact ⟨by rw [HE1.out]; rfl, HD.out⟩
    | true =>
      have HT := Lib.hid (HTo.out _ _ HP.out)
      clear HTo HP
      go_wp2_with fail
      refine HT.out.mono ?_
      rintro e w3 ⟨⟨z, rfl⟩, hp⟩
      have HD : Hid (ChB RSB w w3 g F (xfrS X c)) := Lib.hid (by rw [HX1.out]; exact hp.done)
      clear hp HT HX1
      go_wp2
      go_ret
      exact ⟨by rw [HE1.out]; rfl, HD.out⟩
def cNd (n : Nd) : List Value := [.int .i64 n.id, .int .i64 n.par, .int .i64 (n.pl 0), .int .i64 (n.pl 1), .int .i64 (n.pl 2), .int .i64 (n.pl 3), .int .i64 (n.pl 4), .int .i64 (n.pl 5), .int .i64 (n.pl 6), .int .i64 (n.pl 7), .int .i64 (n.pl 8), .int .i64 (n.pl 9), .int .i64 (n.pl 10), .int .i64 (n.pl 11), .bool n.hid]
def cSt (s : Stt) : List Value := [.int .i64 s.id, .int .i64 (s.wo 0), .int .i64 (s.wo 1), .int .i64 (s.wo 2), .int .i64 (s.wo 3), .int .i64 (s.wo 4), .int .i64 (s.wo 5), .int .i64 (s.wo 6), .int .i64 (s.wo 7), .int .i64 (s.wo 8), .int .i64 (s.wo 9), .int .i64 (s.wo 10), .int .i64 (s.wo 11), .bool s.sh]
theorem cNd_len (n : Nd) : (cNd n).length = 15 := rfl
def RowX {α : Type} (k : Nat) (c : α → List Value) (w : World) (a : Option Addr) (n : Nat) (X : List α) : Prop := X.length = n ∧ n ≤ 9223372036854775807 ∧ (n = 0 ∨ ∃ b off, a = some ⟨b, off, none⟩ ∧ b < w.heap.size ∧ ∀ i x, X[i]? = some x → w.rangeAt b (off + i * k) (c x))
section
variable {α : Type} {k : Nat} {c : α → List Value} {w w' : World} {a : Option Addr} {n : Nat} {X : List α}
theorem RowX.keep (h : RowX k c w a n X) (hb : Below w.heap.size w w') : RowX k c w' a n X := ⟨h.1, h.2.1, h.2.2.imp id (fun ⟨b, o, e, hl, hr⟩ => ⟨b, o, e, Nat.lt_of_lt_of_le hl hb.size, fun i x hx => range_same (hr i x hx) (hb.block b hl)⟩)⟩
theorem RowX.at_ (h : RowX k c w a n X) {i : Nat} (hi : i < n) : ∃ b off x, a = some ⟨b, off, none⟩ ∧ b < w.heap.size ∧ X[i]? = some x ∧ w.rangeAt b (off + i * k) (c x) := by
  obtain ⟨h1, h2, h3⟩ := h
  rcases h3 with h3 | ⟨b, off, e, hb, hr⟩
  · omega
  · have hx : X[i]? = some (X[i]'(by omega)) := List.getElem?_eq_getElem (by omega)
    exact ⟨b, off, _, e, hb, hx, hr i _ hx⟩
end
abbrev NRow := RowX 15 cNd
abbrev SRow := RowX 14 cSt
end Go.Proofs.YtkondkajpmafkaaGreat
