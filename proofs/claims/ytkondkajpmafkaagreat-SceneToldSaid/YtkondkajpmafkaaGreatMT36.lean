/-
  2 texts in one file, each with its own heading.
-/
import Derived.Test.YtkondkajpmafkaaGreatMT30
import Derived.Test.YtkondkajpmafkaaGreatMT35
/-
  The reference's scene: what its Node of layer 11 answers.
-/
namespace Go.Proofs.YtkondkajpmafkaaGreat
open Go.RowKit

structure NXs (X : List Value) (T : TypeId) : Prop where
  len : X.length = 15
  size : (Tryz.prog.info? T).map (·.size) = some X.length
  sizea : (Tryz.prog.info? T).map (·.size) = some X.toArray.size
  onea : X.toArray.all (·.oneCell') = true
def n0d : Nd := ⟨0, 0, fun _ => 0, false⟩
theorem nd_par (n : Nd) (p : Int) : (cNd n).toArray.setIfInBounds 1 (.int .i64 p) = (cNd { n with par := p }).toArray := rfl
theorem nd_pl (n : Nd) (M : Nat → Int) : splice (cNd n) 2 (lM M) = cNd { n with pl := M } := rfl
structure SCx (SB : World → Nat → (Nat → Prop) → St → Prop) : Prop where
  keep_ : ∀ w w' g F S, SB w g F S → (∀ b, F b → w'.heap[b]? = w.heap[b]?) → SB w' g F S
  inb : ∀ w g F S, SB w g F S → ∀ b, F b → b < w.heap.size
  new : ∀ (w : World) (r : Nat), r ≤ 256 → Calls Tryz.prog 26 #[.int .i64 r] w fun e w' => ∃ g F, e = .returned (.tuple #[.pointer (some ⟨g, 0, none⟩), .int .i64 0]) ∧ SB w' g F (St0 r) ∧ (∀ b, F b → w.heap.size ≤ b) ∧ Below w.heap.size w w'
  bad : ∀ (w : World) (x : Int), (x < 0 ∨ 256 < x) → Calls Tryz.prog 26 #[.int .i64 x] w fun e w' => e = .returned (.tuple #[.pointer none, .int .i64 1]) ∧ Below w.heap.size w w'
  spawn : ∀ (w : World) g F S (P : PT), WS S → Bd S 1000 → SB w g F S → Calls Tryz.prog 57 #[.pointer (some ⟨g, 0, none⟩), .agg (pl P).toArray] w fun e w' => e = .returned (.tuple #[.int .i64 (spV S P), .int .i64 (spE S P)]) ∧ Chg SB w w' g F (spS S P)
  despawn : ∀ (w : World) g F S (id : Int), WS S → Bd S 1000 → SB w g F S → Calls Tryz.prog 60 #[.pointer (some ⟨g, 0, none⟩), .int .i64 id] w fun e w' => e = .returned (.int .i64 (deE S id)) ∧ Chg SB w w' g F (deS S id)
  put : ∀ (w : World) g F S (id : Int) (P : PT) (a : Option Addr) (n cap : Nat) (ks : List Int), WS S → Bd S 1000 → SB w g F S → n ≤ 1000 → Row w a n ks → Aw F a n → Calls Tryz.prog 63 #[.pointer (some ⟨g, 0, none⟩), .int .i64 id, .agg (pl P).toArray, .slice a n cap] w fun e w' => e = .returned (.int .i64 (puE S id P ks)) ∧ Chg SB w w' g F (puS S id P ks)
  cut : ∀ (w : World) g F S (id : Int) (a : Option Addr) (n cap : Nat) (ks : List Int), WS S → Bd S 1000 → SB w g F S → n ≤ 1000 → Row w a n ks → Aw F a n → Calls Tryz.prog 64 #[.pointer (some ⟨g, 0, none⟩), .int .i64 id, .slice a n cap] w fun e w' => e = .returned (.int .i64 (cuE S id ks)) ∧ Chg SB w w' g F (cuS S id ks)
  touch : ∀ (w : World) g F S (a : Option Addr) (n cap : Nat) (xs : List Int), WS S → Bd S 1000 → SB w g F S → n ≤ 1000 → Row w a n xs → Aw F a n → Calls Tryz.prog 59 #[.pointer (some ⟨g, 0, none⟩), .slice a n cap] w fun e w' => e = .returned (.int .i64 (toN S xs : Nat)) ∧ Chg SB w w' g F (toS S xs)
  get : ∀ (w : World) g F S (id : Int), WS S → Bd S 1000 → SB w g F S → Calls Tryz.prog 53 #[.pointer (some ⟨g, 0, none⟩), .int .i64 id] w fun e w' => ∃ Y, e = .returned (.tuple #[.agg (List.toArray Y), .bool (getB S id)]) ∧ Y = pl (getP S id) ∧ Below w.heap.size w w'
  all : ∀ (w : World) g F S, WS S → Bd S 1000 → SB w g F S → Calls Tryz.prog 50 #[.pointer (some ⟨g, 0, none⟩)] w fun e w' => ∃ v, e = .returned v ∧ LRes w w' (alS S) v ∧ Below w.heap.size w w'
  tick : ∀ (w : World) g F S, WS S → Bd S 1000 → SB w g F S → Calls Tryz.prog 48 #[.pointer (some ⟨g, 0, none⟩)] w fun e w' => e = .returned (.int .i64 S.now) ∧ Below w.heap.size w w'
  next : ∀ (w : World) g F S, WS S → Bd S 1000 → SB w g F S → Calls Tryz.prog 49 #[.pointer (some ⟨g, 0, none⟩)] w fun e w' => e = .returned (.int .i64 (S.now + 1)) ∧ Chg SB w w' g F (neS S)
  changed : ∀ (w : World) g F S (since : Int), WS S → Bd S 1000 → SB w g F S → Calls Tryz.prog 54 #[.pointer (some ⟨g, 0, none⟩), .int .i64 since] w fun e w' => ∃ v, e = .returned v ∧ LRes w w' (chL S since) v ∧ Below w.heap.size w w'
  gone : ∀ (w : World) g F S (since : Int), WS S → Bd S 1000 → SB w g F S → Calls Tryz.prog 55 #[.pointer (some ⟨g, 0, none⟩), .int .i64 since] w fun e w' => ∃ v, e = .returned v ∧ LRes w w' (goL S since) v ∧ Below w.heap.size w w'
structure FCx (FB : World → Nat → (Nat → Prop) → FT → Prop) : Prop where
  keep_ : ∀ w w' g F L, FB w g F L → (∀ b, F b → w'.heap[b]? = w.heap[b]?) → FB w' g F L
  inb : ∀ w g F L, FB w g F L → ∀ b, F b → b < w.heap.size
  rng : ∀ w g F L, FB w g F L → ∀ p ∈ L, Rg p.1 ∧ Rg p.2
  new : ∀ w : World, Calls Tryz.prog 27 #[] w fun e w' => ∃ g F, e = .returned (.pointer (some ⟨g, 0, none⟩)) ∧ FB w' g F [] ∧ (∀ b, F b → w.heap.size ≤ b) ∧ Below w.heap.size w w'
  set : ∀ (w : World) g F L (c p : Int), WF L → L.length ≤ 1000 → FB w g F L → Rg c → Rg p → Calls Tryz.prog 58 #[.pointer (some ⟨g, 0, none⟩), .int .i64 c, .int .i64 p] w fun e w' => e = .returned (.int .i64 (fsetE L c p)) ∧ ChF FB w w' g F (setS9 L c p)
  free : ∀ (w : World) g F L (a : Option Addr) (n cap : Nat) (xs : List Int), WF L → L.length ≤ 1000 → FB w g F L → n ≤ 1000 → Row w a n xs → Aw F a n → Rgs xs → Calls Tryz.prog 65 #[.pointer (some ⟨g, 0, none⟩), .slice a n cap] w fun e w' => e = .returned (.int .i64 (frN L xs : Nat)) ∧ ChF FB w w' g F (freeS L xs)
  drop : ∀ (w : World) g F L (x : Int), WF L → L.length ≤ 1000 → FB w g F L → Rg x → Calls Tryz.prog 61 #[.pointer (some ⟨g, 0, none⟩), .int .i64 x] w fun e w' => ∃ v, e = .returned v ∧ LDr F w w' (chF L x) v ∧ ChF FB w w' g F (dropF L x)
  parent : ∀ (w : World) g F L (x : Int), WF L → L.length ≤ 1000 → FB w g F L → Rg x → Calls Tryz.prog 79 #[.pointer (some ⟨g, 0, none⟩), .int .i64 x] w fun e w' => e = .returned (.tuple #[.int .i64 (parV (parO L x)), .bool (parO L x).isSome]) ∧ Below w.heap.size w w'
theorem SCx.kb {SB : World → Nat → (Nat → Prop) → St → Prop} (h : SCx SB) : KB SB := ⟨h.keep_, h.inb⟩
theorem FCx.kb {FB : World → Nat → (Nat → Prop) → FT → Prop} (h : FCx FB) : KB FB := ⟨h.keep_, h.inb⟩
structure XC (XB : World → Nat → (Nat → Prop) → Sc → Prop) : Prop where
  kb : KB XB
  new : ∀ (w : World) (r : Nat), r ≤ 256 → Calls Tryz.prog 7 #[.int .i64 r] w fun e w' => ∃ g F, e = .returned (.tuple #[.pointer (some ⟨g, 0, none⟩), .int .i64 0]) ∧ XB w' g F (Sc0 r) ∧ (∀ b, F b → w.heap.size ≤ b) ∧ Below w.heap.size w w'
  bad : ∀ (w : World) (x : Int), (x < 0 ∨ 256 < x) → Calls Tryz.prog 7 #[.int .i64 x] w fun e w' => e = .returned (.tuple #[.pointer none, .int .i64 1]) ∧ Below w.heap.size w w'
  spawn : ∀ (w : World) g F X (P : PT) (p : Int), WX X → BSc X 900 → XB w g F X → Rg p → Calls Tryz.prog 22 #[.pointer (some ⟨g, 0, none⟩), .agg (pl P).toArray, .int .i64 p] w fun e w' => e = .returned (.tuple #[.int .i64 (xspV X P p), .int .i64 (xspE X P p)]) ∧ ChB XB w w' g F (xspS X P p)
  despawn : ∀ (w : World) g F X (id : Int), WX X → BSc X 900 → XB w g F X → Rg id → Calls Tryz.prog 24 #[.pointer (some ⟨g, 0, none⟩), .int .i64 id] w fun e w' => e = .returned (.int .i64 (deE X.S id)) ∧ ChB XB w w' g F (xdeS X id)
  put : ∀ (w : World) g F X (id : Int) (P : PT) (a : Option Addr) (n cap : Nat) (ks : List Int), WX X → BSc X 900 → XB w g F X → n ≤ 900 → Row w a n ks → Aw F a n → Calls Tryz.prog 30 #[.pointer (some ⟨g, 0, none⟩), .int .i64 id, .agg (pl P).toArray, .slice a n cap] w fun e w' => e = .returned (.int .i64 (puE X.S id P ks)) ∧ ChB XB w w' g F (xpuS X id P ks)
  cut : ∀ (w : World) g F X (id : Int) (a : Option Addr) (n cap : Nat) (ks : List Int), WX X → BSc X 900 → XB w g F X → n ≤ 900 → Row w a n ks → Aw F a n → Calls Tryz.prog 31 #[.pointer (some ⟨g, 0, none⟩), .int .i64 id, .slice a n cap] w fun e w' => e = .returned (.int .i64 (cuE X.S id ks)) ∧ ChB XB w w' g F (xcuS X id ks)
  adopt : ∀ (w : World) g F X (c p : Int), WX X → BSc X 900 → XB w g F X → Rg c → Rg p → Calls Tryz.prog 23 #[.pointer (some ⟨g, 0, none⟩), .int .i64 c, .int .i64 p] w fun e w' => e = .returned (.int .i64 (xadE X c p)) ∧ ChB XB w w' g F (xadS X c p)
  free : ∀ (w : World) g F X (c : Int), WX X → BSc X 900 → XB w g F X → Rg c → Calls Tryz.prog 32 #[.pointer (some ⟨g, 0, none⟩), .int .i64 c] w fun e w' => e = .returned (.int .i64 (xfrE X c)) ∧ ChB XB w w' g F (xfrS X c)
  get : ∀ (w : World) g F X (id : Int), WX X → BSc X 900 → XB w g F X → Calls Tryz.prog 17 #[.pointer (some ⟨g, 0, none⟩), .int .i64 id] w fun e w' => ∃ Y, e = .returned (.tuple #[.agg (List.toArray Y), .bool (getB X.S id)]) ∧ Y = pl (getP X.S id) ∧ Below w.heap.size w w'
  parent : ∀ (w : World) g F X (id : Int), WX X → BSc X 900 → XB w g F X → Rg id → Calls Tryz.prog 43 #[.pointer (some ⟨g, 0, none⟩), .int .i64 id] w fun e w' => e = .returned (.tuple #[.int .i64 (parV (parO X.L id)), .bool (parO X.L id).isSome]) ∧ Below w.heap.size w w'
  all : ∀ (w : World) g F X, WX X → BSc X 900 → XB w g F X → Calls Tryz.prog 15 #[.pointer (some ⟨g, 0, none⟩)] w fun e w' => ∃ v, e = .returned v ∧ LRes w w' (alS X.S) v ∧ Below w.heap.size w w'
  tick : ∀ (w : World) g F X, WX X → BSc X 900 → XB w g F X → Calls Tryz.prog 13 #[.pointer (some ⟨g, 0, none⟩)] w fun e w' => e = .returned (.int .i64 X.S.now) ∧ Below w.heap.size w w'
  next : ∀ (w : World) g F X, WX X → BSc X 900 → XB w g F X → Calls Tryz.prog 14 #[.pointer (some ⟨g, 0, none⟩)] w fun e w' => e = .returned (.int .i64 (X.S.now + 1)) ∧ ChB XB w w' g F (xneS X)
  changed : ∀ (w : World) g F X (since : Int), WX X → BSc X 900 → XB w g F X → Calls Tryz.prog 18 #[.pointer (some ⟨g, 0, none⟩), .int .i64 since] w fun e w' => ∃ v, e = .returned v ∧ LRes w w' (chL X.S since) v ∧ Below w.heap.size w w'
  gone : ∀ (w : World) g F X (since : Int), WX X → BSc X 900 → XB w g F X → Calls Tryz.prog 19 #[.pointer (some ⟨g, 0, none⟩), .int .i64 since] w fun e w' => ∃ v, e = .returned v ∧ LRes w w' (goL X.S since) v ∧ Below w.heap.size w w'
  node : ∀ (w : World) g F X (id : Int), WX X → BSc X 900 → XB w g F X → Rg id → Calls Tryz.prog 16 #[.pointer (some ⟨g, 0, none⟩), .int .i64 id] w fun e w' => ∃ Y, e = .returned (.tuple #[.agg (List.toArray Y), .bool (getB X.S id)]) ∧ Y = cNd (nodeX X id) ∧ Below w.heap.size w w'
def SL (SB : World → Nat → (Nat → Prop) → St → Prop) : Prop := ∀ w g F S, SB w g F S → ∃ p, ∀ u, Below w.heap.size w u → u.cell? ⟨g, 0, none⟩ = some (.pointer (some ⟨p, 0, none⟩)) ∧ g < u.heap.size ∧ ∀ x : Int, Calls Tryz.prog 56 #[.pointer (some ⟨p, 0, none⟩), .int .i64 x] u fun e w' => e = .returned (.bool (liveS S x)) ∧ Below u.heap.size u w'

def LXB (SB : World → Nat → (Nat → Prop) → St → Prop) (FB : World → Nat → (Nat → Prop) → FT → Prop) (w : World) (g : Nat) (F : Nat → Prop) (X : Sc) : Prop := ∃ gs gf Fs Ff, Blk w g 75 #[.pointer (some ⟨gs, 0, none⟩), .pointer (some ⟨gf, 0, none⟩)] ∧ PR SB FB w gs gf Fs Ff (fun b => b = g) X ∧ ∀ b, F b ↔ b = g ∨ Fs b ∨ Ff b
def LPS (SB : World → Nat → (Nat → Prop) → St → Prop) (FB : World → Nat → (Nat → Prop) → FT → Prop) (w0 w : World) (g gs gf : Nat) (F : Nat → Prop) (X : Sc) : Prop := Blk w0 g 75 #[.pointer (some ⟨gs, 0, none⟩), .pointer (some ⟨gf, 0, none⟩)] ∧ PSt SB FB w0 w gs gf (fun b => b = g) F X
section
variable {SB : World → Nat → (Nat → Prop) → St → Prop} {FB : World → Nat → (Nat → Prop) → FT → Prop} {w0 w w' : World} {g gs gf : Nat} {F : Nat → Prop} {X : Sc}
theorem kb_lxb (kS : KB SB) (kF : KB FB) : KB (LXB SB FB) := ⟨fun w w' g F X ⟨gs, gf, Fs, Ff, hb, h, hF⟩ he => by
  have hbs := hb.same (he g ((hF g).2 (Or.inl rfl)))
  exact ⟨gs, gf, Fs, Ff, hbs, ⟨kS.keep_ _ _ _ _ _ h.st (fun b c => he b ((hF b).2 (Or.inr (Or.inl c)))), kF.keep_ _ _ _ _ _ h.fo (fun b c => he b ((hF b).2 (Or.inr (Or.inr c)))), h.apart, h.hs, fun b c => by have c' : b = g := c; rw [c']; exact hbs.lt⟩, hF⟩, fun w g F X ⟨gs, gf, Fs, Ff, hb, h, hF⟩ b c => by
  rcases (hF b).1 c with d | d | d
  · rw [d]; exact hb.lt
  · exact kS.inb _ _ _ _ h.st b d
  · exact kF.inb _ _ _ _ h.fo b d⟩
theorem LXB.open_ (h : LXB SB FB w g F X) : ∃ gs gf, LPS SB FB w w g gs gf F X := by
  obtain ⟨gs, gf, Fs, Ff, hb, h1, hF⟩ := h
  exact ⟨gs, gf, hb, PSt.init h1 hF⟩
theorem LPS.blk (h : LPS SB FB w0 w g gs gf F X) : Blk w g 75 #[.pointer (some ⟨gs, 0, none⟩), .pointer (some ⟨gf, 0, none⟩)] := by
  obtain ⟨hb, Fs, Ff, h1, h2, h3, h4⟩ := h
  exact hb.same (h4 g rfl).2
theorem LPS.done (h : LPS SB FB w0 w g gs gf F X) : ChB (LXB SB FB) w0 w g F X := by
  have hb := h.blk
  obtain ⟨_, Fs, Ff, h1, h2, h3, h4⟩ := h
  refine ⟨fun b => b = g ∨ Fs b ∨ Ff b, ⟨gs, gf, Fs, Ff, hb, h1, fun _ => Iff.rfl⟩, h2, fun b c => ?_⟩
  rcases c with c | c
  · rw [c]; exact Or.inl (h4 g rfl).1
  · exact h3 b c
theorem LPS.keep (kS : KB SB) (kF : KB FB) (h : LPS SB FB w0 w g gs gf F X) (hb : Below w.heap.size w w') : LPS SB FB w0 w' g gs gf F X := ⟨h.1, h.2.keep kS kF hb⟩
theorem LPS.reads (h : LPS SB FB w0 w g gs gf F X) : w.cell? ⟨g, 0, none⟩ = some (.pointer (some ⟨gs, 0, none⟩)) ∧ w.cell? ⟨g, 1, none⟩ = some (.pointer (some ⟨gf, 0, none⟩)) ∧ g < w.heap.size := ⟨h.blk.cell 0, h.blk.cell 1, h.blk.lt⟩
theorem LPS.withS (kS : KB SB) (kF : KB FB) (h : LPS SB FB w0 w g gs gf F X) : ∃ Fs, (∀ b, Fs b → b < w.heap.size) ∧ (∀ b, Fs b → F b ∨ w0.heap.size ≤ b) ∧ ∀ w1, Below w.heap.size w w1 → SB w1 gs Fs X.S ∧ ∀ w' S', Chg SB w1 w' gs Fs S' → LPS SB FB w0 w' g gs gf F ⟨S', X.L⟩ := by
  obtain ⟨hb, h1⟩ := h
  obtain ⟨Fs, a, b, c⟩ := h1.withS kS kF
  exact ⟨Fs, a, b, fun w1 q => ⟨(c w1 q).1, fun w' S' z => ⟨hb, (c w1 q).2 w' S' z⟩⟩⟩
theorem LPS.withF (kS : KB SB) (kF : KB FB) (h : LPS SB FB w0 w g gs gf F X) : ∃ Ff, (∀ b, Ff b → b < w.heap.size) ∧ (∀ b, Ff b → F b ∨ w0.heap.size ≤ b) ∧ ∀ w1, Below w.heap.size w w1 → FB w1 gf Ff X.L ∧ ∀ w' L', ChF FB w1 w' gf Ff L' → LPS SB FB w0 w' g gs gf F ⟨X.S, L'⟩ ∧ ∀ (a : Option Addr) (n : Nat), (n = 0 ∨ ∀ ad, a = some ad → Ff ad.block ∨ w1.heap.size ≤ ad.block) → ∃ Fs, SB w' gs Fs X.S ∧ Aw Fs a n ∧ ∀ w'' S', Chg SB w' w'' gs Fs S' → LPS SB FB w0 w'' g gs gf F ⟨S', L'⟩ := by
  obtain ⟨hb, h1⟩ := h
  obtain ⟨Ff, a, b, c⟩ := h1.withF kS kF
  refine ⟨Ff, a, b, fun w1 q => ⟨(c w1 q).1, fun w' L' z => ⟨⟨hb, ((c w1 q).2 w' L' z).1⟩, fun ad n hn => ?_⟩⟩⟩
  obtain ⟨Fs, k1, k2, k3⟩ := ((c w1 q).2 w' L' z).2 ad n hn
  exact ⟨Fs, k1, k2, fun w'' S' y => ⟨hb, k3 w'' S' y⟩⟩
end
set_option maxHeartbeats 2000000 in
set_option maxRecDepth 100000 in
theorem lent_any {w : World} {g gs : Nat} (c0 : w.cell? ⟨g, 0, none⟩ = some (.pointer (some ⟨gs, 0, none⟩))) :
    Calls Tryz.prog 47 #[.pointer (some ⟨g, 0, none⟩)] w fun e w' => e = .returned (.pointer (some ⟨gs, 0, none⟩)) ∧ w = w' := by
  go_enter Tryz.func47, Tryz.ntmps47
  go_wp2
  go_ret
  exact ⟨rfl, rfl⟩
end Go.Proofs.YtkondkajpmafkaaGreat
