/-
  6 texts in one file, each with its own heading.
-/
import Derived.Test.YthhfcedhbfandaaGreatMS30
import Derived.Test.YthhfcedhbfandaaGreatMS31
import Derived.Test.YthhfcedhbfandaaGreatMS29
import Derived.Test.YthhfcedhbfandaaGreatMS07
/-
  The reference's scene: what its Node of layer 11 answers.
-/
namespace Go.Proofs.YthhfcedhbfandaaGreat
open Go.RowKit

structure NXs (X : List Value) (T : TypeId) : Prop where
  len : X.length = 15
  size : (Tryz.prog.info? T).map (·.size) = some X.length
  sizea : (Tryz.prog.info? T).map (·.size) = some X.toArray.size
  onea : X.toArray.all (·.oneCell') = true
def n0d : Nd := ⟨0, 0, fun _ => 0, false⟩
theorem nd_par (n : Nd) (p : Int) : (cNd n).toArray.setIfInBounds 1 (.int .i64 p) = (cNd { n with par := p }).toArray := rfl
theorem nd_pl (n : Nd) (M : Nat → Int) : splice (cNd n) 2 (lM M) = cNd { n with pl := M } := rfl
structure SCx (SB : World → Nat → (Nat → Prop) → St → Prop) : Prop where
  keep_ : ∀ w w' g F S, SB w g F S → (∀ b, F b → w'.heap[b]? = w.heap[b]?) → SB w' g F S
  inb : ∀ w g F S, SB w g F S → ∀ b, F b → b < w.heap.size
  new : ∀ (w : World) (r : Nat), r ≤ 256 → Calls Tryz.prog 25 #[.int .i64 r] w fun e w' => ∃ g F, e = .returned (.tuple #[.pointer (some ⟨g, 0, none⟩), .int .i64 0]) ∧ SB w' g F (St0 r) ∧ (∀ b, F b → w.heap.size ≤ b) ∧ Below w.heap.size w w'
  bad : ∀ (w : World) (x : Int), (x < 0 ∨ 256 < x) → Calls Tryz.prog 25 #[.int .i64 x] w fun e w' => e = .returned (.tuple #[.pointer none, .int .i64 1]) ∧ Below w.heap.size w w'
  spawn : ∀ (w : World) g F S (P : PT), WS S → Bd S 1000 → SB w g F S → Calls Tryz.prog 62 #[.pointer (some ⟨g, 0, none⟩), .agg (pl P).toArray] w fun e w' => e = .returned (.tuple #[.int .i64 (spV S P), .int .i64 (spE S P)]) ∧ Chg SB w w' g F (spS S P)
  despawn : ∀ (w : World) g F S (id : Int), WS S → Bd S 1000 → SB w g F S → Calls Tryz.prog 64 #[.pointer (some ⟨g, 0, none⟩), .int .i64 id] w fun e w' => e = .returned (.int .i64 (deE S id)) ∧ Chg SB w w' g F (deS S id)
  put : ∀ (w : World) g F S (id : Int) (P : PT) (a : Option Addr) (n cap : Nat) (ks : List Int), WS S → Bd S 1000 → SB w g F S → n ≤ 1000 → Row w a n ks → Aw F a n → Calls Tryz.prog 93 #[.pointer (some ⟨g, 0, none⟩), .int .i64 id, .agg (pl P).toArray, .slice a n cap] w fun e w' => e = .returned (.int .i64 (puE S id P ks)) ∧ Chg SB w w' g F (puS S id P ks)
  cut : ∀ (w : World) g F S (id : Int) (a : Option Addr) (n cap : Nat) (ks : List Int), WS S → Bd S 1000 → SB w g F S → n ≤ 1000 → Row w a n ks → Aw F a n → Calls Tryz.prog 94 #[.pointer (some ⟨g, 0, none⟩), .int .i64 id, .slice a n cap] w fun e w' => e = .returned (.int .i64 (cuE S id ks)) ∧ Chg SB w w' g F (cuS S id ks)
  touch : ∀ (w : World) g F S (a : Option Addr) (n cap : Nat) (xs : List Int), WS S → Bd S 1000 → SB w g F S → n ≤ 1000 → Row w a n xs → Aw F a n → Calls Tryz.prog 65 #[.pointer (some ⟨g, 0, none⟩), .slice a n cap] w fun e w' => e = .returned (.int .i64 (toN S xs : Nat)) ∧ Chg SB w w' g F (toS S xs)
  get : ∀ (w : World) g F S (id : Int), WS S → Bd S 1000 → SB w g F S → Calls Tryz.prog 213 #[.pointer (some ⟨g, 0, none⟩), .int .i64 id] w fun e w' => ∃ Y, e = .returned (.tuple #[.agg (List.toArray Y), .bool (getB S id)]) ∧ Y = pl (getP S id) ∧ Below w.heap.size w w'
  all : ∀ (w : World) g F S, WS S → Bd S 1000 → SB w g F S → Calls Tryz.prog 92 #[.pointer (some ⟨g, 0, none⟩)] w fun e w' => ∃ v, e = .returned v ∧ LRes w w' (alS S) v ∧ Below w.heap.size w w'
  tick : ∀ (w : World) g F S, WS S → Bd S 1000 → SB w g F S → Calls Tryz.prog 43 #[.pointer (some ⟨g, 0, none⟩)] w fun e w' => e = .returned (.int .i64 S.now) ∧ Below w.heap.size w w'
  next : ∀ (w : World) g F S, WS S → Bd S 1000 → SB w g F S → Calls Tryz.prog 79 #[.pointer (some ⟨g, 0, none⟩)] w fun e w' => e = .returned (.int .i64 (S.now + 1)) ∧ Chg SB w w' g F (neS S)
  changed : ∀ (w : World) g F S (since : Int), WS S → Bd S 1000 → SB w g F S → Calls Tryz.prog 193 #[.pointer (some ⟨g, 0, none⟩), .int .i64 since] w fun e w' => ∃ v, e = .returned v ∧ LRes w w' (chL S since) v ∧ Below w.heap.size w w'
  gone : ∀ (w : World) g F S (since : Int), WS S → Bd S 1000 → SB w g F S → Calls Tryz.prog 118 #[.pointer (some ⟨g, 0, none⟩), .int .i64 since] w fun e w' => ∃ v, e = .returned v ∧ LRes w w' (goL S since) v ∧ Below w.heap.size w w'
structure FCx (FB : World → Nat → (Nat → Prop) → FT → Prop) : Prop where
  keep_ : ∀ w w' g F L, FB w g F L → (∀ b, F b → w'.heap[b]? = w.heap[b]?) → FB w' g F L
  inb : ∀ w g F L, FB w g F L → ∀ b, F b → b < w.heap.size
  rng : ∀ w g F L, FB w g F L → ∀ p ∈ L, Rg p.1 ∧ Rg p.2
  new : ∀ w : World, Calls Tryz.prog 26 #[] w fun e w' => ∃ g F, e = .returned (.pointer (some ⟨g, 0, none⟩)) ∧ FB w' g F [] ∧ (∀ b, F b → w.heap.size ≤ b) ∧ Below w.heap.size w w'
  set : ∀ (w : World) g F L (c p : Int), WF L → L.length ≤ 1000 → FB w g F L → Rg c → Rg p → Calls Tryz.prog 63 #[.pointer (some ⟨g, 0, none⟩), .int .i64 c, .int .i64 p] w fun e w' => e = .returned (.int .i64 (fsetE L c p)) ∧ ChF FB w w' g F (setS9 L c p)
  free : ∀ (w : World) g F L (a : Option Addr) (n cap : Nat) (xs : List Int), WF L → L.length ≤ 1000 → FB w g F L → n ≤ 1000 → Row w a n xs → Aw F a n → Rgs xs → Calls Tryz.prog 95 #[.pointer (some ⟨g, 0, none⟩), .slice a n cap] w fun e w' => e = .returned (.int .i64 (frN L xs : Nat)) ∧ ChF FB w w' g F (freeS L xs)
  drop : ∀ (w : World) g F L (x : Int), WF L → L.length ≤ 1000 → FB w g F L → Rg x → Calls Tryz.prog 66 #[.pointer (some ⟨g, 0, none⟩), .int .i64 x] w fun e w' => ∃ v, e = .returned v ∧ LDr F w w' (chF L x) v ∧ ChF FB w w' g F (dropF L x)
  parent : ∀ (w : World) g F L (x : Int), WF L → L.length ≤ 1000 → FB w g F L → Rg x → Calls Tryz.prog 251 #[.pointer (some ⟨g, 0, none⟩), .int .i64 x] w fun e w' => e = .returned (.tuple #[.int .i64 (parV (parO L x)), .bool (parO L x).isSome]) ∧ Below w.heap.size w w'
theorem SCx.kb {SB : World → Nat → (Nat → Prop) → St → Prop} (h : SCx SB) : KB SB := ⟨h.keep_, h.inb⟩
theorem FCx.kb {FB : World → Nat → (Nat → Prop) → FT → Prop} (h : FCx FB) : KB FB := ⟨h.keep_, h.inb⟩
structure XC (XB : World → Nat → (Nat → Prop) → Sc → Prop) : Prop where
  kb : KB XB
  new : ∀ (w : World) (r : Nat), r ≤ 256 → Calls Tryz.prog 7 #[.int .i64 r] w fun e w' => ∃ g F, e = .returned (.tuple #[.pointer (some ⟨g, 0, none⟩), .int .i64 0]) ∧ XB w' g F (Sc0 r) ∧ (∀ b, F b → w.heap.size ≤ b) ∧ Below w.heap.size w w'
  bad : ∀ (w : World) (x : Int), (x < 0 ∨ 256 < x) → Calls Tryz.prog 7 #[.int .i64 x] w fun e w' => e = .returned (.tuple #[.pointer none, .int .i64 1]) ∧ Below w.heap.size w w'
  spawn : ∀ (w : World) g F X (P : PT) (p : Int), WX X → BSc X 900 → XB w g F X → Rg p → Calls Tryz.prog 28 #[.pointer (some ⟨g, 0, none⟩), .agg (pl P).toArray, .int .i64 p] w fun e w' => e = .returned (.tuple #[.int .i64 (xspV X P p), .int .i64 (xspE X P p)]) ∧ ChB XB w w' g F (xspS X P p)
  despawn : ∀ (w : World) g F X (id : Int), WX X → BSc X 900 → XB w g F X → Rg id → Calls Tryz.prog 29 #[.pointer (some ⟨g, 0, none⟩), .int .i64 id] w fun e w' => e = .returned (.int .i64 (deE X.S id)) ∧ ChB XB w w' g F (xdeS X id)
  put : ∀ (w : World) g F X (id : Int) (P : PT) (a : Option Addr) (n cap : Nat) (ks : List Int), WX X → BSc X 900 → XB w g F X → n ≤ 900 → Row w a n ks → Aw F a n → Calls Tryz.prog 47 #[.pointer (some ⟨g, 0, none⟩), .int .i64 id, .agg (pl P).toArray, .slice a n cap] w fun e w' => e = .returned (.int .i64 (puE X.S id P ks)) ∧ ChB XB w w' g F (xpuS X id P ks)
  cut : ∀ (w : World) g F X (id : Int) (a : Option Addr) (n cap : Nat) (ks : List Int), WX X → BSc X 900 → XB w g F X → n ≤ 900 → Row w a n ks → Aw F a n → Calls Tryz.prog 48 #[.pointer (some ⟨g, 0, none⟩), .int .i64 id, .slice a n cap] w fun e w' => e = .returned (.int .i64 (cuE X.S id ks)) ∧ ChB XB w w' g F (xcuS X id ks)
  adopt : ∀ (w : World) g F X (c p : Int), WX X → BSc X 900 → XB w g F X → Rg c → Rg p → Calls Tryz.prog 49 #[.pointer (some ⟨g, 0, none⟩), .int .i64 c, .int .i64 p] w fun e w' => e = .returned (.int .i64 (xadE X c p)) ∧ ChB XB w w' g F (xadS X c p)
  free : ∀ (w : World) g F X (c : Int), WX X → BSc X 900 → XB w g F X → Rg c → Calls Tryz.prog 50 #[.pointer (some ⟨g, 0, none⟩), .int .i64 c] w fun e w' => e = .returned (.int .i64 (xfrE X c)) ∧ ChB XB w w' g F (xfrS X c)
  get : ∀ (w : World) g F X (id : Int), WX X → BSc X 900 → XB w g F X → Calls Tryz.prog 136 #[.pointer (some ⟨g, 0, none⟩), .int .i64 id] w fun e w' => ∃ Y, e = .returned (.tuple #[.agg (List.toArray Y), .bool (getB X.S id)]) ∧ Y = pl (getP X.S id) ∧ Below w.heap.size w w'
  parent : ∀ (w : World) g F X (id : Int), WX X → BSc X 900 → XB w g F X → Rg id → Calls Tryz.prog 196 #[.pointer (some ⟨g, 0, none⟩), .int .i64 id] w fun e w' => e = .returned (.tuple #[.int .i64 (parV (parO X.L id)), .bool (parO X.L id).isSome]) ∧ Below w.heap.size w w'
  all : ∀ (w : World) g F X, WX X → BSc X 900 → XB w g F X → Calls Tryz.prog 44 #[.pointer (some ⟨g, 0, none⟩)] w fun e w' => ∃ v, e = .returned v ∧ LRes w w' (alS X.S) v ∧ Below w.heap.size w w'
  tick : ∀ (w : World) g F X, WX X → BSc X 900 → XB w g F X → Calls Tryz.prog 16 #[.pointer (some ⟨g, 0, none⟩)] w fun e w' => e = .returned (.int .i64 X.S.now) ∧ Below w.heap.size w w'
  next : ∀ (w : World) g F X, WX X → BSc X 900 → XB w g F X → Calls Tryz.prog 33 #[.pointer (some ⟨g, 0, none⟩)] w fun e w' => e = .returned (.int .i64 (X.S.now + 1)) ∧ ChB XB w w' g F (xneS X)
  changed : ∀ (w : World) g F X (since : Int), WX X → BSc X 900 → XB w g F X → Calls Tryz.prog 127 #[.pointer (some ⟨g, 0, none⟩), .int .i64 since] w fun e w' => ∃ v, e = .returned v ∧ LRes w w' (chL X.S since) v ∧ Below w.heap.size w w'
  gone : ∀ (w : World) g F X (since : Int), WX X → BSc X 900 → XB w g F X → Calls Tryz.prog 68 #[.pointer (some ⟨g, 0, none⟩), .int .i64 since] w fun e w' => ∃ v, e = .returned v ∧ LRes w w' (goL X.S since) v ∧ Below w.heap.size w w'
  node : ∀ (w : World) g F X (id : Int), WX X → BSc X 900 → XB w g F X → Rg id → Calls Tryz.prog 128 #[.pointer (some ⟨g, 0, none⟩), .int .i64 id] w fun e w' => ∃ Y, e = .returned (.tuple #[.agg (List.toArray Y), .bool (getB X.S id)]) ∧ Y = cNd (nodeX X id) ∧ Below w.heap.size w w'
def SL (SB : World → Nat → (Nat → Prop) → St → Prop) : Prop := ∀ w g F S, SB w g F S → ∃ p, ∀ u, Below w.heap.size w u → u.cell? ⟨g, 0, none⟩ = some (.pointer (some ⟨p, 0, none⟩)) ∧ g < u.heap.size ∧ ∀ x : Int, Calls Tryz.prog 61 #[.pointer (some ⟨p, 0, none⟩), .int .i64 x] u fun e w' => e = .returned (.bool (liveS S x)) ∧ Below u.heap.size u w'

def LXB (SB : World → Nat → (Nat → Prop) → St → Prop) (FB : World → Nat → (Nat → Prop) → FT → Prop) (w : World) (g : Nat) (F : Nat → Prop) (X : Sc) : Prop := ∃ gs gf Fs Ff, Blk w g 100 #[.pointer (some ⟨gs, 0, none⟩), .pointer (some ⟨gf, 0, none⟩)] ∧ PR SB FB w gs gf Fs Ff (fun b => b = g) X ∧ ∀ b, F b ↔ b = g ∨ Fs b ∨ Ff b
def LPS (SB : World → Nat → (Nat → Prop) → St → Prop) (FB : World → Nat → (Nat → Prop) → FT → Prop) (w0 w : World) (g gs gf : Nat) (F : Nat → Prop) (X : Sc) : Prop := Blk w0 g 100 #[.pointer (some ⟨gs, 0, none⟩), .pointer (some ⟨gf, 0, none⟩)] ∧ PSt SB FB w0 w gs gf (fun b => b = g) F X
section
variable {SB : World → Nat → (Nat → Prop) → St → Prop} {FB : World → Nat → (Nat → Prop) → FT → Prop} {w0 w w' : World} {g gs gf : Nat} {F : Nat → Prop} {X : Sc}
theorem kb_lxb (kS : KB SB) (kF : KB FB) : KB (LXB SB FB) := ⟨fun w w' g F X ⟨gs, gf, Fs, Ff, hb, h, hF⟩ he => by
  have hbs := hb.same (he g ((hF g).2 (Or.inl rfl)))
  exact ⟨gs, gf, Fs, Ff, hbs, ⟨kS.keep_ _ _ _ _ _ h.st (fun b c => he b ((hF b).2 (Or.inr (Or.inl c)))), kF.keep_ _ _ _ _ _ h.fo (fun b c => he b ((hF b).2 (Or.inr (Or.inr c)))), h.apart, h.hs, fun b c => by have c' : b = g := c; rw [c']; exact hbs.lt⟩, hF⟩, fun w g F X ⟨gs, gf, Fs, Ff, hb, h, hF⟩ b c => by
  rcases (hF b).1 c with d | d | d
  · rw [d]; exact hb.lt
  · exact kS.inb _ _ _ _ h.st b d
  · exact kF.inb _ _ _ _ h.fo b d⟩
theorem LXB.open_ (h : LXB SB FB w g F X) : ∃ gs gf, LPS SB FB w w g gs gf F X := by
  obtain ⟨gs, gf, Fs, Ff, hb, h1, hF⟩ := h
  exact ⟨gs, gf, hb, PSt.init h1 hF⟩
theorem LPS.blk (h : LPS SB FB w0 w g gs gf F X) : Blk w g 100 #[.pointer (some ⟨gs, 0, none⟩), .pointer (some ⟨gf, 0, none⟩)] := by
  obtain ⟨hb, Fs, Ff, h1, h2, h3, h4⟩ := h
  exact hb.same (h4 g rfl).2
theorem LPS.done (h : LPS SB FB w0 w g gs gf F X) : ChB (LXB SB FB) w0 w g F X := by
  have hb := h.blk
  obtain ⟨_, Fs, Ff, h1, h2, h3, h4⟩ := h
  refine ⟨fun b => b = g ∨ Fs b ∨ Ff b, ⟨gs, gf, Fs, Ff, hb, h1, fun _ => Iff.rfl⟩, h2, fun b c => ?_⟩
  rcases c with c | c
  · rw [c]; exact Or.inl (h4 g rfl).1
  · exact h3 b c
theorem LPS.keep (kS : KB SB) (kF : KB FB) (h : LPS SB FB w0 w g gs gf F X) (hb : Below w.heap.size w w') : LPS SB FB w0 w' g gs gf F X := ⟨h.1, h.2.keep kS kF hb⟩
theorem LPS.reads (h : LPS SB FB w0 w g gs gf F X) : w.cell? ⟨g, 0, none⟩ = some (.pointer (some ⟨gs, 0, none⟩)) ∧ w.cell? ⟨g, 1, none⟩ = some (.pointer (some ⟨gf, 0, none⟩)) ∧ g < w.heap.size := ⟨h.blk.cell 0, h.blk.cell 1, h.blk.lt⟩
theorem LPS.withS (kS : KB SB) (kF : KB FB) (h : LPS SB FB w0 w g gs gf F X) : ∃ Fs, (∀ b, Fs b → b < w.heap.size) ∧ (∀ b, Fs b → F b ∨ w0.heap.size ≤ b) ∧ ∀ w1, Below w.heap.size w w1 → SB w1 gs Fs X.S ∧ ∀ w' S', Chg SB w1 w' gs Fs S' → LPS SB FB w0 w' g gs gf F ⟨S', X.L⟩ := by
  obtain ⟨hb, h1⟩ := h
  obtain ⟨Fs, a, b, c⟩ := h1.withS kS kF
  exact ⟨Fs, a, b, fun w1 q => ⟨(c w1 q).1, fun w' S' z => ⟨hb, (c w1 q).2 w' S' z⟩⟩⟩
theorem LPS.withF (kS : KB SB) (kF : KB FB) (h : LPS SB FB w0 w g gs gf F X) : ∃ Ff, (∀ b, Ff b → b < w.heap.size) ∧ (∀ b, Ff b → F b ∨ w0.heap.size ≤ b) ∧ ∀ w1, Below w.heap.size w w1 → FB w1 gf Ff X.L ∧ ∀ w' L', ChF FB w1 w' gf Ff L' → LPS SB FB w0 w' g gs gf F ⟨X.S, L'⟩ ∧ ∀ (a : Option Addr) (n : Nat), (n = 0 ∨ ∀ ad, a = some ad → Ff ad.block ∨ w1.heap.size ≤ ad.block) → ∃ Fs, SB w' gs Fs X.S ∧ Aw Fs a n ∧ ∀ w'' S', Chg SB w' w'' gs Fs S' → LPS SB FB w0 w'' g gs gf F ⟨S', L'⟩ := by
  obtain ⟨hb, h1⟩ := h
  obtain ⟨Ff, a, b, c⟩ := h1.withF kS kF
  refine ⟨Ff, a, b, fun w1 q => ⟨(c w1 q).1, fun w' L' z => ⟨⟨hb, ((c w1 q).2 w' L' z).1⟩, fun ad n hn => ?_⟩⟩⟩
  obtain ⟨Fs, k1, k2, k3⟩ := ((c w1 q).2 w' L' z).2 ad n hn
  exact ⟨Fs, k1, k2, fun w'' S' y => ⟨hb, k3 w'' S' y⟩⟩
end
set_option maxHeartbeats 2000000 in
set_option maxRecDepth 100000 in
theorem lent_any {w : World} {g gs : Nat} (c0 : w.cell? ⟨g, 0, none⟩ = some (.pointer (some ⟨gs, 0, none⟩))) :
    Calls Tryz.prog 42 #[.pointer (some ⟨g, 0, none⟩)] w fun e w' => e = .returned (.pointer (some ⟨gs, 0, none⟩)) ∧ w = w' := by
  go_enter Tryz.func42, Tryz.ntmps42
  go_wp2
  go_ret
  exact ⟨rfl, rfl⟩
structure A11 where
  k : Int
  one : Int
  two : Int
  P : PT
  a : Option Addr
  n : Nat
  cap : Nat
  ks : List Int
def c11 (x : A11) : List Value := .int .u8 x.k :: .int .u8 x.one :: .int .u8 x.two :: (pl x.P ++ [.slice x.a x.n x.cap])
theorem c11_len (x : A11) : (c11 x).length = 28 := rfl
theorem c11_size (x : A11) : (Tryz.prog.info? 55).map (·.size) = some (c11 x).length := by rw [c11_len]; kernel_rfl
def ok11 (w : World) (x : A11) : Prop := 0 ≤ x.k ∧ x.k ≤ 255 ∧ 0 ≤ x.one ∧ x.one ≤ 255 ∧ 0 ≤ x.two ∧ x.two ≤ 255 ∧ Row w x.a x.n x.ks
def pickV (zs : List Int) (v : Int) : Int := if 250 ≤ v ∨ zs.length = 0 then v - 251 else zs.getD (v % zs.length).toNat 0
def p11 (X : Sc) (v : Int) : Int := pickV (alS X.S) v
def doX (X : Sc) (x : A11) : Sc :=
  if x.k % 11 = 3 then xdeS X (p11 X x.one) else if x.k % 11 = 4 ∨ x.k % 11 = 5 then xpuS X (p11 X x.one) x.P x.ks else if x.k % 11 = 6 then xcuS X (p11 X x.one) x.ks
  else if x.k % 11 = 7 ∨ x.k % 11 = 8 then xadS X (p11 X x.one) (p11 X x.two) else if x.k % 11 = 9 then xfrS X (p11 X x.one) else if x.k % 11 = 10 then xneS X else xspS X x.P (p11 X x.two)
def doXE (X : Sc) (x : A11) : Int :=
  if x.k % 11 = 3 then deE X.S (p11 X x.one) else if x.k % 11 = 4 ∨ x.k % 11 = 5 then puE X.S (p11 X x.one) x.P x.ks else if x.k % 11 = 6 then cuE X.S (p11 X x.one) x.ks
  else if x.k % 11 = 7 ∨ x.k % 11 = 8 then xadE X (p11 X x.one) (p11 X x.two) else if x.k % 11 = 9 then xfrE X (p11 X x.one) else if x.k % 11 = 10 then 0 else xspE X x.P (p11 X x.two)
def doXV (X : Sc) (x : A11) : Int := if x.k % 11 = 10 then X.S.now + 1 else if x.k % 11 < 3 then xspV X x.P (p11 X x.two) else 0
theorem BSc.does {X : Sc} {m : Nat} (h : BSc X m) (hw : WX X) (x : A11) : BSc (doX X x) (m + 2) := by
  unfold doX
  split
  · exact h.de hw _
  · split
    · exact h.pu _ _ _
    · split
      · exact h.cu _ _
      · split
        · exact h.ad _ _
        · split
          · exact h.fr _
          · split
            · exact h.ne
            · exact h.sp _ _
theorem ToldX.does {I : Int → PT → Prop} {Io : Int → Option Int} {since : Int} {X : Sc} (h : ToldX I Io since X) (x : A11) : ToldX I Io since (doX X x) := by
  unfold doX
  split
  · exact h.de _
  · split
    · exact h.pu _ _ _
    · split
      · exact h.cu _ _
      · split
        · exact h.ad _ _
        · split
          · exact h.fr _
          · split
            · exact h.ne
            · exact h.sp _ _
theorem p11_rg {X : Sc} (h : WX X) {v : Int} (h0 : 0 ≤ v) (h1 : v ≤ 255) : Rg (p11 X v) := by
  unfold p11 pickV
  split
  · unfold Rg; omega
  · rename_i c
    have hl : (alS X.S).length ≠ 0 := fun e => c (Or.inr e)
    have hi : (v % ((alS X.S).length : Int)).toNat < (alS X.S).length := by
      have h1 := Int.emod_nonneg v (show ((alS X.S).length : Int) ≠ 0 by omega)
      have h2 := Int.emod_lt_of_pos v (show (0 : Int) < ((alS X.S).length : Int) by omega)
      omega
    have hm : (alS X.S).getD (v % ((alS X.S).length : Int)).toNat 0 ∈ alS X.S := getD_mem hi
    have h2 := live_iff.1 ((mem_all h.ws).1 hm)
    unfold Rg
    omega
set_option maxHeartbeats 2000000 in
set_option maxRecDepth 100000 in
theorem pick11_any (a : Option Addr) (n cap : Nat) (zs : List Int) (v : Int) (w : World) (h0 : 0 ≤ v) (h1 : v ≤ 255) (hn : n ≤ 1000) (row : Row w a n zs) :
    Calls Tryz.prog 46 #[.slice a n cap, .int .u8 v] w fun e w' => e = .returned (.int .i64 (pickV zs v)) ∧ w = w' := by
  have hl : zs.length = n := row.1
  by_cases h2 : 250 ≤ v
  · have e : Hid (pickV zs v = v - 251) := Lib.hid (by unfold pickV; rw [if_pos (Or.inl h2)])
    have hw : IntKind.i64.wrap (v - 251) = v - 251 := IntWalk.i64_in _ (by omega)
    rw [e.out]
    clear row hl
    go_enter Tryz.func46, Tryz.ntmps46
    go_wp2
    go_ret
    exact ⟨rfl, rfl⟩
  · by_cases hn0 : n = 0
    · have e : Hid (pickV zs v = v - 251) := Lib.hid (by unfold pickV; rw [if_pos (Or.inr (by rw [hl, hn0]))])
      have hw : IntKind.i64.wrap (v - 251) = v - 251 := IntWalk.i64_in _ (by omega)
      rw [e.out]
      subst hn0
      clear row hl
      go_enter Tryz.func46, Tryz.ntmps46
      go_wp2
      go_ret
      exact ⟨rfl, rfl⟩
    · obtain ⟨t1, t2⟩ : v.tmod (n : Int) = ((v % (n : Int)).toNat : Int) ∧ (v % (n : Int)).toNat < n := by
        have h3 := Int.emod_nonneg v (show (n : Int) ≠ 0 by omega)
        have h4 := Int.emod_lt_of_pos v (show (0 : Int) < (n : Int) by omega)
        rw [Int.tmod_eq_emod_of_nonneg h0]
        omega
      obtain ⟨r, hr⟩ : ∃ r, r = (v % (n : Int)).toNat := ⟨_, rfl⟩
      rw [← hr] at t1 t2
      obtain ⟨b, off, y, rfl, hy, cy⟩ := row_at row t2
      have e : Hid (pickV zs v = y) := Lib.hid (by
        unfold pickV
        rw [if_neg (fun c => c.elim h2 (fun c => hn0 (by rw [← hl]; exact c))), hl, ← hr]
        simp [List.getD, hy])
      rw [e.out]
      have hb := World.block_lt_of_cell? _ _ cy
      have n0 : ¬ (n : Int) = 0 := by omega
      have n1 : ((n : Int) == 0) = false := by simpa using hn0
      have r0 : (0 : Int) ≤ (r : Int) := by omega
      have r1 : (r : Int) < (n : Int) := by omega
      clear hr hy hl row
      go_enter Tryz.func46, Tryz.ntmps46
      go_wp2
      go_ret
      exact ⟨rfl, rfl⟩

theorem ok11.keep {w w' : World} {x : A11} (h : ok11 w x) (hb : Below w.heap.size w w') : ok11 w' x := ⟨h.1, h.2.1, h.2.2.1, h.2.2.2.1, h.2.2.2.2.1, h.2.2.2.2.2.1, row_keep h.2.2.2.2.2.2 hb⟩
def GoU (S : St) : Prop := GoN S ∧ (S.go.map Prod.fst).Nodup ∧ ∀ q ∈ S.go, Rg q.1
theorem GoU.same {S S' : St} (h : GoU S) (hg : GoN S') (ho : S'.go = S.go) : GoU S' := ⟨hg, ho ▸ h.2.1, ho ▸ h.2.2⟩
theorem GoU.zero (r : Nat) : GoU (St0 r) := ⟨GoN.zero r, List.nodup_nil, fun q hq => by cases hq⟩
theorem to_go13 : ∀ (l : List Int) (S : St), (toS S l).go = S.go
  | [], _ => rfl
  | x :: l, S => (to_go13 l (to1 S x)).trans (by unfold to1; split <;> rfl)
theorem GoU.de {S : St} (hW : WS S) (h : GoU S) (id : Int) : GoU (deS S id) := by
  refine ⟨h.1.de hW id, ?_⟩
  unfold deS
  cases c : atS S id with
  | none => exact h.2
  | some i =>
    have hl : liveS S id = true := by
      rw [live_in hW]
      unfold getB
      rw [c]; rfl
    have h2 := live_iff.1 hl
    show ((S.go ++ [(id, S.now)]).map Prod.fst).Nodup ∧ ∀ q ∈ S.go ++ [(id, S.now)], Rg q.1
    refine ⟨?_, fun q hq => (List.mem_append.1 hq).elim (h.2.2 q) (fun m => by
      have e : q = (id, S.now) := by simpa using m
      rw [e]
      exact live_rg13 hl)⟩
    rw [List.map_append]
    refine List.nodup_append.2 ⟨h.2.1, List.nodup_cons.2 ⟨List.not_mem_nil, List.nodup_nil⟩, fun a ha b hb e => ?_⟩
    obtain ⟨q, hq, rfl⟩ := List.mem_map.1 ha
    have hb' : b = id := by simpa using hb
    have h3 := h.1 q hq
    rw [e, hb'] at h3
    omega
theorem GoU.does {X : Sc} (hW : WX X) (h : GoU X.S) (x : A11) : GoU (doX X x).S := by
  unfold doX
  split
  · unfold xdeS
    split
    · have h1 := h.de hW.ws (p11 X x.one)
      exact h1.same (GoN.to _ h1.1) (to_go13 _ _)
    · exact h
  · split
    · unfold xpuS puS
      split
      · exact h.same (h.1.same (lay_go _ _ _).1 (lay_go _ _ _).2) (lay_go _ _ _).2
      · exact h
    · split
      · unfold xcuS cuS
        split
        · exact h.same (h.1.same (lay_go _ _ _).1 (lay_go _ _ _).2) (lay_go _ _ _).2
        · exact h
      · split
        · unfold xadS
          split
          · exact h.same (GoN.to _ h.1) (to_go13 _ _)
          · exact h
        · split
          · unfold xfrS
            split
            · show GoU (if (parO X.L (p11 X x.one)).isSome = true then toS X.S [p11 X x.one] else X.S)
              split
              · exact h.same (GoN.to _ h.1) (to_go13 _ _)
              · exact h
            · exact h
          · split
            · exact h
            · unfold xspS
              split
              · exact h
              · exact h.same (h.1.sp _) (by unfold spS; split <;> rfl)
theorem go_nod {S : St} (h : GoU S) (since : Int) : (goL S since).Nodup := by
  unfold goL
  have hp := sort_perm ((S.go.filter fun x => decide (since < x.2)).map Prod.fst) []
  rw [List.append_nil] at hp
  exact hp.nodup_iff.2 (h.2.1.sublist (List.Sublist.map _ List.filter_sublist))
theorem go_rgs {S : St} (h : GoU S) (since : Int) : Rgs (goL S since) := fun x hx => by
  obtain ⟨t, ht, _⟩ := mem_go.1 hx
  exact h.2.2 _ ht
def NowOk (S : St) : Prop := (∀ q ∈ S.ch, q.2 ≤ S.now) ∧ ∀ q ∈ S.go, q.2 ≤ S.now
theorem mark_now {ch : List (Int × Int)} {id now : Int} (h : ∀ q ∈ ch, q.2 ≤ now) : ∀ q ∈ markL ch id now, q.2 ≤ now := fun q hq => by
  unfold markL at hq
  rcases List.mem_append.1 hq with m | m
  · exact h q (List.mem_filter.1 m).1
  · have e : q = (id, now) := by simpa using m
    rw [e]
    exact Int.le_refl _
theorem NowOk.zero (r : Nat) : NowOk (St0 r) := ⟨fun q hq => (by cases hq), fun q hq => (by cases hq)⟩
theorem NowOk.to1 {S : St} (h : NowOk S) (x : Int) : NowOk (to1 S x) := by
  unfold Proofs.YthhfcedhbfandaaGreat.to1
  split
  · exact ⟨mark_now h.1, h.2⟩
  · exact h
theorem NowOk.to : ∀ (l : List Int) {S : St}, NowOk S → NowOk (toS S l)
  | [], _, h => h
  | x :: l, _, h => NowOk.to l (h.to1 x)
theorem NowOk.sp {S : St} (h : NowOk S) (P : PT) : NowOk (spS S P) := by
  unfold spS
  split
  · exact ⟨mark_now h.1, h.2⟩
  · exact h
theorem NowOk.lay {S : St} (h : NowOk S) (id : Int) (P : PT) : NowOk (layS S id P) := by
  unfold layS
  split
  · exact ⟨mark_now h.1, h.2⟩
  · exact h
theorem NowOk.de {S : St} (h : NowOk S) (id : Int) : NowOk (deS S id) := by
  unfold deS
  split
  · refine ⟨h.1, fun q hq => ?_⟩
    · rcases List.mem_append.1 hq with m | m
      · exact h.2 q m
      · have e : q = (id, S.now) := by simpa using m
        rw [e]
        exact Int.le_refl _
  · exact h
theorem NowOk.ne {S : St} (h : NowOk S) : NowOk (neS S) := ⟨fun q hq => by have := h.1 q hq; show q.2 ≤ S.now + 1; omega, fun q hq => by have := h.2 q hq; show q.2 ≤ S.now + 1; omega⟩
theorem NowOk.does {X : Sc} (h : NowOk X.S) (x : A11) : NowOk (doX X x).S := by
  unfold doX
  split
  · unfold xdeS
    split
    · exact NowOk.to _ (h.de _)
    · exact h
  · split
    · unfold xpuS puS
      split
      · exact h.lay _ _
      · exact h
    · split
      · unfold xcuS cuS
        split
        · exact h.lay _ _
        · exact h
      · split
        · unfold xadS
          split
          · exact NowOk.to _ h
          · exact h
        · split
          · unfold xfrS
            split
            · show NowOk (if (parO X.L (p11 X x.one)).isSome = true then toS X.S [p11 X x.one] else X.S)
              split
              · exact NowOk.to _ h
              · exact h
            · exact h
          · split
            · exact h.ne
            · unfold xspS
              split
              · exact h
              · exact h.sp _
theorem lay_room (S : St) (id : Int) (P : PT) : (layS S id P).room = S.room := by unfold layS; split <;> rfl
theorem to_room : ∀ (l : List Int) (S : St), (toS S l).room = S.room
  | [], _ => rfl
  | x :: l, S => (to_room l (to1 S x)).trans (by unfold to1; split <;> rfl)
theorem de_room (S : St) (id : Int) : (deS S id).room = S.room := by unfold deS; split <;> rfl
theorem room_does (X : Sc) (x : A11) : (doX X x).S.room = X.S.room := by
  unfold doX
  split
  · unfold xdeS
    split
    · exact (to_room _ _).trans (de_room _ _)
    · rfl
  · split
    · unfold xpuS puS
      split
      · exact lay_room _ _ _
      · rfl
    · split
      · unfold xcuS cuS
        split
        · exact lay_room _ _ _
        · rfl
      · split
        · unfold xadS
          split
          · exact to_room _ _
          · rfl
        · split
          · unfold xfrS
            split
            · show (if (parO X.L (p11 X x.one)).isSome = true then toS X.S [p11 X x.one] else X.S).room = _
              split
              · exact to_room _ _
              · rfl
            · rfl
          · split
            · rfl
            · unfold xspS
              split
              · rfl
              · show (spS X.S x.P).room = _
                unfold spS
                split <;> rfl
theorem live_low {S : St} (h : WS S) {x : Int} (hx : liveS S x = true) : (x % 256).toNat < S.room := by
  obtain ⟨i, hi, hr, hL, e⟩ := live_spec hx
  rw [hr]
  exact (h.ok.2.2 i hL).1

structure XS where
  D : FD
  R : List Rc
  S : SlR
  since : Int
  n : Nat
def XS0 : XS := ⟨FD0, [], [], 0, 0⟩
def XSn (n : Nat) : XS := ⟨FD0, [], [], 0, n⟩
def namesX (X : Sc) (E : XS) : List Int := sortI (touchN (takeD X E.D E.since) ++ goL X.S E.since)
def Synced (X : Sc) (E : XS) (zs : List Int) (e : Int) (E' : XS) : Prop :=
  (runE (takeD X E.D E.since) ≠ 0 ∧ zs = [] ∧ e = runE (takeD X E.D E.since) ∧ E' = XSn (E.n + (namesX X E).length)) ∨
  (runE (takeD X E.D E.since) = 0 ∧ firstE (eX X (takeD X E.D E.since).L) (namesX X E) ≠ 0 ∧ zs = [] ∧ e = firstE (eX X (takeD X E.D E.since).L) (namesX X E) ∧ E' = XSn (E.n + (namesX X E).length)) ∨
  (runE (takeD X E.D E.since) = 0 ∧ firstE (eX X (takeD X E.D E.since).L) (namesX X E) = 0 ∧ zs = namesX X E ∧ e = 0 ∧ ∃ R', Wk (oX X (takeD X E.D E.since).L) E.R (namesX X E) R' ∧ E' = ⟨runD (takeD X E.D E.since), R', slotsD (R'.map Rc.id) E.S, X.S.now, E.n + (namesX X E).length⟩)
theorem Synced.one {X : Sc} {E E1 E2 : XS} {z1 z2 : List Int} {e1 e2 : Int} (h1 : Synced X E z1 e1 E1) (h2 : Synced X E z2 e2 E2) : z1 = z2 ∧ e1 = e2 ∧ E1 = E2 := by
  rcases h1 with ⟨a, b, c, d⟩ | ⟨a, a2, b, c, d⟩ | ⟨a, a2, b, c, R1, d, d2⟩ <;> rcases h2 with ⟨a', b', c', d'⟩ | ⟨a', a2', b', c', d'⟩ | ⟨a', a2', b', c', R2, d', d2'⟩
  · exact ⟨b.trans b'.symm, c.trans c'.symm, d.trans d'.symm⟩
  · exact absurd a' a
  · exact absurd a' a
  · exact absurd a a'
  · exact ⟨b.trans b'.symm, c.trans c'.symm, d.trans d'.symm⟩
  · exact absurd a2' a2
  · exact absurd a a'
  · exact absurd a2 a2'
  · have e := d.one d'
    subst e
    exact ⟨b.trans b'.symm, c.trans c'.symm, d2.trans d2'.symm⟩
structure SX3 (X : Sc) : Prop where
  first : ToldX (fun _ _ => False) (fun _ => none) 0 X
  go : GoU X.S
  marks : NowOk X.S
theorem SX3.wx {X : Sc} (h : SX3 X) : WX X := h.first.wx
theorem SX3.zero {r : Nat} (h : r ≤ 256) : SX3 (Sc0 r) := ⟨ToldX.first h, GoU.zero r, NowOk.zero r⟩
theorem SX3.does {X : Sc} (h : SX3 X) (x : A11) : SX3 (doX X x) := ⟨h.first.does x, h.go.does h.wx x, h.marks.does x⟩
theorem SX3.ne {X : Sc} (h : SX3 X) : SX3 (xneS X) := ⟨h.first.ne, h.go, h.marks.ne⟩
def EOk (X : Sc) (E : XS) : Prop := (∃ n, E = XSn n) ∨
  ∃ X0, WX X0 ∧ NodesX X0 E.D.L ∧ GoodX X0 E.D E.R ∧ ToldX (fun x P => inS X0.S x P) (parO X0.L) E.since X ∧ SI E.S ∧ ∀ y, 0 ≤ slotD E.S y ↔ y ∈ E.R.map Rc.id
section
variable {X : Sc} {E E' : XS} {zs : List Int} {e : Int}
theorem EOk.does (h : EOk X E) (x : A11) : EOk (doX X x) E := h.imp id (fun ⟨X0, a, b, c, d, r⟩ => ⟨X0, a, b, c, d.does x, r⟩)
theorem EOk.know (hX : SX3 X) (h : EOk X E) : KnowX X E.D E.since := by
  rcases h with ⟨n, rfl⟩ | ⟨X0, a, b, c, d, r⟩
  · exact know_first hX.first hX.go.1
  · exact know_next c.dok b a d hX.go.1
theorem EOk.si (h : EOk X E) : SI E.S := by
  rcases h with ⟨n, rfl⟩ | ⟨X0, a, b, c, d, r⟩
  · exact SI.nil
  · exact r.1
theorem EOk.has (h : EOk X E) : ∀ y, 0 ≤ slotD E.S y ↔ y ∈ E.R.map Rc.id := by
  rcases h with ⟨n, rfl⟩ | ⟨X0, a, b, c, d, r⟩
  · intro y
    exact ⟨fun q => absurd q (by show ¬ (0 : Int) ≤ -1; omega), fun q => (by cases q)⟩
  · exact r.2
theorem EOk.rise (h : EOk X E) : Rise E.R := by
  rcases h with ⟨n, rfl⟩ | ⟨X0, a, b, c, d, r⟩
  · exact List.Pairwise.nil
  · exact c.rise
theorem EOk.take (hX : SX3 X) (h : EOk X E) : DOk (takeD X E.D E.since) := take_ok (h.know hX) (fun _ => node_rg hX.wx)
theorem EOk.nodes (hX : SX3 X) (h : EOk X E) : NodesX X (takeD X E.D E.since).L := by
  rw [(take_is hX.wx (h.know hX) (fun _ => node_ok hX.wx)).1]
  exact took_nodes hX.wx (h.know hX)
theorem touch_live (hX : SX3 X) (h : EOk X E) {x : Int} (hx : x ∈ touchN (takeD X E.D E.since)) : liveS X.S x = true := by
  have h1 := touch_node (h.take hX).wf hx
  rw [h.nodes hX x] at h1
  by_cases c : liveS X.S x = true
  · exact c
  · rw [if_neg c] at h1; cases h1
theorem names_nod (hX : SX3 X) (h : EOk X E) : (touchN (takeD X E.D E.since) ++ goL X.S E.since).Nodup :=
  List.nodup_append.2 ⟨undL_nod (h.take hX).wf _, go_nod hX.go _, fun a ha b hb e => by
    have h1 := touch_live hX h ha
    rw [e, hX.go.1.dead hb] at h1
    cases h1⟩
theorem sort_up {l : List Int} (h : l.Nodup) : (sortI l).Pairwise (· < ·) := by
  have hp := sort_perm l []
  rw [List.append_nil] at hp
  have hn : (sortI l).Nodup := hp.nodup_iff.2 h
  have hs : (sortI l).Pairwise (· ≤ ·) := sort_sorted l [] List.Pairwise.nil
  exact hs.imp₂ (fun {a b} h1 (h2 : a ≠ b) => by omega) hn
theorem namesx_up (hX : SX3 X) (h : EOk X E) : (namesX X E).Pairwise (· < ·) := sort_up (names_nod hX h)
theorem mem_namesX {x : Int} : x ∈ namesX X E ↔ x ∈ touchN (takeD X E.D E.since) ∨ x ∈ goL X.S E.since := by
  unfold namesX
  rw [mem_sort, List.mem_append]
theorem namesx_rg (hX : SX3 X) (h : EOk X E) : Rgs (namesX X E) := fun x hx => by
  rcases mem_namesX.1 hx with m | m
  · exact live_rg13 (touch_live hX h m)
  · exact go_rgs hX.go _ x m
end
theorem zeros_row {c : Array Value} (hc : c.toList = (List.range 513).map (poolF 0 z0 n0)) (R : Int) (t : TypeId) (w : World) : (w.alloc (.cells (c.setIfInBounds 0 (.int .i64 R)) t)).rowIs w.heap.size t 513 (poolF R z0 n0) := by
  have hs : c.size = 513 := by rw [← Array.length_toList, hc]; simp
  have h := World.rowIs_alloc w (c.setIfInBounds 0 (.int .i64 R)) t (poolF R z0 n0) (fun i hi => by
    have hi' : i < 513 := by simpa [hs] using hi
    by_cases e : i = 0
    · subst e
      rw [Array.getElem?_setIfInBounds_self_of_lt (by omega)]
      rfl
    · rw [Array.getElem?_setIfInBounds_ne (by omega), ← Array.getElem?_toList, hc]
      simp only [List.getElem?_map, List.getElem?_range hi', Option.map_some]
      unfold poolF
      rw [if_neg e, if_neg e])
  rwa [Array.size_setIfInBounds, hs] at h

set_option maxHeartbeats 400000 in
theorem qnew (R : Nat) (w : World) (hR : R ≤ 256) :
    Calls Tryz.prog 59 #[.int .i64 R] w fun e w' => ∃ g, e = .returned (.tuple #[.pointer (some ⟨g, 0, none⟩), .int .i64 0]) ∧ w.heap.size ≤ g ∧ w'.rowIs g 189 513 (poolF R z0 n0) ∧ Below w.heap.size w w' := by
  have h0 : ¬ ((R : Int) < 0) := by omega
  have h1 : ¬ ((256 : Int) < (R : Int)) := by omega
  have zv := zv_pool
  have zn := zc_ne
  have zs := zc_size
  go_enter Tryz.func59, Tryz.ntmps59
  go_wp2
  go_ret2
  exact ⟨w.heap.size, rfl, Nat.le_refl _, zeros_row zc_list _ _ _, alloc_below _ _⟩
set_option maxHeartbeats 400000 in
theorem qbad (x : Int) (w : World) (hx : x < 0 ∨ 256 < x) :
    Calls Tryz.prog 59 #[.int .i64 x] w fun e w' => e = .returned (.tuple #[.pointer none, .int .i64 1]) ∧ Below w.heap.size w w' := by
  rcases hx with h | h
  all_goals
    go_enter Tryz.func59, Tryz.ntmps59
    go_wp2
    go_ret2
    exact ⟨rfl, Below.refl _ _⟩

set_option maxHeartbeats 400000 in
theorem qright_any (x : Int) (w : World) :
    Calls Tryz.prog 107 #[.int .i64 x] w fun e w' => e = .returned (.bool (idOk x)) ∧ w = w' := by
  unfold idOk
  by_cases h1 : 0 ≤ x
  · have g1 : decide (0 ≤ x) = true := by simpa using h1
    go_enter Tryz.func107, Tryz.ntmps107
    go_wp2
    go_ret
    exact ⟨by rw [g1]; rfl, rfl⟩
  · have g1 : decide (0 ≤ x) = false := by simpa using h1
    go_enter Tryz.func107, Tryz.ntmps107
    go_wp2
    go_ret
    exact ⟨rfl, rfl⟩
theorem qright_b {x : Int} {b : Bool} (h : idOk x = b) (w : World) :
    Calls Tryz.prog 107 #[.int .i64 x] w fun e w' => e = .returned (.bool b) ∧ w = w' := (qright_any x w).mono fun _ _ ⟨he, hw⟩ => ⟨by rw [he, h], hw⟩
set_option maxHeartbeats 400000 in
theorem qindex (x : Int) (w : World) :
    Calls Tryz.prog 108 #[.int .i64 x] w fun e w' => e = .returned (.int .i64 (if idOk x then x % 256 else -1)) ∧ w = w' := by
  by_cases ho : idOk x = true
  · obtain ⟨i, q, hi, hq, hx, ht, hd⟩ := id_parts ho
    rw [if_pos ho, show x % 256 = (i : Int) by omega]
    have HO := Lib.hid ho
    clear ho hx hd
    go_enter Tryz.func108, Tryz.ntmps108
    go_wp2_with fail
    refine (qright_b HO.out _).mono ?_
    rintro e w1 ⟨rfl, rfl⟩
    go_wp2
    go_ret
    exact ⟨rfl, rfl⟩
  · have ho' : idOk x = false := by simpa using ho
    rw [if_neg ho]
    have HO := Lib.hid ho'
    clear ho ho'
    go_enter Tryz.func108, Tryz.ntmps108
    go_wp2_with fail
    refine (qright_b HO.out _).mono ?_
    rintro e w1 ⟨rfl, rfl⟩
    go_wp2
    go_ret
    exact ⟨rfl, rfl⟩
set_option maxHeartbeats 400000 in
theorem qgen (x : Int) (w : World) :
    Calls Tryz.prog 109 #[.int .i64 x] w fun e w' => e = .returned (.int .i64 (if idOk x then x / 256 else -1)) ∧ w = w' := by
  by_cases ho : idOk x = true
  · obtain ⟨i, q, hi, hq, hx, ht, hd⟩ := id_parts ho
    rw [if_pos ho, show x / 256 = (q : Int) by omega]
    have HO := Lib.hid ho
    clear ho hx ht
    go_enter Tryz.func109, Tryz.ntmps109
    go_wp2_with fail
    refine (qright_b HO.out _).mono ?_
    rintro e w1 ⟨rfl, rfl⟩
    go_wp2
    go_ret
    exact ⟨rfl, rfl⟩
  · have ho' : idOk x = false := by simpa using ho
    rw [if_neg ho]
    have HO := Lib.hid ho'
    clear ho ho'
    go_enter Tryz.func109, Tryz.ntmps109
    go_wp2_with fail
    refine (qright_b HO.out _).mono ?_
    rintro e w1 ⟨rfl, rfl⟩
    go_wp2
    go_ret
    exact ⟨rfl, rfl⟩

set_option maxHeartbeats 1000000 in
theorem qlive (g : Nat) (R : Int) (G : Nat → Int) (L : Nat → Bool) (x : Int) (w : World) (row : w.rowIs g 189 513 (poolF R G L)) :
    Calls Tryz.prog 61 #[.pointer (some ⟨g, 0, none⟩), .int .i64 x] w fun e w' => e = .returned (.bool (liveB G L x)) ∧ Below w.heap.size w w' := by
  by_cases ho : idOk x = true
  · obtain ⟨i, q, hi, hq, hx, ht, hd⟩ := id_parts ho
    have HO := Lib.hid ho
    rw [show liveB G L x = (L i && decide (G i = (q : Int))) by rw [hx]; exact live_of hi hq]
    have HIx : Hid (∀ w', Calls Tryz.prog 108 #[.int .i64 x] w' fun e w'' => e = .returned (.int .i64 (i : Int)) ∧ w' = w'') := Lib.hid (fun w' => (qindex x w').mono fun _ _ ⟨he, hw⟩ => ⟨by rw [he, if_pos ho, show x % 256 = (i : Int) by omega], hw⟩)
    have HGn : Hid (∀ w', Calls Tryz.prog 109 #[.int .i64 x] w' fun e w'' => e = .returned (.int .i64 (q : Int)) ∧ w' = w'') := Lib.hid (fun w' => (qgen x w').mono fun _ _ ⟨he, hw⟩ => ⟨by rw [he, if_pos ho, show x / 256 = (q : Int) by omega], hw⟩)
    clear ho hx ht hd
    have cl := pool_live row hi
    have cg := pool_gen row hi
    clear row
    have hi0 : (0 : Int) ≤ (i : Int) := by omega
    have hi1 : (i : Int) < 256 := by omega
    obtain ⟨b, hb⟩ : ∃ b, b = L i := ⟨_, rfl⟩
    obtain ⟨y, hy⟩ : ∃ y, y = G i := ⟨_, rfl⟩
    rw [← hb] at cl
    rw [← hy] at cg
    rw [← hb, ← hy]
    clear hb hy
    cases b
    · go_enter Tryz.func61, Tryz.ntmps61
      go_wp2_with fail
      refine (qright_b HO.out _).mono ?_
      rintro e w1 ⟨rfl, rfl⟩
      go_wp2_with fail
      refine (HIx.out _).mono ?_
      rintro e w1 ⟨rfl, rfl⟩
      go_wp2
      go_quiet (fail)
      go_wp2
      go_ret
      exact ⟨rfl, Go.below_drewN (Below.refl _ _) nq⟩
    · go_enter Tryz.func61, Tryz.ntmps61
      go_wp2_with fail
      refine (qright_b HO.out _).mono ?_
      rintro e w1 ⟨rfl, rfl⟩
      go_wp2_with fail
      refine (HIx.out _).mono ?_
      rintro e w1 ⟨rfl, rfl⟩
      go_wp2
      go_region_held3 (fun w' => w'.cell? ⟨g, 257 + i, none⟩ = some (.bool true) ∧ w'.cell? ⟨g, 1 + i, none⟩ = some (.int .i64 y)) (first | exact ⟨cl, cg⟩ | go_keep)
        (first | (go_at_call 109; refine (HGn.out _).mono ?_; rintro e w2 ⟨rfl, rfl⟩))
      go_wp2
      go_ret
      exact ⟨by simp; rfl, bdrewn (Below.refl _ _)⟩
  · have ho' : idOk x = false := by simpa using ho
    rw [live_no ho']
    have HO := Lib.hid ho'
    clear ho ho' row
    go_enter Tryz.func61, Tryz.ntmps61
    go_wp2_with fail
    refine (qright_b HO.out _).mono ?_
    rintro e w1 ⟨rfl, rfl⟩
    go_wp2
    go_ret
    exact ⟨rfl, Below.refl _ _⟩

theorem all_room {G : Nat → Int} {L : Nat → Bool} {R : Nat} (h : ∀ i, L i = true → i < R) : ∀ n, allL G L (R + n) = allL G L R
  | 0 => rfl
  | n + 1 => by
    have hL : L (R + n) = false := by
      by_cases c : L (R + n) = true
      · have := h _ c; omega
      · simpa using c
    rw [← Nat.add_assoc, all_no hL]
    exact all_room h n

set_option maxHeartbeats 400000 in
theorem qname (g : Nat) (R : Int) (G : Nat → Int) (L : Nat → Bool) (k : Nat) (w : World) (hG : GenOk G) (hk : k < 256) (row : w.rowIs g 189 513 (poolF R G L)) :
    Calls Tryz.prog 178 #[.pointer (some ⟨g, 0, none⟩), .int .i64 (k : Int)] w fun e w' => e = .returned (.int .i64 (nm (G k) k)) ∧ w = w' := by
  have cg := pool_gen row hk
  have hyb := hG k hk
  unfold nm
  clear row hG
  obtain ⟨y, hy⟩ : ∃ y, y = G k := ⟨_, rfl⟩
  rw [← hy] at cg hyb
  rw [← hy]
  clear hy
  have hk0 : (0 : Int) ≤ (k : Int) := by omega
  have hk1 : (k : Int) < 256 := by omega
  have hw1 : IntKind.i64.wrap (256 * y) = 256 * y := IntWalk.i64_in _ (by omega)
  have hw2 : IntKind.i64.wrap (256 * y + (k : Int)) = 256 * y + (k : Int) := IntWalk.i64_in _ (by omega)
  go_enter Tryz.func178, Tryz.ntmps178
  go_wp2
  go_ret
  exact ⟨rfl, rfl⟩

set_option maxHeartbeats 1000000 in
theorem qall (g R : Nat) (G : Nat → Int) (L : Nat → Bool) (w : World) (hP : POk R G L) (row : w.rowIs g 189 513 (poolF R G L)) :
    Calls Tryz.prog 161 #[.pointer (some ⟨g, 0, none⟩)] w fun e w' => ∃ a cap, e = .returned (.slice a (allL G L 256).length cap) ∧ Row w' a (allL G L 256).length (allL G L 256) ∧ Below w.heap.size w w' := by
  have hall : allL G L 256 = allL G L R := by
    have h1 := all_room (G := G) (fun i hi => (hP.2.2 i hi).1) (256 - R)
    have h2 := hP.1
    rwa [show R + (256 - R) = 256 by omega] at h1
  rw [hall]
  have hR := hP.1
  have HRow := Lib.hid row
  have HG := Lib.hid hP.gen
  have cr := pool_room row
  clear row hP hall
  obtain ⟨i0, hi0, hz0, hz1, hz2⟩ := info_parts id_info
  have HI := Lib.hid (And.intro hi0 (And.intro hz0 (And.intro hz1 hz2)))
  clear hi0 hz0 hz1 hz2
  go_enter Tryz.func161, Tryz.ntmps161
  go_wp2
  go_loopw [3, 11] (fun v i wr => ∃ k : Nat, k ≤ R ∧ i = .int .i64 k ∧ OwnD wr w.heap.size v (allL G L k).length (allL G L k) ∧ Below w.heap.size w wr) (fun _ i _ => R - (intOf i).toNat)
  case atStart => exact ⟨0, by omega, rfl, OwnD.nil _ _, Below.refl _ _⟩
  case round =>
    clear cr
    obtain ⟨k, hk, rfl, hown, hb⟩ := hrel
    have HOwn := Lib.hid hown
    have HB := Lib.hid hb
    clear hown hb
    have HR2 := Lib.hid (World.rowIs.keep HRow.out HB.out)
    by_cases hlt : k < R
    · have cl := pool_live HR2.out (k := k) (by omega)
      have hk0 : (0 : Int) ≤ (k : Int) := by omega
      have hk1 : (k : Int) < 256 := by omega
      have hkR : (k : Int) < (R : Int) := by omega
      have zg : g < wr.heap.size := HR2.out.lt
      have hle := all_len G L k
      by_cases hL : L k = true
      · rw [hL] at cl
        have HA := Lib.hid (all_yes (G := G) hL)
        clear hL
        obtain ⟨n, hn⟩ : ∃ n, n = (allL G L k).length := ⟨_, rfl⟩
        rw [← hn] at HOwn hle
        have HN := Lib.hid hn
        clear hn
        have hsz : w.heap.size ≤ wr.heap.size := HB.out.size
        go_wp2_with fail
        refine (qname g R G L k _ HG.out (by omega) HR2.out).mono ?_
        rintro e w1 ⟨rfl, rfl⟩
        go_wp2_with (at_builtin; refine wpList_append_own _ rfl (.tmp 20) (.tmp 24) 35 rfl w.heap.size 81 i0 (.int .i64 0) 1 8 Tryz.underlying35 HI.out.1 HI.out.2.1 HI.out.2.2.1 HI.out.2.2.2 rfl (by decide) _ _ _ rfl (HOwn.out.alloc _) ⟨wr.heap.size, 0, none⟩ 1 1 [.int .i64 (nm (G k) k)] rfl rfl (cell_one_new _ _ _) (by intro u hu; simp at hu; subst hu; rfl) (by unfold maxLen; omega) (by omega) (by simp; omega) ?_)
        intro v' w2 hown' hgrow _
        have HOwn' := Lib.hid hown'
        have HGr := Lib.hid hgrow
        clear hown' hgrow
        go_wp2
        go_roundw
        case rel =>
          have el : (allL G L (k + 1)).length = n + 1 := by rw [HA.out, List.length_append, ← HN.out]; rfl
          refine ⟨k + 1, by omega, by go_num, ?_, grownD_below HOwn.out (Nat.le_refl _) HB.out hsz HGr.out⟩
          rw [el]
          unfold OwnD
          rw [HA.out, List.map_append]
          exact HOwn'.out
        case measure => simp [intOf] <;> omega
      · have hL' : L k = false := by simpa using hL
        rw [hL'] at cl
        have HA := Lib.hid (all_no (G := G) hL')
        clear hL hL'
        go_wp2
        go_roundw
        case rel => exact ⟨k + 1, by omega, by go_num, by rw [HA.out]; exact HOwn.out, HB.out⟩
        case measure => simp [intOf] <;> omega
    · obtain rfl : k = R := by omega
      obtain ⟨a, cap, rfl, hr⟩ := HOwn.out.row
      have HA := Lib.hid hr
      clear hr
      go_wp2
      go_ret
      exact ⟨a, cap, rfl, HA.out, HB.out⟩

set_option maxHeartbeats 1000000 in
theorem qtake (g R : Nat) (G : Nat → Int) (L : Nat → Bool) (w : World) (hR : R ≤ 256) (hG : GenOk G) (row : w.rowIs g 189 513 (poolF R G L)) :
    Calls Tryz.prog 111 #[.pointer (some ⟨g, 0, none⟩)] w fun e w' => e = .returned (.tuple #[.int .i64 (tkV G L R), .int .i64 (tkE G L R)]) ∧ w'.rowIs g 189 513 (poolF R G (tkL G L R)) ∧ w.grownBy w' (some g) := by
  have HRow := Lib.hid row
  have HG := Lib.hid hG
  have cr := pool_room row
  clear row hG
  go_enter Tryz.func111, Tryz.ntmps111
  go_wp2
  go_loopw [11] (fun i wr => ∃ k : Nat, k ≤ R ∧ i = .int .i64 k ∧ (∀ j, j < k → freeB G L j = false) ∧ wr = w) (fun i _ => R - (intOf i).toNat)
  case atStart => exact ⟨0, by omega, rfl, fun j hj => by omega, rfl⟩
  case round =>
    obtain ⟨k, hk, rfl, hz, rfl⟩ := hrel
    have HZ := Lib.hid hz
    clear hz
    by_cases hlt : k < R
    · have cl := pool_live HRow.out (k := k) (by omega)
      have cg := pool_gen HRow.out (k := k) (by omega)
      have fl := HRow.out.frozen (257 + k)
      have hk0 : (0 : Int) ≤ (k : Int) := by omega
      have hk1 : (k : Int) < 256 := by omega
      have hkR : (k : Int) < (R : Int) := by omega
      obtain ⟨b, hb⟩ : ∃ b, b = L k := ⟨_, rfl⟩
      obtain ⟨y, hy⟩ : ∃ y, y = G k := ⟨_, rfl⟩
      have hyb := HG.out k (by omega)
      rw [← hb] at cl
      rw [← hy] at cg hyb
      have HF : Hid (freeB G L k = (!b && decide (y ≤ 65535))) := Lib.hid (by unfold freeB; rw [hb, hy])
      have HY := Lib.hid hy
      clear hb hy
      cases b
      · by_cases hy : y ≤ 65535
        · have hgl : 1 + k ≠ 257 + k := by omega
          go_wp2_with fail
          refine (qname g R G (upd L k true) k _ HG.out (by omega) (pool_setL HRow.out (by omega) true)).mono ?_
          rintro e w1 ⟨rfl, rfl⟩
          go_wp2
          go_ret2
          have e1 : tkI G L R = some k := tk_some hlt HZ.out (by rw [HF.out]; simpa using hy)
          have ev : tkV G L R = nm (G k) k := by unfold tkV; rw [e1]
          have ee : tkE G L R = 0 := by unfold tkE; rw [e1]
          refine ⟨by rw [ev, ee]; rfl, ?_, grown_set _ _ _ _⟩
          unfold tkL
          rw [e1]
          exact pool_setL HRow.out (by omega) true
        · have HZ2 := Lib.hid (free_step HZ.out (by rw [HF.out]; simpa using hy))
          go_wp2
          go_roundw
          case rel => exact ⟨k + 1, by omega, by go_num, HZ2.out, by trivial⟩
          case measure => simp [intOf] <;> omega
      · have HZ2 := Lib.hid (free_step HZ.out (by rw [HF.out]; rfl))
        go_wp2
        go_roundw
        case rel => exact ⟨k + 1, by omega, by go_num, HZ2.out, by trivial⟩
        case measure => simp [intOf] <;> omega
    · obtain rfl : k = R := by omega
      have e1 : tkI G L k = none := tk_none HZ.out
      have HE := Lib.hid e1
      clear e1
      go_wp2
      go_ret2
      have ev : tkV G L k = 0 := by unfold tkV; rw [HE.out]
      have ee : tkE G L k = 3 := by unfold tkE; rw [HE.out]
      have el : tkL G L k = L := by unfold tkL; rw [HE.out]
      exact ⟨by rw [ev, ee]; rfl, by rw [el]; exact HRow.out, World.grownBy.refl _ _⟩

set_option maxHeartbeats 1000000 in
theorem qdrop (g : Nat) (R : Int) (G : Nat → Int) (L : Nat → Bool) (x : Int) (w : World) (hG : GenOk G) (row : w.rowIs g 189 513 (poolF R G L)) :
    Calls Tryz.prog 117 #[.pointer (some ⟨g, 0, none⟩), .int .i64 x] w fun e w' => e = .returned (.bool (liveB G L x)) ∧ w'.rowIs g 189 513 (poolF R (drG G L x) (drL G L x)) ∧ w.grownBy w' (some g) := by
  have HRow := Lib.hid row
  clear row
  by_cases ho : liveB G L x = true
  · have hid : idOk x = true := by
      by_cases c : idOk x = true
      · exact c
      · rw [live_no (by simpa using c)] at ho; cases ho
    obtain ⟨i, q, hi, hq, hx, ht, hd⟩ := id_parts hid
    have hdL : drL G L x = upd L i false := by unfold drL; rw [if_pos ho, show (x % 256).toNat = i by omega]
    have hdG : drG G L x = upd G i (G i + 1) := by unfold drG; rw [if_pos ho, show (x % 256).toNat = i by omega]
    rw [hdL, hdG, ho]
    have HO : Hid (∀ w', w'.rowIs g 189 513 (poolF R G L) → Calls Tryz.prog 61 #[.pointer (some ⟨g, 0, none⟩), .int .i64 x] w' fun e w'' => e = .returned (.bool true) ∧ Below w'.heap.size w' w'') :=
      Lib.hid (fun w' hr => (qlive g R G L x w' hr).mono fun _ _ ⟨he, hw⟩ => ⟨by rw [he, ho], hw⟩)
    have HIx : Hid (∀ w', Calls Tryz.prog 108 #[.int .i64 x] w' fun e w'' => e = .returned (.int .i64 (i : Int)) ∧ w' = w'') := Lib.hid (fun w' => (qindex x w').mono fun _ _ ⟨he, hw⟩ => ⟨by rw [he, if_pos hid, show x % 256 = (i : Int) by omega], hw⟩)
    have hyb := hG i hi
    clear hG ho hid hx hd ht hdL hdG
    have hi0 : (0 : Int) ≤ (i : Int) := by omega
    have hi1 : (i : Int) < 256 := by omega
    obtain ⟨y, hy⟩ : ∃ y, y = G i := ⟨_, rfl⟩
    rw [← hy] at hyb
    rw [← hy]
    have hw1 : IntKind.i64.wrap (y + 1) = y + 1 := IntWalk.i64_in _ (by omega)
    go_enter Tryz.func117, Tryz.ntmps117
    go_wp2_with fail
    refine (HO.out _ HRow.out).mono ?_
    rintro e w1 ⟨rfl, b1⟩
    have HGr := Lib.hid (below_grown b1 (some g))
    replace HRow := Lib.hid (World.rowIs.keep HRow.out b1)
    clear b1
    have cl := pool_live HRow.out hi
    have fl := HRow.out.frozen (257 + i)
    have HRow2 := Lib.hid (pool_setL HRow.out hi false)
    have cg := pool_gen HRow2.out hi
    have fg := HRow2.out.frozen (1 + i)
    rw [← hy] at cg
    clear hy
    go_wp2_with fail
    refine (HIx.out _).mono ?_
    rintro e w2 ⟨rfl, rfl⟩
    go_wp2
    go_region
    go_wp2
    go_ret
    exact ⟨rfl, rowIs_drew (pool_setG HRow2.out hi _), grown_trans HGr.out (grown_drew (grown_trans (grown_set _ _ _ _) (grown_set _ _ _ _)))⟩
  · have ho' : liveB G L x = false := by simpa using ho
    have hdL : drL G L x = L := by unfold drL; rw [if_neg ho]
    have hdG : drG G L x = G := by unfold drG; rw [if_neg ho]
    rw [hdL, hdG, ho']
    have HO : Hid (∀ w', w'.rowIs g 189 513 (poolF R G L) → Calls Tryz.prog 61 #[.pointer (some ⟨g, 0, none⟩), .int .i64 x] w' fun e w'' => e = .returned (.bool false) ∧ Below w'.heap.size w' w'') :=
      Lib.hid (fun w' hr => (qlive g R G L x w' hr).mono fun _ _ ⟨he, hw⟩ => ⟨by rw [he, ho'], hw⟩)
    clear ho ho' hG hdL hdG
    go_enter Tryz.func117, Tryz.ntmps117
    go_wp2_with fail
    refine (HO.out _ HRow.out).mono ?_
    rintro e w1 ⟨rfl, b1⟩
    have HGr := Lib.hid (below_grown b1 (some g))
    replace HRow := Lib.hid (World.rowIs.keep HRow.out b1)
    clear b1
    go_wp2
    go_ret
    exact ⟨rfl, HRow.out, HGr.out⟩

end Go.Proofs.YthhfcedhbfandaaGreat
