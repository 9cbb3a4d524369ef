/-
  9 texts in one file, each with its own heading.
-/
import Derived.Test.YthhfcedhbfandaaGreatMS28
import Derived.Test.YthhfcedhbfandaaGreatMS24
import Derived.Test.YthhfcedhbfandaaGreatMS15
import Derived.Test.YthhfcedhbfandaaGreatMS21
import Derived.Test.YthhfcedhbfandaaGreatMS18
/-
  Layer 13 as plain data: who went never lives again; so what an extract knows of a scene, ahead of each sync.
-/
namespace Go.Proofs.YthhfcedhbfandaaGreat
open Go.RowKit

def GoN (S : St) : Prop := ∀ q ∈ S.go, q.1 / 256 < S.G (q.1 % 256).toNat
theorem GoN.dead {S : St} (h : GoN S) {since x : Int} (hx : x ∈ goL S since) : liveS S x = false := by
  obtain ⟨t, ht, _⟩ := mem_go.1 hx
  have h1 := h _ ht
  rw [Bool.eq_false_iff]
  intro c
  have h2 := (live_iff.1 c).2.2.2
  simp only at h1
  omega
theorem GoN.same {S S' : St} (h : GoN S) (hg : S'.G = S.G) (ho : S'.go = S.go) : GoN S' := fun q hq => by
  rw [hg]
  exact h q (ho ▸ hq)
theorem GoN.zero (r : Nat) : GoN (St0 r) := fun q hq => (by cases hq)
theorem lay_go (S : St) (id : Int) (P : PT) : (layS S id P).G = S.G ∧ (layS S id P).go = S.go := by unfold layS; split <;> exact ⟨rfl, rfl⟩
theorem GoN.sp {S : St} (h : GoN S) (P : PT) : GoN (spS S P) := by unfold spS; split <;> exact h
theorem GoN.to1 {S : St} (h : GoN S) (x : Int) : GoN (to1 S x) := by unfold Proofs.YthhfcedhbfandaaGreat.to1; split <;> exact h
theorem GoN.to : ∀ (l : List Int) {S : St}, GoN S → GoN (toS S l)
  | [], _, h => h
  | x :: l, _, h => GoN.to l (h.to1 x)
theorem GoN.de {S : St} (hW : WS S) (h : GoN S) (id : Int) : GoN (deS S id) := by
  unfold deS
  cases c : atS S id with
  | none => exact h
  | some i =>
    have hl : liveS S id = true := by
      rw [live_in hW]
      unfold getB
      rw [c]; rfl
    have h2 := live_iff.1 hl
    intro q hq
    have hG : ∀ j, S.G j ≤ drG S.G S.L id j := fun j => by
      unfold drG
      split
      · unfold upd
        split
        · rename_i e; rw [e]; omega
        · exact Int.le_refl _
      · exact Int.le_refl _
    show q.1 / 256 < drG S.G S.L id (q.1 % 256).toNat
    rcases List.mem_append.1 hq with m | m
    · exact Int.lt_of_lt_of_le (h q m) (hG _)
    · have e : q = (id, S.now) := by simpa using m
      rw [e]
      unfold drG upd
      rw [if_pos (show liveB S.G S.L id = true from hl)]
      show id / 256 < if (id % 256).toNat = (id % 256).toNat then S.G (id % 256).toNat + 1 else S.G (id % 256).toNat
      rw [if_pos rfl, h2.2.2.2]
      omega
theorem know_next {X0 X : Sc} {D : FD} {since : Int} (hD : DOk D) (hN : NodesX X0 D.L) (h0 : WX X0) (h : ToldX (fun x P => inS X0.S x P) (parO X0.L) since X) (hg : GoN X.S) : KnowX X D since :=
  ⟨hD, fun x hl hc => by
    obtain ⟨h1, h2, _⟩ := h.same h0 hl hc
    rw [hN x, if_pos ((mem_all h0.ws).1 h1), h2], fun x hl hs => by
    have h1 : liveS X0.S x = true := by
      rw [hN x] at hs
      by_cases c : liveS X0.S x = true
      · exact c
      · rw [if_neg c] at hs; cases hs
    rcases h.gone h0 ((mem_all h0.ws).2 h1) with m | m
    · have := (mem_all h.wx.ws).1 m
      rw [hl] at this; cases this
    · exact m, fun x hx => hg.dead hx⟩
theorem know_parts {X0 X : Sc} {since : Int} (h0 : WX X0) (h : ToldX (fun x P => inS X0.S x P) (parO X0.L) since X) {x : Int} (hl : liveS X.S x = true) (hc : x ∉ chL X.S since) : getP X.S x = getP X0.S x := (h.same h0 hl hc).2.2.symm
theorem know_first {X : Sc} (h : ToldX (fun _ _ => False) (fun _ => none) 0 X) (hg : GoN X.S) : KnowX X FD0 0 :=
  ⟨DOk.zero, fun x hl hc => by
    obtain ⟨P, hP⟩ := (h.wx.ws.live x).1 hl
    rcases h.told.chg x P hP with q | q
    · exact q.elim
    · exact absurd (mem_ch.2 ⟨hl, q⟩) hc, fun x _ hs => (by cases hs), fun x hx => hg.dead hx⟩
theorem live_rg13 {S : St} {x : Int} (h : liveS S x = true) : Rg x := by
  have h2 := live_iff.1 h
  unfold Rg
  omega
theorem node_rg {X : Sc} (h : WX X) {x : Int} (hl : liveS X.S x = true) : Rg (nodeX X x).id ∧ Rg (nodeX X x).par := by
  unfold nodeX
  rw [if_pos (by rw [← live_in h.ws]; exact hl)]
  refine ⟨live_rg13 hl, ?_⟩
  show Rg ((parO X.L x).getD (-1))
  cases c : parO X.L x with
  | none => show Rg (-1); decide
  | some y => exact live_rg13 (h.kid _ (par_mem c)).2
theorem same_ok13 : okM sameM = true := by decide
theorem place_ok {P : PT} (h : rightT P = true) : okM P.2.1 = true := by
  unfold rightT rightP restB at h
  simp only [Bool.and_eq_true] at h
  exact h.2.1.1.1.1.1
theorem node_ok {X : Sc} (h : WX X) {x : Int} (hl : liveS X.S x = true) : okM (nodeX X x).pl = true := by
  unfold nodeX
  rw [if_pos (by rw [← live_in h.ws]; exact hl)]
  show okM (if hasB (getP X.S x).1 0 = true then (getP X.S x).2.1 else sameM) = true
  split
  · obtain ⟨P, i, hi, hP⟩ := (h.ws.live x).1 hl
    rw [h.ws.get ⟨i, hi, hP⟩]
    exact place_ok (fits_iff.1 (h.ws.fit i hi _ hP)).1
  · exact same_ok13
end Go.Proofs.YthhfcedhbfandaaGreat
namespace Go.Proofs.YthhfcedhbfandaaGreat

abbrev SlR := List (Int × Int)
def slotD (S : SlR) (x : Int) : Int := match S.find? (fun p => p.1 == x) with | some p => p.2 | none => -1
def usedD (S : SlR) (n : Int) : Bool := S.any (fun p => p.2 == n)
def freeD (S : SlR) : Nat → Nat → Nat
  | 0, n => n
  | k + 1, n => if usedD S n then freeD S k (n + 1) else n
def leastD (S : SlR) : Nat := freeD S (S.length + 1) 0
def give1 (S : SlR) (x : Int) : SlR := if 0 ≤ slotD S x then S else S ++ [(x, (leastD S : Int))]
def keptD (zs : List Int) (S : SlR) : SlR := S.filter (fun p => decide (p.1 ∈ zs))
def slotsD (zs : List Int) (S : SlR) : SlR := zs.foldl give1 (keptD zs S)

theorem free_below (S : SlR) : ∀ k n m, n ≤ m → m < freeD S k n → usedD S m = true
  | 0, n, m, h1, h2 => by unfold freeD at h2; omega
  | k + 1, n, m, h1, h2 => by
    unfold freeD at h2
    split at h2
    · rename_i h
      by_cases c : m = n
      · rw [c]; exact h
      · exact free_below S k (n + 1) m (by omega) h2
    · omega
theorem free_not (S : SlR) : ∀ k n, usedD S (freeD S k n) = true → freeD S k n = n + k
  | 0, n, _ => rfl
  | k + 1, n, h => by
    unfold freeD at h ⊢
    split at h
    · rename_i c
      rw [if_pos c, free_not S k (n + 1) h]; omega
    · rename_i c
      exact absurd h c
theorem used_iff {S : SlR} {n : Int} : usedD S n = true ↔ n ∈ S.map Prod.snd := by
  unfold usedD
  rw [List.any_eq_true, List.mem_map]
  exact ⟨fun ⟨p, h1, h2⟩ => ⟨p, h1, by simpa using h2⟩, fun ⟨p, h1, h2⟩ => ⟨p, h1, by simpa using h2⟩⟩
theorem pigeon13 : ∀ (n : Nat) (l : List Int), (∀ m : Nat, m < n → (m : Int) ∈ l) → n ≤ l.length
  | 0, _, _ => Nat.zero_le _
  | n + 1, l, h => by
    have h1 := h n (by omega)
    have h2 := pigeon13 n (l.erase (n : Int)) (fun m hm => by
      rw [List.mem_erase_of_ne (by omega)]
      exact h m (by omega))
    rw [List.length_erase_of_mem h1] at h2
    have := List.length_pos_of_mem h1
    omega
theorem least_free (S : SlR) : usedD S (leastD S) = false ∧ leastD S ≤ S.length := by
  have hb : leastD S ≤ S.length := by
    have := pigeon13 (leastD S) (S.map Prod.snd) (fun m hm => used_iff.1 (free_below S _ 0 m (Nat.zero_le _) hm))
    rw [List.length_map] at this
    exact this
  refine ⟨?_, hb⟩
  cases h : usedD S (leastD S) with
  | false => rfl
  | true =>
    have := free_not S (S.length + 1) 0 h
    unfold leastD at hb
    omega
theorem least_low (S : SlR) {m : Nat} (h : m < leastD S) : usedD S m = true := free_below S _ 0 m (Nat.zero_le _) h
theorem least_step (S : SlR) {n : Nat} (h : ∀ m, m < n → usedD S (m : Nat) = true) : (usedD S n = false → leastD S = n) ∧ n ≤ leastD S := by
  obtain ⟨h1, _⟩ := least_free S
  have h2 : n ≤ leastD S := by
    rcases Nat.lt_or_ge (leastD S) n with c | c
    · rw [h _ c] at h1; cases h1
    · exact c
  refine ⟨fun h3 => ?_, h2⟩
  rcases Nat.lt_or_ge n (leastD S) with c | c
  · rw [least_low S c] at h3; cases h3
  · omega
structure SI (S : SlR) : Prop where
  names : (S.map Prod.fst).Nodup
  slots : (S.map Prod.snd).Nodup
  pos : ∀ p ∈ S, 0 ≤ p.2
theorem SI.nil : SI [] := ⟨List.nodup_nil, List.nodup_nil, fun _ h => by cases h⟩
theorem SI.filter {S : SlR} (h : SI S) (f : Int × Int → Bool) : SI (S.filter f) :=
  ⟨h.names.sublist (List.filter_sublist.map _), h.slots.sublist (List.filter_sublist.map _), fun p hp => h.pos p (List.mem_filter.1 hp).1⟩
theorem slot_in {S : SlR} (h : SI S) {x n : Int} (hm : (x, n) ∈ S) : slotD S x = n := by
  unfold slotD
  have : S.find? (fun p => p.1 == x) = some (x, n) := by
    have hn := h.names
    clear h
    induction S with
    | nil => cases hm
    | cons a S ih =>
      rw [List.map_cons, List.nodup_cons] at hn
      rcases List.mem_cons.1 hm with e | hm
      · subst e; simp
      · have : a.1 ≠ x := fun e => hn.1 (by rw [e]; exact List.mem_map.2 ⟨_, hm, rfl⟩)
        rw [List.find?_cons_of_neg (by simpa using this)]
        exact ih hm hn.2
  rw [this]
theorem slot_none {S : SlR} {x : Int} (h : x ∉ S.map Prod.fst) : slotD S x = -1 := by
  unfold slotD
  have : S.find? (fun p => p.1 == x) = none := by
    rw [List.find?_eq_none]
    exact fun p hp e => h (List.mem_map.2 ⟨p, hp, by simpa using e⟩)
  rw [this]
theorem slot_has {S : SlR} (h : SI S) {x : Int} : 0 ≤ slotD S x ↔ x ∈ S.map Prod.fst := by
  constructor
  · intro h1
    apply Classical.byContradiction
    intro h2
    rw [slot_none h2] at h1
    omega
  · intro h1
    obtain ⟨p, hp, e⟩ := List.mem_map.1 h1
    rw [← e, slot_in h (show (p.1, p.2) ∈ S from hp)]
    exact h.pos p hp
theorem slot_mem {S : SlR} (h : SI S) {x : Int} (hx : 0 ≤ slotD S x) : (x, slotD S x) ∈ S := by
  obtain ⟨p, hp, e⟩ := List.mem_map.1 ((slot_has h).1 hx)
  have := slot_in h (show (p.1, p.2) ∈ S from hp)
  rw [← e, this]
  exact hp
theorem slot_one {S : SlR} (h : SI S) {x y : Int} (hx : 0 ≤ slotD S x) (he : slotD S x = slotD S y) : x = y := by
  have h1 := slot_mem h hx
  have h2 := slot_mem h (he ▸ hx)
  have hs := h.slots
  rw [← he] at h2
  generalize slotD S x = n at h1 h2
  clear h hx he
  induction S with
  | nil => cases h1
  | cons a S ih =>
    rw [List.map_cons, List.nodup_cons] at hs
    rcases List.mem_cons.1 h1 with e1 | h1 <;> rcases List.mem_cons.1 h2 with e2 | h2
    · rw [← e1] at e2; exact (congrArg Prod.fst e2).symm
    · exact absurd (List.mem_map.2 ⟨_, h2, by rw [← e1]⟩) hs.1
    · exact absurd (List.mem_map.2 ⟨_, h1, by rw [← e2]⟩) hs.1
    · exact ih hs.2 h1 h2
theorem kept_slot {zs : List Int} {S : SlR} (h : SI S) (x : Int) : slotD (keptD zs S) x = if x ∈ zs then slotD S x else -1 := by
  have hk : SI (keptD zs S) := h.filter _
  split
  · rename_i hx
    by_cases c : 0 ≤ slotD S x
    · exact slot_in hk (List.mem_filter.2 ⟨slot_mem h c, by simpa using hx⟩)
    · rw [slot_none (fun m => c ((slot_has h).2 m)), slot_none (fun m => c ((slot_has h).2 ?_))]
      obtain ⟨p, hp, e⟩ := List.mem_map.1 m
      exact List.mem_map.2 ⟨p, (List.mem_filter.1 hp).1, e⟩
  · rename_i hx
    refine slot_none (fun m => hx ?_)
    obtain ⟨p, hp, e⟩ := List.mem_map.1 m
    rw [← e]
    exact of_decide_eq_true (List.mem_filter.1 hp).2
theorem slot_app (S T : SlR) (x : Int) : slotD (S ++ T) x = if x ∈ S.map Prod.fst then slotD S x else slotD T x := by
  split
  · rename_i h
    unfold slotD
    rw [List.find?_append]
    cases e : S.find? (fun p => p.1 == x) with
    | some p => rfl
    | none =>
      rw [List.find?_eq_none] at e
      obtain ⟨p, hp, q⟩ := List.mem_map.1 h
      exact absurd (by simpa using q) (e p hp)
  · rename_i h
    unfold slotD
    rw [List.find?_append]
    have : S.find? (fun p => p.1 == x) = none := by
      rw [List.find?_eq_none]
      exact fun p hp e => h (List.mem_map.2 ⟨p, hp, by simpa using e⟩)
    rw [this]
    rfl
theorem give_step {S : SlR} (h : SI S) (x : Int) : SI (give1 S x) ∧ (∀ y, 0 ≤ slotD S y → slotD (give1 S x) y = slotD S y) ∧ 0 ≤ slotD (give1 S x) x ∧ (∀ y, y ∈ (give1 S x).map Prod.fst ↔ y ∈ S.map Prod.fst ∨ y = x) := by
  unfold give1
  by_cases c : 0 ≤ slotD S x
  · rw [if_pos c]
    exact ⟨h, fun _ _ => rfl, c, fun y => ⟨Or.inl, fun k => k.elim id (fun e => e ▸ (slot_has h).1 c)⟩⟩
  · rw [if_neg c]
    have hx : x ∉ S.map Prod.fst := fun m => c ((slot_has h).2 m)
    have hl : (leastD S : Int) ∉ S.map Prod.snd := fun m => by
      have := (least_free S).1
      rw [used_iff.2 m] at this
      cases this
    have hs : SI (S ++ [(x, (leastD S : Int))]) := by
      refine ⟨?_, ?_, fun p hp => ?_⟩
      · rw [List.map_append, List.nodup_append]
        exact ⟨h.names, by simp, fun a ha b hb e => hx (by simp at hb; rw [← hb, ← e]; exact ha)⟩
      · rw [List.map_append, List.nodup_append]
        exact ⟨h.slots, by simp, fun a ha b hb e => hl (by simp at hb; rw [← hb, ← e]; exact ha)⟩
      · rcases List.mem_append.1 hp with hp | hp
        · exact h.pos p hp
        · have : p = (x, (leastD S : Int)) := by simpa using hp
          rw [this]; exact Int.natCast_nonneg _
    refine ⟨hs, fun y hy => ?_, ?_, fun y => ?_⟩
    · rw [slot_app, if_pos ((slot_has h).1 hy)]
    · exact (slot_has hs).2 (by simp)
    · simp
theorem give_len (S : SlR) (x : Int) : (give1 S x).length ≤ S.length + 1 := by
  unfold give1
  split <;> simp
theorem give_all : ∀ (zs : List Int) {S : SlR}, SI S → SI (zs.foldl give1 S) ∧ (∀ y, 0 ≤ slotD S y → slotD (zs.foldl give1 S) y = slotD S y) ∧ (∀ y, y ∈ (zs.foldl give1 S).map Prod.fst ↔ y ∈ S.map Prod.fst ∨ y ∈ zs)
  | [], S, h => ⟨h, fun _ _ => rfl, fun y => by simp⟩
  | x :: zs, S, h => by
    obtain ⟨h1, h2, _, h4⟩ := give_step h x
    obtain ⟨k1, k2, k3⟩ := give_all zs h1
    refine ⟨k1, fun y hy => ?_, fun y => ?_⟩
    · rw [List.foldl_cons, k2 y (by rw [h2 y hy]; exact hy), h2 y hy]
    · rw [List.foldl_cons, k3, h4, List.mem_cons, or_assoc]
theorem give_below : ∀ (zs : List Int) {S : SlR} {n : Nat}, SI S → (∀ p ∈ S, p.2 < n) → (∀ us : List Int, us.Nodup → (∀ u ∈ us, u ∈ S.map Prod.fst ∨ u ∈ zs) → us.length ≤ n) → ∀ p ∈ zs.foldl give1 S, p.2 < n
  | [], _, _, _, hb, _ => hb
  | x :: zs, S, n, h, hb, hn => by
    obtain ⟨h1, _, _, h4⟩ := give_step h x
    refine give_below zs h1 (fun p hp => ?_) (fun us hu hm => hn us hu (fun u k => ?_))
    · unfold give1 at hp
      split at hp
      · exact hb p hp
      · rename_i c
        rcases List.mem_append.1 hp with hp | hp
        · exact hb p hp
        · have e : p = (x, (leastD S : Int)) := by simpa using hp
          have hx : x ∉ S.map Prod.fst := fun m => c ((slot_has h).2 m)
          have := hn (x :: S.map Prod.fst) (List.nodup_cons.2 ⟨hx, h.names⟩) (fun u k => by
            rcases List.mem_cons.1 k with e | k
            · exact Or.inr (e ▸ List.mem_cons_self)
            · exact Or.inl k)
          rw [List.length_cons, List.length_map] at this
          have h2 := (least_free S).2
          rw [e]
          show (leastD S : Int) < n
          omega
    · rcases hm u k with m | m
      · rcases (h4 u).1 m with m | m
        · exact Or.inl m
        · exact Or.inr (m ▸ List.mem_cons_self)
      · exact Or.inr (List.mem_cons_of_mem _ m)
theorem slots_ok {zs : List Int} {S : SlR} (h : SI S) : SI (slotsD zs S) ∧ (∀ y, 0 ≤ slotD (slotsD zs S) y ↔ y ∈ zs) ∧ ∀ y, y ∈ zs → 0 ≤ slotD S y → slotD (slotsD zs S) y = slotD S y := by
  have hk : SI (keptD zs S) := h.filter _
  obtain ⟨k1, k2, k3⟩ := give_all zs hk
  refine ⟨k1, fun y => ?_, fun y hy h0 => ?_⟩
  · refine (slot_has k1).trans ?_
    refine (k3 y).trans ⟨fun q => q.elim (fun m => ?_) id, Or.inr⟩
    have := (slot_has hk).2 m
    rw [kept_slot h] at this
    split at this
    · assumption
    · omega
  · have e : slotD (keptD zs S) y = slotD S y := by rw [kept_slot h, if_pos hy]
    exact (k2 y (by rw [e]; exact h0)).trans e
theorem slots_below {zs : List Int} {S : SlR} {n : Nat} (h : SI S) (hb : ∀ p ∈ S, p.2 < n) (hz : ∀ us : List Int, us.Nodup → (∀ u ∈ us, u ∈ zs) → us.length ≤ n) : ∀ p ∈ slotsD zs S, p.2 < n :=
  give_below zs (h.filter _) (fun p hp => hb p (List.mem_filter.1 hp).1) (fun us hu hm => hz us hu (fun u k => (hm u k).elim (fun m => by
    obtain ⟨p, hp, e⟩ := List.mem_map.1 m
    rw [← e]
    exact of_decide_eq_true (List.mem_filter.1 hp).2) id))
end Go.Proofs.YthhfcedhbfandaaGreat
namespace Go.Proofs.YthhfcedhbfandaaGreat
open Go.RowKit

section
variable {sp : Value} {w w' : World} {g : Nat} {v : Value} {L : FT} {F : Nat → Prop}
structure RG (sp : Value) (w : World) (g : Nat) (v : Value) (L : FT) : Prop where
  blk : Blk w g 79 #[sp, v]
  col : ColP w v L
  off : v.ownBlock ≠ some g
def RGB (sp : Value) (w : World) (g : Nat) (F : Nat → Prop) (L : FT) : Prop := ∃ v, RG sp w g v L ∧ ∀ b, F b ↔ footF g v b
end
structure Duo (SB : World → Nat → (Nat → Prop) → St → Prop) (w0 w : World) (gp gr : Nat) (Fp Fq : Nat → Prop) (S1 S2 : St) : Prop where
  sp : SB w gp Fp S1
  rb : RB w gr Fq S2
  dis : ∀ b, Fp b → ¬ Fq b
  bel : Below w0.heap.size w0 w
  fp : ∀ b, Fp b → w0.heap.size ≤ b
  fq : ∀ b, Fq b → w0.heap.size ≤ b
section
variable {SB : World → Nat → (Nat → Prop) → St → Prop} {w0 w w' : World} {gp gr : Nat} {Fp Fq : Nat → Prop} {S1 S2 S' : St}
theorem aw_in {w0 : World} {a : Option Addr} {n : Nat} {zs : List Int} {F : Nat → Prop} (h : Row w0 a n zs) (hF : ∀ b, F b → w0.heap.size ≤ b) : Aw F a n := by
  rcases h.2.2 with c | ⟨b, off, e, hc⟩
  · exact Or.inl c
  · by_cases c : n = 0
    · exact Or.inl c
    · refine Or.inr (fun ad e2 hf => ?_)
      rw [e] at e2
      injection e2 with e2
      have h1 := World.block_lt_of_cell? w0 _ (hc 0 (by omega))
      have h2 := hF _ hf
      rw [← e2] at h2
      have h3 : b < w0.heap.size := h1
      have h4 : w0.heap.size ≤ b := h2
      omega
theorem aw_new2 {W : World} {F : Nat → Prop} {n : Nat} (hF : ∀ b, F b → b < W.heap.size) : Aw F (some ⟨W.heap.size, 0, none⟩) n := Or.inr (fun ad e hf => by
  injection e with e
  rw [← e] at hf
  have h2 : W.heap.size < W.heap.size := hF _ hf
  omega)
end
section
variable {SB : World → Nat → (Nat → Prop) → St → Prop}
end
section
variable {SB : World → Nat → (Nat → Prop) → St → Prop}
end
structure KB {α : Type} (B : World → Nat → (Nat → Prop) → α → Prop) : Prop where
  keep_ : ∀ w w' g F x, B w g F x → (∀ b, F b → w'.heap[b]? = w.heap[b]?) → B w' g F x
  inb : ∀ w g F x, B w g F x → ∀ b, F b → b < w.heap.size
def ChB {α : Type} (B : World → Nat → (Nat → Prop) → α → Prop) (w w' : World) (g : Nat) (F : Nat → Prop) (x : α) : Prop := ∃ F', B w' g F' x ∧ Fr w w' F ∧ ∀ b, F' b → F b ∨ w.heap.size ≤ b
theorem KB.keep {α : Type} {B : World → Nat → (Nat → Prop) → α → Prop} (k : KB B) {w w' : World} {g : Nat} {F : Nat → Prop} {x : α} (h : B w g F x) (hb : Below w.heap.size w w') : B w' g F x := k.keep_ w w' g F x h (fun b hf => hb.block b (k.inb w g F x h b hf))
theorem ChB.still {α : Type} {B : World → Nat → (Nat → Prop) → α → Prop} (k : KB B) {w w' : World} {g : Nat} {F : Nat → Prop} {x : α} (h : B w g F x) (hb : Below w.heap.size w w') : ChB B w w' g F x := ⟨F, k.keep h hb, ⟨hb.os, hb.tape, hb.output, hb.size, fun b hl _ => hb.block b hl⟩, fun _ c => Or.inl c⟩
structure PR (SB : World → Nat → (Nat → Prop) → St → Prop) (FB : World → Nat → (Nat → Prop) → FT → Prop) (w : World) (gs gf : Nat) (Fs Ff H : Nat → Prop) (X : Sc) : Prop where
  st : SB w gs Fs X.S
  fo : FB w gf Ff X.L
  apart : ∀ b, Fs b → ¬ Ff b
  hs : ∀ b, H b → ¬ Fs b ∧ ¬ Ff b
  hin : ∀ b, H b → b < w.heap.size
def PSt (SB : World → Nat → (Nat → Prop) → St → Prop) (FB : World → Nat → (Nat → Prop) → FT → Prop) (w0 w : World) (gs gf : Nat) (H F : Nat → Prop) (X : Sc) : Prop := ∃ Fs Ff, PR SB FB w gs gf Fs Ff H X ∧ Fr w0 w F ∧ (∀ b, Fs b ∨ Ff b → F b ∨ w0.heap.size ≤ b) ∧ ∀ b, H b → F b ∧ w.heap[b]? = w0.heap[b]?
theorem fr_then {w w1 w2 : World} {F F1 : Nat → Prop} (h1 : Fr w w1 F) (h2 : Fr w1 w2 F1) (hn : ∀ b, F1 b → F b ∨ w.heap.size ≤ b) : Fr w w2 F :=
  ⟨h2.1.trans h1.1, h2.2.1.trans h1.2.1, h2.2.2.1.trans h1.2.2.1, Nat.le_trans h1.2.2.2.1 h2.2.2.2.1, fun b hb hnn => (h2.2.2.2.2 b (Nat.lt_of_lt_of_le hb h1.2.2.2.1) (fun c => by
    rcases hn b c with d | d
    · exact hnn d
    · omega)).trans (h1.2.2.2.2 b hb hnn)⟩
theorem fr_belowX {w w1 w2 : World} {F : Nat → Prop} (h1 : Fr w w1 F) (hb : Below w1.heap.size w1 w2) : Fr w w2 F := fr_then h1 (F1 := fun _ => False) ⟨hb.os, hb.tape, hb.output, hb.size, fun b hl _ => hb.block b hl⟩ (fun _ c => c.elim)
theorem fr_reflX (w : World) (F : Nat → Prop) : Fr w w F := ⟨rfl, rfl, rfl, Nat.le_refl _, fun _ _ _ => rfl⟩
section
variable {SB : World → Nat → (Nat → Prop) → St → Prop} {FB : World → Nat → (Nat → Prop) → FT → Prop} {w0 w w' : World} {gs gf : Nat} {Fs Ff H F : Nat → Prop} {X : Sc}
theorem PR.keep (kS : KB SB) (kF : KB FB) (h : PR SB FB w gs gf Fs Ff H X) (hb : Below w.heap.size w w') : PR SB FB w' gs gf Fs Ff H X := ⟨kS.keep h.st hb, kF.keep h.fo hb, h.apart, h.hs, fun b c => Nat.lt_of_lt_of_le (h.hin b c) hb.size⟩
theorem PSt.init (h : PR SB FB w gs gf Fs Ff H X) (hF : ∀ b, F b ↔ H b ∨ Fs b ∨ Ff b) : PSt SB FB w w gs gf H F X := ⟨Fs, Ff, h, fr_reflX _ _, fun b c => Or.inl ((hF b).2 (Or.inr c)), fun b c => ⟨(hF b).2 (Or.inl c), rfl⟩⟩
theorem PSt.keep (kS : KB SB) (kF : KB FB) (h : PSt SB FB w0 w gs gf H F X) (hb : Below w.heap.size w w') : PSt SB FB w0 w' gs gf H F X := by
  obtain ⟨Fs, Ff, h1, h2, h3, h4⟩ := h
  exact ⟨Fs, Ff, h1.keep kS kF hb, fr_belowX h2 hb, h3, fun b c => ⟨(h4 b c).1, (hb.block b (h1.hin b c)).trans (h4 b c).2⟩⟩
theorem PSt.withS (kS : KB SB) (kF : KB FB) (h : PSt SB FB w0 w gs gf H F X) : ∃ Fs, (∀ b, Fs b → b < w.heap.size) ∧ (∀ b, Fs b → F b ∨ w0.heap.size ≤ b) ∧ ∀ w1, Below w.heap.size w w1 → SB w1 gs Fs X.S ∧ ∀ w' S', ChB SB w1 w' gs Fs S' → PSt SB FB w0 w' gs gf H F ⟨S', X.L⟩ := by
  obtain ⟨Fs, Ff, h1, h2, h3, h4⟩ := h
  refine ⟨Fs, kS.inb _ _ _ _ h1.st, fun b c => h3 b (Or.inl c), fun w1 hb => ⟨kS.keep h1.st hb, fun w' S' ⟨F', c1, c2, c3⟩ => ?_⟩⟩
  have h1' := h1.keep kS kF hb
  have hfi := kF.inb _ _ _ _ h1'.fo
  refine ⟨F', Ff, ⟨c1, kF.keep_ w1 w' gf Ff X.L h1'.fo (fun b hf => c2.2.2.2.2 b (hfi b hf) (fun q => h1.apart b q hf)), fun b hb1 hf => ?_, fun b hH => ⟨fun hb1 => ?_, (h1.hs b hH).2⟩, fun b hH => Nat.lt_of_lt_of_le (h1'.hin b hH) c2.2.2.2.1⟩, fr_then (fr_belowX h2 hb) c2 (fun b q => h3 b (Or.inl q)), fun b q => ?_, fun b hH => ⟨(h4 b hH).1, ?_⟩⟩
  · rcases c3 b hb1 with d | d
    · exact h1.apart b d hf
    · have := hfi b hf; omega
  · rcases c3 b hb1 with d | d
    · exact (h1.hs b hH).1 d
    · have := h1'.hin b hH; omega
  · rcases q with q | q
    · rcases c3 b q with d | d
      · exact h3 b (Or.inl d)
      · exact Or.inr (Nat.le_trans (Nat.le_trans h2.2.2.2.1 hb.size) d)
    · exact h3 b (Or.inr q)
  · exact (c2.2.2.2.2 b (h1'.hin b hH) (h1.hs b hH).1).trans ((hb.block b (h1.hin b hH)).trans (h4 b hH).2)
theorem PSt.withF (kS : KB SB) (kF : KB FB) (h : PSt SB FB w0 w gs gf H F X) : ∃ Ff, (∀ b, Ff b → b < w.heap.size) ∧ (∀ b, Ff b → F b ∨ w0.heap.size ≤ b) ∧ ∀ w1, Below w.heap.size w w1 → FB w1 gf Ff X.L ∧ ∀ w' L', ChB FB w1 w' gf Ff L' → PSt SB FB w0 w' gs gf H F ⟨X.S, L'⟩ ∧ ∀ (a : Option Addr) (n : Nat), (n = 0 ∨ ∀ ad, a = some ad → Ff ad.block ∨ w1.heap.size ≤ ad.block) → ∃ Fs, SB w' gs Fs X.S ∧ Aw Fs a n ∧ ∀ w'' S', ChB SB w' w'' gs Fs S' → PSt SB FB w0 w'' gs gf H F ⟨S', L'⟩ := by
  obtain ⟨Fs, Ff, h1, h2, h3, h4⟩ := h
  refine ⟨Ff, kF.inb _ _ _ _ h1.fo, fun b c => h3 b (Or.inr c), fun w1 hb => ⟨kF.keep h1.fo hb, fun w' L' ⟨F', c1, c2, c3⟩ => ?_⟩⟩
  have h1' := h1.keep kS kF hb
  have hsi := kS.inb _ _ _ _ h1'.st
  have hs' : SB w' gs Fs X.S := kS.keep_ w1 w' gs Fs X.S h1'.st (fun b hf => c2.2.2.2.2 b (hsi b hf) (fun q => h1.apart b hf q))
  have hP : PR SB FB w' gs gf Fs F' H ⟨X.S, L'⟩ := by
    refine ⟨hs', c1, fun b hf hb1 => ?_, fun b hH => ⟨(h1.hs b hH).1, fun hb1 => ?_⟩, fun b hH => Nat.lt_of_lt_of_le (h1'.hin b hH) c2.2.2.2.1⟩
    · rcases c3 b hb1 with d | d
      · exact h1.apart b hf d
      · have := hsi b hf; omega
    · rcases c3 b hb1 with d | d
      · exact (h1.hs b hH).2 d
      · have := h1'.hin b hH; omega
  have hfr : Fr w0 w' F := fr_then (fr_belowX h2 hb) c2 (fun b q => h3 b (Or.inr q))
  have hn : ∀ b, Fs b ∨ F' b → F b ∨ w0.heap.size ≤ b := fun b q => by
    rcases q with q | q
    · exact h3 b (Or.inl q)
    · rcases c3 b q with d | d
      · exact h3 b (Or.inr d)
      · exact Or.inr (Nat.le_trans (Nat.le_trans h2.2.2.2.1 hb.size) d)
  have hH2 : ∀ b, H b → F b ∧ w'.heap[b]? = w0.heap[b]? := fun b hH => ⟨(h4 b hH).1, (c2.2.2.2.2 b (h1'.hin b hH) (h1.hs b hH).2).trans ((hb.block b (h1.hin b hH)).trans (h4 b hH).2)⟩
  have hPS : PSt SB FB w0 w' gs gf H F ⟨X.S, L'⟩ := ⟨Fs, F', hP, hfr, hn, hH2⟩
  refine ⟨hPS, fun a n ha => ⟨Fs, hs', ?_, fun w'' S' ch => ?_⟩⟩
  · refine ha.imp id (fun q ad e hf => ?_)
    rcases q ad e with d | d
    · exact h1.apart _ hf d
    · have := hsi _ hf; omega
  · obtain ⟨G', c1', c2', c3'⟩ := ch
    have hfi := kF.inb _ _ _ _ c1
    refine ⟨G', F', ⟨c1', kF.keep_ w' w'' gf F' L' c1 (fun b hf => c2'.2.2.2.2 b (hfi b hf) (fun q => hP.apart b q hf)), fun b hb1 hf => ?_, fun b hH => ⟨fun hb1 => ?_, (hP.hs b hH).2⟩, fun b hH => Nat.lt_of_lt_of_le (hP.hin b hH) c2'.2.2.2.1⟩, fr_then hfr c2' (fun b q => hn b (Or.inl q)), fun b q => ?_, fun b hH => ⟨(hH2 b hH).1, (c2'.2.2.2.2 b (hP.hin b hH) (hP.hs b hH).1).trans (hH2 b hH).2⟩⟩
    · rcases c3' b hb1 with d | d
      · exact hP.apart b d hf
      · have := hfi b hf; omega
    · rcases c3' b hb1 with d | d
      · exact (hP.hs b hH).1 d
      · have := hP.hin b hH; omega
    · rcases q with q | q
      · rcases c3' b q with d | d
        · exact hn b (Or.inl d)
        · exact Or.inr (Nat.le_trans hfr.2.2.2.1 d)
      · exact hn b (Or.inr q)
end

def RSB (w : World) (g : Nat) (F : Nat → Prop) (X : Sc) : Prop := ∃ gs Fs Ff, PR RB (RGB (.pointer (some ⟨gs, 0, none⟩))) w gs g Fs Ff (fun _ => False) X ∧ ∀ b, F b ↔ Fs b ∨ Ff b
abbrev RPS (w0 w : World) (gs g : Nat) (F : Nat → Prop) (X : Sc) : Prop := PSt RB (RGB (.pointer (some ⟨gs, 0, none⟩))) w0 w gs g (fun _ => False) F X
end Go.Proofs.YthhfcedhbfandaaGreat
