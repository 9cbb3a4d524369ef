/-
  5 texts in one file, each with its own heading.
-/
import Derived.Test.YtkondkajpmafkaaGreatMT12
import Derived.Test.YtkondkajpmafkaaGreatMT11
import Derived.Deep.RegionHeld3
import Derived.Deep.Cut
import Derived.Deep.CutRange
/-
  A store's calls keep what holds of every store; all changes are told: plain reasoning.
-/
namespace Go.Proofs.YtkondkajpmafkaaGreat
open Go.RowKit

theorem live_iff {G : Nat → Int} {L : Nat → Bool} {x : Int} : liveB G L x = true ↔ 0 ≤ x ∧ x < 16777216 ∧ L (x % 256).toNat = true ∧ G (x % 256).toNat = x / 256 := by
  unfold liveB idOk
  simp [and_assoc]
theorem live_take {G : Nat → Int} {L : Nat → Bool} {R i : Nat} (h : tkI G L R = some i) (hp : POk R G L) (x : Int) : liveB G (tkL G L R) x = true ↔ liveB G L x = true ∨ x = tkV G L R := by
  obtain ⟨h1, h2, h3⟩ := tk_spec h
  have hi : i < 256 := by have := hp.1; omega
  have hg := (hp.2.1 i).1
  rw [(tk_some_v h).1, show tkL G L R = upd L i true by unfold tkL; rw [h], live_iff, live_iff]
  unfold nm upd
  by_cases c : (x % 256).toNat = i
  · rw [c, if_pos rfl, h2]
    constructor
    · rintro ⟨a, b, _, d⟩
      right; omega
    · rintro (⟨_, _, d, _⟩ | d)
      · cases d
      · refine ⟨by omega, by omega, rfl, by omega⟩
  · rw [if_neg c]
    constructor
    · exact fun a => Or.inl a
    · rintro (a | d)
      · exact a
      · exact absurd (show (x % 256).toNat = i by omega) c
theorem dead_new {G : Nat → Int} {L : Nat → Bool} {R i : Nat} (h : tkI G L R = some i) (hp : POk R G L) : liveB G L (tkV G L R) = false := by
  obtain ⟨h1, h2, h3⟩ := tk_spec h
  have hi : i < 256 := by have := hp.1; omega
  have hg := (hp.2.1 i).1
  rw [Bool.eq_false_iff, (tk_some_v h).1]
  intro c
  rw [live_iff] at c
  unfold nm at c
  rw [show ((256 * G i + (i : Int)) % 256).toNat = i by omega, h2] at c
  cases c.2.2.1
theorem live_drop {G : Nat → Int} {L : Nat → Bool} {y : Int} (hl : liveB G L y = true) (x : Int) : liveB (drG G L y) (drL G L y) x = true ↔ liveB G L x = true ∧ x ≠ y := by
  have hy := live_iff.1 hl
  unfold drG drL
  rw [if_pos hl, if_pos hl, live_iff, live_iff]
  unfold upd
  by_cases c : (x % 256).toNat = (y % 256).toNat
  · rw [if_pos c, if_pos c]
    constructor
    · rintro ⟨_, _, d, _⟩
      cases d
    · rintro ⟨⟨a, b, d, e⟩, n⟩
      rw [c] at e
      omega
  · rw [if_neg c, if_neg c]
    constructor
    · exact fun a => ⟨a, fun e => c (by rw [e])⟩
    · exact fun a => a.1

theorem ws_put {S S' : St} (h : WS S) {id : Int} {s : Nat} {P : PT} (hs : s < 32) (hf : fitsB s P = true) (hm : ∀ j, j < 32 → ∀ x Q, (x, Q) ∈ S'.T j ↔ ((x, Q) ∈ S.T j ∧ x ≠ id) ∨ (j = s ∧ x = id ∧ Q = P))
    (hn : ∀ i, i < 32 → ((S'.T i).map Prod.fst).Nodup) (hl : ∀ x, liveS S' x = true ↔ liveS S x = true ∨ x = id) (hok : POk S'.room S'.G S'.L) : WS S' ∧ ∀ x Q, inS S' x Q ↔ (inS S x Q ∧ x ≠ id) ∨ (x = id ∧ Q = P) := by
  have hin : ∀ x Q, inS S' x Q ↔ (inS S x Q ∧ x ≠ id) ∨ (x = id ∧ Q = P) := fun x Q => by
    constructor
    · rintro ⟨j, hj, m⟩
      rcases (hm j hj x Q).1 m with ⟨a, b⟩ | ⟨_, b, d⟩
      · exact Or.inl ⟨⟨j, hj, a⟩, b⟩
      · exact Or.inr ⟨b, d⟩
    · rintro (⟨⟨j, hj, m⟩, b⟩ | ⟨b, d⟩)
      · exact ⟨j, hj, (hm j hj x Q).2 (Or.inl ⟨m, b⟩)⟩
      · exact ⟨s, hs, (hm s hs x Q).2 (Or.inr ⟨rfl, b, d⟩)⟩
  refine ⟨⟨hn, fun i hi j hj hne x A B m1 m2 => ?_, fun i hi x m => ?_, fun x => ?_, hok⟩, hin⟩
  · rcases (hm i hi x A).1 m1 with ⟨a, b⟩ | ⟨e, b, _⟩
    · rcases (hm j hj x B).1 m2 with ⟨c, _⟩ | ⟨_, d, _⟩
      · exact h.apart i hi j hj hne x A B a c
      · exact b d
    · rcases (hm j hj x B).1 m2 with ⟨_, d⟩ | ⟨e', _, _⟩
      · exact d b
      · exact hne (e.trans e'.symm)
  · obtain ⟨x, Q⟩ := x
    rcases (hm i hi x Q).1 m with ⟨a, _⟩ | ⟨e, _, d⟩
    · exact h.fit i hi _ a
    · rw [e, d]; exact hf
  · rw [hl, h.live]
    constructor
    · rintro (⟨Q, hQ⟩ | e)
      · by_cases c : x = id
        · exact ⟨P, (hin x P).2 (Or.inr ⟨c, rfl⟩)⟩
        · exact ⟨Q, (hin x Q).2 (Or.inl ⟨hQ, c⟩)⟩
      · exact ⟨P, (hin x P).2 (Or.inr ⟨e, rfl⟩)⟩
    · rintro ⟨Q, hQ⟩
      rcases (hin x Q).1 hQ with ⟨a, _⟩ | ⟨a, _⟩
      · exact Or.inl ⟨Q, a⟩
      · exact Or.inr a
theorem ws_cut {S S' : St} (h : WS S) {id : Int} (hm : ∀ j, j < 32 → ∀ x Q, (x, Q) ∈ S'.T j ↔ (x, Q) ∈ S.T j ∧ x ≠ id)
    (hn : ∀ i, i < 32 → ((S'.T i).map Prod.fst).Nodup) (hl : ∀ x, liveS S' x = true ↔ liveS S x = true ∧ x ≠ id) (hok : POk S'.room S'.G S'.L) : WS S' ∧ ∀ x Q, inS S' x Q ↔ inS S x Q ∧ x ≠ id := by
  have hin : ∀ x Q, inS S' x Q ↔ inS S x Q ∧ x ≠ id := fun x Q => by
    constructor
    · rintro ⟨j, hj, m⟩
      obtain ⟨a, b⟩ := (hm j hj x Q).1 m
      exact ⟨⟨j, hj, a⟩, b⟩
    · rintro ⟨⟨j, hj, m⟩, b⟩
      exact ⟨j, hj, (hm j hj x Q).2 ⟨m, b⟩⟩
  refine ⟨⟨hn, fun i hi j hj hne x A B m1 m2 => h.apart i hi j hj hne x A B ((hm i hi x A).1 m1).1 ((hm j hj x B).1 m2).1, fun i hi x m => ?_, fun x => ?_, hok⟩, hin⟩
  · obtain ⟨x, Q⟩ := x
    exact h.fit i hi _ ((hm i hi x Q).1 m).1
  · rw [hl, h.live]
    constructor
    · rintro ⟨⟨Q, hQ⟩, e⟩
      exact ⟨Q, (hin x Q).2 ⟨hQ, e⟩⟩
    · rintro ⟨Q, hQ⟩
      obtain ⟨a, b⟩ := (hin x Q).1 hQ
      exact ⟨⟨Q, a⟩, b⟩
theorem no_id {S : St} (h : WS S) {id : Int} (hd : liveS S id = false) {j : Nat} (hj : j < 32) : hasId (S.T j) id = false := by
  rw [Bool.eq_false_iff]
  intro c
  obtain ⟨P, hP⟩ := hasId_mem.1 c
  have := (h.live id).2 ⟨P, j, hj, hP⟩
  rw [hd] at this
  cases this
theorem ws_zero {r : Nat} (h : r ≤ 256) : WS (St0 r) := by
  refine ⟨fun i _ => List.nodup_nil, fun i _ j _ _ x P Q m => ?_, fun i _ x m => ?_, fun x => ?_, POk.zero h⟩
  · cases m
  · cases m
  · constructor
    · intro c
      unfold liveS at c
      rw [live_iff] at c
      cases c.2.2.1
    · rintro ⟨P, j, _, m⟩
      cases m
theorem sp_tk {S : St} {P : PT} (h : spE S P = 0) : rightT P = true ∧ ∃ i, tkI S.G S.L S.room = some i := by
  unfold spE at h
  by_cases c : rightT P = true
  · rw [if_pos c] at h
    refine ⟨c, ?_⟩
    cases d : tkI S.G S.L S.room with
    | none => unfold tkE at h; rw [d] at h; cases h
    | some i => exact ⟨i, rfl⟩
  · rw [if_neg c] at h
    cases h
theorem ws_spawn {S : St} (h : WS S) {P : PT} (he : spE S P = 0) : WS (spS S P) ∧ liveS S (spV S P) = false ∧ ∀ x Q, inS (spS S P) x Q ↔ (inS S x Q ∧ x ≠ spV S P) ∨ (x = spV S P ∧ Q = P) := by
  obtain ⟨hr, i, ht⟩ := sp_tk he
  obtain ⟨r1, r2, _, _⟩ := right_has hr
  have hv : spV S P = tkV S.G S.L S.room := by unfold spV; rw [if_pos he]
  have hd : liveS S (spV S P) = false := by rw [hv]; exact dead_new ht h.ok
  have hfit : fitsB (P.1.toNat : Nat) P = true := fits_iff.2 ⟨hr, r2.symm⟩
  have hT : (spS S P).T = upf S.T P.1.toNat (S.T P.1.toNat ++ [(spV S P, P)]) := by
    unfold spS
    rw [if_pos he]
    simp only
    have := mem_add (R := S.T P.1.toNat) (id := spV S P) hfit (no_id h hd r1)
    rw [r2] at this
    rw [← hv, this]
  have hn : ∀ {j : Nat}, j < 32 → hasId (S.T j) (spV S P) = false := fun {j} hj => no_id h hd hj
  obtain ⟨w1, w2⟩ := ws_put (S' := spS S P) (id := spV S P) h r1 hfit (fun j hj x Q => by
      rw [hT]
      unfold upf
      have hne : (x, Q) ∈ S.T j → x ≠ spV S P := fun m e => by
        have := hn hj
        rw [Bool.eq_false_iff] at this
        exact this (hasId_mem.2 ⟨Q, e ▸ m⟩)
      by_cases c : j = P.1.toNat
      · rw [if_pos c, List.mem_append, List.mem_singleton, Prod.mk.injEq, ← c]
        constructor
        · rintro (m | m)
          · exact Or.inl ⟨m, hne m⟩
          · exact Or.inr ⟨rfl, m.1, m.2⟩
        · rintro (m | m)
          · exact Or.inl m.1
          · exact Or.inr m.2
      · rw [if_neg c]
        constructor
        · exact fun m => Or.inl ⟨m, hne m⟩
        · rintro (m | m)
          · exact m.1
          · exact absurd m.1 c) (fun j hj => by
      rw [hT]
      unfold upf
      by_cases c : j = P.1.toNat
      · rw [if_pos c, List.map_append]
        refine List.nodup_append.2 ⟨h.nod _ r1, by simp, fun a ha b hb => ?_⟩
        simp at hb
        rw [hb]
        rintro rfl
        obtain ⟨⟨y, Q⟩, hy, rfl⟩ := List.mem_map.1 ha
        have := hn r1
        rw [Bool.eq_false_iff] at this
        exact this (hasId_mem.2 ⟨Q, hy⟩)
      · rw [if_neg c]; exact h.nod j hj) (fun x => by
      have := live_take ht h.ok x
      unfold liveS spS
      rw [if_pos he]
      simp only
      rw [hv]
      exact this) (by
      unfold spS
      rw [if_pos he]
      exact h.ok.take)
  exact ⟨w1, hd, w2⟩
theorem ws_despawn {S : St} (h : WS S) {id : Int} {i : Nat} (ha : atS S id = some i) : WS (deS S id) ∧ ∀ x Q, inS (deS S id) x Q ↔ inS S x Q ∧ x ≠ id := by
  obtain ⟨hi, hh⟩ := at_some ha
  have hl : liveB S.G S.L id = true := (h.live id).2 ⟨_, i, hi, at_get h ha⟩
  have hd : deS S id = { S with T := upf S.T i (tcuR (S.T i) (findI (S.T i) id)), G := drG S.G S.L id, L := drL S.G S.L id, go := S.go ++ [(id, S.now)] } := by unfold deS; rw [ha]
  rw [hd]
  refine ws_cut h (fun j hj x Q => ?_) (fun j hj => ?_) (fun x => live_drop hl x) (h.ok.drop id)
  · simp only
    unfold upf
    by_cases c : j = i
    · rw [if_pos c, mem_cut (h.nod i hi) hh, c]
    · rw [if_neg c]
      exact ⟨fun m => ⟨m, fun e => h.apart j hj i hi c x Q _ m (e ▸ at_get h ha)⟩, fun m => m.1⟩
  · simp only
    unfold upf
    by_cases c : j = i
    · rw [if_pos c]; exact nod_cut (h.nod i hi) hh
    · rw [if_neg c]; exact h.nod j hj
theorem ws_lay {S : St} (h : WS S) {id : Int} {i : Nat} (ha : atS S id = some i) {P : PT} (hr : rightT P = true) : WS (layS S id P) ∧ ∀ x Q, inS (layS S id P) x Q ↔ (inS S x Q ∧ x ≠ id) ∨ (x = id ∧ Q = P) := by
  obtain ⟨hi, hh⟩ := at_some ha
  obtain ⟨r1, r2, _, _⟩ := right_has hr
  have hl : liveB S.G S.L id = true := (h.live id).2 ⟨_, i, hi, at_get h ha⟩
  have hfit : fitsB (P.1.toNat : Nat) P = true := fits_iff.2 ⟨hr, r2.symm⟩
  have hd : layS S id P = { S with T := layTs S.T i id P, ch := markL S.ch id S.now } := by unfold layS; rw [ha]
  have hne : ∀ j, j < 32 → j ≠ i → ∀ x Q, (x, Q) ∈ S.T j → x ≠ id := fun j hj c x Q m e => h.apart j hj i hi c x Q _ m (e ▸ at_get h ha)
  rw [hd]
  by_cases c : i = P.1.toNat
  · have hT : layTs S.T i id P = upf S.T i (tpuR i (S.T i) (findI (S.T i) id) P) := by unfold layTs; rw [if_pos c]
    refine ws_put h r1 hfit (fun j hj x Q => ?_) (fun j hj => ?_) (fun x => ?_) h.ok
    · simp only
      rw [hT]
      unfold upf
      by_cases d : j = i
      · rw [if_pos d, mem_put (h.nod i hi) hh (c ▸ hfit), d, Prod.mk.injEq]
        constructor
        · rintro (m | m)
          · exact Or.inl m
          · exact Or.inr ⟨c, m⟩
        · rintro (m | m)
          · exact Or.inl m
          · exact Or.inr m.2
      · rw [if_neg d]
        constructor
        · exact fun m => Or.inl ⟨m, hne j hj d x Q m⟩
        · rintro (m | m)
          · exact m.1
          · exact absurd (m.1.trans c.symm) d
    · simp only
      rw [hT]
      unfold upf
      by_cases d : j = i
      · rw [if_pos d]; exact nod_put (h.nod i hi) hh (c ▸ hfit)
      · rw [if_neg d]; exact h.nod j hj
    · exact ⟨fun a => Or.inl a, fun a => a.elim (fun b => b) (fun b => b ▸ hl)⟩
  · have hid : hasId (S.T P.1.toNat) id = false := by
      rw [Bool.eq_false_iff]
      intro e
      obtain ⟨Q, hQ⟩ := hasId_mem.1 e
      exact hne _ r1 (fun e => c e.symm) id Q hQ rfl
    have hT : layTs S.T i id P = upf (upf S.T i (tcuR (S.T i) (findI (S.T i) id))) P.1.toNat (S.T P.1.toNat ++ [(id, P)]) := by
      unfold layTs
      rw [if_neg c]
      have e : upf S.T i (tcuR (S.T i) (findI (S.T i) id)) P.1.toNat = S.T P.1.toNat := by unfold upf; rw [if_neg (fun e => c e.symm)]
      rw [e]
      have := mem_add (R := S.T P.1.toNat) (id := id) hfit hid
      rw [r2] at this
      rw [this]
    refine ws_put h r1 hfit (fun j hj x Q => ?_) (fun j hj => ?_) (fun x => ?_) h.ok
    · simp only
      rw [hT]
      unfold upf
      by_cases d : j = P.1.toNat
      · rw [if_pos d, List.mem_append, List.mem_singleton, Prod.mk.injEq, ← d]
        constructor
        · rintro (m | m)
          · exact Or.inl ⟨m, hne j hj (fun e => c (e.symm.trans d)) x Q m⟩
          · exact Or.inr ⟨rfl, m⟩
        · rintro (m | m)
          · exact Or.inl m.1
          · exact Or.inr m.2
      · rw [if_neg d]
        by_cases e : j = i
        · rw [if_pos e, mem_cut (h.nod i hi) hh, e]
          constructor
          · exact fun m => Or.inl m
          · rintro (m | m)
            · exact m
            · exact absurd m.1 (fun x => c x)
        · rw [if_neg e]
          constructor
          · exact fun m => Or.inl ⟨m, hne j hj e x Q m⟩
          · rintro (m | m)
            · exact m.1
            · exact absurd m.1 d
    · simp only
      rw [hT]
      unfold upf
      by_cases d : j = P.1.toNat
      · rw [if_pos d, List.map_append]
        refine List.nodup_append.2 ⟨h.nod _ r1, by simp, fun a ha' b hb => ?_⟩
        simp at hb
        rw [hb]
        rintro rfl
        obtain ⟨⟨y, Q⟩, hy, rfl⟩ := List.mem_map.1 ha'
        rw [Bool.eq_false_iff] at hid
        exact hid (hasId_mem.2 ⟨Q, hy⟩)
      · rw [if_neg d]
        by_cases e : j = i
        · rw [if_pos e]; exact nod_cut (h.nod i hi) hh
        · rw [if_neg e]; exact h.nod j hj
    · exact ⟨fun a => Or.inl a, fun a => a.elim (fun b => b) (fun b => b ▸ hl)⟩
theorem pu_at {S : St} {id : Int} {Q : PT} {ks : List Int} (he : puE S id Q ks = 0) : ∃ i, atS S id = some i ∧ rightT (withV (getP S id) Q ks) = true := by
  unfold puE at he
  by_cases c : getB S id = true
  · rw [if_pos c] at he
    obtain ⟨i, hi⟩ := Option.isSome_iff_exists.1 c
    refine ⟨i, hi, ?_⟩
    unfold withE at he
    by_cases d : withOk (getP S id) Q ks = true
    · have d' := d
      unfold withOk at d
      rw [Bool.and_eq_true, Bool.and_eq_true] at d
      unfold withV
      rw [if_pos d']
      exact right_with ks d.1.1 d.1.2 d.2
    · rw [if_neg d] at he; cases he
  · rw [if_neg c] at he; cases he
theorem cu_at {S : St} {id : Int} {ks : List Int} (he : cuE S id ks = 0) : ∃ i, atS S id = some i ∧ rightT (woutV (getP S id) ks) = true := by
  unfold cuE at he
  by_cases c : getB S id = true
  · rw [if_pos c] at he
    obtain ⟨i, hi⟩ := Option.isSome_iff_exists.1 c
    refine ⟨i, hi, ?_⟩
    unfold woutE at he
    by_cases d : woutOk (getP S id) ks = true
    · have d' := d
      unfold woutOk at d
      rw [Bool.and_eq_true] at d
      unfold woutV
      rw [if_pos d']
      exact right_wout ks d.1 d.2
    · rw [if_neg d] at he; cases he
  · rw [if_neg c] at he; cases he

theorem mark_mem {ch : List (Int × Int)} {id now x t since : Int} (h : (x, t) ∈ ch) (ht : since < t) (hn : since < now) : ∃ t', (x, t') ∈ markL ch id now ∧ since < t' := by
  unfold markL
  by_cases c : x = id
  · exact ⟨now, by rw [c]; simp, hn⟩
  · exact ⟨t, List.mem_append.2 (Or.inl (List.mem_filter.2 ⟨h, by simpa using c⟩)), ht⟩
theorem mark_new (ch : List (Int × Int)) (id now : Int) : (id, now) ∈ markL ch id now := by unfold markL; simp
structure Told (S1 : St → Prop) (I : Int → PT → Prop) (since : Int) (S : St) : Prop where
  ws : WS S
  now : since < S.now
  chg : ∀ x P, inS S x P → I x P ∨ ∃ t, (x, t) ∈ S.ch ∧ since < t
  gon : ∀ x P, I x P → (∃ Q, inS S x Q) ∨ ∃ t, (x, t) ∈ S.go ∧ since < t
theorem Told.put {N : St → Prop} {I : Int → PT → Prop} {since : Int} {S S' : St} (h : Told N I since S) {id : Int} {P : PT} (hw : WS S') (hin : ∀ x Q, inS S' x Q ↔ (inS S x Q ∧ x ≠ id) ∨ (x = id ∧ Q = P)) (hnow : S'.now = S.now) (hch : S'.ch = markL S.ch id S.now) (hgo : S'.go = S.go) : Told N I since S' := by
  refine ⟨hw, hnow ▸ h.now, fun x Q hx => ?_, fun x Q hx => ?_⟩
  · rw [hch]
    rcases (hin x Q).1 hx with ⟨a, b⟩ | ⟨a, _⟩
    · rcases h.chg x Q a with c | ⟨t, c, d⟩
      · exact Or.inl c
      · exact Or.inr (mark_mem c d h.now)
    · exact Or.inr ⟨S.now, by rw [a]; exact mark_new _ _ _, h.now⟩
  · rw [hgo]
    rcases h.gon x Q hx with ⟨A, hA⟩ | c
    · by_cases e : x = id
      · exact Or.inl ⟨P, (hin x P).2 (Or.inr ⟨e, rfl⟩)⟩
      · exact Or.inl ⟨A, (hin x A).2 (Or.inl ⟨hA, e⟩)⟩
    · exact Or.inr c
theorem Told.spawn {N : St → Prop} {I : Int → PT → Prop} {since : Int} {S : St} (h : Told N I since S) (P : PT) : Told N I since (spS S P) := by
  by_cases he : spE S P = 0
  · obtain ⟨w1, _, w2⟩ := ws_spawn h.ws he
    refine h.put w1 w2 (by unfold spS; rw [if_pos he]) ?_ (by unfold spS; rw [if_pos he])
    unfold spS spV
    rw [if_pos he, if_pos he]
  · unfold spS; rw [if_neg he]; exact h
theorem Told.lay {N : St → Prop} {I : Int → PT → Prop} {since : Int} {S : St} (h : Told N I since S) {id : Int} {i : Nat} (ha : atS S id = some i) {P : PT} (hr : rightT P = true) : Told N I since (layS S id P) := by
  obtain ⟨w1, w2⟩ := ws_lay h.ws ha hr
  have hd : layS S id P = { S with T := layTs S.T i id P, ch := markL S.ch id S.now } := by unfold layS; rw [ha]
  exact h.put w1 w2 (by rw [hd]) (by rw [hd]) (by rw [hd])
theorem Told.pu {N : St → Prop} {I : Int → PT → Prop} {since : Int} {S : St} (h : Told N I since S) (id : Int) (Q : PT) (ks : List Int) : Told N I since (puS S id Q ks) := by
  unfold puS
  by_cases he : puE S id Q ks = 0
  · obtain ⟨i, ha, hr⟩ := pu_at he
    rw [if_pos he]
    exact h.lay ha hr
  · rw [if_neg he]; exact h
theorem Told.cu {N : St → Prop} {I : Int → PT → Prop} {since : Int} {S : St} (h : Told N I since S) (id : Int) (ks : List Int) : Told N I since (cuS S id ks) := by
  unfold cuS
  by_cases he : cuE S id ks = 0
  · obtain ⟨i, ha, hr⟩ := cu_at he
    rw [if_pos he]
    exact h.lay ha hr
  · rw [if_neg he]; exact h
theorem Told.de {N : St → Prop} {I : Int → PT → Prop} {since : Int} {S : St} (h : Told N I since S) (id : Int) : Told N I since (deS S id) := by
  cases ha : atS S id with
  | none => have e : deS S id = S := by unfold deS; rw [ha]
            rw [e]; exact h
  | some i =>
    obtain ⟨w1, w2⟩ := ws_despawn h.ws ha
    have hd : deS S id = { S with T := upf S.T i (tcuR (S.T i) (findI (S.T i) id)), G := drG S.G S.L id, L := drL S.G S.L id, go := S.go ++ [(id, S.now)] } := by unfold deS; rw [ha]
    refine ⟨w1, by rw [hd]; exact h.now, fun x Q hx => ?_, fun x Q hx => ?_⟩
    · rw [hd]
      exact h.chg x Q ((w2 x Q).1 hx).1
    · rcases h.gon x Q hx with ⟨A, hA⟩ | ⟨t, c, d⟩
      · by_cases e : x = id
        · refine Or.inr ⟨S.now, ?_, h.now⟩
          rw [hd, e]
          simp
        · exact Or.inl ⟨A, (w2 x A).2 ⟨hA, e⟩⟩
      · refine Or.inr ⟨t, ?_, d⟩
        rw [hd]
        exact List.mem_append.2 (Or.inl c)
theorem Told.to1 {N : St → Prop} {I : Int → PT → Prop} {since : Int} {S : St} (h : Told N I since S) (id : Int) : Told N I since (to1 S id) := by
  unfold Go.Proofs.YtkondkajpmafkaaGreat.to1
  by_cases c : liveS S id = true
  · rw [if_pos c]
    refine ⟨⟨h.ws.nod, h.ws.apart, h.ws.fit, h.ws.live, h.ws.ok⟩, h.now, fun x P hx => ?_, h.gon⟩
    rcases h.chg x P hx with a | ⟨t, a, b⟩
    · exact Or.inl a
    · exact Or.inr (mark_mem a b h.now)
  · rw [if_neg c]; exact h
theorem Told.to {N : St → Prop} {I : Int → PT → Prop} {since : Int} : ∀ (l : List Int) {S : St}, Told N I since S → Told N I since (toS S l)
  | [], _, h => h
  | x :: l, _, h => Told.to l (h.to1 x)
theorem Told.ne {N : St → Prop} {I : Int → PT → Prop} {since : Int} {S : St} (h : Told N I since S) : Told N I since (neS S) :=
  ⟨⟨h.ws.nod, h.ws.apart, h.ws.fit, h.ws.live, h.ws.ok⟩, Int.lt_trans h.now (by show S.now < S.now + 1; omega), h.chg, h.gon⟩
theorem Told.start {S : St} (h : WS S) : Told (fun _ => True) (fun x P => inS S x P) S.now (neS S) :=
  ⟨⟨h.nod, h.apart, h.fit, h.live, h.ok⟩, by show S.now < S.now + 1; omega, fun x P hx => Or.inl hx, fun x P hx => Or.inl ⟨P, hx⟩⟩
theorem Told.first {r : Nat} (h : r ≤ 256) : Told (fun _ => True) (fun _ _ => False) 0 (St0 r) := by
  refine ⟨ws_zero h, ?_, fun x P hx => ?_, fun x P hx => hx.elim⟩
  · show (0 : Int) < 1
    omega
  · obtain ⟨i, _, m⟩ := hx
    cases m

theorem ins_perm (out : List Int) (x : Int) : (insI out x).Perm (x :: out) := by
  unfold insI
  have := List.takeWhile_append_dropWhile (p := fun y => decide (y ≤ x)) (l := out)
  exact (List.perm_middle).trans (List.Perm.cons x (by rw [this]))
theorem sort_perm : ∀ (l out : List Int), (l.foldl insI out).Perm (l ++ out)
  | [], out => List.Perm.refl _
  | x :: l, out => by
    refine (sort_perm l (insI out x)).trans ?_
    refine (List.Perm.append_left l (ins_perm out x)).trans ?_
    exact List.perm_middle
theorem mem_sort {l : List Int} {x : Int} : x ∈ sortI l ↔ x ∈ l := by
  unfold sortI
  rw [(sort_perm l []).mem_iff]
  simp
theorem sort_len (l : List Int) : (sortI l).length = l.length := by
  unfold sortI
  rw [(sort_perm l []).length_eq]
  simp
theorem mem_ch {S : St} {since x : Int} : x ∈ chL S since ↔ liveS S x = true ∧ ∃ t, (x, t) ∈ S.ch ∧ since < t := by
  unfold chL
  rw [mem_sort, List.mem_map]
  constructor
  · rintro ⟨⟨y, t⟩, hy, rfl⟩
    rw [List.mem_filter, Bool.and_eq_true, decide_eq_true_eq] at hy
    exact ⟨hy.2.1, t, hy.1, hy.2.2⟩
  · rintro ⟨hl, t, ht, hs⟩
    exact ⟨(x, t), List.mem_filter.2 ⟨ht, by rw [Bool.and_eq_true, decide_eq_true_eq]; exact ⟨hl, hs⟩⟩, rfl⟩
theorem mem_go {S : St} {since x : Int} : x ∈ goL S since ↔ ∃ t, (x, t) ∈ S.go ∧ since < t := by
  unfold goL
  rw [mem_sort, List.mem_map]
  constructor
  · rintro ⟨⟨y, t⟩, hy, rfl⟩
    rw [List.mem_filter, decide_eq_true_eq] at hy
    exact ⟨t, hy.1, hy.2⟩
  · rintro ⟨t, ht, hs⟩
    exact ⟨(x, t), List.mem_filter.2 ⟨ht, by simpa using hs⟩, rfl⟩
theorem mem_all {S : St} (h : WS S) {x : Int} : x ∈ alS S ↔ liveS S x = true := by
  constructor
  · exact fun hx => live_all h.ok hx
  · intro hl
    obtain ⟨i, hi, _, hL, hx⟩ := live_spec hl
    unfold alS allL
    rw [List.mem_map]
    exact ⟨i, List.mem_filter.2 ⟨List.mem_range.2 hi, hL⟩, hx.symm⟩

theorem Fr.after {w w1 w2 : World} {L : Nat → Prop} (hb : Below w.heap.size w w1) (h : Fr w1 w2 L) : Fr w w2 L :=
  ⟨h.1.trans hb.os, h.2.1.trans hb.tape, h.2.2.1.trans hb.output, Nat.le_trans hb.size h.2.2.2.1, fun b hl hn => (h.2.2.2.2 b (Nat.lt_of_lt_of_le hl hb.size) hn).trans (hb.block b hl)⟩
theorem Fr.behind {w w1 w2 : World} {L : Nat → Prop} (h : Fr w w1 L) (hb : Below w1.heap.size w1 w2) : Fr w w2 L :=
  ⟨hb.os.trans h.1, hb.tape.trans h.2.1, hb.output.trans h.2.2.1, Nat.le_trans h.2.2.2.1 hb.size, fun b hl hn => (hb.block b (Nat.lt_of_lt_of_le hl h.2.2.2.1)).trans (h.2.2.2.2 b hl hn)⟩
section
variable {TB : World → Nat → (Nat → Prop) → Int → TR → Prop}
end
def Bd (S : St) (m : Nat) : Prop := S.ch.length ≤ m ∧ S.go.length ≤ m ∧ (∀ i, i < 32 → (S.T i).length ≤ m) ∧ 0 < S.now ∧ S.now ≤ m + 1 ∧ S.room ≤ 256
def Aw (F : Nat → Prop) (a : Option Addr) (n : Nat) : Prop := n = 0 ∨ ∀ ad, a = some ad → ¬ F ad.block
def LRes (w w' : World) (xs : List Int) (v : Value) : Prop := ∃ a cap, v = .slice a xs.length cap ∧ Row w' a xs.length xs ∧ (xs.length = 0 ∨ ∀ ad, a = some ad → w.heap.size ≤ ad.block)
def Chg (SB : World → Nat → (Nat → Prop) → St → Prop) (w w' : World) (g : Nat) (F : Nat → Prop) (S : St) : Prop := ∃ F', SB w' g F' S ∧ Fr w w' F ∧ ∀ b, F' b → F b ∨ w.heap.size ≤ b
section
variable {SB : World → Nat → (Nat → Prop) → St → Prop}
theorem Chg.of {w w1 w2 : World} {g : Nat} {F : Nat → Prop} {S : St} (h : Chg SB w1 w2 g F S) (hb : Below w.heap.size w w1) : Chg SB w w2 g F S := by
  obtain ⟨F', h1, h2, h3⟩ := h
  exact ⟨F', h1, Fr.after hb h2, fun b hf => (h3 b hf).imp_right (fun c => Nat.le_trans hb.size c)⟩
end
theorem row_frame {w w' : World} {a : Option Addr} {n : Nat} {zs : List Int} {F : Nat → Prop} (h : Row w a n zs) (ha : Aw F a n) (hf : Fr w w' F) : Row w' a n zs := by
  obtain ⟨h1, h2, h3⟩ := h
  refine ⟨h1, h2, ?_⟩
  rcases h3 with h3 | ⟨b, off, e, hc⟩
  · exact Or.inl h3
  · by_cases c : n = 0
    · exact Or.inl c
    · refine Or.inr ⟨b, off, e, fun i hi => ?_⟩
      have hci := hc i hi
      have hlt := World.block_lt_of_cell? w _ hci
      have hn : ¬ F b := ha.elim (fun d => absurd d c) (fun d => d _ e)
      rw [World.cell?_of_block (w := w) (w' := w') (hf.2.2.2.2 b hlt hn)]
      exact hci
theorem aw_new {F F' : Nat → Prop} {a : Option Addr} {n : Nat} {w : World} {zs : List Int} {z : Nat} (ha : Aw F a n) (hr : Row w a n zs) (hz : w.heap.size ≤ z) (hl : ∀ b, F' b → F b ∨ z ≤ b) : Aw F' a n := by
  rcases hr.2.2 with h3 | ⟨b, off, e, hc⟩
  · exact Or.inl h3
  · by_cases c : n = 0
    · exact Or.inl c
    · refine Or.inr (fun ad e' hf => ?_)
      have hlt := World.block_lt_of_cell? w _ (hc 0 (by omega))
      rw [e] at e'
      injection e' with e'
      rw [← e'] at hf
      rcases hl _ hf with d | d
      · exact ha.elim (fun x => absurd x c) (fun x => x _ e d)
      · have : b < w.heap.size := hlt
        have d' : z ≤ b := d
        omega
structure A8 where
  k : Int
  at_ : Int
  any : Bool
  id : Int
  P : PT
  a : Option Addr
  n : Nat
  cap : Nat
  ks : List Int
def c8 (x : A8) : List Value := .int .u8 x.k :: .int .u8 x.at_ :: .bool x.any :: .int .i64 x.id :: (pl x.P ++ [.slice x.a x.n x.cap])
theorem mark_len (ch : List (Int × Int)) (id now : Int) : (markL ch id now).length ≤ ch.length + 1 := by
  unfold markL
  rw [List.length_append]
  have := List.length_filter_le (fun x : Int × Int => x.1 != id) ch
  simp
  exact this
theorem tad_len (s : Int) (R : TR) (id : Int) (P : PT) : (tadR s R id P).length ≤ R.length + 1 := by
  unfold tadR; split
  · simp
  · omega
theorem tcu_len (R : TR) (row : Int) : (tcuR R row).length ≤ R.length := by
  unfold tcuR; split
  · rw [List.length_take, List.length_set]; omega
  · omega
theorem tpu_len (s : Int) (R : TR) (row : Int) (P : PT) : (tpuR s R row P).length = R.length := by
  unfold tpuR; split
  · rw [List.length_set]
  · rfl
theorem Bd.mono {S : St} {m m' : Nat} (h : Bd S m) (hm : m ≤ m') : Bd S m' := ⟨Nat.le_trans h.1 hm, Nat.le_trans h.2.1 hm, fun i hi => Nat.le_trans (h.2.2.1 i hi) hm, h.2.2.2.1, by have := h.2.2.2.2.1; omega, h.2.2.2.2.2⟩
theorem upf_len {T : Nat → TR} {R : TR} {k m : Nat} (h : ∀ i, i < 32 → (T i).length ≤ m) (hR : R.length ≤ m) : ∀ i, i < 32 → (upf T k R i).length ≤ m := fun i hi => by
  unfold upf
  split
  · exact hR
  · exact h i hi
theorem bd_lay {S : St} {m : Nat} (h : Bd S m) (id : Int) (P : PT) : Bd (layS S id P) (m + 1) := by
  cases ha : atS S id with
  | none => have e : layS S id P = S := by unfold layS; rw [ha]
            rw [e]; exact h.mono (by omega)
  | some i =>
    have hd : layS S id P = { S with T := layTs S.T i id P, ch := markL S.ch id S.now } := by unfold layS; rw [ha]
    rw [hd]
    obtain ⟨hi, _⟩ := at_some ha
    refine ⟨Nat.le_trans (mark_len _ _ _) (by have := h.1; omega), Nat.le_trans h.2.1 (by omega), fun j hj => ?_, h.2.2.2.1, by have := h.2.2.2.2.1; show S.now ≤ _; omega, h.2.2.2.2.2⟩
    have h3 := h.2.2.1
    show (layTs S.T i id P j).length ≤ m + 1
    unfold layTs
    split
    · exact Nat.le_trans (upf_len h3 (by rw [tpu_len]; exact h3 i hi) j hj) (by omega)
    · have h4 := upf_len (k := i) (R := tcuR (S.T i) (findI (S.T i) id)) h3 (Nat.le_trans (tcu_len _ _) (h3 i hi))
      by_cases c : P.1.toNat < 32
      · exact upf_len (m := m + 1) (fun q hq => Nat.le_trans (h4 q hq) (by omega)) (Nat.le_trans (tad_len _ _ _ _) (by have := h4 _ c; omega)) j hj
      · have e : ∀ (A : Nat → TR) B, upf A P.1.toNat B j = A j := fun A B => by unfold upf; rw [if_neg (by omega)]
        rw [e]
        exact Nat.le_trans (h4 j hj) (by omega)
theorem bd_ne {S : St} {m : Nat} (h : Bd S m) : Bd (neS S) (m + 1) :=
  ⟨Nat.le_trans h.1 (by omega), Nat.le_trans h.2.1 (by omega), fun i hi => Nat.le_trans (h.2.2.1 i hi) (by omega), by have := h.2.2.2.1; show 0 < S.now + 1; omega, by have := h.2.2.2.2.1; show S.now + 1 ≤ _; omega, h.2.2.2.2.2⟩
theorem bd_sp {S : St} {m : Nat} (h : Bd S m) (P : PT) : Bd (spS S P) (m + 1) := by
  unfold spS
  split
  · rename_i he
    obtain ⟨hr, _⟩ := sp_tk he
    obtain ⟨r1, _⟩ := right_has hr
    refine ⟨Nat.le_trans (mark_len _ _ _) (by have := h.1; omega), Nat.le_trans h.2.1 (by omega), ?_, h.2.2.2.1, by have := h.2.2.2.2.1; show S.now ≤ _; omega, h.2.2.2.2.2⟩
    exact upf_len (fun q hq => Nat.le_trans (h.2.2.1 q hq) (by omega)) (Nat.le_trans (tad_len _ _ _ _) (by have := h.2.2.1 _ r1; omega))
  · exact h.mono (by omega)
theorem bd_de {S : St} {m : Nat} (h : Bd S m) (id : Int) : Bd (deS S id) (m + 1) := by
  cases ha : atS S id with
  | none => have e : deS S id = S := by unfold deS; rw [ha]
            rw [e]; exact h.mono (by omega)
  | some i =>
    have hd : deS S id = { S with T := upf S.T i (tcuR (S.T i) (findI (S.T i) id)), G := drG S.G S.L id, L := drL S.G S.L id, go := S.go ++ [(id, S.now)] } := by unfold deS; rw [ha]
    rw [hd]
    obtain ⟨hi, _⟩ := at_some ha
    exact ⟨Nat.le_trans h.1 (by omega), by show (S.go ++ [(id, S.now)]).length ≤ _; have := h.2.1; simp; omega, upf_len (fun q hq => Nat.le_trans (h.2.2.1 q hq) (by omega)) (Nat.le_trans (tcu_len _ _) (by have := h.2.2.1 i hi; omega)), h.2.2.2.1, by have := h.2.2.2.2.1; show S.now ≤ _; omega, h.2.2.2.2.2⟩
section
variable {SB : World → Nat → (Nat → Prop) → St → Prop}
end
def PXs (X : List Value) : Prop := X.length = 24 ∧ (Tryz.prog.info? 43).map (·.size) = some X.length ∧ (Tryz.prog.info? 43).map (·.size) = some X.toArray.size ∧ X.toArray.all (·.oneCell') = true
theorem psame_yes {a b : Option Addr} {n m cap cap' : Nat} {xs : List Int} {w : World} (row : Row w a n xs) (row' : Row w b m xs) : Calls Tryz.prog 25 #[.slice a n cap, .slice b m cap'] w fun e w' => e = .returned (.bool true) ∧ Below w.heap.size w w' :=
  (psame_any a b n m cap cap' xs xs w row row').mono fun _ _ k => ⟨by rw [k.1]; simp, k.2⟩
section
variable {SB : World → Nat → (Nat → Prop) → St → Prop}
end
end Go.Proofs.YtkondkajpmafkaaGreat
