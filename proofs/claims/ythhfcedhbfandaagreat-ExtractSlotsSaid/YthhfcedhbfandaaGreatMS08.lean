/-
  8 texts in one file, each with its own heading.
-/
import Derived.Test.YthhfcedhbfandaaGreatMS07
import Derived.Deep.RegionHeld3
import Derived.Deep.Cut
import Derived.Deep.CutRange
import Derived.Maps.AppendAt
import Derived.Shelf.SlIterI.Nil
import Derived.Shelf.SortM.Plain
import Derived.Shelf.SortM.SortNone
import Derived.Shelf.SlicesG.Clone
import Derived.Test.YthhfcedhbfandaaGreatProg
import Derived.Lib.SlKeysI
/-
  A store's calls keep what holds of every store; all changes are told: plain reasoning.
-/
namespace Go.Proofs.YthhfcedhbfandaaGreat
open Go.RowKit

theorem live_iff {G : Nat → Int} {L : Nat → Bool} {x : Int} : liveB G L x = true ↔ 0 ≤ x ∧ x < 16777216 ∧ L (x % 256).toNat = true ∧ G (x % 256).toNat = x / 256 := by
  unfold liveB idOk
  simp [and_assoc]
theorem live_take {G : Nat → Int} {L : Nat → Bool} {R i : Nat} (h : tkI G L R = some i) (hp : POk R G L) (x : Int) : liveB G (tkL G L R) x = true ↔ liveB G L x = true ∨ x = tkV G L R := by
  obtain ⟨h1, h2, h3⟩ := tk_spec h
  have hi : i < 256 := by have := hp.1; omega
  have hg := (hp.2.1 i).1
  rw [(tk_some_v h).1, show tkL G L R = upd L i true by unfold tkL; rw [h], live_iff, live_iff]
  unfold nm upd
  by_cases c : (x % 256).toNat = i
  · rw [c, if_pos rfl, h2]
    constructor
    · rintro ⟨a, b, _, d⟩
      right; omega
    · rintro (⟨_, _, d, _⟩ | d)
      · cases d
      · refine ⟨by omega, by omega, rfl, by omega⟩
  · rw [if_neg c]
    constructor
    · exact fun a => Or.inl a
    · rintro (a | d)
      · exact a
      · exact absurd (show (x % 256).toNat = i by omega) c
theorem dead_new {G : Nat → Int} {L : Nat → Bool} {R i : Nat} (h : tkI G L R = some i) (hp : POk R G L) : liveB G L (tkV G L R) = false := by
  obtain ⟨h1, h2, h3⟩ := tk_spec h
  have hi : i < 256 := by have := hp.1; omega
  have hg := (hp.2.1 i).1
  rw [Bool.eq_false_iff, (tk_some_v h).1]
  intro c
  rw [live_iff] at c
  unfold nm at c
  rw [show ((256 * G i + (i : Int)) % 256).toNat = i by omega, h2] at c
  cases c.2.2.1
theorem live_drop {G : Nat → Int} {L : Nat → Bool} {y : Int} (hl : liveB G L y = true) (x : Int) : liveB (drG G L y) (drL G L y) x = true ↔ liveB G L x = true ∧ x ≠ y := by
  have hy := live_iff.1 hl
  unfold drG drL
  rw [if_pos hl, if_pos hl, live_iff, live_iff]
  unfold upd
  by_cases c : (x % 256).toNat = (y % 256).toNat
  · rw [if_pos c, if_pos c]
    constructor
    · rintro ⟨_, _, d, _⟩
      cases d
    · rintro ⟨⟨a, b, d, e⟩, n⟩
      rw [c] at e
      omega
  · rw [if_neg c, if_neg c]
    constructor
    · exact fun a => ⟨a, fun e => c (by rw [e])⟩
    · exact fun a => a.1

theorem ws_put {S S' : St} (h : WS S) {id : Int} {s : Nat} {P : PT} (hs : s < 32) (hf : fitsB s P = true) (hm : ∀ j, j < 32 → ∀ x Q, (x, Q) ∈ S'.T j ↔ ((x, Q) ∈ S.T j ∧ x ≠ id) ∨ (j = s ∧ x = id ∧ Q = P))
    (hn : ∀ i, i < 32 → ((S'.T i).map Prod.fst).Nodup) (hl : ∀ x, liveS S' x = true ↔ liveS S x = true ∨ x = id) (hok : POk S'.room S'.G S'.L) : WS S' ∧ ∀ x Q, inS S' x Q ↔ (inS S x Q ∧ x ≠ id) ∨ (x = id ∧ Q = P) := by
  have hin : ∀ x Q, inS S' x Q ↔ (inS S x Q ∧ x ≠ id) ∨ (x = id ∧ Q = P) := fun x Q => by
    constructor
    · rintro ⟨j, hj, m⟩
      rcases (hm j hj x Q).1 m with ⟨a, b⟩ | ⟨_, b, d⟩
      · exact Or.inl ⟨⟨j, hj, a⟩, b⟩
      · exact Or.inr ⟨b, d⟩
    · rintro (⟨⟨j, hj, m⟩, b⟩ | ⟨b, d⟩)
      · exact ⟨j, hj, (hm j hj x Q).2 (Or.inl ⟨m, b⟩)⟩
      · exact ⟨s, hs, (hm s hs x Q).2 (Or.inr ⟨rfl, b, d⟩)⟩
  refine ⟨⟨hn, fun i hi j hj hne x A B m1 m2 => ?_, fun i hi x m => ?_, fun x => ?_, hok⟩, hin⟩
  · rcases (hm i hi x A).1 m1 with ⟨a, b⟩ | ⟨e, b, _⟩
    · rcases (hm j hj x B).1 m2 with ⟨c, _⟩ | ⟨_, d, _⟩
      · exact h.apart i hi j hj hne x A B a c
      · exact b d
    · rcases (hm j hj x B).1 m2 with ⟨_, d⟩ | ⟨e', _, _⟩
      · exact d b
      · exact hne (e.trans e'.symm)
  · obtain ⟨x, Q⟩ := x
    rcases (hm i hi x Q).1 m with ⟨a, _⟩ | ⟨e, _, d⟩
    · exact h.fit i hi _ a
    · rw [e, d]; exact hf
  · rw [hl, h.live]
    constructor
    · rintro (⟨Q, hQ⟩ | e)
      · by_cases c : x = id
        · exact ⟨P, (hin x P).2 (Or.inr ⟨c, rfl⟩)⟩
        · exact ⟨Q, (hin x Q).2 (Or.inl ⟨hQ, c⟩)⟩
      · exact ⟨P, (hin x P).2 (Or.inr ⟨e, rfl⟩)⟩
    · rintro ⟨Q, hQ⟩
      rcases (hin x Q).1 hQ with ⟨a, _⟩ | ⟨a, _⟩
      · exact Or.inl ⟨Q, a⟩
      · exact Or.inr a
theorem ws_cut {S S' : St} (h : WS S) {id : Int} (hm : ∀ j, j < 32 → ∀ x Q, (x, Q) ∈ S'.T j ↔ (x, Q) ∈ S.T j ∧ x ≠ id)
    (hn : ∀ i, i < 32 → ((S'.T i).map Prod.fst).Nodup) (hl : ∀ x, liveS S' x = true ↔ liveS S x = true ∧ x ≠ id) (hok : POk S'.room S'.G S'.L) : WS S' ∧ ∀ x Q, inS S' x Q ↔ inS S x Q ∧ x ≠ id := by
  have hin : ∀ x Q, inS S' x Q ↔ inS S x Q ∧ x ≠ id := fun x Q => by
    constructor
    · rintro ⟨j, hj, m⟩
      obtain ⟨a, b⟩ := (hm j hj x Q).1 m
      exact ⟨⟨j, hj, a⟩, b⟩
    · rintro ⟨⟨j, hj, m⟩, b⟩
      exact ⟨j, hj, (hm j hj x Q).2 ⟨m, b⟩⟩
  refine ⟨⟨hn, fun i hi j hj hne x A B m1 m2 => h.apart i hi j hj hne x A B ((hm i hi x A).1 m1).1 ((hm j hj x B).1 m2).1, fun i hi x m => ?_, fun x => ?_, hok⟩, hin⟩
  · obtain ⟨x, Q⟩ := x
    exact h.fit i hi _ ((hm i hi x Q).1 m).1
  · rw [hl, h.live]
    constructor
    · rintro ⟨⟨Q, hQ⟩, e⟩
      exact ⟨Q, (hin x Q).2 ⟨hQ, e⟩⟩
    · rintro ⟨Q, hQ⟩
      obtain ⟨a, b⟩ := (hin x Q).1 hQ
      exact ⟨⟨Q, a⟩, b⟩
theorem no_id {S : St} (h : WS S) {id : Int} (hd : liveS S id = false) {j : Nat} (hj : j < 32) : hasId (S.T j) id = false := by
  rw [Bool.eq_false_iff]
  intro c
  obtain ⟨P, hP⟩ := hasId_mem.1 c
  have := (h.live id).2 ⟨P, j, hj, hP⟩
  rw [hd] at this
  cases this
theorem ws_zero {r : Nat} (h : r ≤ 256) : WS (St0 r) := by
  refine ⟨fun i _ => List.nodup_nil, fun i _ j _ _ x P Q m => ?_, fun i _ x m => ?_, fun x => ?_, POk.zero h⟩
  · cases m
  · cases m
  · constructor
    · intro c
      unfold liveS at c
      rw [live_iff] at c
      cases c.2.2.1
    · rintro ⟨P, j, _, m⟩
      cases m
theorem sp_tk {S : St} {P : PT} (h : spE S P = 0) : rightT P = true ∧ ∃ i, tkI S.G S.L S.room = some i := by
  unfold spE at h
  by_cases c : rightT P = true
  · rw [if_pos c] at h
    refine ⟨c, ?_⟩
    cases d : tkI S.G S.L S.room with
    | none => unfold tkE at h; rw [d] at h; cases h
    | some i => exact ⟨i, rfl⟩
  · rw [if_neg c] at h
    cases h
theorem ws_spawn {S : St} (h : WS S) {P : PT} (he : spE S P = 0) : WS (spS S P) ∧ liveS S (spV S P) = false ∧ ∀ x Q, inS (spS S P) x Q ↔ (inS S x Q ∧ x ≠ spV S P) ∨ (x = spV S P ∧ Q = P) := by
  obtain ⟨hr, i, ht⟩ := sp_tk he
  obtain ⟨r1, r2, _, _⟩ := right_has hr
  have hv : spV S P = tkV S.G S.L S.room := by unfold spV; rw [if_pos he]
  have hd : liveS S (spV S P) = false := by rw [hv]; exact dead_new ht h.ok
  have hfit : fitsB (P.1.toNat : Nat) P = true := fits_iff.2 ⟨hr, r2.symm⟩
  have hT : (spS S P).T = upf S.T P.1.toNat (S.T P.1.toNat ++ [(spV S P, P)]) := by
    unfold spS
    rw [if_pos he]
    simp only
    have := mem_add (R := S.T P.1.toNat) (id := spV S P) hfit (no_id h hd r1)
    rw [r2] at this
    rw [← hv, this]
  have hn : ∀ {j : Nat}, j < 32 → hasId (S.T j) (spV S P) = false := fun {j} hj => no_id h hd hj
  obtain ⟨w1, w2⟩ := ws_put (S' := spS S P) (id := spV S P) h r1 hfit (fun j hj x Q => by
      rw [hT]
      unfold upf
      have hne : (x, Q) ∈ S.T j → x ≠ spV S P := fun m e => by
        have := hn hj
        rw [Bool.eq_false_iff] at this
        exact this (hasId_mem.2 ⟨Q, e ▸ m⟩)
      by_cases c : j = P.1.toNat
      · rw [if_pos c, List.mem_append, List.mem_singleton, Prod.mk.injEq, ← c]
        constructor
        · rintro (m | m)
          · exact Or.inl ⟨m, hne m⟩
          · exact Or.inr ⟨rfl, m.1, m.2⟩
        · rintro (m | m)
          · exact Or.inl m.1
          · exact Or.inr m.2
      · rw [if_neg c]
        constructor
        · exact fun m => Or.inl ⟨m, hne m⟩
        · rintro (m | m)
          · exact m.1
          · exact absurd m.1 c) (fun j hj => by
      rw [hT]
      unfold upf
      by_cases c : j = P.1.toNat
      · rw [if_pos c, List.map_append]
        refine List.nodup_append.2 ⟨h.nod _ r1, by simp, fun a ha b hb => ?_⟩
        simp at hb
        rw [hb]
        rintro rfl
        obtain ⟨⟨y, Q⟩, hy, rfl⟩ := List.mem_map.1 ha
        have := hn r1
        rw [Bool.eq_false_iff] at this
        exact this (hasId_mem.2 ⟨Q, hy⟩)
      · rw [if_neg c]; exact h.nod j hj) (fun x => by
      have := live_take ht h.ok x
      unfold liveS spS
      rw [if_pos he]
      simp only
      rw [hv]
      exact this) (by
      unfold spS
      rw [if_pos he]
      exact h.ok.take)
  exact ⟨w1, hd, w2⟩
theorem ws_despawn {S : St} (h : WS S) {id : Int} {i : Nat} (ha : atS S id = some i) : WS (deS S id) ∧ ∀ x Q, inS (deS S id) x Q ↔ inS S x Q ∧ x ≠ id := by
  obtain ⟨hi, hh⟩ := at_some ha
  have hl : liveB S.G S.L id = true := (h.live id).2 ⟨_, i, hi, at_get h ha⟩
  have hd : deS S id = { S with T := upf S.T i (tcuR (S.T i) (findI (S.T i) id)), G := drG S.G S.L id, L := drL S.G S.L id, go := S.go ++ [(id, S.now)] } := by unfold deS; rw [ha]
  rw [hd]
  refine ws_cut h (fun j hj x Q => ?_) (fun j hj => ?_) (fun x => live_drop hl x) (h.ok.drop id)
  · simp only
    unfold upf
    by_cases c : j = i
    · rw [if_pos c, mem_cut (h.nod i hi) hh, c]
    · rw [if_neg c]
      exact ⟨fun m => ⟨m, fun e => h.apart j hj i hi c x Q _ m (e ▸ at_get h ha)⟩, fun m => m.1⟩
  · simp only
    unfold upf
    by_cases c : j = i
    · rw [if_pos c]; exact nod_cut (h.nod i hi) hh
    · rw [if_neg c]; exact h.nod j hj
theorem ws_lay {S : St} (h : WS S) {id : Int} {i : Nat} (ha : atS S id = some i) {P : PT} (hr : rightT P = true) : WS (layS S id P) ∧ ∀ x Q, inS (layS S id P) x Q ↔ (inS S x Q ∧ x ≠ id) ∨ (x = id ∧ Q = P) := by
  obtain ⟨hi, hh⟩ := at_some ha
  obtain ⟨r1, r2, _, _⟩ := right_has hr
  have hl : liveB S.G S.L id = true := (h.live id).2 ⟨_, i, hi, at_get h ha⟩
  have hfit : fitsB (P.1.toNat : Nat) P = true := fits_iff.2 ⟨hr, r2.symm⟩
  have hd : layS S id P = { S with T := layTs S.T i id P, ch := markL S.ch id S.now } := by unfold layS; rw [ha]
  have hne : ∀ j, j < 32 → j ≠ i → ∀ x Q, (x, Q) ∈ S.T j → x ≠ id := fun j hj c x Q m e => h.apart j hj i hi c x Q _ m (e ▸ at_get h ha)
  rw [hd]
  by_cases c : i = P.1.toNat
  · have hT : layTs S.T i id P = upf S.T i (tpuR i (S.T i) (findI (S.T i) id) P) := by unfold layTs; rw [if_pos c]
    refine ws_put h r1 hfit (fun j hj x Q => ?_) (fun j hj => ?_) (fun x => ?_) h.ok
    · simp only
      rw [hT]
      unfold upf
      by_cases d : j = i
      · rw [if_pos d, mem_put (h.nod i hi) hh (c ▸ hfit), d, Prod.mk.injEq]
        constructor
        · rintro (m | m)
          · exact Or.inl m
          · exact Or.inr ⟨c, m⟩
        · rintro (m | m)
          · exact Or.inl m
          · exact Or.inr m.2
      · rw [if_neg d]
        constructor
        · exact fun m => Or.inl ⟨m, hne j hj d x Q m⟩
        · rintro (m | m)
          · exact m.1
          · exact absurd (m.1.trans c.symm) d
    · simp only
      rw [hT]
      unfold upf
      by_cases d : j = i
      · rw [if_pos d]; exact nod_put (h.nod i hi) hh (c ▸ hfit)
      · rw [if_neg d]; exact h.nod j hj
    · exact ⟨fun a => Or.inl a, fun a => a.elim (fun b => b) (fun b => b ▸ hl)⟩
  · have hid : hasId (S.T P.1.toNat) id = false := by
      rw [Bool.eq_false_iff]
      intro e
      obtain ⟨Q, hQ⟩ := hasId_mem.1 e
      exact hne _ r1 (fun e => c e.symm) id Q hQ rfl
    have hT : layTs S.T i id P = upf (upf S.T i (tcuR (S.T i) (findI (S.T i) id))) P.1.toNat (S.T P.1.toNat ++ [(id, P)]) := by
      unfold layTs
      rw [if_neg c]
      have e : upf S.T i (tcuR (S.T i) (findI (S.T i) id)) P.1.toNat = S.T P.1.toNat := by unfold upf; rw [if_neg (fun e => c e.symm)]
      rw [e]
      have := mem_add (R := S.T P.1.toNat) (id := id) hfit hid
      rw [r2] at this
      rw [this]
    refine ws_put h r1 hfit (fun j hj x Q => ?_) (fun j hj => ?_) (fun x => ?_) h.ok
    · simp only
      rw [hT]
      unfold upf
      by_cases d : j = P.1.toNat
      · rw [if_pos d, List.mem_append, List.mem_singleton, Prod.mk.injEq, ← d]
        constructor
        · rintro (m | m)
          · exact Or.inl ⟨m, hne j hj (fun e => c (e.symm.trans d)) x Q m⟩
          · exact Or.inr ⟨rfl, m⟩
        · rintro (m | m)
          · exact Or.inl m.1
          · exact Or.inr m.2
      · rw [if_neg d]
        by_cases e : j = i
        · rw [if_pos e, mem_cut (h.nod i hi) hh, e]
          constructor
          · exact fun m => Or.inl m
          · rintro (m | m)
            · exact m
            · exact absurd m.1 (fun x => c x)
        · rw [if_neg e]
          constructor
          · exact fun m => Or.inl ⟨m, hne j hj e x Q m⟩
          · rintro (m | m)
            · exact m.1
            · exact absurd m.1 d
    · simp only
      rw [hT]
      unfold upf
      by_cases d : j = P.1.toNat
      · rw [if_pos d, List.map_append]
        refine List.nodup_append.2 ⟨h.nod _ r1, by simp, fun a ha' b hb => ?_⟩
        simp at hb
        rw [hb]
        rintro rfl
        obtain ⟨⟨y, Q⟩, hy, rfl⟩ := List.mem_map.1 ha'
        rw [Bool.eq_false_iff] at hid
        exact hid (hasId_mem.2 ⟨Q, hy⟩)
      · rw [if_neg d]
        by_cases e : j = i
        · rw [if_pos e]; exact nod_cut (h.nod i hi) hh
        · rw [if_neg e]; exact h.nod j hj
    · exact ⟨fun a => Or.inl a, fun a => a.elim (fun b => b) (fun b => b ▸ hl)⟩
theorem pu_at {S : St} {id : Int} {Q : PT} {ks : List Int} (he : puE S id Q ks = 0) : ∃ i, atS S id = some i ∧ rightT (withV (getP S id) Q ks) = true := by
  unfold puE at he
  by_cases c : getB S id = true
  · rw [if_pos c] at he
    obtain ⟨i, hi⟩ := Option.isSome_iff_exists.1 c
    refine ⟨i, hi, ?_⟩
    unfold withE at he
    by_cases d : withOk (getP S id) Q ks = true
    · have d' := d
      unfold withOk at d
      rw [Bool.and_eq_true, Bool.and_eq_true] at d
      unfold withV
      rw [if_pos d']
      exact right_with ks d.1.1 d.1.2 d.2
    · rw [if_neg d] at he; cases he
  · rw [if_neg c] at he; cases he
theorem cu_at {S : St} {id : Int} {ks : List Int} (he : cuE S id ks = 0) : ∃ i, atS S id = some i ∧ rightT (woutV (getP S id) ks) = true := by
  unfold cuE at he
  by_cases c : getB S id = true
  · rw [if_pos c] at he
    obtain ⟨i, hi⟩ := Option.isSome_iff_exists.1 c
    refine ⟨i, hi, ?_⟩
    unfold woutE at he
    by_cases d : woutOk (getP S id) ks = true
    · have d' := d
      unfold woutOk at d
      rw [Bool.and_eq_true] at d
      unfold woutV
      rw [if_pos d']
      exact right_wout ks d.1 d.2
    · rw [if_neg d] at he; cases he
  · rw [if_neg c] at he; cases he

theorem mark_mem {ch : List (Int × Int)} {id now x t since : Int} (h : (x, t) ∈ ch) (ht : since < t) (hn : since < now) : ∃ t', (x, t') ∈ markL ch id now ∧ since < t' := by
  unfold markL
  by_cases c : x = id
  · exact ⟨now, by rw [c]; simp, hn⟩
  · exact ⟨t, List.mem_append.2 (Or.inl (List.mem_filter.2 ⟨h, by simpa using c⟩)), ht⟩
theorem mark_new (ch : List (Int × Int)) (id now : Int) : (id, now) ∈ markL ch id now := by unfold markL; simp
structure Told (S1 : St → Prop) (I : Int → PT → Prop) (since : Int) (S : St) : Prop where
  ws : WS S
  now : since < S.now
  chg : ∀ x P, inS S x P → I x P ∨ ∃ t, (x, t) ∈ S.ch ∧ since < t
  gon : ∀ x P, I x P → (∃ Q, inS S x Q) ∨ ∃ t, (x, t) ∈ S.go ∧ since < t
theorem Told.put {N : St → Prop} {I : Int → PT → Prop} {since : Int} {S S' : St} (h : Told N I since S) {id : Int} {P : PT} (hw : WS S') (hin : ∀ x Q, inS S' x Q ↔ (inS S x Q ∧ x ≠ id) ∨ (x = id ∧ Q = P)) (hnow : S'.now = S.now) (hch : S'.ch = markL S.ch id S.now) (hgo : S'.go = S.go) : Told N I since S' := by
  refine ⟨hw, hnow ▸ h.now, fun x Q hx => ?_, fun x Q hx => ?_⟩
  · rw [hch]
    rcases (hin x Q).1 hx with ⟨a, b⟩ | ⟨a, _⟩
    · rcases h.chg x Q a with c | ⟨t, c, d⟩
      · exact Or.inl c
      · exact Or.inr (mark_mem c d h.now)
    · exact Or.inr ⟨S.now, by rw [a]; exact mark_new _ _ _, h.now⟩
  · rw [hgo]
    rcases h.gon x Q hx with ⟨A, hA⟩ | c
    · by_cases e : x = id
      · exact Or.inl ⟨P, (hin x P).2 (Or.inr ⟨e, rfl⟩)⟩
      · exact Or.inl ⟨A, (hin x A).2 (Or.inl ⟨hA, e⟩)⟩
    · exact Or.inr c
theorem Told.spawn {N : St → Prop} {I : Int → PT → Prop} {since : Int} {S : St} (h : Told N I since S) (P : PT) : Told N I since (spS S P) := by
  by_cases he : spE S P = 0
  · obtain ⟨w1, _, w2⟩ := ws_spawn h.ws he
    refine h.put w1 w2 (by unfold spS; rw [if_pos he]) ?_ (by unfold spS; rw [if_pos he])
    unfold spS spV
    rw [if_pos he, if_pos he]
  · unfold spS; rw [if_neg he]; exact h
theorem Told.lay {N : St → Prop} {I : Int → PT → Prop} {since : Int} {S : St} (h : Told N I since S) {id : Int} {i : Nat} (ha : atS S id = some i) {P : PT} (hr : rightT P = true) : Told N I since (layS S id P) := by
  obtain ⟨w1, w2⟩ := ws_lay h.ws ha hr
  have hd : layS S id P = { S with T := layTs S.T i id P, ch := markL S.ch id S.now } := by unfold layS; rw [ha]
  exact h.put w1 w2 (by rw [hd]) (by rw [hd]) (by rw [hd])
theorem Told.pu {N : St → Prop} {I : Int → PT → Prop} {since : Int} {S : St} (h : Told N I since S) (id : Int) (Q : PT) (ks : List Int) : Told N I since (puS S id Q ks) := by
  unfold puS
  by_cases he : puE S id Q ks = 0
  · obtain ⟨i, ha, hr⟩ := pu_at he
    rw [if_pos he]
    exact h.lay ha hr
  · rw [if_neg he]; exact h
theorem Told.cu {N : St → Prop} {I : Int → PT → Prop} {since : Int} {S : St} (h : Told N I since S) (id : Int) (ks : List Int) : Told N I since (cuS S id ks) := by
  unfold cuS
  by_cases he : cuE S id ks = 0
  · obtain ⟨i, ha, hr⟩ := cu_at he
    rw [if_pos he]
    exact h.lay ha hr
  · rw [if_neg he]; exact h
theorem Told.de {N : St → Prop} {I : Int → PT → Prop} {since : Int} {S : St} (h : Told N I since S) (id : Int) : Told N I since (deS S id) := by
  cases ha : atS S id with
  | none => have e : deS S id = S := by unfold deS; rw [ha]
            rw [e]; exact h
  | some i =>
    obtain ⟨w1, w2⟩ := ws_despawn h.ws ha
    have hd : deS S id = { S with T := upf S.T i (tcuR (S.T i) (findI (S.T i) id)), G := drG S.G S.L id, L := drL S.G S.L id, go := S.go ++ [(id, S.now)] } := by unfold deS; rw [ha]
    refine ⟨w1, by rw [hd]; exact h.now, fun x Q hx => ?_, fun x Q hx => ?_⟩
    · rw [hd]
      exact h.chg x Q ((w2 x Q).1 hx).1
    · rcases h.gon x Q hx with ⟨A, hA⟩ | ⟨t, c, d⟩
      · by_cases e : x = id
        · refine Or.inr ⟨S.now, ?_, h.now⟩
          rw [hd, e]
          simp
        · exact Or.inl ⟨A, (w2 x A).2 ⟨hA, e⟩⟩
      · refine Or.inr ⟨t, ?_, d⟩
        rw [hd]
        exact List.mem_append.2 (Or.inl c)
theorem Told.to1 {N : St → Prop} {I : Int → PT → Prop} {since : Int} {S : St} (h : Told N I since S) (id : Int) : Told N I since (to1 S id) := by
  unfold Go.Proofs.YthhfcedhbfandaaGreat.to1
  by_cases c : liveS S id = true
  · rw [if_pos c]
    refine ⟨⟨h.ws.nod, h.ws.apart, h.ws.fit, h.ws.live, h.ws.ok⟩, h.now, fun x P hx => ?_, h.gon⟩
    rcases h.chg x P hx with a | ⟨t, a, b⟩
    · exact Or.inl a
    · exact Or.inr (mark_mem a b h.now)
  · rw [if_neg c]; exact h
theorem Told.to {N : St → Prop} {I : Int → PT → Prop} {since : Int} : ∀ (l : List Int) {S : St}, Told N I since S → Told N I since (toS S l)
  | [], _, h => h
  | x :: l, _, h => Told.to l (h.to1 x)
theorem Told.ne {N : St → Prop} {I : Int → PT → Prop} {since : Int} {S : St} (h : Told N I since S) : Told N I since (neS S) :=
  ⟨⟨h.ws.nod, h.ws.apart, h.ws.fit, h.ws.live, h.ws.ok⟩, Int.lt_trans h.now (by show S.now < S.now + 1; omega), h.chg, h.gon⟩
theorem Told.start {S : St} (h : WS S) : Told (fun _ => True) (fun x P => inS S x P) S.now (neS S) :=
  ⟨⟨h.nod, h.apart, h.fit, h.live, h.ok⟩, by show S.now < S.now + 1; omega, fun x P hx => Or.inl hx, fun x P hx => Or.inl ⟨P, hx⟩⟩
theorem Told.first {r : Nat} (h : r ≤ 256) : Told (fun _ => True) (fun _ _ => False) 0 (St0 r) := by
  refine ⟨ws_zero h, ?_, fun x P hx => ?_, fun x P hx => hx.elim⟩
  · show (0 : Int) < 1
    omega
  · obtain ⟨i, _, m⟩ := hx
    cases m

theorem ins_perm (out : List Int) (x : Int) : (insI out x).Perm (x :: out) := by
  unfold insI
  have := List.takeWhile_append_dropWhile (p := fun y => decide (y ≤ x)) (l := out)
  exact (List.perm_middle).trans (List.Perm.cons x (by rw [this]))
theorem sort_perm : ∀ (l out : List Int), (l.foldl insI out).Perm (l ++ out)
  | [], out => List.Perm.refl _
  | x :: l, out => by
    refine (sort_perm l (insI out x)).trans ?_
    refine (List.Perm.append_left l (ins_perm out x)).trans ?_
    exact List.perm_middle
theorem mem_sort {l : List Int} {x : Int} : x ∈ sortI l ↔ x ∈ l := by
  unfold sortI
  rw [(sort_perm l []).mem_iff]
  simp
theorem sort_len (l : List Int) : (sortI l).length = l.length := by
  unfold sortI
  rw [(sort_perm l []).length_eq]
  simp
theorem mem_ch {S : St} {since x : Int} : x ∈ chL S since ↔ liveS S x = true ∧ ∃ t, (x, t) ∈ S.ch ∧ since < t := by
  unfold chL
  rw [mem_sort, List.mem_map]
  constructor
  · rintro ⟨⟨y, t⟩, hy, rfl⟩
    rw [List.mem_filter, Bool.and_eq_true, decide_eq_true_eq] at hy
    exact ⟨hy.2.1, t, hy.1, hy.2.2⟩
  · rintro ⟨hl, t, ht, hs⟩
    exact ⟨(x, t), List.mem_filter.2 ⟨ht, by rw [Bool.and_eq_true, decide_eq_true_eq]; exact ⟨hl, hs⟩⟩, rfl⟩
theorem mem_go {S : St} {since x : Int} : x ∈ goL S since ↔ ∃ t, (x, t) ∈ S.go ∧ since < t := by
  unfold goL
  rw [mem_sort, List.mem_map]
  constructor
  · rintro ⟨⟨y, t⟩, hy, rfl⟩
    rw [List.mem_filter, decide_eq_true_eq] at hy
    exact ⟨t, hy.1, hy.2⟩
  · rintro ⟨t, ht, hs⟩
    exact ⟨(x, t), List.mem_filter.2 ⟨ht, by simpa using hs⟩, rfl⟩
theorem mem_all {S : St} (h : WS S) {x : Int} : x ∈ alS S ↔ liveS S x = true := by
  constructor
  · exact fun hx => live_all h.ok hx
  · intro hl
    obtain ⟨i, hi, _, hL, hx⟩ := live_spec hl
    unfold alS allL
    rw [List.mem_map]
    exact ⟨i, List.mem_filter.2 ⟨List.mem_range.2 hi, hL⟩, hx.symm⟩

theorem Fr.after {w w1 w2 : World} {L : Nat → Prop} (hb : Below w.heap.size w w1) (h : Fr w1 w2 L) : Fr w w2 L :=
  ⟨h.1.trans hb.os, h.2.1.trans hb.tape, h.2.2.1.trans hb.output, Nat.le_trans hb.size h.2.2.2.1, fun b hl hn => (h.2.2.2.2 b (Nat.lt_of_lt_of_le hl hb.size) hn).trans (hb.block b hl)⟩
theorem Fr.behind {w w1 w2 : World} {L : Nat → Prop} (h : Fr w w1 L) (hb : Below w1.heap.size w1 w2) : Fr w w2 L :=
  ⟨hb.os.trans h.1, hb.tape.trans h.2.1, hb.output.trans h.2.2.1, Nat.le_trans h.2.2.2.1 hb.size, fun b hl hn => (hb.block b (Nat.lt_of_lt_of_le hl h.2.2.2.1)).trans (h.2.2.2.2 b hl hn)⟩
section
variable {TB : World → Nat → (Nat → Prop) → Int → TR → Prop}
end
def Bd (S : St) (m : Nat) : Prop := S.ch.length ≤ m ∧ S.go.length ≤ m ∧ (∀ i, i < 32 → (S.T i).length ≤ m) ∧ 0 < S.now ∧ S.now ≤ m + 1 ∧ S.room ≤ 256
def Aw (F : Nat → Prop) (a : Option Addr) (n : Nat) : Prop := n = 0 ∨ ∀ ad, a = some ad → ¬ F ad.block
def LRes (w w' : World) (xs : List Int) (v : Value) : Prop := ∃ a cap, v = .slice a xs.length cap ∧ Row w' a xs.length xs ∧ (xs.length = 0 ∨ ∀ ad, a = some ad → w.heap.size ≤ ad.block)
def Chg (SB : World → Nat → (Nat → Prop) → St → Prop) (w w' : World) (g : Nat) (F : Nat → Prop) (S : St) : Prop := ∃ F', SB w' g F' S ∧ Fr w w' F ∧ ∀ b, F' b → F b ∨ w.heap.size ≤ b
section
variable {SB : World → Nat → (Nat → Prop) → St → Prop}
theorem Chg.of {w w1 w2 : World} {g : Nat} {F : Nat → Prop} {S : St} (h : Chg SB w1 w2 g F S) (hb : Below w.heap.size w w1) : Chg SB w w2 g F S := by
  obtain ⟨F', h1, h2, h3⟩ := h
  exact ⟨F', h1, Fr.after hb h2, fun b hf => (h3 b hf).imp_right (fun c => Nat.le_trans hb.size c)⟩
end
theorem row_frame {w w' : World} {a : Option Addr} {n : Nat} {zs : List Int} {F : Nat → Prop} (h : Row w a n zs) (ha : Aw F a n) (hf : Fr w w' F) : Row w' a n zs := by
  obtain ⟨h1, h2, h3⟩ := h
  refine ⟨h1, h2, ?_⟩
  rcases h3 with h3 | ⟨b, off, e, hc⟩
  · exact Or.inl h3
  · by_cases c : n = 0
    · exact Or.inl c
    · refine Or.inr ⟨b, off, e, fun i hi => ?_⟩
      have hci := hc i hi
      have hlt := World.block_lt_of_cell? w _ hci
      have hn : ¬ F b := ha.elim (fun d => absurd d c) (fun d => d _ e)
      rw [World.cell?_of_block (w := w) (w' := w') (hf.2.2.2.2 b hlt hn)]
      exact hci
theorem aw_new {F F' : Nat → Prop} {a : Option Addr} {n : Nat} {w : World} {zs : List Int} {z : Nat} (ha : Aw F a n) (hr : Row w a n zs) (hz : w.heap.size ≤ z) (hl : ∀ b, F' b → F b ∨ z ≤ b) : Aw F' a n := by
  rcases hr.2.2 with h3 | ⟨b, off, e, hc⟩
  · exact Or.inl h3
  · by_cases c : n = 0
    · exact Or.inl c
    · refine Or.inr (fun ad e' hf => ?_)
      have hlt := World.block_lt_of_cell? w _ (hc 0 (by omega))
      rw [e] at e'
      injection e' with e'
      rw [← e'] at hf
      rcases hl _ hf with d | d
      · exact ha.elim (fun x => absurd x c) (fun x => x _ e d)
      · have : b < w.heap.size := hlt
        have d' : z ≤ b := d
        omega
structure A8 where
  k : Int
  at_ : Int
  any : Bool
  id : Int
  P : PT
  a : Option Addr
  n : Nat
  cap : Nat
  ks : List Int
def c8 (x : A8) : List Value := .int .u8 x.k :: .int .u8 x.at_ :: .bool x.any :: .int .i64 x.id :: (pl x.P ++ [.slice x.a x.n x.cap])
theorem mark_len (ch : List (Int × Int)) (id now : Int) : (markL ch id now).length ≤ ch.length + 1 := by
  unfold markL
  rw [List.length_append]
  have := List.length_filter_le (fun x : Int × Int => x.1 != id) ch
  simp
  exact this
theorem tad_len (s : Int) (R : TR) (id : Int) (P : PT) : (tadR s R id P).length ≤ R.length + 1 := by
  unfold tadR; split
  · simp
  · omega
theorem tcu_len (R : TR) (row : Int) : (tcuR R row).length ≤ R.length := by
  unfold tcuR; split
  · rw [List.length_take, List.length_set]; omega
  · omega
theorem tpu_len (s : Int) (R : TR) (row : Int) (P : PT) : (tpuR s R row P).length = R.length := by
  unfold tpuR; split
  · rw [List.length_set]
  · rfl
theorem Bd.mono {S : St} {m m' : Nat} (h : Bd S m) (hm : m ≤ m') : Bd S m' := ⟨Nat.le_trans h.1 hm, Nat.le_trans h.2.1 hm, fun i hi => Nat.le_trans (h.2.2.1 i hi) hm, h.2.2.2.1, by have := h.2.2.2.2.1; omega, h.2.2.2.2.2⟩
theorem upf_len {T : Nat → TR} {R : TR} {k m : Nat} (h : ∀ i, i < 32 → (T i).length ≤ m) (hR : R.length ≤ m) : ∀ i, i < 32 → (upf T k R i).length ≤ m := fun i hi => by
  unfold upf
  split
  · exact hR
  · exact h i hi
theorem bd_lay {S : St} {m : Nat} (h : Bd S m) (id : Int) (P : PT) : Bd (layS S id P) (m + 1) := by
  cases ha : atS S id with
  | none => have e : layS S id P = S := by unfold layS; rw [ha]
            rw [e]; exact h.mono (by omega)
  | some i =>
    have hd : layS S id P = { S with T := layTs S.T i id P, ch := markL S.ch id S.now } := by unfold layS; rw [ha]
    rw [hd]
    obtain ⟨hi, _⟩ := at_some ha
    refine ⟨Nat.le_trans (mark_len _ _ _) (by have := h.1; omega), Nat.le_trans h.2.1 (by omega), fun j hj => ?_, h.2.2.2.1, by have := h.2.2.2.2.1; show S.now ≤ _; omega, h.2.2.2.2.2⟩
    have h3 := h.2.2.1
    show (layTs S.T i id P j).length ≤ m + 1
    unfold layTs
    split
    · exact Nat.le_trans (upf_len h3 (by rw [tpu_len]; exact h3 i hi) j hj) (by omega)
    · have h4 := upf_len (k := i) (R := tcuR (S.T i) (findI (S.T i) id)) h3 (Nat.le_trans (tcu_len _ _) (h3 i hi))
      by_cases c : P.1.toNat < 32
      · exact upf_len (m := m + 1) (fun q hq => Nat.le_trans (h4 q hq) (by omega)) (Nat.le_trans (tad_len _ _ _ _) (by have := h4 _ c; omega)) j hj
      · have e : ∀ (A : Nat → TR) B, upf A P.1.toNat B j = A j := fun A B => by unfold upf; rw [if_neg (by omega)]
        rw [e]
        exact Nat.le_trans (h4 j hj) (by omega)
theorem bd_ne {S : St} {m : Nat} (h : Bd S m) : Bd (neS S) (m + 1) :=
  ⟨Nat.le_trans h.1 (by omega), Nat.le_trans h.2.1 (by omega), fun i hi => Nat.le_trans (h.2.2.1 i hi) (by omega), by have := h.2.2.2.1; show 0 < S.now + 1; omega, by have := h.2.2.2.2.1; show S.now + 1 ≤ _; omega, h.2.2.2.2.2⟩
theorem bd_sp {S : St} {m : Nat} (h : Bd S m) (P : PT) : Bd (spS S P) (m + 1) := by
  unfold spS
  split
  · rename_i he
    obtain ⟨hr, _⟩ := sp_tk he
    obtain ⟨r1, _⟩ := right_has hr
    refine ⟨Nat.le_trans (mark_len _ _ _) (by have := h.1; omega), Nat.le_trans h.2.1 (by omega), ?_, h.2.2.2.1, by have := h.2.2.2.2.1; show S.now ≤ _; omega, h.2.2.2.2.2⟩
    exact upf_len (fun q hq => Nat.le_trans (h.2.2.1 q hq) (by omega)) (Nat.le_trans (tad_len _ _ _ _) (by have := h.2.2.1 _ r1; omega))
  · exact h.mono (by omega)
theorem bd_de {S : St} {m : Nat} (h : Bd S m) (id : Int) : Bd (deS S id) (m + 1) := by
  cases ha : atS S id with
  | none => have e : deS S id = S := by unfold deS; rw [ha]
            rw [e]; exact h.mono (by omega)
  | some i =>
    have hd : deS S id = { S with T := upf S.T i (tcuR (S.T i) (findI (S.T i) id)), G := drG S.G S.L id, L := drL S.G S.L id, go := S.go ++ [(id, S.now)] } := by unfold deS; rw [ha]
    rw [hd]
    obtain ⟨hi, _⟩ := at_some ha
    exact ⟨Nat.le_trans h.1 (by omega), by show (S.go ++ [(id, S.now)]).length ≤ _; have := h.2.1; simp; omega, upf_len (fun q hq => Nat.le_trans (h.2.2.1 q hq) (by omega)) (Nat.le_trans (tcu_len _ _) (by have := h.2.2.1 i hi; omega)), h.2.2.2.1, by have := h.2.2.2.2.1; show S.now ≤ _; omega, h.2.2.2.2.2⟩
def ivl : Value → Int
  | .int _ q => q
  | _ => 0
def RowX {α : Type} (k : Nat) (c : α → List Value) (w : World) (a : Option Addr) (n : Nat) (X : List α) : Prop := X.length = n ∧ n ≤ 9223372036854775807 ∧ (n = 0 ∨ ∃ b off, a = some ⟨b, off, none⟩ ∧ b < w.heap.size ∧ ∀ i x, X[i]? = some x → w.rangeAt b (off + i * k) (c x))
section
variable {α : Type} {k : Nat} {c : α → List Value} {w w' : World} {a : Option Addr} {n : Nat} {X : List α}
theorem RowX.keep (h : RowX k c w a n X) (hb : Below w.heap.size w w') : RowX k c w' a n X := ⟨h.1, h.2.1, h.2.2.imp id (fun ⟨b, o, e, hl, hr⟩ => ⟨b, o, e, Nat.lt_of_lt_of_le hl hb.size, fun i x hx => range_same (hr i x hx) (hb.block b hl)⟩)⟩
theorem RowX.at_ (h : RowX k c w a n X) {i : Nat} (hi : i < n) : ∃ b off x, a = some ⟨b, off, none⟩ ∧ b < w.heap.size ∧ X[i]? = some x ∧ w.rangeAt b (off + i * k) (c x) := by
  obtain ⟨h1, h2, h3⟩ := h
  rcases h3 with h3 | ⟨b, off, e, hb, hr⟩
  · omega
  · have hx : X[i]? = some (X[i]'(by omega)) := List.getElem?_eq_getElem (by omega)
    exact ⟨b, off, _, e, hb, hx, hr i _ hx⟩
end
def OwnX {α : Type} (k : Nat) (c : α → List Value) (t : TypeId) (w : World) (base : Nat) (v : Value) (X : List α) : Prop := w.ownsRow base t k v X.length (X.flatMap c)
section
variable {α : Type} {k : Nat} {c : α → List Value} {t : TypeId} {w w' : World} {base : Nat} {v : Value} {X : List α}
theorem flatx_len (hc : ∀ x, (c x).length = k) : ∀ X : List α, (X.flatMap c).length = X.length * k
  | [] => by simp
  | x :: X => by
    rw [List.flatMap_cons, List.length_append, hc, flatx_len hc X, List.length_cons, Nat.add_mul]
    omega
theorem flatx_at (hc : ∀ x, (c x).length = k) : ∀ (X : List α) (i : Nat) (x : α), X[i]? = some x → ((X.flatMap c).drop (i * k)).take k = c x
  | [], i, x, h => by simp at h
  | a :: X, 0, x, h => by
    simp at h
    subst h
    rw [List.flatMap_cons, Nat.zero_mul, List.drop_zero, ← hc a, List.take_left]
  | a :: X, i + 1, x, h => by
    have ih := flatx_at hc X i x (by simpa using h)
    rw [List.flatMap_cons, List.drop_append, hc a, List.drop_of_length_le (by rw [hc a, Nat.add_mul]; omega), List.nil_append, show (i + 1) * k - k = i * k by rw [Nat.add_mul]; omega]
    exact ih
theorem OwnX.nil (k : Nat) (c : α → List Value) (t : TypeId) (w : World) (base : Nat) : OwnX k c t w base (.slice none 0 0) [] := World.ownsRow_nil _ _ _ _
theorem OwnX.lt (h : OwnX k c t w base v X) : ∀ b, v.ownBlock = some b → base ≤ b ∧ b < w.heap.size := World.ownsRow.lt h
theorem OwnX.same (h : OwnX k c t w base v X) (he : ∀ b, v.ownBlock = some b → w'.heap[b]? = w.heap[b]?) : OwnX k c t w' base v X :=
  ⟨h.1, h.2.imp id fun ⟨g, cap, cur, e, hb, hg, hr⟩ => ⟨g, cap, cur, e, hb, (he g (by rw [e]; rfl)).trans hg, hr⟩⟩
theorem OwnX.keep (h : OwnX k c t w base v X) (hb : Below w.heap.size w w') : OwnX k c t w' base v X := h.same (fun b e => hb.block b (h.lt b e).2)
theorem OwnX.low (h : OwnX k c t w base v X) {b' : Nat} (hb : b' ≤ base) : OwnX k c t w b' v X := ⟨h.1, h.2.imp id fun ⟨g, cap, cur, h1, h2, h3⟩ => ⟨g, cap, cur, h1, Nat.le_trans hb h2, h3⟩⟩
theorem OwnX.row (hc : ∀ x, (c x).length = k) (h : OwnX k c t w base v X) : ∃ a cap, v = .slice a X.length cap ∧ X.length ≤ cap ∧ cap ≤ maxLen ∧ RowX k c w a X.length X := by
  rcases h.2 with ⟨rfl, h0⟩ | ⟨g, cap, cur, rfl, hb, hg, hn, hm, hs, ht⟩
  · exact ⟨none, 0, by rw [h0], by omega, by unfold maxLen; omega, rfl, by omega, Or.inl h0⟩
  · refine ⟨_, cap, rfl, hn, hm, rfl, by unfold maxLen at hm; omega, Or.inr ⟨g, 0, rfl, (Array.getElem?_eq_some_iff.1 hg).1, fun i x hx => ?_⟩⟩
    have hlt : i < X.length := (List.getElem?_eq_some_iff.1 hx).1
    have hbk : Blk w g t cur.toList.toArray := by unfold Blk; rw [Array.toArray_toList]; exact hg
    have h1 := blk_range hbk (i * k) k
    have e : (cur.toList.drop (i * k)).take k = c x := by
      have h2 : (i + 1) * k ≤ X.length * k := Nat.mul_le_mul_right _ hlt
      rw [Nat.add_mul] at h2
      rw [← flatx_at hc X i x hx, ← ht, List.drop_take, List.take_take, Nat.min_eq_left (by omega)]
    rw [e] at h1
    rw [Nat.zero_add]
    exact h1
theorem wpList_pushX {ops : Array Oper} {rest : List Oper} {op : Oper} {a : Go.Act} {Q : Exit → Go.Act → World → Prop} (hgd : op.guard = none) (ts tb : Operand) (tl : TypeId) (by_ : Nat) (z : Value)
    (ho : op.op = .call { callee := .builtin .append, args := #[ts, tb], argTypes := #[tl, tl] }) (hu : Tryz.prog.underlying tl = some (.slice t))
    (hinfo : (Tryz.prog.info? t).map (fun i => (i.zero, i.size, i.bytes)) = some (some z, k, by_)) (hzs : z.cells.size = k) (hk : 0 < k) (hby : by_ ≤ 1000) (hc : ∀ x, (c x).length = k) (x : α) (hone : ∀ u ∈ c x, u.oneCell' = true)
    (hs : a.eval ts = v) (hown : OwnX k c t w base v X) (gb : Nat) (cap : Nat) (hx : a.eval tb = .slice (some ⟨gb, 0, none⟩) 1 cap) (hb : w.rangeAt gb 0 (c x)) (hX : X.length ≤ 2000) (hbs : base ≤ w.heap.size)
    (h : ∀ v' w', OwnX k c t w' base v' (X ++ [x]) → w.grownBy w' v.ownBlock → (v'.ownBlock = v.ownBlock ∨ v'.ownBlock = some w.heap.size) → wpList Tryz.prog ops Q rest (a.put op.dst v') w') : wpList Tryz.prog ops Q (op :: rest) a w := by
  obtain ⟨i0, hi0, hz0, hz1, hz2⟩ := info_parts hinfo
  have hbytes : (X.length + 1) * by_ ≤ 140737488355328 := by
    have : (X.length + 1) * by_ ≤ 2001 * 1000 := Nat.mul_le_mul (by omega) hby
    omega
  refine wpList_append_own_at w hgd ts tb tl ho base t i0 z k by_ hu hi0 hz0 hz1 hz2 hzs hk v X.length (X.flatMap c) hs hown ⟨gb, 0, none⟩ 1 cap (c x) hx (by rw [hc x, Nat.one_mul]) (fun j u hj => by
    have := hb j u hj
    rw [Addr.add_lit]
    exact this) hone (by unfold maxLen; omega) hbytes hbs ?_
  intro v' w' h1 h2 _ h4
  refine h v' w' ?_ h2 h4
  unfold OwnX
  rw [List.length_append, List.flatMap_append]
  simpa using h1
end
end Go.Proofs.YthhfcedhbfandaaGreat
namespace Go.Proofs.YthhfcedhbfandaaGreat
open Go.Shelf
def lay_sortB_ren : Go.Shelf.Ren := ⟨fun | 5 => 74 | 8 => 135 | 7 => 134 | 19 => 211 | 20 => 212 | 10 => 202 | 11 => 203 | 12 => 204 | 13 => 205 | 14 => 206 | 15 => 207 | 16 => 208 | 17 => 209 | 18 => 210 | 30 => 256 | 31 => 257 | 32 => 258 | 33 => 259 | 34 => 260 | 35 => 261 | 40 => 288 | n => n, fun | 23 => 35 | 25 => 81 | 3 => 3 | 32 => 226 | 22 => 35 | 0 => 0 | 44 => 295 | 46 => 297 | 4 => 4 | 36 => 289 | 35 => 288 | 41 => 127 | 5 => 5 | 9 => 9 | 53 => 338 | 57 => 342 | 63 => 374 | 64 => 253 | n => n, fun | n => n⟩
theorem lay_sortB : Go.Proofs.SlLaysM.n5 Tryz.prog lay_sortB_ren := {
  mixed := by kernel_rfl
  f5 := ⟨Tryz.f74.name, by decide, Tryz.func74.trans (congrArg some (by kernel_rfl))⟩
  f7 := ⟨Tryz.f134.name, by decide, Tryz.func134.trans (congrArg some (by kernel_rfl))⟩
  f8 := Tryz.func135.trans (congrArg some (by kernel_rfl))
  f10 := ⟨Tryz.f202.name, by decide, Tryz.func202.trans (congrArg some (by kernel_rfl))⟩
  f11 := ⟨Tryz.f203.name, by decide, Tryz.func203.trans (congrArg some (by kernel_rfl))⟩
  f12 := ⟨Tryz.f204.name, by decide, Tryz.func204.trans (congrArg some (by kernel_rfl))⟩
  f13 := ⟨Tryz.f205.name, by decide, Tryz.func205.trans (congrArg some (by kernel_rfl))⟩
  f14 := ⟨Tryz.f206.name, by decide, Tryz.func206.trans (congrArg some (by kernel_rfl))⟩
  f15 := ⟨Tryz.f207.name, by decide, Tryz.func207.trans (congrArg some (by kernel_rfl))⟩
  f16 := ⟨Tryz.f208.name, by decide, Tryz.func208.trans (congrArg some (by kernel_rfl))⟩
  f17 := ⟨Tryz.f209.name, by decide, Tryz.func209.trans (congrArg some (by kernel_rfl))⟩
  f18 := ⟨Tryz.f210.name, by decide, Tryz.func210.trans (congrArg some (by kernel_rfl))⟩
  f19 := Tryz.func211.trans (congrArg some (by kernel_rfl))
  f20 := Tryz.func212.trans (congrArg some (by kernel_rfl))
  f30 := ⟨Tryz.f256.name, by decide, Tryz.func256.trans (congrArg some (by kernel_rfl))⟩
  f31 := Tryz.func257.trans (congrArg some (by kernel_rfl))
  f32 := Tryz.func258.trans (congrArg some (by kernel_rfl))
  f33 := ⟨Tryz.f259.name, by decide, Tryz.func259.trans (congrArg some (by kernel_rfl))⟩
  f34 := ⟨Tryz.f260.name, by decide, Tryz.func260.trans (congrArg some (by kernel_rfl))⟩
  f35 := ⟨Tryz.f261.name, by decide, Tryz.func261.trans (congrArg some (by kernel_rfl))⟩
  f40 := ⟨Tryz.f288.name, by decide, Tryz.func288.trans (congrArg some (by kernel_rfl))⟩
  t0 := Tryz.underlying0
  a0 := Tryz.isAgg0
  z0 := Tryz.sizeOf0
  v0 := Tryz.zeroValue0
  t3 := Tryz.underlying3
  a3 := Tryz.isAgg3
  z3 := Tryz.sizeOf3
  v3 := Tryz.zeroValue3
  t4 := Tryz.underlying4
  a4 := Tryz.isAgg4
  z4 := Tryz.sizeOf4
  v4 := Tryz.zeroValue4
  t5 := Tryz.underlying5
  a5 := Tryz.isAgg5
  z5 := Tryz.sizeOf5
  v5 := Tryz.zeroValue5
  t9 := Tryz.underlying9
  a9 := Tryz.isAgg9
  z9 := Tryz.sizeOf9
  v9 := Tryz.zeroValue9
  t22 := Tryz.underlying35
  a22 := Tryz.isAgg35
  z22 := Tryz.sizeOf35
  v22 := Tryz.zeroValue35
  t23 := Tryz.underlying35
  a23 := Tryz.isAgg35
  z23 := Tryz.sizeOf35
  v23 := Tryz.zeroValue35
  t25 := Tryz.underlying81
  a25 := Tryz.isAgg81
  z25 := Tryz.sizeOf81
  v25 := Tryz.zeroValue81
  t32 := Tryz.underlying226
  a32 := Tryz.isAgg226
  z32 := Tryz.sizeOf226
  v32 := Tryz.zeroValue226
  t35 := Tryz.underlying288
  a35 := Tryz.isAgg288
  z35 := Tryz.sizeOf288
  v35 := Tryz.zeroValue288
  t36 := Tryz.underlying289
  a36 := Tryz.isAgg289
  z36 := Tryz.sizeOf289
  v36 := Tryz.zeroValue289
  t41 := Tryz.underlying127
  a41 := Tryz.isAgg127
  z41 := Tryz.sizeOf127
  v41 := Tryz.zeroValue127
  t44 := Tryz.underlying295
  a44 := Tryz.isAgg295
  z44 := Tryz.sizeOf295
  v44 := Tryz.zeroValue295
  t46 := Tryz.underlying297
  a46 := Tryz.isAgg297
  z46 := Tryz.sizeOf297
  v46 := Tryz.zeroValue297
  t53 := Tryz.underlying338
  a53 := Tryz.isAgg338
  z53 := Tryz.sizeOf338
  v53 := Tryz.zeroValue338
  t57 := Tryz.underlying342
  a57 := Tryz.isAgg342
  z57 := Tryz.sizeOf342
  v57 := Tryz.zeroValue342
  t63 := Tryz.underlying374
  a63 := Tryz.isAgg374
  z63 := Tryz.sizeOf374
  v63 := Tryz.zeroValue374
  t64 := Tryz.underlying253
  a64 := Tryz.isAgg253
  z64 := Tryz.sizeOf253
  v64 := Tryz.zeroValue253 }
def lay_cloneB_ren : Go.Shelf.Ren := ⟨fun | 41 => 187 | n => n, fun | 22 => 35 | 23 => 81 | 4 => 4 | n => n, fun | n => n⟩
theorem lay_cloneB : Go.Proofs.SlLaysN.n41 Tryz.prog lay_cloneB_ren := {
  mixed := by kernel_rfl
  f41 := ⟨Tryz.f187.name, by decide, Tryz.func187.trans (congrArg some (by kernel_rfl))⟩
  t4 := Tryz.underlying4
  a4 := Tryz.isAgg4
  z4 := Tryz.sizeOf4
  v4 := Tryz.zeroValue4
  t22 := Tryz.underlying35
  a22 := Tryz.isAgg35
  z22 := Tryz.sizeOf35
  v22 := Tryz.zeroValue35
  t23 := Tryz.underlying81
  a23 := Tryz.isAgg81
  z23 := Tryz.sizeOf81
  v23 := Tryz.zeroValue81
  i23 := by kernel_rfl }
end Go.Proofs.YthhfcedhbfandaaGreat
namespace Go.Proofs.YthhfcedhbfandaaGreat
open Go.RowKit

theorem takeW_le {x : Int} : ∀ (l : List Int), ∀ y ∈ l.takeWhile (fun y => decide (y ≤ x)), y ≤ x
  | [], y, h => by cases h
  | a :: l, y, h => by
    rw [List.takeWhile_cons] at h
    by_cases c : a ≤ x
    · rw [decide_eq_true c, if_pos rfl] at h
      rcases List.mem_cons.1 h with rfl | h
      · exact c
      · exact takeW_le l y h
    · rw [decide_eq_false c] at h
      cases h
theorem dropW_le {x : Int} : ∀ (l : List Int), l.Pairwise (· ≤ ·) → ∀ y ∈ l.dropWhile (fun y => decide (y ≤ x)), x ≤ y
  | [], _, y, h => by cases h
  | a :: l, hp, y, h => by
    rw [List.dropWhile_cons] at h
    by_cases c : a ≤ x
    · rw [decide_eq_true c, if_pos rfl] at h
      exact dropW_le l (List.pairwise_cons.1 hp).2 y h
    · rw [decide_eq_false c] at h
      simp only [Bool.false_eq_true, if_false] at h
      rcases List.mem_cons.1 h with rfl | h
      · omega
      · have := (List.pairwise_cons.1 hp).1 y h
        omega
theorem ins_sorted {out : List Int} (h : out.Pairwise (· ≤ ·)) (x : Int) : (insI out x).Pairwise (· ≤ ·) := by
  unfold insI
  refine List.pairwise_append.2 ⟨h.sublist (List.takeWhile_sublist _), List.pairwise_cons.2 ⟨dropW_le out h, h.sublist (List.dropWhile_sublist _)⟩, fun a ha b hb => ?_⟩
  have h1 := takeW_le out a ha
  rcases List.mem_cons.1 hb with rfl | hb
  · exact h1
  · have := dropW_le out h b hb
    omega
theorem sort_sorted : ∀ (l out : List Int), out.Pairwise (· ≤ ·) → (l.foldl insI out).Pairwise (· ≤ ·)
  | [], _, h => h
  | x :: l, out, h => sort_sorted l (insI out x) (ins_sorted h x)
theorem srt_eq {l l' : List Int} (h : l.Perm l') : l.mergeSort (fun x y => decide (x ≤ y)) = sortI l' := by
  have tr : ∀ a b c : Int, decide (a ≤ b) = true → decide (b ≤ c) = true → decide (a ≤ c) = true := fun a b c h1 h2 => by simp only [decide_eq_true_eq] at *; omega
  have tt : ∀ a b : Int, (decide (a ≤ b) || decide (b ≤ a)) = true := fun a b => by simp only [Bool.or_eq_true, decide_eq_true_eq]; omega
  have hp : (sortI l').Perm l' := by have := sort_perm l' []; rwa [List.append_nil] at this
  refine List.Perm.eq_of_pairwise (le := fun a b => decide (a ≤ b) = true) (fun a b _ _ h1 h2 => ?_) (List.pairwise_mergeSort tr tt l) ((sort_sorted l' [] List.Pairwise.nil).imp (fun {a b} c => decide_eq_true c)) (((List.mergeSort_perm l _).trans h).trans hp.symm)
  simp only [decide_eq_true_eq] at h1 h2
  omega
theorem sort9_any {w : World} {base n : Nat} {v : Value} {xs : List Int} (h : OwnD w base v n xs) (hn : n ≤ 100000) :
    Calls Tryz.prog 74 #[v] w fun e w' => e = .returned (.tuple #[]) ∧ OwnD w' base v n (xs.mergeSort (fun x y => decide (x ≤ y))) ∧ w.grownBy w' v.ownBlock := by
  have hl : xs.length = n := by have := h.1; rw [List.length_map, Nat.mul_one] at this; exact this
  rcases h.2 with ⟨rfl, h0⟩ | ⟨g, cap, cur, rfl, hb, hg, hn1, hm, hs, ht⟩
  · have hx : xs = [] := List.eq_nil_of_length_eq_zero (by omega)
    subst hx
    refine (AnyM.slices_Sort_int_none lay_sortB none 0 w).mono ?_
    rintro e w' ⟨rfl, rfl⟩
    exact ⟨rfl, by simpa using h, ⟨rfl, rfl, rfl, Nat.le_refl _, fun _ _ _ => rfl⟩⟩
  · subst hl
    have hH : Go.Sort.Holds encZ w g 0 xs.toArray := holds_of_block_i hg (by simpa using ht)
    refine (AnyM.slices_Sort_int lay_sortB g 0 cap xs w hH (Array.getElem?_eq_some_iff.1 hg).1 (by omega)).mono ?_
    rintro e w' ⟨rfl, nn, os, rfl⟩
    exact ⟨rfl, ownsRow_sorted_i (by simp) hb hg hn1 hm (by simpa using hs), grownBy_sorted_i _⟩

theorem LRes.of9 {w w' : World} {base : Nat} {v : Value} {n : Nat} {zs : List Int} (h : OwnD w' base v n zs) (hw : w.heap.size ≤ base) : LRes w w' zs v := by
  obtain ⟨a, cap, rfl, hr⟩ := h.row
  have hl : zs.length = n := hr.1
  subst hl
  refine ⟨a, cap, rfl, hr, ?_⟩
  rcases h.2 with ⟨_, h0⟩ | ⟨g, cap', cur, hv, hb, _⟩
  · exact Or.inl h0
  · refine Or.inr (fun ad e => ?_)
    injection hv with hv _ _
    rw [e] at hv
    injection hv with hv
    rw [hv]
    exact Nat.le_trans hw hb
theorem own_below9 {w wr w' : World} {base : Nat} {v : Value} {n : Nat} {zs : List Int} (ho : OwnD wr base v n zs) (hw : w.heap.size ≤ base) (hb : Below w.heap.size w wr) (hg : wr.grownBy w' v.ownBlock) : Below w.heap.size w w' :=
  ⟨hg.os.trans hb.os, hg.tape.trans hb.tape, hg.output.trans hb.output, Nat.le_trans hb.size hg.size, fun k hk => (hg.block k (Nat.lt_of_lt_of_le hk hb.size) (fun e => by have := (World.ownsRow.lt ho k e.symm).1; omega)).trans (hb.block k hk)⟩
theorem srt_up {l K : List Int} (h : l.Perm K) (hK : K.Pairwise (· < ·)) : l.mergeSort (fun x y => decide (x ≤ y)) = K := by
  have tr : ∀ a b c : Int, decide (a ≤ b) = true → decide (b ≤ c) = true → decide (a ≤ c) = true := fun a b c h1 h2 => by simp only [decide_eq_true_eq] at *; omega
  have tt : ∀ a b : Int, (decide (a ≤ b) || decide (b ≤ a)) = true := fun a b => by simp only [Bool.or_eq_true, decide_eq_true_eq]; omega
  refine List.Perm.eq_of_pairwise (le := fun a b => decide (a ≤ b) = true) (fun a b _ _ h1 h2 => ?_) (List.pairwise_mergeSort tr tt l) (hK.imp (fun {a b} c => decide_eq_true (by omega))) ((List.mergeSort_perm l _).trans h)
  simp only [decide_eq_true_eq] at h1 h2
  omega
set_option maxRecDepth 100000 in
theorem wpList_cat9 {ops : Array Oper} {rest : List Oper} {op : Oper} {a : Go.Act} {w : World} {Q : Exit → Go.Act → World → Prop} (hgd : op.guard = none) (ts tb : Operand)
    (ho : op.op = .call { callee := .builtin .append, args := #[ts, tb], argTypes := #[35, 35] }) (base n : Nat) (v : Value) (zs : List Int) (hs : a.eval ts = v) (hown : OwnD w base v n zs) (x : Option Addr) (m cap : Nat) (ys : List Int) (hx : a.eval tb = .slice x m cap) (row : Row w x m ys) (hn : n ≤ 100000) (hm : m ≤ 100000) (hb : base ≤ w.heap.size)
    (h : ∀ v' w', OwnD w' base v' (n + m) (zs ++ ys) → w.grownBy w' v.ownBlock → wpList Tryz.prog ops Q rest (a.put op.dst v') w') : wpList Tryz.prog ops Q (op :: rest) a w := by
  obtain ⟨i0, hi0, hz0, hz1, hz2⟩ := info_parts id_info
  have hl : ys.length = m := row.1
  cases x with
  | none =>
    have hm0 : m = 0 := by
      rcases row.2.2 with c | ⟨b, off, e, _⟩
      · exact c
      · cases e
    subst hm0
    have hys : ys = [] := List.eq_nil_of_length_eq_zero hl
    subst hys
    have h2 := h v w (by rw [Nat.add_zero, List.append_nil]; exact hown) ⟨rfl, rfl, rfl, Nat.le_refl _, fun _ _ _ => rfl⟩
    have hr : (Builtin.append_ #[35, 35] op.type #[v, .slice none 0 cap]).run Tryz.prog w = .ok v w := by
      rcases hown.2 with ⟨rfl, _⟩ | ⟨g, c, cur, rfl, _, _, hnc, _⟩
      · simp [Builtin.append_, run_underlying Tryz.underlying35, sizeOf, typeInfo, hi0, Builtin.lenOf, Builtin.firstCells]
      · simp [Builtin.append_, run_underlying Tryz.underlying35, sizeOf, typeInfo, hi0, Builtin.lenOf, Builtin.firstCells, loadCells, storeCells, hnc]
    refine wpList_plain hgd fun K hK => ?_
    have h3 := hK _ _ h2
    unfold Oper.wp execOp
    simp only [ho, resolve, invoke, builtin, Sem.run_bind, Sem.run_pure, Result.andThen_ok, List.map_toArray, List.map_cons, List.map_nil, hs, hx, hr]
    exact h3
  | some ad =>
    have hnews : ∀ j u, (ys.map (Value.int .i64))[j]? = some u → w.cell? (ad.add j) = some u := fun j u hu => by
      have hj : j < m := by have := (List.getElem?_eq_some_iff.1 hu).1; rw [List.length_map, hl] at this; exact this
      obtain ⟨b, off, y, e, hy, cy⟩ := row_at row hj
      injection e with e
      subst e
      rw [Addr.add_mid, cy]
      rw [List.getElem?_map, hy] at hu
      exact hu
    refine wpList_append_own _ hgd ts tb 35 ho base 81 i0 (.int .i64 0) 1 8 Tryz.underlying35 hi0 hz0 hz1 hz2 rfl (by decide) v n (zs.map (Value.int .i64)) hs hown ad m cap (ys.map (Value.int .i64)) hx (by rw [List.length_map, hl, Nat.mul_one]) hnews (fun u hu => by
      obtain ⟨y, _, rfl⟩ := List.mem_map.1 hu
      rfl) (by unfold maxLen; omega) (by omega) hb ?_
    intro v' w' h1 h2 _
    refine h v' w' ?_ h2
    unfold OwnD
    rw [List.map_append]
    exact h1
abbrev FT := List (Int × Int)
def parO (L : FT) (x : Int) : Option Int := (L.find? (fun p => p.1 == x)).map Prod.snd
def freeF (L : FT) (x : Int) : FT := L.filter (fun p => p.1 != x)
def setF (L : FT) (c p : Int) : FT := freeF L c ++ [(c, p)]
def IsA (L : FT) : Int → List Int → Prop
  | x, [] => parO L x = none
  | x, y :: l => parO L x = some y ∧ IsA L y l
def abvN (L : FT) : Nat → Int → List Int
  | 0, _ => []
  | n + 1, x => match parO L x with
    | none => []
    | some y => y :: abvN L n y
def abv (L : FT) (x : Int) : List Int := abvN L L.length x
def WF (L : FT) : Prop := (L.map Prod.fst).Nodup ∧ ∀ x, ∃ l, IsA L x l
theorem IsA.uniq {L : FT} : ∀ {x : Int} {l l' : List Int}, IsA L x l → IsA L x l' → l = l'
  | _, [], [], _, _ => rfl
  | _, [], _ :: _, h, h' => absurd ((show parO L _ = none from h).symm.trans h'.1) (by simp)
  | _, _ :: _, [], h, h' => absurd ((show parO L _ = none from h').symm.trans h.1) (by simp)
  | _, y :: l, z :: l', h, h' => by
    have e : y = z := by have := h.1.symm.trans h'.1; injection this
    subst e
    rw [IsA.uniq h.2 h'.2]
theorem IsA.rest {L : FT} : ∀ {x : Int} {l : List Int}, IsA L x l → ∀ y ∈ l, ∃ l', IsA L y l' ∧ l'.length < l.length
  | _, [], _, y, hy => by cases hy
  | _, z :: l, h, y, hy => by
    rcases List.mem_cons.1 hy with rfl | hy
    · exact ⟨l, h.2, by simp⟩
    · obtain ⟨l', h1, h2⟩ := IsA.rest h.2 y hy
      exact ⟨l', h1, by rw [List.length_cons]; omega⟩
theorem IsA.self {L : FT} {x : Int} {l : List Int} (h : IsA L x l) : x ∉ l := fun hx => by
  obtain ⟨l', h1, h2⟩ := h.rest x hx
  rw [h.uniq h1] at h2
  omega
theorem IsA.nodup {L : FT} : ∀ {x : Int} {l : List Int}, IsA L x l → l.Nodup
  | _, [], _ => List.nodup_nil
  | _, _ :: _, h => List.nodup_cons.2 ⟨h.2.self, h.2.nodup⟩
theorem par_mem {L : FT} {x y : Int} (h : parO L x = some y) : (x, y) ∈ L := by
  unfold parO at h
  cases hf : L.find? (fun p => p.1 == x) with
  | none => rw [hf] at h; cases h
  | some q =>
    rw [hf] at h
    injection h with h
    have h1 := List.find?_some hf
    have h2 := List.mem_of_find?_eq_some hf
    obtain ⟨a, b⟩ := q
    simp at h1 h
    rw [← h1, ← h]
    exact h2
theorem par_of_mem {L : FT} (hn : (L.map Prod.fst).Nodup) {x y : Int} (h : (x, y) ∈ L) : parO L x = some y := by
  induction L with
  | nil => cases h
  | cons q L ih =>
    obtain ⟨a, b⟩ := q
    rw [List.map_cons, List.nodup_cons] at hn
    unfold parO
    rw [List.find?_cons]
    rcases List.mem_cons.1 h with e | h
    · injection e with e1 e2
      rw [e1, e2]
      simp
    · have hne : a ≠ x := fun e => hn.1 (e ▸ List.mem_map.2 ⟨_, h, rfl⟩)
      rw [show ((a, b).1 == x) = false by simpa using hne]
      exact ih hn.2 h
theorem pigeon : ∀ {l m : List Int}, l.Nodup → (∀ x ∈ l, x ∈ m) → l.length ≤ m.length
  | [], _, _, _ => Nat.zero_le _
  | x :: l, m, hn, hs => by
    rw [List.nodup_cons] at hn
    have hx := hs x List.mem_cons_self
    have h1 := pigeon (l := l) (m := m.erase x) hn.2 (fun y hy => (List.mem_erase_of_ne (fun e => hn.1 (by rw [← e]; exact hy))).2 (hs y (List.mem_cons_of_mem _ hy)))
    rw [List.length_erase_of_mem hx] at h1
    have := List.length_pos_of_mem hx
    rw [List.length_cons]
    omega
theorem IsA.child {L : FT} : ∀ {x : Int} {l : List Int}, IsA L x l → ∀ y ∈ (x :: l).dropLast, y ∈ L.map Prod.fst
  | _, [], _, y, hy => by cases hy
  | x, z :: l, h, y, hy => by
    rw [List.dropLast_cons_of_ne_nil (by simp)] at hy
    rcases List.mem_cons.1 hy with rfl | hy
    · exact List.mem_map.2 ⟨_, par_mem h.1, rfl⟩
    · exact h.2.child y hy
theorem IsA.len {L : FT} {x : Int} {l : List Int} (h : IsA L x l) : l.length ≤ L.length := by
  have h1 : (x :: l).dropLast.Nodup := List.Nodup.sublist (List.dropLast_sublist _) (List.nodup_cons.2 ⟨h.self, h.nodup⟩)
  have h2 := pigeon h1 h.child
  rw [List.length_dropLast, List.length_cons, List.length_map] at h2
  omega
theorem IsA.fuel {L : FT} : ∀ {x : Int} {l : List Int} {n : Nat}, IsA L x l → l.length ≤ n → abvN L n x = l
  | _, [], 0, _, _ => rfl
  | _, [], n + 1, h, _ => by unfold abvN; rw [show parO L _ = none from h]
  | _, _ :: _, 0, _, hn => by simp at hn
  | _, y :: l, n + 1, h, hn => by
    unfold abvN
    rw [h.1]
    show y :: abvN L n y = y :: l
    rw [h.2.fuel (by rw [List.length_cons] at hn; omega)]
theorem WF.isA {L : FT} (h : WF L) (x : Int) : IsA L x (abv L x) := by
  obtain ⟨l, hl⟩ := h.2 x
  unfold abv
  rw [hl.fuel hl.len]
  exact hl
theorem abv_none {L : FT} (h : WF L) {x : Int} (hp : parO L x = none) : abv L x = [] := (h.isA x).uniq (show IsA L x [] from hp)
theorem abv_some {L : FT} (h : WF L) {x y : Int} (hp : parO L x = some y) : abv L x = y :: abv L y := (h.isA x).uniq ⟨hp, h.isA y⟩
theorem abv_len {L : FT} (h : WF L) (x : Int) : (abv L x).length ≤ L.length := (h.isA x).len
theorem par_free (L : FT) (c z : Int) : parO (freeF L c) z = if z = c then none else parO L z := by
  unfold parO freeF
  rw [List.find?_filter]
  by_cases e : z = c
  · subst e
    rw [if_pos rfl]
    have : L.find? (fun a => a.1 != z && a.1 == z) = none := List.find?_eq_none.2 (fun a _ => by
      by_cases q : a.1 = z
      · simp [q]
      · simp [q])
    have e2 : (fun a : Int × Int => decide ((a.1 != z) = true ∧ (a.1 == z) = true)) = (fun a => a.1 != z && a.1 == z) := by
      funext a; by_cases q : a.1 = z <;> simp [q]
    first | rw [e2, this] | rw [this]
    rfl
  · rw [if_neg e]
    congr 1
    apply congrArg (fun f => L.find? f)
    funext a
    by_cases q : a.1 = z
    · have : a.1 ≠ c := fun k => e (q ▸ k)
      simp [q, e]
    · simp [q]
theorem free_fst (L : FT) (c : Int) : ∀ x ∈ (freeF L c).map Prod.fst, x ≠ c := fun x hx => by
  obtain ⟨p, hp, rfl⟩ := List.mem_map.1 hx
  unfold freeF at hp
  rw [List.mem_filter] at hp
  simpa using hp.2
theorem free_nod {L : FT} (h : (L.map Prod.fst).Nodup) (c : Int) : ((freeF L c).map Prod.fst).Nodup := List.Nodup.sublist (List.Sublist.map _ List.filter_sublist) h
theorem par_set (L : FT) (c p z : Int) : parO (setF L c p) z = if z = c then some p else parO L z := by
  have h := par_free L c z
  unfold parO at h ⊢
  unfold setF
  rw [List.find?_append]
  by_cases e : z = c
  · rw [if_pos e] at h ⊢
    have : (freeF L c).find? (fun p => p.1 == z) = none := by
      cases q : (freeF L c).find? (fun p => p.1 == z) with
      | none => rfl
      | some v => rw [q] at h; cases h
    rw [this, e]
    simp
  · rw [if_neg e] at h ⊢
    cases q : (freeF L c).find? (fun p => p.1 == z) with
    | none =>
      rw [q] at h
      have : ([(c, p)] : FT).find? (fun p => p.1 == z) = none := by simp [Ne.symm e]
      rw [this]
      exact h
    | some v => rw [q] at h; exact h
theorem set_nod {L : FT} (h : (L.map Prod.fst).Nodup) (c p : Int) : ((setF L c p).map Prod.fst).Nodup := by
  unfold setF
  rw [List.map_append]
  exact List.nodup_append.2 ⟨free_nod h c, by simp, fun a ha b hb e => by simp at hb; exact free_fst L c a ha (e.trans hb)⟩
theorem WF.nil : WF [] := ⟨by simp, fun _ => ⟨[], rfl⟩⟩
theorem WF.free {L : FT} (h : WF L) (c : Int) : WF (freeF L c) := by
  refine ⟨free_nod h.1 c, fun x => ?_⟩
  obtain ⟨l, hl⟩ := h.2 x
  induction l generalizing x with
  | nil => exact ⟨[], by show parO _ _ = none; rw [par_free]; split <;> first | rfl | exact hl⟩
  | cons y l ih =>
    by_cases e : x = c
    · exact ⟨[], by show parO _ _ = none; rw [par_free, if_pos e]⟩
    · obtain ⟨l', h'⟩ := ih y hl.2
      exact ⟨y :: l', by rw [par_free, if_neg e]; exact hl.1, h'⟩
theorem IsA.away {L : FT} {c p : Int} : ∀ {x : Int} {l : List Int}, IsA L x l → x ≠ c → c ∉ l → IsA (setF L c p) x l
  | x, [], h, hx, _ => by show parO _ _ = none; rw [par_set, if_neg hx]; exact h
  | x, y :: l, h, hx, hc => ⟨by rw [par_set, if_neg hx]; exact h.1, h.2.away (fun e => hc (by rw [e]; exact List.mem_cons_self)) (fun k => hc (List.mem_cons_of_mem _ k))⟩
theorem WF.set {L : FT} (h : WF L) {c p : Int} (hne : c ≠ p) (hc : c ∉ abv L p) : WF (setF L c p) := by
  have hp : IsA (setF L c p) p (abv L p) := (h.isA p).away (fun e => hne e.symm) hc
  refine ⟨set_nod h.1 c p, fun x => ?_⟩
  obtain ⟨l, hl⟩ := h.2 x
  induction l generalizing x with
  | nil =>
    by_cases e : x = c
    · exact ⟨p :: abv L p, by rw [par_set, if_pos e], hp⟩
    · exact ⟨[], by show parO _ _ = none; rw [par_set, if_neg e]; exact hl⟩
  | cons y l ih =>
    by_cases e : x = c
    · exact ⟨p :: abv L p, by rw [par_set, if_pos e], hp⟩
    · obtain ⟨l', h'⟩ := ih y hl.2
      exact ⟨y :: l', by rw [par_set, if_neg e]; exact hl.1, h'⟩
def chF (L : FT) (x : Int) : List Int := sortI ((L.filter (fun p => p.2 == x)).map Prod.fst)
theorem sortI_perm (l : List Int) : (sortI l).Perm l := by have := sort_perm l []; rwa [List.append_nil] at this
theorem mem_chF {L : FT} (hn : (L.map Prod.fst).Nodup) {x z : Int} : z ∈ chF L x ↔ parO L z = some x := by
  unfold chF
  rw [(sortI_perm _).mem_iff, List.mem_map]
  constructor
  · rintro ⟨⟨a, b⟩, hp, rfl⟩
    rw [List.mem_filter] at hp
    have e : b = x := by simpa using hp.2
    rw [← e]
    exact par_of_mem hn hp.1
  · intro h
    exact ⟨_, List.mem_filter.2 ⟨par_mem h, by simp⟩, rfl⟩
theorem chF_nod {L : FT} (hn : (L.map Prod.fst).Nodup) (x : Int) : (chF L x).Nodup := (sortI_perm _).nodup_iff.2 (List.Nodup.sublist (List.Sublist.map _ List.filter_sublist) hn)
theorem chF_len (L : FT) (x : Int) : (chF L x).length ≤ L.length := by
  unfold chF
  rw [(sortI_perm _).length_eq, List.length_map]
  exact List.length_filter_le _ _
def behN (L : FT) : Nat → Int → List Int
  | 0, x => [x]
  | n + 1, x => x :: (chF L x).flatMap (behN L n)
def hgt (L : FT) : Nat → Int → Prop
  | 0, x => chF L x = []
  | n + 1, x => ∀ c ∈ chF L x, hgt L n c
def beh (L : FT) (x : Int) : List Int := behN L L.length x
theorem hgt_of {L : FT} (h : WF L) : ∀ (n : Nat) (x : Int), L.length ≤ (abv L x).length + n → hgt L n x
  | 0, x, hd => by
    show chF L x = []
    cases hc : chF L x with
    | nil => rfl
    | cons c r =>
      have hm : c ∈ chF L x := by rw [hc]; exact List.mem_cons_self
      have h1 := abv_some h ((mem_chF h.1).1 hm)
      have h2 := abv_len h c
      rw [h1, List.length_cons] at h2
      omega
  | n + 1, x, hd => fun c hm => by
    have h1 := abv_some h ((mem_chF h.1).1 hm)
    exact hgt_of h n c (by rw [h1, List.length_cons]; omega)
theorem hgt_all {L : FT} (h : WF L) (x : Int) : hgt L L.length x := hgt_of h _ _ (by omega)
theorem flatMap_congr9 {f g : Int → List Int} : ∀ {l : List Int}, (∀ x ∈ l, f x = g x) → l.flatMap f = l.flatMap g
  | [], _ => rfl
  | x :: l, h => by rw [List.flatMap_cons, List.flatMap_cons, h x List.mem_cons_self, flatMap_congr9 (fun y hy => h y (List.mem_cons_of_mem _ hy))]
theorem beh_up {L : FT} : ∀ (n : Nat) (x : Int), hgt L n x → behN L (n + 1) x = behN L n x
  | 0, x, h => by show x :: (chF L x).flatMap _ = [x]; rw [show chF L x = [] from h]; rfl
  | n + 1, x, h => by
    show x :: (chF L x).flatMap (behN L (n + 1)) = x :: (chF L x).flatMap (behN L n)
    rw [flatMap_congr9 (fun c hc => beh_up n c (h c hc))]
theorem hgt_up {L : FT} : ∀ (n : Nat) (x : Int), hgt L n x → hgt L (n + 1) x
  | 0, x, h => fun c hc => by rw [show chF L x = [] from h] at hc; cases hc
  | n + 1, x, h => fun c hc => hgt_up n c (h c hc)
theorem beh_eq {L : FT} (h : WF L) (x : Int) : beh L x = x :: (chF L x).flatMap (beh L) := by
  have h1 := beh_up L.length x (hgt_all h x)
  unfold beh
  rw [← h1]
  rfl
theorem mem_behN {L : FT} (h : WF L) : ∀ (n : Nat) (x : Int), hgt L n x → ∀ z, z ∈ behN L n x ↔ z = x ∨ x ∈ abv L z
  | 0, x, hh, z => by
    show z ∈ [x] ↔ _
    rw [List.mem_singleton]
    refine ⟨Or.inl, fun hz => hz.elim id (fun hz => ?_)⟩
    exfalso
    -- the last one ahead of x on z's way is a child of x
    have key : ∀ (l : List Int) (y : Int), IsA L y l → x ∈ l → ∃ c, parO L c = some x := by
      intro l
      induction l with
      | nil => intro y _ hx; cases hx
      | cons a l ih =>
        intro y hy hx
        rcases List.mem_cons.1 hx with e | hx
        · exact ⟨y, by rw [e]; exact hy.1⟩
        · exact ih a hy.2 hx
    obtain ⟨c, hc⟩ := key _ z (h.isA z) hz
    have := (mem_chF h.1).2 hc
    rw [show chF L x = [] from hh] at this
    cases this
  | n + 1, x, hh, z => by
    show z ∈ x :: (chF L x).flatMap (behN L n) ↔ _
    rw [List.mem_cons, List.mem_flatMap]
    refine or_congr Iff.rfl ⟨?_, fun hz => ?_⟩
    · rintro ⟨c, hc, hz⟩
      have hp := (mem_chF h.1).1 hc
      have e1 := abv_some h hp
      rcases (mem_behN h n c (hh c hc) z).1 hz with rfl | hz
      · rw [e1]; exact List.mem_cons_self
      · have key : ∀ (l : List Int) (y : Int), IsA L y l → c ∈ l → x ∈ l := by
          intro l
          induction l with
          | nil => intro y _ hx; cases hx
          | cons a l ih =>
            intro y hy hx
            rcases List.mem_cons.1 hx with e | hx
            · subst e
              have : l = abv L c := hy.2.uniq (h.isA c)
              rw [this, e1]
              exact List.mem_cons_of_mem _ List.mem_cons_self
            · exact List.mem_cons_of_mem _ (ih a hy.2 hx)
        exact key _ z (h.isA z) hz
    · have key : ∀ (l : List Int) (y : Int), IsA L y l → x ∈ l → ∃ c, parO L c = some x ∧ (y = c ∨ c ∈ l) := by
        intro l
        induction l with
        | nil => intro y _ hx; cases hx
        | cons a l ih =>
          intro y hy hx
          rcases List.mem_cons.1 hx with e | hx
          · exact ⟨y, by rw [e]; exact hy.1, Or.inl rfl⟩
          · obtain ⟨c, h1, h2⟩ := ih a hy.2 hx
            exact ⟨c, h1, Or.inr (h2.elim (fun e => by rw [e]; exact List.mem_cons_self) (List.mem_cons_of_mem _))⟩
      obtain ⟨c, hc, hcl⟩ := key _ z (h.isA z) hz
      have hm := (mem_chF h.1).2 hc
      exact ⟨c, hm, (mem_behN h n c (hh c hm) z).2 (hcl.imp id id)⟩
theorem mem_beh {L : FT} (h : WF L) {x z : Int} : z ∈ beh L x ↔ z = x ∨ x ∈ abv L z := mem_behN h _ x (hgt_all h x) z
theorem way_two {L : FT} (h : WF L) {a b z : Int} (ha : a ∈ z :: abv L z) (hb : b ∈ z :: abv L z) : a = b ∨ a ∈ abv L b ∨ b ∈ abv L a := by
  have key : ∀ (l : List Int) (y : Int), IsA L y l → a ∈ y :: l → b ∈ y :: l → a = b ∨ a ∈ abv L b ∨ b ∈ abv L a := by
    intro l
    induction l with
    | nil =>
      intro y _ h1 h2
      rw [List.mem_singleton] at h1 h2
      exact Or.inl (h1.trans h2.symm)
    | cons c l ih =>
      intro y hy h1 h2
      have e : abv L y = c :: l := (h.isA y).uniq hy
      rcases List.mem_cons.1 h1 with k1 | k1
      · rcases List.mem_cons.1 h2 with k2 | k2
        · exact Or.inl (k1.trans k2.symm)
        · exact Or.inr (Or.inr (by rw [k1, e]; exact k2))
      · rcases List.mem_cons.1 h2 with k2 | k2
        · exact Or.inr (Or.inl (by rw [k2, e]; exact k1))
        · exact ih c hy.2 k1 k2
  exact key _ z (h.isA z) ha hb
theorem abv_trans {L : FT} (h : WF L) {a b c : Int} (h1 : a ∈ abv L b) (h2 : b ∈ abv L c) : a ∈ abv L c := by
  have key : ∀ (l : List Int) (y : Int), IsA L y l → b ∈ l → a ∈ l := by
    intro l
    induction l with
    | nil => intro y _ hx; cases hx
    | cons d l ih =>
      intro y hy hx
      rcases List.mem_cons.1 hx with e | hx
      · subst e
        have : l = abv L b := hy.2.uniq (h.isA b)
        rw [this]
        exact List.mem_cons_of_mem _ h1
      · exact List.mem_cons_of_mem _ (ih d hy.2 hx)
  exact key _ c (h.isA c) h2
theorem no_ring {L : FT} (h : WF L) (x : Int) : x ∉ abv L x := (h.isA x).self
theorem beh_apart {L : FT} (h : WF L) {a b z : Int} (hne : a ≠ b) (h1 : a ∉ abv L b) (h2 : b ∉ abv L a) (ha : z ∈ beh L a) : z ∉ beh L b := fun hb => by
  rw [mem_beh h] at ha hb
  have w1 : a ∈ z :: abv L z := ha.elim (fun e => by rw [e]; exact List.mem_cons_self) (List.mem_cons_of_mem _)
  have w2 : b ∈ z :: abv L z := hb.elim (fun e => by rw [e]; exact List.mem_cons_self) (List.mem_cons_of_mem _)
  rcases way_two h w1 w2 with e | e | e
  · exact hne e
  · exact h1 e
  · exact h2 e
theorem flat_nod {f : Int → List Int} : ∀ {l : List Int}, l.Nodup → (∀ x ∈ l, (f x).Nodup) → (∀ x ∈ l, ∀ y ∈ l, x ≠ y → ∀ z ∈ f x, z ∉ f y) → (l.flatMap f).Nodup
  | [], _, _, _ => List.nodup_nil
  | x :: l, hn, h1, h2 => by
    rw [List.nodup_cons] at hn
    rw [List.flatMap_cons]
    refine List.nodup_append.2 ⟨h1 x List.mem_cons_self, flat_nod hn.2 (fun y hy => h1 y (List.mem_cons_of_mem _ hy)) (fun y hy z hz => h2 y (List.mem_cons_of_mem _ hy) z (List.mem_cons_of_mem _ hz)), fun a ha b hb e => ?_⟩
    subst e
    obtain ⟨y, hy, hz⟩ := List.mem_flatMap.1 hb
    exact h2 x List.mem_cons_self y (List.mem_cons_of_mem _ hy) (fun e => hn.1 (e ▸ hy)) a ha hz
theorem sib_apart {L : FT} (h : WF L) {x a b : Int} (ha : parO L a = some x) (hb : parO L b = some x) : a ∉ abv L b := fun hm => by
  rw [abv_some h hb] at hm
  have hx : x ∈ abv L a := by rw [abv_some h ha]; exact List.mem_cons_self
  rcases List.mem_cons.1 hm with e | hm
  · subst e; exact no_ring h a hx
  · exact no_ring h x (abv_trans h hx hm)
theorem behN_nod {L : FT} (h : WF L) : ∀ (n : Nat) (x : Int), hgt L n x → (behN L n x).Nodup
  | 0, x, _ => by show [x].Nodup; simp
  | n + 1, x, hh => by
    show (x :: (chF L x).flatMap (behN L n)).Nodup
    refine List.nodup_cons.2 ⟨fun hm => ?_, flat_nod (chF_nod h.1 x) (fun c hc => behN_nod h n c (hh c hc)) (fun a ha b hb hne z hz hz' => ?_)⟩
    · obtain ⟨c, hc, hz⟩ := List.mem_flatMap.1 hm
      have e1 := abv_some h ((mem_chF h.1).1 hc)
      have hx : x ∈ abv L c := by rw [e1]; exact List.mem_cons_self
      rcases (mem_behN h n c (hh c hc) x).1 hz with e | e
      · rw [← e] at hx; exact no_ring h x hx
      · exact no_ring h x (abv_trans h hx e)
    · have pa := (mem_chF h.1).1 ha
      have pb := (mem_chF h.1).1 hb
      have w1 := (mem_behN h n a (hh a ha) z).1 hz
      have w2 := (mem_behN h n b (hh b hb) z).1 hz'
      have k1 : a ∈ z :: abv L z := w1.elim (fun e => by rw [e]; exact List.mem_cons_self) (List.mem_cons_of_mem _)
      have k2 : b ∈ z :: abv L z := w2.elim (fun e => by rw [e]; exact List.mem_cons_self) (List.mem_cons_of_mem _)
      rcases way_two h k1 k2 with e | e | e
      · exact hne e
      · exact sib_apart h pa pb e
      · exact sib_apart h pb pa e
theorem beh_nod {L : FT} (h : WF L) (x : Int) : (beh L x).Nodup := behN_nod h _ x (hgt_all h x)
theorem abv_fst {L : FT} (h : WF L) {x z : Int} (hz : x ∈ abv L z) : z ∈ L.map Prod.fst := by
  cases hp : parO L z with
  | none => rw [abv_none h hp] at hz; cases hz
  | some y => exact List.mem_map.2 ⟨_, par_mem hp, rfl⟩
def topB (L : FT) (ns : List Int) (i : Nat) : Bool := (decide (i = 0) || decide (ns.getD i 0 ≠ ns.getD (i - 1) 0)) && (abv L (ns.getD i 0)).all (fun a => !decide (a ∈ ns))
def undN (L : FT) (ns : List Int) (k : Nat) : List Int := (List.range k).flatMap fun i => if topB L ns i then beh L (ns.getD i 0) else []
def undL (L : FT) (l : List Int) : List Int := undN L (sortI l) (sortI l).length
theorem mem_undN {L : FT} {ns : List Int} {k : Nat} {z : Int} : z ∈ undN L ns k ↔ ∃ i, i < k ∧ topB L ns i = true ∧ z ∈ beh L (ns.getD i 0) := by
  unfold undN
  rw [List.mem_flatMap]
  constructor
  · rintro ⟨i, hi, hz⟩
    by_cases c : topB L ns i = true
    · rw [if_pos c] at hz
      exact ⟨i, List.mem_range.1 hi, c, hz⟩
    · rw [if_neg c] at hz
      cases hz
  · rintro ⟨i, hi, c, hz⟩
    exact ⟨i, List.mem_range.2 hi, by rw [if_pos c]; exact hz⟩
theorem top_spec {L : FT} {ns : List Int} {i : Nat} (h : topB L ns i = true) : (i = 0 ∨ ns.getD i 0 ≠ ns.getD (i - 1) 0) ∧ ∀ a ∈ abv L (ns.getD i 0), a ∉ ns := by
  unfold topB at h
  rw [Bool.and_eq_true, Bool.or_eq_true, decide_eq_true_eq, decide_eq_true_eq, List.all_eq_true] at h
  exact ⟨h.1, fun a ha => by simpa using h.2 a ha⟩
theorem getD_mem {ns : List Int} {i : Nat} (hi : i < ns.length) : ns.getD i 0 ∈ ns := by
  rw [List.getD, List.getElem?_eq_getElem hi]
  exact List.getElem_mem hi
theorem first_of {ns : List Int} : ∀ (i : Nat), i < ns.length → ∃ j, j < ns.length ∧ ns.getD j 0 = ns.getD i 0 ∧ (j = 0 ∨ ns.getD j 0 ≠ ns.getD (j - 1) 0)
  | 0, hi => ⟨0, hi, rfl, Or.inl rfl⟩
  | i + 1, hi => by
    by_cases c : ns.getD (i + 1) 0 = ns.getD i 0
    · obtain ⟨j, h1, h2, h3⟩ := first_of (ns := ns) i (by omega)
      exact ⟨j, h1, h2.trans c.symm, h3⟩
    · exact ⟨i + 1, hi, rfl, Or.inr (by rw [show i + 1 - 1 = i by omega]; exact c)⟩
theorem topmost {L : FT} (h : WF L) {ns : List Int} : ∀ (n : Nat) (x : Int), (abv L x).length ≤ n → x ∈ ns → ∃ t ∈ ns, (t = x ∨ t ∈ abv L x) ∧ ∀ a ∈ abv L t, a ∉ ns
  | 0, x, hn, hx => ⟨x, hx, Or.inl rfl, fun a ha => by rw [List.eq_nil_of_length_eq_zero (Nat.le_zero.1 hn)] at ha; cases ha⟩
  | n + 1, x, hn, hx => by
    by_cases c : ∃ a ∈ abv L x, a ∈ ns
    · obtain ⟨a, ha, hm⟩ := c
      obtain ⟨l', h1, h2⟩ := (h.isA x).rest a ha
      have e : l' = abv L a := h1.uniq (h.isA a)
      obtain ⟨t, t1, t2, t3⟩ := topmost h n a (by rw [← e]; omega) hm
      exact ⟨t, t1, Or.inr (t2.elim (fun q => by rw [q]; exact ha) (fun q => abv_trans h q ha)), t3⟩
    · exact ⟨x, hx, Or.inl rfl, fun a ha hm => c ⟨a, ha, hm⟩⟩
theorem mem_undS {L : FT} (h : WF L) {ns : List Int} {z : Int} : z ∈ undN L ns ns.length ↔ ∃ x ∈ ns, z = x ∨ x ∈ abv L z := by
  rw [mem_undN]
  constructor
  · rintro ⟨i, hi, _, hz⟩
    exact ⟨_, getD_mem hi, (mem_beh h).1 hz⟩
  · rintro ⟨x, hx, hz⟩
    obtain ⟨t, t1, t2, t3⟩ := topmost h (abv L x).length x (Nat.le_refl _) hx
    obtain ⟨i, hi, e⟩ := List.mem_iff_getElem.1 t1
    obtain ⟨j, hj, ej, hj0⟩ := first_of (ns := ns) i hi
    have et : ns.getD j 0 = t := by rw [ej, List.getD, List.getElem?_eq_getElem hi]; exact e
    refine ⟨j, hj, ?_, ?_⟩
    · unfold topB
      rw [et, Bool.and_eq_true, Bool.or_eq_true, decide_eq_true_eq, decide_eq_true_eq, List.all_eq_true]
      exact ⟨by rw [et] at hj0; exact hj0, fun a ha => by simpa using t3 a ha⟩
    · rw [et]
      refine (mem_beh h).2 ?_
      rcases hz with rfl | hz
      · rcases t2 with q | q
        · exact Or.inl q.symm
        · exact Or.inr q
      · rcases t2 with q | q
        · rw [q]; exact Or.inr hz
        · exact Or.inr (abv_trans h q hz)
theorem mem_undL {L : FT} (h : WF L) {l : List Int} {z : Int} : z ∈ undL L l ↔ ∃ x ∈ l, z = x ∨ x ∈ abv L z := by
  unfold undL
  rw [mem_undS h]
  constructor
  · rintro ⟨x, hx, hz⟩
    exact ⟨x, (sortI_perm l).mem_iff.1 hx, hz⟩
  · rintro ⟨x, hx, hz⟩
    exact ⟨x, (sortI_perm l).mem_iff.2 hx, hz⟩
theorem flat_if {f : Nat → List Int} {p : Nat → Bool} : ∀ l : List Nat, (l.flatMap fun i => if p i then f i else []) = (l.filter p).flatMap f
  | [] => rfl
  | i :: l => by
    rw [List.flatMap_cons, flat_if l]
    by_cases c : p i = true
    · rw [if_pos c, List.filter_cons_of_pos c, List.flatMap_cons]
    · rw [if_neg c, List.filter_cons_of_neg c, List.nil_append]
theorem flat_nodN {f : Nat → List Int} : ∀ {l : List Nat}, l.Nodup → (∀ x ∈ l, (f x).Nodup) → (∀ x ∈ l, ∀ y ∈ l, x ≠ y → ∀ z ∈ f x, z ∉ f y) → (l.flatMap f).Nodup
  | [], _, _, _ => List.nodup_nil
  | x :: l, hn, h1, h2 => by
    rw [List.nodup_cons] at hn
    rw [List.flatMap_cons]
    refine List.nodup_append.2 ⟨h1 x List.mem_cons_self, flat_nodN hn.2 (fun y hy => h1 y (List.mem_cons_of_mem _ hy)) (fun y hy z hz => h2 y (List.mem_cons_of_mem _ hy) z (List.mem_cons_of_mem _ hz)), fun a ha b hb e => ?_⟩
    subst e
    obtain ⟨y, hy, hz⟩ := List.mem_flatMap.1 hb
    exact h2 x List.mem_cons_self y (List.mem_cons_of_mem _ hy) (fun e => hn.1 (e ▸ hy)) a ha hz
theorem up_getD {ns : List Int} (hs : ns.Pairwise (· ≤ ·)) {i j : Nat} (hij : i ≤ j) (hj : j < ns.length) : ns.getD i 0 ≤ ns.getD j 0 := by
  have hi : i < ns.length := by omega
  rw [List.getD, List.getD, List.getElem?_eq_getElem hi, List.getElem?_eq_getElem hj]
  by_cases c : i = j
  · subst c; exact Int.le_refl _
  · exact List.pairwise_iff_getElem.1 hs i j hi hj (by omega)
theorem und_nod {L : FT} (h : WF L) {ns : List Int} (hs : ns.Pairwise (· ≤ ·)) : (undN L ns ns.length).Nodup := by
  unfold undN
  rw [flat_if]
  refine flat_nodN (List.Nodup.sublist List.filter_sublist List.nodup_range) (fun i _ => beh_nod h _) (fun i hi j hj hne z hz => ?_)
  rw [List.mem_filter, List.mem_range] at hi hj
  have s1 := top_spec hi.2
  have s2 := top_spec hj.2
  have hne2 : ns.getD i 0 ≠ ns.getD j 0 := by
    have key : ∀ a b, a < b → b < ns.length → (b = 0 ∨ ns.getD b 0 ≠ ns.getD (b - 1) 0) → ns.getD a 0 ≠ ns.getD b 0 := fun a b hab hb ht e => by
      rcases ht with q | q
      · omega
      · have k1 := up_getD hs (show a ≤ b - 1 by omega) (by omega)
        have k2 := up_getD hs (show b - 1 ≤ b by omega) hb
        omega
    rcases Nat.lt_or_gt_of_ne hne with q | q
    · exact key i j q hj.1 s2.1
    · exact fun e => key j i q hi.1 s1.1 e.symm
  exact beh_apart h hne2 (fun k => s2.2 _ k (getD_mem hi.1)) (fun k => s1.2 _ k (getD_mem hj.1)) hz
theorem und_len {L : FT} (h : WF L) {ns : List Int} (hs : ns.Pairwise (· ≤ ·)) : (undN L ns ns.length).length ≤ ns.length + L.length := by
  have := pigeon (m := ns ++ L.map Prod.fst) (und_nod h hs) (fun z hz => by
    obtain ⟨x, hx, hz⟩ := (mem_undS h).1 hz
    rcases hz with rfl | hz
    · exact List.mem_append_left _ hx
    · exact List.mem_append_right _ (abv_fst h hz))
  rwa [List.length_append, List.length_map] at this
def fsetE (L : FT) (c p : Int) : Int := if c ∈ abv L p ∨ c = p then 8 else 0
def setS9 (L : FT) (c p : Int) : FT := if fsetE L c p = 0 then setF L c p else L
def freeS (L : FT) (xs : List Int) : FT := xs.foldl freeF L
def frN (L : FT) : List Int → Nat
  | [] => 0
  | x :: xs => (if (parO L x).isSome then 1 else 0) + frN (freeF L x) xs
def dropF (L : FT) (x : Int) : FT := freeS (freeF L x) (chF L x)
theorem fset_ok {L : FT} {c p : Int} (h : fsetE L c p = 0) : c ∉ abv L p ∧ c ≠ p := by
  unfold fsetE at h
  by_cases q : c ∈ abv L p ∨ c = p
  · rw [if_pos q] at h; omega
  · exact ⟨fun a => q (Or.inl a), fun a => q (Or.inr a)⟩
theorem WF.set9 {L : FT} (h : WF L) (c p : Int) : WF (setS9 L c p) := by
  unfold setS9
  by_cases q : fsetE L c p = 0
  · rw [if_pos q]
    exact h.set (fset_ok q).2 (fset_ok q).1
  · rw [if_neg q]; exact h
theorem WF.frees : ∀ (xs : List Int) {L : FT}, WF L → WF (freeS L xs)
  | [], _, h => h
  | x :: xs, _, h => WF.frees xs (h.free x)
theorem WF.drop {L : FT} (h : WF L) (x : Int) : WF (dropF L x) := WF.frees _ (h.free x)
theorem free_len (L : FT) (x : Int) : (freeF L x).length ≤ L.length := List.length_filter_le _ _
theorem frees_len : ∀ (xs : List Int) (L : FT), (freeS L xs).length ≤ L.length
  | [], _ => Nat.le_refl _
  | x :: xs, L => Nat.le_trans (frees_len xs (freeF L x)) (free_len L x)
theorem frees_snoc {L : FT} {xs : List Int} {k : Nat} {x : Int} (h : xs[k]? = some x) : freeS L (xs.take (k + 1)) = freeF (freeS L (xs.take k)) x := by
  unfold freeS
  rw [List.take_add_one, h, List.foldl_append]
  rfl
theorem frN_snoc : ∀ {xs : List Int} {L : FT} {k : Nat} {x : Int}, xs[k]? = some x → frN L (xs.take (k + 1)) = frN L (xs.take k) + (if (parO (freeS L (xs.take k)) x).isSome then 1 else 0)
  | [], _, _, _, h => by simp at h
  | a :: xs, L, 0, x, h => by
    simp at h
    subst h
    show (if (parO L a).isSome then 1 else 0) + 0 = 0 + _
    rw [Nat.add_zero, Nat.zero_add]
    rfl
  | a :: xs, L, k + 1, x, h => by
    have ih := frN_snoc (xs := xs) (L := freeF L a) (k := k) (x := x) (by simpa using h)
    rw [List.take_succ_cons, List.take_succ_cons]
    show _ + frN (freeF L a) (xs.take (k + 1)) = _ + frN (freeF L a) (xs.take k) + _
    rw [ih, Nat.add_assoc]
    rfl
theorem frN_le : ∀ (xs : List Int) (L : FT), frN L xs ≤ xs.length
  | [], _ => Nat.le_refl _
  | x :: xs, L => by
    have := frN_le xs (freeF L x)
    show (if (parO L x).isSome then 1 else 0) + frN (freeF L x) xs ≤ xs.length + 1
    split <;> omega

section
variable {SB : World → Nat → (Nat → Prop) → St → Prop}
end
end Go.Proofs.YthhfcedhbfandaaGreat
