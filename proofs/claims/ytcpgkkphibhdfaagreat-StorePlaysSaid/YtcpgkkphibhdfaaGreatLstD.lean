/-
  What holds of every landed store: which set and which tick stand at an entity's index; its predicate.
-/
import Derived.Test.YtcpgkkphibhdfaaGreatLstC
namespace Go.Proofs.YtcpgkkphibhdfaaGreat
open Go.RowKit

structure LI (S : St) (ls lt : Nat → Int) : Prop where
  set_ : ∀ x P, inS S x P → ls (x % 256).toNat = P.1
  chm : ∀ x, liveS S x = true → (x, lt (x % 256).toNat) ∈ S.ch
  chn : (S.ch.map Prod.fst).Nodup
  gop : S.go.Pairwise (fun a b => a.2 ≤ b.2)
  gon : ∀ x ∈ S.go, x.2 ≤ S.now
/-- the landed store -/
def LSB (w : World) (g : Nat) (F : Nat → Prop) (S : St) : Prop := ∃ ls lt, LB w g F S ls lt ∧ LI S ls lt
theorem live_inj {G : Nat → Int} {L : Nat → Bool} {x y : Int} (hx : liveB G L x = true) (hy : liveB G L y = true) (e : (x % 256).toNat = (y % 256).toNat) : x = y := by
  obtain ⟨x0, _, _, x3⟩ := live_iff.1 hx
  obtain ⟨y0, _, _, y3⟩ := live_iff.1 hy
  rw [e] at x3
  omega
theorem live_ok {S : St} {x : Int} (h : liveS S x = true) : idOk x = true := by
  obtain ⟨x0, x1, _⟩ := live_iff.1 h
  unfold idOk
  rw [decide_eq_true x0, decide_eq_true x1]
  rfl
theorem mark_nod {ch : List (Int × Int)} (h : (ch.map Prod.fst).Nodup) (id now : Int) : ((markL ch id now).map Prod.fst).Nodup := by
  unfold markL
  rw [List.map_append]
  refine List.nodup_append.2 ⟨List.Nodup.sublist (List.Sublist.map _ List.filter_sublist) h, by simp, fun a ha b hb e => ?_⟩
  obtain ⟨y, hy, rfl⟩ := List.mem_map.1 ha
  rw [List.mem_filter] at hy
  simp at hb
  rw [e, hb] at hy
  simp at hy
theorem mark_old {ch : List (Int × Int)} {id now x t : Int} (h : (x, t) ∈ ch) (hn : x ≠ id) : (x, t) ∈ markL ch id now := by
  unfold markL
  rw [List.mem_append, List.mem_filter]
  exact Or.inl ⟨h, by simpa using hn⟩
section
variable {S S' : St} {ls lt : Nat → Int}
theorem LI.put (h : LI S ls lt) (hW : WS S) (hW' : WS S') {id : Int} {P : PT} (hin : ∀ x Q, inS S' x Q ↔ (inS S x Q ∧ x ≠ id) ∨ (x = id ∧ Q = P)) (hnow : S'.now = S.now) (hch : S'.ch = markL S.ch id S.now) (hgo : S'.go = S.go) : LI S' (upf ls (id % 256).toNat P.1) (upf lt (id % 256).toNat S.now) := by
  have hid : liveS S' id = true := (hW'.live id).2 ⟨P, (hin id P).2 (Or.inr ⟨rfl, rfl⟩)⟩
  have hoff : ∀ x, liveS S' x = true → x ≠ id → (x % 256).toNat ≠ (id % 256).toNat := fun x hx hn e => hn (live_inj hx hid e)
  refine ⟨fun x Q hx => ?_, fun x hx => ?_, by rw [hch]; exact mark_nod h.chn _ _, by rw [hgo]; exact h.gop, by rw [hgo, hnow]; exact h.gon⟩
  · have hl : liveS S' x = true := (hW'.live x).2 ⟨Q, hx⟩
    unfold upf
    rcases (hin x Q).1 hx with ⟨h1, h2⟩ | ⟨rfl, rfl⟩
    · rw [if_neg (hoff x hl h2)]; exact h.set_ x Q h1
    · rw [if_pos rfl]
  · unfold upf
    rw [hch]
    obtain ⟨Q, hQ⟩ := (hW'.live x).1 hx
    rcases (hin x Q).1 hQ with ⟨h1, h2⟩ | ⟨rfl, rfl⟩
    · rw [if_neg (hoff x hx h2)]
      exact mark_old (h.chm x ((hW.live x).2 ⟨Q, h1⟩)) h2
    · rw [if_pos rfl]
      exact mark_new _ _ _
theorem LI.cut (h : LI S ls lt) (hW : WS S) (hW' : WS S') {id : Int} (hin : ∀ x Q, inS S' x Q ↔ inS S x Q ∧ x ≠ id) (hnow : S'.now = S.now) (hch : S'.ch = S.ch) (hgo : S'.go = S.go ++ [(id, S.now)]) : LI S' ls lt := by
  refine ⟨fun x Q hx => h.set_ x Q ((hin x Q).1 hx).1, fun x hx => ?_, by rw [hch]; exact h.chn, ?_, ?_⟩
  · obtain ⟨Q, hQ⟩ := (hW'.live x).1 hx
    rw [hch]
    exact h.chm x ((hW.live x).2 ⟨Q, ((hin x Q).1 hQ).1⟩)
  · rw [hgo]
    exact List.pairwise_append.2 ⟨h.gop, by simp, fun a ha b hb => by simp at hb; rw [hb]; exact h.gon a ha⟩
  · rw [hgo, hnow]
    intro x hx
    rw [List.mem_append] at hx
    rcases hx with hx | hx
    · exact h.gon x hx
    · simp at hx; rw [hx]; exact Int.le_refl _
theorem LI.mark_ (h : LI S ls lt) {id : Int} (hl : liveS S id = true) : LI (to1 S id) ls (upf lt (id % 256).toNat S.now) := by
  have e : to1 S id = { S with ch := markL S.ch id S.now } := by unfold to1; rw [if_pos hl]
  rw [e]
  refine ⟨h.set_, fun x hx => ?_, mark_nod h.chn _ _, h.gop, h.gon⟩
  have hx' : liveS S x = true := hx
  show (x, upf lt (id % 256).toNat S.now (x % 256).toNat) ∈ markL S.ch id S.now
  unfold upf
  by_cases c : x = id
  · rw [if_pos (by rw [c]), c]; exact mark_new _ _ _
  · rw [if_neg (fun e => c (live_inj hx' hl e))]
    exact mark_old (h.chm x hx') c
theorem LI.ne (h : LI S ls lt) : LI (neS S) ls lt := ⟨h.set_, h.chm, h.chn, h.gop, fun x hx => by have := h.gon x hx; show x.2 ≤ S.now + 1; omega⟩
theorem getB_live (hW : WS S) (id : Int) : getB S id = liveS S id := by
  cases c : liveS S id with
  | true => exact getB_iff.2 ((hW.live id).1 c)
  | false =>
    cases d : getB S id with
    | false => rfl
    | true => exact absurd ((hW.live id).2 (getB_iff.1 d)) (by rw [c]; simp)
theorem at_live (hW : WS S) {id : Int} {i : Nat} (ha : atS S id = some i) : liveS S id = true := by
  rw [← getB_live hW]; unfold getB; rw [ha]; rfl
theorem at_dead (hW : WS S) {id : Int} (ha : atS S id = none) : liveS S id = false := by
  rw [← getB_live hW]; unfold getB; rw [ha]; rfl
end
/-- where it is -/
theorem LM.there {w : World} {g p mb : Nat} {S : St} {ls lt : Nat → Int} {ts : Nat → Option Nat} {Lf : Nat → Nat → Prop} {gv : Value} {lab : Nat → Nat} (h : LM w g S p mb ls lt ts Lf gv lab) (hI : LI S ls lt) (hW : WS S) {id : Int} {i : Nat} (ha : atS S id = some i) :
    idOk id = true ∧ i < 32 ∧ ls (id % 256).toNat = (i : Int) ∧ ∃ a, ts i = some a := by
  obtain ⟨hi, hh⟩ := at_some ha
  have hg := at_get hW ha
  have hP : (getP S id).1 = (i : Int) := (fits_iff.1 (hW.fit i hi _ hg)).2
  refine ⟨live_ok (at_live hW ha), hi, by rw [hI.set_ id _ ⟨i, hi, hg⟩, hP], ?_⟩
  have ht := h.tab i hi
  cases hts : ts i with
  | some a => exact ⟨a, rfl⟩
  | none =>
    rw [hts] at ht
    rw [ht.1] at hg
    cases hg
theorem LSB.of_cm {w w' : World} {g : Nat} {F : Nat → Prop} {S : St} {ls lt : Nat → Int} (h : CM w w' g F S ls lt) (hI : LI S ls lt) : Chg LSB w w' g F S := by
  obtain ⟨F', h1, h2, h3⟩ := h
  exact ⟨F', ⟨ls, lt, h1, hI⟩, h2, h3⟩
theorem LSB.still {w w' : World} {g : Nat} {F : Nat → Prop} {S : St} (h : LSB w g F S) (hb : Below w.heap.size w w') : Chg LSB w w' g F S := by
  obtain ⟨ls, lt, h1, h2⟩ := h
  exact LSB.of_cm (CM.still h1 hb) h2
theorem LSB.keep {w w' : World} {g : Nat} {F : Nat → Prop} {S : St} (h : LSB w g F S) (hb : Below w.heap.size w w') : LSB w' g F S := by
  obtain ⟨ls, lt, h1, h2⟩ := h
  exact ⟨ls, lt, h1.keep hb, h2⟩
theorem LSB.inH {w : World} {g : Nat} {F : Nat → Prop} {S : St} (h : LSB w g F S) : g < w.heap.size := by
  obtain ⟨ls, lt, h1, h2⟩ := h
  exact h1.inH
/-- does one live? -/
theorem LSB.live {w : World} {g : Nat} {F : Nat → Prop} {S : St} (h : LSB w g F S) : ∃ p, w.cell? ⟨g, 0, none⟩ = some (.pointer (some ⟨p, 0, none⟩)) ∧ (∀ id, Calls Tryz.prog 41 #[.pointer (some ⟨p, 0, none⟩), .int .i64 id] w fun e w' => e = .returned (.bool (liveS S id)) ∧ Below w.heap.size w w') ∧ (POk S.room S.G S.L → Calls Tryz.prog 44 #[.pointer (some ⟨p, 0, none⟩)] w fun e w' => ∃ a cap, e = .returned (.slice a (alS S).length cap) ∧ Row w' a (alS S).length (alS S) ∧ Below w.heap.size w w') := by
  obtain ⟨ls, lt, ⟨p, mb, ts, Lf, gv, lab, h1, hF⟩, h2⟩ := h
  exact ⟨p, h1.c0, fun id => qlive p S.room S.G S.L id w h1.pool, fun hp => qall p S.room S.G S.L w hp h1.pool⟩

end Go.Proofs.YtcpgkkphibhdfaaGreat
