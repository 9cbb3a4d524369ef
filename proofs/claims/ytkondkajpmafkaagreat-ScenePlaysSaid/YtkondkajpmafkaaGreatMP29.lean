/-
  A scene as plain data: a store, a forest of who lives; what its calls answer, as functions; what holds of every scene; all changes are told.
-/
import Derived.Test.YtkondkajpmafkaaGreatMP26
import Derived.Test.YtkondkajpmafkaaGreatMP28
namespace Go.Proofs.YtkondkajpmafkaaGreat
open Go.RowKit

structure Sc where
  S : St
  L : FT
def Sc0 (r : Nat) : Sc := ⟨St0 r, []⟩
def noP (S : St) (p : Int) : Bool := decide (0 ≤ p) && !liveS S p
def xspE (X : Sc) (P : PT) (p : Int) : Int := if noP X.S p then 4 else spE X.S P
def xspV (X : Sc) (P : PT) (p : Int) : Int := if noP X.S p then 0 else spV X.S P
def xspS (X : Sc) (P : PT) (p : Int) : Sc := if noP X.S p then X else ⟨spS X.S P, if spE X.S P = 0 ∧ 0 ≤ p then setS9 X.L (spV X.S P) p else X.L⟩
def xdeS (X : Sc) (id : Int) : Sc := if deE X.S id = 0 then ⟨toS (deS X.S id) (chF X.L id), dropF X.L id⟩ else X
def xpuS (X : Sc) (id : Int) (Q : PT) (ks : List Int) : Sc := ⟨puS X.S id Q ks, X.L⟩
def xcuS (X : Sc) (id : Int) (ks : List Int) : Sc := ⟨cuS X.S id ks, X.L⟩
def xadE (X : Sc) (c p : Int) : Int := if liveS X.S c && liveS X.S p then fsetE X.L c p else 4
def xadS (X : Sc) (c p : Int) : Sc := if xadE X c p = 0 then ⟨toS X.S [c], setS9 X.L c p⟩ else X
def xfrE (X : Sc) (c : Int) : Int := if liveS X.S c then 0 else 4
def xfrS (X : Sc) (c : Int) : Sc := if liveS X.S c then ⟨if (parO X.L c).isSome then toS X.S [c] else X.S, freeF X.L c⟩ else X
def xneS (X : Sc) : Sc := ⟨neS X.S, X.L⟩
def nodeX (X : Sc) (id : Int) : Nd := if getB X.S id then ⟨id, (parO X.L id).getD (-1), if hasB (getP X.S id).1 0 then (getP X.S id).2.1 else sameM, hasB (getP X.S id).1 4⟩ else ⟨0, 0, fun _ => 0, false⟩

/-! a row of acts in the forest -/
theorem mem_free9 {L : FT} {x : Int} {q : Int × Int} : q ∈ freeF L x ↔ q ∈ L ∧ q.1 ≠ x := by
  unfold freeF
  rw [List.mem_filter]
  simp
theorem mem_frees : ∀ (xs : List Int) {L : FT} {q : Int × Int}, q ∈ freeS L xs ↔ q ∈ L ∧ q.1 ∉ xs
  | [], L, q => by unfold freeS; simp
  | x :: xs, L, q => by
    show q ∈ freeS (freeF L x) xs ↔ _
    rw [mem_frees xs, mem_free9, List.mem_cons, not_or, and_assoc]
theorem mem_drop9 {L : FT} (hn : (L.map Prod.fst).Nodup) {x : Int} {q : Int × Int} (h : q ∈ dropF L x) : q ∈ L ∧ q.1 ≠ x ∧ q.2 ≠ x := by
  unfold dropF at h
  obtain ⟨h1, h2⟩ := (mem_frees _).1 h
  obtain ⟨h3, h4⟩ := mem_free9.1 h1
  refine ⟨h3, h4, fun e => h2 ?_⟩
  obtain ⟨a, b⟩ := q
  rw [mem_chF hn]
  rw [par_of_mem hn h3]
  exact congrArg some e
theorem filter_or_len {α : Type} (p q : α → Bool) (l : List α) (h : ∀ x ∈ l, p x = true → q x = false) : (l.filter p).length + (l.filter q).length ≤ l.length := by
  induction l with
  | nil => simp
  | cons a l ih =>
    have h2 := ih (fun x hx => h x (List.mem_cons_of_mem _ hx))
    have h3 := h a List.mem_cons_self
    cases c1 : p a with
    | true => rw [List.filter_cons_of_pos c1, List.filter_cons_of_neg (by rw [h3 c1]; decide), List.length_cons, List.length_cons]; omega
    | false =>
      rw [List.filter_cons_of_neg (by rw [c1]; decide)]
      cases c2 : q a with
      | true => rw [List.filter_cons_of_pos c2, List.length_cons, List.length_cons]; omega
      | false => rw [List.filter_cons_of_neg (by rw [c2]; decide), List.length_cons]; omega
theorem frees_filter : ∀ (xs : List Int) (L : FT), freeS L xs = L.filter (fun q => !decide (q.1 ∈ xs))
  | [], L => by
    rw [List.filter_eq_self.2 (fun q _ => by simp)]
    rfl
  | x :: xs, L => by
    show freeS (freeF L x) xs = _
    rw [frees_filter xs]
    unfold freeF
    rw [List.filter_filter]
    refine List.filter_congr (fun q _ => ?_)
    by_cases c : q.1 = x <;> simp [c]
theorem drop_len9 {L : FT} (hn : (L.map Prod.fst).Nodup) (x : Int) : (chF L x).length + (dropF L x).length ≤ L.length := by
  have e1 : (chF L x).length = (L.filter (fun p => p.2 == x)).length := by unfold chF; rw [sort_len, List.length_map]
  have e2 : (dropF L x).length ≤ (L.filter (fun q => !decide (q.1 ∈ chF L x))).length := by
    unfold dropF
    rw [frees_filter]
    unfold freeF
    rw [List.filter_filter]
    have e3 : L.filter (fun q => !decide (q.1 ∈ chF L x) && (q.1 != x)) = (L.filter (fun q => !decide (q.1 ∈ chF L x))).filter (fun q => q.1 != x) := by
      rw [List.filter_filter]
      exact List.filter_congr (fun q _ => Bool.and_comm _ _)
    rw [e3]
    exact List.length_filter_le _ _
  rw [e1]
  refine Nat.le_trans (Nat.add_le_add_left e2 _) (filter_or_len _ _ L (fun q hq h => ?_))
  have : q.1 ∈ chF L x := by
    rw [mem_chF hn, par_of_mem hn (show (q.1, q.2) ∈ L from hq)]
    exact congrArg some (by simpa using h)
  simp [this]
theorem set_len9 (L : FT) (c p : Int) : (setS9 L c p).length ≤ L.length + 1 := by
  unfold setS9
  split
  · unfold setF
    rw [List.length_append]
    have := free_len L c
    simp
    exact this
  · omega
theorem mem_set9 {L : FT} {c p : Int} {q : Int × Int} (h : q ∈ setS9 L c p) : q ∈ L ∨ q = (c, p) := by
  unfold setS9 at h
  split at h
  · unfold setF at h
    rcases List.mem_append.1 h with m | m
    · exact Or.inl (mem_free9.1 m).1
    · exact Or.inr (by simpa using m)
  · exact Or.inl h
/-! what the store's steps do to who lives, who changed -/
def CH (since : Int) (S : St) (x : Int) : Prop := ∃ t, (x, t) ∈ S.ch ∧ since < t
theorem live_sp {S : St} (h : WS S) {P : PT} (he : spE S P = 0) (x : Int) : liveS (spS S P) x = true ↔ liveS S x = true ∨ x = spV S P := by
  obtain ⟨w1, w2, w3⟩ := ws_spawn h he
  rw [w1.live, h.live]
  constructor
  · rintro ⟨Q, hQ⟩
    rcases (w3 x Q).1 hQ with ⟨a, _⟩ | ⟨a, _⟩
    · exact Or.inl ⟨Q, a⟩
    · exact Or.inr a
  · rintro (⟨Q, hQ⟩ | e)
    · refine ⟨Q, (w3 x Q).2 (Or.inl ⟨hQ, fun e => ?_⟩)⟩
      have : liveS S x = true := (h.live x).2 ⟨Q, hQ⟩
      rw [e, w2] at this
      cases this
    · exact ⟨P, (w3 x P).2 (Or.inr ⟨e, rfl⟩)⟩
theorem live_lay {S : St} (h : WS S) {id : Int} {i : Nat} (ha : atS S id = some i) {P : PT} (hr : rightT P = true) (x : Int) : liveS (layS S id P) x = liveS S x := by
  obtain ⟨w1, w2⟩ := ws_lay h ha hr
  have hl : ∃ P, inS S id P := getB_iff.1 (by unfold getB; rw [ha]; rfl)
  rw [Bool.eq_iff_iff, w1.live, h.live]
  constructor
  · rintro ⟨Q, hQ⟩
    rcases (w2 x Q).1 hQ with ⟨a, _⟩ | ⟨a, _⟩
    · exact ⟨Q, a⟩
    · rw [a]; exact hl
  · rintro ⟨Q, hQ⟩
    by_cases c : x = id
    · exact ⟨P, (w2 x P).2 (Or.inr ⟨c, rfl⟩)⟩
    · exact ⟨Q, (w2 x Q).2 (Or.inl ⟨hQ, c⟩)⟩
theorem live_pu {S : St} (h : WS S) (id : Int) (Q : PT) (ks : List Int) (x : Int) : liveS (puS S id Q ks) x = liveS S x := by
  unfold puS
  split
  · rename_i he
    obtain ⟨i, ha, hr⟩ := pu_at he
    exact live_lay h ha hr x
  · rfl
theorem live_cu {S : St} (h : WS S) (id : Int) (ks : List Int) (x : Int) : liveS (cuS S id ks) x = liveS S x := by
  unfold cuS
  split
  · rename_i he
    obtain ⟨i, ha, hr⟩ := cu_at he
    exact live_lay h ha hr x
  · rfl
theorem de_at {S : St} {id : Int} (he : deE S id = 0) : ∃ i, atS S id = some i := by
  unfold deE getB at he
  cases c : atS S id with
  | none => rw [c] at he; exact absurd he (by decide)
  | some i => exact ⟨i, rfl⟩
theorem de_no {S : St} {id : Int} (he : deE S id ≠ 0) : deS S id = S := by
  unfold deE getB at he
  unfold deS
  cases c : atS S id with
  | none => rfl
  | some i => rw [c] at he; exact absurd rfl he
theorem live_de {S : St} (h : WS S) {id : Int} (he : deE S id = 0) (x : Int) : liveS (deS S id) x = true ↔ liveS S x = true ∧ x ≠ id := by
  obtain ⟨i, ha⟩ := de_at he
  obtain ⟨w1, w2⟩ := ws_despawn h ha
  rw [w1.live, h.live]
  constructor
  · rintro ⟨Q, hQ⟩
    exact ⟨⟨Q, ((w2 x Q).1 hQ).1⟩, ((w2 x Q).1 hQ).2⟩
  · rintro ⟨⟨Q, hQ⟩, c⟩
    exact ⟨Q, (w2 x Q).2 ⟨hQ, c⟩⟩
theorem ws_told {S : St} (h : WS S) : Told (fun _ => True) (fun x P => inS S x P) (S.now - 1) S := ⟨h, by omega, fun _ _ c => Or.inl c, fun _ P c => Or.inl ⟨P, c⟩⟩
theorem ws_to {S : St} (h : WS S) (l : List Int) : WS (toS S l) := (Told.to l (ws_told h)).ws
theorem ws_de {S : St} (h : WS S) (id : Int) : WS (deS S id) := ((ws_told h).de id).ws
theorem ws_sp {S : St} (h : WS S) (P : PT) : WS (spS S P) := ((ws_told h).spawn P).ws
theorem ws_pu {S : St} (h : WS S) (id : Int) (Q : PT) (ks : List Int) : WS (puS S id Q ks) := ((ws_told h).pu id Q ks).ws
theorem ws_cu {S : St} (h : WS S) (id : Int) (ks : List Int) : WS (cuS S id ks) := ((ws_told h).cu id ks).ws
theorem ws_ne {S : St} (h : WS S) : WS (neS S) := ((ws_told h).ne).ws
/-! what holds of every scene -/
structure WX (X : Sc) : Prop where
  ws : WS X.S
  wf : WF X.L
  kid : ∀ q ∈ X.L, liveS X.S q.1 = true ∧ liveS X.S q.2 = true
theorem noP_no {S : St} {p : Int} (h : noP S p = false) (hp : 0 ≤ p) : liveS S p = true := by
  unfold noP at h
  rw [decide_eq_true hp] at h
  simpa using h
theorem WX.zero {r : Nat} (h : r ≤ 256) : WX (Sc0 r) := ⟨ws_zero h, WF.nil, fun q hq => by cases hq⟩
theorem WX.sp {X : Sc} (h : WX X) (P : PT) (p : Int) : WX (xspS X P p) := by
  unfold xspS
  by_cases c : noP X.S p = true
  · rw [if_pos c]; exact h
  · rw [if_neg c]
    by_cases he : spE X.S P = 0
    · refine ⟨ws_sp h.ws P, ?_, ?_⟩
      · show WF (if spE X.S P = 0 ∧ 0 ≤ p then _ else _)
        split
        · exact h.wf.set9 _ _
        · exact h.wf
      · show ∀ q ∈ (if spE X.S P = 0 ∧ 0 ≤ p then _ else _), _
        have hk : ∀ q ∈ X.L, liveS (spS X.S P) q.1 = true ∧ liveS (spS X.S P) q.2 = true := fun q hq => ⟨(live_sp h.ws he _).2 (Or.inl (h.kid q hq).1), (live_sp h.ws he _).2 (Or.inl (h.kid q hq).2)⟩
        split
        · rename_i hh
          intro q hq
          rcases mem_set9 hq with m | m
          · exact hk q m
          · subst m
            exact ⟨(live_sp h.ws he _).2 (Or.inr rfl), (live_sp h.ws he _).2 (Or.inl (noP_no (by simpa using c) hh.2))⟩
        · exact hk
    · have e : spS X.S P = X.S := by unfold spS; rw [if_neg he]
      rw [if_neg (fun hh => he hh.1), e]
      exact h
theorem WX.de {X : Sc} (h : WX X) (id : Int) : WX (xdeS X id) := by
  unfold xdeS
  by_cases he : deE X.S id = 0
  · rw [if_pos he]
    refine ⟨ws_to (ws_de h.ws id) _, h.wf.drop id, fun q hq => ?_⟩
    obtain ⟨h1, h2, h3⟩ := mem_drop9 h.wf.1 hq
    obtain ⟨k1, k2⟩ := h.kid q h1
    show liveS (toS (deS X.S id) _) _ = true ∧ liveS (toS (deS X.S id) _) _ = true
    rw [live_tos, live_tos]
    exact ⟨(live_de h.ws he _).2 ⟨k1, h2⟩, (live_de h.ws he _).2 ⟨k2, h3⟩⟩
  · rw [if_neg he]; exact h
theorem WX.pu {X : Sc} (h : WX X) (id : Int) (Q : PT) (ks : List Int) : WX (xpuS X id Q ks) := ⟨ws_pu h.ws id Q ks, h.wf, fun q hq => by
  show liveS (puS X.S id Q ks) _ = true ∧ liveS (puS X.S id Q ks) _ = true
  rw [live_pu h.ws, live_pu h.ws]; exact h.kid q hq⟩
theorem WX.cu {X : Sc} (h : WX X) (id : Int) (ks : List Int) : WX (xcuS X id ks) := ⟨ws_cu h.ws id ks, h.wf, fun q hq => by
  show liveS (cuS X.S id ks) _ = true ∧ liveS (cuS X.S id ks) _ = true
  rw [live_cu h.ws, live_cu h.ws]; exact h.kid q hq⟩
theorem ad_live {X : Sc} {c p : Int} (h : xadE X c p = 0) : liveS X.S c = true ∧ liveS X.S p = true ∧ fsetE X.L c p = 0 := by
  unfold xadE at h
  by_cases q : (liveS X.S c && liveS X.S p) = true
  · rw [if_pos q] at h
    rw [Bool.and_eq_true] at q
    exact ⟨q.1, q.2, h⟩
  · rw [if_neg q] at h; exact absurd h (by decide)
theorem WX.ad {X : Sc} (h : WX X) (c p : Int) : WX (xadS X c p) := by
  unfold xadS
  by_cases he : xadE X c p = 0
  · rw [if_pos he]
    obtain ⟨l1, l2, _⟩ := ad_live he
    refine ⟨ws_to h.ws _, h.wf.set9 _ _, fun q hq => ?_⟩
    show liveS (toS X.S [c]) _ = true ∧ liveS (toS X.S [c]) _ = true
    rw [live_tos, live_tos]
    rcases mem_set9 hq with m | m
    · exact h.kid q m
    · subst m; exact ⟨l1, l2⟩
  · rw [if_neg he]; exact h
theorem WX.fr {X : Sc} (h : WX X) (c : Int) : WX (xfrS X c) := by
  unfold xfrS
  by_cases he : liveS X.S c = true
  · rw [if_pos he]
    refine ⟨?_, h.wf.free c, fun q hq => ?_⟩
    · show WS (if (parO X.L c).isSome then toS X.S [c] else X.S)
      split
      · exact ws_to h.ws _
      · exact h.ws
    · have hk := h.kid q (mem_free9.1 hq).1
      show liveS (if (parO X.L c).isSome then toS X.S [c] else X.S) _ = true ∧ liveS (if (parO X.L c).isSome then toS X.S [c] else X.S) _ = true
      split
      · rw [live_tos, live_tos]; exact hk
      · exact hk
  · rw [if_neg he]; exact h
theorem WX.ne {X : Sc} (h : WX X) : WX (xneS X) := ⟨ws_ne h.ws, h.wf, h.kid⟩

/-! sizes -/
def BSc (X : Sc) (m : Nat) : Prop := X.S.ch.length + X.L.length ≤ m ∧ X.S.go.length ≤ m ∧ (∀ i, i < 32 → (X.S.T i).length ≤ m) ∧ 0 < X.S.now ∧ X.S.now ≤ m + 1 ∧ X.S.room ≤ 256
theorem BSc.bd {X : Sc} {m : Nat} (h : BSc X m) : Bd X.S m := ⟨by have := h.1; omega, h.2.1, h.2.2.1, h.2.2.2.1, h.2.2.2.2.1, h.2.2.2.2.2⟩
theorem BSc.len {X : Sc} {m : Nat} (h : BSc X m) : X.L.length ≤ m := by have := h.1; omega
theorem BSc.mono {X : Sc} {m m' : Nat} (h : BSc X m) (hm : m ≤ m') : BSc X m' := ⟨Nat.le_trans h.1 hm, Nat.le_trans h.2.1 hm, fun i hi => Nat.le_trans (h.2.2.1 i hi) hm, h.2.2.2.1, by have := h.2.2.2.2.1; omega, h.2.2.2.2.2⟩
theorem BSc.zero {r : Nat} (h : r ≤ 256) : BSc (Sc0 r) 0 := ⟨Nat.le_refl _, Nat.le_refl _, fun _ _ => Nat.le_refl _, by show (0 : Int) < 1; omega, by show (1 : Int) ≤ _; omega, h⟩
/-- the rest of a store's size -/
theorem BSc.of {X : Sc} {m k : Nat} (h : Bd X.S m) (hl : X.S.ch.length + X.L.length ≤ k) (hm : m ≤ k) : BSc X k := ⟨hl, Nat.le_trans h.2.1 hm, fun i hi => Nat.le_trans (h.2.2.1 i hi) hm, h.2.2.2.1, by have := h.2.2.2.2.1; omega, h.2.2.2.2.2⟩
theorem to_ch : ∀ (l : List Int) (S : St), (toS S l).ch.length ≤ S.ch.length + l.length ∧ (toS S l).go = S.go ∧ (toS S l).T = S.T ∧ (toS S l).now = S.now ∧ (toS S l).room = S.room
  | [], S => ⟨Nat.le_refl _, rfl, rfl, rfl, rfl⟩
  | x :: l, S => by
    obtain ⟨a, b, c, d, e⟩ := to_ch l (to1 S x)
    have h1 : (to1 S x).ch.length ≤ S.ch.length + 1 ∧ (to1 S x).go = S.go ∧ (to1 S x).T = S.T ∧ (to1 S x).now = S.now ∧ (to1 S x).room = S.room := by
      unfold to1
      split
      · exact ⟨mark_len _ _ _, rfl, rfl, rfl, rfl⟩
      · exact ⟨by omega, rfl, rfl, rfl, rfl⟩
    refine ⟨?_, b.trans h1.2.1, c.trans h1.2.2.1, d.trans h1.2.2.2.1, e.trans h1.2.2.2.2⟩
    show (toS (to1 S x) l).ch.length ≤ _
    rw [List.length_cons]
    have := h1.1
    omega
theorem BSc.to {X : Sc} {m k : Nat} (h : Bd X.S m) (l : List Int) (L : FT) (hl : X.S.ch.length + l.length + L.length ≤ k) (hm : m ≤ k) : BSc ⟨toS X.S l, L⟩ k := by
  obtain ⟨a, b, c, d, e⟩ := to_ch l X.S
  exact ⟨by show (toS X.S l).ch.length + L.length ≤ k; omega, by show (toS X.S l).go.length ≤ k; rw [b]; exact Nat.le_trans h.2.1 hm, fun i hi => by show ((toS X.S l).T i).length ≤ k; rw [c]; exact Nat.le_trans (h.2.2.1 i hi) hm, by show 0 < (toS X.S l).now; rw [d]; exact h.2.2.2.1, by show (toS X.S l).now ≤ _; rw [d]; have := h.2.2.2.2.1; omega, by show (toS X.S l).room ≤ 256; rw [e]; exact h.2.2.2.2.2⟩
theorem sp_ch (S : St) (P : PT) : (spS S P).ch.length ≤ S.ch.length + 1 := by
  unfold spS
  split
  · exact mark_len _ _ _
  · omega
theorem lay_ch (S : St) (id : Int) (P : PT) : (layS S id P).ch.length ≤ S.ch.length + 1 := by
  unfold layS
  split
  · exact mark_len _ _ _
  · omega
theorem pu_ch (S : St) (id : Int) (Q : PT) (ks : List Int) : (puS S id Q ks).ch.length ≤ S.ch.length + 1 := by
  unfold puS
  split
  · exact lay_ch _ _ _
  · omega
theorem cu_ch (S : St) (id : Int) (ks : List Int) : (cuS S id ks).ch.length ≤ S.ch.length + 1 := by
  unfold cuS
  split
  · exact lay_ch _ _ _
  · omega
theorem de_ch (S : St) (id : Int) : (deS S id).ch = S.ch := by unfold deS; split <;> rfl
theorem bd_pu {S : St} {m : Nat} (h : Bd S m) (id : Int) (Q : PT) (ks : List Int) : Bd (puS S id Q ks) (m + 1) := by
  unfold puS
  split
  · exact bd_lay h _ _
  · exact h.mono (by omega)
theorem bd_cu {S : St} {m : Nat} (h : Bd S m) (id : Int) (ks : List Int) : Bd (cuS S id ks) (m + 1) := by
  unfold cuS
  split
  · exact bd_lay h _ _
  · exact h.mono (by omega)
theorem BSc.sp {X : Sc} {m : Nat} (h : BSc X m) (P : PT) (p : Int) : BSc (xspS X P p) (m + 2) := by
  unfold xspS
  split
  · exact h.mono (by omega)
  · refine BSc.of (X := ⟨_, _⟩) (bd_sp h.bd P) ?_ (by omega)
    have h1 := sp_ch X.S P
    have h2 := h.1
    show (spS X.S P).ch.length + (if spE X.S P = 0 ∧ 0 ≤ p then _ else _ : FT).length ≤ _
    split
    · have := set_len9 X.L (spV X.S P) p
      omega
    · omega
theorem BSc.de {X : Sc} {m : Nat} (h : BSc X m) (hw : WX X) (id : Int) : BSc (xdeS X id) (m + 2) := by
  unfold xdeS
  split
  · refine BSc.to (X := ⟨deS X.S id, X.L⟩) (bd_de h.bd id) _ _ ?_ (by omega)
    have h1 := drop_len9 hw.wf.1 id
    have h2 := h.1
    show (deS X.S id).ch.length + _ + _ ≤ _
    rw [de_ch]
    omega
  · exact h.mono (by omega)
theorem BSc.pu {X : Sc} {m : Nat} (h : BSc X m) (id : Int) (Q : PT) (ks : List Int) : BSc (xpuS X id Q ks) (m + 2) := by
  refine BSc.of (X := ⟨_, _⟩) (bd_pu h.bd id Q ks) ?_ (by omega)
  have h1 := pu_ch X.S id Q ks
  have h2 := h.1
  show (puS X.S id Q ks).ch.length + X.L.length ≤ _
  omega
theorem BSc.cu {X : Sc} {m : Nat} (h : BSc X m) (id : Int) (ks : List Int) : BSc (xcuS X id ks) (m + 2) := by
  refine BSc.of (X := ⟨_, _⟩) (bd_cu h.bd id ks) ?_ (by omega)
  have h1 := cu_ch X.S id ks
  have h2 := h.1
  show (cuS X.S id ks).ch.length + X.L.length ≤ _
  omega
theorem BSc.ad {X : Sc} {m : Nat} (h : BSc X m) (c p : Int) : BSc (xadS X c p) (m + 2) := by
  unfold xadS
  split
  · refine BSc.to h.bd _ _ ?_ (by omega)
    have h1 := set_len9 X.L c p
    have h2 := h.1
    show X.S.ch.length + 1 + _ ≤ _
    omega
  · exact h.mono (by omega)
theorem BSc.fr {X : Sc} {m : Nat} (h : BSc X m) (c : Int) : BSc (xfrS X c) (m + 2) := by
  unfold xfrS
  have h1 := free_len X.L c
  have h2 := h.1
  split
  · by_cases q : (parO X.L c).isSome = true
    · rw [if_pos q]
      refine BSc.to h.bd _ _ ?_ (by omega)
      show X.S.ch.length + 1 + _ ≤ _
      omega
    · rw [if_neg q]
      exact BSc.of (X := ⟨_, _⟩) h.bd (by show X.S.ch.length + (freeF X.L c).length ≤ _; omega) (by omega)
  · exact h.mono (by omega)
theorem BSc.ne {X : Sc} {m : Nat} (h : BSc X m) : BSc (xneS X) (m + 2) := BSc.of (X := ⟨_, _⟩) (bd_ne h.bd) (by have := h.1; show X.S.ch.length + X.L.length ≤ _; omega) (by omega)

/-! all changes are told: parts, as a store tells them; parents too -/
structure ToldX (I : Int → PT → Prop) (Io : Int → Option Int) (since : Int) (X : Sc) : Prop where
  wx : WX X
  told : Told (fun _ => True) I since X.S
  par : ∀ x, liveS X.S x = true → parO X.L x = Io x ∨ CH since X.S x
section
variable {I : Int → PT → Prop} {Io : Int → Option Int} {since : Int} {X : Sc}
end
end Go.Proofs.YtkondkajpmafkaaGreat
