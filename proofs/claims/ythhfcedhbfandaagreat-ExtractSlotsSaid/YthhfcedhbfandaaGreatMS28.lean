/-
  8 texts in one file, each with its own heading.
-/
import Derived.Test.YthhfcedhbfandaaGreatMS27
import Derived.Test.YthhfcedhbfandaaGreatMS01
import Derived.Test.YthhfcedhbfandaaGreatRows
import Derived.Test.YthhfcedhbfandaaGreatMS07
import Derived.Test.YthhfcedhbfandaaGreatMS03
import Derived.WalkKit
import Derived.ProofKit
import Derived.OpenShut
import Derived.ShutString
import Derived.ChangeOld
import Derived.Below
import Derived.Deep.Slices
import Derived.Laws.IdiomArrays
import Derived.Test.YthhfcedhbfandaaGreatMS21
/-
  What the reference's Of of layer 12 answers.
-/
namespace Go.Proofs.YthhfcedhbfandaaGreat
open Go.RowKit

end Go.Proofs.YthhfcedhbfandaaGreat
namespace Go.Proofs.YthhfcedhbfandaaGreat
open Go.ChangeShapes Go.WideShapes Go.ChangeAt Go.RowKit Go.Deep
set_option linter.unusedVariables false

instance : Inhabited Rc := ⟨zRc⟩
section
variable {H : Type} {enc : TypeId × Value → H} {w : World} {base : Nat} {spare : Nat → Bool} {held : Bool}
end
end Go.Proofs.YthhfcedhbfandaaGreat
namespace Go.Proofs.YthhfcedhbfandaaGreat
open Go.RowKit

theorem rise_rem {A : List Rc} (h : Rise A) (zs : List Int) : Rise (remL A zs) := List.Pairwise.sublist List.filter_sublist h
theorem look_rem (A : List Rc) (zs : List Int) (k : Int) : look k (remL A zs) = if k ∈ zs then none else look k A := by
  unfold look remL
  rw [List.find?_filter]
  by_cases h : k ∈ zs
  · rw [if_pos h, List.find?_eq_none]
    intro x hx
    by_cases e : x.id = k
    · rw [e]; simp [h]
    · simp [e]
  · rw [if_neg h]
    refine congrArg (fun f => List.find? f A) (funext fun r => ?_)
    by_cases e : r.id = k
    · rw [e]; simp [h]
    · simp [e]
end Go.Proofs.YthhfcedhbfandaaGreat
namespace Go.Proofs.YthhfcedhbfandaaGreat

def Wk (o : Int → Option Rc) (R0 : List Rc) (zs : List Int) (R : List Rc) : Prop := Rise R ∧ ∀ k, look k R = if k ∈ zs then o k else look k R0
theorem Wk.nil {o : Int → Option Rc} {R0 : List Rc} (h : Rise R0) : Wk o R0 [] R0 := ⟨h, fun k => by simp⟩
theorem Wk.one {o : Int → Option Rc} {R0 R R' : List Rc} {zs : List Int} (h : Wk o R0 zs R) (h' : Wk o R0 zs R') : R = R' :=
  rise_ext h.1 h'.1 (fun k => (h.2 k).trans (h'.2 k).symm)
theorem Wk.whole {o : Int → Option Rc} {R0 R : List Rc} {zs : List Int} (h : Wk o R0 zs R) (h0 : ∀ k, k ∉ zs → look k R0 = o k) (k : Int) : look k R = o k := by
  rw [h.2 k]
  by_cases c : k ∈ zs
  · rw [if_pos c]
  · rw [if_neg c, h0 k c]
theorem rise_names {R : List Rc} (h : Rise R) : (R.map Rc.id).Pairwise (· < ·) := List.pairwise_map.2 h
theorem rise_nod {R : List Rc} (h : Rise R) : (R.map Rc.id).Nodup := (rise_names h).imp (fun {a b} k e => by omega)
theorem look_has {R : List Rc} {k : Int} : (look k R).isSome = true ↔ k ∈ R.map Rc.id := by
  rw [List.mem_map]
  constructor
  · intro h
    obtain ⟨r, hr⟩ := Option.isSome_iff_exists.1 h
    exact ⟨r, look_mem hr⟩
  · rintro ⟨r, h1, h2⟩
    obtain ⟨y, hy⟩ := look_some h1 h2
    rw [hy]; rfl

def firstE (e : Int → Int) (zs : List Int) : Int := match zs.find? (fun x => decide (e x ≠ 0)) with | some x => e x | none => 0
theorem first_cons (e : Int → Int) (x : Int) (zs : List Int) : firstE e (x :: zs) = if e x = 0 then firstE e zs else e x := by
  unfold firstE
  by_cases c : e x = 0
  · rw [if_pos c, List.find?_cons_of_neg (by simpa using c)]
  · rw [if_neg c, List.find?_cons_of_pos (by simpa using c)]
theorem first_zero {e : Int → Int} {zs : List Int} : firstE e zs = 0 ↔ ∀ x ∈ zs, e x = 0 := by
  induction zs with
  | nil => exact ⟨fun _ x h => (by cases h), fun _ => rfl⟩
  | cons a zs ih =>
    rw [first_cons]
    constructor
    · intro h
      split at h
      · rename_i c
        intro x hx
        rcases List.mem_cons.1 hx with rfl | hx
        · exact c
        · exact ih.1 h x hx
      · rename_i c
        exact absurd h c
    · intro h
      rw [if_pos (h a List.mem_cons_self)]
      exact ih.2 (fun x hx => h x (List.mem_cons_of_mem _ hx))
theorem first_filter (e : Int → Int) (f : Int → Bool) : ∀ {zs : List Int}, (∀ x ∈ zs, f x = false → e x = 0) → firstE e (zs.filter f) = firstE e zs
  | [], _ => rfl
  | a :: zs, h => by
    have ih := first_filter e f (fun x hx => h x (List.mem_cons_of_mem _ hx))
    rw [first_cons]
    cases c : f a with
    | true => rw [List.filter_cons_of_pos c, first_cons, ih]
    | false => rw [List.filter_cons_of_neg (by rw [c]; decide), ih, if_pos (h a List.mem_cons_self c)]
theorem up_sub {us zs : List Int} (ha : us.Pairwise (· < ·)) (hz : zs.Pairwise (· < ·)) (h : ∀ x ∈ zs, x ∈ us) : zs = us.filter (fun x => decide (x ∈ zs)) := by
  induction us generalizing zs with
  | nil =>
    cases zs with
    | nil => rfl
    | cons z zs => cases h z List.mem_cons_self
  | cons a us ih =>
    obtain ⟨a1, a2⟩ := List.pairwise_cons.1 ha
    cases zs with
    | nil => rw [List.filter_eq_nil_iff.2 (fun x _ => by simp)]
    | cons z zs =>
      obtain ⟨z1, z2⟩ := List.pairwise_cons.1 hz
      by_cases c : z = a
      · subst c
        rw [List.filter_cons_of_pos (by simp)]
        congr 1
        have h2 : ∀ x ∈ zs, x ∈ us := fun x hx => by
          rcases List.mem_cons.1 (h x (List.mem_cons_of_mem _ hx)) with e | m
          · have := z1 x hx; omega
          · exact m
        refine (ih a2 z2 h2).trans (List.filter_congr (fun x hx => ?_))
        have := a1 x hx
        have hne : x ≠ z := by omega
        simp [hne]
      · have hza : z ∈ us := (List.mem_cons.1 (h z List.mem_cons_self)).resolve_left c
        have := a1 z hza
        have hna : a ∉ z :: zs := fun m => by
          rcases List.mem_cons.1 m with e | m
          · omega
          · have := z1 a m; omega
        rw [List.filter_cons_of_neg (by simpa using hna)]
        refine ih a2 hz (fun x hx => (List.mem_cons.1 (h x hx)).resolve_left (fun e => ?_))
        rw [e] at hx
        exact hna hx
theorem first_sub {e : Int → Int} {us zs : List Int} (ha : us.Pairwise (· < ·)) (hz : zs.Pairwise (· < ·)) (h : ∀ x ∈ zs, x ∈ us) (h0 : ∀ x ∈ us, x ∉ zs → e x = 0) : firstE e zs = firstE e us := by
  rw [up_sub ha hz h]
  exact first_filter e _ (fun x hx c => h0 x hx (by simpa using c))
end Go.Proofs.YthhfcedhbfandaaGreat
namespace Go.Proofs.YthhfcedhbfandaaGreat
open Go.RowKit

theorem withS_one {l L : List Nd} (hL : (L.map Nd.id).Nodup) (hl : ∀ a ∈ l, ∀ b ∈ l, a.id = b.id → a = b) (y : Int) : elF Nd.id (withS L l) y = (elF Nd.id l y).or (elF Nd.id L y) := by
  cases c : elF Nd.id l y with
  | none =>
    rw [Option.none_or]
    refine el_ext hL (fun m hm => withS_other (fun q => ?_))
    obtain ⟨n, hn, e⟩ := List.mem_map.1 q
    exact el_none.1 c n hn (by omega)
  | some n =>
    rw [Option.some_or]
    have h1 := el_some c
    have hin : n ∈ withS L l := by
      clear c
      induction l generalizing L with
      | nil => cases h1.2
      | cons a l ih =>
        show n ∈ withS (withN L a) l
        by_cases m : n ∈ l
        · exact ih (withN_nod hL a) (fun a ha b hb => hl a (List.mem_cons_of_mem _ ha) b (List.mem_cons_of_mem _ hb)) ⟨h1.1, m⟩
        · have e : n = a := (List.mem_cons.1 h1.2).resolve_right m
          refine (withS_other (fun q => m ?_)).2 (mem_withN.2 (Or.inr e))
          obtain ⟨b, hb, q⟩ := List.mem_map.1 q
          rw [← hl b (List.mem_cons_of_mem _ hb) n h1.2 q]
          exact hb
    have := el_of_mem (withS_nod l hL) hin
    rw [h1.1] at this
    exact this
theorem el_nodes {X : Sc} (h : WX X) {zs : List Int} (hz : ∀ x ∈ zs, liveS X.S x = true) (y : Int) : elF Nd.id (zs.map (nodeX X)) y = if y ∈ zs then some (nodeX X y) else none := by
  induction zs with
  | nil => simp [elF]
  | cons a zs ih =>
    have ha := node_id13 h (hz a List.mem_cons_self)
    have ih' := ih (fun x hx => hz x (List.mem_cons_of_mem _ hx))
    unfold elF at ih' ⊢
    rw [List.map_cons, List.find?_cons]
    by_cases e : a = y
    · subst e
      rw [ha, if_pos List.mem_cons_self]
      simp
    · rw [show ((nodeX X a).id == y) = false by rw [ha]; simpa using e]
      rw [ih']
      by_cases c : y ∈ zs
      · rw [if_pos c, if_pos (List.mem_cons_of_mem _ c)]
      · rw [if_neg c, if_neg (fun m => (List.mem_cons.1 m).elim (fun q => e q.symm) c)]
structure KnowX (X : Sc) (D : FD) (since : Int) : Prop where
  dok : DOk D
  old : ∀ x, liveS X.S x = true → x ∉ chL X.S since → elF Nd.id D.L x = some (nodeX X x)
  gone : ∀ x, liveS X.S x = false → (elF Nd.id D.L x).isSome = true → x ∈ goL X.S since
  went : ∀ x ∈ goL X.S since, liveS X.S x = false
def tookL (X : Sc) (D : FD) (since : Int) : List Nd := withS (dropS D (goL X.S since)).L ((chL X.S since).map (nodeX X))
section
variable {X : Sc} {D : FD} {since : Int}
theorem took_nod (h : KnowX X D since) : ((tookL X D since).map Nd.id).Nodup := withS_nod _ (h.dok.drops _).nod
theorem took_nodes (hX : WX X) (h : KnowX X D since) : NodesX X (tookL X D since) := fun x => by
  have hc : ∀ x ∈ chL X.S since, liveS X.S x = true := fun x hx => (mem_ch.1 hx).1
  unfold tookL
  rw [withS_one (h.dok.drops _).nod (fun a ha b hb e => by
    obtain ⟨p, hp, rfl⟩ := List.mem_map.1 ha
    obtain ⟨q, hq, rfl⟩ := List.mem_map.1 hb
    rw [node_id13 hX (hc p hp), node_id13 hX (hc q hq)] at e
    rw [e]), el_nodes hX hc, drops_el _ h.dok]
  by_cases c : x ∈ chL X.S since
  · rw [if_pos c, if_pos (hc x c), Option.some_or]
  · rw [if_neg c, Option.none_or]
    cases l : liveS X.S x with
    | true => rw [if_neg (fun m => by rw [h.went x m] at l; cases l), if_pos rfl, h.old x l c]
    | false =>
      by_cases g : x ∈ goL X.S since
      · rw [if_pos g]; rfl
      · rw [if_neg g]
        cases e : elF Nd.id D.L x with
        | none => rfl
        | some n => exact absurd (h.gone x l (by rw [e]; rfl)) g
theorem nodes_wf (hX : WX X) {L : List Nd} (hn : (L.map Nd.id).Nodup) (hN : NodesX X L) : WF (treesN L) := by
  refine ⟨trees_nod hn, fun x => ?_⟩
  have key : ∀ (l : List Int) (x : Int), IsA X.L x l → IsA (treesN L) x l := by
    intro l
    induction l with
    | nil =>
      intro x hx
      show parO (treesN L) x = none
      rw [nodes_par hX hn hN]
      exact hx
    | cons y l ih =>
      intro x hx
      exact ⟨by rw [nodes_par hX hn hN]; exact hx.1, ih y hx.2⟩
  exact ⟨_, key _ x (hX.wf.isA x)⟩
theorem took_put (hX : WX X) (h : KnowX X D since) (hok : ∀ x, liveS X.S x = true → okM (nodeX X x).pl = true) : putFE (dropS D (goL X.S since)) ((chL X.S since).map (nodeX X)) = 0 := by
  unfold putFE
  rw [if_neg, if_neg]
  · intro q
    obtain ⟨n, _, e⟩ := List.any_eq_true.1 q
    have := no_ring10 (took_nod h) (nodes_wf hX (took_nod h) (took_nodes hX h)) n.id
    have e' : ringB (tookL X D since) n.id = true := e
    rw [this] at e'
    cases e'
  · intro q
    obtain ⟨n, hn, e⟩ := List.any_eq_true.1 q
    obtain ⟨x, hx, rfl⟩ := List.mem_map.1 hn
    have hl := (mem_ch.1 hx).1
    unfold badN at e
    rw [hok x hl, node_id13 hX hl] at e
    have : 0 ≤ x := (live_iff.1 hl).1
    simp at e
    omega
end
def oX (X : Sc) (L : List Nd) (x : Int) : Option Rc := match (fate L x).1 with
  | some s => if obR s.wo (getP X.S x) s.sh = true then some (recT x (getP X.S x) s.wo) else none
  | none => none
def eX (X : Sc) (L : List Nd) (x : Int) : Int := match (fate L x).1 with
  | some s => oeR s.wo (getP X.S x) s.sh
  | none => 0
theorem oX_id {X : Sc} {L : List Nd} {x : Int} {r : Rc} (h : oX X L x = some r) : r.id = x := by
  unfold oX at h
  cases c : (fate L x).1 with
  | none => rw [c] at h; cases h
  | some s =>
    simp only [c] at h
    by_cases d : obR s.wo (getP X.S x) s.sh = true
    · rw [if_pos d] at h
      injection h with h
      rw [← h]; rfl
    · rw [if_neg d] at h; cases h
def takeD (X : Sc) (D : FD) (since : Int) : FD := putFD (dropS D (goL X.S since)) ((chL X.S since).map (nodeX X))
section
variable {X : Sc} {D : FD} {since : Int}
theorem take_is (hX : WX X) (h : KnowX X D since) (hok : ∀ x, liveS X.S x = true → okM (nodeX X x).pl = true) : (takeD X D since).L = tookL X D since ∧ (takeD X D since).begun = D.begun ∧ (takeD X D since).sts = D.sts ∧ ∀ x ∈ chL X.S since, x ∈ (takeD X D since).dirty := by
  have e := took_put hX h hok
  obtain ⟨r1, r2⟩ := drops_rest (goL X.S since) D
  unfold takeD putFD
  rw [if_pos e]
  refine ⟨rfl, r1, r2, fun x hx => List.mem_append_right _ ?_⟩
  rw [List.map_map]
  exact List.mem_map.2 ⟨x, hx, node_id13 hX (mem_ch.1 hx).1⟩
theorem take_ok (h : KnowX X D since) (hrg : ∀ x, liveS X.S x = true → Rg (nodeX X x).id ∧ Rg (nodeX X x).par) : DOk (takeD X D since) :=
  (h.dok.drops _).put (fun n hn => by
    obtain ⟨x, hx, rfl⟩ := List.mem_map.1 hn
    exact hrg x (mem_ch.1 hx).1)
structure GoodX (X0 : Sc) (D : FD) (R : List Rc) : Prop where
  dok : DOk D
  ran : D.begun = true
  clean : touchN D = []
  rise : Rise R
  recs : ∀ k, look k R = oX X0 D.L k
  errs : ∀ k, eX X0 D.L k = 0
theorem dead_none {L : List Nd} {x : Int} (h : elF Nd.id L x = none) : oX X L x = none ∧ eX X L x = 0 := by
  unfold oX eX
  rw [fate_no h]
  exact ⟨rfl, rfl⟩
theorem stay_one {X0 : Sc} {R : List Rc} (hX : WX X) (h : KnowX X D since) (hok : ∀ x, liveS X.S x = true → okM (nodeX X x).pl = true) (hrg : ∀ x, liveS X.S x = true → Rg (nodeX X x).id ∧ Rg (nodeX X x).par)
    (hG : GoodX X0 D R) (hP : ∀ x, liveS X.S x = true → x ∉ chL X.S since → getP X.S x = getP X0.S x) {x : Int} (hx : liveS X.S x = true) (ht : x ∉ touchN (takeD X D since)) :
    oX X (takeD X D since).L x = oX X0 D.L x ∧ eX X (takeD X D since).L x = eX X0 D.L x := by
  obtain ⟨t1, t2, t3, t4⟩ := take_is hX h hok
  have hD := take_ok h hrg
  have hN := took_nodes hX h
  have hb : (takeD X D since).begun = true := t2.trans hG.ran
  have hs : (elF Nd.id (takeD X D since).L x).isSome = true := by rw [t1, hN x, if_pos hx]; rfl
  have hc : x ∉ chL X.S since := fun m => ht ((mem_touch hD.wf).2 ⟨x, (mem_dirty hb).2 ⟨t4 x m, hs⟩, Or.inl rfl⟩)
  obtain ⟨s, f1, f2⟩ := hD.st hb x hs ht
  have hs0 : (elF Nd.id D.L x).isSome = true := by rw [h.old x hx hc]; rfl
  obtain ⟨s', g1, g2⟩ := hG.dok.st hG.ran x hs0 (by rw [hG.clean]; exact List.not_mem_nil)
  rw [t3, g2] at f2
  injection f2 with f2
  unfold oX eX
  rw [f1, g1, f2, hP x hx hc]
  exact ⟨rfl, rfl⟩
theorem dead_one (hX : WX X) (h : KnowX X D since) (hok : ∀ x, liveS X.S x = true → okM (nodeX X x).pl = true) {x : Int} (hx : liveS X.S x = false) : oX X (takeD X D since).L x = none ∧ eX X (takeD X D since).L x = 0 := by
  refine dead_none ?_
  rw [(take_is hX h hok).1, took_nodes hX h x, hx]
  rfl
theorem anew_touch (hX : WX X) (h : KnowX X D since) (hok : ∀ x, liveS X.S x = true → okM (nodeX X x).pl = true) (hrg : ∀ x, liveS X.S x = true → Rg (nodeX X x).id ∧ Rg (nodeX X x).par) (hb : D.begun = false) (x : Int) : x ∈ touchN (takeD X D since) ↔ liveS X.S x = true := by
  obtain ⟨t1, t2, _, _⟩ := take_is hX h hok
  have hD := take_ok h hrg
  have e : (elF Nd.id (takeD X D since).L x).isSome = true ↔ liveS X.S x = true := by
    rw [t1, took_nodes hX h x]
    by_cases c : liveS X.S x = true
    · rw [if_pos c]; exact ⟨fun _ => c, fun _ => rfl⟩
    · rw [if_neg c]; exact ⟨fun q => (by cases q), fun q => absurd q c⟩
  refine ⟨fun m => e.1 (touch_node hD.wf m), fun l => (mem_touch hD.wf).2 ⟨x, ?_, Or.inl rfl⟩⟩
  unfold dirtyN
  rw [t2, hb, if_neg (by decide)]
  exact mem_names.2 (e.2 l)
end
end Go.Proofs.YthhfcedhbfandaaGreat
