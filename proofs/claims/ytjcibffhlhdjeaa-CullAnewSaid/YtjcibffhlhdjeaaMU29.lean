/-
  2 texts in one file, each with its own heading.
-/
import Derived.Test.YtjcibffhlhdjeaaMU28
/-
  The landed cull: Run.
-/
namespace Go.Proofs.Ytjcibffhlhdjeaa
open Go.RowKit

theorem errK_dirty {V : Option Vw} (P : Rc → Bool) : ∀ {R : List Rc}, (∀ r ∈ R, P r = false → (seeK V r).2.2 = 0) → errK V (R.filter P) = errK V R
  | [], _ => rfl
  | a :: R, h => by
    have ih := errK_dirty P (R := R) (fun r hr => h r (List.mem_cons_of_mem _ hr))
    cases c : P a with
    | true =>
      rw [List.filter_cons_of_pos c]
      show (if (seeK V a).2.2 = 0 then errK V (R.filter P) else (seeK V a).2.2) = if (seeK V a).2.2 = 0 then errK V R else (seeK V a).2.2
      rw [ih]
    | false =>
      rw [List.filter_cons_of_neg (by rw [c]; simp), ih]
      show errK V R = if (seeK V a).2.2 = 0 then errK V R else (seeK V a).2.2
      rw [if_pos (h a List.mem_cons_self c)]
theorem saw_sub {V : Option Vw} : ∀ R : List Rc, ((sawK V R).map Prod.fst).Sublist (R.map Rc.id)
  | [] => List.Sublist.slnil
  | a :: R => by
    have ih := saw_sub (V := V) R
    show ((saw1 V a ++ sawK V R).map Prod.fst).Sublist (a.id :: R.map Rc.id)
    rw [List.map_append]
    by_cases c : (seeK V a).2.1 = true
    · have e : saw1 V a = [(a.id, (seeK V a).1)] := if_pos c
      rw [e]
      exact ih.cons_cons a.id
    · have e : saw1 V a = [] := if_neg c
      rw [e]
      exact ih.cons a.id
theorem rise_look : ∀ {R : List Rc}, Rise R → ∀ {r : Rc}, r ∈ R → look r.id R = some r
  | [], _, r, hr => by cases hr
  | a :: R, h, r, hr => by
    obtain ⟨h1, h2⟩ := rise_cons.1 h
    rw [look_cons]
    rcases List.mem_cons.1 hr with e | e
    · rw [e, if_pos rfl]
    · have := h1 r e
      rw [if_neg (by omega)]
      exact rise_look h2 e
theorem names_up15 {R : List Rc} (h : Rise R) : (R.map Rc.id).Pairwise (· < ·) := List.pairwise_map.2 h
theorem saw_up {V : Option Vw} {R : List Rc} (h : Rise R) : ((sawK V R).map Prod.fst).Pairwise (· < ·) := List.Pairwise.sublist (saw_sub R) (names_up15 h)
theorem sD15_of {S T : List (Int × Int)} {z : Int} (h : S.filter (fun p => decide (p.1 = z)) = T) : sD15 S z = (T.head?).map Prod.snd := by
  unfold sD15
  rw [h]
theorem sD15_saw {V : Option Vw} {R : List Rc} (h : Rise R) {r : Rc} (hr : r ∈ R) : sD15 (sawK V R) r.id = ((saw1 V r).head?).map Prod.snd := sD15_of (saw_of h r hr)
theorem saw1_head (V : Option Vw) (r : Rc) : ((saw1 V r).head?).map Prod.snd = if (seeK V r).2.1 = true then some (seeK V r).1 else none := by
  unfold saw1
  by_cases c : (seeK V r).2.1 = true
  · rw [if_pos c, if_pos c]; rfl
  · rw [if_neg c, if_neg c]; rfl
def dirR (K : Ku) : List Rc := K.R.filter (fun r => decide (r.id ∈ K.D))
def pk15 (K : Ku) (P : Int → Option Int) (k : Nat) (z : Int) : Option Int := if z ∈ ((dirR K).take k).map Rc.id then sD15 (sawK K.V ((dirR K).take k)) z else P z
section
variable {w : World} {p : Cq} {K : Ku}
theorem dirR_mem (hk : KOk K) {z : Int} : z ∈ (dirR K).map Rc.id ↔ z ∈ K.D := by
  unfold dirR
  rw [List.mem_map]
  constructor
  · rintro ⟨r, hr, rfl⟩
    exact of_decide_eq_true (List.mem_filter.1 hr).2
  · intro hz
    obtain ⟨r, hr, rfl⟩ := List.mem_map.1 (hk.dr z hz)
    exact ⟨r, List.mem_filter.2 ⟨hr, decide_eq_true hz⟩, rfl⟩
theorem dirR_rise (hk : KOk K) : Rise (dirR K) := List.Pairwise.filter _ hk.rise
theorem dirR_len (hk : KOk K) : (dirR K).length = K.D.length := by
  have h1 := nod_len (rise_nod15 (dirR_rise hk)) (B := K.D) (fun x hx => (dirR_mem hk).1 hx)
  have h2 := nod_len hk.nod (B := (dirR K).map Rc.id) (fun x hx => (dirR_mem hk).2 hx)
  rw [List.length_map] at h1 h2
  omega
theorem dirR_err (hk : KOk K) : errK K.V (dirR K) = runE15 K := errK_dirty _ (fun r hr c => (hk.clean r hr (of_decide_eq_false c)).1)
theorem pk15_zero (P : Int → Option Int) : pk15 K P 0 = P := funext fun z => by
  unfold pk15
  rw [List.take_zero]
  exact if_neg (fun q => by cases q)
theorem rise_take {R : List Rc} (h : Rise R) (k : Nat) : Rise (R.take k) := List.Pairwise.sublist (List.take_sublist k R) h
theorem pk15_step (hk : KOk K) {P : Int → Option Int} (hP : ∀ z, z ∈ K.D → P z = none) {k : Nat} {r : Rc} (hr : (dirR K)[k]? = some r) :
    pk15 K P (k + 1) = if (seeK K.V r).2.1 = true then upm (pk15 K P k) r.id (some (seeK K.V r).1) else pk15 K P k := by
  have hup := rise_take (dirR_rise hk) (k + 1)
  have hspl : (dirR K).take (k + 1) = (dirR K).take k ++ [r] := by rw [List.take_add_one, hr]; rfl
  have hlt : ∀ x ∈ (dirR K).take k, x.id < r.id := by
    rw [hspl] at hup
    exact fun x hx => (List.pairwise_append.1 hup).2.2 x hx r (List.mem_singleton_self _)
  have hno : r.id ∉ ((dirR K).take k).map Rc.id := fun q => by
    obtain ⟨x, hx, e⟩ := List.mem_map.1 q
    have := hlt x hx
    omega
  have hmem : r ∈ (dirR K).take (k + 1) := by rw [hspl]; exact List.mem_append_right _ (List.mem_singleton_self _)
  have hrD : r.id ∈ K.D := (dirR_mem hk).1 (List.mem_map.2 ⟨r, List.mem_of_getElem? hr, rfl⟩)
  have hpk : pk15 K P k r.id = none := by
    unfold pk15
    rw [if_neg hno]
    exact hP _ hrD
  funext z
  by_cases c : z = r.id
  · have e1 : pk15 K P (k + 1) z = if (seeK K.V r).2.1 = true then some (seeK K.V r).1 else none := by
      unfold pk15
      rw [c, if_pos (List.mem_map.2 ⟨r, hmem, rfl⟩), sD15_saw hup hmem, saw1_head]
    rw [e1]
    by_cases d : (seeK K.V r).2.1 = true
    · rw [if_pos d, if_pos d]
      exact (if_pos c).symm
    · rw [if_neg d, if_neg d, c]
      exact hpk.symm
  · have e1 : pk15 K P (k + 1) z = pk15 K P k z := by
      unfold pk15
      by_cases d : z ∈ ((dirR K).take k).map Rc.id
      · obtain ⟨x, hx, rfl⟩ := List.mem_map.1 d
        have hx1 : x ∈ (dirR K).take (k + 1) := by rw [hspl]; exact List.mem_append_left _ hx
        rw [if_pos d, if_pos (List.mem_map.2 ⟨x, hx1, rfl⟩), sD15_saw hup hx1, sD15_saw (rise_take (dirR_rise hk) k) hx]
      · rw [if_neg d, if_neg (fun q => by
          rw [hspl, List.map_append, List.mem_append] at q
          rcases q with q | q
          · exact d q
          · exact c (List.mem_singleton.1 q))]
    rw [e1]
    by_cases d : (seeK K.V r).2.1 = true
    · rw [if_pos d]
      exact (if_neg c).symm
    · rw [if_neg d]
theorem LiK.pD (hK : LiK K p) {z : Int} (h : z ∈ K.D) : p.P z = none := by
  rw [hK.p, if_neg (fun q => q.2 h)]
theorem run_lik (hk : KOk K) (hK : LiK K p) (h0 : runE15 K = 0) {N : Int} (hN : N = K.n + K.D.length) : LiK (runS15 K) (stC (nC p N) p.R (fun _ => none) (pk15 K p.P (dirR K).length)) := by
  unfold runS15
  rw [if_pos (show errK K.V K.R = 0 from h0)]
  refine ⟨hK.v, hK.r, fun z => (if_neg (fun q => by cases q)).symm, fun z => ?_, hN, saw_up hk.rise⟩
  show pk15 K p.P (dirR K).length z = if z ∈ K.R.map Rc.id ∧ z ∉ ([] : List Int) then sD15 (sawK K.V K.R) z else none
  unfold pk15
  rw [List.take_length]
  have hnil : z ∉ ([] : List Int) := fun q => by cases q
  by_cases c : z ∈ K.R.map Rc.id
  · have e1 : (if z ∈ K.R.map Rc.id ∧ z ∉ ([] : List Int) then sD15 (sawK K.V K.R) z else none) = sD15 (sawK K.V K.R) z := if_pos ⟨c, hnil⟩
    rw [e1]
    by_cases d : z ∈ (dirR K).map Rc.id
    · rw [if_pos d]
      obtain ⟨x, hx, rfl⟩ := List.mem_map.1 d
      rw [sD15_saw (dirR_rise hk) hx, sD15_saw hk.rise (List.mem_filter.1 hx).1]
    · rw [if_neg d]
      obtain ⟨x, hx, rfl⟩ := List.mem_map.1 c
      have hd : x.id ∉ K.D := fun q => d ((dirR_mem hk).2 q)
      rw [hK.p, if_pos ⟨c, hd⟩, sD15_of (hk.clean x hx hd).2, sD15_saw hk.rise hx]
  · have e1 : (if z ∈ K.R.map Rc.id ∧ z ∉ ([] : List Int) then sD15 (sawK K.V K.R) z else none) = none := if_neg (fun q => c q.1)
    have e2 : (if z ∈ K.R.map Rc.id ∧ z ∉ K.D then sD15 K.S z else none) = none := if_neg (fun q => c q.1)
    rw [e1, if_neg (fun q => c (hk.dr z ((dirR_mem hk).1 q))), hK.p, e2]
theorem run_no15 (hK : LiK K p) (h0 : runE15 K ≠ 0) {N : Int} (hN : N = K.n + K.D.length) (P : Int → Option Int) : LiK (runS15 K) (stC (stC (nC p N) p.R p.D P) p.R (soilD p.R) (fun _ => none)) := by
  unfold runS15
  rw [if_neg (show ¬ errK K.V K.R = 0 from h0)]
  exact soil_lik K.V [] _ (p := stC (nC p N) p.R p.D P) hK.v hK.r hN List.Pairwise.nil
theorem dir_err (hk : KOk K) {k : Nat} {r : Rc} (hr : (dirR K)[k]? = some r) (h0 : errK K.V ((dirR K).take k) = 0) : errK K.V ((dirR K).take (k + 1)) = (seeK K.V r).2.2 ∧ ((seeK K.V r).2.2 ≠ 0 → runE15 K = (seeK K.V r).2.2) := by
  have h1 := errK_step (V := K.V) hr h0
  rw [dirR_err hk] at h1
  exact h1
set_option maxHeartbeats 16000000 in
set_option maxRecDepth 100000 in
theorem crun15_any (hk : KOk K) (hKl : K.R.length ≤ 200) (hn0 : 0 ≤ K.n) (hn1 : K.n ≤ 1000000) (hK : LiK K p) (h : LC w p) :
    Calls Try.prog 10 #[.pointer (some ⟨p.g, 0, none⟩)] w fun e w' => e = .returned (.tuple #[.int .i64 K.D.length, .int .i64 (runE15 K)]) ∧ ∃ q, q.g = p.g ∧ ChC w w' p q ∧ LiK (runS15 K) q := by
  have hdl := hk.dlen
  have hlen := dirR_len hk
  obtain ⟨ns, hns⟩ : ∃ ns, ns = (dirR K).map Rc.id := ⟨_, rfl⟩
  have hnl : ns.length = K.D.length := by rw [hns, List.length_map, hlen]
  have hup : ns.Pairwise (· < ·) := by rw [hns]; exact names_up15 (dirR_rise hk)
  have hmem : ∀ z, z ∈ ns ↔ Rg z ∧ (p.D z).isSome = true := fun z => by
    rw [hns, dirR_mem hk, hK.d]
    by_cases c : z ∈ K.D
    · rw [if_pos c]
      obtain ⟨x, hx, e⟩ := List.mem_map.1 (hk.dr z c)
      exact ⟨fun _ => ⟨by rw [← e]; exact hk.rg x hx, rfl⟩, fun _ => c⟩
    · rw [if_neg c]
      exact ⟨fun q => absurd q c, fun q => by cases q.2⟩
  have hnsR : ∀ k z, ns[k]? = some z → ∃ r : Rc, (dirR K)[k]? = some r ∧ r.id = z := fun k z hz => by
    rw [hns, List.getElem?_map] at hz
    cases e : (dirR K)[k]? with
    | none => rw [e] at hz; cases hz
    | some r =>
      rw [e] at hz
      injection hz with hz
      exact ⟨r, e, hz⟩
  have HKy := Lib.hid (keysU15 (some p.gd) w)
  have HSr := Lib.hid (sortedU15 h.dir ns hup hmem)
  have HKp : Hid (∀ u, Below w.heap.size w u → u.cell? ⟨p.g, 10, none⟩ = some (.int .i64 p.n) ∧ u.frozen? ⟨p.g, 10, none⟩ = false ∧ p.g < u.heap.size) := Lib.hid (fun u k => ⟨(h.keep k).cells.2.2.2.2.1, (h.keep k).blk.frozen 10, (h.keep k).cells.2.2.2.2.2⟩)
  have HN0 : Hid (∀ u N, Below w.heap.size w u → ChC u (u.setCell ⟨p.g, 10, none⟩ (.int .i64 N)) p (stC (nC p N) p.R p.D (pk15 K p.P 0))) := Lib.hid (fun u N k => by
    rw [pk15_zero]
    exact (h.keep k).setN N)
  have HRw : Hid (∀ v u a cap q, Below w.heap.size w v → OwnD v w.heap.size (.slice a ns.length cap) ns.length ns → ChC v u p q → Row u a ns.length ns) := Lib.hid (fun v u a cap q k ho hc => by
    obtain ⟨a', cap', e, hr⟩ := ho.row
    injection e with e1 e2 e3
    subst e1
    refine row_frame hr ?_ hc.2.1
    by_cases z : ns.length = 0
    · exact Or.inl z
    · refine Or.inr (fun ad e hf => ?_)
      have k1 := h.inb _ hf
      have k2 := (World.ownsRow.lt ho ad.block (by rw [e]; rfl)).1
      omega)
  have HFd : Hid (∀ v u N k r, (dirR K)[k]? = some r → ChC v u p (stC (nC p N) p.R p.D (pk15 K p.P k)) → Calls Try.prog 27 #[.pointer (some ⟨p.g, 0, none⟩), .int .i64 r.id] u fun e w' => e = .returned (.int .i64 (seeK K.V r).2.2) ∧ ChC v w' p (stC (nC p N) p.R p.D (pk15 K p.P (k + 1)))) := Lib.hid (fun v u N k r hr hc => by
    have hrR : r ∈ K.R := (List.mem_filter.1 (List.mem_of_getElem? hr)).1
    have hl : look r.id K.R = some r := rise_look hk.rise hrR
    refine (cfind15_any hc.1 r (hk.rg r hrR) ((hK.r r.id).trans hl) (A := K.R.map Rc.id) (fun z hz => ?_) (by rw [List.length_map]; omega)).mono ?_
    · have hz' : (pk15 K p.P k z).isSome = true := hz
      unfold pk15 at hz'
      by_cases c : z ∈ ((dirR K).take k).map Rc.id
      · obtain ⟨x, hx, e⟩ := List.mem_map.1 c
        exact List.mem_map.2 ⟨x, (List.mem_filter.1 (List.mem_of_mem_take hx)).1, e⟩
      · rw [if_neg c, hK.p] at hz'
        by_cases d : z ∈ K.R.map Rc.id ∧ z ∉ K.D
        · exact d.1
        · rw [if_neg d] at hz'; cases hz'
    · rintro e w' ⟨he, hc2⟩
      have hV : (stC (nC p N) p.R p.D (pk15 K p.P k)).V = K.V := hK.v
      rw [hV] at he hc2
      refine ⟨he, hc.join ?_⟩
      rw [pk15_step hk (fun z hz => hK.pD hz) hr]
      exact hc2)
  have HSo : Hid (∀ v u N P, N = K.n + K.D.length → ChC v u p (stC (nC p N) p.R p.D P) → runE15 K ≠ 0 → Calls Try.prog 24 #[.pointer (some ⟨p.g, 0, none⟩)] u fun e w' => e = .returned (.tuple #[]) ∧ ∃ q, q.g = p.g ∧ ChC v w' p q ∧ LiK (runS15 K) q) := Lib.hid (fun v u N P hN hc h0 => by
    refine (csoil_any hc.1 (K.R.map Rc.id) (fun z hz => hK.names hz) (by rw [List.length_map]; omega) (fun z hz => hK.dr hk hz)).mono ?_
    rintro e w' ⟨rfl, hc2⟩
    exact ⟨rfl, stC (stC (nC p N) p.R p.D P) p.R (soilD p.R) (fun _ => none), rfl, hc.join hc2, run_no15 hK h0 hN P⟩)
  have HCl : Hid (∀ v u N, N = K.n + K.D.length → ChC v u p (stC (nC p N) p.R p.D (pk15 K p.P ns.length)) → runE15 K = 0 → u.cell? ⟨p.g, 8, none⟩ = some (.map (some p.gd)) ∧ p.g < u.heap.size ∧ ∃ w2, (∀ ty, (Builtin.clear_ #[67] ty #[.map (some p.gd)]).run Try.prog u = .ok (.tuple #[]) w2) ∧ ∃ q, q.g = p.g ∧ ChC v w2 p q ∧ LiK (runS15 K) q) := Lib.hid (fun v u N hN hc h0 => by
    obtain ⟨w2, r2, m2, g2⟩ := hc.1.dir.clr15
    refine ⟨hc.1.cells.2.2.1, hc.1.cells.2.2.2.2.2, w2, r2, stC (nC p N) p.R (fun _ => none) (pk15 K p.P (dirR K).length), rfl, hc.join ?_, run_lik hk hK h0 hN⟩
    have e : ns.length = (dirR K).length := by rw [hns, List.length_map]
    rw [← e]
    exact hc.1.setD m2 g2)
  have HEr : Hid (∀ k r, (dirR K)[k]? = some r → errK K.V ((dirR K).take k) = 0 → errK K.V ((dirR K).take (k + 1)) = (seeK K.V r).2.2 ∧ ((seeK K.V r).2.2 ≠ 0 → runE15 K = (seeK K.V r).2.2)) := Lib.hid (fun k r hr h0 => dir_err hk hr h0)
  have HEz : Hid (errK K.V ((dirR K).take ns.length) = 0 → runE15 K = 0) := Lib.hid (fun e => by
    rw [hns, List.length_map, List.take_length, dirR_err hk] at e
    exact e)
  have HNs := Lib.hid hnsR
  have HBk : Hid (∀ v u q, Below w.heap.size w v → ChC v u p q → ChC w u p q) := Lib.hid (fun v u q k hc => hc.of k)
  have hpn := hK.n
  rw [hpn] at HKp
  obtain ⟨-, -, c8, -, -, hg⟩ := h.cells
  have hnK : 0 ≤ K.n ∧ K.n ≤ 1000000 := ⟨hn0, hn1⟩
  obtain ⟨n, hnn⟩ : ∃ n, n = K.n := ⟨_, rfl⟩
  obtain ⟨nl, hnle⟩ : ∃ nl, nl = ns.length := ⟨_, rfl⟩
  have hnD : K.D.length = nl := by rw [hnle, hnl]
  rw [hnD] at HSo HCl ⊢
  rw [← hnle] at HSr HRw HCl HEz
  rw [← hnn] at HKp HSo HCl hnK
  obtain ⟨g, hge⟩ : ∃ g, g = p.g := ⟨_, rfl⟩
  obtain ⟨gd, hgd⟩ : ∃ g, g = p.gd := ⟨_, rfl⟩
  rw [← hge, ← hgd] at c8 HCl
  rw [← hgd] at HKy HSr
  rw [← hge] at HKp HN0 HFd HSo hg ⊢
  have hnlb : nl ≤ 200 := by omega
  clear h hk hK hdl hlen hns hnl hup hmem hnsR hpn hnn hnle hnD hge hgd hKl hn0 hn1
  go_enter Try.func10, Try.ntmps10
  go_wp2_with fail
  refine HKy.out.mono ?_
  rintro e w2 ⟨rfl, rfl⟩
  go_wp2_with fail
  refine HSr.out.mono ?_
  rintro e w3 ⟨v, rfl, hown, b3⟩
  obtain ⟨ka, kc, rfl, -⟩ := hown.row
  have HB3 := Lib.hid b3
  have HRr := Lib.hid (fun u q => HRw.out w3 u ka kc q b3 hown)
  obtain ⟨c10, f10, hg3⟩ := HKp.out w3 b3
  have hw : IntKind.i64.wrap (n + (nl : Int)) = n + (nl : Int) := by rw [IntKind.wrap_i64]; omega
  have HC0 := Lib.hid (HN0.out w3 (n + (nl : Int)) b3)
  clear b3 hown HKy HSr HRw HKp HN0 c8 hg
  go_upto_region 5 with fail
  refine fin (fun W => ChC w3 W p (stC (nC p (n + (nl : Int))) p.R p.D (pk15 K p.P 0))) HC0.out ?_
  clear HC0 c10 f10 hg3 hw
  rintro W4 hc4
  have HC0 := Lib.hid hc4
  clear hc4
  go_wp2
  go_loopw [6, 7, 27] (fun _ _ i wr => ∃ k : Nat, i = .int .i64 k ∧ k ≤ nl ∧ errK K.V ((dirR K).take k) = 0 ∧ ChC w3 wr p (stC (nC p (n + (nl : Int))) p.R p.D (pk15 K p.P k))) (fun _ _ i _ => nl - (ivl i).toNat)
  case atStart => exact ⟨0, rfl, by omega, by rw [List.take_zero]; rfl, HC0.out⟩
  case round =>
    clear HC0
    obtain ⟨k, rfl, hkn, he0, hch⟩ := hrel
    have HC := Lib.hid hch
    have HE0 := Lib.hid he0
    have hrw := HRr.out _ _ hch
    clear hch he0
    by_cases hlt : k < nl
    · obtain ⟨b, off, z, rfl, hz, cz⟩ := row_at hrw hlt
      have hbl := World.block_lt_of_cell? _ _ cz
      obtain ⟨r, hr, rfl⟩ := HNs.out k z hz
      have HF := Lib.hid (HFd.out w3 _ _ k r hr HC.out)
      obtain ⟨e1, e2⟩ := HEr.out k r hr HE0.out
      obtain ⟨er, her⟩ : ∃ er, er = (seeK K.V r).2.2 := ⟨_, rfl⟩
      obtain ⟨y, hy⟩ : ∃ y, y = r.id := ⟨_, rfl⟩
      rw [← her, ← hy] at HF
      rw [← her] at e1 e2
      rw [← hy] at cz
      have HE1 := Lib.hid (And.intro e1 e2)
      have k0 : (0 : Int) ≤ (k : Int) := by omega
      have k1 : (k : Int) < (nl : Int) := by omega
      clear hrw hz hr e1 e2 her hy HC HFd HEr HNs HE0
      go_wp2_with fail
      refine HF.out.mono ?_
      rintro e w5 ⟨rfl, hc5⟩
      have HC5 := Lib.hid hc5
      clear hc5 HF cz hbl
      by_cases h0 : er = 0
      · have HN : Hid (errK K.V ((dirR K).take (k + 1)) = 0) := Lib.hid (HE1.out.1.trans h0)
        subst h0
        clear HE1 HSo HCl HEz HRr HBk
        go_wp2
        go_roundw
        case rel => exact ⟨k + 1, by go_num, by omega, HN.out, HC5.out⟩
        case measure => simp [ivl] <;> omega
      · have hne : runE15 K ≠ 0 := by rw [HE1.out.2 h0]; exact h0
        have HS5 := Lib.hid (HSo.out w3 w5 _ _ rfl HC5.out hne)
        clear HSo HCl HEz HC5 HRr hne
        go_wp2_with fail
        refine HS5.out.mono ?_
        rintro e w6 ⟨rfl, q, hq1, hq2, hq3⟩
        have HQ : Hid (∃ q, q.g = g ∧ ChC w w6 p q ∧ LiK (runS15 K) q) := Lib.hid ⟨q, hq1, HBk.out w3 w6 q HB3.out hq2, hq3⟩
        clear hq1 hq2 hq3 HS5
        go_wp2
        go_ret2
        exact ⟨by rw [HE1.out.2 h0]; rfl, HQ.out⟩
    · obtain rfl : k = nl := by omega
      have hz0 := HEz.out HE0.out
      obtain ⟨c8, hg, w5, r5, q, hq1, hq2, hq3⟩ := HCl.out w3 wr _ rfl HC.out hz0
      have HQ : Hid (∃ q, q.g = g ∧ ChC w w5 p q ∧ LiK (runS15 K) q) := Lib.hid ⟨q, hq1, HBk.out w3 w5 q HB3.out hq2, hq3⟩
      have HZ := Lib.hid hz0
      have j1 : ¬ (k : Int) < (k : Int) := by omega
      clear hq1 hq2 hq3 hz0 hrw HC HE0 HFd HSo HCl HEr HEz HNs HBk HRr q
      go_wp2_with (at_builtin; refine wpList_clr15 rfl (.tmp 45) 67 rfl _ rfl (r5 _) ?_)
      go_ret2
      exact ⟨by rw [HZ.out]; rfl, HQ.out⟩
end
theorem up_one15 : ∀ {S : List (Int × Int)}, (S.map Prod.fst).Pairwise (· < ·) → ∀ {q : Int × Int}, q ∈ S → S.filter (fun p => decide (p.1 = q.1)) = [q]
  | [], _, q, hq => by cases hq
  | a :: S, h, q, hq => by
    rw [List.map_cons, List.pairwise_cons] at h
    rcases List.mem_cons.1 hq with e | e
    · have hn : S.filter (fun p => decide (p.1 = q.1)) = [] := List.filter_eq_nil_iff.2 (fun x hx c => by
        have := h.1 x.1 (List.mem_map.2 ⟨x, hx, rfl⟩)
        have := of_decide_eq_true c
        rw [e] at this
        omega)
      rw [List.filter_cons_of_pos (by rw [e]; simp), hn, e]
    · have h1 := h.1 q.1 (List.mem_map.2 ⟨q, e, rfl⟩)
      rw [List.filter_cons_of_neg (by simp; omega)]
      exact up_one15 h.2 e
section
variable {w : World} {p : Cq} {K : Ku}
theorem seenK_mem {q : Int × Int} : q ∈ seenK K ↔ q ∈ K.S ∧ q.1 ∈ K.R.map Rc.id ∧ q.1 ∉ K.D := by
  unfold seenK
  rw [List.mem_filter, Bool.and_eq_true, Bool.not_eq_true', decide_eq_true_eq, decide_eq_false_iff_not]
theorem LiK.seen_is (hK : LiK K p) {q : Int × Int} (hq : q ∈ seenK K) : p.P q.1 = some q.2 := by
  obtain ⟨h1, h2⟩ := seenK_mem.1 hq
  rw [hK.p, if_pos h2, sD15_of (up_one15 hK.up h1)]
  rfl
theorem seen_up (hK : LiK K p) : ((seenK K).map Prod.fst).Pairwise (· < ·) := List.Pairwise.sublist (List.Sublist.map _ List.filter_sublist) hK.up
theorem LiK.seen_mem (hk : KOk K) (hK : LiK K p) (z : Int) : z ∈ (seenK K).map Prod.fst ↔ Rg z ∧ (p.P z).isSome = true := by
  constructor
  · intro h
    obtain ⟨q, hq, rfl⟩ := List.mem_map.1 h
    obtain ⟨_, h2, _⟩ := seenK_mem.1 hq
    obtain ⟨x, hx, e⟩ := List.mem_map.1 h2
    refine ⟨by rw [← e]; exact hk.rg x hx, ?_⟩
    rw [hK.seen_is hq]
    rfl
  · rintro ⟨_, h⟩
    rw [hK.p] at h
    by_cases c : z ∈ K.R.map Rc.id ∧ z ∉ K.D
    · rw [if_pos c] at h
      unfold sD15 at h
      cases e : K.S.filter (fun p => decide (p.1 = z)) with
      | nil => rw [e] at h; cases h
      | cons q S =>
        have hq : q ∈ K.S.filter (fun p => decide (p.1 = z)) := by rw [e]; exact List.mem_cons_self
        obtain ⟨m1, m2⟩ := List.mem_filter.1 hq
        have hz : q.1 = z := of_decide_eq_true m2
        refine List.mem_map.2 ⟨q, seenK_mem.2 ⟨m1, ?_⟩, hz⟩
        rw [hz]
        exact c
    · rw [if_neg c] at h; cases h
theorem bsC15 (x d : Int) (W : World) : (Instr.buildSlice 60 1 #[(0, .agg #[.int .i64 x, .int .i64 d])]).run Try.prog W = .ok (.slice (some ⟨W.heap.size, 0, none⟩) 1 1) (W.alloc (.cells (cSn (x, d)).toArray 64)) := by kernel_rfl
theorem zSnC_info : (Try.prog.info? 64).map (fun i => (i.zero, i.size, i.bytes)) = some (some (.agg #[.int .i64 0, .int .i64 0]), 2, 16) := by kernel_rfl
set_option maxHeartbeats 8000000 in
set_option maxRecDepth 100000 in
theorem cseen15_any (hk : KOk K) (hKl : K.R.length ≤ 200) (hK : LiK K p) (h : LC w p) :
    Calls Try.prog 13 #[.pointer (some ⟨p.g, 0, none⟩)] w fun e w' => ∃ a cap, e = .returned (.slice a (seenK K).length cap) ∧ RowX 2 cSn w' a (seenK K).length (seenK K) ∧ ((seenK K).length = 0 ∨ ∀ ad, a = some ad → w.heap.size ≤ ad.block) ∧ Below w.heap.size w w' := by
  have hup := seen_up hK
  have hmem := hK.seen_mem hk
  have hval : ∀ k z d, (seenK K)[k]? = some (z, d) → p.P z = some d := fun k z d e => hK.seen_is (List.mem_of_getElem? e)
  have hlen : (seenK K).length ≤ 200 := by
    have h1 := nod_len (up_nod15 hup) (B := K.R.map Rc.id) (fun z hz => by
      obtain ⟨q, hq, rfl⟩ := List.mem_map.1 hz
      exact (seenK_mem.1 hq).2.1)
    rw [List.length_map, List.length_map] at h1
    omega
  have hrg : ∀ k z d, (seenK K)[k]? = some (z, d) → Rg z := fun k z d e => ((hmem z).1 (List.mem_map.2 ⟨_, List.mem_of_getElem? e, rfl⟩)).1
  obtain ⟨SK, hSK⟩ : ∃ SK, SK = seenK K := ⟨_, rfl⟩
  rw [← hSK] at hup hmem hval hlen hrg ⊢
  have HKy := Lib.hid (keysV15 (some p.gp) w)
  have hsr := sortedV15 h.dep (SK.map Prod.fst) hup hmem
  rw [List.length_map] at hsr
  have HSr := Lib.hid hsr
  have HLk : Hid (∀ u k z d, Below w.heap.size w u → SK[k]? = some (z, d) → u.cell? ⟨p.g, 9, none⟩ = some (.map (some p.gp)) ∧ p.g < u.heap.size ∧ (Instr.lookup 68 (.map (some p.gp)) (.int .i64 z) false).run Try.prog u = .ok (.int .i64 d) u) := Lib.hid (fun u k z d hb e => by
    have h1 := h.keep hb
    have h2 := h1.dep.get (hrg k z d e)
    rw [hval k z d e] at h2
    exact ⟨h1.cells.2.2.2.1, h1.cells.2.2.2.2.2, h2⟩)
  have HNs : Hid (∀ k z, (SK.map Prod.fst)[k]? = some z → ∃ d : Int, SK[k]? = some (z, d)) := Lib.hid (fun k z hz => by
    rw [List.getElem?_map] at hz
    cases e : SK[k]? with
    | none => rw [e] at hz; cases hz
    | some q =>
      rw [e] at hz
      injection hz with hz
      exact ⟨q.2, by rw [← hz]; exact e⟩)
  obtain ⟨-, -, -, c9, -, hg⟩ := h.cells
  obtain ⟨g, hge⟩ : ∃ g, g = p.g := ⟨_, rfl⟩
  obtain ⟨gp, hgp⟩ : ∃ g, g = p.gp := ⟨_, rfl⟩
  rw [← hge, ← hgp] at c9 HLk
  rw [← hgp] at HKy HSr
  rw [← hge] at hg ⊢
  obtain ⟨nl, hnle⟩ : ∃ nl, nl = SK.length := ⟨_, rfl⟩
  rw [← hnle] at HSr hlen ⊢
  have HNl := Lib.hid hnle
  clear h hk hK hKl hup hmem hval hrg hSK hsr hge hgp hnle
  go_enter Try.func13, Try.ntmps13
  go_wp2_with fail
  refine HKy.out.mono ?_
  rintro e w2 ⟨rfl, rfl⟩
  go_wp2_with fail
  refine HSr.out.mono ?_
  rintro e w3 ⟨v, rfl, hown, b3⟩
  obtain ⟨ka, kc, rfl, hkr⟩ := hown.row
  have HB3 := Lib.hid b3
  have HKr := Lib.hid hkr
  have hs3 := b3.size
  clear b3 hown HKy HSr c9 hg hkr
  go_wp2
  go_loopw [3, 5, 15] (fun v3 _ i wr => ∃ k : Nat, i = .int .i64 k ∧ k ≤ nl ∧ OwnX 2 cSn 64 wr w3.heap.size v3 (SK.take k) ∧ Below w3.heap.size w3 wr) (fun _ _ i _ => nl - (ivl i).toNat)
  case atStart => exact ⟨0, rfl, by omega, OwnX.nil _ _ _ _ _, Below.refl _ _⟩
  case round =>
    obtain ⟨k, rfl, hkn, ho, hb⟩ := hrel
    have HO := Lib.hid ho
    have HB := Lib.hid hb
    have hrw := row_keep HKr.out hb
    obtain ⟨sa, sc, rfl, -⟩ := ho.row cSn_len
    have hsw := hb.size
    clear ho hb
    by_cases hlt : k < nl
    · obtain ⟨b, off, z, rfl, hz, cz⟩ := row_at hrw hlt
      have hbl := World.block_lt_of_cell? _ _ cz
      obtain ⟨d, hd⟩ := HNs.out k z hz
      obtain ⟨c9, hg, hlk⟩ := HLk.out wr k z d (bthen HB3.out HB.out) hd
      have HStp : Hid (SK.take (k + 1) = SK.take k ++ [(z, d)]) := Lib.hid (by rw [List.take_add_one, hd]; rfl)
      have hlk2 : (SK.take k).length ≤ 2000 := by rw [List.length_take]; omega
      have HL2 := Lib.hid hlk2
      have hbs := bsC15 z d
      have k0 : (0 : Int) ≤ (k : Int) := by omega
      have k1 : (k : Int) < (nl : Int) := by omega
      obtain ⟨xl, hxl⟩ : ∃ xl, xl = (SK.take k).length := ⟨_, rfl⟩
      rw [← hxl] at HO ⊢
      clear hrw hz hd HNs HLk hlk2 hxl
      go_wp2_with (at_builtin; refine wpList_pushX rfl (.tmp 19) (.tmp 28) 60 16 (.agg #[.int .i64 0, .int .i64 0]) rfl Try.underlying60 zSnC_info rfl (by decide) (by decide) cSn_len (z, d) (cSn_one _) rfl (HO.out.keep (alloc_below _ _)) wr.heap.size 1 rfl (blk_whole (Blk.new wr _ _)) HL2.out (by simp; omega) ?_)
      intro v' W' q1 q2 q3
      have hal : Below wr.heap.size wr (wr.alloc (.cells (cSn (z, d)).toArray 64)) := alloc_below _ _
      have HN : Hid (OwnX 2 cSn 64 W' w3.heap.size v' (SK.take (k + 1)) ∧ Below w3.heap.size w3 W') := Lib.hid ⟨by rw [HStp.out]; exact q1, grown_below2 (bthen HB.out hal) q2 (fun b e => (HO.out.lt b e).1)⟩
      clear q1 q2 q3 hal HO HB HStp hlk hbs
      go_wp2
      go_roundw
      case rel => exact ⟨k + 1, by go_num, by omega, HN.out.1, HN.out.2⟩
      case measure => simp [ivl] <;> omega
    · obtain rfl : k = nl := by omega
      have e0 : SK.take k = SK := List.take_of_length_le (by rw [← HNl.out]; exact Nat.le_refl _)
      have ho := HO.out
      rw [e0] at ho
      obtain ⟨sa', sc', e1, _, _, hr⟩ := ho.row cSn_len
      have hln : SK.length = k := HNl.out.symm
      rw [hln] at hr e1
      rw [e0, hln]
      have HF : Hid (RowX 2 cSn wr sa k SK ∧ (k = 0 ∨ ∀ ad, sa = some ad → w.heap.size ≤ ad.block) ∧ Below w.heap.size w wr) := Lib.hid (by
        injection e1 with e2 e3 e4
        rw [← e2] at hr
        refine ⟨hr, Or.inr (fun ad e => ?_), bthen HB3.out HB.out⟩
        have := (HO.out.lt ad.block (by rw [e]; rfl)).1
        omega)
      have j1 : ¬ (k : Int) < (k : Int) := by omega
      clear e0 ho e1 hr hrw HO HB HNs HLk
      go_wp2
      go_ret
      exact ⟨sa, ⟨sc, rfl⟩, HF.out.1, HF.out.2.1, HF.out.2.2⟩
end
theorem kc_holds : KC LKB where
  kb := kb_lkb
  new w := cnew15_any w
  look w g F K a n cap X E m hk _ hKl h row _ hn := by
    obtain ⟨p, rfl, h1, h2, hF⟩ := h
    refine (clook15_any hk hKl h2 h1 a n cap X E m row hn).mono ?_
    rintro e w' ⟨he, q, q1, q2, q3⟩
    exact ⟨he, q2.toX q1 q3 hF⟩
  close w g F K hk _ hKl h := by
    obtain ⟨p, rfl, h1, h2, hF⟩ := h
    refine (cclose15_any hk hKl h2 h1).mono ?_
    rintro e w' ⟨he, q, q1, q2, q3⟩
    exact ⟨he, q2.toX q1 q3 hF⟩
  put w g F K a n cap l hk hl hn h row ha hr := by
    obtain ⟨p, rfl, h1, h2, hF⟩ := h
    refine (cput15_any hk h2 h1 a n cap l hl hn row (ha.imp id (fun c ad e hf => c ad e ((hF _).2 hf))) hr).mono ?_
    rintro e w' ⟨he, q, q1, q2, q3⟩
    exact ⟨he, q2.toX q1 q3 hF⟩
  drop w g F K a n cap xs hk hKl _ h row ha hx := by
    obtain ⟨p, rfl, h1, h2, hF⟩ := h
    refine (cdrop15_any hk hKl h2 h1 a n cap xs row (ha.imp id (fun c ad e hf => c ad e ((hF _).2 hf))) hx).mono ?_
    rintro e w' ⟨he, q, q1, q2, q3⟩
    exact ⟨he, q2.toX q1 q3 hF⟩
  run w g F K hk _ hKl hn0 hn1 h := by
    obtain ⟨p, rfl, h1, h2, hF⟩ := h
    refine (crun15_any hk hKl hn0 hn1 h2 h1).mono ?_
    rintro e w' ⟨he, q, q1, q2, q3⟩
    exact ⟨he, q2.toX q1 q3 hF⟩
  seen w g F K hk _ hKl h := by
    obtain ⟨p, rfl, h1, h2, _⟩ := h
    exact cseen15_any hk hKl h2 h1
  steps w g F K _ _ h := by
    obtain ⟨p, rfl, h1, h2, _⟩ := h
    refine (csteps_any h1).mono ?_
    rintro e w' ⟨he, rfl⟩
    exact ⟨by rw [he, h2.n], Below.refl _ _⟩
end Go.Proofs.Ytjcibffhlhdjeaa
