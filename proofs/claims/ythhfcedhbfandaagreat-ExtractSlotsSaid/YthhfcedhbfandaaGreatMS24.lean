/-
  3 texts in one file, each with its own heading.
-/
import Derived.Test.YthhfcedhbfandaaGreatMS23
import Derived.Laws.IdiomCopy
/-
  The library's merge of two sorted ranges, walked.
-/
namespace Go.Proofs.YthhfcedhbfandaaGreat
open Go.RowKit

def SymAns (g n cap a m b : Nat) (P U V Q : List Rc) (w : World) : Prop :=
  Calls Tryz.prog 294 #[.slice (some ⟨g, 0, none⟩) n cap, .int .i64 a, .int .i64 m, .int .i64 b, .func (.func 222) #[] #[]] w fun e w' => e = .returned (.tuple #[]) ∧ ∃ Z, Z.length = U.length + V.length ∧ Fil Rc.id (U ++ V) Z ∧ Asc Rc.id Z ∧ DR w 92 g w' (P ++ Z ++ Q)
theorem sym_ar {a h uL vL s0 r0 mid st0 rr0 st : Nat} (hsr : (h < uL ∧ s0 + vL = h ∧ r0 = h) ∨ (uL ≤ h ∧ s0 = 0 ∧ r0 = uL)) (hh : h ≤ uL + vL - h) (hmid : mid = a + h) (hst0 : st0 = a + s0) (hrr0 : rr0 = a + r0) (h1 : st0 ≤ st) (h2 : st ≤ rr0) :
    st - a ≤ uL ∧ mid - st ≤ vL ∧ (st = st0 → st - a = 0 ∨ mid - st = vL) ∧ (st = rr0 → st - a = uL ∨ mid - st = 0) := by
  rcases hsr with ⟨q1, q2, q3⟩ | ⟨q1, q2, q3⟩
  · refine ⟨by omega, by omega, fun e => Or.inr (by omega), fun e => Or.inr (by omega)⟩
  · refine ⟨by omega, by omega, fun e => Or.inl (by omega), fun e => Or.inl (by omega)⟩
set_option maxHeartbeats 16000000 in
set_option maxRecDepth 100000 in
theorem sym_more (g n cap a m b d : Nat) (P U V Q : List Rc) (w : World) (hX : MR 12 cRc 92 w g (P ++ U ++ V ++ Q)) (hn : (P ++ U ++ V ++ Q).length = n) (hbig : n ≤ 1000000000)
    (ha : P.length = a) (hm : a + U.length = m) (hb : m + V.length = b) (hU2 : 2 ≤ U.length) (hV2 : 2 ≤ V.length) (hU : Asc Rc.id U) (hV : Asc Rc.id V) (hd : U.length + V.length ≤ d + 1)
    (ih : ∀ (a m b : Nat) (P U V Q : List Rc) (w : World), MR 12 cRc 92 w g (P ++ U ++ V ++ Q) → (P ++ U ++ V ++ Q).length = n → P.length = a → a + U.length = m → m + V.length = b → 0 < U.length → 0 < V.length → Asc Rc.id U → Asc Rc.id V → U.length + V.length ≤ d → SymAns g n cap a m b P U V Q w) :
    SymAns g n cap a m b P U V Q w := by
  unfold SymAns at *
  have HIH := Lib.hid ih
  have H0 : Hid (DR w 92 g w (P ++ U ++ V ++ Q)) := Lib.hid (DR.start hX)
  have HAu : Hid (∀ j y, U[j]? = some y → (P ++ U ++ V ++ Q)[a + j]? = some y) := Lib.hid (fun j y hy => by
    have hj := (List.getElem?_eq_some_iff.1 hy).1
    rw [← ha, List.append_assoc, List.append_assoc, List.getElem?_append_right (by omega), List.getElem?_append_left (by omega)]
    simpa using hy)
  have HAv : Hid (∀ j y, V[j]? = some y → (P ++ U ++ V ++ Q)[m + j]? = some y) := Lib.hid (fun j y hy => by
    have hj := (List.getElem?_eq_some_iff.1 hy).1
    rw [← hm, ← ha, List.append_assoc (P ++ U), List.getElem?_append_right (by simp), List.getElem?_append_left (by simp; omega)]
    simpa using hy)
  have HLn := Lib.hid hn
  obtain ⟨uL, huL⟩ : ∃ uL, uL = U.length := ⟨_, rfl⟩
  obtain ⟨vL, hvL⟩ : ∃ vL, vL = V.length := ⟨_, rfl⟩
  have hbn : b + Q.length = n := by rw [← hn, ← hb, ← hm, ← ha]; simp only [List.length_append]
  rw [← huL] at hm hU2 hd
  rw [← hvL] at hb hV2 hd
  obtain ⟨h, hh⟩ : ∃ h, h = (uL + vL) / 2 := ⟨_, rfl⟩
  obtain ⟨mid, hmid⟩ : ∃ mid, mid = a + h := ⟨_, rfl⟩
  obtain ⟨nn, hnn⟩ : ∃ nn, nn = mid + m := ⟨_, rfl⟩
  obtain ⟨pp, hpp⟩ : ∃ pp, pp = nn - 1 := ⟨_, rfl⟩
  have qmid : ((a : Int) + (b : Int)) / 2 = (mid : Int) := by omega
  have qnn : (mid : Int) + (m : Int) = (nn : Int) := by omega
  have qpp : (nn : Int) - 1 = (pp : Int) := by omega
  have g1 : ((m : Int) - (a : Int) == 1) = false := by simp; omega
  have g2 : ((b : Int) - (m : Int) == 1) = false := by simp; omega
  obtain ⟨s0, r0, hsr⟩ : ∃ s0 r0, (h < uL ∧ s0 + vL = h ∧ r0 = h) ∨ (uL ≤ h ∧ s0 = 0 ∧ r0 = uL) := by
    by_cases c : h < uL
    · exact ⟨h - vL, h, Or.inl ⟨c, by omega, rfl⟩⟩
    · exact ⟨0, uL, Or.inr ⟨by omega, rfl, rfl⟩⟩
  obtain ⟨st0, hst0⟩ : ∃ st0, st0 = a + s0 := ⟨_, rfl⟩
  obtain ⟨rr0, hrr0⟩ : ∃ rr0, rr0 = a + r0 := ⟨_, rfl⟩
  have HFin : Hid (∀ st, st0 ≤ st → st ≤ rr0 → (st = st0 ∨ ∃ x y, U[st - a - 1]? = some x ∧ V[mid - st]? = some y ∧ x.id ≤ y.id) → (st = rr0 ∨ ∃ x y, V[mid - st - 1]? = some y ∧ U[st - a]? = some x ∧ y.id < x.id) →
      (∀ p ∈ U.take (st - a) ++ V.take (mid - st), ∀ q ∈ U.drop (st - a) ++ V.drop (mid - st), p.id ≤ q.id) ∧ Fil Rc.id (U ++ V) ((U.take (st - a) ++ V.take (mid - st)) ++ (U.drop (st - a) ++ V.drop (mid - st)))) := Lib.hid (fun st q1 q2 c1 c2 =>
    have r := sym_ar hsr (by rw [hh]; omega) hmid hst0 hrr0 q1 q2
    sym_fin hU hV (by rw [← huL]; exact r.1) (by rw [← hvL]; exact r.2.1)
      (c1.elim (fun e => by rw [← hvL, ← or_assoc]; exact Or.inl (r.2.2.1 e)) (fun e => Or.inr (Or.inr e)))
      (c2.elim (fun e => by rw [← huL, ← or_assoc]; exact Or.inl (r.2.2.2 e)) (fun e => Or.inr (Or.inr e))))
  have HUa : Hid (Asc Rc.id U ∧ Asc Rc.id V) := Lib.hid ⟨hU, hV⟩
  have HLu := Lib.hid huL
  have HLv := Lib.hid hvL
  have HPl := Lib.hid ha
  have hE := enters_by
  unfold Enters at hE
  have i1 : a ≤ st0 := by omega
  have i2 : st0 ≤ rr0 := by omega
  have i3 : rr0 ≤ mid := by omega
  have i4 : rr0 ≤ m := by omega
  have i5 : mid ≤ st0 + vL := by omega
  have i6 : m ≤ nn - st0 := by omega
  have i7 : st0 ≤ a + s0 ∧ a + s0 ≤ st0 := by omega
  have i8 : rr0 ≤ a + r0 ∧ a + r0 ≤ rr0 := by omega
  have i9 : mid ≤ a + h ∧ a + h ≤ mid := by omega
  have i10 : nn ≤ mid + m ∧ mid + m ≤ nn := by omega
  have i11 : pp + 1 ≤ nn ∧ nn ≤ pp + 1 := by omega
  have i12 : 2 * h ≤ uL + vL ∧ uL + vL ≤ 2 * h + 1 := by omega
  have HSr := Lib.hid hsr
  have HQ := Lib.hid hbn
  have hbn' : b ≤ n := by omega
  clear hX hn ih ha hU hV huL hvL hst0 hrr0 hmid hnn hpp hh hsr hbn
  go_enter Tryz.func294, Tryz.ntmps294
  go_upto_if 140 with fail
  go_cut [20, 21] from 138 to 146 (fun s r wx => s = .int .i64 (st0 : Int) ∧ r = .int .i64 (rr0 : Int) ∧ w = wx)
  case first =>
    by_cases c : h < uL
    · have c1 : (mid : Int) < (m : Int) := by omega
      have c2 : (nn : Int) - (b : Int) = (st0 : Int) := by have := HSr.out; omega
      have c3 : Hid (mid = rr0) := Lib.hid (by have := HSr.out; omega)
      go_wp2
      go_meet
      exact ⟨rfl, by rw [c3.out], rfl⟩
    · have c1 : ¬ (mid : Int) < (m : Int) := by omega
      have c2 : Hid (a = st0 ∧ m = rr0) := Lib.hid (by have := HSr.out; omega)
      go_wp2
      go_meet
      exact ⟨by rw [← c2.out.1], by rw [← c2.out.2], rfl⟩
  case rest =>
    obtain ⟨rfl, rfl, rfl⟩ := hcut
    go_wp2
    go_loopw [20, 21, 23] (fun v20 v21 _ wr => ∃ st rr : Nat, v20 = .int .i64 st ∧ v21 = .int .i64 rr ∧ st0 ≤ st ∧ st ≤ rr ∧ rr ≤ rr0 ∧ DR w 92 g wr (P ++ U ++ V ++ Q) ∧ (st = st0 ∨ ∃ x y, U[st - a - 1]? = some x ∧ V[mid - st]? = some y ∧ x.id ≤ y.id) ∧ (rr = rr0 ∨ ∃ x y, V[mid - rr - 1]? = some y ∧ U[rr - a]? = some x ∧ y.id < x.id)) (fun v20 v21 _ _ => (ivl v21).toNat - (ivl v20).toNat)
    case atStart => exact ⟨st0, rr0, rfl, rfl, Nat.le_refl _, i2, Nat.le_refl _, H0.out, Or.inl rfl, Or.inl rfl⟩
    case round =>
      clear H0
      obtain ⟨st, rr, rfl, rfl, hlo, hlh, hhi, hd, hc1, hc2⟩ := hrel
      have HD := Lib.hid hd
      have HC1 := Lib.hid hc1
      have HC2 := Lib.hid hc2
      clear hd hc1 hc2
      by_cases hlt : st < rr
      · obtain ⟨c, hc⟩ : ∃ c : Nat, c = (st + rr) / 2 := ⟨_, rfl⟩
        have qc : ((st : Int) + (rr : Int)) / 2 = (c : Int) := by omega
        have hl1 : st ≤ c := by omega
        have hl2 : c < rr := by omega
        clear hc
        have k1 : c - a < U.length := by rw [← HLu.out]; omega
        have k2 : mid - c - 1 < V.length := by rw [← HLv.out]; omega
        obtain ⟨x, hx⟩ : ∃ x, U[c - a]? = some x := ⟨_, List.getElem?_eq_getElem k1⟩
        obtain ⟨y, hy⟩ : ∃ y, V[mid - c - 1]? = some y := ⟨_, List.getElem?_eq_getElem k2⟩
        obtain ⟨e, he⟩ : ∃ e, e = m + (mid - c - 1) := ⟨_, rfl⟩
        have qe : (pp : Int) - (c : Int) = (e : Int) := by omega
        have hp := HAv.out _ _ hy
        rw [← he] at hp
        have hq := HAu.out _ _ hx
        rw [show a + (c - a) = c by omega] at hq
        have HX := Lib.hid hx
        have HY := Lib.hid hy
        clear k1 k2 hx hy
        have HS : Hid (∀ W, Below wr.heap.size wr W → W.rangeAt g (e * 12) (cRc y) ∧ W.rangeAt g (c * 12) (cRc x)) := Lib.hid (fun W hb => ⟨(HD.out.below hb).1.range cRc_len hp, (HD.out.below hb).1.range cRc_len hq⟩)
        have HCm : Hid (∀ W, Calls Tryz.prog 222 #[.agg (cRc y).toArray, .agg (cRc x).toArray] W fun e w' => e = .returned (.int .i64 (cmpI (y).id (x).id)) ∧ Below W.heap.size W w') := Lib.hid (fun W => by_any y x W)
        have HSz : Hid (((Tryz.prog.info? 92).map (·.size) = some (cRc y).length) ∧ ((Tryz.prog.info? 92).map (·.size) = some (cRc x).length)) := Lib.hid ⟨rc_size y, rc_size x⟩
        have HCn : Hid (cmpI (y).id (x).id < 0 ↔ (y).id < (x).id) := Lib.hid cmp_neg
        obtain ⟨XP, hXP⟩ : ∃ XP, XP = cRc y := ⟨_, rfl⟩
        obtain ⟨XQ, hXQ⟩ : ∃ XQ, XQ = cRc x := ⟨_, rfl⟩
        rw [← hXP, ← hXQ] at HCm HSz HS
        obtain ⟨cc, hcc⟩ : ∃ cc, cc = cmpI (y).id (x).id := ⟨_, rfl⟩
        rw [← hcc] at HCm HCn
        clear hXP hXQ hcc
        have p0 : (0 : Int) ≤ (e : Int) := by omega
        have p1 : (e : Int) < (n : Int) := by omega
        have q0 : (0 : Int) ≤ (c : Int) := by omega
        have q1 : (c : Int) < (n : Int) := by omega
        have hli : (st : Int) < (rr : Int) := by omega
        have qw : IntKind.i64.wrap (e : Int) = (e : Int) := IntWalk.i64_in _ (by omega)
        clear hp hq he
        go_wp2_with fail
        refine wp_region_held_drew (S := fun w' => w'.rangeAt g (e * 12) XP ∧ w'.rangeAt g (c * 12) XQ) (by kernel_rfl) (HS.out _ (bdrew (Below.refl _ _))) (fun hHeld => ?_)
        refine tk 0 hHeld ?_
        refine tk 1 hHeld ?_
        refine tk 2 hHeld ?_
        refine tk 3 hHeld ?_
        refine tk 4 hHeld ?_
        refine tk 5 hHeld ?_
        refine tkl 6 rfl (yieldsIf_load_mid (by rfl) _ _ rfl _ _ rfl _ _ (fun _ h => h.1) Tryz.underlying92 rfl HSz.out.1) hHeld ?_
        refine tk 7 hHeld ?_
        refine tk 8 hHeld ?_
        refine tk 9 hHeld ?_
        refine tkl 10 rfl (yieldsIf_load_mid (by rfl) _ _ rfl _ _ rfl _ _ (fun _ h => h.2) Tryz.underlying92 rfl HSz.out.2) hHeld ?_
        refine rd 11 (fun K hK => ?_)
        go_simp
        refine (HCm.out _).mono ?_
        rintro e w1 ⟨rfl, b1⟩
        go_wp2_with fail
        refine hK.out _ _ (HS.out _ (bthen (bdrew (Below.refl _ _)) b1)) (fun hHeld => ?_)
        clear hK K
        refine tk 12 hHeld ?_
        refine tk 13 hHeld ?_
        refine wpAnyH_done (by kernel_rfl) ?_ _
        clear hHeld
        refine fin (fun W => Below wr.heap.size wr W) (bthen (bdrew (Below.refl _ _)) b1) ?_
        clear b1 HS HCm
        rintro W hbW
        have HBW := Lib.hid hbW
        clear hbW
        have HD2 := Lib.hid (HD.out.below HBW.out)
        by_cases hc : cc < 0
        · have hlt2 := Lib.hid (HCn.out.1 hc)
          have hc' : decide (cc < 0) = true := decide_eq_true hc
          clear HCn HD HBW
          rw [hc']
          go_wp2
          go_roundw
          case rel => exact ⟨st, c, rfl, rfl, hlo, hl1, by omega, HD2.out, HC1.out, Or.inr ⟨x, y, HY.out, HX.out, hlt2.out⟩⟩
          case measure => simp [ivl] <;> omega
        · have hlt2 : Hid (x.id ≤ y.id) := Lib.hid (by have := HCn.out; omega)
          have hc' : decide (cc < 0) = false := decide_eq_false hc
          clear HCn HD HBW
          rw [hc']
          go_wp2
          go_roundw
          case rel => exact ⟨c + 1, rr, by go_num, rfl, by omega, by omega, hhi, HD2.out, Or.inr ⟨x, y, by rw [show c + 1 - a - 1 = c - a by omega]; exact HX.out, by rw [show mid - (c + 1) = mid - c - 1 by omega]; exact HY.out, hlt2.out⟩, HC2.out⟩
          case measure => simp [ivl] <;> omega
      · obtain rfl : rr = st := by omega
        have hli : ¬ (rr : Int) < (rr : Int) := by omega
        obtain ⟨hle, hfil⟩ := HFin.out rr hlo hhi HC1.out HC2.out
        have hUu : U.take (rr - a) ++ U.drop (rr - a) = U := List.take_append_drop _ _
        have hVv : V.take (mid - rr) ++ V.drop (mid - rr) = V := List.take_append_drop _ _
        have lu1 : (U.take (rr - a)).length = rr - a := by rw [List.length_take, ← HLu.out]; omega
        have lu2 : (U.drop (rr - a)).length = m - rr := by rw [List.length_drop, ← HLu.out]; omega
        have lv1 : (V.take (mid - rr)).length = mid - rr := by rw [List.length_take, ← HLv.out]; omega
        have lv2 : (V.drop (mid - rr)).length = b - (m + (mid - rr)) := by rw [List.length_drop, ← HLv.out]; omega
        obtain ⟨U1, eU1⟩ : ∃ U1, U1 = U.take (rr - a) := ⟨_, rfl⟩
        obtain ⟨U2, eU2⟩ : ∃ U2, U2 = U.drop (rr - a) := ⟨_, rfl⟩
        obtain ⟨V1, eV1⟩ : ∃ V1, V1 = V.take (mid - rr) := ⟨_, rfl⟩
        obtain ⟨V2, eV2⟩ : ∃ V2, V2 = V.drop (mid - rr) := ⟨_, rfl⟩
        rw [← eU1, ← eU2, ← eV1, ← eV2] at hle hfil
        rw [← eU1, ← eU2] at hUu
        rw [← eV1, ← eV2] at hVv
        rw [← eU1] at lu1
        rw [← eU2] at lu2
        rw [← eV1] at lv1
        rw [← eV2] at lv2
        have aU : Asc Rc.id U1 ∧ Asc Rc.id U2 := by
          have q := HUa.out.1
          rw [← hUu] at q
          exact ⟨(List.pairwise_append.1 q).1, (List.pairwise_append.1 q).2.1⟩
        have aV : Asc Rc.id V1 ∧ Asc Rc.id V2 := by
          have q := HUa.out.2
          rw [← hVv] at q
          exact ⟨(List.pairwise_append.1 q).1, (List.pairwise_append.1 q).2.1⟩
        have hxx : P ++ U ++ V ++ Q = P ++ U1 ++ U2 ++ V1 ++ (V2 ++ Q) := by
          rw [← hUu, ← hVv]; simp only [List.append_assoc]
        have hD1 : DR w 92 g wr (P ++ U1 ++ U2 ++ V1 ++ (V2 ++ Q)) := by rw [← hxx]; exact HD.out
        have hln : (P ++ U1 ++ U2 ++ V1 ++ (V2 ++ Q)).length = n := by rw [← hxx]; exact HLn.out
        have hlc : P.length + U1.length + U2.length + V1.length + V2.length + Q.length = n := by rw [← hln]; simp only [List.length_append]; omega
        have hpl := HPl.out
        obtain ⟨en, hen⟩ : ∃ en, en = m + (mid - rr) := ⟨_, rfl⟩
        have qen : (nn : Int) - (rr : Int) = (en : Int) := by omega
        have HRot : Hid (rr < m → m < en → Calls Tryz.prog 316 #[.slice (some ⟨g, 0, none⟩) n cap, .int .i64 rr, .int .i64 m, .int .i64 en, .func (.func 222) #[] #[]] wr fun e w' => e = .returned (.tuple #[]) ∧ DR w 92 g w' (P ++ (U1 ++ V1) ++ (U2 ++ V2) ++ Q)) := Lib.hid (fun q1 q2 => by
          refine (rot_any g n cap rr m en (.func (.func 222) #[] #[]) (P ++ U1) U2 V1 (V2 ++ Q) wr hD1.1 hln hbig (by rw [List.length_append]; omega) (by omega) (by omega) (by omega) (by omega)).mono ?_
          rintro e w' ⟨r1, r2⟩
          refine ⟨r1, ?_⟩
          have r3 := hD1.next r2
          simpa only [List.append_assoc] using r3)
        have HNo : Hid (¬ (rr < m ∧ m < en) → DR w 92 g wr (P ++ (U1 ++ V1) ++ (U2 ++ V2) ++ Q)) := Lib.hid (fun q => by
          have z : U2 = [] ∨ V1 = [] := by
            rcases Nat.lt_or_ge rr m with r | r
            · right; exact List.length_eq_zero_iff.1 (by omega)
            · left; exact List.length_eq_zero_iff.1 (by omega)
          rcases z with z | z <;> (rw [z] at hD1 ⊢; simpa only [List.append_assoc, List.nil_append] using hD1))
        have HI1 : Hid (∀ W, DR w 92 g W (P ++ (U1 ++ V1) ++ (U2 ++ V2) ++ Q) → a < rr → rr < mid → Calls Tryz.prog 294 #[.slice (some ⟨g, 0, none⟩) n cap, .int .i64 a, .int .i64 rr, .int .i64 mid, .func (.func 222) #[] #[]] W fun e w' => e = .returned (.tuple #[]) ∧ ∃ Z, Z.length = U1.length + V1.length ∧ Fil Rc.id (U1 ++ V1) Z ∧ Asc Rc.id Z ∧ DR w 92 g w' (P ++ Z ++ (U2 ++ V2) ++ Q)) := Lib.hid (fun W hW q1 q2 => by
          have r0 : P ++ (U1 ++ V1) ++ (U2 ++ V2) ++ Q = P ++ U1 ++ V1 ++ (U2 ++ V2 ++ Q) := by simp only [List.append_assoc]
          rw [r0] at hW
          refine (HIH.out a rr mid P U1 V1 (U2 ++ V2 ++ Q) W hW.1 (by simp only [List.length_append]; omega) hpl (by omega) (by omega) (by omega) (by omega) aU.1 aV.1 (by omega)).mono ?_
          rintro e w' ⟨r1, Z, r2, r3, r4, r5⟩
          refine ⟨r1, Z, r2, r3, r4, ?_⟩
          have r6 := hW.next r5
          simpa only [List.append_assoc] using r6)
        have HN1 : Hid (¬ (a < rr ∧ rr < mid) → Asc Rc.id (U1 ++ V1)) := Lib.hid (fun q => by
          have z : U1 = [] ∨ V1 = [] := by
            rcases Nat.lt_or_ge a rr with r | r
            · right; exact List.length_eq_zero_iff.1 (by omega)
            · left; exact List.length_eq_zero_iff.1 (by omega)
          rcases z with z | z
          · rw [z]; exact aV.1
          · rw [z, List.append_nil]; exact aU.1)
        have HI2 : Hid (∀ W Z, Z.length = U1.length + V1.length → DR w 92 g W (P ++ Z ++ (U2 ++ V2) ++ Q) → mid < en → en < b → Calls Tryz.prog 294 #[.slice (some ⟨g, 0, none⟩) n cap, .int .i64 mid, .int .i64 en, .int .i64 b, .func (.func 222) #[] #[]] W fun e w' => e = .returned (.tuple #[]) ∧ ∃ Y, Y.length = U2.length + V2.length ∧ Fil Rc.id (U2 ++ V2) Y ∧ Asc Rc.id Y ∧ DR w 92 g w' (P ++ (Z ++ Y) ++ Q)) := Lib.hid (fun W Z hZ hW q1 q2 => by
          have r0 : P ++ Z ++ (U2 ++ V2) ++ Q = (P ++ Z) ++ U2 ++ V2 ++ Q := by simp only [List.append_assoc]
          rw [r0] at hW
          refine (HIH.out mid en b (P ++ Z) U2 V2 Q W hW.1 (by simp only [List.length_append]; omega) (by rw [List.length_append]; omega) (by omega) (by omega) (by omega) (by omega) aU.2 aV.2 (by omega)).mono ?_
          rintro e w' ⟨r1, Y, r2, r3, r4, r5⟩
          refine ⟨r1, Y, r2, r3, r4, ?_⟩
          have r6 := hW.next r5
          simpa only [List.append_assoc] using r6)
        have HN2 : Hid (¬ (mid < en ∧ en < b) → Asc Rc.id (U2 ++ V2)) := Lib.hid (fun q => by
          have z : U2 = [] ∨ V2 = [] := by
            rcases Nat.lt_or_ge mid en with r | r
            · right; exact List.length_eq_zero_iff.1 (by omega)
            · left; exact List.length_eq_zero_iff.1 (by omega)
          rcases z with z | z
          · rw [z]; exact aV.2
          · rw [z, List.append_nil]; exact aU.2)
        have HAll : Hid (∀ W Z Y, Z.length = U1.length + V1.length → Fil Rc.id (U1 ++ V1) Z → Asc Rc.id Z → Y.length = U2.length + V2.length → Fil Rc.id (U2 ++ V2) Y → Asc Rc.id Y → DR w 92 g W (P ++ (Z ++ Y) ++ Q) → ∃ Z', Z'.length = U.length + V.length ∧ Fil Rc.id (U ++ V) Z' ∧ Asc Rc.id Z' ∧ DR w 92 g W (P ++ Z' ++ Q)) := Lib.hid (fun W Z Y l1 f1 a1 l2 f2 a2 hW =>
          ⟨Z ++ Y, by rw [← hUu, ← hVv]; simp only [List.length_append]; omega, hfil.trans (f1.app f2), f1.asc f2 a1 a2 hle, hW⟩)
        have HL1 : Hid (U1.length + V1.length = (U1 ++ V1).length ∧ U2.length + V2.length = (U2 ++ V2).length) := Lib.hid ⟨by rw [List.length_append], by rw [List.length_append]⟩
        have j1 : rr ≤ m := by omega
        have j2 : en ≤ b := by omega
        have j3 : a ≤ rr := by omega
        have j4 : m ≤ en := by omega
        clear hle hfil hUu hVv lu1 lu2 lv1 lv2 eU1 eU2 eV1 eV2 aU aV hxx hD1 hln hlc hpl hen HD HC1 HC2 HFin HUa HIH HAu HAv
        go_upto_region 39 with fail
        go_cut [185] from 178 to 184 (fun s wx => s = .bool (decide (rr < m ∧ m < en)) ∧ wr = wx)
        case first =>
          by_cases c1 : rr < m
          · have c2 : (rr : Int) < (m : Int) := by omega
            by_cases c3 : m < en
            · have c4 : (m : Int) < (en : Int) := by omega
              go_wp2
              go_meet
              exact ⟨by simp [c1, c3], rfl⟩
            · have c4 : ¬ (m : Int) < (en : Int) := by omega
              go_wp2
              go_meet
              exact ⟨by simp [c3], rfl⟩
          · have c2 : ¬ (rr : Int) < (m : Int) := by omega
            go_wp2
            go_meet
            exact ⟨by simp [c1], rfl⟩
        case rest =>
          obtain ⟨rfl, rfl⟩ := hcut
          go_upto_if 185 with fail
          go_cut [] from 185 to 191 (fun wx => DR w 92 g wx (P ++ (U1 ++ V1) ++ (U2 ++ V2) ++ Q))
          case first =>
            by_cases cb : rr < m ∧ m < en
            · rw [decide_eq_true cb]
              go_wp2_with fail
              refine (HRot.out cb.1 cb.2).mono ?_
              rintro e w' ⟨rfl, hd⟩
              have HD := Lib.hid hd
              clear hd
              go_wp2
              go_meet
              exact HD.out
            · rw [decide_eq_false cb]
              go_wp2
              go_meet
              exact HNo.out cb
          case rest =>
            refine fin (fun W => DR w 92 g W (P ++ (U1 ++ V1) ++ (U2 ++ V2) ++ Q)) hcut ?_
            clear hcut HRot HNo
            rintro W1 hd
            have HD := Lib.hid hd
            clear hd
            go_upto_region 41 with fail
            go_cut [199] from 192 to 198 (fun s wx => s = .bool (decide (a < rr ∧ rr < mid)) ∧ W1 = wx)
            case first =>
              by_cases c1 : a < rr
              · have c2 : (a : Int) < (rr : Int) := by omega
                by_cases c3 : rr < mid
                · have c4 : (rr : Int) < (mid : Int) := by omega
                  go_wp2
                  go_meet
                  exact ⟨by simp [c1, c3], rfl⟩
                · have c4 : ¬ (rr : Int) < (mid : Int) := by omega
                  go_wp2
                  go_meet
                  exact ⟨by simp [c3], rfl⟩
              · have c2 : ¬ (a : Int) < (rr : Int) := by omega
                go_wp2
                go_meet
                exact ⟨by simp [c1], rfl⟩
            case rest =>
              obtain ⟨rfl, rfl⟩ := hcut
              go_upto_if 199 with fail
              go_cut [] from 199 to 205 (fun wx => ∃ Z, Z.length = U1.length + V1.length ∧ Fil Rc.id (U1 ++ V1) Z ∧ Asc Rc.id Z ∧ DR w 92 g wx (P ++ Z ++ (U2 ++ V2) ++ Q))
              case first =>
                by_cases cb : a < rr ∧ rr < mid
                · rw [decide_eq_true cb]
                  go_wp2_with fail
                  refine (HI1.out _ HD.out cb.1 cb.2).mono ?_
                  rintro e w' ⟨rfl, hz⟩
                  have HZ := Lib.hid hz
                  clear hz
                  go_wp2
                  go_meet
                  exact HZ.out
                · rw [decide_eq_false cb]
                  go_wp2
                  go_meet
                  exact ⟨U1 ++ V1, HL1.out.1.symm, Fil.refl _, HN1.out cb, HD.out⟩
              case rest =>
                obtain ⟨Z, l1, f1, a1, hd⟩ := hcut
                refine fin (fun W => DR w 92 g W (P ++ Z ++ (U2 ++ V2) ++ Q)) hd ?_
                clear hd HI1 HN1 HD
                rintro W2 hd
                have HD := Lib.hid hd
                have HF1 := Lib.hid (And.intro l1 (And.intro f1 a1))
                clear hd l1 f1 a1
                go_upto_region 43 with fail
                go_cut [213] from 206 to 212 (fun s wx => s = .bool (decide (mid < en ∧ en < b)) ∧ W2 = wx)
                case first =>
                  by_cases c1 : mid < en
                  · have c2 : (mid : Int) < (en : Int) := by omega
                    by_cases c3 : en < b
                    · have c4 : (en : Int) < (b : Int) := by omega
                      go_wp2
                      go_meet
                      exact ⟨by simp [c1, c3], rfl⟩
                    · have c4 : ¬ (en : Int) < (b : Int) := by omega
                      go_wp2
                      go_meet
                      exact ⟨by simp [c3], rfl⟩
                  · have c2 : ¬ (mid : Int) < (en : Int) := by omega
                    go_wp2
                    go_meet
                    exact ⟨by simp [c1], rfl⟩
                case rest =>
                  obtain ⟨rfl, rfl⟩ := hcut
                  by_cases cb : mid < en ∧ en < b
                  · rw [decide_eq_true cb]
                    go_wp2_with fail
                    refine (HI2.out _ Z HF1.out.1 HD.out cb.1 cb.2).mono ?_
                    rintro e w' ⟨rfl, Y, l2, f2, a2, hd⟩
                    have HE := Lib.hid (HAll.out _ Z Y HF1.out.1 HF1.out.2.1 HF1.out.2.2 l2 f2 a2 hd)
                    clear l2 f2 a2 hd
                    go_wp2
                    go_end0
                    first | exact ⟨rfl, HE.out⟩ | exact ⟨rfl, by have q := HE.out; simpa only [List.append_assoc] using q⟩
                  · rw [decide_eq_false cb]
                    have HE := Lib.hid (HAll.out W2 Z (U2 ++ V2) HF1.out.1 HF1.out.2.1 HF1.out.2.2 HL1.out.2.symm (Fil.refl _) (HN2.out cb) (by have q := HD.out; simpa only [List.append_assoc] using q))
                    go_wp2
                    go_end0
                    first | exact ⟨rfl, HE.out⟩ | exact ⟨rfl, by have q := HE.out; simpa only [List.append_assoc] using q⟩
theorem sym_any (g n cap : Nat) (hbig : n ≤ 1000000000) : ∀ (d a m b : Nat) (P U V Q : List Rc) (w : World), MR 12 cRc 92 w g (P ++ U ++ V ++ Q) → (P ++ U ++ V ++ Q).length = n → P.length = a → a + U.length = m → m + V.length = b → 0 < U.length → 0 < V.length → Asc Rc.id U → Asc Rc.id V → U.length + V.length ≤ d → SymAns g n cap a m b P U V Q w
  | 0, a, m, b, P, U, V, Q, w, _, _, _, _, _, h1, _, _, _, h2 => by omega
  | d + 1, a, m, b, P, U, V, Q, w, hX, hn, ha, hm, hb, hU, hV, aU, aV, hd => by
    match U, hU with
    | [u], _ =>
      refine (sym_one g n cap a m b P u V Q w hX hn hbig ha hm hb aV).mono ?_
      rintro e w' ⟨r1, Z, r2, r3, r4, r5⟩
      exact ⟨r1, Z, by simpa using r2, r3, r4, r5⟩
    | u1 :: u2 :: U', _ =>
      match V, hV with
      | [v], _ =>
        refine (sym_last g n cap a m b P v (u1 :: u2 :: U') Q w hX hn hbig ha hm hb (by simp) aU).mono ?_
        rintro e w' ⟨r1, Z, r2, r3, r4, r5⟩
        exact ⟨r1, Z, by simpa using r2, r3, r4, r5⟩
      | v1 :: v2 :: V', _ =>
        exact sym_more g n cap a m b d P (u1 :: u2 :: U') (v1 :: v2 :: V') Q w hX hn hbig ha hm hb (by simp) (by simp) aU aV hd (sym_any g n cap hbig d)
section
variable {α : Type} {key : α → Int}
theorem AscIn.past {X : List α} {lo hi hi' : Nat} (h : AscIn key X lo hi) (hl : X.length ≤ hi) : AscIn key X lo hi' := fun i j a b q1 q2 _ ha hb => h i j a b q1 q2 (by have := (List.getElem?_eq_some_iff.1 hb).1; omega) ha hb
theorem AscIn.none {X : List α} {lo hi : Nat} (hl : X.length ≤ lo) : AscIn key X lo hi := fun i j a b q1 q2 _ ha _ => by
  have := (List.getElem?_eq_some_iff.1 ha).1
  omega
theorem AscIn.apart {X Y : List α} {lo hi a b : Nat} (h : AscIn key X lo hi) (hs : SStep key X Y a b) (ho : hi ≤ a ∨ b ≤ lo) : AscIn key Y lo hi := h.same (fun i h1 h2 => hs.out i (by omega))
structure Mrg (key : α → Int) (bs q a : Nat) (Y : List α) : Prop where
  at_ : a = q * (2 * bs)
  done : ∀ p, p < q → AscIn key Y (p * (2 * bs)) (p * (2 * bs) + 2 * bs)
  todo : ∀ p, 2 * q ≤ p → AscIn key Y (p * bs) (p * bs + bs)
theorem mul_step {p q D : Nat} (h : p < q) : p * D + D ≤ q * D := by
  have := Nat.mul_le_mul_right D (show p + 1 ≤ q from h)
  rw [Nat.add_mul, Nat.one_mul] at this
  exact this
theorem two_mul' (q bs : Nat) : 2 * q * bs = q * (2 * bs) := by
  rw [Nat.mul_comm 2 q, Nat.mul_assoc]
theorem Mrg.start {bs : Nat} {Y : List α} (h : ∀ p, AscIn key Y (p * bs) (p * bs + bs)) : Mrg key bs 0 0 Y := ⟨by simp, fun p hp => by omega, fun p _ => h p⟩
theorem Mrg.two {bs q a : Nat} {Y : List α} (h : Mrg key bs q a Y) : AscIn key Y a (a + bs) ∧ AscIn key Y (a + bs) (a + bs + bs) := by
  have h1 := h.todo (2 * q) (Nat.le_refl _)
  have h2 := h.todo (2 * q + 1) (by omega)
  rw [two_mul', ← h.at_] at h1
  rw [Nat.add_mul, Nat.one_mul, two_mul', ← h.at_] at h2
  exact ⟨h1, h2⟩
theorem Mrg.next {bs q a : Nat} {Y Z : List α} (h : Mrg key bs q a Y) (hs : SStep key Y Z a (a + 2 * bs)) (hz : AscIn key Z a (a + 2 * bs)) : Mrg key bs (q + 1) (a + 2 * bs) Z := by
  refine ⟨by rw [Nat.add_mul, Nat.one_mul, ← h.at_], fun p hp => ?_, fun p hp => ?_⟩
  · rcases Nat.lt_or_eq_of_le (Nat.le_of_lt_succ hp) with h1 | rfl
    · refine (h.done p h1).apart hs (Or.inl ?_)
      rw [h.at_]; exact mul_step h1
    · rw [← h.at_]; exact hz
  · refine (h.todo p (by omega)).apart hs (Or.inr ?_)
    have := mul_step (D := bs) (show 2 * q + 1 < p by omega)
    rw [Nat.add_mul, Nat.one_mul, two_mul', ← h.at_] at this
    have e := Nat.mul_le_mul_right bs (show 2 * q + 2 ≤ p by omega)
    rw [Nat.add_mul, two_mul', ← h.at_] at e
    omega
theorem AscIn.all {X : List α} (h : AscIn key X 0 X.length) : Asc key X := asc_of fun i j a b hij ha hb => h i j a b (Nat.zero_le _) hij (List.getElem?_eq_some_iff.1 hb).1 ha hb
end
theorem sym_in (g n cap a m b : Nat) (X : List Rc) (w : World) (hX : MR 12 cRc 92 w g X) (hn : X.length = n) (hbig : n ≤ 1000000000) (h1 : a < m) (h2 : m < b) (h3 : b ≤ n) (A1 : AscIn Rc.id X a m) (A2 : AscIn Rc.id X m b) :
    Calls Tryz.prog 294 #[.slice (some ⟨g, 0, none⟩) n cap, .int .i64 a, .int .i64 m, .int .i64 b, .func (.func 222) #[] #[]] w fun e w' => e = .returned (.tuple #[]) ∧ ∃ Y, DR w 92 g w' Y ∧ SStep Rc.id X Y a b ∧ AscIn Rc.id Y a b := by
  obtain ⟨e1, l1, l2⟩ := three (X := X) (lo := a) (hi := m) (by omega) (by omega)
  obtain ⟨e2, l3, l4⟩ := three (X := X.drop m) (lo := 0) (hi := b - m) (by omega) (by rw [List.length_drop]; omega)
  rw [List.take_zero, List.nil_append, List.drop_zero, Nat.sub_zero, List.drop_drop, show m + (b - m) = b by omega] at e2
  rw [List.drop_zero, Nat.sub_zero] at l4
  obtain ⟨P, eP⟩ : ∃ P, P = X.take a := ⟨_, rfl⟩
  obtain ⟨U, eU⟩ : ∃ U, U = (X.drop a).take (m - a) := ⟨_, rfl⟩
  obtain ⟨V, eV⟩ : ∃ V, V = (X.drop m).take (b - m) := ⟨_, rfl⟩
  obtain ⟨Q, eQ⟩ : ∃ Q, Q = X.drop b := ⟨_, rfl⟩
  have aU : Asc Rc.id U := by rw [eU]; exact A1.out
  have aV : Asc Rc.id V := by rw [eV]; exact A2.out
  rw [← eV, ← eQ] at e2
  rw [← eP, ← eU, e2, ← List.append_assoc] at e1
  rw [← eP] at l1
  rw [← eU] at l2
  rw [← eV] at l4
  rw [e1] at hX hn ⊢
  refine (sym_any g n cap hbig (U.length + V.length) a m b P U V Q w hX hn l1 (by omega) (by omega) (by omega) (by omega) aU aV (Nat.le_refl _)).mono ?_
  rintro e w' ⟨r1, Z, r2, r3, r4, r5⟩
  have hlen : P.length + (U ++ V).length = b := by rw [List.length_append]; omega
  have s1 := SStep.mid (key := Rc.id) (P := P) (Q := Q) (S := U ++ V) (S' := Z) (by rw [List.length_append]; exact r2) r3
  have s2 := AscIn.mid (key := Rc.id) (P := P) (Q := Q) r4
  rw [hlen, l1, ← List.append_assoc] at s1
  rw [r2, ← List.length_append, hlen, l1] at s2
  exact ⟨r1, _, r5, s1, s2⟩
set_option maxHeartbeats 16000000 in
set_option maxRecDepth 100000 in
theorem stb_any (g n cap : Nat) (X : List Rc) (w : World) (hX : MR 12 cRc 92 w g X) (hn : X.length = n) (hbig : n ≤ 1000000) :
    Calls Tryz.prog 266 #[.slice (some ⟨g, 0, none⟩) n cap, .int .i64 n, .func (.func 222) #[] #[]] w fun e w' => e = .returned (.tuple #[]) ∧ ∃ Y, DR w 92 g w' Y ∧ SStep Rc.id X Y 0 n ∧ AscIn Rc.id Y 0 n := by
  have H0 : Hid (DR w 92 g w X) := Lib.hid (DR.start hX)
  have HLn := Lib.hid hn
  have HI : Hid (∀ (W : World) (Y : List Rc) (a b : Int) (na nb : Nat), DR w 92 g W Y → SStep Rc.id X Y 0 n → a = (na : Int) → b = (nb : Int) → na ≤ nb → nb ≤ n → Calls Tryz.prog 293 #[.slice (some ⟨g, 0, none⟩) n cap, .int .i64 a, .int .i64 b, .func (.func 222) #[] #[]] W fun e w' => e = .returned (.tuple #[]) ∧ ∃ Z, DR w 92 g w' Z ∧ SStep Rc.id X Z 0 n ∧ SStep Rc.id Y Z na nb ∧ AscIn Rc.id Z na nb) := Lib.hid (fun W Y a b na nb hd hs ea eb h1 h2 => by
    subst ea eb
    refine (ins_any g n cap na nb Y W hd.1 (hs.len.trans hn) (by omega) h1 h2).mono ?_
    rintro e w' ⟨r1, Z, r2, r3, r4⟩
    exact ⟨r1, Z, hd.next r2, hs.trans (r3.wide (by omega) h2), r3, r4⟩)
  have HM : Hid (∀ (W : World) (Y : List Rc) (a m b : Int) (na nm nb : Nat), DR w 92 g W Y → SStep Rc.id X Y 0 n → a = (na : Int) → m = (nm : Int) → b = (nb : Int) → na < nm → nm < nb → nb ≤ n → AscIn Rc.id Y na nm → AscIn Rc.id Y nm nb → Calls Tryz.prog 294 #[.slice (some ⟨g, 0, none⟩) n cap, .int .i64 a, .int .i64 m, .int .i64 b, .func (.func 222) #[] #[]] W fun e w' => e = .returned (.tuple #[]) ∧ ∃ Z, DR w 92 g w' Z ∧ SStep Rc.id X Z 0 n ∧ SStep Rc.id Y Z na nb ∧ AscIn Rc.id Z na nb) := Lib.hid (fun W Y a m b na nm nb hd hs ea em eb h1 h2 h3 a1 a2 => by
    subst ea em eb
    refine (sym_in g n cap na nm nb Y W hd.1 (hs.len.trans hn) (by omega) h1 h2 h3 a1 a2).mono ?_
    rintro e w' ⟨r1, Z, r2, r3, r4⟩
    exact ⟨r1, Z, hd.next r2, hs.trans (r3.wide (by omega) h3), r3, r4⟩)
  have hE := enters_by
  unfold Enters at hE
  clear hX hn
  go_enter Tryz.func266, Tryz.ntmps266
  go_wp2
  go_loopw [7, 8] (fun v7 v8 wr => ∃ (q : Nat) (Y : List Rc), v7 = .int .i64 ((20 * q : Nat) : Int) ∧ v8 = .int .i64 ((20 * q + 20 : Nat) : Int) ∧ 20 * q ≤ n ∧ DR w 92 g wr Y ∧ SStep Rc.id X Y 0 n ∧ ∀ p, p < q → AscIn Rc.id Y (p * 20) (p * 20 + 20)) (fun v7 _ _ => n - (ivl v7).toNat)
  case atStart => exact ⟨0, X, rfl, rfl, by omega, H0.out, SStep.refl _ _ _, fun p hp => by omega⟩
  case round =>
    clear H0
    obtain ⟨q, Y, rfl, rfl, hq, hd, hs, ha⟩ := hrel
    have HD := Lib.hid hd
    have HSs := Lib.hid hs
    have HA := Lib.hid ha
    clear hd hs ha
    by_cases hlt : 20 * q + 20 ≤ n
    · have hli : ((20 * q + 20 : Nat) : Int) ≤ (n : Int) := by omega
      have HC := Lib.hid (HI.out wr Y ((20 * q : Nat) : Int) ((20 * q + 20 : Nat) : Int) (20 * q) (20 * q + 20) HD.out HSs.out rfl rfl (by omega) hlt)
      obtain ⟨qa, hqa⟩ : ∃ qa, qa = 20 * q := ⟨_, rfl⟩
      obtain ⟨qb, hqb⟩ : ∃ qb, qb = 20 * q + 20 := ⟨_, rfl⟩
      rw [← hqb] at hli HC ⊢
      rw [← hqa] at HC ⊢
      have HQ := Lib.hid (And.intro hqa hqb)
      have hqn : qb ≤ n := by omega
      clear hqa hqb HD
      go_wp2_with fail
      refine HC.out.mono ?_
      rintro e w1 ⟨rfl, Z, hd, hs, hs2, ha2⟩
      have HD := Lib.hid hd
      have HSz := Lib.hid hs
      have HA2 : Hid (∀ p, p < q + 1 → AscIn Rc.id Z (p * 20) (p * 20 + 20)) := Lib.hid (fun p hp => by
        have e := HQ.out
        by_cases h : p < q
        · exact (HA.out p h).apart hs2 (Or.inl (by omega))
        · have e2 : p * 20 = qa := by omega
          have e3 : p * 20 + 20 = qb := by omega
          rw [e2] at e3 ⊢
          rw [e3]
          exact ha2)
      clear hd hs hs2 ha2 HC HSs HA
      go_wp2
      go_roundw
      case rel => exact ⟨q + 1, Z, by have := HQ.out; go_num, by have := HQ.out; go_num, by have := HQ.out; omega, HD.out, HSz.out, HA2.out⟩
      case measure => have := HQ.out; simp [ivl] <;> omega
    · have hli : ¬ ((20 * q + 20 : Nat) : Int) ≤ (n : Int) := by omega
      have HC := Lib.hid (HI.out wr Y ((20 * q : Nat) : Int) (n : Int) (20 * q) n HD.out HSs.out rfl rfl (by omega) (Nat.le_refl _))
      obtain ⟨qa, hqa⟩ : ∃ qa, qa = 20 * q := ⟨_, rfl⟩
      obtain ⟨qb, hqb⟩ : ∃ qb, qb = 20 * q + 20 := ⟨_, rfl⟩
      rw [← hqb] at hli ⊢
      rw [← hqa] at HC ⊢
      have HQ := Lib.hid (And.intro hqa hqb)
      clear hqa hqb HD
      go_wp2_with fail
      refine HC.out.mono ?_
      rintro e w1 ⟨rfl, Z, hd, hs, hs2, ha2⟩
      have HD := Lib.hid hd
      have HSz := Lib.hid hs
      have HA2 : Hid (∀ p, AscIn Rc.id Z (p * 20) (p * 20 + 20)) := Lib.hid (fun p => by
        have e := HQ.out
        have l := hs.len.trans HLn.out
        rcases Nat.lt_trichotomy p q with h | h | h
        · exact (HA.out p h).apart hs2 (Or.inl (by omega))
        · have e2 : p * 20 = qa := by omega
          rw [e2]
          exact ha2.past (by omega)
        · exact AscIn.none (by omega))
      clear hd hs hs2 ha2 HC HSs HA HQ hq hlt
      go_wp2
      go_loopw [6, 7, 8, 9] (fun v6 _ _ _ wr => ∃ (bs : Nat) (Y : List Rc), v6 = .int .i64 (bs : Int) ∧ 20 ≤ bs ∧ (bs ≤ 2 * n ∨ bs = 20) ∧ DR w 92 g wr Y ∧ SStep Rc.id X Y 0 n ∧ ∀ p, AscIn Rc.id Y (p * bs) (p * bs + bs)) (fun v6 _ _ _ _ => 2 * n + 40 - (ivl v6).toNat)
      case atStart => exact ⟨20, Z, rfl, Nat.le_refl _, Or.inr rfl, HD.out, HSz.out, HA2.out⟩
      case round =>
        clear HD HSz HA2
        obtain ⟨bs, Y, rfl, hb1, hb2, hd, hs, ha⟩ := hrel
        have HD := Lib.hid hd
        have HSs := Lib.hid hs
        have HA := Lib.hid ha
        clear hd hs ha
        by_cases hlt : bs < n
        · have hli : (bs : Int) < (n : Int) := by omega
          have HMg := Lib.hid (Mrg.start HA.out)
          clear HA
          go_wp2
          go_loopw [7, 8] (fun v7 v8 wr => ∃ (q a : Nat) (Y : List Rc), v7 = .int .i64 (a : Int) ∧ v8 = .int .i64 ((a + 2 * bs : Nat) : Int) ∧ a ≤ n ∧ DR w 92 g wr Y ∧ SStep Rc.id X Y 0 n ∧ Mrg Rc.id bs q a Y) (fun v7 _ _ => n - (ivl v7).toNat)
          case atStart => exact ⟨0, 0, Y, rfl, by go_num, by omega, HD.out, HSs.out, HMg.out⟩
          case round =>
            clear HD HSs HMg
            obtain ⟨q, a, Y, rfl, rfl, han, hd, hs, hm⟩ := hrel
            have HD := Lib.hid hd
            have HSs := Lib.hid hs
            have HMg := Lib.hid hm
            clear hd hs hm
            by_cases hle : a + 2 * bs ≤ n
            · have hli2 : ((a + 2 * bs : Nat) : Int) ≤ (n : Int) := by omega
              obtain ⟨a1, a2⟩ := HMg.out.two
              obtain ⟨b, hb⟩ : ∃ b, b = a + 2 * bs := ⟨_, rfl⟩
              rw [show a + bs + bs = b by omega] at a2
              have HC := Lib.hid (HM.out wr Y (a : Int) ((a : Int) + (bs : Int)) (b : Int) a (a + bs) b HD.out HSs.out rfl (by omega) rfl (by omega) (by omega) (by omega) a1 a2)
              rw [← hb] at hli2 ⊢
              have HB := Lib.hid hb
              have hb3 : b ≤ n := by omega
              clear a1 a2 HD hb
              go_wp2_with fail
              refine HC.out.mono ?_
              rintro e w1 ⟨rfl, Z2, hd, hs, hs2, ha2⟩
              have HD := Lib.hid hd
              have HSz := Lib.hid hs
              have HMg2 := Lib.hid (HMg.out.next (by rw [← HB.out]; exact hs2) (by rw [← HB.out]; exact ha2))
              rw [← HB.out] at HMg2
              clear hd hs hs2 ha2 HC HSs HMg
              go_wp2
              go_roundw
              case rel => exact ⟨q + 1, b, Z2, rfl, by go_num, hb3, HD.out, HSz.out, HMg2.out⟩
              case measure => have := HB.out; simp [ivl] <;> omega
            · have hli2 : ¬ ((a + 2 * bs : Nat) : Int) ≤ (n : Int) := by omega
              obtain ⟨a1, a2⟩ := HMg.out.two
              have HL := Lib.hid (HSs.out.len.trans HLn.out)
              by_cases hm : a + bs < n
              · have hli3 : (a : Int) + (bs : Int) < (n : Int) := by omega
                have HC := Lib.hid (HM.out wr Y (a : Int) ((a : Int) + (bs : Int)) (n : Int) a (a + bs) n HD.out HSs.out rfl (by omega) rfl (by omega) hm (Nat.le_refl _) a1 (a2.less (Nat.le_refl _) (by omega)))
                clear a1 a2 HD
                go_wp2_with fail
                refine HC.out.mono ?_
                rintro e w1 ⟨rfl, Z2, hd, hs, hs2, ha2⟩
                have HD := Lib.hid hd
                have HSz := Lib.hid hs
                have HA2 : Hid (∀ p, AscIn Rc.id Z2 (p * (bs * 2)) (p * (bs * 2) + bs * 2)) := Lib.hid (by
                  have l2 := hs.len.trans HLn.out
                  have ha3 := ha2.past (hi' := a + 2 * bs) (by omega)
                  have hs3 : SStep Rc.id Y Z2 a (a + 2 * bs) := hs2.wide (Nat.le_refl _) (by omega)
                  have m2 := HMg.out.next hs3 ha3
                  intro p
                  rw [Nat.mul_comm bs 2]
                  by_cases h : p < q + 1
                  · exact m2.done p h
                  · refine AscIn.none ?_
                    have := Nat.mul_le_mul_right (2 * bs) (show q + 1 ≤ p by omega)
                    rw [← m2.at_] at this
                    omega)
                clear hd hs hs2 ha2 HC HSs HMg
                go_wp2
                go_roundw
                case rel => exact ⟨bs * 2, Z2, by go_num, by omega, by omega, HD.out, HSz.out, HA2.out⟩
                case measure => simp [ivl] <;> omega
              · have hli3 : ¬ (a : Int) + (bs : Int) < (n : Int) := by omega
                have HA2 : Hid (∀ p, AscIn Rc.id Y (p * (bs * 2)) (p * (bs * 2) + bs * 2)) := Lib.hid (by
                  have l2 := HL.out
                  have ha3 : AscIn Rc.id Y a (a + 2 * bs) := a1.past (by omega)
                  have m2 := HMg.out.next (SStep.refl _ _ _) ha3
                  intro p
                  rw [Nat.mul_comm bs 2]
                  by_cases h : p < q + 1
                  · exact m2.done p h
                  · refine AscIn.none ?_
                    have := Nat.mul_le_mul_right (2 * bs) (show q + 1 ≤ p by omega)
                    rw [← m2.at_] at this
                    omega)
                clear a1 a2 HMg
                go_wp2
                go_roundw
                case rel => exact ⟨bs * 2, Y, by go_num, by omega, by omega, HD.out, HSs.out, HA2.out⟩
                case measure => simp [ivl] <;> omega
        · have hli : ¬ (bs : Int) < (n : Int) := by omega
          have HF : Hid (AscIn Rc.id Y 0 n) := Lib.hid (by
            have := HA.out 0
            rw [Nat.zero_mul, Nat.zero_add] at this
            exact this.less (Nat.le_refl _) (by omega))
          go_wp2
          go_end0
          exact ⟨rfl, Y, HD.out, HSs.out, HF.out⟩
theorem sort_any (g n cap : Nat) (X : List Rc) (w : World) (hX : MR 12 cRc 92 w g X) (hn : X.length = n) (hbig : n ≤ 1000000) :
    Calls Tryz.prog 221 #[.slice (some ⟨g, 0, none⟩) n cap, .func (.func 222) #[] #[]] w fun e w' => e = .returned (.tuple #[]) ∧ ∃ Y, DR w 92 g w' Y ∧ Y.length = n ∧ Fil Rc.id X Y ∧ Asc Rc.id Y := by
  have HS := Lib.hid (stb_any g n cap X w hX hn hbig)
  have HL := Lib.hid hn
  clear hX hn
  go_enter Tryz.func221, Tryz.ntmps221
  go_wp2_with fail
  refine HS.out.mono ?_
  rintro e w1 ⟨rfl, Y, hd, hs, ha⟩
  have HD := Lib.hid hd
  have HR := Lib.hid (And.intro (hs.len.trans HL.out) (And.intro hs.fil (AscIn.all (by rw [hs.len, HL.out]; exact ha))))
  clear hd hs ha
  go_wp2
  go_end0
  exact ⟨rfl, Y, HD.out, HR.out⟩
theorem ins_zero (av : Option Addr) (cap : Nat) (w : World) :
    Calls Tryz.prog 293 #[.slice av 0 cap, .int .i64 0, .int .i64 0, .func (.func 222) #[] #[]] w fun e w' => e = .returned (.tuple #[]) ∧ w = w' := by
  go_enter Tryz.func293, Tryz.ntmps293
  go_wp2
  refine wp_loop_rounds 1 ?_
  rw [rounds_succ]
  go_wp2
  go_end0
  exact ⟨rfl, rfl⟩
theorem stb_zero (av : Option Addr) (cap : Nat) (w : World) :
    Calls Tryz.prog 266 #[.slice av 0 cap, .int .i64 0, .func (.func 222) #[] #[]] w fun e w' => e = .returned (.tuple #[]) ∧ w = w' := by
  have HI := Lib.hid (ins_zero av cap w)
  go_enter Tryz.func266, Tryz.ntmps266
  go_wp2
  refine wp_loop_rounds 1 ?_
  rw [rounds_succ]
  go_wp2_with fail
  refine HI.out.mono ?_
  rintro e w1 ⟨rfl, rfl⟩
  go_wp2
  refine wp_loop_rounds 1 ?_
  rw [rounds_succ]
  go_wp2
  go_end0
  exact ⟨rfl, rfl⟩
theorem sort_zero (av : Option Addr) (cap : Nat) (w : World) :
    Calls Tryz.prog 221 #[.slice av 0 cap, .func (.func 222) #[] #[]] w fun e w' => e = .returned (.tuple #[]) ∧ w = w' := by
  have HS := Lib.hid (stb_zero av cap w)
  go_enter Tryz.func221, Tryz.ntmps221
  go_wp2_with fail
  refine HS.out.mono ?_
  rintro e w1 ⟨rfl, rfl⟩
  go_wp2
  go_end0
  exact ⟨rfl, rfl⟩
theorem rev_none (av : Option Addr) (cap : Nat) (w : World) :
    Calls Tryz.prog 220 #[.slice av 0 cap] w fun e w' => e = .returned (.tuple #[]) ∧ w = w' := by
  go_enter Tryz.func220, Tryz.ntmps220
  go_wp2
  refine wp_loop_rounds 1 ?_
  rw [rounds_succ]
  go_wp2
  go_end0
  exact ⟨rfl, rfl⟩
def Rise (L : List Rc) : Prop := L.Pairwise (fun a b => a.id < b.id)
def look (k : Int) (L : List Rc) : Option Rc := L.find? (fun x => x.id == k)
theorem look_fil {A B : List Rc} (h : Fil Rc.id A B) (k : Int) : look k B = look k A := by
  unfold look
  rw [← List.head?_filter, ← List.head?_filter, h k]
theorem look_app (k : Int) (A B : List Rc) : look k (A ++ B) = (look k A).or (look k B) := by
  unfold look
  rw [List.find?_append]
theorem look_mem {k : Int} {L : List Rc} {x : Rc} (h : look k L = some x) : x ∈ L ∧ x.id = k := ⟨List.mem_of_find?_eq_some h, by have := List.find?_some h; simpa using this⟩
theorem look_none {k : Int} {L : List Rc} (h : ∀ x ∈ L, x.id ≠ k) : look k L = none := by
  unfold look
  rw [List.find?_eq_none]
  intro x hx
  simpa using h x hx
theorem look_some {k : Int} {L : List Rc} {x : Rc} (h : x ∈ L) (hk : x.id = k) : ∃ y, look k L = some y := by
  cases e : look k L with
  | some y => exact ⟨y, rfl⟩
  | none =>
    unfold look at e
    rw [List.find?_eq_none] at e
    have := e x h
    rw [hk] at this
    simp at this
theorem look_cons (k : Int) (a : Rc) (L : List Rc) : look k (a :: L) = if a.id = k then some a else look k L := by
  unfold look
  rw [List.find?_cons]
  by_cases h : a.id = k
  · rw [if_pos h, beq_iff_eq.2 h]
  · rw [if_neg h, beq_eq_false_iff_ne.2 h]
theorem rise_cons {a : Rc} {L : List Rc} : Rise (a :: L) ↔ (∀ x ∈ L, a.id < x.id) ∧ Rise L := List.pairwise_cons
theorem rise_ext : ∀ {A B : List Rc}, Rise A → Rise B → (∀ k, look k A = look k B) → A = B
  | [], [], _, _, _ => rfl
  | [], b :: B, _, _, h => by
    have := h b.id
    rw [look_cons, if_pos rfl] at this
    cases this
  | a :: A, [], _, _, h => by
    have := h a.id
    rw [look_cons, if_pos rfl] at this
    cases this
  | a :: A, b :: B, hA, hB, h => by
    obtain ⟨a1, a2⟩ := rise_cons.1 hA
    obtain ⟨b1, b2⟩ := rise_cons.1 hB
    have e1 := h a.id
    have e2 := h b.id
    rw [look_cons, if_pos rfl] at e1
    rw [look_cons b.id b, if_pos rfl] at e2
    have m1 := look_mem e1.symm
    have m2 := look_mem e2
    have l1 : b.id ≤ a.id := by
      rcases List.mem_cons.1 m1.1 with e | e
      · rw [e]; exact Int.le_refl _
      · exact Int.le_of_lt (b1 a e)
    have l2 : a.id ≤ b.id := by
      rcases List.mem_cons.1 m2.1 with e | e
      · rw [e]; exact Int.le_refl _
      · exact Int.le_of_lt (a1 b e)
    have ei : a.id = b.id := by omega
    have eab : a = b := by
      rw [look_cons, if_pos ei.symm] at e1
      injection e1
    subst eab
    congr 1
    refine rise_ext a2 b2 fun k => ?_
    have e3 := h k
    rw [look_cons, look_cons] at e3
    by_cases hk : a.id = k
    · rw [look_none (fun x hx => by have := a1 x hx; omega), look_none (fun x hx => by have := b1 x hx; omega)]
    · rw [if_neg hk, if_neg hk] at e3
      exact e3
def keepAt (X : List Rc) (t : Nat) : Bool := match X[t]? with
  | none => false
  | some x => match X[t - 1]? with
    | none => true
    | some y => decide (t = 0) || !(x.id == y.id)
def compT (X : List Rc) : Nat → List Rc
  | 0 => []
  | t + 1 => compT X t ++ (if keepAt X t then (X[t]?).toList else [])
theorem keep_at {X : List Rc} {t : Nat} {x y : Rc} (hx : X[t + 1]? = some x) (hy : X[t]? = some y) : keepAt X (t + 1) = !(x.id == y.id) := by
  unfold keepAt
  rw [hx, Nat.add_sub_cancel, hy]
  simp
theorem keep_zero {X : List Rc} {x : Rc} (hx : X[0]? = some x) : keepAt X 0 = true := by
  unfold keepAt
  rw [hx]
  simp
theorem comp_len (X : List Rc) : ∀ t, t ≤ X.length → (compT X t).length ≤ t
  | 0, _ => Nat.le_refl _
  | t + 1, h => by
    have := comp_len X t (by omega)
    unfold compT
    rw [List.length_append]
    by_cases c : keepAt X t = true
    · rw [if_pos c, List.getElem?_eq_getElem (by omega)]; simp; omega
    · rw [if_neg c]; simp; omega
theorem comp_ok {X : List Rc} (hX : Asc Rc.id X) : ∀ t, t ≤ X.length → Rise (compT X t) ∧ (∀ x ∈ compT X t, x ∈ X.take t) ∧ ∀ k, look k (compT X t) = look k (X.take t)
  | 0, _ => ⟨List.Pairwise.nil, (by intro x hx; cases hx), (by intro k; simp [compT])⟩
  | t + 1, h => by
    obtain ⟨r, m, l⟩ := comp_ok hX t (by omega)
    have hx : X[t]? = some X[t] := List.getElem?_eq_getElem (by omega)
    have et : X.take (t + 1) = X.take t ++ [X[t]] := by rw [List.take_add_one, hx]; rfl
    unfold compT
    by_cases c : keepAt X t = true
    · rw [if_pos c, hx, et, Option.toList_some]
      have lt : ∀ x ∈ X.take t, x.id < (X[t]).id := fun x hm => by
        obtain ⟨i, hi⟩ := List.mem_iff_getElem?.1 hm
        have hit : i < t := by
          have := (List.getElem?_eq_some_iff.1 hi).1
          rw [List.length_take] at this; omega
        rw [List.getElem?_take, if_pos hit] at hi
        obtain ⟨s, rfl⟩ : ∃ s, t = s + 1 := ⟨t - 1, by omega⟩
        have hy : X[s]? = some X[s] := List.getElem?_eq_getElem (by omega)
        have e := keep_at hx hy
        rw [c] at e
        have ne : X[s + 1].id ≠ X[s].id := by simpa using e
        have l1 := asc_at hX (show i ≤ s by omega) hi hy
        have l2 := asc_at hX (Nat.le_succ s) hy hx
        omega
      refine ⟨List.pairwise_append.2 ⟨r, List.pairwise_singleton _ _, fun a ha b hb => ?_⟩, fun x hx' => ?_, fun k => ?_⟩
      · rw [List.mem_singleton.1 hb]; exact lt a (m a ha)
      · rcases List.mem_append.1 hx' with q | q
        · exact List.mem_append.2 (Or.inl (m x q))
        · exact List.mem_append.2 (Or.inr q)
      · rw [look_app, look_app, l k]
    · rw [if_neg c, List.append_nil]
      refine ⟨r, fun x hx' => by rw [et]; exact List.mem_append.2 (Or.inl (m x hx')), fun k => ?_⟩
      rw [et, look_app, l k]
      by_cases hk : (X[t]).id = k
      · have : ∃ y, look k (X.take t) = some y := by
          rcases Nat.eq_zero_or_pos t with rfl | ht
          · exact absurd (keep_zero hx) c
          · obtain ⟨s, rfl⟩ : ∃ s, t = s + 1 := ⟨t - 1, by omega⟩
            have hy : X[s]? = some X[s] := List.getElem?_eq_getElem (by omega)
            have e := keep_at hx hy
            have e2 : keepAt X (s + 1) = false := by simpa using c
            rw [e2] at e
            have eq : X[s + 1].id = X[s].id := by simpa using e.symm
            refine look_some (x := X[s]) ?_ (by rw [← eq]; exact hk)
            refine List.mem_iff_getElem?.2 ⟨s, ?_⟩
            rw [List.getElem?_take, if_pos (by omega)]
            exact hy
        obtain ⟨y, hy⟩ := this
        rw [hy]; rfl
      · have : look k [X[t]] = none := look_none (fun x hx' => by rw [List.mem_singleton.1 hx']; exact hk)
        rw [this]; simp
theorem zRc_info : (Tryz.prog.info? 92).map (fun i => (i.zero, i.size, i.bytes)) = some (some (.agg (cRc zRc).toArray), 12, 96) := by kernel_rfl
theorem zRf_info : (Tryz.prog.info? 128).map (fun i => (i.zero, i.size, i.bytes)) = some (some (.agg (cRc zRc).toArray), 12, 96) := by kernel_rfl
section
variable {α : Type} {k : Nat} {c : α → List Value} {w w' : World}
theorem rowx_flat (hc : ∀ x, (c x).length = k) {b : Nat} : ∀ (Y : List α) (off : Nat), (∀ i x, Y[i]? = some x → w.rangeAt b (off + i * k) (c x)) → w.rangeAt b off (Y.flatMap c)
  | [], _, _ => fun j v hv => by simp at hv
  | y :: Y, off, h => fun j v hv => by
    rw [List.flatMap_cons] at hv
    by_cases hj : j < k
    · rw [List.getElem?_append_left (by rw [hc]; exact hj)] at hv
      have := h 0 y rfl j v hv
      simpa using this
    · rw [List.getElem?_append_right (by rw [hc]; omega), hc] at hv
      have ih := rowx_flat hc Y (off + k) (fun i x hi => by
        have := h (i + 1) x (by simpa using hi)
        rw [Nat.add_mul, Nat.one_mul] at this
        rw [show off + k + i * k = off + (i * k + k) by omega]
        exact this) (j - k) v hv
      rw [show off + k + (j - k) = off + j by omega] at ih
      exact ih
theorem run_append_zero {t ty e : TypeId} {i : TypeInfo} {a b : Option Addr} {n cn cm : Nat} (ht : Tryz.prog.underlying t = some (.slice e)) (hi : Tryz.prog.info? e = some i) (hn : n ≤ cn) :
    (Builtin.append_ #[t, t] ty #[.slice a n cn, .slice b 0 cm]).run Tryz.prog w = .ok (.slice a n cn) w := by
  cases a <;> cases b <;> simp [Builtin.append_, run_underlying ht, sizeOf, typeInfo, hi, Builtin.lenOf, Builtin.firstCells, loadCells, loadCellsFrom, storeCells, hn]
theorem wpList_appendR {e : TypeId} {ops : Array Oper} {rest : List Oper} {op : Oper} {a : Go.Act} {Q : Exit → Go.Act → World → Prop} (hgd : op.guard = none) (ts tb : Operand) (t : TypeId) (by_ : Nat) (z : Value)
    (ho : op.op = .call { callee := .builtin .append, args := #[ts, tb], argTypes := #[t, t] }) (hu : Tryz.prog.underlying t = some (.slice e))
    (hinfo : (Tryz.prog.info? e).map (fun i => (i.zero, i.size, i.bytes)) = some (some z, k, by_)) (hzs : z.cells.size = k) (hk : 0 < k) (hby : by_ ≤ 1000) (hc : ∀ x, (c x).length = k) (hone : ∀ x, ∀ u ∈ c x, u.oneCell' = true)
    {base : Nat} {v : Value} {X Y : List α} (hs : a.eval ts = v) (hown : OwnX k c e w base v X) (av : Option Addr) (n cap : Nat) (hx : a.eval tb = .slice av n cap) (row : RowX k c w av n Y) (hX : X.length + n ≤ 4000000) (hbs : base ≤ w.heap.size)
    (h : ∀ v' w', OwnX k c e w' base v' (X ++ Y) → w.grownBy w' v.ownBlock → (v'.ownBlock = v.ownBlock ∨ v'.ownBlock = some w.heap.size) → wpList Tryz.prog ops Q rest (a.put op.dst v') w') : wpList Tryz.prog ops Q (op :: rest) a w := by
  obtain ⟨i0, hi0, hz0, hz1, hz2⟩ := info_parts hinfo
  rcases Nat.eq_zero_or_pos n with rfl | hn
  · have hY : Y = [] := List.eq_nil_of_length_eq_zero row.1
    subst hY
    obtain ⟨a0, c0, rfl, hc0, _, _⟩ := hown.row hc
    have h2 := h (.slice a0 X.length c0) w (by rw [List.append_nil]; exact hown) ⟨rfl, rfl, rfl, Nat.le_refl _, fun _ _ _ => rfl⟩ (Or.inl rfl)
    refine wpList_plain hgd fun K hK => ?_
    have h3 := hK _ _ h2
    have hr := run_append_zero (ty := op.type) (a := a0) (b := av) (cm := cap) (w := w) hu hi0 hc0
    unfold Oper.wp execOp
    simp only [ho, resolve, invoke, builtin, Sem.run_bind, Sem.run_pure, Result.andThen_ok, List.map_toArray, List.map_cons, List.map_nil, hs, hx, hr]
    exact h3
  · rcases row.2.2 with h0 | ⟨b, off, rfl, hb, hr⟩
    · omega
    · have hbytes : (X.length + n) * by_ ≤ 140737488355328 := by
        have : (X.length + n) * by_ ≤ 4000000 * 1000 := Nat.mul_le_mul hX hby
        omega
      refine wpList_append_own_at w hgd ts tb t ho base e i0 z k by_ hu hi0 hz0 hz1 hz2 hzs hk v X.length (X.flatMap c) hs hown ⟨b, off, none⟩ n cap (Y.flatMap c) hx (by rw [flatx_len hc, row.1]) (fun j u hj => by
        have := rowx_flat hc Y off hr j u hj
        rw [Addr.add_mid]
        exact this) (fun u hu' => by
        obtain ⟨x, _, hx'⟩ := List.mem_flatMap.1 hu'
        exact hone x u hx') (by unfold maxLen; omega) hbytes hbs ?_
      intro v' w' h1 h2 _ h4
      refine h v' w' ?_ h2 h4
      unfold OwnX
      rw [List.length_append, List.flatMap_append, row.1]
      exact h1
end
theorem run_clear_rows (w : World) (ty : TypeId) (b o n c : Nat) (ht : ∀ j, j < n * 12 → (w.cell? ⟨b, o + j, none⟩).isSome = true) (hf : ∀ j, j < n * 12 → w.frozen? ⟨b, o + j, none⟩ = false) (hn : 0 < n) :
    ∃ zs : List Value, zs.length = n * 12 ∧ (Builtin.clear_ #[85] ty #[.slice (some ⟨b, o, none⟩) n c]).run Tryz.prog w = .ok (.tuple #[]) (w.setCells b o zs) := by
  have hv : ∀ w, (zeroValue 92).run Tryz.prog w = .ok (.agg (cRc zRc).toArray) w := fun w => by kernel_rfl
  have hz : (Builtin.zeroCells (cRc zRc).toArray n).toList.length = n * 12 := by rw [Array.length_toList, size_zeroCells]; rfl
  have hst := run_storeCells_cells (P := Tryz.prog) b o (Builtin.zeroCells (cRc zRc).toArray n).toList 0 w (by rw [hz]; simpa using ht) (by rw [hz]; simpa using hf) (by
    intro v hv'
    simp only [Builtin.zeroCells, Array.toList_map, List.mem_map] at hv'
    obtain ⟨i, _, rfl⟩ := hv'
    refine cRc_one zRc _ ?_
    have hlt : i % (cRc zRc).toArray.size < (cRc zRc).toArray.size := Nat.mod_lt _ (by decide)
    rw [getElem!_pos (cRc zRc).toArray _ hlt, ← Array.getElem_toList]
    exact List.getElem_mem _)
  simp only [Nat.add_zero] at hst
  obtain ⟨m, rfl⟩ : ∃ m, n = m + 1 := ⟨n - 1, by omega⟩
  refine ⟨_, hz, ?_⟩
  simp [Builtin.clear_, run_underlying Tryz.underlying85, hv, Value.cells, hst]
end Go.Proofs.YthhfcedhbfandaaGreat
