/-
  The landed flow: tie, move.
-/
import Derived.Test.YtdndafdninnjfaaGreatMLld
namespace Go.Proofs.YtdndafdninnjfaaGreat
open Go.RowKit

abbrev LK := Int × Int
def cLk (x : LK) : List Value := [.int .i64 x.1, .int .i64 x.2]
/-- another forest -/
def wT (p : Wp) (T : FT) (Ff : Nat → Prop) : Wp := { p with T := T, Ff := Ff }
def tieG : FT → List LK → FT × Int
  | T, [] => (T, 0)
  | T, lk :: r => if lk.2 < 0 then tieG T r else if fsetE T lk.1 lk.2 = 0 then tieG (setF T lk.1 lk.2) r else (T, fsetE T lk.1 lk.2)
section
variable {w u : World} {p q : Wp}
theorem LW.free1 (k : LW u q) (hW : WF q.T) (hL : q.T.length ≤ 1000) {c : Int} (hc : Rg c) : Calls Tryz.prog 42 #[.pointer (some ⟨q.gf, 0, none⟩), .slice (some ⟨u.heap.size, 0, none⟩) 1 1] (u.alloc (.cells #[.int .i64 c] 41)) fun e w' => ∃ z, e = .returned (.int .i64 z) ∧ ∃ Ff', ChL u w' q (wT q (freeF q.T c) Ff') := by
  have hal : Below u.heap.size u (u.alloc (.cells #[.int .i64 c] 41)) := alloc_below _ _
  have hr : Row (u.alloc (.cells #[.int .i64 c] 41)) (some ⟨u.heap.size, 0, none⟩) 1 [c] := ⟨rfl, by omega, Or.inr ⟨_, _, rfl, fun j hj => by
    obtain rfl : j = 0 := by omega
    exact (Blk.new u 41 #[.int .i64 c]).cell 0⟩⟩
  have k2 := k.keep hal
  refine (lfree_any k2.fo hW hL (show 1 ≤ 1000 by omega) hr (Or.inr (fun ad e hf => ?_)) (fun z hz => by rw [List.mem_singleton.1 hz]; exact hc)).mono ?_
  · have := k.fo.inb ad.block hf
    injection e with e
    rw [← e] at this
    exact absurd this (Nat.lt_irrefl _)
  · rintro e w' ⟨rfl, hch⟩
    refine ⟨_, rfl, ?_⟩
    obtain ⟨Ff', hc2⟩ := k2.setF hch
    exact ⟨Ff', (ChL.still k hal).join hc2⟩
theorem LW.set1 (k : LW u q) (hW : WF q.T) (hL : q.T.length ≤ 1000) {c d : Int} (hc : Rg c) (hd : Rg d) : Calls Tryz.prog 77 #[.pointer (some ⟨q.gf, 0, none⟩), .int .i64 c, .int .i64 d] u fun e w' => e = .returned (.int .i64 (fsetE q.T c d)) ∧ ∃ Ff', ChL u w' q (wT q (setS9 q.T c d) Ff') := by
  refine (lset_any k.fo hW hL hc hd).mono ?_
  rintro e w' ⟨rfl, hch⟩
  exact ⟨rfl, k.setF hch⟩
theorem tie_step {X : List LK} {j : Nat} {lk : LK} (h : X[j]? = some lk) (T : FT) : tieG T (X.drop j) = if lk.2 < 0 then tieG T (X.drop (j + 1)) else if fsetE T lk.1 lk.2 = 0 then tieG (setF T lk.1 lk.2) (X.drop (j + 1)) else (T, fsetE T lk.1 lk.2) := by
  obtain ⟨hk, e⟩ := List.getElem?_eq_some_iff.1 h
  rw [List.drop_eq_getElem_cons hk, e]
  rfl
theorem tie_done {X : List LK} {j : Nat} (h : X.length ≤ j) (T : FT) : tieG T (X.drop j) = (T, 0) := by
  rw [List.drop_eq_nil_of_le h]
  rfl
theorem setF_len (T : FT) (c d : Int) : (setF T c d).length ≤ T.length + 1 := by
  unfold setF
  have := free_len T c
  rw [List.length_append, List.length_singleton]
  omega
theorem frees_take {X : List LK} {j : Nat} {lk : LK} (h : X[j]? = some lk) (T : FT) : freeS T ((X.take (j + 1)).map Prod.fst) = freeF (freeS T ((X.take j).map Prod.fst)) lk.1 := by
  unfold freeS
  rw [List.take_add_one, h, List.map_append, List.foldl_append]
  rfl
set_option maxHeartbeats 4000000 in
set_option maxRecDepth 100000 in
theorem lftie_any (h : LW w p) (hW : WF p.T) {a : Option Addr} {n cap : Nat} {X : List LK} (row : RowX 2 cLk w a n X) (ha : AwX (footL p) a n) (hX : ∀ k ∈ X, Rg k.1 ∧ Rg k.2) (hlen : p.T.length + n ≤ 1000) :
    Calls Tryz.prog 61 #[.pointer (some ⟨p.g, 0, none⟩), .slice a n cap] w fun e w' => e = .returned (.int .i64 (tieG (freeS p.T (X.map Prod.fst)) X).2) ∧ ∃ Ff, ChL w w' p (wT p (tieG (freeS p.T (X.map Prod.fst)) X).1 Ff) := by
  have hbig := row.2.1
  have HLen := Lib.hid row.1
  have HRow : Hid (∀ u q, ChL w u p q → RowX 2 cLk u a n X) := Lib.hid (fun u q k => rowx_frame row ha k.2.1)
  have HSt : Hid (ChL w w p (wT p (freeS p.T ((X.take 0).map Prod.fst)) p.Ff)) := Lib.hid (ChL.still h (Below.refl _ _))
  have HF : Hid (∀ u W g6 j lk Ff c d, X[j]? = some lk → lk = (c, d) → ChL w u p (wT p (freeS p.T ((X.take j).map Prod.fst)) Ff) → Below u.heap.size u W → Blk W g6 121 #[.int .i64 c, .int .i64 d] → u.heap.size ≤ g6 → W.cell? ⟨p.g, 0, none⟩ = some (.pointer (some ⟨p.gf, 0, none⟩)) ∧ p.g < W.heap.size ∧ ∀ V, Below W.heap.size W V → Calls Tryz.prog 42 #[.pointer (some ⟨p.gf, 0, none⟩), .slice (some ⟨V.heap.size, 0, none⟩) 1 1] (V.alloc (.cells #[.int .i64 c] 41)) fun e w2 => ∃ z, e = .returned (.int .i64 z) ∧ (∃ Ff', ChL w w2 p (wT p (freeS p.T ((X.take (j + 1)).map Prod.fst)) Ff')) ∧ w2.cell? ⟨p.g, 0, none⟩ = some (.pointer (some ⟨p.gf, 0, none⟩)) ∧ w2.cell? ⟨g6, 0, none⟩ = some (.int .i64 c)) := Lib.hid (fun u W g6 j lk Ff c d hj e k hb hbk hg => by
    subst e
    have k1 := k.1.keep hb
    refine ⟨k1.cells.1, k1.cells.2.2.2.2.2, fun V hV => ?_⟩
    have k2 := k1.keep hV
    refine (k2.free1 (WF.frees _ hW) (by show (freeS p.T _).length ≤ 1000; have := frees_len ((X.take j).map Prod.fst) p.T; omega) (hX _ (List.mem_of_getElem? hj)).1).mono ?_
    rintro e w2 ⟨z, rfl, Ff', hc2⟩
    have hc3 : ChL w w2 p (wT (wT p (freeS p.T ((X.take j).map Prod.fst)) Ff) (freeF (freeS p.T ((X.take j).map Prod.fst)) c) Ff') := (k.join (ChL.still k.1 (bthen hb hV))).join hc2
    refine ⟨z, rfl, ⟨Ff', by rw [frees_take hj]; exact hc3⟩, hc3.1.cells.1, ?_⟩
    have hbV := hbk.keep hV
    have hbf := hbV.same (w' := w2) (hc2.2.1.2.2.2.2 g6 hbV.lt (fun c => by have := k.1.inb g6 c; omega))
    exact hbf.cell 0)
  have HS : Hid (∀ u W g8 j lk T Ff c d, X[j]? = some lk → lk = (c, d) → WF T → T.length + (n - j) ≤ 1000 → ChL w u p (wT p T Ff) → Below u.heap.size u W → Blk W g8 121 #[.int .i64 c, .int .i64 d] → u.heap.size ≤ g8 → W.cell? ⟨p.g, 0, none⟩ = some (.pointer (some ⟨p.gf, 0, none⟩)) ∧ p.g < W.heap.size ∧ ChL w W p (wT p T Ff) ∧ ∀ V, Below W.heap.size W V → Calls Tryz.prog 77 #[.pointer (some ⟨p.gf, 0, none⟩), .int .i64 c, .int .i64 d] V fun e w2 => e = .returned (.int .i64 (fsetE T c d)) ∧ (∃ Ff', ChL w w2 p (wT p (setS9 T c d) Ff')) ∧ w2.cell? ⟨p.g, 0, none⟩ = some (.pointer (some ⟨p.gf, 0, none⟩)) ∧ w2.cell? ⟨g8, 0, none⟩ = some (.int .i64 c) ∧ w2.cell? ⟨g8, 1, none⟩ = some (.int .i64 d)) := Lib.hid (fun u W g6 j lk T Ff c d hj e hWT hTl k hb hbk hg => by
    subst e
    have k1 := k.1.keep hb
    refine ⟨k1.cells.1, k1.cells.2.2.2.2.2, k.join (ChL.still k.1 hb), fun V hV => ?_⟩
    have k2 := k1.keep hV
    have hr := hX _ (List.mem_of_getElem? hj)
    refine (k2.set1 hWT (by show T.length ≤ 1000; omega) hr.1 hr.2).mono ?_
    rintro e w2 ⟨rfl, Ff', hc2⟩
    have hc3 : ChL w w2 p (wT (wT p T Ff) (setS9 T c d) Ff') := (k.join (ChL.still k.1 (bthen hb hV))).join hc2
    have hbV := hbk.keep hV
    have hbf := hbV.same (w' := w2) (hc2.2.1.2.2.2.2 g6 hbV.lt (fun c => by have := k.1.inb g6 c; omega))
    exact ⟨rfl, ⟨Ff', hc3⟩, hc3.1.cells.1, hbf.cell 0, hbf.cell 1⟩)
  have HW0 : Hid (WF (freeS p.T (X.map Prod.fst)) ∧ (freeS p.T (X.map Prod.fst)).length + n ≤ 1000) := Lib.hid ⟨WF.frees _ hW, by have := frees_len (X.map Prod.fst) p.T; omega⟩
  obtain ⟨g, hge⟩ : ∃ g, g = p.g := ⟨_, rfl⟩
  obtain ⟨gf, hfe⟩ : ∃ gf, gf = p.gf := ⟨_, rfl⟩
  rw [← hge] at HF HS ⊢
  rw [← hfe] at HF HS
  obtain ⟨R, hR⟩ : ∃ R, R = tieG (freeS p.T (X.map Prod.fst)) X := ⟨_, rfl⟩
  have HR := Lib.hid hR
  rw [← hR]
  clear h hW row ha hX hlen hge hfe hR
  go_enter Tryz.func61, Tryz.ntmps61
  go_wp2
  go_loopw [6, 12] (fun _ i wr => ∃ (j : Nat) (Ff : Nat → Prop), j ≤ n ∧ i = .int .i64 j ∧ ChL w wr p (wT p (freeS p.T ((X.take j).map Prod.fst)) Ff)) (fun _ i _ => n - (ivl i).toNat)
  case atStart => exact ⟨0, p.Ff, by omega, rfl, HSt.out⟩
  case round =>
    clear HSt
    obtain ⟨j, Ff, hj, rfl, hch⟩ := hrel
    have hrw := HRow.out wr _ hch
    have HCh := Lib.hid hch
    clear hch
    by_cases hlt : j < n
    · obtain ⟨b, off, lk, rfl, hbl, hx, hr⟩ := hrw.at_ hlt
      obtain ⟨c, hc⟩ : ∃ c, c = lk.1 := ⟨_, rfl⟩
      obtain ⟨d, hd⟩ : ∃ d, d = lk.2 := ⟨_, rfl⟩
      have cx : wr.cell? ⟨b, off + j * 2, none⟩ = some (.int .i64 c) := by rw [hc]; exact hr 0 _ rfl
      have cy : wr.cell? ⟨b, off + j * 2 + 1, none⟩ = some (.int .i64 d) := by rw [hd]; exact hr 1 _ rfl
      have hK := Blk.new wr 121 #[.int .i64 c, .int .i64 d]
      have HK : Hid (Blk (wr.alloc (.cells #[.int .i64 c, .int .i64 d] 121)) wr.heap.size 121 #[.int .i64 c, .int .i64 d] ∧ Below wr.heap.size wr (wr.alloc (.cells #[.int .i64 c, .int .i64 d] 121))) := Lib.hid ⟨hK, alloc_below _ _⟩
      have HFr := Lib.hid (fun W g6 => HF.out wr W g6 j lk Ff c d hx (by rw [hc, hd]) HCh.out)
      have j0 : (0 : Int) ≤ (j : Int) := by omega
      have j1 : (j : Int) < (n : Int) := by omega
      clear hrw hx hr hc hd hK
      go_upto_region 4 with fail
      refine fin (fun W => Blk W wr.heap.size 121 #[.int .i64 c, .int .i64 d] ∧ Below wr.heap.size wr W) HK.out ?_
      clear HK cx cy
      obtain ⟨g6, hg6⟩ : ∃ g6, g6 = wr.heap.size := ⟨_, rfl⟩
      rw [← hg6]
      rintro W ⟨k6, hb⟩
      obtain ⟨c0, hg, hfr⟩ := HFr.out W g6 (by rw [hg6] at hb; exact hb) k6 (by omega)
      have HFr2 := Lib.hid hfr
      have c6 : W.cell? ⟨g6, 0, none⟩ = some (.int .i64 c) := k6.cell 0
      have z6 := k6.lt
      clear hfr HFr k6 hb hg6 HCh
      go_region_held3 (fun w' => w'.cell? ⟨g, 0, none⟩ = some (.pointer (some ⟨gf, 0, none⟩)) ∧ w'.cell? ⟨g6, 0, none⟩ = some (.int .i64 c)) (first | exact ⟨c0, c6⟩ | exact ⟨c02, c62⟩ | exact ⟨cell_keep c0 (bthen (below_drew9f W) (alloc_below _ _)), cell_keep c6 (bthen (below_drew9f W) (alloc_below _ _))⟩)
        (first | (go_at_call 42; refine (HFr2.out _ (bdrewn (Below.refl _ _))).mono ?_; rintro e w2 ⟨z, rfl, hch, c02, c62⟩; have HC2 := Lib.hid hch; clear hch))
      obtain ⟨Ff', hch2⟩ := HC2.out
      have HC3 := Lib.hid hch2
      clear hch2 HC2
      go_wp2
      go_roundw
      case rel => exact ⟨j + 1, Ff', by omega, by go_num, HC3.out⟩
      case measure => simp [ivl] <;> omega
    · obtain rfl : j = n := by omega
      have e0 : X.take j = X := List.take_of_length_le (by rw [HLen.out]; exact Nat.le_refl _)
      rw [e0] at HCh
      have j1 : ¬ (j : Int) < (j : Int) := by omega
      clear e0 hrw hlt HF
      go_wp2
      go_loopw [8, 9, 27] (fun _ _ i wx => ∃ (k : Nat) (T : FT) (F2 : Nat → Prop), k ≤ j ∧ i = .int .i64 k ∧ WF T ∧ T.length + (j - k) ≤ 1000 ∧ R = tieG T (X.drop k) ∧ ChL w wx p (wT p T F2)) (fun _ _ i _ => j - (ivl i).toNat)
      case atStart => exact ⟨0, _, Ff, by omega, rfl, HW0.out.1, by have := HW0.out.2; omega, HR.out, HCh.out⟩
      case round =>
        clear HCh
        obtain ⟨k, T, F2, hk, rfl, hWT, hTl, hRe, hch⟩ := hrel
        have hrw := HRow.out wr _ hch
        have HCh := Lib.hid hch
        have HWT := Lib.hid hWT
        have HTl := Lib.hid hTl
        have HRe := Lib.hid hRe
        clear hch hWT hTl hRe
        by_cases hlt : k < j
        · obtain ⟨b, off, lk, rfl, hbl, hx, hr⟩ := hrw.at_ hlt
          have HStp := Lib.hid (tie_step hx T)
          obtain ⟨c, hc⟩ : ∃ c, c = lk.1 := ⟨_, rfl⟩
          obtain ⟨d, hd⟩ : ∃ d, d = lk.2 := ⟨_, rfl⟩
          have cx : wr.cell? ⟨b, off + k * 2, none⟩ = some (.int .i64 c) := by rw [hc]; exact hr 0 _ rfl
          have cy : wr.cell? ⟨b, off + k * 2 + 1, none⟩ = some (.int .i64 d) := by rw [hd]; exact hr 1 _ rfl
          rw [← hc, ← hd] at HStp
          have hK := Blk.new wr 121 #[.int .i64 c, .int .i64 d]
          have HK : Hid (Blk (wr.alloc (.cells #[.int .i64 c, .int .i64 d] 121)) wr.heap.size 121 #[.int .i64 c, .int .i64 d] ∧ Below wr.heap.size wr (wr.alloc (.cells #[.int .i64 c, .int .i64 d] 121))) := Lib.hid ⟨hK, alloc_below _ _⟩
          have HSt := Lib.hid (fun W g6 => HS.out wr W g6 k lk T F2 c d hx (by rw [hc, hd]) HWT.out HTl.out HCh.out)
          have k0 : (0 : Int) ≤ (k : Int) := by omega
          have k1 : (k : Int) < (j : Int) := by omega
          clear hrw hx hr hc hd hK
          go_upto_region 9 with fail
          refine fin (fun W => Blk W wr.heap.size 121 #[.int .i64 c, .int .i64 d] ∧ Below wr.heap.size wr W) HK.out ?_
          clear HK cx cy
          obtain ⟨g6, hg6⟩ : ∃ g6, g6 = wr.heap.size := ⟨_, rfl⟩
          rw [← hg6]
          rintro W ⟨k6, hb⟩
          obtain ⟨c0, hg, hchW, hset⟩ := HSt.out W g6 (by rw [hg6] at hb; exact hb) k6 (by omega)
          have HSet := Lib.hid hset
          have HChW := Lib.hid hchW
          have c6 : W.cell? ⟨g6, 0, none⟩ = some (.int .i64 c) := k6.cell 0
          have c7 : W.cell? ⟨g6, 1, none⟩ = some (.int .i64 d) := k6.cell 1
          have z6 := k6.lt
          clear hset hchW HSt k6 hb hg6 HCh
          by_cases hd0 : d < 0
          · have HN : Hid (R = tieG T (X.drop (k + 1))) := Lib.hid (by rw [HRe.out, HStp.out, if_pos hd0])
            clear HSet
            go_wp2
            go_roundw
            case rel => exact ⟨k + 1, T, F2, by omega, by go_num, HWT.out, by have := HTl.out; omega, HN.out, HChW.out⟩
            case measure => simp [ivl] <;> omega
          · have hd1 : 0 ≤ d := by omega
            have HSd : Hid (setS9 T c d = if fsetE T c d = 0 then setF T c d else T) := Lib.hid rfl
            have HWd : Hid (WF (setS9 T c d)) := Lib.hid (HWT.out.set9 c d)
            obtain ⟨E, hE⟩ : ∃ E, E = fsetE T c d := ⟨_, rfl⟩
            obtain ⟨T2, hT2⟩ : ∃ T2, T2 = setS9 T c d := ⟨_, rfl⟩
            rw [← hE] at HSet HStp HSd
            rw [← hT2] at HSet HSd HWd
            have HStq : Hid (R = if E = 0 then tieG (setF T c d) (X.drop (k + 1)) else (T, E)) := Lib.hid (by rw [HRe.out, HStp.out, if_neg hd0])
            clear hE hT2 HStp
            go_upto_region 10 with fail
            go_region_held3 (fun w' => w'.cell? ⟨g, 0, none⟩ = some (.pointer (some ⟨gf, 0, none⟩)) ∧ w'.cell? ⟨g6, 0, none⟩ = some (.int .i64 c) ∧ w'.cell? ⟨g6, 1, none⟩ = some (.int .i64 d)) (first | exact ⟨c0, c6, c7⟩ | exact ⟨c02, c62, c72⟩)
              (first | (go_at_call 77; refine (HSet.out _ (bdrewn (Below.refl _ _))).mono ?_; rintro e w2 ⟨rfl, hch, c02, c62, c72⟩; have HC2 := Lib.hid hch; clear hch))
            obtain ⟨Ff', hch2⟩ := HC2.out
            have HC3 := Lib.hid hch2
            clear hch2 HC2
            by_cases hE0 : E = 0
            · subst hE0
              have HT2e : Hid (T2 = setF T c d) := Lib.hid (by rw [HSd.out, if_pos rfl])
              have HN : Hid (R = tieG T2 (X.drop (k + 1))) := Lib.hid (by rw [HStq.out, if_pos rfl, HT2e.out])
              have HTl2 : Hid (T2.length + (j - (k + 1)) ≤ 1000) := Lib.hid (by rw [HT2e.out]; have := HTl.out; have := setF_len T c d; omega)
              go_wp2
              go_roundw
              case rel => exact ⟨k + 1, T2, Ff', by omega, by go_num, HWd.out, HTl2.out, HN.out, HC3.out⟩
              case measure => simp [ivl] <;> omega
            · have HN : Hid (R = (T, E)) := Lib.hid (by rw [HStq.out, if_neg hE0])
              have HT2e : Hid (T2 = T) := Lib.hid (by rw [HSd.out, if_neg hE0])
              go_wp2
              go_ret
              exact ⟨by rw [HN.out] <;> rfl, Ff', by have := HC3.out; rw [HT2e.out] at this; rw [HN.out]; exact this⟩
        · obtain rfl : k = j := by omega
          have HN : Hid (R = (T, 0)) := Lib.hid (by rw [HRe.out, tie_done (by rw [HLen.out]; exact Nat.le_refl _)])
          have k1 : ¬ (k : Int) < (k : Int) := by omega
          clear hrw hlt
          go_wp2
          go_ret
          exact ⟨by rw [HN.out] <;> rfl, F2, by rw [HN.out]; exact HCh.out⟩
end
end Go.Proofs.YtdndafdninnjfaaGreat
