/-
  RecordLists answers true for all records, others and names: the least of any records, and any records whose names rise, with others, and without any names, are as the document says; the list stays. No conditions.
-/
import Derived.Test.YtffbehcbokmpkaaML25
namespace Go.Proofs.Ytffbehcbokmpkaa.recordLists
open Go.ChangeShapes Go.WideShapes Go.ChangeAt Go.RowKit Go.Deep
set_option linter.unusedVariables false
theorem own : ownKnob Try.prog.godebug = none := by kernel_rfl
theorem laidOut : laidOutB Try.prog = true := by kernel_rfl
/-- the others inserted so far -/
structure WantAt (L X : List Rc) (i : Nat) (Wl : List Rc) : Prop where
  ri : Rise Wl
  lk : ∀ k, look k Wl = (look k (X.take i).reverse).or (look k L)
  ln : Wl.length ≤ L.length + i
theorem wantAt_next {L X Wl V : List Rc} {i : Nat} {x : Rc} (h : WantAt L X i Wl) (hx : X[i]? = some x) (hr : Rise V) (hk : ∀ k, look k V = (look k [x]).or (look k Wl)) (hl : V.length ≤ Wl.length + 1) : WantAt L X (i + 1) V := by
  refine ⟨hr, fun k => ?_, by have := h.ln; omega⟩
  rw [hk k, h.lk k, List.take_add_one, hx, List.reverse_append, ← Option.or_assoc]
  show _ = (look k ([x] ++ (X.take i).reverse)).or _
  rw [look_app]
theorem wantAt_done {L X Wl R : List Rc} {n : Nat} (hn : X.length ≤ n) (h : WantAt L X n Wl) (hr : Rise R) (hk : ∀ k, look k R = (look k X.reverse).or (look k L)) : R = Wl :=
  rise_ext hr h.ri fun k => by rw [hk k, h.lk k, List.take_of_length_le hn]
set_option maxHeartbeats 32000000 in
set_option maxRecDepth 100000 in
theorem walk (aL : Option Addr) (nL cL : Nat) (L : List Rc) (aX : Option Addr) (nX cX : Nat) (X : List Rc) (aI : Option Addr) (nI cI : Nat) (zs : List Int) (w : World) (rL : RcRow w aL nL L) (rX : RcRow w aX nX X) (rI : Row w aI nI zs) (hcL : nL ≤ cL) (hmL : cL ≤ maxLen) (gL : ∀ r ∈ L, Rg r.id) (gX : ∀ r ∈ X, Rg r.id) (gI' : Rgs zs) :
    Calls Try.prog 4 #[.slice aL nL cL, .slice aX nX cX, .slice aI nI cI] w fun e w' => e = .returned (.bool true) ∧ Below w.heap.size w w' := by
  have hbig := rL.2.1
  have hbigX := rX.2.1
  have hbigI := rI.2.1
  have HL := Lib.hid rL
  have HX := Lib.hid rX
  have HI := Lib.hid rI
  have HG := Lib.hid (And.intro gL (And.intro gX gI'))
  have hCap := Lib.hid (And.intro hcL hmL)
  clear rL rX rI gL gX gI' hcL hmL
  go_enter Try.func4, Try.ntmps4
  by_cases h1 : 80 < nL
  · have h1' : (80 : Int) < (nL : Int) := by omega
    go_wp2_with fail
    refine (alive12_any _).mono ?_
    rintro e w3 ⟨rfl, hb⟩
    have HB3 := Lib.hid (id hb)
    clear hb
    go_wp2
    go_ret
    exact ⟨rfl, HB3.out⟩
  · have h1' : ¬ (80 : Int) < (nL : Int) := by omega
    by_cases h2 : 80 < nX
    · have h2' : (80 : Int) < (nX : Int) := by omega
      go_wp2_with fail
      refine (alive12_any _).mono ?_
      rintro e w3 ⟨rfl, hb⟩
      have HB3 := Lib.hid (id hb)
      clear hb
      go_wp2
      go_ret
      exact ⟨rfl, HB3.out⟩
    · have h2' : ¬ (80 : Int) < (nX : Int) := by omega
      by_cases h3 : 80 < nI
      · have h3' : (80 : Int) < (nI : Int) := by omega
        go_wp2_with fail
        refine (alive12_any _).mono ?_
        rintro e w3 ⟨rfl, hb⟩
        have HB3 := Lib.hid (id hb)
        clear hb
        go_wp2
        go_ret
        exact ⟨rfl, HB3.out⟩
      · have h3' : ¬ (80 : Int) < (nI : Int) := by omega
        obtain ⟨r, hr⟩ : ∃ r, r = (if nX = 0 then zRc else minK X (nX - 1)) := ⟨_, rfl⟩
        obtain ⟨is, his⟩ : ∃ is, is = decide (0 < nX) := ⟨_, rfl⟩
        have HLe : Hid (∀ W, Below w.heap.size w W → Calls Try.prog 10 #[.slice aX nX cX] W fun e w' => e = .returned (.tuple #[.agg (cRc r).toArray, .bool is]) ∧ Below W.heap.size W w') := Lib.hid (fun W hb => by
          rcases Nat.eq_zero_or_pos nX with h0 | h0
          · rw [hr, his, if_pos h0, h0]
            exact least_zero aX cX W
          · rw [hr, his, if_neg (by omega), decide_eq_true h0]
            exact least_pos aX nX cX X W (HX.out.keep hb) (by omega) h0)
        have HR0 : Hid (is = false → r = zRc ∧ nX = 0) := Lib.hid (fun h => by
          have h0 : nX = 0 := by have := of_decide_eq_false (his.symm.trans h); omega
          exact ⟨by rw [hr, if_pos h0], h0⟩)
        have HR1 : Hid (is = true → r = minK X (nX - 1) ∧ 0 < nX) := Lib.hid (fun h => by
          have h0 : 0 < nX := of_decide_eq_true (his.symm.trans h)
          exact ⟨by rw [hr, if_neg (by omega)], h0⟩)
        have hlen : decide (0 < nX) = is := his.symm
        have hlen' : decide ((0 : Int) < (nX : Int)) = is := by
          rw [his]
          by_cases q : 0 < nX
          · rw [decide_eq_true q, decide_eq_true (by omega)]
          · rw [decide_eq_false q, decide_eq_false (by omega)]
        clear hr his
        go_wp2_with fail
        refine (HLe.out w (Below.refl _ _)).mono ?_
        rintro e w1 ⟨rfl, hb⟩
        have KN := Blk.new w1 36 (cRc zRc).toArray
        have HSr := Lib.hid (rc_size r)
        have HOr := Lib.hid (And.intro (rc_all r) (cRc_len r))
        have HEqF : Hid (∀ y, r = y → ∀ w, (Op.equalIn 10000 36 (.agg (cRc r).toArray) (.agg (cRc y).toArray)).run Try.prog w = .ok true w) := Lib.hid (fun y e w => by rw [← e, eqRcF, eqRc_self])
        obtain ⟨XR, hXR⟩ : ∃ XR, XR = cRc r := ⟨_, rfl⟩
        rw [← hXR] at HSr HOr HEqF ⊢
        have HXR := Lib.hid hXR
        have HTh : Hid ((w1.alloc (.cells (cRc zRc).toArray 36)).there w1.heap.size 0 XR.toArray.size) := Lib.hid (blk_there KN (by show 0 + XR.length ≤ 12; rw [HOr.out.2]; exact Nat.le_refl 12))
        have HSr' : Hid ((Try.prog.info? 36).map (·.size) = some XR.toArray.size) := HSr
        have HW2 : Hid (Blk ((w1.alloc (.cells (cRc zRc).toArray 36)).setCells w1.heap.size 0 XR) w1.heap.size 36 XR.toArray ∧ Below w.heap.size w ((w1.alloc (.cells (cRc zRc).toArray 36)).setCells w1.heap.size 0 XR)) := Lib.hid (by
          have hbel : Below w1.heap.size w1 ((w1.alloc (.cells (cRc zRc).toArray 36)).setCells w1.heap.size 0 XR) := below_setCells _ (alloc_below _ _) (Nat.le_refl _)
          have q := blk_setCells XR (o := 0) KN (by rw [HOr.out.2]; exact Nat.le_refl 12)
          rw [splice_all (by rw [HOr.out.2]; rfl)] at q
          exact ⟨q, bthen hb hbel⟩)
        clear KN hXR hb HLe
        go_upto_region 4 with (refine wpList_store_mid rfl 36 (.tmp 7) (.tmp 35) rfl w1.heap.size 0 XR.toArray rfl rfl HTh.out HSr'.out HOr.out.1 ?_)
        refine fin (fun W => Blk W w1.heap.size 36 XR.toArray ∧ Below w.heap.size w W) HW2.out ?_
        obtain ⟨g7, hg7⟩ : ∃ g7, g7 = w1.heap.size := ⟨_, rfl⟩
        rw [← hg7]
        clear HW2 HTh hg7
        rintro W2 ⟨k7, hb⟩
        have K7 := Lib.hid k7
        have HB2 := Lib.hid hb
        clear k7 hb
        have hne : (is != is) = false := by cases is <;> rfl
        go_wp2
        go_loopw [9, 10] (fun v9 v10 wr => ∃ i : Nat, v10 = .int .i64 i ∧ i ≤ nX ∧ (i = 0 ∧ v9 = .int .i64 (-1) ∨ ∃ (f i' : Nat), i = i' + 1 ∧ f < i ∧ v9 = .int .i64 f ∧ X[f]? = some (minK X i')) ∧ Blk wr g7 36 XR.toArray ∧ Below w.heap.size w wr) (fun _ v10 _ => nX - (ivl v10).toNat)
        case atStart => exact ⟨0, rfl, by omega, Or.inl ⟨rfl, rfl⟩, K7.out, HB2.out⟩
        case round =>
          clear K7 HB2
          obtain ⟨i, rfl, hi, hf, hk, hb⟩ := hrel
          have K7 := Lib.hid hk
          have HB := Lib.hid hb
          clear hk hb
          by_cases hlt : i < nX
          · obtain ⟨b, off, x, hax, hbl, hx, hrr⟩ := HX.out.at_ hlt
            subst hax
            have p0 : (0 : Int) ≤ (i : Int) := by omega
            have p1 : (i : Int) < (nX : Int) := by omega
            rcases hf with ⟨hi0, rfl⟩ | ⟨f, i', hii, hfi, rfl, hXf⟩
            · have HF : Hid (X[i]? = some (minK X i)) := Lib.hid (by subst hi0; rw [hx]; show _ = some ((X[0]?).getD zRc); rw [hx]; rfl)
              clear hi0 hx hrr hbl
              go_wp2_with fail
              refine wp_region_held_drew (S := fun _ => True) (by kernel_rfl) (trivial) (fun hHeld => ?_)
              refine tk 0 hHeld ?_
              refine tk 1 hHeld ?_
              refine tk 2 hHeld ?_
              refine tks 3 hHeld ?_
              refine tks 4 hHeld ?_
              refine tks 5 hHeld ?_
              refine tks 6 hHeld ?_
              refine tks 7 hHeld ?_
              refine tks 8 hHeld ?_
              refine tks 9 hHeld ?_
              refine tks 10 hHeld ?_
              refine tks 11 hHeld ?_
              refine tks 12 hHeld ?_
              refine tks 13 hHeld ?_
              refine tk 14 hHeld ?_
              refine wpAnyH_done (by kernel_rfl) ?_ _
              clear hHeld
              refine fin (fun W => Below wr.heap.size wr W) (bdrew (Below.refl _ _)) ?_
              rintro W hbW
              have K7b := Lib.hid (K7.out.keep hbW)
              have HBb := Lib.hid (bthen HB.out hbW)
              clear hbW K7 HB
              go_wp2
              go_roundw
              case rel => exact ⟨i + 1, by go_num, by omega, Or.inr ⟨i, i, rfl, by omega, rfl, HF.out⟩, K7b.out, HBb.out⟩
              case measure => simp [ivl] <;> omega
            · obtain ⟨y, hy⟩ : ∃ y, y = minK X i' := ⟨_, rfl⟩
              rw [← hy] at hXf
              have hx' : X[i' + 1]? = some x := by rw [← hii]; exact hx
              have HLess : Hid (x.id < y.id → X[i]? = some (minK X i)) := Lib.hid (fun h => by rw [hx, hii, mink_less hx' (by rw [← hy]; exact h)])
              have HStay : Hid (¬ x.id < y.id → X[f]? = some (minK X i)) := Lib.hid (fun h => by rw [hXf, hii, mink_stay hx' (by rw [← hy]; exact h), ← hy])
              have hfn : f < nX := by omega
              obtain ⟨b2, off2, y2, e2, hbl2, hy2, hrr2⟩ := HX.out.at_ hfn
              injection e2 with e2
              injection e2 with e21 e22
              subst e21 e22
              have ey : y2 = y := by rw [hXf] at hy2; injection hy2 with q; exact q.symm
              subst ey
              have HS : Hid (∀ W, Below wr.heap.size wr W → W.cell? ⟨b, off + i * 12, none⟩ = some (.int .i64 x.id) ∧ W.cell? ⟨b, off + f * 12, none⟩ = some (.int .i64 y2.id)) := Lib.hid (fun W hb => by
                have q := bthen HB.out hb
                exact ⟨range_same hrr (q.block b hbl) 0 _ rfl, range_same hrr2 (q.block b hbl) 0 _ rfl⟩)
              obtain ⟨xi, hxi⟩ : ∃ xi, xi = x.id := ⟨_, rfl⟩
              obtain ⟨yi, hyi⟩ : ∃ yi, yi = y2.id := ⟨_, rfl⟩
              rw [← hxi, ← hyi] at HLess HStay HS
              have f0 : (0 : Int) ≤ (f : Int) := by omega
              have f1 : (f : Int) < (nX : Int) := by omega
              have f2 : ¬ (f : Int) < 0 := by omega
              have HII := Lib.hid hii
              clear hx hrr hbl hXf hy hx' hbl2 hy2 hrr2 hxi hyi hii
              go_wp2_with fail
              refine wp_region_held_drew (S := fun w' => w'.cell? ⟨b, off + i * 12, none⟩ = some (.int .i64 xi) ∧ w'.cell? ⟨b, off + f * 12, none⟩ = some (.int .i64 yi)) (by kernel_rfl) (HS.out _ (bdrew (Below.refl _ _))) (fun hHeld => ?_)
              refine tk 0 hHeld ?_
              refine tk 1 hHeld ?_
              refine tk 2 hHeld ?_
              refine tk 3 hHeld ?_
              refine tk 4 hHeld ?_
              refine tk 5 hHeld ?_
              refine tk 6 hHeld ?_
              refine tk 7 hHeld ?_
              refine tk 8 hHeld ?_
              refine tk 9 hHeld ?_
              refine tk 10 hHeld ?_
              refine tk 11 hHeld ?_
              refine tk 12 hHeld ?_
              refine tk 13 hHeld ?_
              refine tk 14 hHeld ?_
              refine wpAnyH_done (by kernel_rfl) ?_ _
              clear hHeld
              refine fin (fun W => Below wr.heap.size wr W) (bdrew (Below.refl _ _)) ?_
              rintro W hbW
              have K7b := Lib.hid (K7.out.keep hbW)
              have HBb := Lib.hid (bthen HB.out hbW)
              clear hbW K7 HB HS
              by_cases hc : xi < yi
              · have HF := Lib.hid (HLess.out hc)
                have hcd : decide (xi < yi) = true := decide_eq_true hc
                go_wp2
                go_roundw
                case rel => exact ⟨i + 1, by go_num, by omega, Or.inr ⟨i, i, rfl, by omega, rfl, HF.out⟩, K7b.out, HBb.out⟩
                case measure => simp [ivl] <;> omega
              · have HF := Lib.hid (HStay.out (by omega))
                have hcd : decide (xi < yi) = false := decide_eq_false hc
                go_wp2
                go_roundw
                case rel => exact ⟨i + 1, by go_num, by omega, Or.inr ⟨f, i, rfl, by omega, rfl, HF.out⟩, K7b.out, HBb.out⟩
                case measure => simp [ivl] <;> omega
          · obtain rfl : i = nX := by omega
            have j2 : ¬ (i : Int) < (i : Int) := by omega
            have HOf := Lib.hid (fun W hb => gof_any aL nL cL L W (HL.out.keep (w' := W) hb) (by omega))
            go_upto_region 12 with fail
            go_cut [81] from 64 to 80 (fun s wx => s = .bool false ∧ Below wr.heap.size wr wx)
            case first =>
              cases is
              · have hr0 := (HR0.out rfl).1
                have heq := HEqF.out zRc hr0
                have HK7 : Hid (∀ W, Below wr.heap.size wr W → W.rangeAt g7 0 XR) := Lib.hid (fun W q => blk_whole (K7.out.keep q))
                clear hr0 HEqF HR0 HR1 hf
                unfold cRc zRc at heq
                refine wp_region_held_drew (S := fun w' => w'.rangeAt g7 0 XR) (by kernel_rfl) (HK7.out _ (bdrew (Below.refl _ _))) (fun hHeld => ?_)
                refine tk 0 hHeld ?_
                refine tk 1 hHeld ?_
                refine tks 2 hHeld ?_
                refine tks 3 hHeld ?_
                refine tks 4 hHeld ?_
                refine tks 5 hHeld ?_
                refine tks 6 hHeld ?_
                refine tks 7 hHeld ?_
                refine tk 8 hHeld ?_
                refine tk 9 hHeld ?_
                refine tk 10 hHeld ?_
                refine tk 11 hHeld ?_
                refine tk 12 hHeld ?_
                refine tkl 13 rfl (yieldsIf_load_mid (by rfl) _ _ rfl _ _ rfl _ _ (fun _ h => h) Try.underlying36 rfl HSr.out) hHeld ?_
                refine tk 14 hHeld ?_
                refine tk 15 hHeld ?_
                refine tk 16 hHeld ?_
                refine tk 17 hHeld ?_
                refine wpAnyH_done (by kernel_rfl) ?_ _
                clear hHeld
                go_wp2_with fail
                go_meet
                exact ⟨rfl, bdrew (Below.refl _ _)⟩
              · obtain ⟨hr1, hpos⟩ := HR1.out rfl
                rcases hf with ⟨hi0, _⟩ | ⟨f, i', hii, hfi, rfl, hXf⟩
                · omega
                · have hfn : f < i := hfi
                  obtain ⟨b, off, y, rfl, hbl, hy, hrr⟩ := HX.out.at_ hfn
                  have hry : r = y := by
                    rw [hXf] at hy
                    injection hy with q
                    rw [hr1, show i - 1 = i' by omega, q]
                  have heq := HEqF.out y hry
                  have HK7 : Hid (∀ W, Below wr.heap.size wr W → W.rangeAt g7 0 XR ∧ W.rangeAt b (off + f * 12) (cRc y)) := Lib.hid (fun W q => ⟨blk_whole (K7.out.keep q), range_same hrr ((bthen HB.out q).block b hbl)⟩)
                  have HSy := Lib.hid (rc_size y)
                  obtain ⟨XY, hXY⟩ : ∃ XY, XY = cRc y := ⟨_, rfl⟩
                  rw [← hXY] at heq HK7 HSy
                  have f0 : (0 : Int) ≤ (f : Int) := by omega
                  have f1 : (f : Int) < (i : Int) := by omega
                  clear hXY hry hy hrr hbl hXf hr1 hii HEqF HR0 HR1
                  refine wp_region_held_drew (S := fun w' => w'.rangeAt g7 0 XR ∧ w'.rangeAt b (off + f * 12) XY) (by kernel_rfl) (HK7.out _ (bdrew (Below.refl _ _))) (fun hHeld => ?_)
                  refine tk 0 hHeld ?_
                  refine tk 1 hHeld ?_
                  refine tkl 2 rfl (yieldsIf_load_mid (by rfl) _ _ rfl _ _ rfl _ _ (fun _ h => h.1) Try.underlying36 rfl HSr.out) hHeld ?_
                  refine tk 3 hHeld ?_
                  refine tk 4 hHeld ?_
                  refine tk 5 hHeld ?_
                  refine tkl 6 rfl (yieldsIf_load_mid (by rfl) _ _ rfl _ _ rfl _ _ (fun _ h => h.2) Try.underlying36 rfl HSy.out) hHeld ?_
                  refine tk 7 hHeld ?_
                  refine tk 8 hHeld ?_
                  refine tk 9 hHeld ?_
                  refine tk 10 hHeld ?_
                  refine tk 11 hHeld ?_
                  refine tk 12 hHeld ?_
                  refine tks 13 hHeld ?_
                  refine tks 14 hHeld ?_
                  refine tks 15 hHeld ?_
                  refine tk 16 hHeld ?_
                  refine tk 17 hHeld ?_
                  refine wpAnyH_done (by kernel_rfl) ?_ _
                  clear hHeld
                  go_wp2_with fail
                  go_meet
                  exact ⟨rfl, bdrew (Below.refl _ _)⟩
            case rest =>
              obtain ⟨rfl, hbW⟩ := hcut
              refine fin (fun W => Below w.heap.size w W) (bthen HB.out hbW) ?_
              clear hbW HB K7 hf HEqF HR0 HR1 HSr HOr HSr' HXR
              rintro W4 hb4
              have HB4 := Lib.hid hb4
              clear hb4
              have HOfL := Lib.hid (fun (W : World) (hb : Below w.heap.size w W) => gof_any aL nL cL L W (HL.out.keep hb) (by omega))
              have HOfX := Lib.hid (fun (W : World) (hb : Below w.heap.size w W) => gof_any aX i cX X W (HX.out.keep hb) (by omega))
              clear HOf
              go_wp2_with fail
              refine (HOfL.out W4 HB4.out).mono ?_
              rintro e w5 ⟨v5, rfl, ho5, hb⟩
              obtain ⟨am, cm, rfl, hcm, _, hrm⟩ := ho5.row cRc_len
              rw [show L.length = nL from HL.out.1] at hrm hcm ⊢
              have HB5 := Lib.hid (bthen HB4.out hb)
              have HM5 := Lib.hid hrm
              have HRi := Lib.hid (grises_any am nL cm L w5 hrm)
              clear hb ho5 hrm HB4
              go_wp2_with fail
              refine HRi.out.mono ?_
              rintro e w6 ⟨rfl, hb⟩
              have HB6 := Lib.hid (bthen HB5.out hb)
              have HM6 := Lib.hid (HM5.out.keep hb)
              obtain ⟨bb, hbb⟩ : ∃ bb, bb = riseB L := ⟨_, rfl⟩
              rw [← hbb]
              have HRb : Hid (bb = true → Rise L) := Lib.hid (fun h => (riseB_iff L).1 (hbb ▸ h))
              clear hb hbb HB5 HM5 HRi
              cases bb
              · skip
                go_wp2_with fail
                refine (alive12_any _).mono ?_
                rintro e w3 ⟨rfl, hb⟩
                have HB3 := Lib.hid (bthen HB6.out hb)
                clear hb
                go_wp2
                go_ret
                exact ⟨rfl, HB3.out⟩
              · have HRise := Lib.hid (HRb.out rfl)
                clear HRb
                go_wp2
                go_loopw [13, 14] (fun v13 v14 wr => ∃ (q nw cw : Nat) (aw : Option Addr) (Wl : List Rc), v14 = .int .i64 q ∧ q ≤ i ∧ v13 = .slice aw nw cw ∧ RcRow wr aw nw Wl ∧ WantAt L X q Wl ∧ RcRow wr am nL L ∧ Below w.heap.size w wr) (fun _ v14 _ => i - (ivl v14).toNat)
                case atStart => exact ⟨0, nL, cm, am, L, rfl, by omega, rfl, HM6.out, ⟨HRise.out, fun k => by simp [look], by omega⟩, HM6.out, HB6.out⟩
                case round =>
                  clear HM6 HB6
                  obtain ⟨q, nw, cw, aw, Wl, rfl, hq, rfl, hrw, hwa, hrm, hb⟩ := hrel
                  have HW := Lib.hid hrw
                  have HWa := Lib.hid hwa
                  have HM := Lib.hid hrm
                  have HB := Lib.hid hb
                  have hnw : nw ≤ nL + q := by rw [← hrw.1, ← HL.out.1]; exact hwa.ln
                  have hbigw := hrw.2.1
                  clear hrw hwa hrm hb
                  by_cases hlt : q < i
                  · have hxl := HX.out.1
                    obtain ⟨x, hx⟩ : ∃ x, X[q]? = some x := ⟨_, List.getElem?_eq_getElem (by omega)⟩
                    have HXq := Lib.hid hx
                    go_wp2_with fail
                    refine (HOfX.out wr HB.out).mono ?_
                    rintro e w7 ⟨v7, rfl, ho7, hb⟩
                    obtain ⟨bx, cx, rfl, _, _, _, hrg⟩ := row_of ho7 (by omega)
                    rw [hxl]
                    have HB7 := Lib.hid (bthen HB.out hb)
                    have HM7 := Lib.hid (HM.out.keep hb)
                    have HW7 := Lib.hid (HW.out.keep hb)
                    have HRg : Hid (w7.rangeAt bx (0 + q * 12) (cRc x)) := Lib.hid (by rw [Nat.zero_add]; exact hrg q x hx)
                    have HIn := Lib.hid (gins_any aw nw cw Wl x w7 HW7.out HWa.out.ri (by omega))
                    have HSx := Lib.hid (rf_size x)
                    obtain ⟨XX, hXX⟩ : ∃ XX, XX = cRc x := ⟨_, rfl⟩
                    rw [← hXX] at HRg HIn HSx
                    have p0 : (0 : Int) ≤ (q : Int) := by omega
                    have p1 : (q : Int) < (i : Int) := by omega
                    rw [Nat.zero_add] at HRg
                    clear hb ho7 hrg hx hXX HB HM HW hxl
                    go_wp2_with (refine wpList_load_mid rfl 40 (.tmp 100) rfl bx (q * 12) rfl XX _ HRg.out Try.underlying40 rfl HSx.out ?_)
                    refine HIn.out.mono ?_
                    rintro e w8 ⟨v8, V, rfl, ho8, hl8, hr8, hk8, hb⟩
                    obtain ⟨a8, c8, rfl, _, _, hrow8⟩ := ho8.row cRc_len
                    have HB8 := Lib.hid (bthen HB7.out hb)
                    have HM8 := Lib.hid (HM7.out.keep hb)
                    have HN := Lib.hid (wantAt_next HWa.out HXq.out hr8 hk8 (by rw [show Wl.length = nw from HW7.out.1]; exact hl8))
                    have HV := Lib.hid hrow8
                    clear hb ho8 hl8 hr8 hk8 hrow8 HB7 HM7 HW7 HIn HWa
                    go_wp2
                    go_roundw
                    case rel => exact ⟨q + 1, _, _, _, V, by go_num, by omega, rfl, HV.out, HN.out, HM8.out, HB8.out⟩
                    case measure => simp [ivl] <;> omega
                  · obtain rfl : q = i := by omega
                    have j3 : ¬ (q : Int) < (q : Int) := by omega
                    have HIn := Lib.hid (insert_any aL nL cL L aX q cX X wr (HL.out.keep HB.out) (HX.out.keep HB.out) hCap.out.1 hCap.out.2 HRise.out (by omega))
                    go_wp2_with fail
                    refine HIn.out.mono ?_
                    rintro e w7 ⟨v7, Rr, rfl, ⟨ho7, hl7, hr7, hk7⟩, hb⟩
                    have hRW := wantAt_done (by rw [show X.length = q from HX.out.1]; exact Nat.le_refl _) HWa.out hr7 hk7
                    subst hRW
                    obtain ⟨a7, c7, rfl, _, _, hrow7⟩ := ho7.row cRc_len
                    rw [show Rr.length = nw from HW.out.1] at hrow7 ⊢
                    have HB7 := Lib.hid (bthen HB.out hb)
                    have HM7 := Lib.hid (HM.out.keep hb)
                    have HW7 := Lib.hid (HW.out.keep hb)
                    have HOf7 := Lib.hid (gof_any a7 nw c7 Rr w7 hrow7 (by omega))
                    clear hb ho7 hl7 hr7 hk7 hrow7 HB HM HW HIn HWa
                    go_wp2_with fail
                    refine HOf7.out.mono ?_
                    rintro e w8 ⟨v8, rfl, ho8, hb⟩
                    obtain ⟨a8, c8, rfl, _, _, hrow8⟩ := ho8.row cRc_len
                    rw [show Rr.length = nw from HW7.out.1] at hrow8 ⊢
                    have HB8 := Lib.hid (bthen HB7.out hb)
                    have HM8 := Lib.hid (HM7.out.keep hb)
                    have HSm := Lib.hid (gsame_yes a8 c8 aw cw nw Rr w8 hrow8 (HW7.out.keep hb))
                    clear hb ho8 hrow8 HB7 HM7 HW7 HOf7
                    go_wp2_with fail
                    refine HSm.out.mono ?_
                    rintro e w9 ⟨rfl, hb⟩
                    have HB9 := Lib.hid (bthen HB8.out hb)
                    have HM9 := Lib.hid (HM8.out.keep hb)
                    have HRm := Lib.hid (remove_any aL nL cL L aI nI cI zs w9 (HL.out.keep HB9.out) (row_keep HI.out HB9.out) (by omega) (by omega) HG.out.1 HG.out.2.2)
                    clear hb HB8 HM8 HSm
                    go_wp2_with fail
                    refine HRm.out.mono ?_
                    rintro e w10 ⟨v10, rfl, ho10, hb⟩
                    obtain ⟨T, hT⟩ : ∃ T, T = remL L zs := ⟨_, rfl⟩
                    rw [← hT] at ho10
                    have hTl : T.length ≤ 80 := by
                      have q1 := List.length_filter_le (fun r : Rc => !decide (r.id ∈ zs)) L
                      rw [HL.out.1] at q1
                      rw [hT]
                      unfold remL
                      omega
                    obtain ⟨a10, c10, rfl, _, _, hrow10⟩ := ho10.row cRc_len
                    have HB10 := Lib.hid (bthen HB9.out hb)
                    have HM10 := Lib.hid (HM9.out.keep hb)
                    have HGr := Lib.hid (fun (W : World) (hb : Below w.heap.size w W) (hm : RcRow W am nL L) => grem_any am nL cm L aI nI cI zs W hm (row_keep HI.out hb) (by omega))
                    rw [← hT] at HGr
                    obtain ⟨nT, hnT⟩ : ∃ nT, nT = T.length := ⟨_, rfl⟩
                    have HNT := Lib.hid hnT
                    rw [← hnT] at hrow10 hTl ⊢
                    have HOf10 := Lib.hid (gof_any a10 nT c10 T w10 hrow10 (by omega))
                    clear hb ho10 hrow10 hT hnT HB9 HM9 HRm
                    go_wp2_with fail
                    refine HOf10.out.mono ?_
                    rintro e w11 ⟨v11, rfl, ho11, hb⟩
                    obtain ⟨a11, c11, rfl, _, _, hrow11⟩ := ho11.row cRc_len
                    rw [← HNT.out] at hrow11 ⊢
                    have HB11 := Lib.hid (bthen HB10.out hb)
                    have HM11 := Lib.hid (HM10.out.keep hb)
                    have HT11 := Lib.hid hrow11
                    clear hb ho11 hrow11 HB10 HM10 HOf10
                    go_wp2_with fail
                    refine (HGr.out w11 HB11.out HM11.out).mono ?_
                    rintro e w12 ⟨v12, rfl, ho12, hb⟩
                    obtain ⟨a12, c12, rfl, _, _, hrow12⟩ := ho12.row cRc_len
                    rw [← HNT.out] at hrow12 ⊢
                    have HB12 := Lib.hid (bthen HB11.out hb)
                    have HM12 := Lib.hid (HM11.out.keep hb)
                    have HSm2 := Lib.hid (gsame_yes a11 c11 a12 c12 nT T w12 (HT11.out.keep hb) hrow12)
                    clear hb ho12 hrow12 HB11 HM11 HT11 HGr
                    go_wp2_with fail
                    refine HSm2.out.mono ?_
                    rintro e w13 ⟨rfl, hb⟩
                    have HB13 := Lib.hid (bthen HB12.out hb)
                    have HM13 := Lib.hid (HM12.out.keep hb)
                    clear hb HB12 HM12 HSm2
                    go_wp2_with fail
                    refine (HOfL.out w13 HB13.out).mono ?_
                    rintro e w14 ⟨v14, rfl, ho14, hb⟩
                    obtain ⟨a14, c14, rfl, _, _, hrow14⟩ := ho14.row cRc_len
                    rw [show L.length = nL from HL.out.1] at hrow14 ⊢
                    have HB14 := Lib.hid (bthen HB13.out hb)
                    have HSm3 := Lib.hid (gsame_yes a14 c14 am cm nL L w14 hrow14 (HM13.out.keep hb))
                    clear hb ho14 hrow14 HB13 HM13
                    go_wp2_with fail
                    refine HSm3.out.mono ?_
                    rintro e w15 ⟨rfl, hb⟩
                    have HB15 := Lib.hid (bthen HB14.out hb)
                    clear hb HB14 HSm3
                    go_wp2_with fail
                    refine (alive12_any _).mono ?_
                    rintro e w16 ⟨rfl, hb⟩
                    have HB16 := Lib.hid (bthen HB15.out hb)
                    clear hb HB15
                    go_wp2
                    go_ret
                    exact ⟨rfl, HB16.out⟩
set_option maxRecDepth 100000 in
theorem lifted (os : Os) (started : os.Started) (H : Type) (enc : TypeId × Value → H) :
    ReturnsInHanded {} Try.checked os 4 .any (Rows.recordListsSpec.pre6 enc Try.prog Try.f4 Rows.recordListsRow.domain false) (Rows.recordListsSpec.post enc Try.prog Try.f4 false true false false) := by
  refine returnsInHanded_of_change (C := Try.checked) own started (by kernel_rfl) Try.func4
    (ChangeSpec.witness6 (enc := enc) (C := Try.checked) false ⟨#[], #[.slice none 0 0, .slice none 0 0, .slice none 0 0], []⟩ 8 (by kernel_rfl) (by kernel_rfl) (by kernel_rfl) (by kernel_rfl)) ?_
  intro W base args ds gs before hval0 hW hcnd _
  have hval : ∀ (j : Nat) t v, Try.f4.params[j]? = some t → args[j]? = some v → Value.okWide Try.prog W .any base t v := hval0
  have hW' := hW
  obtain ⟨p, q, hA0, hV, rfl, hfz, hnd⟩ := hW
  have hA : DataW.TrodAll enc Try.prog W 0 (fun _ => true) true Try.f4.params.toList args.toList ds p := hA0
  rw [Try.params4] at hA hval
  obtain ⟨v0, vs0, d0, ds0, p0, q0, hargs, rfl, rfl, h0, r0⟩ := trodAll_cons hA
  obtain ⟨v1, vs1, d1, ds1, p1, q1, rfl, rfl, rfl, h1, r1⟩ := trodAll_cons r0
  obtain ⟨v2, vs2, d2, ds2, p2, q2, rfl, rfl, rfl, h2, r2⟩ := trodAll_cons r1
  obtain ⟨rfl, rfl, rfl⟩ := trodAll_nil r2
  obtain rfl : args = #[v0, v1, v2] := by cases args; simp_all
  obtain ⟨rfl, rfl⟩ := trodVars_none hV
  obtain ⟨a0, len0, cap0, rfl⟩ := okWide_slice Try.underlying46 (hval 0 46 v0 rfl rfl)
  have k0 := h0
  have lt0 : ∀ x ∈ p0, x.block < W.heap.size := by obtain ⟨m, hm⟩ := k0; exact DataW.trod_lt m _ _ _ hm
  obtain ⟨X0, row0, hc0, hm0, hg0, hs0⟩ : ∃ X, RcRow W a0 len0 X ∧ len0 ≤ cap0 ∧ cap0 ≤ maxLen ∧ (∀ r ∈ X, Rg r.id) ∧ (len0 = 0 ∨ ∃ es sp, d0 = .slice es sp ∧ es.length = len0) := by
    obtain ⟨fuel, hf⟩ := h0
    obtain ⟨a, l, c, X, e, r1, r2, r3, r4, r5⟩ := open_recs (by simpa [Value.cells] using hf)
    simp at e
    obtain ⟨rfl, rfl, rfl⟩ := e
    exact ⟨X, r1, r2, r3, r4, r5⟩
  obtain ⟨a1, len1, cap1, rfl⟩ := okWide_slice Try.underlying46 (hval 1 46 v1 rfl rfl)
  have k1 := h1
  have lt1 : ∀ x ∈ p1, x.block < W.heap.size := by obtain ⟨m, hm⟩ := k1; exact DataW.trod_lt m _ _ _ hm
  obtain ⟨X1, row1, hc1, hm1, hg1, hs1⟩ : ∃ X, RcRow W a1 len1 X ∧ len1 ≤ cap1 ∧ cap1 ≤ maxLen ∧ (∀ r ∈ X, Rg r.id) ∧ (len1 = 0 ∨ ∃ es sp, d1 = .slice es sp ∧ es.length = len1) := by
    obtain ⟨fuel, hf⟩ := h1
    obtain ⟨a, l, c, X, e, r1, r2, r3, r4, r5⟩ := open_recs (by simpa [Value.cells] using hf)
    simp at e
    obtain ⟨rfl, rfl, rfl⟩ := e
    exact ⟨X, r1, r2, r3, r4, r5⟩
  obtain ⟨a2, len2, cap2, rfl⟩ := okWide_slice Try.underlying48 (hval 2 48 v2 rfl rfl)
  have k2 := h2
  have lt2 : ∀ x ∈ p2, x.block < W.heap.size := by obtain ⟨m, hm⟩ := k2; exact DataW.trod_lt m _ _ _ hm
  obtain ⟨zs, row2, hz2⟩ : ∃ zs, Row W a2 len2 zs ∧ Rgs zs := by
    obtain ⟨fuel, hf⟩ := h2
    obtain ⟨a, l, c, zs, e, r1, r2⟩ := open_ids12 (by simpa [Value.cells] using hf)
    simp at e
    obtain ⟨rfl, rfl, rfl⟩ := e
    exact ⟨zs, r1, r2⟩
  clear hA0 hval0
  refine (walk a0 len0 cap0 X0 a1 len1 cap1 X1 a2 len2 cap2 zs W row0 row1 row2 hc0 hm0 hg0 hg1 hz2).mono fun e W' ⟨he, bel⟩ => ?_
  subst he
  exact ⟨_, rfl, _, _, _, [], _, [], hW', trodAll_mk1 (shut_bool Try.underlying4 _), (trodAll_cons_mk (Below.trod laidOut (by kernel_rfl) (of_decide_eq_true (by kernel_rfl)) k0 bel lt0) (trodAll_cons_mk (Below.trod laidOut (by kernel_rfl) (of_decide_eq_true (by kernel_rfl)) k1 bel lt1) (trodAll_cons_mk (Below.trod laidOut (by kernel_rfl) (of_decide_eq_true (by kernel_rfl)) k2 bel lt2) trodAll_mk0))), rfl, bel.frame _, fun h => by cases h⟩

theorem over : Rows.recordListsRow.holds Try.pinned (OpenSpec.ofChange Rows.recordListsSpec) :=
  OpenClaim.holds_of_wide 4 Try.f4 rfl rfl rfl rfl rfl rfl rfl ⟨rfl, rfl, rfl, rfl, rfl⟩ rfl rfl rfl rfl rfl (by kernel_rfl) Try.func4 (by kernel_rfl)
    (of_decide_eq_true (by kernel_rfl)) (by unfold Func.isWrapper; first | (rw [if_pos (by decide +kernel)]; kernel_rfl) | (rw [if_neg (by decide +kernel)]; exact ⟨rfl, rfl⟩))
    (fun os started H enc _ => lifted os started H enc)

end Go.Proofs.Ytffbehcbokmpkaa.recordLists
namespace Go.Proofs.Ytffbehcbokmpkaa
theorem recordLists_holds : Rows.RecordListsSaid := recordLists.over
#print axioms recordLists_holds
end Go.Proofs.Ytffbehcbokmpkaa
