/-
  RecordRising answers true for all records and others: records whose names rise, with others, have names that rise; with some, and then without their names, they are what they are without them. No conditions.
-/
import Derived.Test.YtffbehcbokmpkaaML25
import Derived.SizedLaws
namespace Go.Proofs.Ytffbehcbokmpkaa.recordRising
open Go.ChangeShapes Go.WideShapes Go.ChangeAt Go.RowKit Go.Deep
set_option linter.unusedVariables false
theorem own : ownKnob Try.prog.godebug = none := by kernel_rfl
theorem laidOut : laidOutB Try.prog = true := by kernel_rfl
set_option maxHeartbeats 16000000 in
set_option maxRecDepth 100000 in
theorem walk (aL : Option Addr) (nL cL : Nat) (L : List Rc) (aX : Option Addr) (nX cX : Nat) (X : List Rc) (w : World) (rL : RcRow w aL nL L) (rX : RcRow w aX nX X) (hcL : nL ≤ cL) (hmL : cL ≤ maxLen) (hn : nL * 96 ≤ 140737488355328) (gL : ∀ r ∈ L, Rg r.id) (gX : ∀ r ∈ X, Rg r.id) :
    Calls Try.prog 5 #[.slice aL nL cL, .slice aX nX cX] w fun e w' => e = .returned (.bool true) ∧ Below w.heap.size w w' := by
  have hbig := rL.2.1
  have hbigX := rX.2.1
  have HL := Lib.hid rL
  have HX := Lib.hid rX
  have HOf := Lib.hid (gof_any aL nL cL L w rL hn)
  have HG := Lib.hid (And.intro gL gX)
  have hCap := Lib.hid (And.intro hcL hmL)
  clear rL rX gL gX hn hcL hmL
  go_enter Try.func5, Try.ntmps5
  go_wp2_with fail
  refine HOf.out.mono ?_
  rintro e w1 ⟨v, rfl, ho, hb⟩
  obtain ⟨a1, c1, rfl, _, _, hr1⟩ := ho.row cRc_len
  rw [HL.out.1] at hr1 ⊢
  have HB1 := Lib.hid hb
  have HRi := Lib.hid (grises_any a1 nL c1 L w1 hr1)
  clear ho hb hr1 HOf
  go_wp2_with fail
  refine HRi.out.mono ?_
  rintro e w2 ⟨rfl, hb⟩
  have HB2 := Lib.hid (bthen HB1.out hb)
  obtain ⟨bb, hbb⟩ : ∃ bb, bb = riseB L := ⟨_, rfl⟩
  rw [← hbb]
  have HRb : Hid (bb = true → Rise L) := Lib.hid (fun h => (riseB_iff L).1 (hbb ▸ h))
  clear hb hbb HB1 HRi
  by_cases h1 : 80 < nL
  · have h1' : (80 : Int) < (nL : Int) := by omega
    go_wp2_with fail
    refine (alive12_any _).mono ?_
    rintro e w3 ⟨rfl, hb⟩
    have HB3 := Lib.hid (bthen HB2.out hb)
    clear hb
    go_wp2
    go_ret
    exact ⟨rfl, HB3.out⟩
  · have h1' : ¬ (80 : Int) < (nL : Int) := by omega
    by_cases h2 : 80 < nX
    · have h2' : (80 : Int) < (nX : Int) := by omega
      go_wp2_with fail
      refine (alive12_any _).mono ?_
      rintro e w3 ⟨rfl, hb⟩
      have HB3 := Lib.hid (bthen HB2.out hb)
      clear hb
      go_wp2
      go_ret
      exact ⟨rfl, HB3.out⟩
    · have h2' : ¬ (80 : Int) < (nX : Int) := by omega
      cases bb
      · skip
        go_wp2_with fail
        refine (alive12_any _).mono ?_
        rintro e w3 ⟨rfl, hb⟩
        have HB3 := Lib.hid (bthen HB2.out hb)
        clear hb
        go_wp2
        go_ret
        exact ⟨rfl, HB3.out⟩
      · have HRise := Lib.hid (HRb.out rfl)
        clear HRb
        go_wp2
        go_loopw [6, 7] (fun v6 v7 wr => ∃ j : Nat, v7 = .int .i64 j ∧ j ≤ nX ∧ OwnX 1 cId 22 wr w.heap.size v6 ((X.take j).map Rc.id) ∧ Below w.heap.size w wr) (fun _ v7 _ => nX - (ivl v7).toNat)
        case atStart => exact ⟨0, rfl, by omega, OwnX.nil _ _ _ _ _, HB2.out⟩
        case round =>
          clear HB2
          obtain ⟨j, rfl, hj, ho, hb⟩ := hrel
          have HO := Lib.hid ho
          have HB := Lib.hid hb
          have hws : Hid (w.heap.size ≤ wr.heap.size) := Lib.hid hb.size
          clear ho hb
          by_cases hlt : j < nX
          · obtain ⟨b, off, r, rfl, hbl, hr, hrr⟩ := HX.out.at_ hlt
            have cx : wr.cell? ⟨b, off + j * 12, none⟩ = some (.int .i64 r.id) := range_same hrr (HB.out.block b hbl) 0 _ rfl
            have HTk : Hid ((X.take (j + 1)).map Rc.id = (X.take j).map Rc.id ++ [r.id]) := Lib.hid (by rw [List.take_add_one, hr, List.map_append]; rfl)
            have hpl : ((X.take j).map Rc.id).length ≤ 2000 := by rw [List.length_map, List.length_take]; omega
            obtain ⟨y, hy⟩ : ∃ y, y = r.id := ⟨_, rfl⟩
            rw [← hy] at cx HTk
            have hbs := run_bsId y
            have j0 : (0 : Int) ≤ (j : Int) := by omega
            have j1 : (j : Int) < (nX : Int) := by omega
            have hblw : b < wr.heap.size := Nat.lt_of_lt_of_le hbl hws.out
            clear hy hr hrr hbl
            go_wp2_with (at_builtin; refine wpList_pushX rfl (.tmp 35) (.tmp 41) 48 8 (.int .i64 0) rfl Try.underlying48 zId_info rfl (by decide) (by decide) cId_len y (cId_one y) rfl (HO.out.keep (alloc_below _ _)) wr.heap.size 1 rfl (blk_whole (X := cId y) (Blk.new wr _ _)) hpl (Nat.le_trans hws.out (by simp)) ?_)
            intro v' W3 k1 k2 k3
            have K : Hid (OwnX 1 cId 22 W3 w.heap.size v' ((X.take (j + 1)).map Rc.id) ∧ Below w.heap.size w W3) := Lib.hid ⟨by rw [HTk.out, List.map_take]; exact k1, grown_below2 (bthen HB.out (alloc_below _ _)) k2 (fun b e => (HO.out.lt b e).1)⟩
            clear k1 k2 k3 HO HB cx
            go_wp2
            go_roundw
            case rel => exact ⟨j + 1, by go_num, by omega, K.out.1, K.out.2⟩
            case measure => simp [ivl] <;> omega
          · obtain rfl : j = nX := by omega
            have j2 : ¬ (j : Int) < (j : Int) := by omega
            have hXt : X.take j = X := List.take_of_length_le (by rw [HX.out.1]; exact Nat.le_refl _)
            have ho := HO.out
            rw [hXt] at ho
            obtain ⟨zs, hzs⟩ : ∃ zs, zs = X.map Rc.id := ⟨_, rfl⟩
            rw [← hzs] at ho
            obtain ⟨ai, ci, e6, hci, _, hri⟩ := ids_row ho
            have hzl : zs.length = j := by rw [hzs, List.length_map, HX.out.1]
            rw [hzl] at hri hci e6
            have HI := Lib.hid hri
            have hZg : Rgs zs := fun x hx => by
              rw [hzs] at hx
              obtain ⟨r, hr, e⟩ := List.mem_map.1 hx
              rw [← e]
              exact HG.out.2 r hr
            have HZg := Lib.hid hZg
            have HZe := Lib.hid hzs
            subst e6
            have HIn := Lib.hid (insert_any aL nL cL L aX j cX X wr (HL.out.keep HB.out) (HX.out.keep HB.out) hCap.out.1 hCap.out.2 HRise.out (by omega))
            clear ho hXt hzs hri hZg hzl HO hci
            go_wp2_with fail
            refine HIn.out.mono ?_
            rintro e w3 ⟨v3, R, rfl, ⟨hoR, hlR, hRR, hkR⟩, hb⟩
            obtain ⟨ar, cr, rfl, hcr, _, hrr⟩ := hoR.row cRc_len
            have hl160 : R.length ≤ 160 := by omega
            obtain ⟨nR, hnR⟩ : ∃ nR, nR = R.length := ⟨_, rfl⟩
            rw [← hnR] at hrr hl160 ⊢
            have HB3 := Lib.hid (bthen HB.out hb)
            have HR := Lib.hid hrr
            have HI3 := Lib.hid (row_keep HI.out hb)
            have HEq : Hid (remL R zs = remL L zs) := Lib.hid (by rw [HZe.out]; exact rem_ins HRise.out hRR hkR)
            have HRise2 := Lib.hid hRR
            have HRm1 := Lib.hid (remove_any ar nR cr R ai j ci zs w3 hrr HI3.out (by omega) (by omega) (ins_rg hkR HG.out.1 HG.out.2) HZg.out)
            clear hb hoR hlR hRR hkR hrr hnR hcr HIn HI HB
            go_wp2_with fail
            refine HRm1.out.mono ?_
            rintro e w4 ⟨v4, rfl, ho4, hb⟩
            obtain ⟨T, hT⟩ : ∃ T, T = remL L zs := ⟨_, rfl⟩
            rw [HEq.out, ← hT] at ho4
            obtain ⟨a4, c4, rfl, _, _, hr4⟩ := ho4.row cRc_len
            have HB4 := Lib.hid (bthen HB3.out hb)
            have HR4 := Lib.hid (HR.out.keep hb)
            have HT4 := Lib.hid hr4
            have hTl : T.length ≤ 80 := by
              have q1 := List.length_filter_le (fun r : Rc => !decide (r.id ∈ zs)) L
              rw [HL.out.1] at q1
              rw [hT]
              unfold remL
              omega
            have HRm2 := Lib.hid (remove_any aL nL cL L ai j ci zs w4 (HL.out.keep HB4.out) (row_keep HI3.out hb) (by omega) (by omega) HG.out.1 HZg.out)
            rw [← hT] at HRm2
            obtain ⟨nT, hnT⟩ : ∃ nT, nT = T.length := ⟨_, rfl⟩
            have HNT := Lib.hid hnT
            rw [← hnT] at HT4 hTl ⊢
            clear hb ho4 hr4 hT hnT HRm1 HR HI3 HB3 HEq
            go_wp2_with fail
            refine HRm2.out.mono ?_
            rintro e w5 ⟨v5, rfl, ho5, hb⟩
            obtain ⟨a5, c5, rfl, _, _, hr5⟩ := ho5.row cRc_len
            rw [← HNT.out] at hr5 ⊢
            have HB5 := Lib.hid (bthen HB4.out hb)
            have HR5 := Lib.hid (HR4.out.keep hb)
            have HT5 := Lib.hid (HT4.out.keep hb)
            have HU5 := Lib.hid hr5
            have HOf1 := Lib.hid (gof_any ar nR cr R w5 HR5.out (by omega))
            clear hb ho5 hr5 HRm2 HR4 HT4 HB4
            go_wp2_with fail
            refine HOf1.out.mono ?_
            rintro e w6 ⟨v6, rfl, ho6, hb⟩
            obtain ⟨a6, c6, rfl, _, _, hr6⟩ := ho6.row cRc_len
            rw [show R.length = nR from HR5.out.1] at hr6 ⊢
            have HB6 := Lib.hid (bthen HB5.out hb)
            have HT6 := Lib.hid (HT5.out.keep hb)
            have HU6 := Lib.hid (HU5.out.keep hb)
            have HRi := Lib.hid (grises_any a6 nR c6 R w6 hr6)
            rw [(riseB_iff R).2 HRise2.out] at HRi
            clear hb ho6 hr6 HOf1 HR5 HT5 HU5 HB5
            go_wp2_with fail
            refine HRi.out.mono ?_
            rintro e w7 ⟨rfl, hb⟩
            have HB7 := Lib.hid (bthen HB6.out hb)
            have HT7 := Lib.hid (HT6.out.keep hb)
            have HU7 := Lib.hid (HU6.out.keep hb)
            have HOf2 := Lib.hid (gof_any a4 nT c4 T w7 HT7.out (by omega))
            clear hb HRi HT6 HU6 HB6
            go_wp2_with fail
            refine HOf2.out.mono ?_
            rintro e w8 ⟨v8, rfl, ho8, hb⟩
            obtain ⟨a8, c8, rfl, _, _, hr8⟩ := ho8.row cRc_len
            rw [← HNT.out] at hr8 ⊢
            have HB8 := Lib.hid (bthen HB7.out hb)
            have HU8 := Lib.hid (HU7.out.keep hb)
            have HV8 := Lib.hid hr8
            have HOf3 := Lib.hid (gof_any a5 nT c5 T w8 HU8.out (by omega))
            clear hb ho8 hr8 HOf2 HT7 HU7 HB7
            go_wp2_with fail
            refine HOf3.out.mono ?_
            rintro e w9 ⟨v9, rfl, ho9, hb⟩
            obtain ⟨a9, c9, rfl, _, _, hr9⟩ := ho9.row cRc_len
            rw [← HNT.out] at hr9 ⊢
            have HB9 := Lib.hid (bthen HB8.out hb)
            have HSm := Lib.hid (gsame_yes a8 c8 a9 c9 nT T w9 (HV8.out.keep hb) hr9)
            clear hb ho9 hr9 HOf3 HU8 HV8 HB8
            go_wp2_with fail
            refine HSm.out.mono ?_
            rintro e w10 ⟨rfl, hb⟩
            have HB10 := Lib.hid (bthen HB9.out hb)
            clear hb HSm HB9
            go_wp2_with fail
            refine (alive12_any _).mono ?_
            rintro e w11 ⟨rfl, hb⟩
            have HB11 := Lib.hid (bthen HB10.out hb)
            clear hb HB10
            go_wp2
            go_ret
            exact ⟨rfl, HB11.out⟩
set_option maxRecDepth 100000 in
theorem lifted (os : Os) (started : os.Started) (H : Type) (enc : TypeId × Value → H) :
    ReturnsInHanded {} Try.checked os 5 .any (Rows.recordRisingSpec.pre6 enc Try.prog Try.f5 Rows.recordRisingRow.domain false) (Rows.recordRisingSpec.post enc Try.prog Try.f5 false true false false) := by
  refine returnsInHanded_of_change_sized (C := Try.checked) own started (by kernel_rfl) Try.func5
    (ChangeSpec.witness6 (enc := enc) (C := Try.checked) false ⟨#[], #[.slice none 0 0, .slice none 0 0], []⟩ 8 (by kernel_rfl) (by kernel_rfl) (by kernel_rfl) (by kernel_rfl)) ?_
  intro W base args ds gs before hval0 hW hcnd hsz _
  have hval : ∀ (j : Nat) t v, Try.f5.params[j]? = some t → args[j]? = some v → Value.okWide Try.prog W .any base t v := hval0
  have hW' := hW
  obtain ⟨p, q, hA0, hV, rfl, hfz, hnd⟩ := hW
  have hA : DataW.TrodAll enc Try.prog W 0 (fun _ => true) true Try.f5.params.toList args.toList ds p := hA0
  rw [Try.params5] at hA hval hsz
  obtain ⟨v0, vs0, d0, ds0, p0, q0, hargs, rfl, rfl, h0, r0⟩ := trodAll_cons hA
  obtain ⟨v1, vs1, d1, ds1, p1, q1, rfl, rfl, rfl, h1, r1⟩ := trodAll_cons r0
  obtain ⟨rfl, rfl, rfl⟩ := trodAll_nil r1
  obtain rfl : args = #[v0, v1] := by cases args; simp_all
  obtain ⟨rfl, rfl⟩ := trodVars_none hV
  obtain ⟨a0, len0, cap0, rfl⟩ := okWide_slice Try.underlying46 (hval 0 46 v0 rfl rfl)
  have k0 := h0
  have lt0 : ∀ x ∈ p0, x.block < W.heap.size := by obtain ⟨m, hm⟩ := k0; exact DataW.trod_lt m _ _ _ hm
  obtain ⟨X0, row0, hc0, hm0, hg0, hs0⟩ : ∃ X, RcRow W a0 len0 X ∧ len0 ≤ cap0 ∧ cap0 ≤ maxLen ∧ (∀ r ∈ X, Rg r.id) ∧ (len0 = 0 ∨ ∃ es sp, d0 = .slice es sp ∧ es.length = len0) := by
    obtain ⟨fuel, hf⟩ := h0
    obtain ⟨a, l, c, X, e, r1, r2, r3, r4, r5⟩ := open_recs (by simpa [Value.cells] using hf)
    simp at e
    obtain ⟨rfl, rfl, rfl⟩ := e
    exact ⟨X, r1, r2, r3, r4, r5⟩
  obtain ⟨a1, len1, cap1, rfl⟩ := okWide_slice Try.underlying46 (hval 1 46 v1 rfl rfl)
  have k1 := h1
  have lt1 : ∀ x ∈ p1, x.block < W.heap.size := by obtain ⟨m, hm⟩ := k1; exact DataW.trod_lt m _ _ _ hm
  obtain ⟨X1, row1, hc1, hm1, hg1, hs1⟩ : ∃ X, RcRow W a1 len1 X ∧ len1 ≤ cap1 ∧ cap1 ≤ maxLen ∧ (∀ r ∈ X, Rg r.id) ∧ (len1 = 0 ∨ ∃ es sp, d1 = .slice es sp ∧ es.length = len1) := by
    obtain ⟨fuel, hf⟩ := h1
    obtain ⟨a, l, c, X, e, r1, r2, r3, r4, r5⟩ := open_recs (by simpa [Value.cells] using hf)
    simp at e
    obtain ⟨rfl, rfl, rfl⟩ := e
    exact ⟨X, r1, r2, r3, r4, r5⟩
  have hn96 : len0 * 96 ≤ 140737488355328 := by
    rcases hs0 with q | ⟨es, sp, q1, q2⟩
    · omega
    · have s := sized_slice hsz (j := 0) (t := 46) (e := 36) (elems := es) (spare := sp) rfl (by rw [q1]; rfl) Try.underlying46
      have hb : Try.checked.prog.bytesOf 36 = 96 := by kernel_rfl
      rw [hb, q2] at s
      have := reachBytes_lt
      have h1 : len0 * 96 ≤ (len0 + sp.length) * 96 := Nat.mul_le_mul_right _ (by omega)
      omega
  clear hA0 hval0
  refine (walk a0 len0 cap0 X0 a1 len1 cap1 X1 W row0 row1 hc0 hm0 hn96 hg0 hg1).mono fun e W' ⟨he, bel⟩ => ?_
  subst he
  exact ⟨_, rfl, _, _, _, [], _, [], hW', trodAll_mk1 (shut_bool Try.underlying4 _), (trodAll_cons_mk (Below.trod laidOut (by kernel_rfl) (of_decide_eq_true (by kernel_rfl)) k0 bel lt0) (trodAll_cons_mk (Below.trod laidOut (by kernel_rfl) (of_decide_eq_true (by kernel_rfl)) k1 bel lt1) trodAll_mk0)), rfl, bel.frame _, fun h => by cases h⟩

theorem over : Rows.recordRisingRow.holds Try.pinned (OpenSpec.ofChange Rows.recordRisingSpec) :=
  OpenClaim.holds_of_wide 5 Try.f5 rfl rfl rfl rfl rfl rfl rfl ⟨rfl, rfl, rfl, rfl, rfl⟩ rfl rfl rfl rfl rfl (by kernel_rfl) Try.func5 (by kernel_rfl)
    (of_decide_eq_true (by kernel_rfl)) (by unfold Func.isWrapper; first | (rw [if_pos (by decide +kernel)]; kernel_rfl) | (rw [if_neg (by decide +kernel)]; exact ⟨rfl, rfl⟩))
    (fun os started H enc _ => lifted os started H enc)

end Go.Proofs.Ytffbehcbokmpkaa.recordRising
namespace Go.Proofs.Ytffbehcbokmpkaa
theorem recordRising_holds : Rows.RecordRisingSaid := recordRising.over
#print axioms recordRising_holds
end Go.Proofs.Ytffbehcbokmpkaa
