/-
  2 texts in one file, each with its own heading.
-/
import Derived.Test.YtcpgkkphibhdfaaGreatPrtJ
import Derived.Maps.Own
/-
  What the program's layingsOf (a map of closures) and lay of layer 6 answer.
-/
namespace Go.Proofs.YtcpgkkphibhdfaaGreat
open Go.RowKit

/-! a map in the heap's last block -/
theorem set_last (w : World) (o o' : Obj) : ({ w.alloc o with heap := (w.alloc o).heap.setIfInBounds w.heap.size o' } : World) = w.alloc o' := by
  have h : (w.alloc o).heap.setIfInBounds w.heap.size o' = (w.alloc o').heap := by
    show (w.heap.push o).setIfInBounds w.heap.size o' = w.heap.push o'
    refine Array.ext' ?_
    rw [Array.toList_setIfInBounds, Array.toList_push, Array.toList_push, ← Array.length_toList, List.set_append_right _ _ (Nat.le_refl _)]
    simp
  rw [h]
  rfl
theorem kind_law : Go.Maps.Keyed Tryz.prog 67 := Go.Maps.int_keyed Tryz.underlying67
theorem run_find {w : World} {es : List MapEntry} {k : Int} {r : Option (Nat × Value)} (h : Instr.findNow (.int .i64) (.int .i64 k) es 0 = some r) : (Instr.findKey 67 (.int .i64 k) es).run Tryz.prog w = .ok r w := by
  unfold Instr.findKey
  simp only [Sem.run_bind, run_underlying Tryz.underlying67, Result.andThen, h]
  rfl
theorem kind_key {k : Int} (hk : kOk k = true) : keyOf Tryz.prog 67 (.int .i64 k) = some (.int .i64 k) := by
  refine Go.Maps.keyOf_int_mk Tryz.underlying67 ?_
  rcases kOk_cases hk with rfl | rfl | rfl | rfl | rfl <;> decide
theorem run_put (w : World) (es : Array MapEntry) (n b : Nat) (hb : w.heap.size = b) {k : Int} (hk : kOk k = true) (v : Value) (hn : Instr.findNow (.int .i64) (.int .i64 k) es.toList 0 = some none) :
    (Instr.mapUpdate 189 (.map (some b)) (.int .i64 k) v).run Tryz.prog (w.alloc (.map es n)) = .ok () (w.alloc (.map (es.push ⟨.int .i64 k, v, n⟩) (n + 1))) := by
  subst hb
  have hh : (w.alloc (.map es n)).heap[w.heap.size]? = some (.map es n) := heap_alloc_new w (.map es n)
  simp [Instr.mapUpdate, run_underlying Tryz.underlying189, MapKept.run_getObj_map hh, kind_law.check (w.alloc (.map es n)) false (kind_key hk), run_find hn, MapKept.run_setObj_map _ hh, Result.andThen]
  exact set_last w _ _
theorem run_get {w : World} {es : Array MapEntry} {n b : Nat} (hb : w.heap[b]? = some (.map es n)) {k : Int} (hk : kOk k = true) {i : Nat} {v : Value} (hf : Instr.findNow (.int .i64) (.int .i64 k) es.toList 0 = some (some (i, v))) :
    (Instr.lookup 189 (.map (some b)) (.int .i64 k) false).run Tryz.prog w = .ok v w := by
  simp [Instr.lookup, run_underlying Tryz.underlying189, MapKept.run_getObj_map hb, kind_law.check w _ (kind_key hk), run_find hf, Result.andThen]
/-- the map's entries -/
def laysE (g : Nat) : Array MapEntry := #[⟨.int .i64 0, .func (.func (clOf 0)) #[] (capOf g 0), 0⟩, ⟨.int .i64 1, .func (.func (clOf 1)) #[] (capOf g 1), 1⟩, ⟨.int .i64 2, .func (.func (clOf 2)) #[] (capOf g 2), 2⟩, ⟨.int .i64 3, .func (.func (clOf 3)) #[] (capOf g 3), 3⟩, ⟨.int .i64 4, .func (.func (clOf 4)) #[] (capOf g 4), 4⟩]
theorem lays_get {w : World} {b g : Nat} (hb : w.heap[b]? = some (.map (laysE g) 5)) {k : Int} (hk : kOk k = true) :
    (Instr.lookup 189 (.map (some b)) (.int .i64 k) false).run Tryz.prog w = .ok (.func (.func (clOf k)) #[] (capOf g k)) w := by
  rcases kOk_cases hk with rfl | rfl | rfl | rfl | rfl
  · exact run_get hb hk (i := 0) rfl
  · exact run_get hb hk (i := 1) rfl
  · exact run_get hb hk (i := 2) rfl
  · exact run_get hb hk (i := 3) rfl
  · exact run_get hb hk (i := 4) rfl

set_option maxHeartbeats 1000000 in
set_option maxRecDepth 100000 in
theorem layings_any (X : List Value) (w : World) :
    Calls Tryz.prog 129 #[.agg X.toArray] w fun e w' => e = .returned (.map (some (w.heap.size + 1))) ∧ w' = (w.alloc (.cells X.toArray 44)).alloc (.map (laysE w.heap.size) 5) := by
  have hmm := @run_makeMap Tryz.prog
  have hp0 := run_put (w.alloc (.cells X.toArray 44)) #[] 0 (w.heap.size + 1) (by simp) (k := 0) rfl (.func (.func (clOf 0)) #[] (capOf w.heap.size 0)) rfl
  have hp1 := run_put (w.alloc (.cells X.toArray 44)) #[⟨.int .i64 0, .func (.func (clOf 0)) #[] (capOf w.heap.size 0), 0⟩] 1 (w.heap.size + 1) (by simp) (k := 1) rfl (.func (.func (clOf 1)) #[] (capOf w.heap.size 1)) rfl
  have hp2 := run_put (w.alloc (.cells X.toArray 44)) #[⟨.int .i64 0, .func (.func (clOf 0)) #[] (capOf w.heap.size 0), 0⟩, ⟨.int .i64 1, .func (.func (clOf 1)) #[] (capOf w.heap.size 1), 1⟩] 2 (w.heap.size + 1) (by simp) (k := 2) rfl (.func (.func (clOf 2)) #[] (capOf w.heap.size 2)) rfl
  have hp3 := run_put (w.alloc (.cells X.toArray 44)) #[⟨.int .i64 0, .func (.func (clOf 0)) #[] (capOf w.heap.size 0), 0⟩, ⟨.int .i64 1, .func (.func (clOf 1)) #[] (capOf w.heap.size 1), 1⟩, ⟨.int .i64 2, .func (.func (clOf 2)) #[] (capOf w.heap.size 2), 2⟩] 3 (w.heap.size + 1) (by simp) (k := 3) rfl (.func (.func (clOf 3)) #[] (capOf w.heap.size 3)) rfl
  have hp4 := run_put (w.alloc (.cells X.toArray 44)) #[⟨.int .i64 0, .func (.func (clOf 0)) #[] (capOf w.heap.size 0), 0⟩, ⟨.int .i64 1, .func (.func (clOf 1)) #[] (capOf w.heap.size 1), 1⟩, ⟨.int .i64 2, .func (.func (clOf 2)) #[] (capOf w.heap.size 2), 2⟩, ⟨.int .i64 3, .func (.func (clOf 3)) #[] (capOf w.heap.size 3), 3⟩] 4 (w.heap.size + 1) (by simp) (k := 4) rfl (.func (.func (clOf 4)) #[] (capOf w.heap.size 4)) rfl
  rw [show clOf 0 = 158 from rfl, show capOf w.heap.size 0 = #[.pointer (some ⟨w.heap.size, 0, none⟩)] from rfl] at hp0 hp1 hp2 hp3 hp4
  rw [show clOf 1 = 159 from rfl, show capOf w.heap.size 1 = #[.pointer (some ⟨w.heap.size, 0, none⟩)] from rfl] at hp1 hp2 hp3 hp4
  rw [show clOf 2 = 160 from rfl, show capOf w.heap.size 2 = #[.pointer (some ⟨w.heap.size, 0, none⟩)] from rfl] at hp2 hp3 hp4
  rw [show clOf 3 = 161 from rfl, show capOf w.heap.size 3 = #[.pointer (some ⟨w.heap.size, 0, none⟩)] from rfl] at hp3 hp4
  rw [show clOf 4 = 162 from rfl, show capOf w.heap.size 4 = #[] from rfl] at hp4
  simp only [List.push_toArray, List.nil_append, List.cons_append] at hp0 hp1 hp2 hp3 hp4
  go_enter Tryz.func129, Tryz.ntmps129
  go_wp2
  go_ret
  exact ⟨rfl, rfl⟩

end Go.Proofs.YtcpgkkphibhdfaaGreat
/-
  What the program's lay of layer 6 answers.
-/
namespace Go.Proofs.YtcpgkkphibhdfaaGreat
open Go.RowKit

theorem layings_ex (X : List Value) (w : World) :
    Calls Tryz.prog 129 #[.agg X.toArray] w fun e w' => ∃ G GM, e = .returned (.map (some GM)) ∧ w.heap.size ≤ G ∧ w'.heap[GM]? = some (.map (laysE G) 5) ∧ Blk w' G 44 X.toArray ∧ Below w.heap.size w w' := by
  refine (layings_any X w).mono ?_
  rintro e w' ⟨rfl, rfl⟩
  refine ⟨w.heap.size, w.heap.size + 1, rfl, Nat.le_refl _, ?_, (Blk.new w 44 X.toArray).alloc _, balloc (alloc_below _ _) _⟩
  have h := heap_alloc_new (w.alloc (.cells X.toArray 44)) (.map (laysE w.heap.size) 5)
  rw [World.size_alloc] at h
  exact h
theorem map_keep {w w' : World} {b n : Nat} {es : Array MapEntry} (h : w.heap[b]? = some (.map es n)) (hb : Below w.heap.size w w') : w'.heap[b]? = some (.map es n) := (hb.block b (Array.getElem?_eq_some_iff.1 h).1).trans h
theorem map_set {w : World} {b n : Nat} {es : Array MapEntry} (h : w.heap[b]? = some (.map es n)) {g t : Nat} {cs : Array Value} (hg : Blk w g t cs) (o : Nat) (v : Value) : (w.setCell ⟨g, o, none⟩ v).heap[b]? = some (.map es n) := by
  have hne : b ≠ g := fun e => by subst e; unfold Blk at hg; rw [hg] at h; cases h
  rw [← h]
  simp [World.setCell, Array.getElem?_modify, Ne.symm hne]
theorem map_sets : ∀ (vs : List Value) {w : World} {b n : Nat} {es : Array MapEntry} (_ : w.heap[b]? = some (.map es n)) {g t : Nat} {cs : Array Value} (_ : Blk w g t cs) (o : Nat), (w.setCells g o vs).heap[b]? = some (.map es n)
  | [], _, _, _, _, h, _, _, _, _, _ => h
  | v :: vs, _, _, _, _, h, _, _, _, hg, o => map_sets vs (map_set h hg o v) (hg.set_ o v) (o + 1)

set_option maxHeartbeats 4000000 in
set_option maxRecDepth 100000 in
theorem lay_any (P Q : PT) (a : Option Addr) (len cap : Nat) (ks : List Int) (w : World) (hbd : 0 ≤ P.1 ∧ P.1 ≤ 31) (hok : ksOk ks = true) (row : Row w a len ks) :
    Calls Tryz.prog 89 #[.agg (pl P).toArray, .agg (pl Q).toArray, .slice a len cap] w fun e w' => e = .returned (.agg (pl (withT P Q ks)).toArray) ∧ Below w.heap.size w w' := by
  have HL := Lib.hid row.1
  have hbig := row.2.1
  have HRow := Lib.hid row
  have HOk := Lib.hid hok
  clear row hok
  have KQ := Lib.hid (blkAt ((Blk.new (w.alloc (.cells (pl P).toArray 44)) 44 (pl Q).toArray).alloc (.cells (pl zT).toArray 44)) (g' := w.heap.size + 1) (by simp))
  go_enter Tryz.func89, Tryz.ntmps89
  go_wp2_with (refine wpList_load_mid rfl 44 (.tmp 4) rfl (w.heap.size + 1) 0 rfl (pl Q) _ (blk_whole KQ.out) Tryz.underlying44 rfl (pl_size Q) ?_)
  refine (layings_ex (pl Q) _).mono ?_
  rintro e w1 ⟨G, GM, rfl, hG, hm, kg, b1⟩
  have hG2 : w.heap.size + 1 + 1 + 1 ≤ G := by simpa using hG
  have KP := Lib.hid ((((Blk.new w 44 (pl P).toArray).alloc (.cells (pl Q).toArray 44)).alloc (.cells (pl zT).toArray 44)).keep b1)
  have KR := Lib.hid (blkAt ((Blk.new ((w.alloc (.cells (pl P).toArray 44)).alloc (.cells (pl Q).toArray 44)) 44 (pl zT).toArray).keep b1) (g' := w.heap.size + 1 + 1) (by simp))
  have HB := Lib.hid (bthen (balloc (balloc (alloc_below _ _) _) _) b1)
  have HM := Lib.hid hm
  have KG := Lib.hid kg
  clear b1 hm kg hG KQ
  go_wp2
  go_loopw [14] (fun i wr => ∃ j : Nat, ∃ P' : PT, j ≤ len ∧ i = .int .i64 j ∧ P' = withT P Q (ks.take j) ∧ (0 ≤ P'.1 ∧ P'.1 ≤ 31) ∧ Blk wr w.heap.size 44 (pl P').toArray ∧ Blk wr (w.heap.size + 1 + 1) 44 (pl zT).toArray ∧ Blk wr G 44 (pl Q).toArray ∧ wr.heap[GM]? = some (.map (laysE G) 5) ∧ Below w.heap.size w wr) (fun i _ => len - (intOf i).toNat)
  case atStart => exact ⟨0, P, by omega, rfl, rfl, hbd, KP.out, KR.out, KG.out, HM.out, HB.out⟩
  case round =>
    clear KP KR HB KG HM hbd
    obtain ⟨j, P', hj, rfl, hP, hbd, hp, hr, hg, hm, hb⟩ := hrel
    have HP := Lib.hid hP
    have KP := Lib.hid hp
    have KR := Lib.hid hr
    have KG := Lib.hid hg
    have HM := Lib.hid hm
    have HB := Lib.hid hb
    clear hP hp hr hg hm hb
    by_cases hlt : j < len
    · obtain ⟨b, off, k, rfl, hv, c0⟩ := row_at6 (row_keep HRow.out HB.out) hlt
      have hj0 : (0 : Int) ≤ (j : Int) := by omega
      have hj1 : (j : Int) < (len : Int) := by omega
      have hk : kOk k = true := List.all_eq_true.1 HOk.out k (List.mem_of_getElem? hv)
      have HK := Lib.hid hk
      have HW1 : Hid (withT P Q (ks.take (j + 1)) = (addK P'.1 k, (layT k P' Q).2)) := Lib.hid (by rw [with_succ hv, ← HP.out]; rfl)
      have HBd := Lib.hid (addK_bound hbd hk)
      have HA := Lib.hid (or_addK hbd hk)
      clear hv HP
      have hget := lays_get HM.out hk
      have hE := cl_enters hk
      have HC := Lib.hid (cl_any hk G P' Q)
      clear hk
      obtain ⟨Fn, hFn⟩ : ∃ Fn, Fn = clOf k := ⟨_, rfl⟩
      obtain ⟨cp, hcp⟩ : ∃ cp, cp = capOf G k := ⟨_, rfl⟩
      rw [← hFn, ← hcp] at hget
      rw [← hFn] at hE
      rw [← hFn, ← hcp] at HC
      clear hFn hcp
      unfold Enters at hE
      go_wp2_with (refine wpList_load_mid rfl 44 (.tmp 3) rfl w.heap.size 0 rfl (pl P') _ (blk_whole KP.out) Tryz.underlying44 rfl (pl_size P') ?_)
      refine (HC.out _ KG.out).mono ?_
      rintro e w3 ⟨rfl, b3⟩
      clear hget hE HC
      obtain ⟨P2, hP2⟩ : ∃ P2, P2 = layT k P' Q := ⟨_, rfl⟩
      have hH : P2.1 = P'.1 := by rw [hP2]; exact layT_has k P' Q
      rw [← hP2] at HW1
      rw [← hP2]
      clear hP2
      replace KP := Lib.hid (Blk.keep KP.out b3)
      replace KR := Lib.hid (Blk.keep KR.out b3)
      replace KG := Lib.hid (Blk.keep KG.out b3)
      replace HM := Lib.hid (map_keep HM.out b3)
      replace HB := Lib.hid (bthen HB.out b3)
      clear b3 c0
      rw [← hH] at HA HW1 HBd
      clear hH hbd
      have HS5 := Lib.hid (splice_all (X := pl P2) (Z := pl P') rfl ▸ blk_setCells (pl P2) KP.out (by simp [pl_len]))
      go_wp2_with (refine wpList_store_mid rfl 44 (.tmp 3) (.tmp 22) rfl w.heap.size 0 (pl P2).toArray rfl rfl (blk_there KP.out (by simp [pl_len])) (pl_size' _) (pl_one _) ?_)
      refine fin (fun W => Blk W w.heap.size 44 (pl P2).toArray ∧ Blk W (w.heap.size + 1 + 1) 44 (pl zT).toArray ∧ Blk W G 44 (pl Q).toArray ∧ W.heap[GM]? = some (.map (laysE G) 5) ∧ Below w.heap.size w W) ⟨HS5.out, blk_setFar _ KR.out (by omega), blk_setFar _ KG.out (by omega), map_sets _ HM.out KP.out 0, below_setCells _ HB.out (Nat.le_refl _)⟩ ?_
      clear KP KR KG HM HB HS5
      rintro W ⟨kp, kr, kg, hm, hb⟩
      have KP := Lib.hid kp
      have KR := Lib.hid kr
      have KG := Lib.hid kg
      have HM := Lib.hid hm
      have HB := Lib.hid hb
      clear kr kg hm hb
      have cp0 : W.cell? ⟨w.heap.size, 0, none⟩ = some (.int .i64 P2.1) := kp.cell 0
      have fp0 : W.frozen? ⟨w.heap.size, 0, none⟩ = false := kp.frozen 0
      clear kp
      have KPs : Hid (∀ v, Blk (W.setCell ⟨w.heap.size, 0, none⟩ (.int .i64 v)) w.heap.size 44 (pl (v, P2.2)).toArray) := Lib.hid (fun v => by have := KP.out.set_ 0 (.int .i64 v); simpa [pl_set] using this)
      go_wp2
      refine wp_region_held_drew (S := fun _ => True) (by kernel_rfl) trivial (fun hHeld => ?_)
      refine wpAnyH_take (i := 0) (v := ?_) rfl (by kernel_rfl) (by kernel_rfl) (by kernel_rfl) (fun _ _ _ h => h) (Or.inl ⟨by rfl, ?_⟩) hHeld ?_
      rotate_left
      · intro w hSw
        go_simp
        with_reducible rfl
      simp only [Act.put, List.getElem_toArray, List.getElem_cons_zero, List.setIfInBounds_toArray, List.set_cons_zero, List.set_cons_succ]
      refine wpAnyH_take (i := 2) (v := ?_) rfl (by kernel_rfl) (by kernel_rfl) (by kernel_rfl) (fun _ _ _ h => h) (Or.inl ⟨by rfl, ?_⟩) hHeld ?_
      rotate_left
      · intro w hSw
        go_simp
        with_reducible rfl
      simp only [Act.put, List.getElem_toArray, List.getElem_cons_zero, List.getElem_cons_succ, List.setIfInBounds_toArray, List.set_cons_zero, List.set_cons_succ]
      refine wpAnyH_ready (rs := [1, 3]) (by kernel_rfl) (by simp) ?_
      refine AllReadyH.cons rfl (fun K hK => ?_) (AllReadyH.cons rfl (fun K hK => ?_) AllReadyH.nil)
      · go_simp
        refine hK.out _ _ trivial (fun hHeld => ?_)
        clear hK K
        refine wpAnyH_ready (rs := [3]) (by kernel_rfl) (by simp) ?_
        refine AllReadyH.cons rfl (fun K hK => ?_) AllReadyH.nil
        go_simp
        go_at_call 130
        refine (pbit_any HK.out _).mono ?_
        rintro e w6 ⟨rfl, rfl⟩
        go_wp2_with fail
        refine hK.out _ _ trivial (fun hHeld => ?_)
        clear hK K
        refine wpAnyH_take (i := 4) (v := ?_) rfl (by kernel_rfl) (by kernel_rfl) (by kernel_rfl) (fun _ _ _ h => h) (Or.inl ⟨by rfl, ?_⟩) hHeld ?_
        rotate_left
        · intro w hSw
          go_simp
          with_reducible rfl
        simp only [Act.put, List.getElem_toArray, List.getElem_cons_zero, List.getElem_cons_succ, List.setIfInBounds_toArray, List.set_cons_zero, List.set_cons_succ]
        refine wpAnyH_take (i := 5) (v := ?_) rfl (by kernel_rfl) (by kernel_rfl) (by kernel_rfl) (fun _ _ _ h => h) (Or.inl ⟨by rfl, ?_⟩) hHeld ?_
        rotate_left
        · intro w hSw
          go_simp
          with_reducible rfl
        simp only [Act.put, List.getElem_toArray, List.getElem_cons_zero, List.getElem_cons_succ, List.setIfInBounds_toArray, List.set_cons_zero, List.set_cons_succ]
        refine wpAnyH_ready (rs := [6]) (by kernel_rfl) (by simp) ?_
        refine AllReadyH.cons rfl (fun K hK => ?_) AllReadyH.nil
        rw [HA.out]
        go_simp
        refine hK.out _ _ trivial (fun hHeld => ?_)
        clear hK K
        refine wpAnyH_done (by kernel_rfl) ?_ _
        clear hHeld
        refine fin (fun W => Blk W w.heap.size 44 (pl (addK P2.1 k, P2.2)).toArray ∧ Blk W (w.heap.size + 1 + 1) 44 (pl zT).toArray ∧ Blk W G 44 (pl Q).toArray ∧ W.heap[GM]? = some (.map (laysE G) 5) ∧ Below w.heap.size w W) ⟨Blk.drew (KPs.out _), Blk.drew (KR.out.far (p := ⟨w.heap.size, 0, none⟩) (by simp; omega) _), Blk.drew (KG.out.far (p := ⟨w.heap.size, 0, none⟩) (by simp; omega) _), map_set HM.out KP.out 0 _, bdrewn (HB.out.setCell (p := ⟨w.heap.size, 0, none⟩) (Nat.le_refl _) _)⟩ ?_
        clear KP KR KG HM HB KPs cp0 fp0
        rintro W2 ⟨kp, kr, kg, hm, hb⟩
        have KP := Lib.hid kp
        have KR := Lib.hid kr
        have KG := Lib.hid kg
        have HM := Lib.hid hm
        have HB := Lib.hid hb
        clear kp kr kg hm hb
        go_wp2
        go_roundw
        case rel => exact ⟨j + 1, (addK P2.1 k, P2.2), by omega, by go_num, HW1.out.symm, HBd.out, KP.out, KR.out, KG.out, HM.out, HB.out⟩
        case measure => simp [intOf] <;> omega
      · go_simp
        go_at_call 130
        refine (pbit_any HK.out _).mono ?_
        rintro e w6 ⟨rfl, rfl⟩
        go_wp2_with fail
        refine hK.out _ _ trivial (fun hHeld => ?_)
        clear hK K
        refine wpAnyH_ready (rs := [1]) (by kernel_rfl) (by simp) ?_
        refine AllReadyH.cons rfl (fun K hK => ?_) AllReadyH.nil
        go_simp
        refine hK.out _ _ trivial (fun hHeld => ?_)
        clear hK K
        refine wpAnyH_take (i := 4) (v := ?_) rfl (by kernel_rfl) (by kernel_rfl) (by kernel_rfl) (fun _ _ _ h => h) (Or.inl ⟨by rfl, ?_⟩) hHeld ?_
        rotate_left
        · intro w hSw
          go_simp
          with_reducible rfl
        simp only [Act.put, List.getElem_toArray, List.getElem_cons_zero, List.getElem_cons_succ, List.setIfInBounds_toArray, List.set_cons_zero, List.set_cons_succ]
        refine wpAnyH_take (i := 5) (v := ?_) rfl (by kernel_rfl) (by kernel_rfl) (by kernel_rfl) (fun _ _ _ h => h) (Or.inl ⟨by rfl, ?_⟩) hHeld ?_
        rotate_left
        · intro w hSw
          go_simp
          with_reducible rfl
        simp only [Act.put, List.getElem_toArray, List.getElem_cons_zero, List.getElem_cons_succ, List.setIfInBounds_toArray, List.set_cons_zero, List.set_cons_succ]
        refine wpAnyH_ready (rs := [6]) (by kernel_rfl) (by simp) ?_
        refine AllReadyH.cons rfl (fun K hK => ?_) AllReadyH.nil
        rw [HA.out]
        go_simp
        refine hK.out _ _ trivial (fun hHeld => ?_)
        clear hK K
        refine wpAnyH_done (by kernel_rfl) ?_ _
        clear hHeld
        refine fin (fun W => Blk W w.heap.size 44 (pl (addK P2.1 k, P2.2)).toArray ∧ Blk W (w.heap.size + 1 + 1) 44 (pl zT).toArray ∧ Blk W G 44 (pl Q).toArray ∧ W.heap[GM]? = some (.map (laysE G) 5) ∧ Below w.heap.size w W) ⟨Blk.drew (KPs.out _), Blk.drew (KR.out.far (p := ⟨w.heap.size, 0, none⟩) (by simp; omega) _), Blk.drew (KG.out.far (p := ⟨w.heap.size, 0, none⟩) (by simp; omega) _), map_set HM.out KP.out 0 _, bdrewn (HB.out.setCell (p := ⟨w.heap.size, 0, none⟩) (Nat.le_refl _) _)⟩ ?_
        clear KP KR KG HM HB KPs cp0 fp0
        rintro W2 ⟨kp, kr, kg, hm, hb⟩
        have KP := Lib.hid kp
        have KR := Lib.hid kr
        have KG := Lib.hid kg
        have HM := Lib.hid hm
        have HB := Lib.hid hb
        clear kp kr kg hm hb
        go_wp2
        go_roundw
        case rel => exact ⟨j + 1, (addK P2.1 k, P2.2), by omega, by go_num, HW1.out.symm, HBd.out, KP.out, KR.out, KG.out, HM.out, HB.out⟩
        case measure => simp [intOf] <;> omega
    · obtain rfl : j = len := by omega
      have et : ks.take j = ks := List.take_of_length_le (by rw [HL.out]; exact Nat.le_refl _)
      rw [et] at HP
      clear et hbd
      have HS5 := Lib.hid (splice_all (X := pl P') (Z := pl zT) rfl ▸ blk_setCells (pl P') KR.out (by simp [pl_len]))
      go_wp2_with (first | refine wpList_store_mid rfl 44 (.tmp 6) (.tmp 30) rfl (w.heap.size + 1 + 1) 0 (pl P').toArray rfl rfl (blk_there KR.out (by simp [pl_len])) (pl_size' _) (pl_one _) ?_ | refine wpList_load_mid rfl 44 (.tmp 3) rfl w.heap.size 0 rfl (pl P') _ (blk_whole KP.out) Tryz.underlying44 rfl (pl_size P') ?_)
      refine fin (fun W => Blk W (w.heap.size + 1 + 1) 44 (pl P').toArray ∧ Below w.heap.size w W) ⟨HS5.out, below_setCells _ HB.out (by omega)⟩ ?_
      rintro W ⟨kr, hb⟩
      have hl := run_loadVar_mid W (w.heap.size + 1 + 1) 0 44 (pl P') _ (blk_whole kr) Tryz.underlying44 rfl (pl_size P')
      simp only [Act.put, List.setIfInBounds_toArray, List.set_cons_zero, List.set_cons_succ]
      exact bodyPost_ret (v := .agg (pl P').toArray) (results_cell Tryz.results89 rfl hl) rfl ⟨by rw [HP.out], hb⟩

end Go.Proofs.YtcpgkkphibhdfaaGreat
