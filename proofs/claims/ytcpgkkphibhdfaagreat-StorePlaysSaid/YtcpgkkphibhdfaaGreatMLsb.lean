/-
  2 texts in one file, each with its own heading.
-/
import Derived.Test.YtcpgkkphibhdfaaGreatLstA
import Derived.Deep.RegionHeld3
import Derived.Test.YtcpgkkphibhdfaaGreatStoE
/-
  The landed store: what find, need, remove and add answer.
-/
namespace Go.Proofs.YtcpgkkphibhdfaaGreat
open Go.RowKit

section
variable {w : World} {g p mb : Nat} {S : St} {ls lt : Nat → Int} {ts : Nat → Option Nat} {Lf : Nat → Nat → Prop} {gv : Value} {lab : Nat → Nat} {F : Nat → Prop}
theorem LM.c0 (h : LM w g S p mb ls lt ts Lf gv lab) : w.cell? ⟨g, 0, none⟩ = some (.pointer (some ⟨p, 0, none⟩)) := h.row.cell (by omega)
theorem LM.c1 (h : LM w g S p mb ls lt ts Lf gv lab) : w.cell? ⟨g, 1, none⟩ = some (.map (some mb)) := h.row.cell (by omega)
theorem LM.c2 (h : LM w g S p mb ls lt ts Lf gv lab) : w.cell? ⟨g, 2, none⟩ = some (.int .i64 S.now) := h.row.cell (by omega)
theorem LM.cS (h : LM w g S p mb ls lt ts Lf gv lab) {k : Nat} (hk : k < 256) : w.cell? ⟨g, 3 + k * 2, none⟩ = some (.int .i64 (ls k)) := by rw [h.row.cell (by omega), lF_set hk]
theorem LM.cT (h : LM w g S p mb ls lt ts Lf gv lab) {k : Nat} (hk : k < 256) : w.cell? ⟨g, 3 + k * 2 + 1, none⟩ = some (.int .i64 (lt k)) := by rw [h.row.cell (by omega), lF_tick hk]
theorem LM.c515 (h : LM w g S p mb ls lt ts Lf gv lab) : w.cell? ⟨g, 515, none⟩ = some gv := h.row.cell (by omega)
theorem CM.join {w w1 w2 : World} {g : Nat} {S : St} {ls lt : Nat → Int} {F F' : Nat → Prop} (hfr : Fr w w1 F) (hn : ∀ b, F' b → F b ∨ w.heap.size ≤ b) (k : CM w1 w2 g F' S ls lt) : CM w w2 g F S ls lt := by
  obtain ⟨F'', k1, k2, k3⟩ := k
  refine ⟨F'', k1, ⟨k2.1.trans hfr.1, k2.2.1.trans hfr.2.1, k2.2.2.1.trans hfr.2.2.1, Nat.le_trans hfr.2.2.2.1 k2.2.2.2.1, fun b hb hnn => ?_⟩, fun b hb => ?_⟩
  · refine (k2.2.2.2.2 b (Nat.lt_of_lt_of_le hb hfr.2.2.2.1) (fun c => ?_)).trans (hfr.2.2.2.2 b hb hnn)
    rcases hn b c with d | d
    · exact hnn d
    · omega
  · rcases k3 b hb with d | d
    · exact hn b d
    · exact Or.inr (Nat.le_trans hfr.2.2.2.1 d)
theorem TM.drewN (h : TM w mb ts) (n : Nat) : TM (w.drewN n) mb ts := h
/-- an index -/
theorem ix_any {id : Int} (ho : idOk id = true) : ∃ k : Nat, k < 256 ∧ (id % 256).toNat = k ∧ ∀ w', Calls Tryz.prog 48 #[.int .i64 id] w' fun e w'' => e = .returned (.int .i64 (k : Int)) ∧ w' = w'' := by
  obtain ⟨i, q, hi, hq, hx, ht, hd⟩ := id_parts ho
  exact ⟨i, hi, by omega, fun w' => (qindex id w').mono fun _ _ ⟨he, hw⟩ => ⟨by rw [he, if_pos ho, show id % 256 = (i : Int) by omega], hw⟩⟩

set_option maxHeartbeats 2000000 in
set_option maxRecDepth 100000 in
theorem lfind_any (h : LM w g S p mb ls lt ts Lf gv lab) (id : Int) (ho : idOk id = true) {i a : Nat} (hi : i < 32) (hl : ls (id % 256).toNat = (i : Int)) (hts : ts i = some a) (hR : (S.T i).length ≤ 1000) :
    Calls Tryz.prog 42 #[.pointer (some ⟨g, 0, none⟩), .int .i64 id] w fun e w' => e = .returned (.tuple #[.pointer (some ⟨a, 0, none⟩), .int .i64 (findI (S.T i) id)]) ∧ Below w.heap.size w w' := by
  obtain ⟨k, hk, hk2, hix⟩ := ix_any ho
  have HIx := Lib.hid hix
  have c1 := h.c1
  have cs := h.cS hk
  rw [← hk2, hl] at cs
  have hm := h.map.get hi
  rw [hts] at hm
  have hm2 : ∀ n, (Instr.lookup 72 (.map (some mb)) (.int .i64 i) false).run Tryz.prog (w.drewN n) = .ok (.pointer (some ⟨a, 0, none⟩)) (w.drewN n) := fun n => by
    have := (h.map.drewN n).get hi
    rw [hts] at this
    exact this
  have ht := h.tab i hi
  rw [hts] at ht
  replace ht : TBl w a (Lf i) i (S.T i) := ht
  have HFd : Hid (∀ n, Calls Tryz.prog 77 #[.pointer (some ⟨a, 0, none⟩), .int .i64 id] (w.drewN n) fun e w' => e = .returned (.int .i64 (findI (S.T i) id)) ∧ (w.drewN n) = w') := Lib.hid (fun n => by
    have ht' : TBl (w.drewN n) a (Lf i) i (S.T i) := TBl.keep ht (Go.below_drewN (Below.refl _ _) n)
    obtain ⟨v, h1, _⟩ := ht'
    exact find_any h1 hR id)
  have hg := h.row.lt
  have k0 : (0 : Int) ≤ (k : Int) := by omega
  have k1 : (k : Int) < 256 := by omega
  rw [hk2] at cs
  clear h ht hts hl hR ho hix hk2 hm
  go_enter Tryz.func42, Tryz.ntmps42
  go_wp2
  go_quiet (first | (go_at_call 48; refine Calls.quiet_of_same ((HIx.out _).mono fun _ _ q => ⟨q.1, q.2.symm⟩)))
  go_wp2_with fail
  refine (HFd.out _).mono ?_
  rintro e w2 ⟨rfl, rfl⟩
  go_wp2
  go_ret2
  exact ⟨rfl, Go.below_drewN (Below.refl _ _) nq⟩

set_option maxHeartbeats 2000000 in
set_option maxRecDepth 100000 in
theorem lremove_any (h : LM w g S p mb ls lt ts Lf gv lab) (hF : ∀ b, F b ↔ lfoot g p mb Lf gv b) (id : Int) (ho : idOk id = true) {i a : Nat} (hi : i < 32) (hl : ls (id % 256).toNat = (i : Int)) (hts : ts i = some a) (hR : (S.T i).length ≤ 1000) :
    Calls Tryz.prog 50 #[.pointer (some ⟨g, 0, none⟩), .int .i64 id] w fun e w' => e = .returned (.tuple #[]) ∧ CM w w' g F { S with T := upf S.T i (tcuR (S.T i) (findI (S.T i) id)) } ls lt := by
  have HFi := Lib.hid (lfind_any h id ho hi hl hts hR)
  have HC : Hid (∀ u, Below w.heap.size w u → Calls Tryz.prog 86 #[.pointer (some ⟨a, 0, none⟩), .int .i64 (findI (S.T i) id)] u fun e w' => ∃ x y : Int, e = .returned (.tuple #[.int .i64 x, .int .i64 y]) ∧ CM w w' g F { S with T := upf S.T i (tcuR (S.T i) (findI (S.T i) id)) } ls lt) := Lib.hid (fun u k => by
    have h1 := h.keep k
    have ht := h1.tab i hi
    rw [hts] at ht
    refine (tcut_any u a (Lf i) i (S.T i) (findI (S.T i) id) hR ht).mono ?_
    rintro e w' ⟨L', rfl, t1, t2, t3⟩
    exact ⟨_, _, rfl, (h1.tabled hF hi hts t1 t2 t3).of k⟩)
  obtain ⟨q, hq⟩ : ∃ q, q = findI (S.T i) id := ⟨_, rfl⟩
  obtain ⟨S', hS'⟩ : ∃ S', S' = { S with T := upf S.T i (tcuR (S.T i) (findI (S.T i) id)) } := ⟨_, rfl⟩
  rw [← hS'] at HC
  rw [← hS']
  rw [← hq] at HFi HC
  clear h hF hq hS' hl hts hR ho
  go_enter Tryz.func50, Tryz.ntmps50
  go_wp2_with fail
  refine HFi.out.mono ?_
  rintro e w1 ⟨rfl, b1⟩
  have B1 := Lib.hid b1
  clear b1
  go_wp2_with fail
  refine (HC.out _ B1.out).mono ?_
  rintro e w2 ⟨x, y, rfl, hc⟩
  have HC2 := Lib.hid hc
  clear hc
  go_wp2
  go_end0
  exact ⟨rfl, HC2.out⟩

set_option maxHeartbeats 2000000 in
set_option maxRecDepth 100000 in
/-- a table that is there -/
theorem lneed_old (h : LM w g S p mb ls lt ts Lf gv lab) {i a : Nat} (hi : i < 32) (hts : ts i = some a) :
    Calls Tryz.prog 73 #[.pointer (some ⟨g, 0, none⟩), .int .i64 i] w fun e w' => e = .returned (.pointer (some ⟨a, 0, none⟩)) ∧ w = w' := by
  have c1 := h.c1
  have hm := h.map.get hi
  rw [hts] at hm
  replace hm : (Instr.lookup 72 (.map (some mb)) (.int .i64 i) false).run Tryz.prog w = .ok (.pointer (some ⟨a, 0, none⟩)) w := hm
  have hg := h.row.lt
  clear h hts
  go_enter Tryz.func73, Tryz.ntmps73
  go_wp2
  go_ret
  exact ⟨rfl, rfl⟩
set_option maxHeartbeats 2000000 in
set_option maxRecDepth 100000 in
/-- a table that is not there yet -/
theorem lneed_new (h : LM w g S p mb ls lt ts Lf gv lab) (hF : ∀ b, F b ↔ lfoot g p mb Lf gv b) {i : Nat} (hi : i < 32) (hts : ts i = none) :
    Calls Tryz.prog 73 #[.pointer (some ⟨g, 0, none⟩), .int .i64 i] w fun e w' => ∃ a L' lab', e = .returned (.pointer (some ⟨a, 0, none⟩)) ∧ LM w' g S p mb ls lt (upf ts i (some a)) (upf Lf i L') gv lab' ∧ Fr w w' F ∧ ∀ b, lfoot g p mb (upf Lf i L') gv b → F b ∨ w.heap.size ≤ b := by
  have c1 := h.c1
  have hm := h.map.get hi
  rw [hts] at hm
  replace hm : (Instr.lookup 72 (.map (some mb)) (.int .i64 i) false).run Tryz.prog w = .ok (.pointer none) w := hm
  have hg := h.row.lt
  have HN : Hid (∀ u, Below w.heap.size w u → Calls Tryz.prog 104 #[.int .i64 i] u fun e w1 => ∃ a, e = .returned (.tuple #[.pointer (some ⟨a, 0, none⟩), .int .i64 0]) ∧ ∃ w2, (Instr.mapUpdate 72 (.map (some mb)) (.int .i64 i) (.pointer (some ⟨a, 0, none⟩))).run Tryz.prog w1 = .ok () w2 ∧ (∃ L' lab', LM w2 g S p mb ls lt (upf ts i (some a)) (upf Lf i L') gv lab' ∧ Fr w w2 F ∧ ∀ b, lfoot g p mb (upf Lf i L') gv b → F b ∨ w.heap.size ≤ b) ∧ w1.cell? ⟨g, 1, none⟩ = some (.map (some mb)) ∧ w2.cell? ⟨g, 1, none⟩ = some (.map (some mb)) ∧ g < w2.heap.size ∧ (Instr.lookup 72 (.map (some mb)) (.int .i64 i) false).run Tryz.prog w2 = .ok (.pointer (some ⟨a, 0, none⟩)) w2) := Lib.hid (fun u k => by
    refine (new_any u i (by omega)).mono ?_
    rintro e w1 ⟨a, L', rfl, t1, t2, t3⟩
    have hb : Below w.heap.size w w1 := bthen k t3
    obtain ⟨w2, hr, m1, m2⟩ := ((h.keep hb).map).put hi a
    have hX := h.need hF hi hts hb t1 (fun b c => Nat.le_trans k.size (t2 b c)) m1 m2
    have hq := m1.get hi
    rw [show upf ts i (some a) i = some a by unfold upf; rw [if_pos rfl]] at hq
    exact ⟨a, rfl, w2, hr, ⟨L', _, hX⟩, (h.keep hb).c1, hX.1.c1, hX.1.row.lt, hq⟩)
  clear h hF hts
  go_enter Tryz.func73, Tryz.ntmps73
  go_wp2
  go_region_held3 (fun w' => w'.cell? ⟨g, 1, none⟩ = some (.map (some mb))) (first | exact c1 | go_keep)
    (first | (go_at_call 104; refine (HN.out _ (bdrewn (Below.refl _ _))).mono ?_; rintro e w1 ⟨a, rfl, w2, hrun, hrest, c2, c3, z3, hl3⟩; have HR := Lib.hid hrest; clear hrest))
  go_wp2
  go_ret
  obtain ⟨L', lab', hx⟩ := HR.out
  exact ⟨a, L', lab', rfl, hx⟩

/-- a set's table, new or old -/
theorem lneed_any (h : LM w g S p mb ls lt ts Lf gv lab) (hF : ∀ b, F b ↔ lfoot g p mb Lf gv b) {i : Nat} (hi : i < 32) :
    Calls Tryz.prog 73 #[.pointer (some ⟨g, 0, none⟩), .int .i64 i] w fun e w' => ∃ a ts' Lf' lab', e = .returned (.pointer (some ⟨a, 0, none⟩)) ∧ ts' i = some a ∧ LM w' g S p mb ls lt ts' Lf' gv lab' ∧ Fr w w' F ∧ ∀ b, lfoot g p mb Lf' gv b → F b ∨ w.heap.size ≤ b := by
  cases hts : ts i with
  | some a => exact (lneed_old h hi hts).mono fun _ _ ⟨he, hw⟩ => ⟨a, ts, Lf, lab, he, hts, hw ▸ h, hw ▸ fr_refl _ _, fun b c => Or.inl ((hF b).2 c)⟩
  | none => exact (lneed_new h hF hi hts).mono fun _ _ ⟨a, L', lab', he, hx, hf, hn⟩ => ⟨a, _, _, lab', he, by unfold upf; rw [if_pos rfl], hx, hf, hn⟩
end
end Go.Proofs.YtcpgkkphibhdfaaGreat
/-
  The landed store: what add answers.
-/
namespace Go.Proofs.YtcpgkkphibhdfaaGreat
open Go.RowKit

theorem pxs (P : PT) : PXs (pl P) := ⟨pl_len _, pl_size _, pl_size' _, pl_one _⟩
section
variable {w : World} {g p mb : Nat} {S : St} {ls lt : Nat → Int} {ts : Nat → Option Nat} {Lf : Nat → Nat → Prop} {gv : Value} {lab : Nat → Nat} {F : Nat → Prop}
/-- a table's Add -/
theorem LM.added {a : Nat} (h : LM w g S p mb ls lt ts Lf gv lab) (hF : ∀ b, F b ↔ lfoot g p mb Lf gv b) {i : Nat} (hi : i < 32) (hts : ts i = some a) (hR : (S.T i).length ≤ 1000) (id : Int) (P : PT) :
    Calls Tryz.prog 74 #[.pointer (some ⟨a, 0, none⟩), .int .i64 id, .agg (pl P).toArray] w fun e w' => ∃ x y : Int, e = .returned (.tuple #[.int .i64 x, .int .i64 y]) ∧ CM w w' g F { S with T := upf S.T i (tadR i (S.T i) id P) } ls lt := by
  have ht := h.tab i hi
  rw [hts] at ht
  refine (tadd_any w a (Lf i) i (S.T i) id P hR ht).mono ?_
  rintro e w' ⟨L', rfl, t1, t2, t3⟩
  exact ⟨_, _, rfl, h.tabled hF hi hts t1 t2 t3⟩
theorem CM.blk {w w' : World} {g : Nat} {S : St} {ls lt : Nat → Int} {F : Nat → Prop} (h : CM w w' g F S ls lt) {b : Nat} (hb : b < w.heap.size) (hn : ¬ F b) : w'.heap[b]? = w.heap[b]? := by
  obtain ⟨F', h1, h2, h3⟩ := h
  exact h2.2.2.2.2 b hb hn
theorem CM.size {w w' : World} {g : Nat} {S : St} {ls lt : Nat → Int} {F : Nat → Prop} (h : CM w w' g F S ls lt) : w.heap.size ≤ w'.heap.size := by
  obtain ⟨F', h1, h2, h3⟩ := h
  exact h2.2.2.2.1
set_option maxHeartbeats 4000000 in
set_option maxRecDepth 100000 in
theorem ladd_any (h0 : LB w g F S ls lt) (id : Int) (ho : idOk id = true) (P : PT) {i : Nat} (hi : i < 32) (hP : P.1 = (i : Int)) (hR : (S.T i).length ≤ 1000) :
    Calls Tryz.prog 40 #[.pointer (some ⟨g, 0, none⟩), .int .i64 id, .agg (pl P).toArray] w fun e w' => e = .returned (.tuple #[]) ∧ CM w w' g F { S with T := upf S.T i (tadR i (S.T i) id P) } (upf ls (id % 256).toNat i) (upf lt (id % 256).toNat S.now) := by
  obtain ⟨k, hk, hk2, hix⟩ := ix_any ho
  have HIx := Lib.hid hix
  rw [hk2]
  have hcP : (pl P)[0]? = some (.int .i64 (i : Int)) := by rw [← hP]; rfl
  obtain ⟨U, hU⟩ : ∃ U, U = (w.alloc (.cells (pl P).toArray 44)) := ⟨_, rfl⟩
  have hUB : Below w.heap.size w U := by rw [hU]; exact alloc_below _ _
  obtain ⟨S1, hS1⟩ : ∃ S1, S1 = { S with T := upf S.T i (tadR i (S.T i) id P) } := ⟨_, rfl⟩
  have hnow : S1.now = S.now := by rw [hS1]
  have hFw : ¬ F w.heap.size := by
    obtain ⟨p, mb, ts, Lf, gv, lab, h, hF⟩ := h0
    exact fun c => by have := h.inb _ ((hF _).1 c); omega
  have HNd : Hid (Calls Tryz.prog 73 #[.pointer (some ⟨g, 0, none⟩), .int .i64 i] U.drew fun e w1 => ∃ a, e = .returned (.pointer (some ⟨a, 0, none⟩)) ∧ w1.heap[w.heap.size]? = U.heap[w.heap.size]? ∧ Calls Tryz.prog 74 #[.pointer (some ⟨a, 0, none⟩), .int .i64 id, .agg (pl P).toArray] w1 fun e w2 => ∃ x y : Int, e = .returned (.tuple #[.int .i64 x, .int .i64 y]) ∧ CM U w2 g F S1 ls lt ∧ w2.heap[w.heap.size]? = U.heap[w.heap.size]?) := Lib.hid (by
    obtain ⟨p, mb, ts, Lf, gv, lab, h, hF⟩ := h0
    have hbd : Below U.heap.size U U.drew := bdrewn (Below.refl _ _)
    refine (lneed_any ((h.keep hUB).keep hbd) hF hi).mono ?_
    rintro e w1 ⟨a, ts', Lf', lab', rfl, hts, h1, h2, h3⟩
    have hw : w.heap.size < U.heap.size := by rw [hU]; simp
    have hcm : CM U w1 g F S ls lt := CM.of ⟨lfoot g p mb Lf' gv, ⟨p, mb, ts', Lf', gv, lab', h1, fun _ => Iff.rfl⟩, h2, h3⟩ hbd
    refine ⟨a, rfl, hcm.blk hw hFw, ?_⟩
    refine (h1.added (fun _ => Iff.rfl) hi hts hR id P).mono ?_
    rintro e w2 ⟨x, y, rfl, h4⟩
    have hcm2 : CM U w2 g F S1 ls lt := by
      rw [hS1]
      exact (CM.join h2 h3 h4).of hbd
    exact ⟨x, y, rfl, hcm2, hcm2.blk hw hFw⟩)
  obtain ⟨X, hX⟩ : ∃ X, X = pl P := ⟨_, rfl⟩
  have HX : Hid (PXs X) := Lib.hid (by rw [hX]; exact pxs P)
  rw [← hX] at HNd hcP hU ⊢
  rw [← hS1]
  have hBU : Blk U w.heap.size 44 X.toArray := by rw [hU]; exact Blk.new w _ _
  have HKB : Hid (∀ u : World, u.heap[w.heap.size]? = U.heap[w.heap.size]? → u.rangeAt w.heap.size 0 X ∧ u.cell? ⟨w.heap.size, 0, none⟩ = some (.int .i64 (i : Int)) ∧ w.heap.size < u.heap.size) := Lib.hid (fun u e => by
    have hb := hBU.same e
    refine ⟨blk_whole hb, ?_, hb.lt⟩
    rw [hb.cell]
    simpa using hcP)
  have HUB := Lib.hid hUB
  have HFw := Lib.hid hFw
  have HNow := Lib.hid hnow
  have HLB := Lib.hid h0
  have hgl := h0.inH
  have HU := Lib.hid hU
  clear hU h0 hX hS1 hBU hUB hFw hnow hR hP hix ho hk2 hcP
  go_enter Tryz.func40, Tryz.ntmps40
  go_upto_region 1 with fail
  refine fin (fun W => W = U) HU.out.symm ?_
  rintro W rfl
  clear HU
  obtain ⟨U, hUW⟩ : ∃ U, U = W := ⟨_, rfl⟩
  subst hUW
  obtain ⟨q1, q2, q3⟩ := HKB.out U rfl
  refine wp_region_held_drew (S := fun w' => w'.cell? ⟨w.heap.size, 0, none⟩ = some (.int .i64 (i : Int)) ∧ w'.rangeAt w.heap.size 0 X) (by kernel_rfl) (⟨q2, q1⟩) (fun hHeld => ?_)
  refine wpAnyH_take (i := 0) (v := ?_) rfl (by kernel_rfl) (by kernel_rfl) (by kernel_rfl) (fun _ _ _ h => h) (Or.inl ⟨by rfl, ?_⟩) hHeld ?_
  rotate_left
  · intro w hSw
    go_simp
    with_reducible rfl
  simp only [Act.put, List.getElem_toArray, List.getElem_cons_zero, List.setIfInBounds_toArray, List.set_cons_zero, List.set_cons_succ]
  refine wpAnyH_take (i := 1) (v := ?_) rfl (by kernel_rfl) (by kernel_rfl) (by kernel_rfl) (fun _ _ _ h => h) (Or.inl ⟨by rfl, ?_⟩) hHeld ?_
  rotate_left
  · intro w hSw
    go_simp
    with_reducible rfl
  simp only [Act.put, List.getElem_toArray, List.getElem_cons_zero, List.getElem_cons_succ, List.setIfInBounds_toArray, List.set_cons_zero, List.set_cons_succ]
  refine wpAnyH_take (i := 2) (v := ?_) rfl (by kernel_rfl) (by kernel_rfl) (by kernel_rfl) (fun _ _ _ h => h) (Or.inl ⟨by rfl, ?_⟩) hHeld ?_
  rotate_left
  · intro w hSw
    have hc := hSw.1
    go_simp
    with_reducible rfl
  simp only [Act.put, List.getElem_toArray, List.getElem_cons_zero, List.getElem_cons_succ, List.setIfInBounds_toArray, List.set_cons_zero, List.set_cons_succ]
  refine wpAnyH_take (i := 4) (v := ?_) rfl (by kernel_rfl) (by kernel_rfl) (by kernel_rfl) (fun _ _ _ h => h) (Or.inl ⟨by rfl, ?_⟩) hHeld ?_
  rotate_left
  · intro w hSw
    go_simp
    with_reducible rfl
  simp only [Act.put, List.getElem_toArray, List.getElem_cons_zero, List.getElem_cons_succ, List.setIfInBounds_toArray, List.set_cons_zero, List.set_cons_succ]
  refine wpAnyH_take (i := 5) (v := _) rfl (by kernel_rfl) (by kernel_rfl) (by kernel_rfl) (fun _ _ _ h => h) (yieldsIf_load_mid (by rfl) _ _ rfl _ _ rfl _ _ (fun _ h => h.2) Tryz.underlying44 rfl HX.out.2.1) hHeld ?_
  simp only [Act.put, List.getElem_toArray, List.getElem_cons_zero, List.getElem_cons_succ, List.setIfInBounds_toArray, List.set_cons_zero, List.set_cons_succ]
  refine wpAnyH_ready (rs := [3]) (by kernel_rfl) (by simp) ?_
  refine AllReadyH.cons rfl (fun K hK => ?_) AllReadyH.nil
  go_simp
  go_at_call 73
  refine (HNd.out).mono ?_
  rintro e w1 ⟨a, rfl, e1, hadd⟩
  have HE1 := Lib.hid e1
  have HAdd := Lib.hid hadd
  clear e1 hadd
  go_wp2_with fail
  refine hK.out _ _ (⟨(HKB.out _ HE1.out).2.1, (HKB.out _ HE1.out).1⟩) (fun hHeld => ?_)
  clear hK K
  refine wpAnyH_ready (rs := [6]) (by kernel_rfl) (by simp) ?_
  refine AllReadyH.cons rfl (fun K hK => ?_) AllReadyH.nil
  go_simp
  go_at_call 74
  refine (HAdd.out).mono ?_
  rintro e w2 ⟨x, y, rfl, hcm, e2⟩
  have HE2 := Lib.hid e2
  have HCM := Lib.hid hcm
  clear e2 hcm
  go_wp2_with fail
  refine hK.out _ _ (⟨(HKB.out _ HE2.out).2.1, (HKB.out _ HE2.out).1⟩) (fun hHeld => ?_)
  clear hK K
  refine wpAnyH_done (by kernel_rfl) ?_ _
  refine fin (fun W => W = w2) rfl ?_
  rintro W rfl
  obtain ⟨F', ⟨p, mb, ts, Lf, gv, lab, h, hF⟩, hfr, hnw⟩ := HCM.out
  obtain ⟨r1, cb, r3⟩ := HKB.out _ HE2.out
  have c2 := h.c2
  rw [HNow.out] at c2
  have cs := h.cS hk
  have ct := h.cT hk
  have fs := h.row.frozen (3 + k * 2)
  have ft := h.row.frozen (3 + k * 2 + 1)
  have HH := Lib.hid h
  have HFF := Lib.hid (And.intro hF (And.intro hfr hnw))
  have k0 : (0 : Int) ≤ (k : Int) := by omega
  have k1 : (k : Int) < 256 := by omega
  have hgW : g < W.heap.size := h.row.lt
  have hne : g ≠ w.heap.size := by omega
  have hrow2 := (h.row.set (3 + k * 2) (.int .i64 (i : Int))).set (3 + k * 2 + 1) (.int .i64 S.now)
  have HS3 : Hid (((W.setCell ⟨g, 3 + k * 2, none⟩ (.int .i64 (i : Int))).setCell ⟨g, 3 + k * 2 + 1, none⟩ (.int .i64 S.now)).drew.cell? ⟨w.heap.size, 0, none⟩ = some (.int .i64 (i : Int)) ∧ ((W.setCell ⟨g, 3 + k * 2, none⟩ (.int .i64 (i : Int))).setCell ⟨g, 3 + k * 2 + 1, none⟩ (.int .i64 S.now)).drew.cell? ⟨g, 2, none⟩ = some (.int .i64 S.now)) := Lib.hid ⟨by
    refine (HKB.out _ ?_).2.1
    refine Eq.trans ?_ HE2.out
    show ((W.setCell ⟨g, 3 + k * 2, none⟩ (.int .i64 (i : Int))).setCell ⟨g, 3 + k * 2 + 1, none⟩ (.int .i64 S.now)).heap[w.heap.size]? = _
    rw [Go.Deep.blk_setCell_other _ _ _ _ (by show w.heap.size ≠ g; omega), Go.Deep.blk_setCell_other _ _ _ _ (by show w.heap.size ≠ g; omega)], by
    have := hrow2.drew.cell (i := 2) (by omega)
    rw [this, if_neg (by omega), if_neg (by omega)]
    show some (lF p mb S1.now ls lt gv 2) = _
    rw [← HNow.out]; rfl⟩
  have HR2 : Hid (((W.setCell ⟨g, 3 + k * 2, none⟩ (.int .i64 (i : Int))).setCell ⟨g, 3 + k * 2 + 1, none⟩ (.int .i64 S.now)).drew.rowIs g 78 516 (lF p mb S1.now (upf ls k i) (upf lt k S.now) gv)) := Lib.hid (hrow2.drew.congr (fun j hj => by
    rw [← lF_upTick hk, ← lF_upSet hk]))
  clear h hF hfr hnw r1 hrow2
  go_wp2
  go_region_held3 (fun w' => w'.cell? ⟨w.heap.size, 0, none⟩ = some (.int .i64 (i : Int)) ∧ w'.cell? ⟨g, 2, none⟩ = some (.int .i64 S.now)) (first | exact ⟨cb, c2⟩ | exact HS3.out | go_keep)
    (first | (go_at_call 48; refine (HIx.out _).mono ?_; rintro e w3 ⟨rfl, rfl⟩))
  go_wp2
  go_end0
  refine ⟨rfl, ?_⟩
  refine CM.of (w1 := U) ?_ HUB.out
  have hlast := LM.cells (F := F') HH.out HFF.out.1 (now' := S1.now) (grown_trans (grown_set W g _ _) (grown_set _ g _ _)) HR2.out
  exact CM.join HFF.out.2.1 HFF.out.2.2 (hlast.back (bdrewn (Below.refl _ _)))
end
end Go.Proofs.YtcpgkkphibhdfaaGreat
