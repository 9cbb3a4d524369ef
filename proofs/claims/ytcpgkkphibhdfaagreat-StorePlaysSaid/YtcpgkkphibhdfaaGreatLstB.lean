/-
  The landed store: what find, need, remove and add answer.
-/
import Derived.Test.YtcpgkkphibhdfaaGreatLstA
import Derived.Deep.RegionHeld3
namespace Go.Proofs.YtcpgkkphibhdfaaGreat
open Go.RowKit

section
variable {w : World} {g p mb : Nat} {S : St} {ls lt : Nat → Int} {ts : Nat → Option Nat} {Lf : Nat → Nat → Prop} {gv : Value} {lab : Nat → Nat} {F : Nat → Prop}
theorem LM.c0 (h : LM w g S p mb ls lt ts Lf gv lab) : w.cell? ⟨g, 0, none⟩ = some (.pointer (some ⟨p, 0, none⟩)) := h.row.cell (by omega)
theorem LM.c1 (h : LM w g S p mb ls lt ts Lf gv lab) : w.cell? ⟨g, 1, none⟩ = some (.map (some mb)) := h.row.cell (by omega)
theorem LM.c2 (h : LM w g S p mb ls lt ts Lf gv lab) : w.cell? ⟨g, 2, none⟩ = some (.int .i64 S.now) := h.row.cell (by omega)
theorem LM.cS (h : LM w g S p mb ls lt ts Lf gv lab) {k : Nat} (hk : k < 256) : w.cell? ⟨g, 3 + k * 2, none⟩ = some (.int .i64 (ls k)) := by rw [h.row.cell (by omega), lF_set hk]
theorem LM.cT (h : LM w g S p mb ls lt ts Lf gv lab) {k : Nat} (hk : k < 256) : w.cell? ⟨g, 3 + k * 2 + 1, none⟩ = some (.int .i64 (lt k)) := by rw [h.row.cell (by omega), lF_tick hk]
theorem LM.c515 (h : LM w g S p mb ls lt ts Lf gv lab) : w.cell? ⟨g, 515, none⟩ = some gv := h.row.cell (by omega)
theorem CM.join {w w1 w2 : World} {g : Nat} {S : St} {ls lt : Nat → Int} {F F' : Nat → Prop} (hfr : Fr w w1 F) (hn : ∀ b, F' b → F b ∨ w.heap.size ≤ b) (k : CM w1 w2 g F' S ls lt) : CM w w2 g F S ls lt := by
  obtain ⟨F'', k1, k2, k3⟩ := k
  refine ⟨F'', k1, ⟨k2.1.trans hfr.1, k2.2.1.trans hfr.2.1, k2.2.2.1.trans hfr.2.2.1, Nat.le_trans hfr.2.2.2.1 k2.2.2.2.1, fun b hb hnn => ?_⟩, fun b hb => ?_⟩
  · refine (k2.2.2.2.2 b (Nat.lt_of_lt_of_le hb hfr.2.2.2.1) (fun c => ?_)).trans (hfr.2.2.2.2 b hb hnn)
    rcases hn b c with d | d
    · exact hnn d
    · omega
  · rcases k3 b hb with d | d
    · exact hn b d
    · exact Or.inr (Nat.le_trans hfr.2.2.2.1 d)
theorem TM.drewN (h : TM w mb ts) (n : Nat) : TM (w.drewN n) mb ts := h
/-- an index -/
theorem ix_any {id : Int} (ho : idOk id = true) : ∃ k : Nat, k < 256 ∧ (id % 256).toNat = k ∧ ∀ w', Calls Tryz.prog 48 #[.int .i64 id] w' fun e w'' => e = .returned (.int .i64 (k : Int)) ∧ w' = w'' := by
  obtain ⟨i, q, hi, hq, hx, ht, hd⟩ := id_parts ho
  exact ⟨i, hi, by omega, fun w' => (qindex id w').mono fun _ _ ⟨he, hw⟩ => ⟨by rw [he, if_pos ho, show id % 256 = (i : Int) by omega], hw⟩⟩

set_option maxHeartbeats 2000000 in
set_option maxRecDepth 100000 in
theorem lfind_any (h : LM w g S p mb ls lt ts Lf gv lab) (id : Int) (ho : idOk id = true) {i a : Nat} (hi : i < 32) (hl : ls (id % 256).toNat = (i : Int)) (hts : ts i = some a) (hR : (S.T i).length ≤ 1000) :
    Calls Tryz.prog 42 #[.pointer (some ⟨g, 0, none⟩), .int .i64 id] w fun e w' => e = .returned (.tuple #[.pointer (some ⟨a, 0, none⟩), .int .i64 (findI (S.T i) id)]) ∧ Below w.heap.size w w' := by
  obtain ⟨k, hk, hk2, hix⟩ := ix_any ho
  have HIx := Lib.hid hix
  have c1 := h.c1
  have cs := h.cS hk
  rw [← hk2, hl] at cs
  have hm := h.map.get hi
  rw [hts] at hm
  have hm2 : ∀ n, (Instr.lookup 72 (.map (some mb)) (.int .i64 i) false).run Tryz.prog (w.drewN n) = .ok (.pointer (some ⟨a, 0, none⟩)) (w.drewN n) := fun n => by
    have := (h.map.drewN n).get hi
    rw [hts] at this
    exact this
  have ht := h.tab i hi
  rw [hts] at ht
  replace ht : TBl w a (Lf i) i (S.T i) := ht
  have HFd : Hid (∀ n, Calls Tryz.prog 77 #[.pointer (some ⟨a, 0, none⟩), .int .i64 id] (w.drewN n) fun e w' => e = .returned (.int .i64 (findI (S.T i) id)) ∧ (w.drewN n) = w') := Lib.hid (fun n => by
    have ht' : TBl (w.drewN n) a (Lf i) i (S.T i) := TBl.keep ht (Go.below_drewN (Below.refl _ _) n)
    obtain ⟨v, h1, _⟩ := ht'
    exact find_any h1 hR id)
  have hg := h.row.lt
  have k0 : (0 : Int) ≤ (k : Int) := by omega
  have k1 : (k : Int) < 256 := by omega
  rw [hk2] at cs
  clear h ht hts hl hR ho hix hk2 hm
  go_enter Tryz.func42, Tryz.ntmps42
  go_wp2
  go_quiet (first | (go_at_call 48; refine Calls.quiet_of_same ((HIx.out _).mono fun _ _ q => ⟨q.1, q.2.symm⟩)))
  go_wp2_with fail
  refine (HFd.out _).mono ?_
  rintro e w2 ⟨rfl, rfl⟩
  go_wp2
  go_ret2
  exact ⟨rfl, Go.below_drewN (Below.refl _ _) nq⟩

set_option maxHeartbeats 2000000 in
set_option maxRecDepth 100000 in
theorem lremove_any (h : LM w g S p mb ls lt ts Lf gv lab) (hF : ∀ b, F b ↔ lfoot g p mb Lf gv b) (id : Int) (ho : idOk id = true) {i a : Nat} (hi : i < 32) (hl : ls (id % 256).toNat = (i : Int)) (hts : ts i = some a) (hR : (S.T i).length ≤ 1000) :
    Calls Tryz.prog 50 #[.pointer (some ⟨g, 0, none⟩), .int .i64 id] w fun e w' => e = .returned (.tuple #[]) ∧ CM w w' g F { S with T := upf S.T i (tcuR (S.T i) (findI (S.T i) id)) } ls lt := by
  have HFi := Lib.hid (lfind_any h id ho hi hl hts hR)
  have HC : Hid (∀ u, Below w.heap.size w u → Calls Tryz.prog 86 #[.pointer (some ⟨a, 0, none⟩), .int .i64 (findI (S.T i) id)] u fun e w' => ∃ x y : Int, e = .returned (.tuple #[.int .i64 x, .int .i64 y]) ∧ CM w w' g F { S with T := upf S.T i (tcuR (S.T i) (findI (S.T i) id)) } ls lt) := Lib.hid (fun u k => by
    have h1 := h.keep k
    have ht := h1.tab i hi
    rw [hts] at ht
    refine (tcut_any u a (Lf i) i (S.T i) (findI (S.T i) id) hR ht).mono ?_
    rintro e w' ⟨L', rfl, t1, t2, t3⟩
    exact ⟨_, _, rfl, (h1.tabled hF hi hts t1 t2 t3).of k⟩)
  obtain ⟨q, hq⟩ : ∃ q, q = findI (S.T i) id := ⟨_, rfl⟩
  obtain ⟨S', hS'⟩ : ∃ S', S' = { S with T := upf S.T i (tcuR (S.T i) (findI (S.T i) id)) } := ⟨_, rfl⟩
  rw [← hS'] at HC
  rw [← hS']
  rw [← hq] at HFi HC
  clear h hF hq hS' hl hts hR ho
  go_enter Tryz.func50, Tryz.ntmps50
  go_wp2_with fail
  refine HFi.out.mono ?_
  rintro e w1 ⟨rfl, b1⟩
  have B1 := Lib.hid b1
  clear b1
  go_wp2_with fail
  refine (HC.out _ B1.out).mono ?_
  rintro e w2 ⟨x, y, rfl, hc⟩
  have HC2 := Lib.hid hc
  clear hc
  go_wp2
  go_end0
  exact ⟨rfl, HC2.out⟩

set_option maxHeartbeats 2000000 in
set_option maxRecDepth 100000 in
/-- a table that is there -/
theorem lneed_old (h : LM w g S p mb ls lt ts Lf gv lab) {i a : Nat} (hi : i < 32) (hts : ts i = some a) :
    Calls Tryz.prog 73 #[.pointer (some ⟨g, 0, none⟩), .int .i64 i] w fun e w' => e = .returned (.pointer (some ⟨a, 0, none⟩)) ∧ w = w' := by
  have c1 := h.c1
  have hm := h.map.get hi
  rw [hts] at hm
  replace hm : (Instr.lookup 72 (.map (some mb)) (.int .i64 i) false).run Tryz.prog w = .ok (.pointer (some ⟨a, 0, none⟩)) w := hm
  have hg := h.row.lt
  clear h hts
  go_enter Tryz.func73, Tryz.ntmps73
  go_wp2
  go_ret
  exact ⟨rfl, rfl⟩
set_option maxHeartbeats 2000000 in
set_option maxRecDepth 100000 in
/-- a table that is not there yet -/
theorem lneed_new (h : LM w g S p mb ls lt ts Lf gv lab) (hF : ∀ b, F b ↔ lfoot g p mb Lf gv b) {i : Nat} (hi : i < 32) (hts : ts i = none) :
    Calls Tryz.prog 73 #[.pointer (some ⟨g, 0, none⟩), .int .i64 i] w fun e w' => ∃ a L' lab', e = .returned (.pointer (some ⟨a, 0, none⟩)) ∧ LM w' g S p mb ls lt (upf ts i (some a)) (upf Lf i L') gv lab' ∧ Fr w w' F ∧ ∀ b, lfoot g p mb (upf Lf i L') gv b → F b ∨ w.heap.size ≤ b := by
  have c1 := h.c1
  have hm := h.map.get hi
  rw [hts] at hm
  replace hm : (Instr.lookup 72 (.map (some mb)) (.int .i64 i) false).run Tryz.prog w = .ok (.pointer none) w := hm
  have hg := h.row.lt
  have HN : Hid (∀ u, Below w.heap.size w u → Calls Tryz.prog 104 #[.int .i64 i] u fun e w1 => ∃ a, e = .returned (.tuple #[.pointer (some ⟨a, 0, none⟩), .int .i64 0]) ∧ ∃ w2, (Instr.mapUpdate 72 (.map (some mb)) (.int .i64 i) (.pointer (some ⟨a, 0, none⟩))).run Tryz.prog w1 = .ok () w2 ∧ (∃ L' lab', LM w2 g S p mb ls lt (upf ts i (some a)) (upf Lf i L') gv lab' ∧ Fr w w2 F ∧ ∀ b, lfoot g p mb (upf Lf i L') gv b → F b ∨ w.heap.size ≤ b) ∧ w1.cell? ⟨g, 1, none⟩ = some (.map (some mb)) ∧ w2.cell? ⟨g, 1, none⟩ = some (.map (some mb)) ∧ g < w2.heap.size ∧ (Instr.lookup 72 (.map (some mb)) (.int .i64 i) false).run Tryz.prog w2 = .ok (.pointer (some ⟨a, 0, none⟩)) w2) := Lib.hid (fun u k => by
    refine (new_any u i (by omega)).mono ?_
    rintro e w1 ⟨a, L', rfl, t1, t2, t3⟩
    have hb : Below w.heap.size w w1 := bthen k t3
    obtain ⟨w2, hr, m1, m2⟩ := ((h.keep hb).map).put hi a
    have hX := h.need hF hi hts hb t1 (fun b c => Nat.le_trans k.size (t2 b c)) m1 m2
    have hq := m1.get hi
    rw [show upf ts i (some a) i = some a by unfold upf; rw [if_pos rfl]] at hq
    exact ⟨a, rfl, w2, hr, ⟨L', _, hX⟩, (h.keep hb).c1, hX.1.c1, hX.1.row.lt, hq⟩)
  clear h hF hts
  go_enter Tryz.func73, Tryz.ntmps73
  go_wp2
  go_region_held3 (fun w' => w'.cell? ⟨g, 1, none⟩ = some (.map (some mb))) (first | exact c1 | go_keep)
    (first | (go_at_call 104; refine (HN.out _ (bdrewn (Below.refl _ _))).mono ?_; rintro e w1 ⟨a, rfl, w2, hrun, hrest, c2, c3, z3, hl3⟩; have HR := Lib.hid hrest; clear hrest))
  go_wp2
  go_ret
  obtain ⟨L', lab', hx⟩ := HR.out
  exact ⟨a, L', lab', rfl, hx⟩

/-- a set's table, new or old -/
theorem lneed_any (h : LM w g S p mb ls lt ts Lf gv lab) (hF : ∀ b, F b ↔ lfoot g p mb Lf gv b) {i : Nat} (hi : i < 32) :
    Calls Tryz.prog 73 #[.pointer (some ⟨g, 0, none⟩), .int .i64 i] w fun e w' => ∃ a ts' Lf' lab', e = .returned (.pointer (some ⟨a, 0, none⟩)) ∧ ts' i = some a ∧ LM w' g S p mb ls lt ts' Lf' gv lab' ∧ Fr w w' F ∧ ∀ b, lfoot g p mb Lf' gv b → F b ∨ w.heap.size ≤ b := by
  cases hts : ts i with
  | some a => exact (lneed_old h hi hts).mono fun _ _ ⟨he, hw⟩ => ⟨a, ts, Lf, lab, he, hts, hw ▸ h, hw ▸ fr_refl _ _, fun b c => Or.inl ((hF b).2 c)⟩
  | none => exact (lneed_new h hF hi hts).mono fun _ _ ⟨a, L', lab', he, hx, hf, hn⟩ => ⟨a, _, _, lab', he, by unfold upf; rw [if_pos rfl], hx, hf, hn⟩
end
end Go.Proofs.YtcpgkkphibhdfaaGreat
