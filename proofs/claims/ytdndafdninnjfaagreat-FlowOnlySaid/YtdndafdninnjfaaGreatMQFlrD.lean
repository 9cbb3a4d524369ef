/-
  2 texts in one file, each with its own heading.
-/
import Derived.Test.YtdndafdninnjfaaGreatMFra
/-
  A step of the laws of layer 10, for any package that answers as the bundle says.
-/
namespace Go.Proofs.YtdndafdninnjfaaGreat
open Go.RowKit

/-- a predicate of an object in memory -/
structure KB10 (PB : World → Nat → (Nat → Prop) → FD → Prop) : Prop where
  keep_ : ∀ w w' g F D, PB w g F D → (∀ b, F b → w'.heap[b]? = w.heap[b]?) → PB w' g F D
  inb : ∀ w g F D, PB w g F D → ∀ b, F b → b < w.heap.size
  inG : ∀ w g F D, PB w g F D → g < w.heap.size
theorem KB10.keep {PB : World → Nat → (Nat → Prop) → FD → Prop} (h : KB10 PB) {w w' : World} {g : Nat} {F : Nat → Prop} {D : FD} (hs : PB w g F D) (hb : Below w.heap.size w w') : PB w' g F D := h.keep_ w w' g F D hs (fun b hf => hb.block b (h.inb w g F D hs b hf))
/-- what the reference's Put and Drop do -/
structure GC10 (GB : World → Nat → (Nat → Prop) → FD → Prop) : Prop where
  kb : KB10 GB
  put : ∀ (w : World) g F D (a : Option Addr) (n cap : Nat) (l : List Nd), GB w g F D → NRow w a n l → AwX F a n → D.L.length + n ≤ 1000 → D.dirty.length + n ≤ 10000 → Calls Tryz.prog 18 #[.pointer (some ⟨g, 0, none⟩), .slice a n cap] w fun e w' => e = .returned (.int .i64 (putFE D l)) ∧ ChX GB w w' g F (putFD D l)
  drop : ∀ (w : World) g F D (x : Int), GB w g F D → (D.L.map Nd.id).Nodup → D.L.length ≤ 1000 → D.dirty.length + D.L.length ≤ 11000 → Calls Tryz.prog 20 #[.pointer (some ⟨g, 0, none⟩), .int .i64 x] w fun e w' => e = .returned (.bool (dropFB D x)) ∧ ChX GB w w' g F (dropFD D x)
def GR10 (GB : World → Nat → (Nat → Prop) → FD → Prop) : Prop := ∀ (w : World) g F D, GB w g F D → DOk D → D.L.length ≤ 1000 → D.dirty.length ≤ 10000 → D.steps ≤ 1000000 → Calls Tryz.prog 9 #[.pointer (some ⟨g, 0, none⟩)] w fun e w' => ∃ v, e = .returned (.tuple #[v, .int .i64 (runE D)]) ∧ LRes w w' (touchN D) v ∧ ChX GB w w' g F (runD D)
theorem kb_rwb : KB10 RWB := ⟨fun _ _ _ _ _ h he => h.same he, fun _ _ _ _ h => h.inb, fun _ _ _ _ h => by
  obtain ⟨vl, vd, vs, h1, _⟩ := h
  exact h1.blk.lt⟩
theorem kb_rwv (vs : Value) : KB10 (RWV vs) := ⟨fun _ _ _ _ _ h he => h.same he, fun _ _ _ _ h => h.toB.inb, fun _ _ _ _ h => by
  obtain ⟨vl, vd, h1, _⟩ := h
  exact h1.blk.lt⟩
theorem gc_rwb : GC10 RWB := ⟨kb_rwb, fun _ _ _ _ a n cap l h hr ha hn hd => gput_any h a n cap l hr ha hn hd, fun _ _ _ _ x h hnod hn hd => gdrop_any h hnod x hn hd⟩
theorem gc_rwv (vs : Value) : GC10 (RWV vs) := ⟨kb_rwv vs, fun _ _ _ _ a n cap l h hr ha hn hd => gput_v h a n cap l hr ha hn hd, fun _ _ _ _ x h hnod hn hd => gdrop_v h hnod x hn hd⟩
theorem gr_rwb : GR10 RWB := fun _ _ _ _ h hD hn hd hst => grun_any (fun _ _ _ _ _ _ h _ hW hn hok => gall_any h hW hn hok) h hD.nod hD.wf hn hd hD.ok hst
/-- both side by side; w0: the world ahead of both -/
structure Duo10 (PB QB : World → Nat → (Nat → Prop) → FD → Prop) (w0 w : World) (gp gr : Nat) (Fp Fq : Nat → Prop) (Dp Dq : FD) : Prop where
  p : PB w gp Fp Dp
  q : QB w gr Fq Dq
  far : ∀ b, Fp b → ¬ Fq b
  low : Below w0.heap.size w0 w
  np : ∀ b, Fp b → w0.heap.size ≤ b
  nq : ∀ b, Fq b → w0.heap.size ≤ b
section
variable {PB QB : World → Nat → (Nat → Prop) → FD → Prop}
variable {w0 w w' : World} {gp gr : Nat} {Fp Fq : Nat → Prop} {Dp Dq Dp' Dq' : FD}
theorem Duo10.keep (hP : KB10 PB) (hQ : KB10 QB) (h : Duo10 PB QB w0 w gp gr Fp Fq Dp Dq) (hb : Below w.heap.size w w') : Duo10 PB QB w0 w' gp gr Fp Fq Dp Dq := ⟨hP.keep h.p hb, hQ.keep h.q hb, h.far, bthen h.low hb, h.np, h.nq⟩
theorem Duo10.prog (hQ : KB10 QB) (h : Duo10 PB QB w0 w gp gr Fp Fq Dp Dq) (k : ChX PB w w' gp Fp Dp') : ∃ Fp', Duo10 PB QB w0 w' gp gr Fp' Fq Dp' Dq ∧ (∀ b, b < w.heap.size → ¬ Fp b → w'.heap[b]? = w.heap[b]? ∧ ¬ Fp' b) ∧ w.heap.size ≤ w'.heap.size := by
  obtain ⟨F', k1, k2, k3⟩ := k
  have hq := hQ.inb _ _ _ _ h.q
  refine ⟨F', ⟨k1, hQ.keep_ _ _ _ _ _ h.q (fun b hb => k2.2.2.2.2 b (hq b hb) (fun c => h.far b c hb)), fun b hb hc => ?_, Fr.below k2 h.low h.np h.low.size, fun b hb => ?_, h.nq⟩, fun b hl hn => ⟨k2.2.2.2.2 b hl hn, fun c => ?_⟩, k2.2.2.2.1⟩
  · rcases k3 b hb with d | d
    · exact h.far b d hc
    · have := hq b hc; omega
  · rcases k3 b hb with d | d
    · exact h.np b d
    · exact Nat.le_trans h.low.size d
  · rcases k3 b c with d | d
    · exact hn d
    · omega
theorem Duo10.ref (hP : KB10 PB) (h : Duo10 PB QB w0 w gp gr Fp Fq Dp Dq) (k : ChX QB w w' gr Fq Dq') : ∃ Fq', Duo10 PB QB w0 w' gp gr Fp Fq' Dp Dq' ∧ (∀ b, b < w.heap.size → ¬ Fq b → w'.heap[b]? = w.heap[b]? ∧ ¬ Fq' b) ∧ w.heap.size ≤ w'.heap.size := by
  obtain ⟨F', k1, k2, k3⟩ := k
  have hp := hP.inb _ _ _ _ h.p
  refine ⟨F', ⟨hP.keep_ _ _ _ _ _ h.p (fun b hb => k2.2.2.2.2 b (hp b hb) (fun c => h.far b hb c)), k1, fun b hb hc => ?_, Fr.below k2 h.low h.nq h.low.size, h.np, fun b hb => ?_⟩, fun b hl hn => ⟨k2.2.2.2.2 b hl hn, fun c => ?_⟩, k2.2.2.2.1⟩
  · rcases k3 b hc with d | d
    · exact h.far b hb d
    · have := hp b hb; omega
  · rcases k3 b hb with d | d
    · exact h.nq b d
    · exact Nat.le_trans h.low.size d
  · rcases k3 b c with d | d
    · exact hn d
    · omega
theorem aw_old10 {F : Nat → Prop} {a : Option Addr} {n : Nat} {xs : List Int} (hr : Row w0 a n xs) (hn : ∀ b, F b → w0.heap.size ≤ b) : Aw F a n := by
  rcases hr.2.2 with c | ⟨b, off, e, hc⟩
  · exact Or.inl c
  · by_cases q : n = 0
    · exact Or.inl q
    · refine Or.inr (fun ad e' hf => ?_)
      have hlt := World.block_lt_of_cell? _ _ (hc 0 (by omega))
      rw [e] at e'
      injection e' with e'
      rw [← e'] at hf
      have h1 : w0.heap.size ≤ b := hn _ hf
      have h2 : b < w0.heap.size := hlt
      omega
end
section
variable {FB GB : World → Nat → (Nat → Prop) → FD → Prop}
variable {w0 w : World} {gp gr : Nat} {Fp Fq : Nat → Prop}
set_option maxHeartbeats 8000000 in
set_option maxRecDepth 100000 in
theorem step10_any (hC : FWC FB) (hFK : KB10 FB) (hG : GC10 GB) {D : FD} (h : Duo10 FB GB w0 w gp gr Fp Fq D D) (hD : DOk D) (x : A10) (hR : ¬ x.k % 9 < 6 → GR10 GB) (hx : ok10 w0 x) (hL : D.L.length ≤ 200) (hn : x.n ≤ 100) (hm : x.m ≤ 100) (hd : D.dirty.length + x.m * D.L.length + x.n ≤ 9000) (hs : D.steps ≤ 100000) :
    Calls Tryz.prog 7 #[.pointer (some ⟨gp, 0, none⟩), .pointer (some ⟨gr, 0, none⟩), .agg #[.int .u8 x.k, .slice x.a x.n x.cap, .slice x.b x.m x.cap']] w fun e w' => e = .returned (.bool true) ∧ ∃ Fp' Fq', Duo10 FB GB w0 w' gp gr Fp' Fq' (doA D x.k x.l x.ids) (doA D x.k x.l x.ids) := by
  obtain ⟨k, a, n, cap, l, b, m, cap', ids⟩ := x
  obtain ⟨hk0, hk1, ⟨hrow, hrg⟩, hrow2, hrg2⟩ := hx
  have hrl : l.length = n := hrow.1
  have hrl2 : ids.length = m := hrow2.1
  have hdd : D.dirty.length + m * D.L.length + n ≤ 9000 := hd
  have htm : k.tmod 9 = k % 9 := Int.tmod_eq_emod_of_nonneg hk0
  have hal : Below w.heap.size w (w.alloc (.cells #[.int .u8 k, .slice a n cap, .slice b m cap'] 36)) := alloc_below _ _
  have KB := Lib.hid (Blk.new w 36 #[.int .u8 k, .slice a n cap, .slice b m cap'])
  have HD0 := Lib.hid (h.keep hFK hG.kb hal)
  have HNp : Hid (¬ Fp w.heap.size ∧ ¬ Fq w.heap.size) := Lib.hid ⟨fun c => by have := hFK.inb _ _ _ _ h.p _ c; omega, fun c => by have := hG.kb.inb _ _ _ _ h.q _ c; omega⟩
  have hb1 := hrow.2.1
  have hb2 := hrow2.2.1
  have hnn : n ≤ 100 := hn
  have hmm : m ≤ 100 := hm
  by_cases h4 : k % 9 < 4
  · have h4t : k.tmod 9 < 4 := by omega
    clear htm
    have HDo : Hid (doA D k l ids = putFD D l) := Lib.hid (by unfold doA; rw [if_pos h4])
    have HP : Hid (∀ u, Duo10 FB GB w0 u gp gr Fp Fq D D → Calls Tryz.prog 15 #[.pointer (some ⟨gp, 0, none⟩), .slice a n cap] u fun e w' => e = .returned (.int .i64 (putFE D l)) ∧ ∃ Fp', Duo10 FB GB w0 w' gp gr Fp' Fq (putFD D l) D ∧ (∀ b, b < u.heap.size → ¬ Fp b → w'.heap[b]? = u.heap[b]? ∧ ¬ Fp' b)) := Lib.hid (fun u d => (hC.put u gp Fp D a n cap l hD (by omega) d.p (by omega) (hrow.keep d.low) hrg).mono fun e w' q => by
      obtain ⟨Fp', k1, k2, _⟩ := d.prog hG.kb q.2
      exact ⟨q.1, Fp', k1, k2⟩)
    have HOf : Hid (∀ u, Below w0.heap.size w0 u → Calls Tryz.prog 19 #[.slice a n cap] u fun e w' => ∃ v, e = .returned v ∧ OwnX 15 cNd 84 w' u.heap.size v l ∧ Below u.heap.size u w') := Lib.hid (fun u q => lOf_any a n cap l u (hrow.keep q) (by omega))
    have HQ : Hid (∀ u v base Fp', Duo10 FB GB w0 u gp gr Fp' Fq (putFD D l) D → OwnX 15 cNd 84 u base v l → (∀ b, Fq b → b < base) → Calls Tryz.prog 18 #[.pointer (some ⟨gr, 0, none⟩), v] u fun e w' => e = .returned (.int .i64 (putFE D l)) ∧ ∃ Fq', Duo10 FB GB w0 w' gp gr Fp' Fq' (putFD D l) (putFD D l)) := Lib.hid (fun u v base Fp' d o hq => by
      obtain ⟨av, cv, ev, _, _, rv⟩ := o.row cNd_len
      rw [ev]
      refine (hG.put u gr Fq D av l.length cv l d.q rv ?_ (by omega) (by omega)).mono fun e w' q => ?_
      · by_cases z : l.length = 0
        · exact Or.inl z
        · exact Or.inr (fun ad e hf => by
            have k1 := hq _ hf
            have k2 := (o.lt ad.block (by rw [ev, e]; rfl)).1
            omega)
      · obtain ⟨Fq', k1, _⟩ := d.ref hFK q.2
        exact ⟨q.1, Fq', k1⟩)
    obtain ⟨E, hE⟩ : ∃ E, E = putFE D l := ⟨_, rfl⟩
    rw [← hE] at HP HQ
    have HQi := Lib.hid hG.kb.inb
    have HPK : Hid (∀ u u' Fp', Duo10 FB GB w0 u gp gr Fp' Fq (putFD D l) D → Below u.heap.size u u' → Duo10 FB GB w0 u' gp gr Fp' Fq (putFD D l) D) := Lib.hid (fun u u' Fp' d q => d.keep hFK hG.kb q)
    clear h hD hR hrow hrg hrow2 hrg2 hL hn hm hd hdd hs hal hE hC hFK hG
    go_enter Tryz.func7, Tryz.ntmps7
    go_upto_region 1 with fail
    refine fin (fun W => Duo10 FB GB w0 W gp gr Fp Fq D D ∧ Blk W w.heap.size 36 #[.int .u8 k, .slice a n cap, .slice b m cap']) ⟨HD0.out, KB.out⟩ ?_
    clear HD0 KB
    rintro W ⟨hd, kb⟩
    have HDu := Lib.hid hd
    have c0 : W.cell? ⟨w.heap.size, 0, none⟩ = some (.int .u8 k) := kb.cell 0
    have c1 : W.cell? ⟨w.heap.size, 1, none⟩ = some (.slice a n cap) := kb.cell 1
    have zb := kb.lt
    have KB := Lib.hid kb
    have HPc := Lib.hid (HP.out W hd)
    clear hd kb HP
    go_wp2_with fail
    refine HPc.out.mono ?_
    rintro e w1 ⟨rfl, Fp', hd1, hk⟩
    have k1 := KB.out.same (w' := w1) (hk _ zb HNp.out.1).1
    have c11 : w1.cell? ⟨w.heap.size, 1, none⟩ = some (.slice a n cap) := k1.cell 1
    have z1 := k1.lt
    have HD1 := Lib.hid hd1
    have HO := Lib.hid (HOf.out w1 hd1.low)
    clear c0 c1 zb KB hk k1 hd1 HPc HOf HDu
    go_wp2_with fail
    refine HO.out.mono ?_
    rintro e w2 ⟨v, rfl, hown, hb⟩
    have HQc := Lib.hid (HQ.out w2 v w1.heap.size Fp' (HPK.out _ _ _ HD1.out hb) hown (HQi.out _ _ _ _ HD1.out.q))
    clear hown hb HO HQ HPK HD1 c11 z1
    go_wp2_with fail
    refine HQc.out.mono ?_
    rintro e w3 ⟨rfl, Fq', hd3⟩
    have HE : Hid (Duo10 FB GB w0 w3 gp gr Fp' Fq' (doA D k l ids) (doA D k l ids)) := Lib.hid (by rw [HDo.out]; exact hd3)
    clear hd3 HQc
    go_wp2
    go_ret
    exact ⟨by simp, Fp', Fq', HE.out⟩
  · by_cases h6 : k % 9 < 6
    · have h4t : ¬ k.tmod 9 < 4 := by omega
      have h6t : k.tmod 9 < 6 := by omega
      have HDo : Hid (doA D k l ids = dropS D ids) := Lib.hid (by unfold doA; rw [if_neg h4, if_pos h6])
      have HRw : Hid (∀ u, Below w0.heap.size w0 u → Row u b m ids) := Lib.hid (fun u q => row_keep hrow2 q)
      have HRf : Hid (∀ (u : World) (j : Nat) (Fq' : Nat → Prop) z, ids[j]? = some z → Duo10 FB GB w0 u gp gr Fp Fq' D (dropS D (ids.take j)) → Calls Tryz.prog 20 #[.pointer (some ⟨gr, 0, none⟩), .int .i64 z] u fun e w' => e = .returned (.bool (dropFB (dropS D (ids.take j)) z)) ∧ ∃ Fq2, Duo10 FB GB w0 w' gp gr Fp Fq2 D (dropS D (ids.take (j + 1))) ∧ (∀ b, b < u.heap.size → ¬ Fq' b → w'.heap[b]? = u.heap[b]? ∧ ¬ Fq2 b)) := Lib.hid (fun u j Fq' z hz d => by
        have hj : j < m := by
          have := (List.getElem?_eq_some_iff.1 hz).1
          omega
        obtain ⟨s1, s2, _⟩ := drops_size (ids.take j) D D.L.length (Nat.le_refl _)
        have s3 : (ids.take j).length * D.L.length ≤ m * D.L.length := Nat.mul_le_mul_right _ (by rw [List.length_take]; omega)
        refine (hG.drop u gr Fq' (dropS D (ids.take j)) z d.q (DOk.drops _ hD).nod (by omega) (by omega)).mono fun e w' q => ?_
        obtain ⟨Fq2, k1, k2, _⟩ := d.ref hFK q.2
        exact ⟨q.1, Fq2, by rw [dropS_snoc hz]; exact k1, k2⟩)
      have HPd : Hid (∀ (u : World) (Fq' : Nat → Prop), Duo10 FB GB w0 u gp gr Fp Fq' D (dropS D ids) → Calls Tryz.prog 21 #[.pointer (some ⟨gp, 0, none⟩), .slice b m cap'] u fun e w' => e = .returned (.int .i64 (dropN D ids : Nat)) ∧ ∃ Fp', Duo10 FB GB w0 w' gp gr Fp' Fq' (dropS D ids) (dropS D ids)) := Lib.hid (fun u Fq' d => (hC.drop u gp Fp D b m cap' ids hD (by omega) d.p (by omega) (row_keep hrow2 d.low) (aw_old10 hrow2 d.np) hrg2).mono fun e w' q => by
        obtain ⟨Fp', k1, _⟩ := d.prog hG.kb q.2
        exact ⟨q.1, Fp', k1⟩)
      have HCnt : Hid (∀ j z, ids[j]? = some z → dropN D (ids.take (j + 1)) = dropN D (ids.take j) + (if dropFB (dropS D (ids.take j)) z then 1 else 0)) := Lib.hid (fun j z hz => dropN_snoc hz)
      have HCl : Hid (∀ j, dropN D (ids.take j) ≤ 100) := Lib.hid (fun j => by
        have h1 := dropN_le (ids.take j) D
        rw [List.length_take] at h1
        omega)
      have HLn := Lib.hid hrl2
      have hnq : Hid (¬ Fq w.heap.size) := Lib.hid HNp.out.2
      clear h hD hR hrow hrg hrow2 hrg2 hL hn hm hd hdd hs hal hC hFK hG htm HNp hrl hrl2
      go_enter Tryz.func7, Tryz.ntmps7
      go_upto_region 1 with fail
      refine fin (fun W => Duo10 FB GB w0 W gp gr Fp Fq D D ∧ Blk W w.heap.size 36 #[.int .u8 k, .slice a n cap, .slice b m cap']) ⟨HD0.out, KB.out⟩ ?_
      clear HD0 KB
      obtain ⟨g5, hg5⟩ : ∃ g5, g5 = w.heap.size := ⟨_, rfl⟩
      rw [← hg5] at hnq ⊢
      rintro W ⟨hd, kb⟩
      have HDu := Lib.hid hd
      have c0 : W.cell? ⟨g5, 0, none⟩ = some (.int .u8 k) := kb.cell 0
      have zb := kb.lt
      have KB := Lib.hid kb
      clear hd kb hg5
      go_wp2
      go_loopw [8, 9, 10] (fun v8 i _ wr => ∃ (j : Nat) (Fq' : Nat → Prop), j ≤ m ∧ i = .int .i64 j ∧ v8 = .int .i64 (dropN D (ids.take j) : Nat) ∧ Duo10 FB GB w0 wr gp gr Fp Fq' D (dropS D (ids.take j)) ∧ ¬ Fq' g5 ∧ Blk wr g5 36 #[.int .u8 k, .slice a n cap, .slice b m cap']) (fun _ i _ _ => m - (ivl i).toNat)
      case atStart => exact ⟨0, Fq, by omega, rfl, rfl, HDu.out, hnq.out, KB.out⟩
      case round =>
        clear HDu KB c0 zb
        obtain ⟨j, F1, hj, rfl, rfl, hd, hnf, kb⟩ := hrel
        have HDu := Lib.hid hd
        have HNf := Lib.hid hnf
        have KB := Lib.hid kb
        have hrw := HRw.out wr hd.low
        have c2 : wr.cell? ⟨g5, 2, none⟩ = some (.slice b m cap') := kb.cell 2
        have zb := kb.lt
        have hcl := HCl.out j
        clear hd hnf kb
        by_cases hlt : j < m
        · obtain ⟨bb, off, z, rfl, hz, cz⟩ := row_at hrw hlt
          have hbl := World.block_lt_of_cell? _ _ cz
          have HF := Lib.hid (HRf.out wr j F1 z hz HDu.out)
          have HSn := Lib.hid (HCnt.out j z hz)
          obtain ⟨cn, hcn⟩ : ∃ cn, cn = dropN D (ids.take j) := ⟨_, rfl⟩
          rw [← hcn] at hcl HSn ⊢
          obtain ⟨df, hdf⟩ : ∃ df, df = dropFB (dropS D (ids.take j)) z := ⟨_, rfl⟩
          rw [← hdf] at HF HSn
          have j0 : (0 : Int) ≤ (j : Int) := by omega
          have j1 : (j : Int) < (m : Int) := by omega
          clear hrw hz hcn hdf HDu
          go_wp2_with fail
          refine HF.out.mono ?_
          rintro e w1 ⟨rfl, F2, hd2, hk⟩
          obtain ⟨e1, e2⟩ := hk g5 zb HNf.out
          have HE : Hid (Duo10 FB GB w0 w1 gp gr Fp F2 D (dropS D (ids.take (j + 1))) ∧ ¬ F2 g5 ∧ Blk w1 g5 36 #[.int .u8 k, .slice a n cap, .slice (some ⟨bb, off, none⟩) m cap']) := Lib.hid ⟨hd2, e2, KB.out.same e1⟩
          clear hd2 hk e1 e2 HF
          cases df with
          | false =>
            go_wp2
            go_roundw
            case rel => exact ⟨j + 1, F2, by omega, by go_num, by rw [HSn.out]; rfl, HE.out⟩
            case measure => simp [ivl] <;> omega
          | true =>
            go_wp2
            go_roundw
            case rel => exact ⟨j + 1, F2, by omega, by go_num, by rw [HSn.out]; go_num, HE.out⟩
            case measure => simp [ivl] <;> omega
        · obtain rfl : j = m := by omega
          have e0 : ids.take j = ids := List.take_of_length_le (by rw [HLn.out]; exact Nat.le_refl _)
          rw [e0] at HDu hcl ⊢
          have HPc := Lib.hid (HPd.out wr F1 HDu.out)
          obtain ⟨cn, hcn⟩ : ∃ cn, cn = dropN D ids := ⟨_, rfl⟩
          rw [← hcn] at hcl HPc ⊢
          have j1 : ¬ (j : Int) < (j : Int) := by omega
          clear e0 hrw hcn HDu
          go_wp2_with fail
          refine HPc.out.mono ?_
          rintro e w1 ⟨rfl, Fp', hd1⟩
          have HE : Hid (Duo10 FB GB w0 w1 gp gr Fp' F1 (doA D k l ids) (doA D k l ids)) := Lib.hid (by rw [HDo.out]; exact hd1)
          clear hd1 HPc
          go_wp2
          go_ret
          exact ⟨by simp, Fp', F1, HE.out⟩
    · have h4t : ¬ k.tmod 9 < 4 := by omega
      have h6t : ¬ k.tmod 9 < 6 := by omega
      have HDo : Hid (doA D k l ids = runD D) := Lib.hid (by unfold doA; rw [if_neg h4, if_neg h6])
      have HP : Hid (∀ u, Duo10 FB GB w0 u gp gr Fp Fq D D → Calls Tryz.prog 8 #[.pointer (some ⟨gp, 0, none⟩)] u fun e w' => ∃ va cap, e = .returned (.tuple #[.slice va (touchN D).length cap, .int .i64 (runE D)]) ∧ ∃ Fp', Duo10 FB GB w0 w' gp gr Fp' Fq (runD D) D ∧ Row w' va (touchN D).length (touchN D) ∧ Aw Fq va (touchN D).length) := Lib.hid (fun u d => (hC.run u gp Fp D hD (by omega) (by omega) d.p).mono fun e w' q => by
        obtain ⟨v, rfl, ⟨va, vc, rfl, r1, r2⟩, q3⟩ := q
        obtain ⟨Fp', k1, _⟩ := d.prog hG.kb q3.toX
        have hin := hG.kb.inb _ _ _ _ d.q
        exact ⟨va, vc, rfl, Fp', k1, r1, r2.imp id (fun c ad e hf => by have := hin _ hf; have := c ad e; omega)⟩)
      have HQ : Hid (∀ u Fp' va, Duo10 FB GB w0 u gp gr Fp' Fq (runD D) D → Row u va (touchN D).length (touchN D) → Aw Fq va (touchN D).length → Calls Tryz.prog 9 #[.pointer (some ⟨gr, 0, none⟩)] u fun e w' => ∃ vb cap, e = .returned (.tuple #[.slice vb (touchN D).length cap, .int .i64 (runE D)]) ∧ Row w' vb (touchN D).length (touchN D) ∧ Row w' va (touchN D).length (touchN D) ∧ ∃ Fq', Duo10 FB GB w0 w' gp gr Fp' Fq' (runD D) (runD D)) := Lib.hid (fun u Fp' va d r ha => (hR h6 u gr Fq D d.q hD (by omega) (by have : 0 ≤ m * D.L.length := Nat.zero_le _; omega) (by omega)).mono fun e w' q => by
        obtain ⟨v, rfl, ⟨vb, vc, rfl, r1, _⟩, q3⟩ := q
        obtain ⟨Fq', k1, _⟩ := d.ref hFK q3
        obtain ⟨_, _, fr, _⟩ := q3
        exact ⟨vb, vc, rfl, r1, row_frame r ha fr, Fq', k1⟩)
      have HKp : Hid (∀ u u' Fp' Fq' D1 D2, Duo10 FB GB w0 u gp gr Fp' Fq' D1 D2 → Below u.heap.size u u' → Duo10 FB GB w0 u' gp gr Fp' Fq' D1 D2) := Lib.hid (fun u u' Fp' Fq' D1 D2 d q => d.keep hFK hG.kb q)
      have htl := touch_len hD.wf
      obtain ⟨E, hE⟩ : ∃ E, E = runE D := ⟨_, rfl⟩
      obtain ⟨O, hO⟩ : ∃ O, O = touchN D := ⟨_, rfl⟩
      rw [← hE, ← hO] at HP HQ
      clear h hD hR hrow hrg hrow2 hrg2 hL hn hm hd hdd hs hal hC hFK hG htm HNp hrl hrl2 hE hO htl
      go_enter Tryz.func7, Tryz.ntmps7
      go_upto_region 1 with fail
      refine fin (fun W => Duo10 FB GB w0 W gp gr Fp Fq D D ∧ Blk W w.heap.size 36 #[.int .u8 k, .slice a n cap, .slice b m cap']) ⟨HD0.out, KB.out⟩ ?_
      clear HD0 KB
      rintro W ⟨hd, kb⟩
      have c0 : W.cell? ⟨w.heap.size, 0, none⟩ = some (.int .u8 k) := kb.cell 0
      have zb := kb.lt
      have HPc := Lib.hid (HP.out W hd)
      clear hd kb HP
      go_wp2_with fail
      refine HPc.out.mono ?_
      rintro e w1 ⟨va, vc, rfl, Fp', hd1, r1, a1⟩
      have HQc := Lib.hid (HQ.out w1 Fp' va hd1 r1 a1)
      clear hd1 r1 a1 HPc HQ c0 zb
      go_wp2_with fail
      refine HQc.out.mono ?_
      rintro e w2 ⟨vb, vd, rfl, r2, r3, Fq', hd2⟩
      have HS := Lib.hid (psame_yes (cap := vc) (cap' := vd) r3 r2)
      have HDu := Lib.hid hd2
      clear r2 r3 hd2 HQc
      go_wp2_with fail
      refine HS.out.mono ?_
      rintro e w3 ⟨rfl, hb3⟩
      have HE : Hid (Duo10 FB GB w0 w3 gp gr Fp' Fq' (doA D k l ids) (doA D k l ids)) := Lib.hid (by rw [HDo.out]; exact HKp.out _ _ _ _ _ _ HDu.out hb3)
      clear hb3 HS
      go_wp2
      go_ret
      exact ⟨by simp, Fp', Fq', HE.out⟩
end
end Go.Proofs.YtdndafdninnjfaaGreat
/-
  A run, and how much room its list has; a predicate of the reference's flow with its rows named.
-/
namespace Go.Proofs.YtdndafdninnjfaaGreat
open Go.RowKit

def RunCap (FB : World → Nat → (Nat → Prop) → FD → Prop) : Prop := ∀ (w : World) g F D, DOk D → D.L.length ≤ 300 → D.steps ≤ 1000000 → FB w g F D → Calls Tryz.prog 8 #[.pointer (some ⟨g, 0, none⟩)] w fun e w' => ∃ v, e = .returned (.tuple #[v, .int .i64 (runE D)]) ∧ LRes w w' (touchN D) v ∧ CapOk v ∧ ChR FB w w' g F (runD D)
def RWW (vl vd vs : Value) (w : World) (g : Nat) (F : Nat → Prop) (D : FD) : Prop := RW w g D vl vd vs ∧ ∀ b, F b ↔ footW g vl vd vs b
theorem kb_rww (vl vd vs : Value) : KB10 (RWW vl vd vs) := ⟨fun _ _ _ _ _ h he => ⟨h.1.same (fun b hb => he b ((h.2 b).2 hb)), h.2⟩, fun _ _ _ _ h b hf => h.1.inb b ((h.2 b).1 hf), fun _ _ _ _ h => h.1.blk.lt⟩
end Go.Proofs.YtdndafdninnjfaaGreat
