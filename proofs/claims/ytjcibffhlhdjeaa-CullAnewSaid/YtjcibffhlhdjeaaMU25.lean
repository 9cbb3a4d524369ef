/-
  CullAnew, walked, for any package that answers as the bundle says.
-/
import Derived.Test.YtjcibffhlhdjeaaMU24
namespace Go.Proofs.Ytjcibffhlhdjeaa
open Go.RowKit

/-- the reference's cull, at known places -/
def QV (vV vs vR vD vS : Value) (st : Int) (w : World) (g : Nat) (F : Nat → Prop) (K : Ku) : Prop := RK w g K vV vs vR vD vS st ∧ ∀ b, F b ↔ footK g vV vs vR vD b
theorem kb_qv (vV vs vR vD vS : Value) (st : Int) : KB15 (QV vV vs vR vD vS st) := ⟨fun _ _ _ _ _ h he => ⟨h.1.same (fun b hb => he b ((h.2 b).2 hb)), h.2⟩, fun _ _ _ _ h b hb => h.1.inb b ((h.2 b).1 hb), fun _ _ _ _ h => h.1.blk.lt⟩
theorem rkb_zero {w : World} {g : Nat} (k : Blk w g 33 #[.slice none 0 0, .slice none 0 0, .slice none 0 0, .slice none 0 0, .int .i64 0]) : RKB w g (fun b => b = g) Ku0 := by
  refine ⟨.slice none 0 0, .slice none 0 0, .slice none 0 0, .slice none 0 0, .slice none 0 0, 0, ⟨k, ⟨rfl, rfl⟩, OwnX.nil _ _ _ _ _, OwnD.nil _ _, ?_, ?_⟩, fun b => ⟨fun e => Or.inl e, ?_⟩⟩
  · rintro b (e | e | e) <;> cases e
  · intro b e
    cases e
  · rintro (e | (e | e | e) | e)
    · exact e
    · cases e
    · cases e
    · cases e
    · cases e
/-- a cull, the reference's, and a new one -/
structure Tri15 (PB QB : World → Nat → (Nat → Prop) → Ku → Prop) (w0 w : World) (gp gq gx : Nat) (Fp Fq Fx : Nat → Prop) (Kp Kq Kx : Ku) : Prop where
  p : PB w gp Fp Kp
  q : QB w gq Fq Kq
  x : PB w gx Fx Kx
  apq : ∀ b, Fp b → ¬ Fq b
  apx : ∀ b, Fp b → ¬ Fx b
  aqx : ∀ b, Fq b → ¬ Fx b
  low : Below w0.heap.size w0 w
  np : ∀ b, Fp b → w0.heap.size ≤ b
  nx : ∀ b, Fx b → w0.heap.size ≤ b
section
variable {PB QB : World → Nat → (Nat → Prop) → Ku → Prop} {w0 w w' : World} {gp gq gx : Nat} {Fp Fq Fx : Nat → Prop} {Kp Kq Kx K' : Ku}
theorem Tri15.keep (hP : KB15 PB) (hQ : KB15 QB) (h : Tri15 PB QB w0 w gp gq gx Fp Fq Fx Kp Kq Kx) (hb : Below w.heap.size w w') : Tri15 PB QB w0 w' gp gq gx Fp Fq Fx Kp Kq Kx := ⟨hP.keep h.p hb, hQ.keep h.q hb, hP.keep h.x hb, h.apq, h.apx, h.aqx, bthen h.low hb, h.np, h.nx⟩
theorem Tri15.stepP (hP : KB15 PB) (hQ : KB15 QB) (h : Tri15 PB QB w0 w gp gq gx Fp Fq Fx Kp Kq Kx) (k : ChX PB w w' gp Fp K') : ∃ Fp', Tri15 PB QB w0 w' gp gq gx Fp' Fq Fx K' Kq Kx := by
  obtain ⟨F', k1, k2, k3⟩ := k
  have hq := hQ.inb _ _ _ _ h.q
  have hx := hP.inb _ _ _ _ h.x
  refine ⟨F', k1, hQ.keep_ _ _ _ _ _ h.q (fun b hb => k2.2.2.2.2 b (hq b hb) (fun c => h.apq b c hb)), hP.keep_ _ _ _ _ _ h.x (fun b hb => k2.2.2.2.2 b (hx b hb) (fun c => h.apx b c hb)), fun b hb hc => ?_, fun b hb hc => ?_, h.aqx, Fr.below k2 h.low h.np h.low.size, fun b hb => ?_, h.nx⟩
  · rcases k3 b hb with d | d
    · exact h.apq b d hc
    · have := hq b hc; omega
  · rcases k3 b hb with d | d
    · exact h.apx b d hc
    · have := hx b hc; omega
  · rcases k3 b hb with d | d
    · exact h.np b d
    · exact Nat.le_trans h.low.size d
theorem Tri15.stepX (hP : KB15 PB) (hQ : KB15 QB) (h : Tri15 PB QB w0 w gp gq gx Fp Fq Fx Kp Kq Kx) (k : ChX PB w w' gx Fx K') : ∃ Fx', Tri15 PB QB w0 w' gp gq gx Fp Fq Fx' Kp Kq K' := by
  obtain ⟨F', k1, k2, k3⟩ := k
  have hq := hQ.inb _ _ _ _ h.q
  have hp := hP.inb _ _ _ _ h.p
  refine ⟨F', hP.keep_ _ _ _ _ _ h.p (fun b hb => k2.2.2.2.2 b (hp b hb) (fun c => h.apx b hb c)), hQ.keep_ _ _ _ _ _ h.q (fun b hb => k2.2.2.2.2 b (hq b hb) (fun c => h.aqx b hb c)), k1, h.apq, fun b hb hc => ?_, fun b hb hc => ?_, Fr.below k2 h.low h.nx h.low.size, h.np, fun b hb => ?_⟩
  · rcases k3 b hc with d | d
    · exact h.apx b hb d
    · have := hp b hb; omega
  · rcases k3 b hc with d | d
    · exact h.aqx b hb d
    · have := hq b hb; omega
  · rcases k3 b hb with d | d
    · exact h.nx b d
    · exact Nat.le_trans h.low.size d
end
theorem row1_15 {W : World} {g : Nat} {t : TypeId} {x : Rc} (k : Blk W g t (cRc x).toArray) : RcRow W (some ⟨g, 0, none⟩) 1 [x] := by
  refine ⟨rfl, by omega, Or.inr ⟨g, 0, rfl, k.lt, fun i z hz => ?_⟩⟩
  match i, hz with
  | 0, hz =>
    injection hz with hz
    subst hz
    have := blk_whole k
    rwa [show 0 + 0 * 12 = 0 by omega]
theorem runS_R (K : Ku) : (runS15 K).R = K.R := by
  unfold runS15
  split <;> rfl
theorem runS_n (K : Ku) : (runS15 K).n = K.n + K.D.length := by
  unfold runS15
  split <;> rfl
theorem ok_ps {v : Vw} (h : okVw v = true) : v.ps.length ≤ 8 := by
  unfold okVw at h
  simp only [Bool.and_eq_true, decide_eq_true_eq] at h
  exact h.1
section
variable {PB : World → Nat → (Nat → Prop) → Ku → Prop}
set_option maxHeartbeats 32000000 in
set_option maxRecDepth 100000 in
theorem cullanew_yes (hC : KC PB) (a : Option Addr) (len cap : Nat) (xs : List A15) (w : World) (row : ARow15 w a len xs) :
    Calls Try.prog 3 #[.slice a len cap] w fun e w' => e = .returned (.bool true) ∧ Below w.heap.size w w' := by
  have hbig := row.2.1
  have HLn := Lib.hid row.1
  have HRow := Lib.hid row
  have HF := Lib.hid (fits15_any a len cap xs w row)
  clear row
  go_enter Try.func3, Try.ntmps3
  go_wp2_with fail
  refine HF.out.mono ?_
  rintro e w1 ⟨ok, rfl, hok, b1⟩
  have HB1 := Lib.hid b1
  clear HF b1
  cases ok with
  | false =>
    go_wp2_with fail
    refine (alive15_any hC w1).mono ?_
    rintro e w2 ⟨rfl, b2⟩
    have HB2 := Lib.hid (bthen HB1.out b2)
    clear HB1 b2
    go_wp2
    go_ret
    exact ⟨rfl, HB2.out⟩
  | true =>
    obtain ⟨hl, hsm, hsu⟩ := hok rfl
    have HSm := Lib.hid hsm
    have HSu := Lib.hid hsu
    clear hok hsm hsu
    go_wp2_with fail
    refine (hC.new w1).mono ?_
    rintro e w2 ⟨gp, Fp, rfl, hp, hnp, b2⟩
    have HB2 : Hid (Below w.heap.size w w2) := Lib.hid (bthen HB1.out b2)
    have HD0 : Hid (Duo15 PB RKB w (w2.alloc (.cells #[.slice none 0 0, .slice none 0 0, .slice none 0 0, .slice none 0 0, .int .i64 0] 33)) gp w2.heap.size Fp (fun b => b = w2.heap.size) Ku0 Ku0) := Lib.hid ⟨hC.kb.keep hp (alloc_below _ _), rkb_zero (Blk.new w2 _ _), fun b hb e => by
      have := hC.kb.inb _ _ _ _ hp b hb
      omega, bthen HB2.out (alloc_below _ _), fun b hb => Nat.le_trans HB1.out.size (hnp b hb), fun b e => by rw [e]; exact HB2.out.size⟩
    clear hp hnp b2 HB1
    go_upto_region 6 with fail
    refine fin (fun W => Duo15 PB RKB w W gp w2.heap.size Fp (fun b => b = w2.heap.size) Ku0 Ku0) HD0.out ?_
    clear HD0 HB2
    obtain ⟨gr, hgr⟩ : ∃ gr, gr = w2.heap.size := ⟨_, rfl⟩
    rw [← hgr]
    obtain ⟨Fr0, hFr0⟩ : ∃ Fr0 : Nat → Prop, Fr0 = fun b => b = gr := ⟨_, rfl⟩
    rw [← hFr0]
    clear hgr hFr0
    rintro W hd
    have HDu := Lib.hid hd
    clear hd
    go_wp2
    go_loopw [6] (fun i wr => ∃ (j : Nat) (Fp' Fq' : Nat → Prop) (K : Ku), j ≤ len ∧ i = .int .i64 j ∧ Duo15 PB RKB w wr gp gr Fp' Fq' K K ∧ KOk K ∧ VOk K ∧ K.R.length ≤ suA15 xs j ∧ 0 ≤ K.n ∧ K.n ≤ 200 * (j : Int)) (fun i _ => len - (ivl i).toNat)
    case atStart => exact ⟨0, Fp, Fr0, Ku0, by omega, rfl, HDu.out, KOk.zero, (fun v h => nomatch (show (none : Option Vw) = some v from h)), Nat.zero_le _, by decide, by decide⟩
    case round =>
      clear HDu
      obtain ⟨j, F1, F2, K, hj, rfl, hd, hK, hV, hRs, hn0, hnj⟩ := hrel
      have HDu := Lib.hid hd
      have hrw := HRow.out.keep hd.low
      clear hd
      have j0 : (0 : Int) ≤ (j : Int) := by omega
      by_cases hlt : j < len
      · have j1 : (j : Int) < (len : Int) := by omega
        obtain ⟨b, off, x, rfl, hx, hr, hokx⟩ := hrw.at_ hlt
        have HSx := HSm.out j x hlt hx
        have hs1 := HSu.out (j + 1) (by omega)
        have hst := suA15_step hx
        have hok0 : ok15 w x := by
          obtain ⟨b', off', x', e', hx', _, h'⟩ := HRow.out.at_ hlt
          have : x' = x := Option.some.inj (hx'.symm.trans hx)
          rw [← this]; exact h'
        have hLx : x.L.length = x.rn := hok0.2.2.2.1.1.1
        have HSt := Lib.hid (lstep15_any hC HDu.out hK hV x hok0 HSx (by omega) hn0 (by omega))
        have hl2 := doK_len K x
        have hn2 := doK_n hK x
        have HNx : Hid (KOk (doK K x) ∧ VOk (doK K x) ∧ (doK K x).R.length ≤ suA15 xs (j + 1) ∧ 0 ≤ (doK K x).n ∧ (doK K x).n ≤ 200 * ((j + 1 : Nat) : Int)) := Lib.hid ⟨hK.doK x hok0.2.2.2.1.2, hV.doK x, by omega, by omega, by omega⟩
        have HRg : Hid (wr.rangeAt b (off + j * 9) (c15 x)) := Lib.hid hr
        have HAs : Hid ((Try.prog.info? 45).map (·.size) = some (c15 x).length) := Lib.hid (by rw [c15_len]; kernel_rfl)
        obtain ⟨XA, hXA⟩ : ∃ XA, XA = c15 x := ⟨_, rfl⟩
        rw [← hXA] at HSt HRg HAs
        obtain ⟨Kn, hKn⟩ : ∃ Kn, Kn = doK K x := ⟨_, rfl⟩
        rw [← hKn] at HSt HNx
        clear hrw hx hr hokx HSx hs1 hst hok0 hLx hl2 hn2 hXA hKn hK hV hRs hn0 hnj
        go_wp2_with (first
          | refine wpList_load_mid rfl 45 (.tmp 34) rfl b (off + j * 9) rfl XA _ HRg.out Try.underlying45 rfl HAs.out ?_
          | fail)
        refine HSt.out.mono ?_
        rintro e w3 ⟨⟨v, rfl⟩, F3, F4, d3⟩
        have HD3 := Lib.hid d3
        clear d3 HSt HRg HDu
        go_wp2
        go_roundw
        case rel => exact ⟨j + 1, F3, F4, Kn, by omega, by go_num, HD3.out, HNx.out.1, HNx.out.2.1, HNx.out.2.2.1, HNx.out.2.2.2.1, HNx.out.2.2.2.2⟩
        case measure => simp [ivl] <;> omega
      · obtain rfl : j = len := by omega
        have j1 : ¬ (j : Int) < (j : Int) := by omega
        have hs1 := HSu.out j (Nat.le_refl _)
        have hRl : K.R.length ≤ 200 := by omega
        have hn1 : K.n ≤ 8000 := by omega
        clear hrw hs1 hRs hnj HSm HSu HRow
        obtain ⟨vV, vs, vR, vD, vS, st, hrk, hF⟩ := HDu.out.q
        obtain ⟨ar, cr, hvR, -⟩ := hrk.rc.row cRc_len
        subst hvR
        obtain ⟨n, hN⟩ : ∃ n, n = K.R.length := ⟨_, rfl⟩
        rw [← hN] at hrk hF
        have HQ0 : Hid (QV vV vs (.slice ar n cr) vD vS st wr gr F2 K) := Lib.hid ⟨hrk, hF⟩
        have hvw := hrk.vw
        clear hrk hF
        have HXn : Hid (∀ u : World, Below wr.heap.size wr u → Calls Try.prog 6 #[] u fun e w' => ∃ gx Fx, e = .returned (.pointer (some ⟨gx, 0, none⟩)) ∧ Tri15 PB (QV vV vs (.slice ar n cr) vD vS st) w w' gp gr gx F1 F2 Fx K K (putsK Ku0 (K.R.take 0))) := Lib.hid (fun u hu => (hC.new u).mono fun e w' q => by
          obtain ⟨gx, Fx, q1, q2, q3, q4⟩ := q
          have hb := bthen hu q4
          have i1 := hC.kb.inb _ _ _ _ HDu.out.p
          have i2 := (kb_qv _ _ _ _ _ _).inb _ _ _ _ HQ0.out
          have z1 := hu.size
          have z2 := HDu.out.low.size
          refine ⟨gx, Fx, q1, hC.kb.keep HDu.out.p hb, (kb_qv _ _ _ _ _ _).keep HQ0.out hb, by rw [List.take_zero]; exact q2, HDu.out.far, fun b h1 h2 => ?_, fun b h1 h2 => ?_, bthen HDu.out.low hb, HDu.out.np, fun b h2 => ?_⟩
          · have := i1 b h1
            have := q3 b h2
            omega
          · have := i2 b h1
            have := q3 b h2
            omega
          · have := q3 b h2
            omega)
        clear HQ0
        go_wp2_with fail
        refine (HXn.out _ (Below.refl _ _)).mono ?_
        rintro e w3 ⟨gx, Fx, rfl, d3⟩
        have HT3 := Lib.hid d3
        clear HXn HDu d3
        have HPx : Hid (∀ (u : World) (i : Nat) (Fx : Nat → Prop) (x : Rc) (ab : Nat), K.R[i]? = some x → Tri15 PB (QV vV vs (.slice ar n cr) vD vS st) w u gp gr gx F1 F2 Fx K K (putsK Ku0 (K.R.take i)) → RcRow u (some ⟨ab, 0, none⟩) 1 [x] → ¬ Fx ab → Calls Try.prog 8 #[.pointer (some ⟨gx, 0, none⟩), .slice (some ⟨ab, 0, none⟩) 1 1] u fun e w' => e = .returned (.tuple #[]) ∧ ∃ Fx', Tri15 PB (QV vV vs (.slice ar n cr) vD vS st) w w' gp gr gx F1 F2 Fx' K K (putsK Ku0 (K.R.take (i + 1)))) := Lib.hid (fun u i Fx x ab hx d r hab => by
          have hKi := KOk.puts (l := K.R.take i) KOk.zero (fun x hx => hK.rg x (List.mem_of_mem_take hx))
          have hl1 := puts_len (K.R.take i) Ku0
          have hi := (List.getElem?_eq_some_iff.1 hx).1
          rw [List.length_take] at hl1
          have hl0 : Ku0.R.length = 0 := rfl
          refine (hC.put u gx Fx (putsK Ku0 (K.R.take i)) (some ⟨ab, 0, none⟩) 1 1 [x] hKi (by omega) (by omega) d.x r (Or.inr (fun ad e c => by injection e with e; rw [← e] at c; exact hab c)) (fun y hy => by
            rw [List.mem_singleton.1 hy]
            exact hK.rg x (List.mem_of_getElem? hx))).mono fun e w' q => ?_
          obtain ⟨Fx', k1⟩ := d.stepX hC.kb (kb_qv _ _ _ _ _ _) q.2
          exact ⟨q.1, Fx', by rw [puts_snoc hx]; exact k1⟩)
        have HQr : Hid (∀ u Fx Kx, Tri15 PB (QV vV vs (.slice ar n cr) vD vS st) w u gp gr gx F1 F2 Fx K K Kx → u.cell? ⟨gr, 1, none⟩ = some (.slice ar n cr) ∧ gr < u.heap.size ∧ RcRow u ar n K.R ∧ ∀ b, Fx b → b < u.heap.size) := Lib.hid (fun u Fx Kx d => ⟨d.q.1.blk.cell 1, d.q.1.blk.lt, rcrow d.q.1.rc hN, hC.kb.inb _ _ _ _ d.x⟩)
        have HKq : Hid (∀ u u' Fx Kx, Tri15 PB (QV vV vs (.slice ar n cr) vD vS st) w u gp gr gx F1 F2 Fx K K Kx → Below u.heap.size u u' → Tri15 PB (QV vV vs (.slice ar n cr) vD vS st) w u' gp gr gx F1 F2 Fx K K Kx) := Lib.hid (fun u u' Fx Kx d b => d.keep hC.kb (kb_qv _ _ _ _ _ _) b)
        have hnl : n ≤ 200 := by omega
        have HTk : Hid (K.R.take n = K.R) := Lib.hid (List.take_of_length_le (by rw [hN]; exact Nat.le_refl _))
        go_wp2
        go_loopw [8, 9] (fun i _ wq => ∃ (j : Nat) (Fx' : Nat → Prop), j ≤ n ∧ i = .int .i64 j ∧ Tri15 PB (QV vV vs (.slice ar n cr) vD vS st) w wq gp gr gx F1 F2 Fx' K K (putsK Ku0 (K.R.take j))) (fun i _ _ => n - (ivl i).toNat)
        case atStart => exact ⟨0, Fx, by omega, rfl, HT3.out⟩
        case round =>
          clear HT3
          obtain ⟨j2, Fx2, hj2, rfl, hd2⟩ := hrel
          have HT := Lib.hid hd2
          obtain ⟨cq, hgq, hrq, -⟩ := HQr.out _ _ _ hd2
          have j20 : (0 : Int) ≤ (j2 : Int) := by omega
          clear hd2
          by_cases hlt : j2 < n
          · have j21 : (j2 : Int) < (n : Int) := by omega
            obtain ⟨b, off, x, rfl, hbl, hx, hr⟩ := hrq.at_ hlt
            have HL0 : Hid (wr.rangeAt b (off + j2 * 12) (cRc x)) := Lib.hid hr
            have KN := Blk.new wr 50 (cRc zRc).toArray
            have HW1 : Hid (Blk ((wr.alloc (.cells (cRc zRc).toArray 50)).setCells wr.heap.size 0 (cRc x)) wr.heap.size 50 (cRc x).toArray ∧ Below wr.heap.size wr ((wr.alloc (.cells (cRc zRc).toArray 50)).setCells wr.heap.size 0 (cRc x))) := Lib.hid (by
              refine ⟨?_, below_setCells _ (alloc_below _ _) (Nat.le_refl _)⟩
              have := blk_setCells (cRc x) (o := 0) KN (Nat.le_refl 12)
              rw [splice_rc] at this
              exact this)
            have HTh0 : Hid ((wr.alloc (.cells (cRc zRc).toArray 50)).there wr.heap.size 0 12) := Lib.hid (blk_there KN (Nat.le_refl 12))
            have HSz := Lib.hid (rf_size x)
            have HOx := Lib.hid (rc_all x)
            have HCs : Hid (∀ (W : World) g, Blk W g 50 (cRc x).toArray → W.cell? ⟨g, 0, none⟩ = some (.int .i64 x.id) ∧ W.cell? ⟨g, 1, none⟩ = some (.int .i64 x.ms) ∧ W.cell? ⟨g, 2, none⟩ = some (.int .i64 x.pp) ∧ W.cell? ⟨g, 3, none⟩ = some (.int .i64 x.mt) ∧ W.cell? ⟨g, 4, none⟩ = some (.bool x.cl) ∧ W.cell? ⟨g, 5, none⟩ = some (.int .i64 x.ly) ∧
    W.cell? ⟨g, 6, none⟩ = some (.int .i64 x.x0) ∧ W.cell? ⟨g, 7, none⟩ = some (.int .i64 x.x1) ∧ W.cell? ⟨g, 8, none⟩ = some (.int .i64 x.x2) ∧ W.cell? ⟨g, 9, none⟩ = some (.int .i64 x.x3) ∧ W.cell? ⟨g, 10, none⟩ = some (.int .i64 x.x4) ∧ W.cell? ⟨g, 11, none⟩ = some (.int .i64 x.x5)) := Lib.hid (fun W g k => rc_cells k)
            obtain ⟨XX, hXX⟩ : ∃ XX, XX = cRc x := ⟨_, rfl⟩
            have HLx : Hid (XX.length = 12) := Lib.hid (by rw [hXX]; rfl)
            rw [← hXX] at HL0 HW1 HSz HOx HCs
            have HSz' : Hid ((Try.prog.info? 50).map (·.size) = some XX.toArray.size) := HSz
            have HTh : Hid ((wr.alloc (.cells (cRc zRc).toArray 50)).there wr.heap.size 0 XX.toArray.size) := Lib.hid (by show World.there _ _ 0 XX.length; rw [HLx.out]; exact HTh0.out)
            have HXi := Lib.hid hx
            clear KN HTh0 hXX hr hbl hrq hx
            go_upto_region 15 with (first
              | refine wpList_load_mid rfl 50 (.tmp 52) rfl b (off + j2 * 12) rfl XX _ HL0.out Try.underlying50 rfl HSz.out ?_
              | refine wpList_store_mid rfl 50 (.tmp 9) (.tmp 53) rfl wr.heap.size 0 XX.toArray rfl rfl HTh.out HSz'.out HOx.out ?_)
            refine fin (fun W => Blk W wr.heap.size 50 XX.toArray ∧ Below wr.heap.size wr W) HW1.out ?_
            clear HW1 HTh HL0
            rintro W ⟨kx, bx⟩
            have HTW := Lib.hid (HKq.out _ _ _ _ HT.out bx)
            obtain ⟨c0, c1, c2, c3, c4, c5, c6, c7, c8, c9, c10, c11⟩ := HCs.out _ _ kx
            have hgl := kx.lt
            have HRx : Hid (RcRow (W.alloc (.cells #[.int .i64 x.id, .int .i64 x.ms, .int .i64 x.pp, .int .i64 x.mt, .bool x.cl, .int .i64 x.ly, .int .i64 x.x0, .int .i64 x.x1, .int .i64 x.x2, .int .i64 x.x3, .int .i64 x.x4, .int .i64 x.x5] 52)) (some ⟨W.heap.size, 0, none⟩) 1 [x]) := Lib.hid (row1_15 (Blk.new W _ _))
            have HNf : Hid (¬ Fx2 W.heap.size) := Lib.hid (fun c => by
              have := (HQr.out _ _ _ HTW.out).2.2.2 _ c
              omega)
            obtain ⟨g9, hg9⟩ : ∃ g9, g9 = wr.heap.size := ⟨_, rfl⟩
            rw [← hg9] at c0 c1 c2 c3 c4 c5 c6 c7 c8 c9 c10 c11 hgl ⊢
            clear kx bx HCs HT cq hgq hg9
            go_wp2_with fail
            refine (HPx.out _ j2 Fx2 x W.heap.size HXi.out (HKq.out _ _ _ _ HTW.out (alloc_below _ _)) HRx.out HNf.out).mono ?_
            rintro e w5 ⟨rfl, Fx3, d5⟩
            have HT5 := Lib.hid d5
            clear d5 HTW HRx HNf HXi c0 c1 c2 c3 c4 c5 c6 c7 c8 c9 c10 c11 hgl
            go_wp2
            go_roundw
            case rel => exact ⟨j2 + 1, Fx3, by omega, by go_num, HT5.out⟩
            case measure => simp [ivl] <;> omega
          · obtain rfl : j2 = n := by omega
            have j21 : ¬ (j2 : Int) < (j2 : Int) := by omega
            rw [HTk.out] at HT
            clear hrq hlt hj2 HPx HQr HKq HTk hnl j20
            obtain ⟨N1, hN1⟩ : ∃ N1, N1 = K.D.length := ⟨_, rfl⟩
            obtain ⟨E1, hE1⟩ : ∃ E1, E1 = runE15 K := ⟨_, rfl⟩
            obtain ⟨N2, hN2⟩ : ∃ N2, N2 = (runS15 K).D.length := ⟨_, rfl⟩
            obtain ⟨S, hS1⟩ : ∃ S, S = seenK (runS15 K) := ⟨_, rfl⟩
            have hAn := anew15 hK hV
            have hnw := new_is hK hV
            have hKn : KOk (newK K) := by rw [hnw]; exact hK.alld _ _ _
            have hVn : VOk (newK K) := by rw [hnw]; exact hV
            have hRn : (newK K).R.length ≤ 200 := by rw [hnw]; exact hRl
            have hnn : (newK K).n = 0 := by rw [hnw]
            have hRl2 : (runS15 K).R.length ≤ 200 := by rw [runS_R]; exact hRl
            have hRn2 : (runS15 (newK K)).R.length ≤ 200 := by rw [runS_R]; exact hRn
            have hdl := hK.dlen
            have hm0 : 0 ≤ (runS15 K).n := by rw [runS_n]; omega
            have hm1 : (runS15 K).n ≤ 1000000 := by rw [runS_n]; omega
            have hn1 : K.n ≤ 1000000 := by omega
            have hSl : (seenK (runS15 K)).length ≤ 1000 := by
              rw [seen_run]
              split
              · have := saw_len K.V K.R
                omega
              · exact Nat.zero_le _
            have c0 : wr.cell? ⟨gr, 0, none⟩ = some vV := HT.out.q.1.blk.cell 0
            have hvw := HT.out.q.1.vw
            clear hnw hdl
            cases e : K.V with
            | none =>
              rw [e] at hvw
              obtain ⟨rfl, rfl⟩ := hvw
              have HT0 : Hid (Tri15 PB (QV (.slice none 0 0) (.slice none 0 0) (.slice ar j2 cr) vD vS st) w wr gp gr gx F1 F2 Fx2 K K (newK K)) := Lib.hid (by
                have e1 : newK K = putsK Ku0 K.R := by unfold newK; rw [e]
                rw [e1]
                exact HT.out)
              clear HT e
              go_upto_region 18 with fail
              refine fin (fun W => Tri15 PB (QV (.slice none 0 0) (.slice none 0 0) (.slice ar j2 cr) vD vS st) w W gp gr gx F1 F2 Fx2 K K (newK K)) HT0.out ?_
              clear HT0 c0 hgq cq
              rintro W hTT
              have HT := Lib.hid hTT
              clear hTT
              have HRc : Hid (∀ u Fp Fx, Tri15 PB (QV (.slice none 0 0) (.slice none 0 0) (.slice ar j2 cr) vD vS st) w u gp gr gx Fp F2 Fx K K (newK K) → Calls Try.prog 10 #[.pointer (some ⟨gp, 0, none⟩)] u fun e w' => e = .returned (.tuple #[.int .i64 N1, .int .i64 E1]) ∧ ∃ Fp', Tri15 PB (QV (.slice none 0 0) (.slice none 0 0) (.slice ar j2 cr) vD vS st) w w' gp gr gx Fp' F2 Fx (runS15 K) K (newK K)) := Lib.hid (fun u Fp Fx d => (hC.run u gp Fp K hK hV hRl hn0 hn1 d.p).mono fun e w' q => by
                obtain ⟨Fp', k1⟩ := d.stepP hC.kb (kb_qv _ _ _ _ _ _) q.2
                exact ⟨by rw [hN1, hE1]; exact q.1, Fp', k1⟩)
              have HRx : Hid (∀ u Fp Fx, Tri15 PB (QV (.slice none 0 0) (.slice none 0 0) (.slice ar j2 cr) vD vS st) w u gp gr gx Fp F2 Fx (runS15 K) K (newK K) → Calls Try.prog 10 #[.pointer (some ⟨gx, 0, none⟩)] u fun e w' => e = .returned (.tuple #[.int .i64 j2, .int .i64 E1]) ∧ ∃ Fx', Tri15 PB (QV (.slice none 0 0) (.slice none 0 0) (.slice ar j2 cr) vD vS st) w w' gp gr gx Fp F2 Fx' (runS15 K) K (runS15 (newK K))) := Lib.hid (fun u Fp Fx d => (hC.run u gx Fx (newK K) hKn hVn hRn (by rw [hnn]; decide) (by rw [hnn]; decide) d.x).mono fun e w' q => by
                obtain ⟨Fx', k1⟩ := d.stepX hC.kb (kb_qv _ _ _ _ _ _) q.2
                exact ⟨by rw [hN, hE1, ← hAn.1, ← hAn.2.1]; exact q.1, Fx', k1⟩)
              have HSc : Hid (∀ u Fp Fx, Tri15 PB (QV (.slice none 0 0) (.slice none 0 0) (.slice ar j2 cr) vD vS st) w u gp gr gx Fp F2 Fx (runS15 K) K (runS15 (newK K)) → Calls Try.prog 13 #[.pointer (some ⟨gp, 0, none⟩)] u fun e w' => ∃ a cap, e = .returned (.slice a S.length cap) ∧ RowX 2 cSn w' a S.length S ∧ Below u.heap.size u w' ∧ Tri15 PB (QV (.slice none 0 0) (.slice none 0 0) (.slice ar j2 cr) vD vS st) w w' gp gr gx Fp F2 Fx (runS15 K) K (runS15 (newK K))) := Lib.hid (fun u Fp Fx d => (hC.seen u gp Fp (runS15 K) hK.run hV.run hRl2 d.p).mono fun e w' q => by
                obtain ⟨a, cap, q1, q2, _, q4⟩ := q
                rw [← hS1] at q1 q2
                exact ⟨a, cap, q1, q2, q4, d.keep hC.kb (kb_qv _ _ _ _ _ _) q4⟩)
              have HSx : Hid (∀ u Fp Fx, Tri15 PB (QV (.slice none 0 0) (.slice none 0 0) (.slice ar j2 cr) vD vS st) w u gp gr gx Fp F2 Fx (runS15 K) K (runS15 (newK K)) → Calls Try.prog 13 #[.pointer (some ⟨gx, 0, none⟩)] u fun e w' => ∃ a cap, e = .returned (.slice a S.length cap) ∧ RowX 2 cSn w' a S.length S ∧ Below u.heap.size u w' ∧ Tri15 PB (QV (.slice none 0 0) (.slice none 0 0) (.slice ar j2 cr) vD vS st) w w' gp gr gx Fp F2 Fx (runS15 K) K (runS15 (newK K))) := Lib.hid (fun u Fp Fx d => (hC.seen u gx Fx (runS15 (newK K)) hKn.run hVn.run hRn2 d.x).mono fun e w' q => by
                obtain ⟨a, cap, q1, q2, _, q4⟩ := q
                rw [← hAn.2.2.1, ← hS1] at q1 q2
                exact ⟨a, cap, q1, q2, q4, d.keep hC.kb (kb_qv _ _ _ _ _ _) q4⟩)
              have HR2 : Hid (∀ u Fp Fx, Tri15 PB (QV (.slice none 0 0) (.slice none 0 0) (.slice ar j2 cr) vD vS st) w u gp gr gx Fp F2 Fx (runS15 K) K (runS15 (newK K)) → Calls Try.prog 10 #[.pointer (some ⟨gp, 0, none⟩)] u fun e w' => e = .returned (.tuple #[.int .i64 N2, .int .i64 E1]) ∧ ∃ Fp', Tri15 PB (QV (.slice none 0 0) (.slice none 0 0) (.slice ar j2 cr) vD vS st) w w' gp gr gx Fp' F2 Fx (runS15 (runS15 K)) K (runS15 (newK K))) := Lib.hid (fun u Fp Fx d => (hC.run u gp Fp (runS15 K) hK.run hV.run hRl2 hm0 hm1 d.p).mono fun e w' q => by
                obtain ⟨Fp', k1⟩ := d.stepP hC.kb (kb_qv _ _ _ _ _ _) q.2
                exact ⟨by rw [hN2, hE1, ← hAn.2.2.2.1]; exact q.1, Fp', k1⟩)
              have HKp : Hid (∀ u u' Fp Fx Kx, Tri15 PB (QV (.slice none 0 0) (.slice none 0 0) (.slice ar j2 cr) vD vS st) w u gp gr gx Fp F2 Fx (runS15 K) K Kx → Below u.heap.size u u' → Tri15 PB (QV (.slice none 0 0) (.slice none 0 0) (.slice ar j2 cr) vD vS st) w u' gp gr gx Fp F2 Fx (runS15 K) K Kx) := Lib.hid (fun u u' Fp Fx Kx d b => d.keep hC.kb (kb_qv _ _ _ _ _ _) b)
              have HQ1 : Hid (∀ u Fp Fx Kp Kx, Tri15 PB (QV (.slice none 0 0) (.slice none 0 0) (.slice ar j2 cr) vD vS st) w u gp gr gx Fp F2 Fx Kp K Kx → u.cell? ⟨gr, 1, none⟩ = some (.slice ar j2 cr) ∧ gr < u.heap.size) := Lib.hid (fun u Fp Fx Kp Kx d => ⟨d.q.1.blk.cell 1, d.q.1.blk.lt⟩)
              have HOf : Hid (∀ (u : World) a cap, RowX 2 cSn u a S.length S → Calls Try.prog 12 #[.slice a S.length cap] u fun e w' => ∃ v, e = .returned v ∧ OwnX 2 cSn 80 w' u.heap.size v S ∧ Below u.heap.size u w') := Lib.hid (fun u a cap r => lof15_any a S.length cap S u r (by rw [hS1]; exact hSl))
              have HSm : Hid (∀ (u : World) a b cap cap', RowX 2 cSn u a S.length S → RowX 2 cSn u b S.length S → Calls Try.prog 11 #[.slice a S.length cap, .slice b S.length cap'] u fun e w' => e = .returned (.bool true) ∧ Below u.heap.size u w') := Lib.hid (fun u a b cap cap' r r' => same15_yes a b S.length cap cap' S u r r')
              have HAl : Hid (∀ u, Calls Try.prog 5 #[] u fun e w' => e = .returned (.bool true) ∧ Below u.heap.size u w') := Lib.hid (fun u => alive15_any hC u)
              have HN2 : Hid (E1 = 0 → N2 = 0) := Lib.hid (fun e => hN2.trans (hAn.2.2.2.2 (by rw [← hE1]; exact e)))
              clear hC hK hV hKn hVn hRl hRl2 hRn hRn2 hn0 hn1 hm0 hm1 hnn hAn hN1 hE1 hN2 hS1 hSl
              go_wp2_with fail
              refine (HRc.out _ _ _ HT.out).mono ?_
              rintro e w1 ⟨rfl, F1, d1⟩
              have HD1 := Lib.hid d1
              clear HRc HT d1
              go_wp2_with fail
              refine (HRx.out _ _ _ HD1.out).mono ?_
              rintro e w2 ⟨rfl, X2, d2⟩
              have HD2 := Lib.hid d2
              obtain ⟨c2, hg2⟩ := HQ1.out _ _ _ _ _ d2
              clear HRx HD1 d2
              go_wp2_with fail
              refine (HSc.out _ _ _ HD2.out).mono ?_
              rintro e w3 ⟨a3, p3, rfl, r3, b3, d3⟩
              have HD3 := Lib.hid d3
              have HO3 := Lib.hid (HOf.out w3 a3 p3 r3)
              clear HSc HD2 r3 b3 d3 c2 hg2
              go_wp2_with fail
              refine HO3.out.mono ?_
              rintro e w4 ⟨v4, rfl, o4, b4⟩
              obtain ⟨a4, p4, rfl, -, -, r4⟩ := o4.row cSn_len
              have HD4 := Lib.hid (HKp.out _ _ _ _ _ HD3.out b4)
              have HR4 := Lib.hid r4
              clear HO3 HD3 o4 b4 r4
              go_wp2_with fail
              refine (HSx.out _ _ _ HD4.out).mono ?_
              rintro e w5 ⟨a5, p5, rfl, r5, b5, d5⟩
              have HD5 := Lib.hid d5
              have HO5 := Lib.hid (HOf.out w5 a5 p5 r5)
              have HR5 := Lib.hid (HR4.out.keep b5)
              clear HSx HD4 HR4 r5 b5 d5
              go_wp2_with fail
              refine HO5.out.mono ?_
              rintro e w6 ⟨v6, rfl, o6, b6⟩
              obtain ⟨a6, p6, rfl, -, -, r6⟩ := o6.row cSn_len
              have HD6 := Lib.hid (HKp.out _ _ _ _ _ HD5.out b6)
              have HS6 := Lib.hid (HSm.out w6 a4 a6 p4 p6 (HR5.out.keep b6) r6)
              clear HO5 HD5 HR5 HSm HOf o6 b6 r6
              go_wp2_with fail
              refine HS6.out.mono ?_
              rintro e w7 ⟨rfl, b7⟩
              have HD7 := Lib.hid (HKp.out _ _ _ _ _ HD6.out b7)
              clear HS6 HD6 HKp b7
              go_wp2_with fail
              refine (HR2.out _ _ _ HD7.out).mono ?_
              rintro e w8 ⟨rfl, F8, d8⟩
              have HB8 := Lib.hid d8.low
              clear HR2 HD7 d8
              go_wp2_with fail
              refine (HAl.out w8).mono ?_
              rintro e w9 ⟨rfl, b9⟩
              have HB9 := Lib.hid (bthen HB8.out b9)
              clear HAl HB8 b9
              by_cases hE0 : E1 = 0
              · have hz := HN2.out hE0
                subst hE0 hz
                go_wp2
                go_ret
                exact ⟨rfl, HB9.out⟩
              · have hne : (E1 != 0) = true := by simpa using hE0
                go_wp2
                go_ret
                exact ⟨rfl, HB9.out⟩
            | some v =>
              rw [e] at hvw
              obtain ⟨bv, rfl, kb, ob⟩ := hvw
              obtain ⟨va, vc, rfl, -, -, vrow⟩ := ob.row cPl_len
              have HE : Hid (lookS (putsK Ku0 K.R) v = newK K) := Lib.hid (by unfold newK; rw [e])
              have hvp : v.ps.length ≤ 1000 := by
                have h1 := hV v e
                have := ok_ps h1
                omega
              have HLk := Lib.hid (hC.look wr gx Fx2 (putsK Ku0 K.R) va v.ps.length vc v.ps v.eye v.m (KOk.puts KOk.zero hK.rg) (VOk.puts (fun v h => nomatch (show (none : Option Vw) = some v from h)) _) (by rw [puts_all hK.rise]; exact hRl) HT.out.x vrow (Or.inr (fun ad e c => HT.out.aqx ad.block ((HT.out.q.2 _).2 (Or.inr (Or.inl (Or.inr (Or.inl (by rw [e]; rfl)))))) c)) hvp)
              have HRv : Hid (wr.rangeAt bv 0 (cVw (.slice va v.ps.length vc) v.eye v.m)) := Lib.hid (blk_whole kb)
              have HVs := Lib.hid (vw_size (.slice va v.ps.length vc) v.eye v.m)
              have hbv := kb.lt
              obtain ⟨vp, hvpp⟩ : ∃ vp, vp = v.ps.length := ⟨_, rfl⟩
              rw [← hvpp] at HLk HRv HVs HT
              obtain ⟨XV, hXV⟩ : ∃ XV, XV = cVw (.slice va vp vc) v.eye v.m := ⟨_, rfl⟩
              rw [← hXV] at HLk HRv HVs
              have HHv : Hid (lookS (putsK Ku0 K.R) ⟨v.ps, v.eye, v.m⟩ = newK K) := HE
              clear kb ob vrow e hvp hvpp hXV HE
              go_wp2_with (first
                | refine wpList_load_mid rfl 42 (.tmp 83) rfl bv 0 rfl XV _ HRv.out Try.underlying42 rfl HVs.out ?_
                | fail)
              refine HLk.out.mono ?_
              rintro e w0x ⟨rfl, k0⟩
              rw [HHv.out] at k0
              obtain ⟨Fx3, d3⟩ := HT.out.stepX hC.kb (kb_qv _ _ _ _ _ _) k0
              have HT2 := Lib.hid d3
              clear HT HLk HRv HVs HHv hbv c0 hgq cq k0 d3
              have HT := HT2
              clear HT2
              have HRc : Hid (∀ u Fp Fx, Tri15 PB (QV (.slice (some ⟨bv, 0, none⟩) 1 1) (.slice va vp vc) (.slice ar j2 cr) vD vS st) w u gp gr gx Fp F2 Fx K K (newK K) → Calls Try.prog 10 #[.pointer (some ⟨gp, 0, none⟩)] u fun e w' => e = .returned (.tuple #[.int .i64 N1, .int .i64 E1]) ∧ ∃ Fp', Tri15 PB (QV (.slice (some ⟨bv, 0, none⟩) 1 1) (.slice va vp vc) (.slice ar j2 cr) vD vS st) w w' gp gr gx Fp' F2 Fx (runS15 K) K (newK K)) := Lib.hid (fun u Fp Fx d => (hC.run u gp Fp K hK hV hRl hn0 hn1 d.p).mono fun e w' q => by
                obtain ⟨Fp', k1⟩ := d.stepP hC.kb (kb_qv _ _ _ _ _ _) q.2
                exact ⟨by rw [hN1, hE1]; exact q.1, Fp', k1⟩)
              have HRx : Hid (∀ u Fp Fx, Tri15 PB (QV (.slice (some ⟨bv, 0, none⟩) 1 1) (.slice va vp vc) (.slice ar j2 cr) vD vS st) w u gp gr gx Fp F2 Fx (runS15 K) K (newK K) → Calls Try.prog 10 #[.pointer (some ⟨gx, 0, none⟩)] u fun e w' => e = .returned (.tuple #[.int .i64 j2, .int .i64 E1]) ∧ ∃ Fx', Tri15 PB (QV (.slice (some ⟨bv, 0, none⟩) 1 1) (.slice va vp vc) (.slice ar j2 cr) vD vS st) w w' gp gr gx Fp F2 Fx' (runS15 K) K (runS15 (newK K))) := Lib.hid (fun u Fp Fx d => (hC.run u gx Fx (newK K) hKn hVn hRn (by rw [hnn]; decide) (by rw [hnn]; decide) d.x).mono fun e w' q => by
                obtain ⟨Fx', k1⟩ := d.stepX hC.kb (kb_qv _ _ _ _ _ _) q.2
                exact ⟨by rw [hN, hE1, ← hAn.1, ← hAn.2.1]; exact q.1, Fx', k1⟩)
              have HSc : Hid (∀ u Fp Fx, Tri15 PB (QV (.slice (some ⟨bv, 0, none⟩) 1 1) (.slice va vp vc) (.slice ar j2 cr) vD vS st) w u gp gr gx Fp F2 Fx (runS15 K) K (runS15 (newK K)) → Calls Try.prog 13 #[.pointer (some ⟨gp, 0, none⟩)] u fun e w' => ∃ a cap, e = .returned (.slice a S.length cap) ∧ RowX 2 cSn w' a S.length S ∧ Below u.heap.size u w' ∧ Tri15 PB (QV (.slice (some ⟨bv, 0, none⟩) 1 1) (.slice va vp vc) (.slice ar j2 cr) vD vS st) w w' gp gr gx Fp F2 Fx (runS15 K) K (runS15 (newK K))) := Lib.hid (fun u Fp Fx d => (hC.seen u gp Fp (runS15 K) hK.run hV.run hRl2 d.p).mono fun e w' q => by
                obtain ⟨a, cap, q1, q2, _, q4⟩ := q
                rw [← hS1] at q1 q2
                exact ⟨a, cap, q1, q2, q4, d.keep hC.kb (kb_qv _ _ _ _ _ _) q4⟩)
              have HSx : Hid (∀ u Fp Fx, Tri15 PB (QV (.slice (some ⟨bv, 0, none⟩) 1 1) (.slice va vp vc) (.slice ar j2 cr) vD vS st) w u gp gr gx Fp F2 Fx (runS15 K) K (runS15 (newK K)) → Calls Try.prog 13 #[.pointer (some ⟨gx, 0, none⟩)] u fun e w' => ∃ a cap, e = .returned (.slice a S.length cap) ∧ RowX 2 cSn w' a S.length S ∧ Below u.heap.size u w' ∧ Tri15 PB (QV (.slice (some ⟨bv, 0, none⟩) 1 1) (.slice va vp vc) (.slice ar j2 cr) vD vS st) w w' gp gr gx Fp F2 Fx (runS15 K) K (runS15 (newK K))) := Lib.hid (fun u Fp Fx d => (hC.seen u gx Fx (runS15 (newK K)) hKn.run hVn.run hRn2 d.x).mono fun e w' q => by
                obtain ⟨a, cap, q1, q2, _, q4⟩ := q
                rw [← hAn.2.2.1, ← hS1] at q1 q2
                exact ⟨a, cap, q1, q2, q4, d.keep hC.kb (kb_qv _ _ _ _ _ _) q4⟩)
              have HR2 : Hid (∀ u Fp Fx, Tri15 PB (QV (.slice (some ⟨bv, 0, none⟩) 1 1) (.slice va vp vc) (.slice ar j2 cr) vD vS st) w u gp gr gx Fp F2 Fx (runS15 K) K (runS15 (newK K)) → Calls Try.prog 10 #[.pointer (some ⟨gp, 0, none⟩)] u fun e w' => e = .returned (.tuple #[.int .i64 N2, .int .i64 E1]) ∧ ∃ Fp', Tri15 PB (QV (.slice (some ⟨bv, 0, none⟩) 1 1) (.slice va vp vc) (.slice ar j2 cr) vD vS st) w w' gp gr gx Fp' F2 Fx (runS15 (runS15 K)) K (runS15 (newK K))) := Lib.hid (fun u Fp Fx d => (hC.run u gp Fp (runS15 K) hK.run hV.run hRl2 hm0 hm1 d.p).mono fun e w' q => by
                obtain ⟨Fp', k1⟩ := d.stepP hC.kb (kb_qv _ _ _ _ _ _) q.2
                exact ⟨by rw [hN2, hE1, ← hAn.2.2.2.1]; exact q.1, Fp', k1⟩)
              have HKp : Hid (∀ u u' Fp Fx Kx, Tri15 PB (QV (.slice (some ⟨bv, 0, none⟩) 1 1) (.slice va vp vc) (.slice ar j2 cr) vD vS st) w u gp gr gx Fp F2 Fx (runS15 K) K Kx → Below u.heap.size u u' → Tri15 PB (QV (.slice (some ⟨bv, 0, none⟩) 1 1) (.slice va vp vc) (.slice ar j2 cr) vD vS st) w u' gp gr gx Fp F2 Fx (runS15 K) K Kx) := Lib.hid (fun u u' Fp Fx Kx d b => d.keep hC.kb (kb_qv _ _ _ _ _ _) b)
              have HQ1 : Hid (∀ u Fp Fx Kp Kx, Tri15 PB (QV (.slice (some ⟨bv, 0, none⟩) 1 1) (.slice va vp vc) (.slice ar j2 cr) vD vS st) w u gp gr gx Fp F2 Fx Kp K Kx → u.cell? ⟨gr, 1, none⟩ = some (.slice ar j2 cr) ∧ gr < u.heap.size) := Lib.hid (fun u Fp Fx Kp Kx d => ⟨d.q.1.blk.cell 1, d.q.1.blk.lt⟩)
              have HOf : Hid (∀ (u : World) a cap, RowX 2 cSn u a S.length S → Calls Try.prog 12 #[.slice a S.length cap] u fun e w' => ∃ v, e = .returned v ∧ OwnX 2 cSn 80 w' u.heap.size v S ∧ Below u.heap.size u w') := Lib.hid (fun u a cap r => lof15_any a S.length cap S u r (by rw [hS1]; exact hSl))
              have HSm : Hid (∀ (u : World) a b cap cap', RowX 2 cSn u a S.length S → RowX 2 cSn u b S.length S → Calls Try.prog 11 #[.slice a S.length cap, .slice b S.length cap'] u fun e w' => e = .returned (.bool true) ∧ Below u.heap.size u w') := Lib.hid (fun u a b cap cap' r r' => same15_yes a b S.length cap cap' S u r r')
              have HAl : Hid (∀ u, Calls Try.prog 5 #[] u fun e w' => e = .returned (.bool true) ∧ Below u.heap.size u w') := Lib.hid (fun u => alive15_any hC u)
              have HN2 : Hid (E1 = 0 → N2 = 0) := Lib.hid (fun e => hN2.trans (hAn.2.2.2.2 (by rw [← hE1]; exact e)))
              clear hC hK hV hKn hVn hRl hRl2 hRn hRn2 hn0 hn1 hm0 hm1 hnn hAn hN1 hE1 hN2 hS1 hSl
              go_wp2_with fail
              refine (HRc.out _ _ _ HT.out).mono ?_
              rintro e w1 ⟨rfl, F1, d1⟩
              have HD1 := Lib.hid d1
              clear HRc HT d1
              go_wp2_with fail
              refine (HRx.out _ _ _ HD1.out).mono ?_
              rintro e w2 ⟨rfl, X2, d2⟩
              have HD2 := Lib.hid d2
              obtain ⟨c2, hg2⟩ := HQ1.out _ _ _ _ _ d2
              clear HRx HD1 d2
              go_wp2_with fail
              refine (HSc.out _ _ _ HD2.out).mono ?_
              rintro e w3 ⟨a3, p3, rfl, r3, b3, d3⟩
              have HD3 := Lib.hid d3
              have HO3 := Lib.hid (HOf.out w3 a3 p3 r3)
              clear HSc HD2 r3 b3 d3 c2 hg2
              go_wp2_with fail
              refine HO3.out.mono ?_
              rintro e w4 ⟨v4, rfl, o4, b4⟩
              obtain ⟨a4, p4, rfl, -, -, r4⟩ := o4.row cSn_len
              have HD4 := Lib.hid (HKp.out _ _ _ _ _ HD3.out b4)
              have HR4 := Lib.hid r4
              clear HO3 HD3 o4 b4 r4
              go_wp2_with fail
              refine (HSx.out _ _ _ HD4.out).mono ?_
              rintro e w5 ⟨a5, p5, rfl, r5, b5, d5⟩
              have HD5 := Lib.hid d5
              have HO5 := Lib.hid (HOf.out w5 a5 p5 r5)
              have HR5 := Lib.hid (HR4.out.keep b5)
              clear HSx HD4 HR4 r5 b5 d5
              go_wp2_with fail
              refine HO5.out.mono ?_
              rintro e w6 ⟨v6, rfl, o6, b6⟩
              obtain ⟨a6, p6, rfl, -, -, r6⟩ := o6.row cSn_len
              have HD6 := Lib.hid (HKp.out _ _ _ _ _ HD5.out b6)
              have HS6 := Lib.hid (HSm.out w6 a4 a6 p4 p6 (HR5.out.keep b6) r6)
              clear HO5 HD5 HR5 HSm HOf o6 b6 r6
              go_wp2_with fail
              refine HS6.out.mono ?_
              rintro e w7 ⟨rfl, b7⟩
              have HD7 := Lib.hid (HKp.out _ _ _ _ _ HD6.out b7)
              clear HS6 HD6 HKp b7
              go_wp2_with fail
              refine (HR2.out _ _ _ HD7.out).mono ?_
              rintro e w8 ⟨rfl, F8, d8⟩
              have HB8 := Lib.hid d8.low
              clear HR2 HD7 d8
              go_wp2_with fail
              refine (HAl.out w8).mono ?_
              rintro e w9 ⟨rfl, b9⟩
              have HB9 := Lib.hid (bthen HB8.out b9)
              clear HAl HB8 b9
              by_cases hE0 : E1 = 0
              · have hz := HN2.out hE0
                subst hE0 hz
                go_wp2
                go_ret
                exact ⟨rfl, HB9.out⟩
              · have hne : (E1 != 0) = true := by simpa using hE0
                go_wp2
                go_ret
                exact ⟨rfl, HB9.out⟩
end
end Go.Proofs.Ytjcibffhlhdjeaa
