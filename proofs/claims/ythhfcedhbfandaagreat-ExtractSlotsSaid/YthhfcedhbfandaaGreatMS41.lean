/-
  5 texts in one file, each with its own heading.
-/
import Derived.Test.YthhfcedhbfandaaGreatMS40
import Derived.Shelf.SlIterI.Nil
import Derived.Test.YthhfcedhbfandaaGreatProg
import Derived.Test.YthhfcedhbfandaaGreatMS38
import Derived.Test.YthhfcedhbfandaaGreatMS30
/-
  The landed extract's follow.
-/
namespace Go.Proofs.YthhfcedhbfandaaGreat
open Go.RowKit

theorem rc_rg {X : Sc} {E : XS} (h : EOk X E) : ∀ x ∈ E.R, Rg x.id := by
  rcases h with ⟨n, rfl⟩ | ⟨X0, a, b, c, d, r⟩
  · exact fun x hx => (by cases hx)
  · intro x hx
    have h1 : x.id ∈ E.R.map Rc.id := List.mem_map.2 ⟨x, hx, rfl⟩
    rw [← look_has, c.recs x.id] at h1
    cases l : liveS X0.S x.id with
    | true => exact live_rg13 l
    | false =>
      have := b x.id
      rw [l] at this
      rw [(dead_none this).1] at h1
      cases h1
theorem slots_len {X : Sc} {E : XS} (h : EOk X E) : E.S.length ≤ 256 := by
  have h1 := pigeon (m := E.R.map Rc.id) h.si.names (fun x hx => (h.has x).1 ((slot_has h.si).2 hx))
  rw [List.length_map, List.length_map] at h1
  exact Nat.le_trans h1 h.rlen
theorem row_fr {w W : World} {F : Nat → Prop} {a : Option Addr} {n : Nat} {zs : List Int} (h : Fr w W F) (row : Row w a n zs) (haw : n = 0 ∨ ∀ ad, a = some ad → ¬ F ad.block) : Row W a n zs := row_frame row haw h
section
variable {XB : World → Nat → (Nat → Prop) → Sc → Prop} {FB : World → Nat → (Nat → Prop) → FD → Prop}
set_option maxHeartbeats 100000000 in
set_option maxRecDepth 100000 in
theorem follow_any (hX : XC XB) (hC : FWE FB) {w : World} {g gs : Nat} {F Fs : Nat → Prop} {E : XS} {X : Sc} (h0 : LEB FB w g F E) (sb : XB w gs Fs X) (hap : ∀ b, F b → ¬ Fs b) (hS : SX3 X) (hE : EOk X E) (hB : BSc X 250) (hbd : EBd E 100) (hsl : ∀ p ∈ E.S, p.2 < 256) (hroom : X.S.room ≤ 19) :
    Calls Tryz.prog 32 #[.pointer (some ⟨g, 0, none⟩), .pointer (some ⟨gs, 0, none⟩)] w fun e w' => ∃ v zs er E1, e = .returned (.tuple #[v, .int .i64 er]) ∧ ChB (LEB FB) w w' g F E1 ∧ ((er = 0 ∧ LRes w w' zs v ∧ Synced X E zs 0 E1) ∨ (er ≠ 0 ∧ Synced X E [] er (XSn E1.n))) := by
  obtain ⟨gf, Ff, vr, mb, h, hF⟩ := h0
  have hB9 : BSc X 900 := hB.mono (by omega)
  have hin := h.inb hC
  have HXs : Hid (∀ W, Fr w W F → XB W gs Fs X) := Lib.hid (fun W k => hX.kb.keep_ _ _ _ _ _ sb (fun b c => k.2.2.2.2 b (hX.kb.inb _ _ _ _ sb b c) (fun d => hap b d c)))
  have HC := Lib.hid hC
  have HXC := Lib.hid hX
  have HLx := Lib.hid h
  have HF := Lib.hid hF
  have HS := Lib.hid hS
  have HE := Lib.hid hE
  have HSl := Lib.hid hsl
  have HB9 := Lib.hid hB9
  have HFi : Hid (∀ b, F b → b < w.heap.size) := Lib.hid (fun b c => hin b ((hF b).1 c))
  have HGo := Lib.hid (hX.gone w gs Fs X E.since hS.wx hB9 sb)
  obtain ⟨go, hgo⟩ : ∃ go, go = goL X.S E.since := ⟨_, rfl⟩
  have HGoe := Lib.hid hgo
  have hgl : go.length ≤ 250 := by rw [hgo]; exact Nat.le_trans (go_len _ _) hB.2.1
  have HGr : Hid (Rgs go) := Lib.hid (by rw [hgo]; exact go_rgs hS.go _)
  rw [← hgo] at HGo
  obtain ⟨ra, rcap, hvr, hrc, hrm, -⟩ := h.rc.row cRc_len
  have hrl := hE.rlen
  obtain ⟨rn, hrn⟩ : ∃ rn, rn = E.R.length := ⟨_, rfl⟩
  have HRn := Lib.hid hrn
  rw [← hrn] at hvr hrc hrl
  have c3 : w.cell? ⟨g, 3, none⟩ = some (.int .i64 E.since) := h.blk.cell 3
  have hg := h.blk.lt
  obtain ⟨sn, hsn⟩ : ∃ sn, sn = E.since := ⟨_, rfl⟩
  have HSn := Lib.hid hsn
  rw [← hsn] at c3 HGo
  have hnb : E.n ≤ 200000 := by have := hbd.2; omega
  obtain ⟨D0, hD0⟩ : ∃ D0, D0 = E.D := ⟨_, rfl⟩
  have HK := hE.know hS
  have HDk : Hid (DOk D0) := Lib.hid (hD0 ▸ HK.dok)
  have hD0l : D0.L.length ≤ 256 := hD0 ▸ hE.len
  obtain ⟨D1, hD1⟩ : ∃ D1, D1 = dropS D0 go := ⟨_, rfl⟩
  have HD1 : Hid (DOk D1) := Lib.hid (hD1 ▸ HDk.out.drops go)
  have hD1l : D1.L.length ≤ 256 := by rw [hD1]; exact Nat.le_trans (drops_size go D0 256 hD0l).1 hD0l
  obtain ⟨l, hl⟩ : ∃ l, l = (chL X.S sn).map (nodeX X) := ⟨_, rfl⟩
  have hll : l.length ≤ 250 := by
    rw [hl, List.length_map]
    have := ch_len X.S sn
    have := hB.1
    omega
  have HLr : Hid (∀ q ∈ l, Rg q.id ∧ Rg q.par) := Lib.hid (fun q hq => by
    rw [hl] at hq
    obtain ⟨x, hx, rfl⟩ := List.mem_map.1 hq
    exact node_rg hS.wx (mem_ch.1 hx).1)
  obtain ⟨D2, hD2⟩ : ∃ D2, D2 = putFD D1 l := ⟨_, rfl⟩
  have hD2t : D2 = takeD X E.D E.since := by rw [hD2, hD1, hl, hgo, hD0, hsn]; rfl
  have HP0 : Hid (putFE D1 l = 0) := Lib.hid (by
    have := took_put hS.wx HK (fun _ => node_ok hS.wx)
    rw [hD1, hl, hgo, hD0, hsn]
    exact this)
  have HD2 : Hid (DOk D2) := Lib.hid (hD2t ▸ hE.take hS)
  have hD2l : D2.L.length ≤ 256 := by rw [hD2t]; exact nodes_len hS.wx (hE.take hS).nod (hE.nodes hS)
  have hD2s : D2.steps ≤ 1000000 := by rw [hD2t, take_steps]; have := hbd.1; omega
  have HN2 : Hid (NodesX X D2.L) := Lib.hid (hD2t ▸ hE.nodes hS)
  have hzl : (namesX X E).length ≤ 600 := Nat.le_trans (namesx_len hS hE) (by have := hB.2.1; omega)
  have HZe : Hid (namesX X E = sortI (touchN D2 ++ go)) := Lib.hid (by unfold namesX; rw [hD2t, hgo])
  obtain ⟨zs, hzs⟩ : ∃ zs, zs = namesX X E := ⟨_, rfl⟩
  have HZs := Lib.hid hzs
  rw [← hzs] at hzl HZe
  have HZr : Hid (Rgs zs) := Lib.hid (hzs ▸ namesx_rg hS hE)
  have HZu : Hid (zs.Pairwise (· < ·)) := Lib.hid (hzs ▸ namesx_up hS hE)
  have HDt := Lib.hid hD2t
  have HD0e := Lib.hid hD0
  have HD1e := Lib.hid hD1
  have HD2e := Lib.hid hD2
  have HLe := Lib.hid hl
  have HRr := Lib.hid (rc_rg hE)
  have HRi := Lib.hid hE.rise
  subst hvr
  have HRoom := Lib.hid hroom
  clear hX hC h hF sb hap hS hE hB hbd hsl hroom hB9 hin hgo hrn hsn HK hD0 hD1 hl hD2 hD2t hzs
  go_enter Tryz.func32, Tryz.ntmps32
  go_wp2_with fail
  refine HGo.out.mono ?_
  rintro e w1 ⟨v1, rfl, ⟨ia, icap, rfl, irow, iaw⟩, b1⟩
  have HIr := Lib.hid irow
  have HIa := Lib.hid iaw
  have HB1 := Lib.hid b1
  have HL1 : Hid (LWE FB w1 w1 g gf mb F Ff (.slice ra rn rcap) D0 E.R (slM E.S) sn E.n) := Lib.hid (by rw [HD0e.out, HSn.out]; exact HLx.out.lw HC.out HF.out b1)
  obtain ⟨c0, -, -, -, -, hg1⟩ := HL1.out.reads
  have HDr := Lib.hid (HC.out.drop w1 gf Ff D0 ia go.length icap go HDk.out (by omega) HL1.out.fl (by omega) irow (iaw.imp id (fun q ad e c => by have := q ad e; have := HFi.out _ ((HF.out _).2 (Or.inr (Or.inl c))); omega)) HGr.out)
  clear irow iaw b1 c3 hg HGo HLx
  obtain ⟨ng, hng⟩ : ∃ ng, ng = go.length := ⟨_, rfl⟩
  rw [← hng] at HIr HIa HDr hgl ⊢
  have HNg := Lib.hid hng
  clear hng
  go_wp2_with fail
  refine HDr.out.mono ?_
  rintro e w2 ⟨rfl, Ff1, f1, fr1, sub1⟩
  rw [← HD1e.out] at f1
  have HL2 := Lib.hid (HL1.out.flow f1 fr1 sub1)
  clear f1 fr1 sub1 HDr HL1 c0 hg1
  obtain ⟨c0, -, -, c3, -, hg2⟩ := HL2.out.reads
  have SA := Lib.hid (And.intro c0 c3)
  have HCh : Hid (∀ W, Below w2.heap.size w2 W → Calls Tryz.prog 71 #[.pointer (some ⟨gs, 0, none⟩), .int .i64 sn] W fun e w' => ∃ v, e = .returned v ∧ OwnX 15 cNd 205 w' W.heap.size v l ∧ Below W.heap.size W w') := Lib.hid (fun W q => by
    have h1 := changed_any HXC.out (HXs.out W (Fr.after HB1.out (Fr.behind HL2.out.fr q))) HS.out.wx HB9.out sn
    rw [← HLe.out] at h1
    exact h1)
  clear c0 c3
  go_wp2
  refine wp_region_held_drew (S := fun w' => w'.cell? ⟨g, 0, none⟩ = some (.pointer (some ⟨gf, 0, none⟩)) ∧ w'.cell? ⟨g, 3, none⟩ = some (.int .i64 sn)) (by kernel_rfl) (SA.out) (fun hHeld => ?_)
  refine tk 0 hHeld ?_
  refine tk 1 hHeld ?_
  refine tk 2 hHeld ?_
  refine tk 3 hHeld ?_
  refine tk 4 hHeld ?_
  refine tk 5 hHeld ?_
  refine tk 6 hHeld ?_
  refine tk 7 hHeld ?_
  refine tk 8 hHeld ?_
  refine tk 9 hHeld ?_
  refine tk 10 hHeld ?_
  refine rd 11 (fun K hK => ?_)
  go_simp
  refine (HCh.out _ (below_drew13 w2)).mono ?_
  rintro e w3 ⟨v3, rfl, ho3, b3⟩
  have hb3 : Below w2.heap.size w2 w3 := bthen (below_drew13 w2) b3
  have HL3 := Lib.hid (HL2.out.keep HC.out hb3)
  obtain ⟨la, lcap, rfl, -, -, lrow⟩ := ho3.row cNd_len
  have HPu : Hid (Calls Tryz.prog 70 #[.pointer (some ⟨gf, 0, none⟩), .slice la l.length lcap] w3 fun e w' => e = .returned (.int .i64 0) ∧ ChX FB w3 w' gf Ff1 D2) := Lib.hid (by
    have q := HC.out.put w3 gf Ff1 D1 la l.length lcap l HD1.out (by omega) HL3.out.fl (by omega) lrow HLr.out
    rw [HP0.out, ← HD2e.out] at q
    exact q)
  obtain ⟨nl, hnl⟩ : ∃ nl, nl = l.length := ⟨_, rfl⟩
  rw [← hnl] at HPu ⊢
  obtain ⟨c0, -, -, c3, -, hg3⟩ := HL3.out.reads
  have SA3 := Lib.hid (And.intro c0 c3)
  clear hb3 b3 lrow ho3 HL2 SA HCh hg2 hnl c0 c3 HLr HP0
  go_wp2_with fail
  go_wp2_with fail
  refine hK.out _ _ (SA3.out) (fun hHeld => ?_)
  clear hK K
  refine rd 12 (fun K hK => ?_)
  go_simp
  refine HPu.out.mono ?_
  rintro e w4 ⟨rfl, Ff2, f2, fr2, sub2⟩
  have HL4 := Lib.hid (HL3.out.flow f2 fr2 sub2)
  clear f2 fr2 sub2 HPu HL3 SA3 hg3
  obtain ⟨c0, -, -, c3, -, hg4⟩ := HL4.out.reads
  go_wp2_with fail
  go_wp2_with fail
  refine hK.out _ _ (⟨c0, c3⟩) (fun hHeld => ?_)
  clear hK K
  refine tk 13 hHeld ?_
  refine wpAnyH_done (by kernel_rfl) ?_ _
  clear hHeld
  have HRu := Lib.hid (HC.out.run w4 gf Ff2 D2 HD2.out (by omega) hD2s HL4.out.fl)
  go_wp2_with fail
  refine HRu.out.mono ?_
  rintro e w5 ⟨v5, rfl, ⟨ta, tcap, rfl, trow, -⟩, Ff3, f3, fr3, sub3⟩
  have HL5 := Lib.hid (HL4.out.flow f3 fr3 (fun b c => Or.inl (sub3 b c)))
  have HIr5 : Hid (Row w5 ia ng go) := Lib.hid (row_fr HL5.out.fr HIr.out (HIa.out.imp (fun q => by have := HNg.out; omega) (fun q ad e c => by have := q ad e; have := HFi.out _ c; omega)))
  have htl : (touchN D2).length ≤ 256 := Nat.le_trans (touch_len HD2.out.wf) hD2l
  have KB := Blk.new w5 35 #[.slice ta (touchN D2).length tcap, .slice ia ng icap]
  have hal : Below w5.heap.size w5 (w5.alloc (.cells #[.slice ta (touchN D2).length tcap, .slice ia ng icap] 35)) := alloc_below _ _
  have HCo := Lib.hid (concat_any w5.heap.size ta ia (touchN D2).length tcap ng icap 2 (touchN D2) go _ (KB.cell 0) (KB.cell 1) (row_keep trow hal) (row_keep HIr5.out hal) (by omega) (by omega))
  have HAl := Lib.hid hal
  obtain ⟨nt, hnt⟩ : ∃ nt, nt = (touchN D2).length := ⟨_, rfl⟩
  have HNt := Lib.hid hnt
  rw [← hnt] at HCo HAl htl ⊢
  obtain ⟨re, hre⟩ : ∃ re, re = runE D2 := ⟨_, rfl⟩
  have HRe := Lib.hid hre
  rw [← hre]
  clear f3 fr3 sub3 HRu HL4 c0 c3 hg4 trow KB hal hnt hre
  go_wp2_with fail
  refine HCo.out.mono ?_
  rintro e w6 ⟨v6, rfl, ho6, b6⟩
  have hb6 : Below w5.heap.size w5 w6 := bthen HAl.out b6
  have hbs : w5.heap.size ≤ (w5.alloc (.cells #[.slice ta nt tcap, .slice ia ng icap] 35)).heap.size := HAl.out.size
  obtain ⟨base, hbase⟩ : ∃ base, base = (w5.alloc (.cells #[.slice ta nt tcap, .slice ia ng icap] 35)).heap.size := ⟨_, rfl⟩
  have hbw6 : base ≤ w6.heap.size := hbase ▸ b6.size
  rw [← hbase] at ho6 hbs
  have HO6 := Lib.hid ho6
  have HB6 := Lib.hid hb6
  have HSo := Lib.hid (sort9_any ho6 (by omega))
  clear ho6 hb6 b6 hbase HCo HAl HIr5
  go_wp2_with fail
  refine HSo.out.mono ?_
  rintro e w7 ⟨rfl, ho7, hg7⟩
  have hze : (touchN D2 ++ go).mergeSort (fun x y => decide (x ≤ y)) = zs := by rw [HZe.out]; exact srt_eq (List.Perm.refl _)
  rw [hze] at ho7
  have hzn : zs.length = nt + ng := by
    have q := ho7.1
    rw [List.length_map, Nat.mul_one] at q
    exact q
  rw [← hzn] at ho7
  have HB7 : Hid (Below w5.heap.size w5 w7) := Lib.hid (own_below9 HO6.out hbs HB6.out hg7)
  have HL7 := Lib.hid (HL5.out.keep HC.out HB7.out)
  obtain ⟨na, ncap, rfl, nrow⟩ := ho7.row
  have HO7 := Lib.hid ho7
  have hbg : g < base ∧ mb < base ∧ (∀ b, Ff3 b → b < base) ∧ w1.heap.size ≤ base := by
    have h1 := HL5.out.blk.lt
    have h2 := HL5.out.mp.lt
    have h3 := HC.out.inb _ _ _ _ HL5.out.fl
    have h4 := HL5.out.fr.2.2.2.1
    exact ⟨by omega, by omega, fun b c => by have := h3 b c; omega, by omega⟩
  obtain ⟨hbg1, hbg2, hbg3, hbg4⟩ := hbg
  have HFb := Lib.hid hbg3
  obtain ⟨-, -, -, -, c4, hg7'⟩ := HL7.out.reads
  obtain ⟨n, hn⟩ : ∃ n, n = zs.length := ⟨_, rfl⟩
  have HNn := Lib.hid hn
  rw [← hn] at HO7 hzl ⊢
  have hwr : IntKind.i64.wrap ((E.n : Int) + (n : Int)) = ((E.n + n : Nat) : Int) := by rw [IntKind.wrap_i64]; omega
  have HL8 : Hid (LWE FB w1 (w7.setCell ⟨g, 4, none⟩ (.int .i64 ((E.n + n : Nat) : Int))) g gf mb F Ff3 (.slice ra rn rcap) (runD D2) E.R (slM E.S) sn ((E.n + n : Nat) : Int)) := Lib.hid (HL7.out.setN HC.out _)
  have HO8 : Hid (OwnD (w7.setCell ⟨g, 4, none⟩ (.int .i64 ((E.n + n : Nat) : Int))) base (.slice na n ncap) n zs) := Lib.hid (ownd_same HO7.out (fun b e => (grown_set w7 g 4 _).block b (World.ownsRow.lt HO7.out b e).2 (by intro q; injection q with q; have := (World.ownsRow.lt HO7.out b e).1; omega)))
  have f4 : w7.frozen? ⟨g, 4, none⟩ = false := HL7.out.blk.frozen 4
  obtain ⟨nn, hnn⟩ : ∃ nn : Int, nn = ((E.n + n : Nat) : Int) := ⟨_, rfl⟩
  rw [← hnn] at hwr HL8 HO8
  have HNN := Lib.hid hnn
  obtain ⟨en, hen⟩ : ∃ en : Int, en = (E.n : Int) := ⟨_, rfl⟩
  rw [← hen] at hwr c4
  have hbw7 : base ≤ w7.heap.size := Nat.le_trans (Nat.le_trans hbw6 (Nat.le_refl _)) hg7.size
  clear ho7 hg7 hze nrow HSo HO6 HB6 HB7 HL7 HL5 hbg3 hn hnn hen HO7 HZe
  go_upto_region 10 with fail
  refine fin (fun W => LWE FB w1 W g gf mb F Ff3 (.slice ra rn rcap) (runD D2) E.R (slM E.S) sn nn ∧ OwnD W base (.slice na n ncap) n zs ∧ base ≤ W.heap.size) ⟨HL8.out, HO8.out, Nat.le_trans hbw7 (grown_set w7 g 4 _).size⟩ ?_
  clear HL8 HO8 c4 f4 hg7'
  rintro w8 ⟨l8, o8, hbas⟩
  have HL8 := Lib.hid l8
  have HO8 := Lib.hid o8
  clear l8 o8 hzn
  have HW1 : Hid (ChB (LEB FB) w w8 g F ⟨runD D2, E.R, E.S, sn, E.n + n⟩) := Lib.hid (HL8.out.done HB1.out rfl rfl rfl rfl HNN.out.symm)
  by_cases hre : re = 0
  · have HR0 : Hid (runE D2 = 0) := Lib.hid (HRe.out ▸ hre)
    subst hre
    clear HW1
    obtain ⟨c0, c1, -, -, -, hg8⟩ := HL8.out.reads
    have hrow8 : Row w8 na n zs := by
      obtain ⟨a', cap', e, r⟩ := HO8.out.row
      injection e with e1 e2 e3
      rw [e1]; exact r
    have HRow8 := Lib.hid hrow8
    have HDw := Lib.hid (drawn_any (o := oX X D2.L) (eo := eX X D2.L) (cap := ncap) HXC.out HC.out (HXs.out w8 (Fr.after HB1.out HL8.out.fr)) HL8.out.fl c0 hrow8 HS.out.wx HB9.out HD2.out.run (by show D2.L.length ≤ 300; omega) (by omega) HZr.out (fun x => of_one13 HS.out.wx HD2.out HN2.out HR0.out x))
    clear c0 hrow8
    go_wp2_with fail
    refine HDw.out.mono ?_
    rintro e w9 ⟨v9, er, rfl, her, ho9, b9⟩
    have HB9w := Lib.hid b9
    have HL9 := Lib.hid (HL8.out.keep HC.out b9)
    have HEr := Lib.hid her
    have HO9 := Lib.hid ho9
    clear b9 her ho9 HDw c1 hg8
    by_cases he0 : er = 0
    · subst he0
      have HOf := Lib.hid (HO9.out rfl)
      obtain ⟨fa, fcap, hv9, hfc, hfm, -⟩ := HOf.out.row cRc_len
      obtain ⟨fr, hfr⟩ : ∃ fr, fr = zs.filterMap (oX X D2.L) := ⟨_, rfl⟩
      have HFr := Lib.hid hfr
      have hfl : fr.length ≤ n := by rw [hfr, HNn.out]; exact List.length_filterMap_le _ _
      rw [← hfr] at HOf hv9 hfc
      obtain ⟨nf, hnf⟩ : ∃ nf, nf = fr.length := ⟨_, rfl⟩
      have HNf := Lib.hid hnf
      rw [← hnf] at hv9 hfc hfl
      subst hv9
      have HFu : Hid (Rise fr) := Lib.hid (by rw [hfr]; exact fresh_rise (fun x r q => oX_id q) HZu.out)
      have HF19 : Hid (fr.length ≤ 19) := Lib.hid (by
        have h1 := room_live HS.out.wx (us := fr.map Rc.id) (List.pairwise_map.2 (HFu.out.imp (fun {a b} h e => by omega))) (fun u m => by
          rw [hfr, mem_fresh (fun x r q => oX_id q)] at m
          cases l : liveS X.S u with
          | true => rfl
          | false =>
            have hN := HN2.out u
            rw [l, if_neg (by simp)] at hN
            have m2 := m.2
            rw [(dead_none hN).1] at m2
            cases m2)
        rw [List.length_map] at h1
        exact Nat.le_trans h1 HRoom.out)
      have HFg : Hid (Rgs (fr.map Rc.id)) := Lib.hid (fun x hx => by
        rw [hfr, mem_fresh (fun x r q => oX_id q)] at hx
        exact HZr.out x hx.1)
      obtain ⟨-, c1, -, -, -, hg9⟩ := HL9.out.reads
      have hro : RcRow w9 ra rn E.R := by
        obtain ⟨a', cap', e, _, _, r⟩ := HL9.out.rc.row cRc_len
        injection e with e1 e2 e3
        rw [e1, e2]; exact r
      have HRm := Lib.hid (remove_any ra rn rcap E.R na n ncap zs w9 hro (row_keep HRow8.out HB9w.out) (by omega) (by omega) HRr.out HZr.out)
      clear hro hfr hnf
      go_wp2_with fail
      refine HRm.out.mono ?_
      rintro e w10 ⟨v10, rfl, ho10, b10⟩
      obtain ⟨xa, xcap, rfl, hxc, hxm, hxr⟩ := ho10.row cRc_len
      have hfw : RcRow w10 fa nf fr := by
        obtain ⟨a', cap', e, _, _, r⟩ := (HOf.out.keep b10).row cRc_len
        injection e with e1 e2 e3
        rw [e1, e2]; exact r
      have hrl2 : (remL E.R zs).length ≤ 256 := by
        have q := List.length_filter_le (fun r : Rc => !decide (r.id ∈ zs)) E.R
        unfold remL
        have := HRn.out
        omega
      have HIn := Lib.hid (insert19 xa (remL E.R zs).length xcap (remL E.R zs) fa nf fcap fr w10 hxr hfw hxc hxm (rise_rem HRi.out zs) (by omega) (by rw [HNf.out]; exact HF19.out))
      have HB10 := Lib.hid b10
      obtain ⟨nx, hnx⟩ : ∃ nx, nx = (remL E.R zs).length := ⟨_, rfl⟩
      rw [← hnx] at HIn ⊢
      have HNx := Lib.hid hnx
      clear ho10 b10 hxc hxm hxr hfw hnx HRm c1 hg9 hrl2
      go_wp2_with fail
      refine HIn.out.mono ?_
      rintro e w11 ⟨v11, R', rfl, hia, b11⟩
      obtain ⟨va, vcap, hv11, -, -, -⟩ := hia.1.row cRc_len
      obtain ⟨nr, hnr⟩ : ∃ nr, nr = R'.length := ⟨_, rfl⟩
      rw [← hnr] at hv11
      subst hv11
      clear hnr
      have HIa2 := Lib.hid hia
      have HL11 := Lib.hid ((HL9.out.keep HC.out HB10.out).keep HC.out b11)
      have HB11 : Hid (Below w8.heap.size w8 w11) := Lib.hid (bthen HB9w.out (bthen HB10.out b11))
      have hb10 : w8.heap.size ≤ w10.heap.size := Nat.le_trans HB9w.out.size HB10.out.size
      have HL12 : Hid (LWE FB w1 (w11.setCell ⟨g, 1, none⟩ (.slice va nr vcap)) g gf mb F Ff3 (.slice va nr vcap) (runD D2) R' (slM E.S) sn nn) := Lib.hid (HL11.out.setR HC.out hia.1 (fun b c => by have := HFb.out b c; omega) (by omega) (by omega) (by omega))
      have f1 : w11.frozen? ⟨g, 1, none⟩ = false := HL11.out.blk.frozen 1
      obtain ⟨-, c1, -, -, -, hg11⟩ := HL11.out.reads
      have HRws : Hid (∀ W, (∀ b, base ≤ b → b < w11.heap.size → W.heap[b]? = w11.heap[b]?) → OwnD W base (.slice na n ncap) n zs ∧ RcRow W fa nf fr) := Lib.hid (fun W q => by
        have o1 := ownd_same HO8.out (fun b e => HB11.out.block b (World.ownsRow.lt HO8.out b e).2)
        have o2 := (HOf.out.keep HB10.out).keep b11
        refine ⟨ownd_same o1 (fun b e => q b (World.ownsRow.lt o1 b e).1 (World.ownsRow.lt o1 b e).2), ?_⟩
        obtain ⟨a', cap', e, _, _, r⟩ := (o2.same (fun b e => q b (by have := (o2.lt b e).1; omega) (o2.lt b e).2)).row cRc_len
        injection e with e1 e2 e3
        rw [e1, e2]; exact r)
      have HRwo : Hid (∀ W, OwnD W base (.slice na n ncap) n zs → Row W na n zs) := Lib.hid (fun W o => by
        obtain ⟨a', cap', e, r⟩ := o.row
        injection e with e1 e2 e3
        rw [e1]; exact r)
      have HWk : Hid (Wk (oX X D2.L) E.R zs R') := Lib.hid (fresh_wk (fun x r q => oX_id q) HZu.out hia.2.2.1 (fun k => by rw [hia.2.2.2 k, HFr.out]))
      have HMm : Hid (∀ k, k ∈ R'.map Rc.id ↔ if k ∈ zs then k ∈ fr.map Rc.id else k ∈ E.R.map Rc.id) := Lib.hid (fun k => by
        rw [look_names HWk.out k]
        by_cases c : k ∈ zs
        · rw [if_pos c, if_pos c, HFr.out, mem_fresh (fun x r q => oX_id q)]
          exact ⟨fun q => ⟨c, q⟩, fun q => q.2⟩
        · rw [if_neg c, if_neg c])
      have hSI := HE.out.si
      have hKK : SI (keptD (R'.map Rc.id) E.S) := hSI.filter _
      have hDel := del_all (zs := zs) (fr := fr) hSI HE.out.has HMm.out
      have hAll := fresh_all (zs := zs) hSI HE.out.has hia.2.2.1 HFu.out HMm.out (fun k hk => by
        rw [HFr.out, mem_fresh (fun x r q => oX_id q)] at hk
        exact hk.1)
      have hKr : ∀ p ∈ keptD (R'.map Rc.id) E.S, Rg p.1 ∧ 0 ≤ p.2 ∧ p.2 < 1000 := fun p hp => by
        have hp' : p ∈ E.S := (List.mem_filter.1 hp).1
        have h1 := HSl.out p hp'
        have h2 : p.1 ∈ E.R.map Rc.id := (HE.out.has p.1).1 ((slot_has hSI).2 (List.mem_map.2 ⟨p, hp', rfl⟩))
        obtain ⟨r, hr, e⟩ := List.mem_map.1 h2
        exact ⟨e ▸ HRr.out r hr, hSI.pos p hp', by omega⟩
      have hKl : (keptD (R'.map Rc.id) E.S).length ≤ 1000 := Nat.le_trans (List.length_filter_le _ _) (Nat.le_trans (slots_len HE.out) (by omega))
      have hgs := grown_set w11 g 1 (.slice va nr vcap)
      have HSe : Hid (∀ W, W = w11.setCell ⟨g, 1, none⟩ (.slice va nr vcap) → Calls Tryz.prog 78 #[.pointer (some ⟨g, 0, none⟩), .slice na n ncap, .slice fa nf fcap] W fun e w' => e = .returned (.tuple #[]) ∧ MF sK13 w' mb (slM (slotsD (R'.map Rc.id) E.S)) ∧ W.grownBy w' (some mb)) := Lib.hid (fun W hW => by
        subst hW
        rw [hAll]
        refine settle_any HL12.out.mp (Lib.hid (fun W q => ?_)) HFu.out hKK hDel HZr.out HFg.out hKr hKl (by omega) (by omega)
        have h3 := HRws.out W (fun b h1 h2 => (q.block b (Nat.lt_of_lt_of_le h2 hgs.size) (by intro e; injection e with e; omega)).trans (hgs.block b h2 (by intro e; injection e with e; omega)))
        have hk := HL12.out.blk.same (q.block g HL12.out.blk.lt (by intro e; injection e with e; exact HL12.out.mg e.symm))
        exact ⟨HRwo.out W h3.1, h3.2, hk.cell 2, hk.lt⟩)
      have HG12 : Hid (∀ W, (w11.setCell ⟨g, 1, none⟩ (.slice va nr vcap)).grownBy W (some mb) → OwnD W base (.slice na n ncap) n zs) := Lib.hid (fun W q => (HRws.out W (fun b h1 h2 => (q.block b (Nat.lt_of_lt_of_le h2 hgs.size) (by intro e; injection e with e; omega)).trans (hgs.block b h2 (by intro e; injection e with e; omega)))).1)
      clear hia b11 HIn hgs hSI hKK hDel hAll hKr hKl HRws HRwo HMm
      go_upto_region 16 with fail
      go_wp2_with fail
      refine (HSe.out _ rfl).mono ?_
      rintro e w12 ⟨rfl, hm12, hg12⟩
      have HL13 := Lib.hid (HL12.out.setM HC.out hg12 hm12)
      have HO13 := Lib.hid (HG12.out w12 hg12)
      have HTi := Lib.hid (HXC.out.tick w12 gs Fs X HS.out.wx HB9.out (HXs.out w12 (Fr.after HB1.out HL13.out.fr)))
      clear hm12 hg12 HSe HG12 HL12 HL11 c1 f1 hg11
      go_wp2_with fail
      refine HTi.out.mono ?_
      rintro e w13 ⟨rfl, b13⟩
      have HL14 := Lib.hid (HL13.out.keep HC.out b13)
      have HO14 : Hid (OwnD w13 base (.slice na n ncap) n zs) := Lib.hid (ownd_same HO13.out (fun b e => b13.block b (World.ownsRow.lt HO13.out b e).2))
      have f3 : w13.frozen? ⟨g, 3, none⟩ = false := HL14.out.blk.frozen 3
      obtain ⟨-, -, -, c3, -, hg13⟩ := HL14.out.reads
      have HL15 := Lib.hid (HL14.out.setT HC.out X.S.now)
      have hgs := grown_set w13 g 3 (.int .i64 X.S.now)
      have HO15 : Hid (OwnD (w13.setCell ⟨g, 3, none⟩ (.int .i64 X.S.now)) base (.slice na n ncap) n zs) := Lib.hid (ownd_same HO14.out (fun b e => hgs.block b (World.ownsRow.lt HO14.out b e).2 (by intro q; injection q with q; have := (World.ownsRow.lt HO14.out b e).1; omega)))
      have hwb : w.heap.size ≤ base := Nat.le_trans HB1.out.size hbg4
      have HFn : Hid (ChB (LEB FB) w (w13.setCell ⟨g, 3, none⟩ (.int .i64 X.S.now)) g F ⟨runD D2, R', slotsD (R'.map Rc.id) E.S, X.S.now, E.n + n⟩ ∧ LRes w (w13.setCell ⟨g, 3, none⟩ (.int .i64 X.S.now)) zs (.slice na n ncap) ∧ Synced X E zs 0 ⟨runD D2, R', slotsD (R'.map Rc.id) E.S, X.S.now, E.n + n⟩) := Lib.hid ⟨HL15.out.done HB1.out rfl rfl rfl rfl HNN.out.symm, LRes.of9 HO15.out hwb, Or.inr (Or.inr ⟨by rw [← HDt.out]; exact HR0.out, by rw [← HDt.out, ← HZs.out]; exact HEr.out.symm, HZs.out, rfl, R', by rw [← HDt.out, ← HZs.out]; exact HWk.out, by rw [← HDt.out, ← HZs.out, ← HNn.out]⟩)⟩
      obtain ⟨nw, hnw⟩ : ∃ nw, nw = X.S.now := ⟨_, rfl⟩
      rw [← hnw] at HFn ⊢
      clear b13 hgs HL13 HO13 HTi HL14 HO14 HL15 HO15 hnw hwb
      go_wp2
      go_ret2
      exact ⟨_, zs, 0, _, rfl, HFn.out.1, Or.inl ⟨rfl, HFn.out.2.1, HFn.out.2.2⟩⟩
    · have HNe := Lib.hid he0
      have HFn : Hid (∃ E1 : XS, ChB (LEB FB) w w9 g F E1 ∧ Synced X E [] er (XSn E1.n)) := Lib.hid ⟨⟨runD D2, E.R, E.S, sn, E.n + n⟩, HL9.out.done HB1.out rfl rfl rfl rfl HNN.out.symm, Or.inr (Or.inl ⟨by rw [← HDt.out]; exact HR0.out, by rw [← HDt.out, ← HZs.out, ← HEr.out]; exact he0, rfl, by rw [← HDt.out, ← HZs.out]; exact HEr.out, by rw [← HZs.out, ← HNn.out]⟩)⟩
      clear HL8 HO8 HL9
      go_wp2
      go_ret2
      obtain ⟨E1, k1, k2⟩ := HFn.out
      exact ⟨_, [], er, E1, rfl, k1, Or.inr ⟨HNe.out, k2⟩⟩
  · have HNe := Lib.hid hre
    have HFn : Hid (∃ E1 : XS, ChB (LEB FB) w w8 g F E1 ∧ Synced X E [] re (XSn E1.n)) := Lib.hid ⟨_, HW1.out, Or.inl ⟨by rw [← HDt.out, ← HRe.out]; exact hre, rfl, by rw [← HDt.out]; exact HRe.out, by rw [← HZs.out, ← HNn.out]⟩⟩
    clear HL8 HO8 HW1
    go_wp2
    go_ret2
    obtain ⟨E1, k1, k2⟩ := HFn.out
    exact ⟨_, [], re, E1, rfl, k1, Or.inr ⟨HNe.out, k2⟩⟩
end
def cI13 (x : Int) : List Value := [.int .i64 x]
theorem cI_len (x : Int) : (cI13 x).length = 1 := rfl
theorem int_info13 : (Tryz.prog.info? 3).map (fun i => (i.zero, i.size, i.bytes)) = some (some (.int .i64 0), 1, 8) := by kernel_rfl
def Uc (U : Nat → Bool) : Array Value := ((List.range 12).map fun i => Value.bool (U i)).toArray
theorem uc_at (U : Nat → Bool) {i : Nat} (h : i < 12) : (Uc U)[i]? = some (.bool (U i)) := by
  unfold Uc
  rw [List.getElem?_toArray, List.getElem?_map, List.getElem?_range h]
  rfl
theorem uc_set (U : Nat → Bool) (n : Nat) (b : Bool) : (Uc U).setIfInBounds n (.bool b) = Uc (fun i => if i = n then b else U i) := by
  apply Array.toList_inj.1
  apply List.ext_getElem?
  intro i
  unfold Uc
  simp only [List.setIfInBounds_toArray, List.getElem?_set, List.getElem?_map, List.length_map, List.length_range]
  by_cases h : i < 12
  · rw [List.getElem?_range h]
    by_cases e : n = i
    · subst e; simp [h]
    · rw [if_neg e]
      simp only [Option.map_some]
      rw [if_neg (fun q => e q.symm)]
  · rw [List.getElem?_eq_none (by simp; omega)]
    by_cases e : n = i
    · subst e; simp [h]
    · rw [if_neg e]; rfl
def UkB (S : SlR) (R : List Rc) (k i : Nat) : Bool := decide ((i : Int) ∈ (R.take k).map (fun r => slotD S r.id))
theorem uk_step {S : SlR} {R : List Rc} {k m : Nat} {r : Rc} (h : R[k]? = some r) (hm : slotD S r.id = (m : Int)) : (fun i => if i = m then true else UkB S R k i) = UkB S R (k + 1) := funext fun i => by
  unfold UkB
  rw [List.take_add_one, h, List.map_append, eq_comm]
  by_cases e : i = m
  · subst e
    rw [if_pos rfl, decide_eq_true]
    exact List.mem_append.2 (Or.inr (by simp [hm]))
  · rw [if_neg e, decide_eq_decide, List.mem_append]
    constructor
    · rintro (q | q)
      · exact q
      · simp [hm] at q; omega
    · exact Or.inl
theorem uk_free {S : SlR} {R : List Rc} (hS : SI S) (hR : Rise R) (hh : ∀ y ∈ R.map Rc.id, 0 ≤ slotD S y) {k m : Nat} {r : Rc} (h : R[k]? = some r) (hm : slotD S r.id = (m : Int)) : UkB S R k m = false := by
  unfold UkB
  rw [decide_eq_false_iff_not, List.mem_map]
  rintro ⟨q, hq, e⟩
  obtain ⟨j, hj, hjq⟩ := List.mem_iff_getElem.1 hq
  rw [List.length_take] at hj
  rw [List.getElem_take] at hjq
  have hk := (List.getElem?_eq_some_iff.1 h).1
  have hid : q.id = r.id := slot_one hS (hh _ (List.mem_map.2 ⟨q, List.mem_of_mem_take hq, rfl⟩)) (by rw [e, hm])
  have := List.pairwise_iff_getElem.1 hR j k (by omega) hk (by omega)
  rw [hjq, (List.getElem?_eq_some_iff.1 h).2] at this
  omega
section
variable {EB : World → Nat → (Nat → Prop) → XS → Prop} {XB : World → Nat → (Nat → Prop) → Sc → Prop}
set_option maxHeartbeats 40000000 in
set_option maxRecDepth 100000 in
theorem slots13_yes (hX : XC XB) (hE : EC EB XB) (a : Option Addr) (len cap : Nat) (xs : List S13) (w : World) (row : ARow13 w a len xs) :
    Calls Tryz.prog 5 #[.slice a len cap] w fun e w' => e = .returned (.bool true) ∧ Below w.heap.size w w' := by
  have hbig := row.2.1
  have HRow := Lib.hid row
  have HXX := Lib.hid hX
  have HEE := Lib.hid hE
  have HFits := Lib.hid (fits13_any a len cap xs w row)
  have HAlive := Lib.hid (alive13_any hX hE)
  clear row hX hE
  go_enter Tryz.func5, Tryz.ntmps5
  go_wp2_with fail
  refine HFits.out.mono ?_
  rintro e w1 ⟨ok, rfl, hok, rfl⟩
  have HOk := Lib.hid hok
  clear hok HFits
  go_wp2_with fail
  refine (HXX.out.new w 12 (by omega)).mono ?_
  rintro e w1 ⟨gs, Fs, rfl, sb, hF, b1⟩
  cases ok with
  | false =>
    have HB := Lib.hid b1
    clear sb hF b1
    go_wp2_with fail
    refine (HAlive.out _).mono ?_
    rintro e w2 ⟨rfl, b2⟩
    replace HB := Lib.hid (bthen HB.out b2)
    clear b2
    go_wp2
    go_ret
    exact ⟨rfl, HB.out⟩
  | true =>
    have HSb := Lib.hid sb
    have HB := Lib.hid (And.intro hF b1)
    clear sb hF b1
    obtain ⟨h40, hn40⟩ := HOk.out rfl
    have HN40 := Lib.hid hn40
    clear hn40 HOk
    go_wp2_with fail
    refine (HEE.out.new _).mono ?_
    rintro e w2 ⟨g, F, rfl, eb, hFx, b2⟩
    have HS0 : Hid (St13 EB XB w w2 g gs F Fs XS0 (Sc0 12) 0 0) := Lib.hid ⟨⟨eb, HXX.out.kb.keep HSb.out b2, fun b c d => by have := hFx b c; have := HXX.out.kb.inb _ _ _ _ HSb.out b d; omega, bthen HB.out.2 b2, fun b c => Nat.le_trans HB.out.2.size (hFx b c), HB.out.1⟩, SX3.zero (by omega), Or.inl ⟨0, rfl⟩, BSc.zero (by omega), ⟨Nat.le_refl _, Nat.le_refl _⟩, fun p hp => (by cases hp), rfl⟩
    clear eb hFx b2 HSb HB
    go_wp2
    go_loopw [7, 8, 9, 10, 11, 12, 13, 14, 15, 16, 17] (fun v7 _ _ _ _ _ _ _ _ _ _ wr => ∃ (j : Nat) (F Fs : Nat → Prop) (E : XS) (X : Sc), j ≤ len ∧ v7 = .int .i64 j ∧ St13 EB XB w wr g gs F Fs E X (4 * j) j) (fun v7 _ _ _ _ _ _ _ _ _ _ _ => len - (intOf v7).toNat)
    case atStart => exact ⟨0, F, Fs, XS0, Sc0 12, by omega, rfl, HS0.out⟩
    case round =>
      clear HS0 F Fs
      obtain ⟨j, F, Fs, E, X, hj, rfl, hs⟩ := hrel
      have HS := Lib.hid hs
      clear hs
      by_cases hlt : j < len
      · have j0 : (0 : Int) ≤ (j : Int) := by omega
        have j1 : (j : Int) < (len : Int) := by omega
        obtain ⟨b, off, x, rfl, hx, hrx, hok⟩ := HRow.out.at_ hlt
        have hxn : x.1.n ≤ 40 := HN40.out x (List.mem_of_getElem? hx)
        have HSz := Lib.hid (c11_size x.1)
        have hbw := World.block_lt_of_cell? _ _ (hrx 0 _ rfl)
        have HOr : Hid (∀ u, Below w.heap.size w u → u.rangeAt b (off + j * 30) (c11 x.1) ∧ u.cell? ⟨b, off + j * 30 + 28, none⟩ = some (.bool x.2.1) ∧ b < u.heap.size) := Lib.hid (fun u q => by
          have hr := range_same hrx (q.block b hbw)
          refine ⟨fun i v hv => hr i v (by unfold c13; rw [List.getElem?_append_left (List.getElem?_eq_some_iff.1 hv).1]; exact hv), hr 28 _ rfl, Nat.lt_of_lt_of_le hbw q.size⟩)
        have HAct : Hid (∀ W F Fs E X m k, m ≤ 240 → St13 EB XB w W g gs F Fs E X m k → Calls Tryz.prog 18 #[.pointer (some ⟨gs, 0, none⟩), .agg (c11 x.1).toArray] W fun e w' => (∃ v, e = .returned v) ∧ ∃ Fs' X', St13 EB XB w w' g gs F Fs' E X' (m + 2) k) := Lib.hid (fun W F Fs E X m k hm h => (h.act HXX.out HEE.out.kb hm hok hxn).mono (fun e w' ⟨q1, Fs', q2⟩ => ⟨q1, Fs', _, q2⟩))
        obtain ⟨sy, hsy⟩ : ∃ sy, sy = x.2.1 := ⟨_, rfl⟩
        rw [← hsy] at HOr
        obtain ⟨Xc, hXc⟩ : ∃ Xc, Xc = c11 x.1 := ⟨_, rfl⟩
        rw [← hXc] at HOr HSz HAct
        clear hx hrx hok hxn hbw hsy hXc HRow HN40
        obtain ⟨hr0, -, hbl⟩ := HOr.out _ HS.out.du.be
        have HR0 := Lib.hid hr0
        clear hr0
        go_wp2_with (first
          | refine wpList_load_mid rfl 55 (.tmp 44) rfl b (off + j * 30) rfl Xc _ HR0.out Tryz.underlying55 rfl HSz.out ?_)
        refine (HAct.out _ _ _ _ _ _ _ (by omega) HS.out).mono ?_
        rintro e w3 ⟨⟨v, rfl⟩, Fs2, X2, s2⟩
        have HS2 := Lib.hid s2
        clear s2 HS HAct HR0 hbl
        obtain ⟨-, hc28, hbl⟩ := HOr.out _ HS2.out.du.be
        cases sy with
        | false =>
          have HSn := Lib.hid (HS2.out.mono (m' := 4 * (j + 1)) (k' := j + 1) (by omega) (by omega))
          clear HS2
          go_wp2
          go_roundw
          case rel => exact ⟨j + 1, F, Fs2, E, X2, by omega, by go_num, HSn.out⟩
          case measure => simp [intOf] <;> omega
        | true =>
          have HRx := Lib.hid (St13.recs HEE.out HS2.out.du.eb HS2.out.ek)
          have HIn : Hid (∀ b, (F b ∨ Fs2 b) → b < w3.heap.size) := Lib.hid (fun b c => c.elim (HEE.out.kb.inb _ _ _ _ HS2.out.du.eb b) (HXX.out.kb.inb _ _ _ _ HS2.out.du.xb b))
          have hl0 : E.R.length ≤ 256 := HS2.out.ek.rlen
          obtain ⟨nw, hnw⟩ : ∃ nw, nw = E.R.length := ⟨_, rfl⟩
          rw [← hnw] at HRx hl0
          have HNw := Lib.hid hnw
          clear hnw
          go_wp2_with fail
          refine HRx.out.mono ?_
          rintro e w4 ⟨wa, wcap, rfl, wrow, waw, b4⟩
          have HW4 := Lib.hid wrow
          have HWa : Hid (∀ ad, wa = some ad → ¬ (F ad.block ∨ Fs2 ad.block)) := Lib.hid (fun ad e c => by have h1 := waw ad e; have h3 := HIn.out _ c; omega)
          replace HS2 := Lib.hid (HS2.out.keep HEE.out.kb HXX.out.kb b4)
          replace HIn := Lib.hid (fun b c => Nat.lt_of_lt_of_le (HIn.out b c) b4.size : ∀ b, (F b ∨ Fs2 b) → b < w4.heap.size)
          clear wrow waw b4 HRx hc28 hbl HOr HSz
          obtain ⟨sl, hsl⟩ : ∃ sl : Rc → Int, sl = fun r => slotD E.S r.id := ⟨_, rfl⟩
          have HSl := Lib.hid hsl
          have HSlot : Hid (∀ W y, Below w4.heap.size w4 W → y ∈ E.R → Calls Tryz.prog 22 #[.pointer (some ⟨g, 0, none⟩), .int .i64 y.id] W fun e w' => e = .returned (.int .i64 (sl y)) ∧ Below W.heap.size W w') := Lib.hid (fun W y q hy => by
            rw [hsl]
            exact HEE.out.slot W g F E y.id (HEE.out.kb.keep HS2.out.du.eb q) HS2.out.ek.si (rc_rg HS2.out.ek y hy))
          clear hsl
          go_wp2
          go_loopw [9, 10] (fun v9 v10 wq => ∃ q : Nat, q ≤ nw ∧ v10 = .int .i64 q ∧ OwnX 1 cI13 3 wq w4.heap.size v9 ((E.R.take q).map sl) ∧ Below w4.heap.size w4 wq) (fun _ v10 _ => nw - (intOf v10).toNat)
          case atStart => exact ⟨0, by omega, rfl, OwnX.nil _ _ _ _ _, Below.refl _ _⟩
          case round =>
            obtain ⟨q, hq, rfl, ho, hb⟩ := hrel
            have HO := Lib.hid ho
            have HB := Lib.hid hb
            clear ho hb
            by_cases hqn : q < nw
            · have q0 : (0 : Int) ≤ (q : Int) := by omega
              have q1 : (q : Int) < (nw : Int) := by omega
              obtain ⟨rb, roff, r, rfl, hrb, hrr, hrg⟩ := (HW4.out.keep HB.out).at_ hqn
              have cid : wr.cell? ⟨rb, roff + q * 12, none⟩ = some (.int .i64 r.id) := hrg 0 _ rfl
              have HStp : Hid ((E.R.take (q + 1)).map sl = (E.R.take q).map sl ++ [sl r]) := Lib.hid (by rw [List.take_add_one, hrr, List.map_append]; rfl)
              have HSl1 := Lib.hid (HSlot.out wr r HB.out (List.mem_of_getElem? hrr))
              have hl8 : ((E.R.take q).map sl).length ≤ 2000 := by rw [List.length_map, List.length_take]; omega
              obtain ⟨L8, hL8⟩ : ∃ L, L = (E.R.take q).map sl := ⟨_, rfl⟩
              rw [← hL8] at HO HStp hl8
              obtain ⟨rid, hrid⟩ : ∃ rid, rid = r.id := ⟨_, rfl⟩
              rw [← hrid] at cid HSl1
              obtain ⟨sv, hsv⟩ : ∃ sv, sv = sl r := ⟨_, rfl⟩
              rw [← hsv] at HStp HSl1
              clear hrg hrr hL8 hrid hsv
              go_wp2_with fail
              refine HSl1.out.mono ?_
              rintro e w5 ⟨rfl, b5⟩
              have HB5 := Lib.hid b5
              have h45 : w4.heap.size ≤ w5.heap.size := Nat.le_trans HB.out.size b5.size
              clear b5 cid hrb HSl1
              go_wp2_with (at_builtin; refine wpList_pushX rfl (.tmp 61) (.tmp 69) 90 8 (.int .i64 0) rfl Tryz.underlying90 int_info13 rfl (by decide) (by decide) cI_len sv (fun u hu => by unfold cI13 at hu; rw [List.mem_singleton.1 hu]; rfl) rfl ((HO.out.keep HB5.out).keep (alloc_below _ _)) w5.heap.size 1 rfl (blk_whole (Blk.new w5 3 _)) hl8 (by simp; omega) ?_)
              intro v' w6 k1 k2 k3
              have K : Hid (OwnX 1 cI13 3 w6 w4.heap.size v' ((E.R.take (q + 1)).map sl) ∧ Below w4.heap.size w4 w6) := Lib.hid ⟨by rw [HStp.out]; exact k1, grown_below2 (bthen (bthen HB.out HB5.out) (alloc_below _ _)) k2 (fun b e => (HO.out.lt b e).1)⟩
              clear k1 k2 k3 HO HB HB5 HStp
              go_wp2
              go_roundw
              case rel => exact ⟨q + 1, by omega, by go_num, K.out.1, K.out.2⟩
              case measure => simp [intOf] <;> omega
            · obtain rfl : q = nw := by omega
              have q2 : ¬ (q : Int) < (q : Int) := by omega
              have HO9 : Hid (OwnX 1 cI13 3 wr w4.heap.size u9 (E.R.map sl)) := Lib.hid (by
                have h1 := HO.out
                rw [List.take_of_length_le (by rw [HNw.out]; exact Nat.le_refl _)] at h1
                exact h1)
              have HS3 := Lib.hid (HS2.out.keep HEE.out.kb HXX.out.kb HB.out)
              have HW5 := Lib.hid (HW4.out.keep HB.out)
              have HSy := Lib.hid (HS3.out.sync HEE.out (by omega) (by omega))
              obtain ⟨sa, scap, hsa, -, -, -⟩ := HO9.out.row cI_len
              have hsl2 : (E.R.map sl).length = q := by rw [List.length_map]; exact HNw.out.symm
              rw [hsl2] at hsa
              subst hsa
              clear HO HB HS2 HW4 HSlot hsl2
              go_wp2_with fail
              refine HSy.out.mono ?_
              rintro e w7 ⟨a7, n7, c7, z7, f, E1, F1, Fs3, rfl, -, -, hy7, s7, -, -, fr7, -⟩
              have HS7 := Lib.hid s7
              have HY7 := Lib.hid hy7
              have HW7 := Lib.hid (rcrow_fr HW5.out fr7 HWa.out)
              have HO7 : Hid (OwnX 1 cI13 3 w7 w4.heap.size (.slice sa q scap) (E.R.map sl)) := Lib.hid (HO9.out.same (fun b e => fr7.2.2.2.2 b (HO9.out.lt b e).2 (fun c => by have := (HO9.out.lt b e).1; have := HIn.out b c; omega)))
              have hk3 := HS3.out.ek
              have HEk := Lib.hid hk3
              clear hy7 s7 fr7 HSy HS3 HW5 HO9 hk3
              have HRx := Lib.hid (St13.recs HEE.out HS7.out.du.eb HS7.out.ek)
              have hl1 : E1.R.length ≤ 256 := HS7.out.ek.rlen
              obtain ⟨nn, hnn⟩ : ∃ nn, nn = E1.R.length := ⟨_, rfl⟩
              rw [← hnn] at HRx hl1
              have HNn := Lib.hid hnn
              clear hnn
              go_wp2_with fail
              refine HRx.out.mono ?_
              rintro e w8 ⟨na, ncap, rfl, nrow, -, b8⟩
              have HN8 := Lib.hid nrow
              replace HS7 := Lib.hid (HS7.out.keep HEE.out.kb HXX.out.kb b8)
              replace HW7 := Lib.hid (HW7.out.keep b8)
              replace HO7 := Lib.hid (HO7.out.keep b8)
              clear nrow b8 HRx
              go_upto_region 22 with fail
              have HU0 : Hid (Blk (w8.alloc (.cells (Uc (UkB E1.S E1.R 0)) 93)) w8.heap.size 93 (Uc (UkB E1.S E1.R 0)) ∧ Below w8.heap.size w8 (w8.alloc (.cells (Uc (UkB E1.S E1.R 0)) 93))) := Lib.hid ⟨Blk.new w8 _ _, alloc_below _ _⟩
              have hz : Uc (UkB E1.S E1.R 0) = #[.bool false, .bool false, .bool false, .bool false, .bool false, .bool false, .bool false, .bool false, .bool false, .bool false, .bool false, .bool false] := by
                have e : UkB E1.S E1.R 0 = fun _ => false := funext fun i => by unfold UkB; simp
                rw [e]; rfl
              refine fin (fun W => Blk W w8.heap.size 93 (Uc (UkB E1.S E1.R 0)) ∧ Below w8.heap.size w8 W) (by rw [← hz]; exact HU0.out) ?_
              clear HU0 hz
              obtain ⟨gu, hgu⟩ : ∃ gu, gu = w8.heap.size := ⟨_, rfl⟩
              have HGu := Lib.hid hgu
              rw [← hgu]
              rintro w9 ⟨ku, hb9⟩
              have HKu := Lib.hid ku
              have HB9 : Hid (Below w8.heap.size w8 w9) := Lib.hid (by rw [← hgu]; exact hb9)
              have HSI : Hid (SI E1.S) := Lib.hid HS7.out.ek.si
              have HRi : Hid (Rise E1.R) := Lib.hid HS7.out.ek.rise
              have HHas : Hid (∀ y ∈ E1.R.map Rc.id, 0 ≤ slotD E1.S y) := Lib.hid (fun y hy => (HS7.out.ek.has y).2 hy)
              have HLow : Hid (∀ y ∈ E1.R.map Rc.id, slotD E1.S y < 12) := Lib.hid (fun y hy => HS7.out.lo _ (slot_mem HSI.out (HHas.out y hy)))
              have HSlot : Hid (∀ W y, Below w8.heap.size w8 W → y ∈ E1.R → Calls Tryz.prog 22 #[.pointer (some ⟨g, 0, none⟩), .int .i64 y.id] W fun e w' => e = .returned (.int .i64 (slotD E1.S y.id)) ∧ Below W.heap.size W w') := Lib.hid (fun W y q hy => HEE.out.slot W g F1 E1 y.id (HEE.out.kb.keep HS7.out.du.eb q) HSI.out (rc_rg HS7.out.ek y hy))
              have HStay : Hid (f = 0 → ∀ y, y ∈ E.R.map Rc.id → y ∈ E1.R.map Rc.id → slotD E1.S y = slotD E.S y) := Lib.hid (fun hf y h1 h2 => HY7.out.stay HEk.out hf h1 h2)
              clear ku hb9 hgu HY7
              go_wp2
              go_loopw [15, 16, 17] (fun v15 _ _ wq => ∃ k : Nat, k ≤ nn ∧ v15 = .int .i64 k ∧ Blk wq gu 93 (Uc (UkB E1.S E1.R k)) ∧ Below w8.heap.size w8 wq) (fun v15 _ _ _ => nn - (intOf v15).toNat)
              case atStart => exact ⟨0, by omega, rfl, HKu.out, HB9.out⟩
              case round =>
                clear HKu HB9
                obtain ⟨k, hk, rfl, ku, hb⟩ := hrel
                have HKu := Lib.hid ku
                have HB := Lib.hid hb
                clear ku hb
                by_cases hkn : k < nn
                · have k0 : (0 : Int) ≤ (k : Int) := by omega
                  have k1 : (k : Int) < (nn : Int) := by omega
                  obtain ⟨nb, noff, r, rfl, hnb8, hrr, hrg⟩ := HN8.out.at_ hkn
                  have cid8 : w8.cell? ⟨nb, noff + k * 12, none⟩ = some (.int .i64 r.id) := hrg 0 _ rfl
                  have cid := cell_keep cid8 HB.out
                  have hnb := Nat.lt_of_lt_of_le hnb8 HB.out.size
                  have hrm : r.id ∈ E1.R.map Rc.id := List.mem_map.2 ⟨r, List.mem_of_getElem? hrr, rfl⟩
                  have HSl1 := Lib.hid (HSlot.out wr r HB.out (List.mem_of_getElem? hrr))
                  obtain ⟨m, hm⟩ : ∃ m : Nat, slotD E1.S r.id = (m : Int) := ⟨(slotD E1.S r.id).toNat, by have := HHas.out _ hrm; omega⟩
                  have hm12 : m < 12 := by have := HLow.out _ hrm; omega
                  have HFree : Hid (UkB E1.S E1.R k m = false) := Lib.hid (uk_free HSI.out HRi.out HHas.out hrr hm)
                  have HStep : Hid ((fun i => if i = m then true else UkB E1.S E1.R k i) = UkB E1.S E1.R (k + 1)) := Lib.hid (uk_step hrr hm)
                  have HSt : Hid (f = 0 → ∀ y, y ∈ E.R.map Rc.id → y = r.id → slotD E.S y = (m : Int)) := Lib.hid (fun hf y h1 h2 => by rw [← HStay.out hf y h1 (h2 ▸ hrm), h2, hm])
                  rw [hm] at HSl1
                  obtain ⟨rid, hrid⟩ : ∃ rid, rid = r.id := ⟨_, rfl⟩
                  rw [← hrid] at cid cid8 HSl1 HSt
                  have HCid : Hid (∀ W, Below w8.heap.size w8 W → W.cell? ⟨nb, noff + k * 12, none⟩ = some (.int .i64 rid) ∧ nb < W.heap.size) := Lib.hid (fun W q => ⟨cell_keep cid8 q, Nat.lt_of_lt_of_le hnb8 q.size⟩)
                  clear cid8 hnb8 hrg hrr hrid hrm hm
                  go_wp2_with fail
                  refine HSl1.out.mono ?_
                  rintro e w10 ⟨rfl, b10⟩
                  have HKu2 := Lib.hid (HKu.out.keep b10)
                  have HB2 := Lib.hid (bthen HB.out b10)
                  have cu : w10.cell? ⟨gu, m, none⟩ = some (.bool false) := by
                    have h1 := HKu2.out.cell m
                    rw [uc_at _ hm12, HFree.out] at h1
                    exact h1
                  have fu : w10.frozen? ⟨gu, m, none⟩ = false := HKu2.out.frozen m
                  have hgul := HKu2.out.lt
                  have m0 : ¬ (m : Int) < 0 := by omega
                  have m1 : ¬ (12 : Int) ≤ (m : Int) := by omega
                  have m2 : (0 : Int) ≤ (m : Int) := by omega
                  have m3 : (m : Int) < 12 := by omega
                  have HKu3 : Hid (Blk (w10.setCell ⟨gu, m, none⟩ (.bool true)) gu 93 (Uc (UkB E1.S E1.R (k + 1)))) := Lib.hid (by
                    have h1 := HKu2.out.set_ m (.bool true)
                    rw [uc_set, HStep.out] at h1
                    exact h1)
                  have HB3 : Hid (Below w8.heap.size w8 (w10.setCell ⟨gu, m, none⟩ (.bool true))) := Lib.hid (HB2.out.setCell (by rw [HGu.out]; exact Nat.le_refl _) _)
                  clear b10 cid hnb HSl1 HKu HB HKu2
                  go_upto_region 29 with fail
                  refine fin (fun W => Blk W gu 93 (Uc (UkB E1.S E1.R (k + 1))) ∧ Below w8.heap.size w8 W) ⟨HKu3.out, HB3.out⟩ ?_
                  clear HKu3 HB3 cu fu hgul
                  rintro w11 ⟨ku, hb⟩
                  have HKu := Lib.hid ku
                  have HB := Lib.hid hb
                  clear ku hb HB2 HFree HStep
                  go_wp2
                  go_loopw [17] (fun v17 wq => ∃ t : Nat, t ≤ q ∧ v17 = .int .i64 t ∧ Blk wq gu 93 (Uc (UkB E1.S E1.R (k + 1))) ∧ Below w8.heap.size w8 wq) (fun v17 _ => q - (intOf v17).toNat)
                  case atStart => exact ⟨0, by omega, rfl, HKu.out, HB.out⟩
                  case round =>
                    clear HKu HB
                    obtain ⟨t, ht, rfl, ku, hb⟩ := hrel
                    have HKu := Lib.hid ku
                    have HB := Lib.hid hb
                    clear ku hb
                    by_cases htq : t < q
                    · have t0 : (0 : Int) ≤ (t : Int) := by omega
                      have t1 : (t : Int) < (q : Int) := by omega
                      obtain ⟨wb, woff, r0, rfl, hwb, hr0, hg0⟩ := (HW7.out.keep HB.out).at_ htq
                      have c0 : wr.cell? ⟨wb, woff + t * 12, none⟩ = some (.int .i64 r0.id) := hg0 0 _ rfl
                      have hm0 : r0.id ∈ E.R.map Rc.id := List.mem_map.2 ⟨r0, List.mem_of_getElem? hr0, rfl⟩
                      obtain ⟨c1, hnb⟩ := HCid.out wr HB.out
                      have hsrow : ∃ sb soff, sa = some ⟨sb, soff, none⟩ ∧ wr.cell? ⟨sb, soff + t, none⟩ = some (.int .i64 (slotD E.S r0.id)) := by
                        obtain ⟨sa', scap', e, _, _, sr⟩ := (HO7.out.keep HB.out).row cI_len
                        injection e with e1 e2 e3
                        obtain ⟨sb, soff, s0, es, _, hs0, hgs⟩ := sr.at_ (i := t) (by rw [← e2]; exact htq)
                        rw [List.getElem?_map, hr0] at hs0
                        have hs1 : s0 = slotD E.S r0.id := by rw [HSl.out] at hs0; simpa using hs0.symm
                        have c := hgs 0 _ rfl
                        rw [Nat.mul_one, Nat.add_zero, hs1] at c
                        exact ⟨sb, soff, e1.trans es, c⟩
                      obtain ⟨sb, soff, rfl, c2⟩ := hsrow
                      have hsb := World.block_lt_of_cell? _ _ c2
                      have HQ : Hid (f = 0 → r0.id = rid → slotD E.S r0.id = (m : Int)) := Lib.hid (fun hf e => HSt.out hf _ hm0 e)
                      have HRel : Hid (∀ nq, Blk (wr.drewN nq) gu 93 (Uc (UkB E1.S E1.R (k + 1))) ∧ Below w8.heap.size w8 (wr.drewN nq)) := Lib.hid (fun nq => ⟨HKu.out.keep (below_drewN13 _ nq), bthen HB.out (below_drewN13 _ nq)⟩)
                      obtain ⟨i0, hi0⟩ : ∃ i0, i0 = r0.id := ⟨_, rfl⟩
                      obtain ⟨s0, hs0⟩ : ∃ s0, s0 = slotD E.S r0.id := ⟨_, rfl⟩
                      rw [← hi0] at c0 HQ
                      rw [hi0, ← hs0] at HQ
                      rw [← hi0] at HQ
                      rw [← hs0] at c2
                      clear hg0 hr0 hm0 hi0 hs0 HKu HB
                      by_cases hid : i0 = rid
                      · have e1 : (i0 == rid) = true := by simpa using hid
                        by_cases hf : f = 0
                        · have e2 : (s0 != (m : Int)) = false := by simpa using HQ.out hf hid
                          subst hf
                          clear HQ hid
                          go_wp2
                          go_quiet (fail)
                          refine fin (fun V => Blk V gu 93 (Uc (UkB E1.S E1.R (k + 1))) ∧ Below w8.heap.size w8 V) (HRel.out nq) ?_
                          clear HRel c0 c1 c2 hnb hwb hsb
                          rintro V ⟨ku, hb⟩
                          have HKu := Lib.hid ku
                          have HB := Lib.hid hb
                          clear ku hb
                          go_wp2
                          go_roundw
                          case rel => exact ⟨t + 1, by omega, by go_num, HKu.out, HB.out⟩
                          case measure => simp [intOf] <;> omega
                        · have e2 : (f == 0) = false := by simpa using hf
                          clear HQ hid hf
                          go_wp2
                          go_quiet (fail)
                          refine fin (fun V => Blk V gu 93 (Uc (UkB E1.S E1.R (k + 1))) ∧ Below w8.heap.size w8 V) (HRel.out nq) ?_
                          clear HRel c0 c1 c2 hnb hwb hsb
                          rintro V ⟨ku, hb⟩
                          have HKu := Lib.hid ku
                          have HB := Lib.hid hb
                          clear ku hb
                          go_wp2
                          go_roundw
                          case rel => exact ⟨t + 1, by omega, by go_num, HKu.out, HB.out⟩
                          case measure => simp [intOf] <;> omega
                      · have e1 : (i0 == rid) = false := by simpa using hid
                        clear HQ hid
                        go_wp2
                        go_quiet (fail)
                        refine fin (fun V => Blk V gu 93 (Uc (UkB E1.S E1.R (k + 1))) ∧ Below w8.heap.size w8 V) (HRel.out nq) ?_
                        clear HRel c0 c1 c2 hnb hwb hsb
                        rintro V ⟨ku, hb⟩
                        have HKu := Lib.hid ku
                        have HB := Lib.hid hb
                        clear ku hb
                        go_wp2
                        go_roundw
                        case rel => exact ⟨t + 1, by omega, by go_num, HKu.out, HB.out⟩
                        case measure => simp [intOf] <;> omega
                    · obtain rfl : t = q := by omega
                      have t2 : ¬ (t : Int) < (t : Int) := by omega
                      go_wp2
                      go_roundw
                      case rel => exact ⟨k + 1, by omega, by go_num, HKu.out, HB.out⟩
                      case measure => simp [intOf] <;> omega
                · obtain rfl : k = nn := by omega
                  have k2 : ¬ (k : Int) < (k : Int) := by omega
                  have HSn := Lib.hid ((HS7.out.keep HEE.out.kb HXX.out.kb HB.out).mono (m' := 4 * (j + 1)) (k' := j + 1) (by omega) (by omega))
                  clear HKu HB HS7
                  go_wp2
                  go_roundw
                  case rel => exact ⟨j + 1, F1, Fs3, E1, _, by omega, by go_num, HSn.out⟩
                  case measure => simp [intOf] <;> omega
      · obtain rfl : j = len := by omega
        have j2 : ¬ (j : Int) < (j : Int) := by omega
        go_wp2_with fail
        refine (HAlive.out _).mono ?_
        rintro e w3 ⟨rfl, b3⟩
        have HB := Lib.hid (bthen HS.out.du.be b3)
        clear b3
        go_wp2
        go_ret
        exact ⟨rfl, HB.out⟩
end
section
variable {XB : World → Nat → (Nat → Prop) → Sc → Prop} {FB : World → Nat → (Nat → Prop) → FD → Prop}
theorem lres_nil (w w' : World) : LRes w w' [] (.slice none 0 0) := ⟨none, 0, rfl, ⟨rfl, by show 0 ≤ _; omega, Or.inl rfl⟩, Or.inl rfl⟩
theorem LRes.fr {w w1 w2 : World} {zs : List Int} {v : Value} {F : Nat → Prop} (h : LRes w w1 zs v) (k : Fr w1 w2 F) (hF : ∀ b, F b → b < w.heap.size) : LRes w w2 zs v := by
  obtain ⟨a, cap, rfl, row, haw⟩ := h
  exact ⟨a, cap, rfl, row_fr k row (haw.imp id (fun q ad e c => by have := q ad e; have := hF _ c; omega)), haw⟩
set_option maxHeartbeats 8000000 in
set_option maxRecDepth 100000 in
theorem lxsync_any (hX : XC XB) (hC : FWE FB) (w : World) (g : Nat) (F : Nat → Prop) (E : XS) (gs : Nat) (Fs : Nat → Prop) (X : Sc) (h0 : LEB FB w g F E) (sb : XB w gs Fs X) (hap : ∀ b, F b → ¬ Fs b) (hS : SX3 X) (hE : EOk X E) (hB : BSc X 250) (hbd : EBd E 100) (hsl : ∀ p ∈ E.S, p.2 < 256) (hrm : X.S.room ≤ 19) :
    Calls Tryz.prog 13 #[.pointer (some ⟨g, 0, none⟩), .pointer (some ⟨gs, 0, none⟩)] w fun e w' => ∃ v zs er E', e = .returned (.tuple #[v, .int .i64 er]) ∧ LRes w w' zs v ∧ Synced X E zs er E' ∧ SyR (LEB FB) XB w w' g gs F Fs E' (xneS X) := by
  have hK := kb_leb hC
  have HFo := Lib.hid (follow_any hX hC h0 sb hap hS hE hB hbd hsl hrm)
  have hi1 := hK.inb _ _ _ _ h0
  have hi2 := hX.kb.inb _ _ _ _ sb
  have HNx : Hid (∀ w1 F1 E1, LEB FB w1 g F1 E1 → Fr w w1 F → (∀ b, F1 b → F b ∨ w.heap.size ≤ b) → Calls Tryz.prog 33 #[.pointer (some ⟨gs, 0, none⟩)] w1 fun e w2 => (∃ v, e = .returned v) ∧ ∃ Fs1, LEB FB w2 g F1 E1 ∧ XB w2 gs Fs1 (xneS X) ∧ Fr w w2 (fun b => F b ∨ Fs b) ∧ (∀ b, F1 b → F b ∨ w.heap.size ≤ b) ∧ (∀ b, Fs1 b → Fs b ∨ w.heap.size ≤ b) ∧ (∀ b, F1 b → ¬ Fs1 b) ∧ Fr w1 w2 Fs) := Lib.hid (fun w1 F1 E1 h1 k1 k2 => by
    have sb1 : XB w1 gs Fs X := hX.kb.keep_ _ _ _ _ _ sb (fun b c => k1.2.2.2.2 b (hi2 b c) (fun d => hap b d c))
    have hF1 := hK.inb _ _ _ _ h1
    have hd1 : ∀ b, F1 b → ¬ Fs b := fun b c d => (k2 b c).elim (fun z => hap b z d) (fun z => by have := hi2 b d; omega)
    refine (hX.next w1 gs Fs X hS.wx (hB.mono (by omega)) sb1).mono ?_
    rintro e w2 ⟨rfl, Fs1, s1, s2, s3⟩
    refine ⟨⟨_, rfl⟩, Fs1, hK.keep_ _ _ _ _ _ h1 (fun b c => s2.2.2.2.2 b (hF1 b c) (hd1 b c)), s1, ?_, k2, fun b c => (s3 b c).imp id (fun z => Nat.le_trans k1.2.2.2.1 z), fun b c d => (s3 b d).elim (hd1 b c) (fun z => by have := hF1 b c; omega), s2⟩
    exact Fr.two (k1.of (fun b c => Or.inl c)) s2 (fun x c => Or.inl (Or.inr c)))
  have HFg : Hid (∀ w2 F1 Fs1 E1, LEB FB w2 g F1 E1 → XB w2 gs Fs1 (xneS X) → Fr w w2 (fun b => F b ∨ Fs b) → (∀ b, F1 b → F b ∨ w.heap.size ≤ b) → (∀ b, Fs1 b → Fs b ∨ w.heap.size ≤ b) → (∀ b, F1 b → ¬ Fs1 b) → Calls Tryz.prog 11 #[.pointer (some ⟨g, 0, none⟩)] w2 fun e w3 => e = .returned (.tuple #[]) ∧ SyR (LEB FB) XB w w3 g gs F Fs (XSn E1.n) (xneS X)) := Lib.hid (fun w2 F1 Fs1 E1 h1 h2 h3 h4 h5 h6 => by
    have hF1 := hK.inb _ _ _ _ h1
    have hF2 := hX.kb.inb _ _ _ _ h2
    refine (lxforget_any hC h1).mono ?_
    rintro e w3 ⟨rfl, F2, s1, s2, s3⟩
    refine ⟨rfl, F2, Fs1, s1, hX.kb.keep_ _ _ _ _ _ h2 (fun b c => s2.2.2.2.2 b (hF2 b c) (fun d => h6 b d c)), ?_, fun b c => (s3 b c).elim (h4 b) (fun z => Or.inr (Nat.le_trans h3.2.2.2.1 z)), h5, fun b c d => (s3 b c).elim (fun z => h6 b z d) (fun z => by have := hF2 b d; omega)⟩
    exact Fr.two h3 s2 (fun x c => (h4 x c).imp (fun z => Or.inl z) id))
  have HLr : Hid (∀ w1 w2 zs v, LRes w w1 zs v → Fr w1 w2 Fs → LRes w w2 zs v) := Lib.hid (fun w1 w2 zs v h k => h.fr k hi2)
  clear hK hX hC h0 sb hap hS hE hB hbd hsl hi1 hi2
  go_enter Tryz.func13, Tryz.ntmps13
  go_wp2_with fail
  refine HFo.out.mono ?_
  rintro e w1 ⟨v, zs, er, E1, rfl, ⟨F1, h1, k1, k2⟩, hc⟩
  have HN := Lib.hid (HNx.out w1 F1 E1 h1 k1 k2)
  have HCs := Lib.hid hc
  clear h1 k1 k2 hc HFo HNx
  go_wp2_with fail
  refine HN.out.mono ?_
  rintro e w2 ⟨⟨nv, rfl⟩, Fs1, h1, h2, h3, h4, h5, h6, h7⟩
  have HG := Lib.hid (HFg.out w2 F1 Fs1 E1 h1 h2 h3 h4 h5 h6)
  have HR : Hid (SyR (LEB FB) XB w w2 g gs F Fs E1 (xneS X)) := Lib.hid ⟨F1, Fs1, h1, h2, h3, h4, h5, h6⟩
  have HL2 := Lib.hid (fun zs v h => HLr.out w1 w2 zs v h h7)
  clear h1 h2 h3 h4 h5 h6 h7 HFg HLr HN
  by_cases he : er = 0
  · have HFn : Hid (LRes w w2 zs v ∧ Synced X E zs 0 E1) := Lib.hid (by
      rcases HCs.out with ⟨_, q1, q2⟩ | ⟨q, _⟩
      · exact ⟨HL2.out zs v q1, q2⟩
      · exact absurd he q)
    subst he
    clear HCs HG HL2
    go_wp2
    go_ret2
    exact ⟨v, zs, 0, E1, rfl, HFn.out.1, HFn.out.2, HR.out⟩
  · have HFn : Hid (Synced X E [] er (XSn E1.n)) := Lib.hid (by
      rcases HCs.out with ⟨q, _⟩ | ⟨_, q⟩
      · exact absurd q he
      · exact q)
    clear HCs HL2 HR
    go_wp2_with fail
    refine HG.out.mono ?_
    rintro e w3 ⟨rfl, hs⟩
    have HS := Lib.hid hs
    clear hs HG
    go_wp2
    go_ret2
    exact ⟨_, [], er, _, rfl, lres_nil _ _, HFn.out, HS.out⟩
theorem ec_holds (hX : XC XB) (hC : FWE FB) : EC (LEB FB) XB where
  kb := kb_leb hC
  new := lxnew_any hC
  forget _ _ _ _ h := lxforget_any hC h
  records _ _ _ _ h hl := lxrecords_any h hl
  slot _ _ _ _ x h hs hx := lxslot_any h hs x hx
  steps _ _ _ _ h := lxsteps_any h
  sync := lxsync_any hX hC
end
end Go.Proofs.YthhfcedhbfandaaGreat
namespace Go.Proofs.YthhfcedhbfandaaGreat
open Go.Shelf
def lay_keysX_ren : Go.Shelf.Ren := ⟨fun | 7 => 130 | 10 => 199 | n => n, fun | 23 => 199 | 26 => 81 | 3 => 220 | 28 => 208 | 0 => 0 | 27 => 207 | 33 => 144 | 4 => 4 | n => n, fun | n => n⟩
theorem lay_keysX : Go.Proofs.SlLaysZI.n7 Tryz.prog lay_keysX_ren := {
  mixed := by kernel_rfl
  f7 := ⟨Tryz.f130.name, by decide, Tryz.func130.trans (congrArg some (by kernel_rfl))⟩
  f10 := ⟨Tryz.f199.name, by decide, Tryz.func199.trans (congrArg some (by kernel_rfl))⟩
  t0 := Tryz.underlying0
  a0 := Tryz.isAgg0
  z0 := Tryz.sizeOf0
  v0 := Tryz.zeroValue0
  t4 := Tryz.underlying4
  a4 := Tryz.isAgg4
  z4 := Tryz.sizeOf4
  v4 := Tryz.zeroValue4
  t23 := Tryz.underlying199
  a23 := Tryz.isAgg199
  z23 := Tryz.sizeOf199
  v23 := Tryz.zeroValue199
  t26 := Tryz.underlying81
  a26 := Tryz.isAgg81
  z26 := Tryz.sizeOf81
  v26 := Tryz.zeroValue81
  t27 := Tryz.underlying207
  a27 := Tryz.isAgg207
  z27 := Tryz.sizeOf207
  v27 := Tryz.zeroValue207
  t28 := Tryz.underlying208
  a28 := Tryz.isAgg208
  z28 := Tryz.sizeOf208
  v28 := Tryz.zeroValue208
  t33 := Tryz.underlying144
  a33 := Tryz.isAgg144
  z33 := Tryz.sizeOf144
  v33 := Tryz.zeroValue144 }
def lay_keysY_ren : Go.Shelf.Ren := ⟨fun | 7 => 201 | 10 => 255 | n => n, fun | 23 => 197 | 26 => 81 | 3 => 215 | 28 => 208 | 0 => 0 | 27 => 207 | 33 => 144 | 4 => 4 | n => n, fun | n => n⟩
theorem lay_keysY : Go.Proofs.SlLaysZI.n7 Tryz.prog lay_keysY_ren := {
  mixed := by kernel_rfl
  f7 := ⟨Tryz.f201.name, by decide, Tryz.func201.trans (congrArg some (by kernel_rfl))⟩
  f10 := ⟨Tryz.f255.name, by decide, Tryz.func255.trans (congrArg some (by kernel_rfl))⟩
  t0 := Tryz.underlying0
  a0 := Tryz.isAgg0
  z0 := Tryz.sizeOf0
  v0 := Tryz.zeroValue0
  t4 := Tryz.underlying4
  a4 := Tryz.isAgg4
  z4 := Tryz.sizeOf4
  v4 := Tryz.zeroValue4
  t23 := Tryz.underlying197
  a23 := Tryz.isAgg197
  z23 := Tryz.sizeOf197
  v23 := Tryz.zeroValue197
  t26 := Tryz.underlying81
  a26 := Tryz.isAgg81
  z26 := Tryz.sizeOf81
  v26 := Tryz.zeroValue81
  t27 := Tryz.underlying207
  a27 := Tryz.isAgg207
  z27 := Tryz.sizeOf207
  v27 := Tryz.zeroValue207
  t28 := Tryz.underlying208
  a28 := Tryz.isAgg208
  z28 := Tryz.sizeOf208
  v28 := Tryz.zeroValue208
  t33 := Tryz.underlying144
  a33 := Tryz.isAgg144
  z33 := Tryz.sizeOf144
  v33 := Tryz.zeroValue144 }
def lay_keysN_ren : Go.Shelf.Ren := ⟨fun | 7 => 124 | 10 => 190 | n => n, fun | 23 => 204 | 26 => 81 | 3 => 205 | 28 => 208 | 0 => 0 | 27 => 207 | 33 => 144 | 4 => 4 | n => n, fun | n => n⟩
theorem lay_keysN : Go.Proofs.SlLaysZI.n7 Tryz.prog lay_keysN_ren := {
  mixed := by kernel_rfl
  f7 := ⟨Tryz.f124.name, by decide, Tryz.func124.trans (congrArg some (by kernel_rfl))⟩
  f10 := ⟨Tryz.f190.name, by decide, Tryz.func190.trans (congrArg some (by kernel_rfl))⟩
  t0 := Tryz.underlying0
  a0 := Tryz.isAgg0
  z0 := Tryz.sizeOf0
  v0 := Tryz.zeroValue0
  t4 := Tryz.underlying4
  a4 := Tryz.isAgg4
  z4 := Tryz.sizeOf4
  v4 := Tryz.zeroValue4
  t23 := Tryz.underlying204
  a23 := Tryz.isAgg204
  z23 := Tryz.sizeOf204
  v23 := Tryz.zeroValue204
  t26 := Tryz.underlying81
  a26 := Tryz.isAgg81
  z26 := Tryz.sizeOf81
  v26 := Tryz.zeroValue81
  t27 := Tryz.underlying207
  a27 := Tryz.isAgg207
  z27 := Tryz.sizeOf207
  v27 := Tryz.zeroValue207
  t28 := Tryz.underlying208
  a28 := Tryz.isAgg208
  z28 := Tryz.sizeOf208
  v28 := Tryz.zeroValue208
  t33 := Tryz.underlying144
  a33 := Tryz.isAgg144
  z33 := Tryz.sizeOf144
  v33 := Tryz.zeroValue144 }
def lay_sortedB_ren : Go.Shelf.Ren := ⟨fun | 6 => 123 | 8 => 189 | 9 => 74 | 11 => 250 | 13 => 135 | 12 => 134 | 23 => 211 | 24 => 212 | 14 => 202 | 15 => 203 | 16 => 204 | 17 => 205 | 18 => 206 | 19 => 207 | 20 => 208 | 21 => 209 | 22 => 210 | 25 => 256 | 26 => 257 | 27 => 258 | 28 => 259 | 29 => 260 | 30 => 261 | 31 => 288 | n => n, fun | 26 => 81 | 28 => 208 | 24 => 35 | 0 => 0 | 3 => 3 | 37 => 226 | 48 => 295 | 50 => 297 | 4 => 4 | 40 => 289 | 39 => 288 | 45 => 127 | 5 => 5 | 9 => 9 | 51 => 338 | 55 => 342 | 57 => 374 | 58 => 253 | 33 => 144 | n => n, fun | n => n⟩
theorem lay_sortedB : Go.Proofs.SlLaysZI.n6 Tryz.prog lay_sortedB_ren := {
  mixed := by kernel_rfl
  f6 := ⟨Tryz.f123.name, by decide, Tryz.func123.trans (congrArg some (by kernel_rfl))⟩
  f8 := ⟨Tryz.f189.name, by decide, Tryz.func189.trans (congrArg some (by kernel_rfl))⟩
  f11 := ⟨Tryz.f250.name, by decide, Tryz.func250.trans (congrArg some (by kernel_rfl))⟩
  t0 := Tryz.underlying0
  a0 := Tryz.isAgg0
  z0 := Tryz.sizeOf0
  v0 := Tryz.zeroValue0
  t24 := Tryz.underlying35
  a24 := Tryz.isAgg35
  z24 := Tryz.sizeOf35
  v24 := Tryz.zeroValue35
  t26 := Tryz.underlying81
  a26 := Tryz.isAgg81
  z26 := Tryz.sizeOf81
  v26 := Tryz.zeroValue81
  t28 := Tryz.underlying208
  a28 := Tryz.isAgg208
  z28 := Tryz.sizeOf208
  v28 := Tryz.zeroValue208
  i26 := by kernel_rfl }
end Go.Proofs.YthhfcedhbfandaaGreat
namespace Go.Proofs.YthhfcedhbfandaaGreat
open Go.RowKit

theorem lMs (M : Nat → Int) : ∀ u ∈ lM M, simp1 u := fun u hu => by
  unfold lM at hu
  simp only [List.mem_cons, List.not_mem_nil, or_false] at hu
  rcases hu with h | h | h | h | h | h | h | h | h | h | h | h <;> exact Or.inl ⟨_, _, h⟩
abbrev BD := (Nat → Int) × Bool
abbrev RD := Stt × Nat
def zB : BD := (fun _ => 0, false)
def zRf : RD := (zSt, 0)
def cBd (p : BD) : List Value := [.int .i64 (p.1 0), .int .i64 (p.1 1), .int .i64 (p.1 2), .int .i64 (p.1 3), .int .i64 (p.1 4), .int .i64 (p.1 5), .int .i64 (p.1 6), .int .i64 (p.1 7), .int .i64 (p.1 8), .int .i64 (p.1 9), .int .i64 (p.1 10), .int .i64 (p.1 11), .bool p.2]
def cSd (p : RD) : List Value := [.int .i64 (p.1.wo 0), .int .i64 (p.1.wo 1), .int .i64 (p.1.wo 2), .int .i64 (p.1.wo 3), .int .i64 (p.1.wo 4), .int .i64 (p.1.wo 5), .int .i64 (p.1.wo 6), .int .i64 (p.1.wo 7), .int .i64 (p.1.wo 8), .int .i64 (p.1.wo 9), .int .i64 (p.1.wo 10), .int .i64 (p.1.wo 11), .bool p.1.sh, .int .i64 p.2]
theorem cBd_eq (p : BD) : cBd p = lM p.1 ++ [.bool p.2] := rfl
theorem cSd_eq (p : RD) : cSd p = lM p.1.wo ++ [.bool p.1.sh, .int .i64 p.2] := rfl
theorem cNd_eq (n : Nd) : cNd n = [.int .i64 n.id, .int .i64 n.par] ++ lM n.pl ++ [.bool n.hid] := rfl
theorem zvb (w : World) : (zeroValue 215).run Tryz.prog w = .ok (.agg (cBd zB).toArray) w := by kernel_rfl
theorem zvr (w : World) : (zeroValue 299).run Tryz.prog w = .ok (.agg (cSd zRf).toArray) w := by kernel_rfl
theorem zvn (w : World) : (zeroValue 205).run Tryz.prog w = .ok (.agg (cNd zNd).toArray) w := by kernel_rfl
theorem zvx (w : World) : (zeroValue 220).run Tryz.prog w = .ok (.agg #[]) w := by kernel_rfl
def bK : MK BD := mkA 197 215 (fun o => .agg (cBd (o.getD zB)).toArray) Tryz.underlying197 zvb (fun o => ⟨_, rfl, fun u hu => by
  rw [cBd_eq] at hu
  rcases List.mem_append.1 hu with h | h
  · exact lMs _ u h
  · exact Or.inr ⟨_, List.mem_singleton.1 h⟩⟩)
def sK : MK RD := mkA 198 299 (fun o => .agg (cSd (o.getD zRf)).toArray) Tryz.underlying198 zvr (fun o => ⟨_, rfl, fun u hu => by
  rw [cSd_eq] at hu
  rcases List.mem_append.1 hu with h | h
  · exact lMs _ u h
  · rcases List.mem_cons.1 h with h | h
    · exact Or.inr ⟨_, h⟩
    · exact Or.inl ⟨_, _, List.mem_singleton.1 h⟩⟩)
def nK : MK Nd := mkA 204 205 (fun o => .agg (cNd (o.getD zNd)).toArray) Tryz.underlying204 zvn (fun o => ⟨_, rfl, fun u hu => by
  rw [cNd_eq] at hu
  rcases List.mem_append.1 hu with h | h
  · rcases List.mem_append.1 h with h | h
    · rcases List.mem_cons.1 h with h | h
      · exact Or.inl ⟨_, _, h⟩
      · exact Or.inl ⟨_, _, List.mem_singleton.1 h⟩
    · exact lMs _ u h
  · exact Or.inr ⟨_, List.mem_singleton.1 h⟩⟩)
def xK : MK Unit := mkA 199 220 (fun _ => .agg #[]) Tryz.underlying199 zvx (fun _ => ⟨[], rfl, fun u hu => by cases hu⟩)
theorem MF.clear {α : Type} {k : MK α} {w : World} {mb : Nat} {m : Int → Option α} (h : MF k w mb m) :
    ∃ w', (∀ ty, (Builtin.clear_ #[k.t] ty #[.map (some mb)]).run Tryz.prog w = .ok (.tuple #[]) w') ∧ MF k w' mb (fun _ => none) ∧ w.grownBy w' (some mb) := by
  obtain ⟨D, ⟨es, clock, hb, F, hs, hD⟩, hk⟩ := h
  refine ⟨Go.ChangeMaps.setBlock w mb (.map #[] clock), fun ty => ?_, ⟨.map [], ⟨#[], clock, Go.ChangeMaps.heap_setBlock_same hb _, ⟨by simp, Go.MapKept.stamped_empty _, by simp⟩, by simp, rfl⟩, fun _ _ => ⟨rfl, rfl⟩, fun x h => by cases h⟩, ?_⟩
  · simp [Builtin.clear_, run_underlying k.ht, Go.MapKept.run_getObj_map hb, Go.MapKept.run_setObj_map _ hb, Result.andThen, Go.ChangeMaps.setBlock]
  · exact World.mapTurned.grown ⟨es, clock, #[], clock, hb, rfl⟩
theorem sortsB (m : Nat) : AnyZI.SortsIn Tryz.prog lay_sortedB_ren Fence.wide m :=
  ⟨fun blk off cap ss W hH hblk hsz => callsIn_wide.2 (AnyM.slices_Sort_int lay_sortB blk off cap ss W hH hblk hsz),
   fun p cap W => callsIn_wide.2 (AnyM.slices_Sort_int_none lay_sortB p cap W)⟩
theorem keysX9 (mb : Option Nat) (w : World) : Calls Tryz.prog 130 #[.map mb] w fun e w' => e = .returned (.func (.func 199) #[] #[.pointer (some ⟨w.heap.size, 0, none⟩)]) ∧ w' = w.alloc (.cells #[.map mb] 199) :=
  (callsIn_wide (n := 5)).1 (AnyZI.keys_in lay_keysX Fence.wide 5 trivial rfl mb w)
set_option maxHeartbeats 1000000 in
theorem sortedX9 {α : Type} {k : MK α} {w : World} {mb : Nat} {m : Int → Option α} (h : MF k w mb m) (K : List Int) (hK : K.Pairwise (· < ·)) (hm : ∀ z, z ∈ K ↔ Rg z ∧ (m z).isSome = true) : Calls Tryz.prog 123 #[.func (.func 199) #[] #[.pointer (some ⟨w.heap.size, 0, none⟩)]] (w.alloc (.cells #[.map (some mb)] 199)) fun e w' => ∃ v, e = .returned v ∧ OwnD w' w.heap.size v K.length K ∧ Below w.heap.size w w' := by
  obtain ⟨D, hown, hk, hr⟩ := h
  have hbl := hown.lt
  have hsz := hown.size_le
  have hpk : K.Perm (intKeys D) := CollectedI.perm (left := fun _ => false) ⟨up_nod hK, fun x => by
    rw [hm]
    exact ⟨fun q => ⟨by rw [(hk x q.1).2]; exact q.2, rfl⟩, fun q => ⟨hr x q.1, by rw [← (hk x (hr x q.1)).2]; exact q.1⟩⟩⟩ hown id_law Tryz.underlying81 (fun _ => rfl)
  have hseq : SeqGives Fence.wide 2 Tryz.prog 199 #[.pointer (some ⟨w.heap.size, 0, none⟩)] encZ (fun ss => ss.Perm (intKeys D)) (Maps.size D) (w.alloc (.cells #[.map (some mb)] 199)) :=
    AnyZI.keys_gives (ρ := lay_keysX_ren) { lay_keysX with } Fence.wide _ trivial rfl (by omega) w.heap.size mb 100000 D _ (by simp) (by simp) (by
      obtain ⟨es, clock, hb, Ft, hs, hD⟩ := hown
      exact ⟨es, clock, (Below.heap_alloc _ _ mb hbl).trans hb, Ft, hs, hD⟩)
  have cS := AnyZI.sorted_in lay_sortedB Fence.wide 5 trivial trivial trivial trivial rfl (by omega) (sortsB _) (Go.Proofs.enters_of Tryz.func74 (by kernel_rfl) rfl) 199 #[.pointer (some ⟨w.heap.size, 0, none⟩)] trivial (Go.Proofs.enters_of Tryz.func199 (by kernel_rfl) rfl) _ (Maps.size D) (by unfold maxLen; omega) (by omega) _ hseq
  refine ((callsIn_wide (n := 5)).1 cS).mono ?_
  rintro e w' ⟨v, ss, rfl, hS, hrow, _, hb⟩
  have hp : ss.Perm K := hS.trans hpk.symm
  have e1 := srt_up hp hK
  have e2 := hp.length_eq
  rw [e1, e2] at hrow
  exact ⟨v, rfl, ownsRow_base_a hrow (by simp), ((Below.refl _ w).alloc (Nat.le_refl _) _).trans (hb.mono (by simp))⟩
theorem keysY9 (mb : Option Nat) (w : World) : Calls Tryz.prog 201 #[.map mb] w fun e w' => e = .returned (.func (.func 255) #[] #[.pointer (some ⟨w.heap.size, 0, none⟩)]) ∧ w' = w.alloc (.cells #[.map mb] 197) :=
  (callsIn_wide (n := 5)).1 (AnyZI.keys_in lay_keysY Fence.wide 5 trivial rfl mb w)
set_option maxHeartbeats 1000000 in
theorem sortedY9 {α : Type} {k : MK α} {w : World} {mb : Nat} {m : Int → Option α} (h : MF k w mb m) (K : List Int) (hK : K.Pairwise (· < ·)) (hm : ∀ z, z ∈ K ↔ Rg z ∧ (m z).isSome = true) : Calls Tryz.prog 123 #[.func (.func 255) #[] #[.pointer (some ⟨w.heap.size, 0, none⟩)]] (w.alloc (.cells #[.map (some mb)] 197)) fun e w' => ∃ v, e = .returned v ∧ OwnD w' w.heap.size v K.length K ∧ Below w.heap.size w w' := by
  obtain ⟨D, hown, hk, hr⟩ := h
  have hbl := hown.lt
  have hsz := hown.size_le
  have hpk : K.Perm (intKeys D) := CollectedI.perm (left := fun _ => false) ⟨up_nod hK, fun x => by
    rw [hm]
    exact ⟨fun q => ⟨by rw [(hk x q.1).2]; exact q.2, rfl⟩, fun q => ⟨hr x q.1, by rw [← (hk x (hr x q.1)).2]; exact q.1⟩⟩⟩ hown id_law Tryz.underlying81 (fun _ => rfl)
  have hseq : SeqGives Fence.wide 2 Tryz.prog 255 #[.pointer (some ⟨w.heap.size, 0, none⟩)] encZ (fun ss => ss.Perm (intKeys D)) (Maps.size D) (w.alloc (.cells #[.map (some mb)] 197)) :=
    AnyZI.keys_gives (ρ := lay_keysY_ren) { lay_keysY with } Fence.wide _ trivial rfl (by omega) w.heap.size mb 100000 D _ (by simp) (by simp) (by
      obtain ⟨es, clock, hb, Ft, hs, hD⟩ := hown
      exact ⟨es, clock, (Below.heap_alloc _ _ mb hbl).trans hb, Ft, hs, hD⟩)
  have cS := AnyZI.sorted_in lay_sortedB Fence.wide 5 trivial trivial trivial trivial rfl (by omega) (sortsB _) (Go.Proofs.enters_of Tryz.func74 (by kernel_rfl) rfl) 255 #[.pointer (some ⟨w.heap.size, 0, none⟩)] trivial (Go.Proofs.enters_of Tryz.func255 (by kernel_rfl) rfl) _ (Maps.size D) (by unfold maxLen; omega) (by omega) _ hseq
  refine ((callsIn_wide (n := 5)).1 cS).mono ?_
  rintro e w' ⟨v, ss, rfl, hS, hrow, _, hb⟩
  have hp : ss.Perm K := hS.trans hpk.symm
  have e1 := srt_up hp hK
  have e2 := hp.length_eq
  rw [e1, e2] at hrow
  exact ⟨v, rfl, ownsRow_base_a hrow (by simp), ((Below.refl _ w).alloc (Nat.le_refl _) _).trans (hb.mono (by simp))⟩
theorem keysN9 (mb : Option Nat) (w : World) : Calls Tryz.prog 124 #[.map mb] w fun e w' => e = .returned (.func (.func 190) #[] #[.pointer (some ⟨w.heap.size, 0, none⟩)]) ∧ w' = w.alloc (.cells #[.map mb] 204) :=
  (callsIn_wide (n := 5)).1 (AnyZI.keys_in lay_keysN Fence.wide 5 trivial rfl mb w)
set_option maxHeartbeats 1000000 in
theorem sortedN9 {α : Type} {k : MK α} {w : World} {mb : Nat} {m : Int → Option α} (h : MF k w mb m) (K : List Int) (hK : K.Pairwise (· < ·)) (hm : ∀ z, z ∈ K ↔ Rg z ∧ (m z).isSome = true) : Calls Tryz.prog 123 #[.func (.func 190) #[] #[.pointer (some ⟨w.heap.size, 0, none⟩)]] (w.alloc (.cells #[.map (some mb)] 204)) fun e w' => ∃ v, e = .returned v ∧ OwnD w' w.heap.size v K.length K ∧ Below w.heap.size w w' := by
  obtain ⟨D, hown, hk, hr⟩ := h
  have hbl := hown.lt
  have hsz := hown.size_le
  have hpk : K.Perm (intKeys D) := CollectedI.perm (left := fun _ => false) ⟨up_nod hK, fun x => by
    rw [hm]
    exact ⟨fun q => ⟨by rw [(hk x q.1).2]; exact q.2, rfl⟩, fun q => ⟨hr x q.1, by rw [← (hk x (hr x q.1)).2]; exact q.1⟩⟩⟩ hown id_law Tryz.underlying81 (fun _ => rfl)
  have hseq : SeqGives Fence.wide 2 Tryz.prog 190 #[.pointer (some ⟨w.heap.size, 0, none⟩)] encZ (fun ss => ss.Perm (intKeys D)) (Maps.size D) (w.alloc (.cells #[.map (some mb)] 204)) :=
    AnyZI.keys_gives (ρ := lay_keysN_ren) { lay_keysN with } Fence.wide _ trivial rfl (by omega) w.heap.size mb 100000 D _ (by simp) (by simp) (by
      obtain ⟨es, clock, hb, Ft, hs, hD⟩ := hown
      exact ⟨es, clock, (Below.heap_alloc _ _ mb hbl).trans hb, Ft, hs, hD⟩)
  have cS := AnyZI.sorted_in lay_sortedB Fence.wide 5 trivial trivial trivial trivial rfl (by omega) (sortsB _) (Go.Proofs.enters_of Tryz.func74 (by kernel_rfl) rfl) 190 #[.pointer (some ⟨w.heap.size, 0, none⟩)] trivial (Go.Proofs.enters_of Tryz.func190 (by kernel_rfl) rfl) _ (Maps.size D) (by unfold maxLen; omega) (by omega) _ hseq
  refine ((callsIn_wide (n := 5)).1 cS).mono ?_
  rintro e w' ⟨v, ss, rfl, hS, hrow, _, hb⟩
  have hp : ss.Perm K := hS.trans hpk.symm
  have e1 := srt_up hp hK
  have e2 := hp.length_eq
  rw [e1, e2] at hrow
  exact ⟨v, rfl, ownsRow_base_a hrow (by simp), ((Below.refl _ w).alloc (Nat.le_refl _) _).trans (hb.mono (by simp))⟩
structure Wp where
  g : Nat
  gf : Nat
  gn : Nat
  gs : Nat
  gm : Nat
  Ff : Nat → Prop
  T : FT
  N : Int → Option BD
  S : Int → Option RD
  M : Int → Option Unit
  st : Nat
structure LW (w : World) (p : Wp) : Prop where
  blk : Blk w p.g 201 #[.pointer (some ⟨p.gf, 0, none⟩), .map (some p.gn), .map (some p.gs), .map (some p.gm), .int .i64 p.st]
  fo : LFB w p.gf p.Ff p.T
  nod : MF bK w p.gn p.N
  sts : MF sK w p.gs p.S
  mrk : MF xK w p.gm p.M
  d1 : p.g ≠ p.gn
  d2 : p.g ≠ p.gs
  d3 : p.g ≠ p.gm
  d4 : p.gn ≠ p.gs
  d5 : p.gn ≠ p.gm
  d6 : p.gs ≠ p.gm
  f1 : ¬ p.Ff p.g
  f2 : ¬ p.Ff p.gn
  f3 : ¬ p.Ff p.gs
  f4 : ¬ p.Ff p.gm
def footL (p : Wp) (b : Nat) : Prop := b = p.g ∨ b = p.gn ∨ b = p.gs ∨ b = p.gm ∨ p.Ff b
def ChL (w w' : World) (p q : Wp) : Prop := LW w' q ∧ Fr w w' (footL p) ∧ ∀ b, footL q b → footL p b ∨ w.heap.size ≤ b
section
variable {w w' w1 w2 : World} {p q r : Wp}
theorem LW.inb (h : LW w p) : ∀ b, footL p b → b < w.heap.size := by
  rintro b (rfl | rfl | rfl | rfl | e)
  · exact h.blk.lt
  · exact h.nod.lt
  · exact h.sts.lt
  · exact h.mrk.lt
  · exact h.fo.inb b e
theorem LW.same (h : LW w p) (he : ∀ b, footL p b → w'.heap[b]? = w.heap[b]?) : LW w' p :=
  ⟨h.blk.same (he _ (Or.inl rfl)), h.fo.keep_ (fun b hb => he b (Or.inr (Or.inr (Or.inr (Or.inr hb))))), h.nod.same (he _ (Or.inr (Or.inl rfl))), h.sts.same (he _ (Or.inr (Or.inr (Or.inl rfl)))), h.mrk.same (he _ (Or.inr (Or.inr (Or.inr (Or.inl rfl))))), h.d1, h.d2, h.d3, h.d4, h.d5, h.d6, h.f1, h.f2, h.f3, h.f4⟩
theorem LW.keep (h : LW w p) (hb : Below w.heap.size w w') : LW w' p := h.same (fun b hf => hb.block b (h.inb b hf))
theorem ChL.still (h : LW w p) (hb : Below w.heap.size w w') : ChL w w' p p := ⟨h.keep hb, ⟨hb.os, hb.tape, hb.output, hb.size, fun b hl _ => hb.block b hl⟩, fun _ k => Or.inl k⟩
theorem ChL.behind (h : ChL w w1 p q) (hb : Below w1.heap.size w1 w2) : ChL w w2 p q := ⟨h.1.keep hb, Fr.behind h.2.1 hb, h.2.2⟩
theorem ChL.join (h : ChL w w1 p q) (k : ChL w1 w2 q r) : ChL w w2 p r := by
  obtain ⟨h1, h2, h3⟩ := h
  obtain ⟨k1, k2, k3⟩ := k
  refine ⟨k1, Fr.two h2 k2 h3, fun b hb => ?_⟩
  rcases k3 b hb with d | d
  · exact h3 b d
  · exact Or.inr (Nat.le_trans h2.2.2.2.1 d)
theorem LW.rest (h : LW w p) {o : Nat} (hg : w.grownBy w' (some o)) {b : Nat} (hb : footL p b) (hne : b ≠ o) : w'.heap[b]? = w.heap[b]? := hg.block b (h.inb b hb) (fun e => hne (by injection e))
theorem LW.setN (h : LW w p) {N' : Int → Option BD} (hm : MF bK w' p.gn N') (hg : w.grownBy w' (some p.gn)) : ChL w w' p { p with N := N' } := by
  refine ⟨⟨h.blk.same (h.rest hg (Or.inl rfl) h.d1), h.fo.keep_ (fun b hb => h.rest hg (Or.inr (Or.inr (Or.inr (Or.inr hb)))) (fun e => h.f2 (e ▸ hb))), hm, h.sts.same (h.rest hg (Or.inr (Or.inr (Or.inl rfl))) (fun e => h.d4 e.symm)), h.mrk.same (h.rest hg (Or.inr (Or.inr (Or.inr (Or.inl rfl)))) (fun e => h.d5 e.symm)), h.d1, h.d2, h.d3, h.d4, h.d5, h.d6, h.f1, h.f2, h.f3, h.f4⟩, ⟨hg.os, hg.tape, hg.output, hg.size, fun b hl hn => hg.block b hl (fun e => hn (by injection e with e; exact Or.inr (Or.inl e)))⟩, fun b hb => Or.inl hb⟩
theorem LW.setS (h : LW w p) {S' : Int → Option RD} (hm : MF sK w' p.gs S') (hg : w.grownBy w' (some p.gs)) : ChL w w' p { p with S := S' } := by
  refine ⟨⟨h.blk.same (h.rest hg (Or.inl rfl) h.d2), h.fo.keep_ (fun b hb => h.rest hg (Or.inr (Or.inr (Or.inr (Or.inr hb)))) (fun e => h.f3 (e ▸ hb))), h.nod.same (h.rest hg (Or.inr (Or.inl rfl)) h.d4), hm, h.mrk.same (h.rest hg (Or.inr (Or.inr (Or.inr (Or.inl rfl)))) (fun e => h.d6 e.symm)), h.d1, h.d2, h.d3, h.d4, h.d5, h.d6, h.f1, h.f2, h.f3, h.f4⟩, ⟨hg.os, hg.tape, hg.output, hg.size, fun b hl hn => hg.block b hl (fun e => hn (by injection e with e; exact Or.inr (Or.inr (Or.inl e))))⟩, fun b hb => Or.inl hb⟩
theorem LW.setM (h : LW w p) {M' : Int → Option Unit} (hm : MF xK w' p.gm M') (hg : w.grownBy w' (some p.gm)) : ChL w w' p { p with M := M' } := by
  refine ⟨⟨h.blk.same (h.rest hg (Or.inl rfl) h.d3), h.fo.keep_ (fun b hb => h.rest hg (Or.inr (Or.inr (Or.inr (Or.inr hb)))) (fun e => h.f4 (e ▸ hb))), h.nod.same (h.rest hg (Or.inr (Or.inl rfl)) h.d5), h.sts.same (h.rest hg (Or.inr (Or.inr (Or.inl rfl))) h.d6), hm, h.d1, h.d2, h.d3, h.d4, h.d5, h.d6, h.f1, h.f2, h.f3, h.f4⟩, ⟨hg.os, hg.tape, hg.output, hg.size, fun b hl hn => hg.block b hl (fun e => hn (by injection e with e; exact Or.inr (Or.inr (Or.inr (Or.inl e)))))⟩, fun b hb => Or.inl hb⟩
theorem LW.setF (h : LW w p) {T' : FT} (hc : ChF LFB w w' p.gf p.Ff T') : ∃ Ff', ChL w w' p { p with Ff := Ff', T := T' } := by
  obtain ⟨F', k1, k2, k3⟩ := hc
  have hin := h.inb
  have hs : ∀ b, b = p.g ∨ b = p.gn ∨ b = p.gs ∨ b = p.gm → w'.heap[b]? = w.heap[b]? ∧ ¬ F' b := fun b hb => by
    have hn : ¬ p.Ff b := by
      rcases hb with rfl | rfl | rfl | rfl
      · exact h.f1
      · exact h.f2
      · exact h.f3
      · exact h.f4
    have hl : b < w.heap.size := hin b (by
      rcases hb with e | e | e | e
      · exact Or.inl e
      · exact Or.inr (Or.inl e)
      · exact Or.inr (Or.inr (Or.inl e))
      · exact Or.inr (Or.inr (Or.inr (Or.inl e))))
    refine ⟨k2.2.2.2.2 b hl hn, fun c => ?_⟩
    rcases k3 b c with d | d
    · exact hn d
    · omega
  refine ⟨F', ⟨h.blk.same (hs _ (Or.inl rfl)).1, k1, h.nod.same (hs _ (Or.inr (Or.inl rfl))).1, h.sts.same (hs _ (Or.inr (Or.inr (Or.inl rfl)))).1, h.mrk.same (hs _ (Or.inr (Or.inr (Or.inr rfl)))).1, h.d1, h.d2, h.d3, h.d4, h.d5, h.d6, (hs _ (Or.inl rfl)).2, (hs _ (Or.inr (Or.inl rfl))).2, (hs _ (Or.inr (Or.inr (Or.inl rfl)))).2, (hs _ (Or.inr (Or.inr (Or.inr rfl)))).2⟩, Fr.of k2 (fun b hb => Or.inr (Or.inr (Or.inr (Or.inr hb)))), ?_⟩
  rintro b (e | e | e | e | e)
  · exact Or.inl (Or.inl e)
  · exact Or.inl (Or.inr (Or.inl e))
  · exact Or.inl (Or.inr (Or.inr (Or.inl e)))
  · exact Or.inl (Or.inr (Or.inr (Or.inr (Or.inl e))))
  · exact (k3 b e).imp_left (fun c => Or.inr (Or.inr (Or.inr (Or.inr c))))
theorem LW.setT (h : LW w p) (s : Nat) {z : Int} (hz : z = (s : Int)) : ChL w (w.setCell ⟨p.g, 4, none⟩ (.int .i64 z)) p { p with st := s } := by
  subst hz
  exact ⟨⟨h.blk.set_ 4 _, h.fo.keep_ (fun b hb => set_at (fun e => h.f1 (e ▸ hb))), h.nod.same (set_at (fun e => h.d1 e.symm)), h.sts.same (set_at (fun e => h.d2 e.symm)), h.mrk.same (set_at (fun e => h.d3 e.symm)), h.d1, h.d2, h.d3, h.d4, h.d5, h.d6, h.f1, h.f2, h.f3, h.f4⟩, ⟨rfl, rfl, rfl, by simp [World.setCell], fun b _ hn => set_at (fun e => hn (Or.inl e))⟩, fun b hb => Or.inl hb⟩
theorem LW.cells (h : LW w p) : w.cell? ⟨p.g, 0, none⟩ = some (.pointer (some ⟨p.gf, 0, none⟩)) ∧ w.cell? ⟨p.g, 1, none⟩ = some (.map (some p.gn)) ∧ w.cell? ⟨p.g, 2, none⟩ = some (.map (some p.gs)) ∧ w.cell? ⟨p.g, 3, none⟩ = some (.map (some p.gm)) ∧ w.cell? ⟨p.g, 4, none⟩ = some (.int .i64 p.st) ∧ p.g < w.heap.size :=
  ⟨h.blk.cell 0, h.blk.cell 1, h.blk.cell 2, h.blk.cell 3, h.blk.cell 4, h.blk.lt⟩
end
end Go.Proofs.YthhfcedhbfandaaGreat
