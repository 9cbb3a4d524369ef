/-
  All changes are told: the law's walk, for any package that answers as the bundle says.
-/
import Derived.Test.YtcpgkkphibhdfaaGreatStoE
import Derived.Test.YtcpgkkphibhdfaaGreatMTpj
import Derived.Deep.QuietTactic
import Derived.Maps.AppendAt
namespace Go.Proofs.YtcpgkkphibhdfaaGreat
open Go.RowKit

theorem Told.congr {N : St → Prop} {I J : Int → PT → Prop} {since : Int} {S : St} (h : Told N I since S) (e : ∀ x P, I x P ↔ J x P) : Told N J since S :=
  ⟨h.ws, h.now, fun x P hx => (h.chg x P hx).imp_left (e x P).1, fun x P hx => h.gon x P ((e x P).2 hx)⟩
/-- who is there, with what -/
def nowX (S : St) : TR := (alS S).map fun x => (x, getP S x)
theorem nowX_len (S : St) : (nowX S).length = (alS S).length := by unfold nowX; rw [List.length_map]
theorem nowX_fst (S : St) : (nowX S).map Prod.fst = alS S := by unfold nowX; rw [List.map_map]; exact List.map_id _
theorem nowX_mem {S : St} (h : WS S) {x : Int} {P : PT} : inS S x P ↔ (x, P) ∈ nowX S := by
  unfold nowX
  rw [List.mem_map]
  constructor
  · intro hi
    refine ⟨x, (mem_all h).2 ((h.live x).2 ⟨P, hi⟩), ?_⟩
    rw [h.get hi]
  · rintro ⟨y, hy, e⟩
    injection e with e1 e2
    subst e1
    obtain ⟨Q, hQ⟩ := (h.live y).1 ((mem_all h).1 hy)
    rw [← e2, h.get hQ]
    exact hQ
theorem al_len (S : St) : (alS S).length ≤ 256 := all_len _ _ _
theorem told_next {S : St} (h : WS S) : Told (fun _ => True) (fun x P => (x, P) ∈ nowX (neS S)) S.now (neS S) := (Told.start h).congr (fun _ _ => nowX_mem (S := neS S) ⟨h.nod, h.apart, h.fit, h.live, h.ok⟩)
def cP (x : Int × PT) : List Value := pl x.2
theorem inf_parts : (Tryz.prog.info? 44).map (fun i => (i.zero, i.size, i.bytes)) = some (some (.agg Z24.toArray), 24, 192) := by kernel_rfl
theorem bs_parts (P : PT) (W : World) : (Instr.buildSlice 63 1 #[(0, .agg (pl P).toArray)]).run Tryz.prog W = .ok (.slice (some ⟨W.heap.size, 0, none⟩) 1 1) (W.alloc (.cells (pl P).toArray 44)) := by kernel_rfl
theorem wpList_bs8 {ops : Array Oper} {rest : List Oper} {op : Oper} {a : Go.Act} {w : World} {Q : Exit → Go.Act → World → Prop} (hgd : op.guard = none) (t e : TypeId) (x : Operand) (ho : op.op = .buildSlice t 1 #[(0, x)]) (X : List Value) (hx : a.eval x = .agg X.toArray)
    (hrun : ∀ W, (Instr.buildSlice t 1 #[(0, .agg X.toArray)]).run Tryz.prog W = .ok (.slice (some ⟨W.heap.size, 0, none⟩) 1 1) (W.alloc (.cells X.toArray e)))
    (h : wpList Tryz.prog ops Q rest (a.put op.dst (.slice (some ⟨w.heap.size, 0, none⟩) 1 1)) (w.alloc (.cells X.toArray e))) : wpList Tryz.prog ops Q (op :: rest) a w :=
  wpList_plain hgd fun K hK => by
    have h2 := hK _ _ h
    unfold Oper.wp execOp
    simp only [ho]
    simp [hx, hrun]
    exact h2
theorem col_frame {w w' : World} {t : TypeId} {k : Nat} {c : Int × PT → List Value} {v : Value} {X : TR} {F : Nat → Prop} (h : ColX w t k c v X) (hF : ∀ b, v.ownBlock = some b → ¬ F b) (hf : Fr w w' F) : ColX w' t k c v X :=
  h.same (fun b hb => hf.2.2.2.2 b (World.ownsRow.lt h b hb).2 (hF b hb))
theorem col_keep {w w' : World} {t : TypeId} {k : Nat} {c : Int × PT → List Value} {v : Value} {X : TR} (h : ColX w t k c v X) (hb : Below w.heap.size w w') : ColX w' t k c v X :=
  h.same (fun b e => hb.block b (World.ownsRow.lt h b e).2)
section
variable (SB : World → Nat → (Nat → Prop) → St → Prop)
/-- what holds ahead of each act -/
structure R1 (w : World) (g m : Nat) (v8 v9 : Value) (since : Int) (wr : World) (F : Nat → Prop) (S : St) (X : TR) : Prop where
  ids : ∃ ia icap, v8 = .slice ia X.length icap ∧ Row wr ia X.length (X.map Prod.fst) ∧ Aw F ia X.length
  was : ColX wr 44 24 cP v9 X
  own : ∀ b, v9.ownBlock = some b → ¬ F b
  sb : SB wr g F S
  told : Told (fun _ => True) (fun x P => (x, P) ∈ X) since S
  bd : Bd S m
  bel : Below w.heap.size w wr
  foot : ∀ b, F b → w.heap.size ≤ b
  len : X.length ≤ 256
  s0 : 0 ≤ since
  s1 : since ≤ 1000
end
section
variable {SB : World → Nat → (Nat → Prop) → St → Prop}
/-- an act more -/
theorem R1.act {w wr w' : World} {g m m' : Nat} {v8 v9 : Value} {since : Int} {F : Nat → Prop} {S : St} {X : TR} {x : A8} (h : R1 SB w g m v8 v9 since wr F S X) (hch : Chg SB wr w' g F (doS S x)) (hm : m + 2 ≤ m') : ∃ F', R1 SB w g m' v8 v9 since w' F' (doS S x) X := by
  obtain ⟨F', h1, h2, h3⟩ := hch
  obtain ⟨ia, icap, e, hr, ha⟩ := h.ids
  exact ⟨F', ⟨ia, icap, e, row_frame hr ha h2, aw_new ha hr (Nat.le_refl _) h3⟩, col_frame h.was h.own h2, fun b hb hf => (h3 b hf).elim (fun c => h.own b hb c) (fun c => by have := (World.ownsRow.lt h.was b hb).2; omega), h1, h.told.does x, (bd_do h.bd x).mono hm, Fr.below h2 h.bel h.foot h.bel.size, fun b hf => (h3 b hf).elim (fun c => h.foot b c) (fun c => Nat.le_trans h.bel.size c), h.len, h.s0, h.s1⟩
theorem R1.start {w wr : World} {g r : Nat} {F : Nat → Prop} (hr : r ≤ 256) (sb : SB wr g F (St0 r)) (hF : ∀ b, F b → w.heap.size ≤ b) (hb : Below w.heap.size w wr) : R1 SB w g 0 (.slice none 0 0) (.slice none 0 0) 0 wr F (St0 r) [] :=
  ⟨⟨none, 0, rfl, ⟨rfl, by show (0 : Nat) ≤ _; omega, Or.inl rfl⟩, Or.inl rfl⟩, ColX.nil _ _ _ _, fun b hb => (by cases hb), sb, (Told.first hr).congr (fun x P => ⟨fun h => h.elim, fun h => (by cases h)⟩), bd_zero hr, hb, hF, by show (0 : Nat) ≤ 256; omega, by omega, by omega⟩

/-! the last questions -/
def anyX (X : TR) (x : Int) (P : PT) : Bool := X.any fun r => (r.1 == x) && eqT r.2 P
theorem any_take {X : TR} {x : Int} {P : PT} {q : Nat} {r : Int × PT} (h : X[q]? = some r) : anyX (X.take (q + 1)) x P = (anyX (X.take q) x P || ((r.1 == x) && eqT r.2 P)) := by
  unfold anyX
  rw [List.take_add_one, List.any_append, h]
  simp
theorem told_or {N : St → Prop} {X : TR} {since : Int} {S : St} (h : Told N (fun x P => (x, P) ∈ X) since S) {x : Int} (hx : x ∈ alS S) : anyX X x (getP S x) = true ∨ x ∈ chL S since := by
  have hl := (mem_all h.ws).1 hx
  obtain ⟨P, hP⟩ := (h.ws.live x).1 hl
  rcases h.chg x P hP with c | c
  · left
    unfold anyX
    rw [List.any_eq_true]
    exact ⟨_, c, by rw [h.ws.get hP]; simp [eqT_self]⟩
  · right
    exact mem_ch.2 ⟨hl, c⟩
theorem gone_or {N : St → Prop} {X : TR} {since : Int} {S : St} (h : Told N (fun x P => (x, P) ∈ X) since S) {r : Int × PT} (hr : r ∈ X) : r.1 ∈ alS S ∨ r.1 ∈ goL S since := by
  rcases h.gon r.1 r.2 hr with ⟨Q, hQ⟩ | c
  · left
    exact (mem_all h.ws).2 ((h.ws.live _).2 ⟨Q, hQ⟩)
  · right
    exact mem_go.2 c
theorem fst_at {X : TR} {q : Nat} {y : Int} (h : (X.map Prod.fst)[q]? = some y) : ∃ r, X[q]? = some r ∧ r.1 = y := by
  rw [List.getElem?_map] at h
  cases c : X[q]? with
  | none => rw [c] at h; cases h
  | some r => rw [c] at h; exact ⟨r, rfl, by simpa using h⟩

set_option maxHeartbeats 16000000 in
set_option maxRecDepth 100000 in
theorem told_yes (hC : SC SB) (a : Option Addr) (len cap : Nat) (xs : List A8) (at_ : Int) (w : World) (row : ARow8 w a len xs) (h0 : 0 ≤ at_) (h255 : at_ ≤ 255) :
    Calls Tryz.prog 4 #[.slice a len cap, .int .u8 at_] w fun e w' => e = .returned (.bool true) ∧ Below w.heap.size w w' := by
  have hbig := row.2.1
  have HL := Lib.hid row.1
  have HRow := Lib.hid row
  have HCC := Lib.hid hC
  clear row
  go_enter Tryz.func4, Tryz.ntmps4
  go_wp2_with fail
  refine (fits8_any a len cap xs w HRow.out).mono ?_
  rintro e w1 ⟨ok, rfl, hok, rfl⟩
  have HOk := Lib.hid hok
  clear hok
  go_wp2_with fail
  refine (HCC.out.new w 20 (by omega)).mono ?_
  rintro e w1 ⟨g, F, rfl, sb, hF, b1⟩
  have HB := Lib.hid b1
  have HR0 := Lib.hid (R1.start (SB := SB) (w := w) (by omega) sb hF b1)
  clear sb hF b1
  cases ok with
  | false =>
    go_wp2_with fail
    refine (alive8_any HCC.out _).mono ?_
    rintro e w2 ⟨rfl, b2⟩
    replace HB := Lib.hid (bthen HB.out b2)
    clear b2
    go_wp2
    go_ret
    exact ⟨rfl, HB.out⟩
  | true =>
    obtain ⟨h80, hn80⟩ := HOk.out rfl
    have HN80 := Lib.hid hn80
    clear hn80 HOk
    go_wp2
    go_loopw [8, 9, 10, 11, 12, 13, 14] (fun v8 v9 v10 v11 _ _ _ wr => ∃ (j : Nat) (since : Int) (F : Nat → Prop) (S : St) (X : TR), j ≤ len ∧ v11 = .int .i64 j ∧ v10 = .int .i64 since ∧ R1 SB w g (3 * j) v8 v9 since wr F S X) (fun _ _ _ v11 _ _ _ _ => len - (intOf v11).toNat)
    case atStart => exact ⟨0, 0, F, St0 20, [], by omega, rfl, rfl, HR0.out⟩
    case round =>
      clear HR0 HB
      obtain ⟨j, since, F, S, X, hj, rfl, rfl, hr1⟩ := hrel
      have HR1 := Lib.hid hr1
      clear hr1
      by_cases hlt : j < len
      · have j0 : (0 : Int) ≤ (j : Int) := by omega
        have j1 : (j : Int) < (len : Int) := by omega
        by_cases hat : (j : Int) = at_
        · subst hat
          have HTk : Hid (Calls Tryz.prog 17 #[.pointer (some ⟨g, 0, none⟩)] wr fun e w' => e = .returned (.int .i64 S.now) ∧ Below wr.heap.size wr w') := Lib.hid (HCC.out.tick wr g F S HR1.out.told.ws (HR1.out.bd.mono (by omega)) HR1.out.sb)
          obtain ⟨nw, hnw⟩ : ∃ nw, nw = S.now := ⟨_, rfl⟩
          have HNw := Lib.hid hnw
          rw [← hnw] at HTk
          clear hnw
          go_wp2_with fail
          refine HTk.out.mono ?_
          rintro e w2 ⟨rfl, b2⟩
          have HB2 := Lib.hid b2
          have HS2 := Lib.hid (HCC.out.keep HR1.out.sb b2)
          clear b2 HTk
          go_wp2_with fail
          refine (HCC.out.next w2 g F S HR1.out.told.ws (HR1.out.bd.mono (by omega)) HS2.out).mono ?_
          rintro e w3 ⟨rfl, ch⟩
          obtain ⟨F3, sb3, bel3, foot3, hs3⟩ := ch.step (bthen HR1.out.bel HB2.out) HR1.out.foot (Nat.le_trans HR1.out.bel.size HB2.out.size)
          have HW3 : Hid (WS (neS S) ∧ Bd (neS S) (3 * j + 1)) := Lib.hid ⟨⟨HR1.out.told.ws.nod, HR1.out.told.ws.apart, HR1.out.told.ws.fit, HR1.out.told.ws.live, HR1.out.told.ws.ok⟩, bd_ne HR1.out.bd⟩
          have HS3 := Lib.hid sb3
          have HBel3 := Lib.hid bel3
          have HF3 := Lib.hid foot3
          clear ch sb3 bel3 foot3 hs3 HS2 HB2
          have HTd : Hid (Told (fun _ => True) (fun x P => (x, P) ∈ nowX (neS S)) nw (neS S)) := Lib.hid (by rw [HNw.out]; exact told_next HR1.out.told.ws)
          have hnw1 : 0 ≤ nw ∧ nw ≤ 1000 := by
            have h1 := HR1.out.bd.2.2.2.1
            have h2 := HR1.out.bd.2.2.2.2.1
            rw [← HNw.out] at h1 h2
            omega
          obtain ⟨S3, hS3⟩ : ∃ S3, S3 = neS S := ⟨_, rfl⟩
          rw [← hS3] at HW3 HS3 HTd
          clear hS3 HNw
          generalize S.now + 1 = nx
          go_wp2_with fail
          refine (HCC.out.all w3 g F3 S3 HW3.out.1 (HW3.out.2.mono (by omega)) HS3.out).mono ?_
          rintro e w4 ⟨v, rfl, lr, b4⟩
          obtain ⟨ia, icap, rfl, irow, iaw⟩ := lr.aw HCC.out HS3.out
          have HIr := Lib.hid irow
          have HIa := Lib.hid iaw
          have HS4 := Lib.hid (HCC.out.keep HS3.out b4)
          have HBel4 := Lib.hid (bthen HBel3.out b4)
          clear lr irow iaw b4 HS3 HBel3
          obtain ⟨n, hn⟩ : ∃ n, n = (alS S3).length := ⟨_, rfl⟩
          have hn256 : n ≤ 256 := by rw [hn]; exact al_len S3
          rw [← hn] at HIr HIa ⊢
          have HNn := Lib.hid hn
          clear hn
          go_wp2
          go_loopw [9, 12, 13, 14] (fun v9 v12 _ _ wq => ∃ q : Nat, q ≤ n ∧ v12 = .int .i64 q ∧ ColX wq 44 24 cP v9 ((nowX S3).take q) ∧ (∀ b, v9.ownBlock = some b → w4.heap.size ≤ b) ∧ SB wq g F3 S3 ∧ Below w4.heap.size w4 wq) (fun _ v12 _ _ _ => n - (intOf v12).toNat)
          case atStart => exact ⟨0, by omega, rfl, ColX.nil _ _ _ _, fun b hb => (by cases hb), HS4.out, Below.refl _ _⟩
          case round =>
            obtain ⟨q, hq, rfl, hcol, hown, hsb, hbq⟩ := hrel
            have HCol := Lib.hid hcol
            have HOwn := Lib.hid hown
            have HSq := Lib.hid hsb
            have HBq := Lib.hid hbq
            clear hcol hown hsb hbq
            by_cases hqn : q < n
            · have q0 : (0 : Int) ≤ (q : Int) := by omega
              have q1 : (q : Int) < (n : Int) := by omega
              obtain ⟨ib, ioff, y, rfl, hy, cy⟩ := row_at (row_keep HIr.out HBq.out) hqn
              have hib := World.block_lt_of_cell? _ _ cy
              have HYY := Lib.hid hy
              clear hy
              go_wp2_with fail
              refine (HCC.out.get _ g F3 S3 y HW3.out.1 (HW3.out.2.mono (by omega)) HSq.out).mono ?_
              rintro e w5 ⟨Y, rfl, hY, b5⟩
              have HY := Lib.hid hY
              have HPX : Hid (PXs Y) := Lib.hid (by rw [hY]; exact ⟨pl_len _, pl_size _, pl_size' _, pl_one _⟩)
              have HBs : Hid (∀ W, (Instr.buildSlice 63 1 #[(0, .agg Y.toArray)]).run Tryz.prog W = .ok (.slice (some ⟨W.heap.size, 0, none⟩) 1 1) (W.alloc (.cells Y.toArray 44))) := Lib.hid (by rw [hY]; exact bs_parts _)
              replace HCol := Lib.hid (col_keep HCol.out b5)
              replace HSq := Lib.hid (HCC.out.keep HSq.out b5)
              replace HBq := Lib.hid (bthen HBq.out b5)
              clear hY b5 cy
              have K13 := Lib.hid (Blk.new w5 44 Z24.toArray)
              have HT13 : Hid ((w5.alloc (.cells Z24.toArray 44)).there w5.heap.size 0 Y.toArray.size) := Lib.hid (blk_there K13.out (by rw [List.size_toArray, HPX.out.1]; exact Nat.le_refl 24))
              have HBl : Hid (Below w5.heap.size w5 ((w5.alloc (.cells Z24.toArray 44)).setCells w5.heap.size 0 Y)) := Lib.hid (below_setCells Y (alloc_below _ _) (Nat.le_refl _))
              have L13 : Hid (Blk ((w5.alloc (.cells Z24.toArray 44)).setCells w5.heap.size 0 Y) w5.heap.size 44 Y.toArray ∧ ColX ((w5.alloc (.cells Z24.toArray 44)).setCells w5.heap.size 0 Y) 44 24 cP u9 ((nowX S3).take q) ∧ SB ((w5.alloc (.cells Z24.toArray 44)).setCells w5.heap.size 0 Y) g F3 S3 ∧ Below w4.heap.size w4 ((w5.alloc (.cells Z24.toArray 44)).setCells w5.heap.size 0 Y)) := Lib.hid ⟨by
                have := blk_setCells Y (o := 0) K13.out (by rw [HPX.out.1]; exact Nat.le_refl 24)
                rwa [splice_all (by rw [HPX.out.1]; rfl)] at this, col_keep HCol.out HBl.out, HCC.out.keep HSq.out HBl.out, bthen HBq.out HBl.out⟩
              go_upto_region 22 with (refine wpList_store_mid rfl 44 (.tmp 13) (.tmp 71) rfl w5.heap.size 0 Y.toArray rfl rfl HT13.out HPX.out.2.2.1 HPX.out.2.2.2 ?_)
              refine fin (fun W => Blk W w5.heap.size 44 Y.toArray ∧ ColX W 44 24 cP u9 ((nowX S3).take q) ∧ SB W g F3 S3 ∧ Below w4.heap.size w4 W) L13.out ?_
              obtain ⟨g13, hg13⟩ : ∃ g13, g13 = w5.heap.size := ⟨_, rfl⟩
              rw [← hg13]
              clear L13 HT13 K13 HBl HCol HSq HBq hg13
              rintro W5 ⟨k13, hcol, hsb, hbq⟩
              have K13 := Lib.hid k13
              have HCol := Lib.hid hcol
              have HSq := Lib.hid hsb
              have HBq := Lib.hid hbq
              have hk13 := k13.lt
              clear k13 hcol hsb hbq
              obtain ⟨Xq, hXq⟩ : ∃ Xq, Xq = (nowX S3).take q := ⟨_, rfl⟩
              have HXq := Lib.hid hXq
              rw [← hXq] at HCol
              have hql : Xq.length ≤ 2000 := by rw [hXq, List.length_take]; omega
              clear hXq
              go_wp2_with (first | refine wpList_load_mid rfl 44 (.tmp 13) rfl g13 0 rfl Y _ (blk_whole K13.out) Tryz.underlying44 rfl HPX.out.2.1 ?_ | refine wpList_bs8 rfl 63 44 (.tmp 74) rfl Y rfl HBs.out ?_ | (at_builtin; refine wpList_appC rfl (.tmp 73) (.tmp 75) 63 44 24 192 (.agg Z24.toArray) cP rfl Tryz.underlying63 inf_parts rfl (by decide) (by decide) (fun _ => rfl) u9 Xq rfl (col_keep HCol.out (alloc_below _ _)) hql (y, getP S3 y) Y HY.out (one_all HPX.out.2.2.2) W5.heap.size (Blk.new _ _ _) rfl ?_))
              intro gu gcap w6 hc hgr hat6
              have HC6 : Hid (ColX w6 44 24 cP (.slice (some ⟨gu, 0, none⟩) (Xq.length + 1) gcap) ((nowX S3).take (q + 1)) ∧ w4.heap.size ≤ gu ∧ SB w6 g F3 S3 ∧ Below w4.heap.size w4 w6) := Lib.hid (by
                have hx1 : (nowX S3)[q]? = some (y, getP S3 y) := by unfold nowX; rw [List.getElem?_map, HYY.out]; rfl
                have hgu : w4.heap.size ≤ gu := hat6.elim (fun e => HOwn.out gu e) (fun e => by
                  have h1 := HBq.out.size
                  have e' : W5.heap.size + 1 ≤ gu := by simpa using e
                  omega)
                have hF4 : ∀ b, F3 b → b < w4.heap.size := fun b hf => HCC.out.inb _ g F3 S3 HS4.out b hf
                refine ⟨by rw [List.take_add_one, hx1, ← HXq.out]; exact hc, hgu, ?_, ?_⟩
                · refine HCC.out.keep_ _ _ g F3 S3 (HCC.out.keep HSq.out (alloc_below W5 (.cells Y.toArray 44))) (fun b hf => hgr.block b ?_ (fun e => ?_))
                  · have := HCC.out.inb _ g F3 S3 HSq.out b hf
                    rw [World.size_alloc]; omega
                  · have h1 := HOwn.out b e.symm
                    have h2 := hF4 b hf
                    omega
                · have h1 := balloc HBq.out (.cells Y.toArray 44)
                  refine ⟨hgr.os.trans h1.os, hgr.tape.trans h1.tape, hgr.output.trans h1.output, Nat.le_trans h1.size hgr.size, fun k hk => (hgr.block k (Nat.lt_of_lt_of_le hk h1.size) (fun e => ?_)).trans (h1.block k hk)⟩
                  have := HOwn.out k e.symm
                  omega)
              clear hc hgr hat6
              generalize Xq.length + 1 = nn at HC6 ⊢
              go_wp2
              go_roundw
              case rel => exact ⟨q + 1, by omega, by go_num, HC6.out.1, fun b hb => by
                have : gu = b := by simpa [Value.ownBlock] using hb
                rw [← this]; exact HC6.out.2.1, HC6.out.2.2.1, HC6.out.2.2.2⟩
              case measure => simp [intOf] <;> omega
            · obtain rfl : q = n := by omega
              have HR4 : Hid (R1 SB w g (3 * j + 1) (.slice ia q icap) u9 nw wr F3 S3 (nowX S3)) := Lib.hid (by
                have hb := bthen HBel4.out HBq.out
                have el : (nowX S3).length = q := by rw [nowX_len, HNn.out]
                have hc := HCol.out
                rw [List.take_of_length_le (by omega)] at hc
                refine ⟨⟨ia, icap, by rw [el], by rw [el, nowX_fst]; exact row_keep HIr.out HBq.out, by rw [el]; exact HIa.out⟩, hc, fun b e hf => ?_, HSq.out, HTd.out, HW3.out.2.mono (by omega), hb, HF3.out, by omega, hnw1.1, hnw1.2⟩
                have h1 := HOwn.out b e
                have h2 := HCC.out.inb _ g F3 S3 HS4.out b hf
                omega)
              clear HCol HOwn HSq HBq HS4 HBel4 HIr HIa HTd HW3 HF3 HR1
              obtain ⟨b, off, x, rfl, hx, hrx, hox⟩ := (HRow.out.keep HR4.out.bel).at_ hlt
              have HRx := Lib.hid hrx
              have HOx := Lib.hid hox
              have hxn : x.n ≤ 80 := HN80.out x (List.mem_of_getElem? hx)
              have HAw : Hid (Aw F3 x.a x.n) := Lib.hid (by
                obtain ⟨b', off', x', e', hx', -, hw'⟩ := HRow.out.at_ hlt
                rw [hx] at hx'
                injection hx' with hx'
                subst hx'
                rcases hw'.2.2.2.2.2.2 with c | ⟨bb, oo, e2, hc⟩
                · exact Or.inl c
                · by_cases c : x.n = 0
                  · exact Or.inl c
                  · refine Or.inr (fun ad e3 hf => ?_)
                    rw [e2] at e3
                    injection e3 with e3
                    have h1 := World.block_lt_of_cell? w _ (hc 0 (by omega))
                    have h2 := HR4.out.foot _ hf
                    rw [← e3] at h2
                    have h3 : bb < w.heap.size := h1
                    have h4 : w.heap.size ≤ bb := h2
                    omega)
              have HSz := Lib.hid (c8_size x)
              have HDo : Hid (Calls Tryz.prog 23 #[.pointer (some ⟨g, 0, none⟩), .agg (c8 x).toArray] wr fun e w' => e = .returned (.tuple #[]) ∧ Chg SB wr w' g F3 (doS S3 x)) := Lib.hid (does8_any HCC.out g F3 S3 x wr HR4.out.told.ws (HR4.out.bd.mono (by omega)) HR4.out.sb HOx.out HAw.out hxn)
              obtain ⟨Xc, hXc⟩ : ∃ Xc, Xc = c8 x := ⟨_, rfl⟩
              rw [← hXc] at HRx HSz HDo
              clear hrx hox hx hxn hXc HAw
              go_wp2_with (refine wpList_load_mid rfl 47 (.tmp 80) rfl b (off + j * 29) rfl Xc _ HRx.out Tryz.underlying47 rfl HSz.out ?_)
              refine HDo.out.mono ?_
              rintro e w9 ⟨rfl, ch⟩
              have HN := Lib.hid (HR4.out.act (m' := 3 * (j + 1)) ch (by omega))
              clear ch HDo HRx HSz HOx
              go_wp2
              go_roundw
              case rel =>
                obtain ⟨F', hn⟩ := HN.out
                exact ⟨j + 1, nw, F', _, (nowX S3), by omega, by go_num, rfl, hn⟩
              case measure => simp [intOf] <;> omega
        · have hat' : ((j : Int) == at_) = false := by simpa using hat
          obtain ⟨b, off, x, rfl, hx, hrx, hox⟩ := (HRow.out.keep HR1.out.bel).at_ hlt
          have HRx := Lib.hid hrx
          have HOx := Lib.hid hox
          have hxn : x.n ≤ 80 := HN80.out x (List.mem_of_getElem? hx)
          have HAw : Hid (Aw F x.a x.n) := Lib.hid (by
            obtain ⟨b', off', x', e', hx', -, hw'⟩ := HRow.out.at_ hlt
            rw [hx] at hx'
            injection hx' with hx'
            subst hx'
            rcases hw'.2.2.2.2.2.2 with c | ⟨bb, oo, e2, hc⟩
            · exact Or.inl c
            · by_cases c : x.n = 0
              · exact Or.inl c
              · refine Or.inr (fun ad e3 hf => ?_)
                rw [e2] at e3
                injection e3 with e3
                have h1 := World.block_lt_of_cell? w _ (hc 0 (by omega))
                have h2 := HR1.out.foot _ hf
                rw [← e3] at h2
                have h3 : bb < w.heap.size := h1
                have h4 : w.heap.size ≤ bb := h2
                omega)
          have HSz := Lib.hid (c8_size x)
          have HDo : Hid (Calls Tryz.prog 23 #[.pointer (some ⟨g, 0, none⟩), .agg (c8 x).toArray] wr fun e w' => e = .returned (.tuple #[]) ∧ Chg SB wr w' g F (doS S x)) := Lib.hid (does8_any HCC.out g F S x wr HR1.out.told.ws (HR1.out.bd.mono (by omega)) HR1.out.sb HOx.out HAw.out hxn)
          obtain ⟨Xc, hXc⟩ : ∃ Xc, Xc = c8 x := ⟨_, rfl⟩
          rw [← hXc] at HRx HSz HDo
          clear hrx hox hx hxn hXc HAw
          go_wp2_with (refine wpList_load_mid rfl 47 (.tmp 80) rfl b (off + j * 29) rfl Xc _ HRx.out Tryz.underlying47 rfl HSz.out ?_)
          refine HDo.out.mono ?_
          rintro e w9 ⟨rfl, ch⟩
          have HN := Lib.hid (HR1.out.act (m' := 3 * (j + 1)) ch (by omega))
          clear ch HDo HRx HSz HOx
          go_wp2
          go_roundw
          case rel =>
            obtain ⟨F', hn⟩ := HN.out
            exact ⟨j + 1, since, F', _, X, by omega, by go_num, rfl, hn⟩
          case measure => simp [intOf] <;> omega
      · obtain rfl : j = len := by omega
        clear hlt HN80
        obtain ⟨ia, icap, rfl, irow, -⟩ := HR1.out.ids
        obtain ⟨a9, cap9, h9, hc9, hm9⟩ := HR1.out.was.form
        subst h9
        have HIr := Lib.hid irow
        have HWs := Lib.hid HR1.out.was
        have HTd := Lib.hid HR1.out.told
        have HBd : Hid (Bd S 1000) := Lib.hid (HR1.out.bd.mono (by omega))
        have HS := Lib.hid HR1.out.sb
        have HBel := Lib.hid HR1.out.bel
        have hX256 := HR1.out.len
        obtain ⟨nX, hnX⟩ : ∃ nX, nX = X.length := ⟨_, rfl⟩
        rw [← hnX] at HIr hc9 hX256
        have HNX := Lib.hid hnX
        have e9 : (Value.slice a9 X.length cap9) = .slice a9 nX cap9 := by rw [hnX]
        rw [e9] at HWs
        rw [show (Value.slice a9 (List.length X) cap9) = .slice a9 nX cap9 from e9, show (Value.slice ia (List.length X) icap) = .slice ia nX icap by rw [hnX]]
        clear irow HR1 hnX e9
        go_wp2_with fail
        refine (HCC.out.changed _ g F S since HTd.out.ws HBd.out HS.out).mono ?_
        rintro e w5 ⟨v, rfl, lr, b5⟩
        obtain ⟨ca, ccap, rfl, crow, -⟩ := lr
        replace HS := Lib.hid (HCC.out.keep HS.out b5)
        replace HIr := Lib.hid (row_keep HIr.out b5)
        replace HWs := Lib.hid (col_keep HWs.out b5)
        replace HBel := Lib.hid (bthen HBel.out b5)
        have HCr := Lib.hid crow
        clear crow b5
        go_wp2_with fail
        refine (HCC.out.gone _ g F S since HTd.out.ws HBd.out HS.out).mono ?_
        rintro e w6 ⟨v, rfl, lr, b6⟩
        obtain ⟨ga, gcap, rfl, grow, -⟩ := lr
        replace HS := Lib.hid (HCC.out.keep HS.out b6)
        replace HIr := Lib.hid (row_keep HIr.out b6)
        replace HWs := Lib.hid (col_keep HWs.out b6)
        replace HBel := Lib.hid (bthen HBel.out b6)
        replace HCr := Lib.hid (row_keep HCr.out b6)
        have HGr := Lib.hid grow
        clear grow b6
        go_wp2_with fail
        refine (HCC.out.all _ g F S HTd.out.ws HBd.out HS.out).mono ?_
        rintro e w7 ⟨v, rfl, lr, b7⟩
        obtain ⟨aa, acap, rfl, arow, -⟩ := lr
        replace HS := Lib.hid (HCC.out.keep HS.out b7)
        replace HIr := Lib.hid (row_keep HIr.out b7)
        replace HWs := Lib.hid (col_keep HWs.out b7)
        replace HBel := Lib.hid (bthen HBel.out b7)
        replace HCr := Lib.hid (row_keep HCr.out b7)
        replace HGr := Lib.hid (row_keep HGr.out b7)
        have HAr := Lib.hid arow
        clear arow b7
        obtain ⟨nA, hnA⟩ : ∃ nA, nA = (alS S).length := ⟨_, rfl⟩
        obtain ⟨nC, hnC⟩ : ∃ nC, nC = (chL S since).length := ⟨_, rfl⟩
        obtain ⟨nG, hnG⟩ : ∃ nG, nG = (goL S since).length := ⟨_, rfl⟩
        have hA256 : nA ≤ 256 := by rw [hnA]; exact al_len S
        rw [← hnA] at HAr ⊢
        rw [← hnC] at HCr ⊢
        rw [← hnG] at HGr ⊢
        clear hnA hnC hnG
        go_wp2
        go_loopw [18, 19, 20, 21, 22, 23] (fun v18 _ _ _ _ _ wq => ∃ i : Nat, i ≤ nA ∧ v18 = .int .i64 i ∧ Below w7.heap.size w7 wq) (fun v18 _ _ _ _ _ _ => nA - (intOf v18).toNat)
        case atStart => exact ⟨0, by omega, rfl, Below.refl _ _⟩
        case round =>
          obtain ⟨i, hi, rfl, hb3⟩ := hrel
          have HB3 := Lib.hid hb3
          clear hb3
          by_cases hin : i < nA
          · have i0 : (0 : Int) ≤ (i : Int) := by omega
            have i1 : (i : Int) < (nA : Int) := by omega
            obtain ⟨ab, aoff, y, rfl, hy, cy⟩ := row_at (row_keep HAr.out HB3.out) hin
            have hab := World.block_lt_of_cell? _ _ cy
            have HYm : Hid (y ∈ alS S) := Lib.hid (List.mem_of_getElem? hy)
            have HAy : Hid (w7.cell? ⟨ab, aoff + i, none⟩ = some (.int .i64 y)) := Lib.hid (by
              obtain ⟨ab', aoff', y', e', hy', cy'⟩ := row_at HAr.out hin
              injection e' with e'
              injection e' with e1 e2
              subst e1
              subst e2
              rw [hy] at hy'
              injection hy' with hy'
              rw [hy']
              exact cy')
            clear hy
            go_wp2_with fail
            refine (HCC.out.get _ g F S y HTd.out.ws HBd.out (HCC.out.keep HS.out HB3.out)).mono ?_
            rintro e w8 ⟨Y, rfl, hY, b8⟩
            obtain ⟨Py, hPy⟩ : ∃ Py, Py = getP S y := ⟨_, rfl⟩
            have HOr : Hid (anyX X y Py = true ∨ y ∈ chL S since) := Lib.hid (by rw [hPy]; exact told_or HTd.out HYm.out)
            rw [← hPy] at hY
            have HY := Lib.hid hY
            have HPX : Hid (PXs Y) := Lib.hid (by rw [hY]; exact ⟨pl_len _, pl_size _, pl_size' _, pl_one _⟩)
            replace HB3 := Lib.hid (bthen HB3.out b8)
            clear hY b8 cy hPy
            generalize getB S y = gb
            have K19 := Lib.hid (Blk.new w8 44 Z24.toArray)
            have HT19 : Hid ((w8.alloc (.cells Z24.toArray 44)).there w8.heap.size 0 Y.toArray.size) := Lib.hid (blk_there K19.out (by rw [List.size_toArray, HPX.out.1]; exact Nat.le_refl 24))
            have HBl : Hid (Below w8.heap.size w8 ((w8.alloc (.cells Z24.toArray 44)).setCells w8.heap.size 0 Y)) := Lib.hid (below_setCells Y (alloc_below _ _) (Nat.le_refl _))
            have L19 : Hid (Blk ((w8.alloc (.cells Z24.toArray 44)).setCells w8.heap.size 0 Y) w8.heap.size 44 Y.toArray ∧ Below w7.heap.size w7 ((w8.alloc (.cells Z24.toArray 44)).setCells w8.heap.size 0 Y)) := Lib.hid ⟨by
              have := blk_setCells Y (o := 0) K19.out (by rw [HPX.out.1]; exact Nat.le_refl 24)
              rwa [splice_all (by rw [HPX.out.1]; rfl)] at this, bthen HB3.out HBl.out⟩
            go_upto_region 31 with (refine wpList_store_mid rfl 44 (.tmp 19) (.tmp 104) rfl w8.heap.size 0 Y.toArray rfl rfl HT19.out HPX.out.2.2.1 HPX.out.2.2.2 ?_)
            refine fin (fun W => Blk W w8.heap.size 44 Y.toArray ∧ Below w7.heap.size w7 W) L19.out ?_
            obtain ⟨g19, hg19⟩ : ∃ g19, g19 = w8.heap.size := ⟨_, rfl⟩
            rw [← hg19]
            clear L19 HT19 K19 HBl HB3 hg19
            rintro W8 ⟨k19, hb3⟩
            have K19 := Lib.hid k19
            have HB3 := Lib.hid hb3
            clear k19 hb3
            go_wp2
            go_loopw [21, 22] (fun v21 v22 wq => ∃ q : Nat, q ≤ nX ∧ v22 = .int .i64 q ∧ v21 = .bool (anyX (X.take q) y Py) ∧ Blk wq g19 44 Y.toArray ∧ Below w7.heap.size w7 wq) (fun _ v22 _ => nX - (intOf v22).toNat)
            case atStart => exact ⟨0, by omega, rfl, rfl, K19.out, HB3.out⟩
            case round =>
              clear K19 HB3
              obtain ⟨q, hq, rfl, rfl, k19, hb3⟩ := hrel
              have K19 := Lib.hid k19
              have HB3 := Lib.hid hb3
              clear k19 hb3
              by_cases hqn : q < nX
              · have q0 : (0 : Int) ≤ (q : Int) := by omega
                have q1 : (q : Int) < (nX : Int) := by omega
                obtain ⟨ib, ioff, z, rfl, hz, cz⟩ := row_at (row_keep HIr.out HB3.out) hqn
                obtain ⟨r, hr, hrz⟩ := fst_at hz
                obtain ⟨g9, cap9', cur9, hv9, hbk9, _⟩ := (col_keep HWs.out HB3.out).open_ (by rw [← HNX.out]; omega)
                injection hv9 with e1 e2 e3
                subst e1
                have hrng : wr.rangeAt g9 (q * 24) (pl r.2) := ColX.range (c := cP) (k := 24) (fun _ => rfl) (col_keep HWs.out HB3.out) hr
                have hib := World.block_lt_of_cell? _ _ cz
                have hg9 := hbk9.lt
                have ca1 : wr.cell? ⟨ab, aoff + i, none⟩ = some (.int .i64 y) := cell_keep HAy.out HB3.out
                have habr := World.block_lt_of_cell? _ _ ca1
                have hk19 := K19.out.lt
                have HAt : Hid (anyX (X.take (q + 1)) y Py = (anyX (X.take q) y Py || ((z == y) && eqT r.2 Py))) := Lib.hid (by rw [any_take hr, hrz])
                have HEq : Hid (∀ w, (Op.equalIn 10000 44 (.agg (pl r.2).toArray) (.agg Y.toArray)).run Tryz.prog w = .ok (eqT r.2 Py) w) := Lib.hid (by rw [HY.out]; exact eqT_run _ _)
                obtain ⟨Yq, hYq⟩ : ∃ Yq, Yq = pl r.2 := ⟨_, rfl⟩
                have HSq : Hid ((Tryz.prog.info? 44).map (·.size) = some Yq.length) := Lib.hid (by rw [hYq]; exact pl_size _)
                rw [← hYq] at hrng HEq
                have HRq := Lib.hid hrng
                obtain ⟨eb, heb⟩ : ∃ eb, eb = eqT r.2 Py := ⟨_, rfl⟩
                rw [← heb] at HEq HAt
                obtain ⟨sm, hsm⟩ : ∃ sm, sm = anyX (X.take q) y Py := ⟨_, rfl⟩
                rw [← hsm] at HAt ⊢
                have HSS : Hid (wr.drew.cell? ⟨ib, ioff + q, none⟩ = some (.int .i64 z) ∧ wr.drew.cell? ⟨ab, aoff + i, none⟩ = some (.int .i64 y) ∧ wr.drew.rangeAt g9 (q * 24) Yq ∧ wr.drew.rangeAt g19 0 Y) := Lib.hid ⟨cz, ca1, HRq.out, blk_whole K19.out⟩
                have KD := Lib.hid (Blk.drew K19.out)
                have HBD : Hid (Below w7.heap.size w7 wr.drew) := Lib.hid ⟨HB3.out.os, HB3.out.tape, HB3.out.output, HB3.out.size, HB3.out.block⟩
                clear hz hr hrz hbk9 e2 e3 hrng hYq heb hsm cz ca1 K19 HB3 HRq
                cases sm with
                | true =>
                  go_upto_region 35 with fail
                  refine wp_region_held_drew (S := fun w' => w'.cell? ⟨ib, ioff + q, none⟩ = some (.int .i64 z) ∧ w'.cell? ⟨ab, aoff + i, none⟩ = some (.int .i64 y) ∧ w'.rangeAt g9 (q * 24) Yq ∧ w'.rangeAt g19 0 Y) (by kernel_rfl) (HSS.out) (fun hHeld => ?_)
                  refine wpAnyH_take (i := 0) (v := ?_) rfl (by kernel_rfl) (by kernel_rfl) (by kernel_rfl) (fun _ _ _ h => h) (Or.inl ⟨by rfl, ?_⟩) hHeld ?_
                  rotate_left
                  · intro w hSw
                    obtain ⟨s1, s2, s3, s4⟩ := hSw
                    go_simp
                    with_reducible rfl
                  simp only [Act.put, List.getElem_toArray, List.getElem_cons_zero, List.setIfInBounds_toArray, List.set_cons_zero, List.set_cons_succ]
                  refine wpAnyH_take (i := 1) (v := ?_) rfl (by kernel_rfl) (by kernel_rfl) (by kernel_rfl) (fun _ _ _ h => h) (Or.inl ⟨by rfl, ?_⟩) hHeld ?_
                  rotate_left
                  · intro w hSw
                    obtain ⟨s1, s2, s3, s4⟩ := hSw
                    go_simp
                    with_reducible rfl
                  simp only [Act.put, List.getElem_toArray, List.getElem_cons_zero, List.getElem_cons_succ, List.setIfInBounds_toArray, List.set_cons_zero, List.set_cons_succ]
                  refine wpAnyH_take (i := 2) (v := undef) rfl (by kernel_rfl) (by kernel_rfl) (by kernel_rfl) (fun _ _ _ h => h) (Or.inr ⟨by rfl, rfl⟩) hHeld ?_
                  simp only [Act.put, List.getElem_toArray, List.getElem_cons_zero, List.getElem_cons_succ, List.setIfInBounds_toArray, List.set_cons_zero, List.set_cons_succ]
                  refine wpAnyH_take (i := 3) (v := undef) rfl (by kernel_rfl) (by kernel_rfl) (by kernel_rfl) (fun _ _ _ h => h) (Or.inr ⟨by rfl, rfl⟩) hHeld ?_
                  simp only [Act.put, List.getElem_toArray, List.getElem_cons_zero, List.getElem_cons_succ, List.setIfInBounds_toArray, List.set_cons_zero, List.set_cons_succ]
                  refine wpAnyH_take (i := 4) (v := undef) rfl (by kernel_rfl) (by kernel_rfl) (by kernel_rfl) (fun _ _ _ h => h) (Or.inr ⟨by rfl, rfl⟩) hHeld ?_
                  simp only [Act.put, List.getElem_toArray, List.getElem_cons_zero, List.getElem_cons_succ, List.setIfInBounds_toArray, List.set_cons_zero, List.set_cons_succ]
                  refine wpAnyH_take (i := 5) (v := undef) rfl (by kernel_rfl) (by kernel_rfl) (by kernel_rfl) (fun _ _ _ h => h) (Or.inr ⟨by rfl, rfl⟩) hHeld ?_
                  simp only [Act.put, List.getElem_toArray, List.getElem_cons_zero, List.getElem_cons_succ, List.setIfInBounds_toArray, List.set_cons_zero, List.set_cons_succ]
                  refine wpAnyH_take (i := 6) (v := undef) rfl (by kernel_rfl) (by kernel_rfl) (by kernel_rfl) (fun _ _ _ h => h) (Or.inr ⟨by rfl, rfl⟩) hHeld ?_
                  simp only [Act.put, List.getElem_toArray, List.getElem_cons_zero, List.getElem_cons_succ, List.setIfInBounds_toArray, List.set_cons_zero, List.set_cons_succ]
                  refine wpAnyH_take (i := 7) (v := undef) rfl (by kernel_rfl) (by kernel_rfl) (by kernel_rfl) (fun _ _ _ h => h) (Or.inr ⟨by rfl, rfl⟩) hHeld ?_
                  simp only [Act.put, List.getElem_toArray, List.getElem_cons_zero, List.getElem_cons_succ, List.setIfInBounds_toArray, List.set_cons_zero, List.set_cons_succ]
                  refine wpAnyH_take (i := 8) (v := undef) rfl (by kernel_rfl) (by kernel_rfl) (by kernel_rfl) (fun _ _ _ h => h) (Or.inr ⟨by rfl, rfl⟩) hHeld ?_
                  simp only [Act.put, List.getElem_toArray, List.getElem_cons_zero, List.getElem_cons_succ, List.setIfInBounds_toArray, List.set_cons_zero, List.set_cons_succ]
                  refine wpAnyH_take (i := 9) (v := undef) rfl (by kernel_rfl) (by kernel_rfl) (by kernel_rfl) (fun _ _ _ h => h) (Or.inr ⟨by rfl, rfl⟩) hHeld ?_
                  simp only [Act.put, List.getElem_toArray, List.getElem_cons_zero, List.getElem_cons_succ, List.setIfInBounds_toArray, List.set_cons_zero, List.set_cons_succ]
                  refine wpAnyH_take (i := 10) (v := undef) rfl (by kernel_rfl) (by kernel_rfl) (by kernel_rfl) (fun _ _ _ h => h) (Or.inr ⟨by rfl, rfl⟩) hHeld ?_
                  simp only [Act.put, List.getElem_toArray, List.getElem_cons_zero, List.getElem_cons_succ, List.setIfInBounds_toArray, List.set_cons_zero, List.set_cons_succ]
                  refine wpAnyH_take (i := 11) (v := undef) rfl (by kernel_rfl) (by kernel_rfl) (by kernel_rfl) (fun _ _ _ h => h) (Or.inr ⟨by rfl, rfl⟩) hHeld ?_
                  simp only [Act.put, List.getElem_toArray, List.getElem_cons_zero, List.getElem_cons_succ, List.setIfInBounds_toArray, List.set_cons_zero, List.set_cons_succ]
                  refine wpAnyH_take (i := 12) (v := undef) rfl (by kernel_rfl) (by kernel_rfl) (by kernel_rfl) (fun _ _ _ h => h) (Or.inr ⟨by rfl, rfl⟩) hHeld ?_
                  simp only [Act.put, List.getElem_toArray, List.getElem_cons_zero, List.getElem_cons_succ, List.setIfInBounds_toArray, List.set_cons_zero, List.set_cons_succ]
                  refine wpAnyH_take (i := 13) (v := undef) rfl (by kernel_rfl) (by kernel_rfl) (by kernel_rfl) (fun _ _ _ h => h) (Or.inr ⟨by rfl, rfl⟩) hHeld ?_
                  simp only [Act.put, List.getElem_toArray, List.getElem_cons_zero, List.getElem_cons_succ, List.setIfInBounds_toArray, List.set_cons_zero, List.set_cons_succ]
                  refine wpAnyH_take (i := 14) (v := undef) rfl (by kernel_rfl) (by kernel_rfl) (by kernel_rfl) (fun _ _ _ h => h) (Or.inr ⟨by rfl, rfl⟩) hHeld ?_
                  simp only [Act.put, List.getElem_toArray, List.getElem_cons_zero, List.getElem_cons_succ, List.setIfInBounds_toArray, List.set_cons_zero, List.set_cons_succ]
                  refine wpAnyH_take (i := 15) (v := undef) rfl (by kernel_rfl) (by kernel_rfl) (by kernel_rfl) (fun _ _ _ h => h) (Or.inr ⟨by rfl, rfl⟩) hHeld ?_
                  simp only [Act.put, List.getElem_toArray, List.getElem_cons_zero, List.getElem_cons_succ, List.setIfInBounds_toArray, List.set_cons_zero, List.set_cons_succ]
                  refine wpAnyH_take (i := 16) (v := undef) rfl (by kernel_rfl) (by kernel_rfl) (by kernel_rfl) (fun _ _ _ h => h) (Or.inr ⟨by rfl, rfl⟩) hHeld ?_
                  simp only [Act.put, List.getElem_toArray, List.getElem_cons_zero, List.getElem_cons_succ, List.setIfInBounds_toArray, List.set_cons_zero, List.set_cons_succ]
                  refine wpAnyH_take (i := 17) (v := undef) rfl (by kernel_rfl) (by kernel_rfl) (by kernel_rfl) (fun _ _ _ h => h) (Or.inr ⟨by rfl, rfl⟩) hHeld ?_
                  simp only [Act.put, List.getElem_toArray, List.getElem_cons_zero, List.getElem_cons_succ, List.setIfInBounds_toArray, List.set_cons_zero, List.set_cons_succ]
                  refine wpAnyH_take (i := 18) (v := undef) rfl (by kernel_rfl) (by kernel_rfl) (by kernel_rfl) (fun _ _ _ h => h) (Or.inr ⟨by rfl, rfl⟩) hHeld ?_
                  simp only [Act.put, List.getElem_toArray, List.getElem_cons_zero, List.getElem_cons_succ, List.setIfInBounds_toArray, List.set_cons_zero, List.set_cons_succ]
                  refine wpAnyH_take (i := 19) (v := ?_) rfl (by kernel_rfl) (by kernel_rfl) (by kernel_rfl) (fun _ _ _ h => h) (Or.inl ⟨by rfl, ?_⟩) hHeld ?_
                  rotate_left
                  · intro w hSw
                    obtain ⟨s1, s2, s3, s4⟩ := hSw
                    go_simp
                    with_reducible rfl
                  simp only [Act.put, List.getElem_toArray, List.getElem_cons_zero, List.getElem_cons_succ, List.setIfInBounds_toArray, List.set_cons_zero, List.set_cons_succ]
                  refine wpAnyH_take (i := 20) (v := ?_) rfl (by kernel_rfl) (by kernel_rfl) (by kernel_rfl) (fun _ _ _ h => h) (Or.inl ⟨by rfl, ?_⟩) hHeld ?_
                  rotate_left
                  · intro w hSw
                    obtain ⟨s1, s2, s3, s4⟩ := hSw
                    go_simp
                    with_reducible rfl
                  simp only [Act.put, List.getElem_toArray, List.getElem_cons_zero, List.getElem_cons_succ, List.setIfInBounds_toArray, List.set_cons_zero, List.set_cons_succ]
                  refine wpAnyH_done (by kernel_rfl) ?_ _
                  clear hHeld
                  refine fin (fun W => Blk W g19 44 Y.toArray ∧ Below w7.heap.size w7 W) ⟨KD.out, HBD.out⟩ ?_
                  clear KD HBD HSS hib hg9 habr hk19
                  rintro W9 ⟨k19, hb3⟩
                  have K19 := Lib.hid k19
                  have HB3 := Lib.hid hb3
                  clear k19 hb3
                  go_wp2
                  go_roundw
                  case rel => exact ⟨q + 1, by omega, by go_num, by rw [HAt.out]; simp, K19.out, HB3.out⟩
                  case measure => simp [intOf] <;> omega
                | false =>
                  by_cases hzy : z = y
                  · subst hzy
                    have heq := HEq.out
                    go_upto_region 35 with fail
                    refine wp_region_held_drew (S := fun w' => w'.cell? ⟨ib, ioff + q, none⟩ = some (.int .i64 z) ∧ w'.cell? ⟨ab, aoff + i, none⟩ = some (.int .i64 z) ∧ w'.rangeAt g9 (q * 24) Yq ∧ w'.rangeAt g19 0 Y) (by kernel_rfl) (HSS.out) (fun hHeld => ?_)
                    refine wpAnyH_take (i := 0) (v := ?_) rfl (by kernel_rfl) (by kernel_rfl) (by kernel_rfl) (fun _ _ _ h => h) (Or.inl ⟨by rfl, ?_⟩) hHeld ?_
                    rotate_left
                    · intro w hSw
                      obtain ⟨s1, s2, s3, s4⟩ := hSw
                      go_simp
                      with_reducible rfl
                    simp only [Act.put, List.getElem_toArray, List.getElem_cons_zero, List.setIfInBounds_toArray, List.set_cons_zero, List.set_cons_succ]
                    refine wpAnyH_take (i := 1) (v := ?_) rfl (by kernel_rfl) (by kernel_rfl) (by kernel_rfl) (fun _ _ _ h => h) (Or.inl ⟨by rfl, ?_⟩) hHeld ?_
                    rotate_left
                    · intro w hSw
                      obtain ⟨s1, s2, s3, s4⟩ := hSw
                      go_simp
                      with_reducible rfl
                    simp only [Act.put, List.getElem_toArray, List.getElem_cons_zero, List.getElem_cons_succ, List.setIfInBounds_toArray, List.set_cons_zero, List.set_cons_succ]
                    refine wpAnyH_take (i := 2) (v := ?_) rfl (by kernel_rfl) (by kernel_rfl) (by kernel_rfl) (fun _ _ _ h => h) (Or.inl ⟨by rfl, ?_⟩) hHeld ?_
                    rotate_left
                    · intro w hSw
                      obtain ⟨s1, s2, s3, s4⟩ := hSw
                      go_simp
                      with_reducible rfl
                    simp only [Act.put, List.getElem_toArray, List.getElem_cons_zero, List.getElem_cons_succ, List.setIfInBounds_toArray, List.set_cons_zero, List.set_cons_succ]
                    refine wpAnyH_take (i := 3) (v := ?_) rfl (by kernel_rfl) (by kernel_rfl) (by kernel_rfl) (fun _ _ _ h => h) (Or.inl ⟨by rfl, ?_⟩) hHeld ?_
                    rotate_left
                    · intro w hSw
                      obtain ⟨s1, s2, s3, s4⟩ := hSw
                      go_simp
                      with_reducible rfl
                    simp only [Act.put, List.getElem_toArray, List.getElem_cons_zero, List.getElem_cons_succ, List.setIfInBounds_toArray, List.set_cons_zero, List.set_cons_succ]
                    refine wpAnyH_take (i := 4) (v := ?_) rfl (by kernel_rfl) (by kernel_rfl) (by kernel_rfl) (fun _ _ _ h => h) (Or.inl ⟨by rfl, ?_⟩) hHeld ?_
                    rotate_left
                    · intro w hSw
                      obtain ⟨s1, s2, s3, s4⟩ := hSw
                      go_simp
                      with_reducible rfl
                    simp only [Act.put, List.getElem_toArray, List.getElem_cons_zero, List.getElem_cons_succ, List.setIfInBounds_toArray, List.set_cons_zero, List.set_cons_succ]
                    refine wpAnyH_take (i := 5) (v := ?_) rfl (by kernel_rfl) (by kernel_rfl) (by kernel_rfl) (fun _ _ _ h => h) (Or.inl ⟨by rfl, ?_⟩) hHeld ?_
                    rotate_left
                    · intro w hSw
                      obtain ⟨s1, s2, s3, s4⟩ := hSw
                      go_simp
                      with_reducible rfl
                    simp only [Act.put, List.getElem_toArray, List.getElem_cons_zero, List.getElem_cons_succ, List.setIfInBounds_toArray, List.set_cons_zero, List.set_cons_succ]
                    refine wpAnyH_take (i := 6) (v := ?_) rfl (by kernel_rfl) (by kernel_rfl) (by kernel_rfl) (fun _ _ _ h => h) (Or.inl ⟨by rfl, ?_⟩) hHeld ?_
                    rotate_left
                    · intro w hSw
                      obtain ⟨s1, s2, s3, s4⟩ := hSw
                      go_simp
                      with_reducible rfl
                    simp only [Act.put, List.getElem_toArray, List.getElem_cons_zero, List.getElem_cons_succ, List.setIfInBounds_toArray, List.set_cons_zero, List.set_cons_succ]
                    refine wpAnyH_take (i := 7) (v := ?_) rfl (by kernel_rfl) (by kernel_rfl) (by kernel_rfl) (fun _ _ _ h => h) (Or.inl ⟨by rfl, ?_⟩) hHeld ?_
                    rotate_left
                    · intro w hSw
                      obtain ⟨s1, s2, s3, s4⟩ := hSw
                      go_simp
                      with_reducible rfl
                    simp only [Act.put, List.getElem_toArray, List.getElem_cons_zero, List.getElem_cons_succ, List.setIfInBounds_toArray, List.set_cons_zero, List.set_cons_succ]
                    refine wpAnyH_take (i := 8) (v := ?_) rfl (by kernel_rfl) (by kernel_rfl) (by kernel_rfl) (fun _ _ _ h => h) (Or.inl ⟨by rfl, ?_⟩) hHeld ?_
                    rotate_left
                    · intro w hSw
                      obtain ⟨s1, s2, s3, s4⟩ := hSw
                      go_simp
                      with_reducible rfl
                    simp only [Act.put, List.getElem_toArray, List.getElem_cons_zero, List.getElem_cons_succ, List.setIfInBounds_toArray, List.set_cons_zero, List.set_cons_succ]
                    refine wpAnyH_take (i := 9) (v := ?_) rfl (by kernel_rfl) (by kernel_rfl) (by kernel_rfl) (fun _ _ _ h => h) (Or.inl ⟨by rfl, ?_⟩) hHeld ?_
                    rotate_left
                    · intro w hSw
                      obtain ⟨s1, s2, s3, s4⟩ := hSw
                      go_simp
                      with_reducible rfl
                    simp only [Act.put, List.getElem_toArray, List.getElem_cons_zero, List.getElem_cons_succ, List.setIfInBounds_toArray, List.set_cons_zero, List.set_cons_succ]
                    refine wpAnyH_take (i := 10) (v := ?_) rfl (by kernel_rfl) (by kernel_rfl) (by kernel_rfl) (fun _ _ _ h => h) (Or.inl ⟨by rfl, ?_⟩) hHeld ?_
                    rotate_left
                    · intro w hSw
                      obtain ⟨s1, s2, s3, s4⟩ := hSw
                      go_simp
                      with_reducible rfl
                    simp only [Act.put, List.getElem_toArray, List.getElem_cons_zero, List.getElem_cons_succ, List.setIfInBounds_toArray, List.set_cons_zero, List.set_cons_succ]
                    refine wpAnyH_take (i := 11) (v := ?_) rfl (by kernel_rfl) (by kernel_rfl) (by kernel_rfl) (fun _ _ _ h => h) (Or.inl ⟨by rfl, ?_⟩) hHeld ?_
                    rotate_left
                    · intro w hSw
                      obtain ⟨s1, s2, s3, s4⟩ := hSw
                      go_simp
                      with_reducible rfl
                    simp only [Act.put, List.getElem_toArray, List.getElem_cons_zero, List.getElem_cons_succ, List.setIfInBounds_toArray, List.set_cons_zero, List.set_cons_succ]
                    refine wpAnyH_take (i := 12) (v := ?_) rfl (by kernel_rfl) (by kernel_rfl) (by kernel_rfl) (fun _ _ _ h => h) (Or.inl ⟨by rfl, ?_⟩) hHeld ?_
                    rotate_left
                    · intro w hSw
                      obtain ⟨s1, s2, s3, s4⟩ := hSw
                      go_simp
                      with_reducible rfl
                    simp only [Act.put, List.getElem_toArray, List.getElem_cons_zero, List.getElem_cons_succ, List.setIfInBounds_toArray, List.set_cons_zero, List.set_cons_succ]
                    refine wpAnyH_take (i := 13) (v := ?_) rfl (by kernel_rfl) (by kernel_rfl) (by kernel_rfl) (fun _ _ _ h => h) (Or.inl ⟨by rfl, ?_⟩) hHeld ?_
                    rotate_left
                    · intro w hSw
                      obtain ⟨s1, s2, s3, s4⟩ := hSw
                      go_simp
                      with_reducible rfl
                    simp only [Act.put, List.getElem_toArray, List.getElem_cons_zero, List.getElem_cons_succ, List.setIfInBounds_toArray, List.set_cons_zero, List.set_cons_succ]
                    refine wpAnyH_take (i := 14) (v := ?_) rfl (by kernel_rfl) (by kernel_rfl) (by kernel_rfl) (fun _ _ _ h => h) (Or.inl ⟨by rfl, ?_⟩) hHeld ?_
                    rotate_left
                    · intro w hSw
                      obtain ⟨s1, s2, s3, s4⟩ := hSw
                      go_simp
                      with_reducible rfl
                    simp only [Act.put, List.getElem_toArray, List.getElem_cons_zero, List.getElem_cons_succ, List.setIfInBounds_toArray, List.set_cons_zero, List.set_cons_succ]
                    refine wpAnyH_take (i := 15) (v := _) rfl (by kernel_rfl) (by kernel_rfl) (by kernel_rfl) (fun _ _ _ h => h) (yieldsIf_load_mid (by rfl) _ _ rfl _ _ rfl _ _ (fun _ h => h.2.2.1) Tryz.underlying44 rfl HSq.out) hHeld ?_
                    simp only [Act.put, List.getElem_toArray, List.getElem_cons_zero, List.getElem_cons_succ, List.setIfInBounds_toArray, List.set_cons_zero, List.set_cons_succ]
                    refine wpAnyH_take (i := 16) (v := _) rfl (by kernel_rfl) (by kernel_rfl) (by kernel_rfl) (fun _ _ _ h => h) (yieldsIf_load_mid (by rfl) _ _ rfl _ _ rfl _ _ (fun _ h => h.2.2.2) Tryz.underlying44 rfl HPX.out.2.1) hHeld ?_
                    simp only [Act.put, List.getElem_toArray, List.getElem_cons_zero, List.getElem_cons_succ, List.setIfInBounds_toArray, List.set_cons_zero, List.set_cons_succ]
                    refine wpAnyH_take (i := 17) (v := ?_) rfl (by kernel_rfl) (by kernel_rfl) (by kernel_rfl) (fun _ _ _ h => h) (Or.inl ⟨by rfl, ?_⟩) hHeld ?_
                    rotate_left
                    · intro w hSw
                      obtain ⟨s1, s2, s3, s4⟩ := hSw
                      go_simp
                      with_reducible rfl
                    simp only [Act.put, List.getElem_toArray, List.getElem_cons_zero, List.getElem_cons_succ, List.setIfInBounds_toArray, List.set_cons_zero, List.set_cons_succ]
                    refine wpAnyH_take (i := 18) (v := ?_) rfl (by kernel_rfl) (by kernel_rfl) (by kernel_rfl) (fun _ _ _ h => h) (Or.inl ⟨by rfl, ?_⟩) hHeld ?_
                    rotate_left
                    · intro w hSw
                      obtain ⟨s1, s2, s3, s4⟩ := hSw
                      go_simp
                      with_reducible rfl
                    simp only [Act.put, List.getElem_toArray, List.getElem_cons_zero, List.getElem_cons_succ, List.setIfInBounds_toArray, List.set_cons_zero, List.set_cons_succ]
                    refine wpAnyH_take (i := 19) (v := ?_) rfl (by kernel_rfl) (by kernel_rfl) (by kernel_rfl) (fun _ _ _ h => h) (Or.inl ⟨by rfl, ?_⟩) hHeld ?_
                    rotate_left
                    · intro w hSw
                      obtain ⟨s1, s2, s3, s4⟩ := hSw
                      go_simp
                      with_reducible rfl
                    simp only [Act.put, List.getElem_toArray, List.getElem_cons_zero, List.getElem_cons_succ, List.setIfInBounds_toArray, List.set_cons_zero, List.set_cons_succ]
                    refine wpAnyH_take (i := 20) (v := ?_) rfl (by kernel_rfl) (by kernel_rfl) (by kernel_rfl) (fun _ _ _ h => h) (Or.inl ⟨by rfl, ?_⟩) hHeld ?_
                    rotate_left
                    · intro w hSw
                      obtain ⟨s1, s2, s3, s4⟩ := hSw
                      go_simp
                      with_reducible rfl
                    simp only [Act.put, List.getElem_toArray, List.getElem_cons_zero, List.getElem_cons_succ, List.setIfInBounds_toArray, List.set_cons_zero, List.set_cons_succ]
                    refine wpAnyH_done (by kernel_rfl) ?_ _
                    clear hHeld
                    refine fin (fun W => Blk W g19 44 Y.toArray ∧ Below w7.heap.size w7 W) ⟨KD.out, HBD.out⟩ ?_
                    clear KD HBD HSS hib hg9 habr hk19
                    rintro W9 ⟨k19, hb3⟩
                    have K19 := Lib.hid k19
                    have HB3 := Lib.hid hb3
                    clear k19 hb3
                    go_wp2
                    go_roundw
                    case rel => exact ⟨q + 1, by omega, by go_num, by rw [HAt.out]; simp, K19.out, HB3.out⟩
                    case measure => simp [intOf] <;> omega
                  · have hzy' : (z == y) = false := by simpa using hzy
                    clear hzy
                    go_upto_region 35 with fail
                    refine wp_region_held_drew (S := fun w' => w'.cell? ⟨ib, ioff + q, none⟩ = some (.int .i64 z) ∧ w'.cell? ⟨ab, aoff + i, none⟩ = some (.int .i64 y) ∧ w'.rangeAt g9 (q * 24) Yq ∧ w'.rangeAt g19 0 Y) (by kernel_rfl) (HSS.out) (fun hHeld => ?_)
                    refine wpAnyH_take (i := 0) (v := ?_) rfl (by kernel_rfl) (by kernel_rfl) (by kernel_rfl) (fun _ _ _ h => h) (Or.inl ⟨by rfl, ?_⟩) hHeld ?_
                    rotate_left
                    · intro w hSw
                      obtain ⟨s1, s2, s3, s4⟩ := hSw
                      go_simp
                      with_reducible rfl
                    simp only [Act.put, List.getElem_toArray, List.getElem_cons_zero, List.setIfInBounds_toArray, List.set_cons_zero, List.set_cons_succ]
                    refine wpAnyH_take (i := 1) (v := ?_) rfl (by kernel_rfl) (by kernel_rfl) (by kernel_rfl) (fun _ _ _ h => h) (Or.inl ⟨by rfl, ?_⟩) hHeld ?_
                    rotate_left
                    · intro w hSw
                      obtain ⟨s1, s2, s3, s4⟩ := hSw
                      go_simp
                      with_reducible rfl
                    simp only [Act.put, List.getElem_toArray, List.getElem_cons_zero, List.getElem_cons_succ, List.setIfInBounds_toArray, List.set_cons_zero, List.set_cons_succ]
                    refine wpAnyH_take (i := 2) (v := ?_) rfl (by kernel_rfl) (by kernel_rfl) (by kernel_rfl) (fun _ _ _ h => h) (Or.inl ⟨by rfl, ?_⟩) hHeld ?_
                    rotate_left
                    · intro w hSw
                      obtain ⟨s1, s2, s3, s4⟩ := hSw
                      go_simp
                      with_reducible rfl
                    simp only [Act.put, List.getElem_toArray, List.getElem_cons_zero, List.getElem_cons_succ, List.setIfInBounds_toArray, List.set_cons_zero, List.set_cons_succ]
                    refine wpAnyH_take (i := 3) (v := ?_) rfl (by kernel_rfl) (by kernel_rfl) (by kernel_rfl) (fun _ _ _ h => h) (Or.inl ⟨by rfl, ?_⟩) hHeld ?_
                    rotate_left
                    · intro w hSw
                      obtain ⟨s1, s2, s3, s4⟩ := hSw
                      go_simp
                      with_reducible rfl
                    simp only [Act.put, List.getElem_toArray, List.getElem_cons_zero, List.getElem_cons_succ, List.setIfInBounds_toArray, List.set_cons_zero, List.set_cons_succ]
                    refine wpAnyH_take (i := 4) (v := ?_) rfl (by kernel_rfl) (by kernel_rfl) (by kernel_rfl) (fun _ _ _ h => h) (Or.inl ⟨by rfl, ?_⟩) hHeld ?_
                    rotate_left
                    · intro w hSw
                      obtain ⟨s1, s2, s3, s4⟩ := hSw
                      go_simp
                      with_reducible rfl
                    simp only [Act.put, List.getElem_toArray, List.getElem_cons_zero, List.getElem_cons_succ, List.setIfInBounds_toArray, List.set_cons_zero, List.set_cons_succ]
                    refine wpAnyH_take (i := 5) (v := ?_) rfl (by kernel_rfl) (by kernel_rfl) (by kernel_rfl) (fun _ _ _ h => h) (Or.inl ⟨by rfl, ?_⟩) hHeld ?_
                    rotate_left
                    · intro w hSw
                      obtain ⟨s1, s2, s3, s4⟩ := hSw
                      go_simp
                      with_reducible rfl
                    simp only [Act.put, List.getElem_toArray, List.getElem_cons_zero, List.getElem_cons_succ, List.setIfInBounds_toArray, List.set_cons_zero, List.set_cons_succ]
                    refine wpAnyH_take (i := 6) (v := ?_) rfl (by kernel_rfl) (by kernel_rfl) (by kernel_rfl) (fun _ _ _ h => h) (Or.inl ⟨by rfl, ?_⟩) hHeld ?_
                    rotate_left
                    · intro w hSw
                      obtain ⟨s1, s2, s3, s4⟩ := hSw
                      go_simp
                      with_reducible rfl
                    simp only [Act.put, List.getElem_toArray, List.getElem_cons_zero, List.getElem_cons_succ, List.setIfInBounds_toArray, List.set_cons_zero, List.set_cons_succ]
                    refine wpAnyH_take (i := 7) (v := ?_) rfl (by kernel_rfl) (by kernel_rfl) (by kernel_rfl) (fun _ _ _ h => h) (Or.inl ⟨by rfl, ?_⟩) hHeld ?_
                    rotate_left
                    · intro w hSw
                      obtain ⟨s1, s2, s3, s4⟩ := hSw
                      go_simp
                      with_reducible rfl
                    simp only [Act.put, List.getElem_toArray, List.getElem_cons_zero, List.getElem_cons_succ, List.setIfInBounds_toArray, List.set_cons_zero, List.set_cons_succ]
                    refine wpAnyH_take (i := 8) (v := ?_) rfl (by kernel_rfl) (by kernel_rfl) (by kernel_rfl) (fun _ _ _ h => h) (Or.inl ⟨by rfl, ?_⟩) hHeld ?_
                    rotate_left
                    · intro w hSw
                      obtain ⟨s1, s2, s3, s4⟩ := hSw
                      go_simp
                      with_reducible rfl
                    simp only [Act.put, List.getElem_toArray, List.getElem_cons_zero, List.getElem_cons_succ, List.setIfInBounds_toArray, List.set_cons_zero, List.set_cons_succ]
                    refine wpAnyH_take (i := 9) (v := ?_) rfl (by kernel_rfl) (by kernel_rfl) (by kernel_rfl) (fun _ _ _ h => h) (Or.inl ⟨by rfl, ?_⟩) hHeld ?_
                    rotate_left
                    · intro w hSw
                      obtain ⟨s1, s2, s3, s4⟩ := hSw
                      go_simp
                      with_reducible rfl
                    simp only [Act.put, List.getElem_toArray, List.getElem_cons_zero, List.getElem_cons_succ, List.setIfInBounds_toArray, List.set_cons_zero, List.set_cons_succ]
                    refine wpAnyH_take (i := 10) (v := ?_) rfl (by kernel_rfl) (by kernel_rfl) (by kernel_rfl) (fun _ _ _ h => h) (Or.inl ⟨by rfl, ?_⟩) hHeld ?_
                    rotate_left
                    · intro w hSw
                      obtain ⟨s1, s2, s3, s4⟩ := hSw
                      go_simp
                      with_reducible rfl
                    simp only [Act.put, List.getElem_toArray, List.getElem_cons_zero, List.getElem_cons_succ, List.setIfInBounds_toArray, List.set_cons_zero, List.set_cons_succ]
                    refine wpAnyH_take (i := 11) (v := ?_) rfl (by kernel_rfl) (by kernel_rfl) (by kernel_rfl) (fun _ _ _ h => h) (Or.inl ⟨by rfl, ?_⟩) hHeld ?_
                    rotate_left
                    · intro w hSw
                      obtain ⟨s1, s2, s3, s4⟩ := hSw
                      go_simp
                      with_reducible rfl
                    simp only [Act.put, List.getElem_toArray, List.getElem_cons_zero, List.getElem_cons_succ, List.setIfInBounds_toArray, List.set_cons_zero, List.set_cons_succ]
                    refine wpAnyH_take (i := 12) (v := undef) rfl (by kernel_rfl) (by kernel_rfl) (by kernel_rfl) (fun _ _ _ h => h) (Or.inr ⟨by rfl, rfl⟩) hHeld ?_
                    simp only [Act.put, List.getElem_toArray, List.getElem_cons_zero, List.getElem_cons_succ, List.setIfInBounds_toArray, List.set_cons_zero, List.set_cons_succ]
                    refine wpAnyH_take (i := 13) (v := undef) rfl (by kernel_rfl) (by kernel_rfl) (by kernel_rfl) (fun _ _ _ h => h) (Or.inr ⟨by rfl, rfl⟩) hHeld ?_
                    simp only [Act.put, List.getElem_toArray, List.getElem_cons_zero, List.getElem_cons_succ, List.setIfInBounds_toArray, List.set_cons_zero, List.set_cons_succ]
                    refine wpAnyH_take (i := 14) (v := undef) rfl (by kernel_rfl) (by kernel_rfl) (by kernel_rfl) (fun _ _ _ h => h) (Or.inr ⟨by rfl, rfl⟩) hHeld ?_
                    simp only [Act.put, List.getElem_toArray, List.getElem_cons_zero, List.getElem_cons_succ, List.setIfInBounds_toArray, List.set_cons_zero, List.set_cons_succ]
                    refine wpAnyH_take (i := 15) (v := undef) rfl (by kernel_rfl) (by kernel_rfl) (by kernel_rfl) (fun _ _ _ h => h) (Or.inr ⟨by rfl, rfl⟩) hHeld ?_
                    simp only [Act.put, List.getElem_toArray, List.getElem_cons_zero, List.getElem_cons_succ, List.setIfInBounds_toArray, List.set_cons_zero, List.set_cons_succ]
                    refine wpAnyH_take (i := 16) (v := undef) rfl (by kernel_rfl) (by kernel_rfl) (by kernel_rfl) (fun _ _ _ h => h) (Or.inr ⟨by rfl, rfl⟩) hHeld ?_
                    simp only [Act.put, List.getElem_toArray, List.getElem_cons_zero, List.getElem_cons_succ, List.setIfInBounds_toArray, List.set_cons_zero, List.set_cons_succ]
                    refine wpAnyH_take (i := 17) (v := undef) rfl (by kernel_rfl) (by kernel_rfl) (by kernel_rfl) (fun _ _ _ h => h) (Or.inr ⟨by rfl, rfl⟩) hHeld ?_
                    simp only [Act.put, List.getElem_toArray, List.getElem_cons_zero, List.getElem_cons_succ, List.setIfInBounds_toArray, List.set_cons_zero, List.set_cons_succ]
                    refine wpAnyH_take (i := 18) (v := ?_) rfl (by kernel_rfl) (by kernel_rfl) (by kernel_rfl) (fun _ _ _ h => h) (Or.inl ⟨by rfl, ?_⟩) hHeld ?_
                    rotate_left
                    · intro w hSw
                      obtain ⟨s1, s2, s3, s4⟩ := hSw
                      go_simp
                      with_reducible rfl
                    simp only [Act.put, List.getElem_toArray, List.getElem_cons_zero, List.getElem_cons_succ, List.setIfInBounds_toArray, List.set_cons_zero, List.set_cons_succ]
                    refine wpAnyH_take (i := 19) (v := ?_) rfl (by kernel_rfl) (by kernel_rfl) (by kernel_rfl) (fun _ _ _ h => h) (Or.inl ⟨by rfl, ?_⟩) hHeld ?_
                    rotate_left
                    · intro w hSw
                      obtain ⟨s1, s2, s3, s4⟩ := hSw
                      go_simp
                      with_reducible rfl
                    simp only [Act.put, List.getElem_toArray, List.getElem_cons_zero, List.getElem_cons_succ, List.setIfInBounds_toArray, List.set_cons_zero, List.set_cons_succ]
                    refine wpAnyH_take (i := 20) (v := ?_) rfl (by kernel_rfl) (by kernel_rfl) (by kernel_rfl) (fun _ _ _ h => h) (Or.inl ⟨by rfl, ?_⟩) hHeld ?_
                    rotate_left
                    · intro w hSw
                      obtain ⟨s1, s2, s3, s4⟩ := hSw
                      go_simp
                      with_reducible rfl
                    simp only [Act.put, List.getElem_toArray, List.getElem_cons_zero, List.getElem_cons_succ, List.setIfInBounds_toArray, List.set_cons_zero, List.set_cons_succ]
                    refine wpAnyH_done (by kernel_rfl) ?_ _
                    clear hHeld
                    refine fin (fun W => Blk W g19 44 Y.toArray ∧ Below w7.heap.size w7 W) ⟨KD.out, HBD.out⟩ ?_
                    clear KD HBD HSS hib hg9 habr hk19
                    rintro W9 ⟨k19, hb3⟩
                    have K19 := Lib.hid k19
                    have HB3 := Lib.hid hb3
                    clear k19 hb3
                    go_wp2
                    go_roundw
                    case rel => exact ⟨q + 1, by omega, by go_num, by rw [HAt.out]; simp [hzy'], K19.out, HB3.out⟩
                    case measure => simp [intOf] <;> omega
              · obtain rfl : q = nX := by omega
                rw [List.take_of_length_le (by rw [← HNX.out]; exact Nat.le_refl _)]
                have ca1 : wr.cell? ⟨ab, aoff + i, none⟩ = some (.int .i64 y) := cell_keep HAy.out HB3.out
                have habr := World.block_lt_of_cell? _ _ ca1
                have HCw := Lib.hid (row_keep HCr.out HB3.out)
                obtain ⟨sm, hsm⟩ : ∃ sm, sm = anyX X y Py := ⟨_, rfl⟩
                rw [← hsm] at HOr ⊢
                clear hsm K19
                go_wp2_with fail
                refine (plhas_any ca nC ccap (chL S since) y wr HCw.out).mono ?_
                rintro e w9 ⟨rfl, rfl⟩
                clear HCw ca1
                obtain ⟨td, htd⟩ : ∃ td, td = decide (y ∈ chL S since) := ⟨_, rfl⟩
                have HTT : Hid (sm = true ∨ td = true) := Lib.hid (HOr.out.imp id (fun c => by rw [htd]; simpa using c))
                rw [← htd]
                clear htd HOr
                cases sm with
                | true =>
                  go_wp2
                  go_roundw
                  case rel => exact ⟨i + 1, by omega, by go_num, HB3.out⟩
                  case measure => simp [intOf] <;> omega
                | false =>
                  obtain rfl : td = true := HTT.out.elim (fun c => by cases c) id
                  go_wp2
                  go_roundw
                  case rel => exact ⟨i + 1, by omega, by go_num, HB3.out⟩
                  case measure => simp [intOf] <;> omega
          · obtain rfl : i = nA := by omega
            clear hin
            go_wp2
            go_loopw [24, 25, 26] (fun v24 _ _ wq => ∃ q : Nat, q ≤ nX ∧ v24 = .int .i64 q ∧ Below w7.heap.size w7 wq) (fun v24 _ _ _ => nX - (intOf v24).toNat)
            case atStart => exact ⟨0, by omega, rfl, HB3.out⟩
            case round =>
              clear HB3
              obtain ⟨q, hq, rfl, hb3⟩ := hrel
              have HB3 := Lib.hid hb3
              clear hb3
              by_cases hqn : q < nX
              · have q0 : (0 : Int) ≤ (q : Int) := by omega
                have q1 : (q : Int) < (nX : Int) := by omega
                obtain ⟨ib, ioff, z, rfl, hz, cz⟩ := row_at (row_keep HIr.out HB3.out) hqn
                obtain ⟨r, hr, hrz⟩ := fst_at hz
                have hib := World.block_lt_of_cell? _ _ cz
                have HOr : Hid (z ∈ alS S ∨ z ∈ goL S since) := Lib.hid (hrz ▸ gone_or HTd.out (List.mem_of_getElem? hr))
                have HAw := Lib.hid (row_keep HAr.out HB3.out)
                have HGw := Lib.hid (row_keep HGr.out HB3.out)
                clear hz hr hrz
                go_wp2_with fail
                refine (plhas_any aa i acap (alS S) z wr HAw.out).mono ?_
                rintro e w9 ⟨rfl, rfl⟩
                go_wp2_with fail
                refine (plhas_any ga nG gcap (goL S since) z wr HGw.out).mono ?_
                rintro e w9 ⟨rfl, rfl⟩
                clear HAw HGw cz
                obtain ⟨t1, ht1⟩ : ∃ t1, t1 = decide (z ∈ alS S) := ⟨_, rfl⟩
                obtain ⟨t2, ht2⟩ : ∃ t2, t2 = decide (z ∈ goL S since) := ⟨_, rfl⟩
                have HTT : Hid (t1 = true ∨ t2 = true) := Lib.hid (HOr.out.imp (fun c => by rw [ht1]; simpa using c) (fun c => by rw [ht2]; simpa using c))
                rw [← ht1, ← ht2]
                clear ht1 ht2 HOr
                cases t1 with
                | true =>
                  go_wp2
                  go_roundw
                  case rel => exact ⟨q + 1, by omega, by go_num, HB3.out⟩
                  case measure => simp [intOf] <;> omega
                | false =>
                  obtain rfl : t2 = true := HTT.out.elim (fun c => by cases c) id
                  go_wp2
                  go_roundw
                  case rel => exact ⟨q + 1, by omega, by go_num, HB3.out⟩
                  case measure => simp [intOf] <;> omega
              · obtain rfl : q = nX := by omega
                go_wp2_with fail
                refine (alive8_any HCC.out _).mono ?_
                rintro e w9 ⟨rfl, b9⟩
                replace HBel := Lib.hid (bthen (bthen HBel.out HB3.out) b9)
                clear b9
                go_wp2
                go_ret
                exact ⟨rfl, HBel.out⟩

end
end Go.Proofs.YtcpgkkphibhdfaaGreat
