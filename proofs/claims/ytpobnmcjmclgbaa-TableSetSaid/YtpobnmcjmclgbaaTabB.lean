/-
  Tables as a set: a step of the law keeps the rows; rows and acts in memory.
-/
import Derived.Test.YtpobnmcjmclgbaaTabA
namespace Go.Proofs.Ytpobnmcjmclgbaa
open Go.RowKit

theorem inv_put {s : Int} {R T : TR} (hI : Inv s R T) {i : Nat} (hi : i < R.length) {P : PT} (hf : fitsB s P = true) : Inv s (R.set i (R[i].1, P)) (T.map fun x => if x.1 == R[i].1 then (x.1, P) else x) := by
  have hm := set_map hI.2.1 hi P
  refine ⟨?_, ?_, fun x hx => ?_⟩
  · rw [← hm]; exact hI.1.map _
  · have e : (R.set i (R[i].1, P)).map Prod.fst = R.map Prod.fst := by
      rw [← hm, List.map_map]
      refine List.map_congr_left (fun x _ => ?_)
      show (if x.1 == R[i].1 then (x.1, P) else x).1 = x.1
      split <;> rfl
    rw [e]; exact hI.2.1
  · rcases List.mem_or_eq_of_mem_set hx with h | h
    · exact hI.2.2 x h
    · rw [h]; exact hf
theorem inv_cut {s : Int} {R T : TR} (hI : Inv s R T) {i : Nat} (hi : i < R.length) : Inv s ((R.set i (R.getD (R.length - 1) d0)).take (R.length - 1)) (T.filter fun x => x.1 != R[i].1) := by
  have hp := cut_filter hI.2.1 hi
  refine ⟨(hI.1.filter _).trans hp, ?_, fun x hx => ?_⟩
  · refine ((hp.map Prod.fst).nodup_iff).1 ?_
    exact (List.filter_sublist.map Prod.fst).nodup hI.2.1
  · have := hp.mem_iff.2 hx
    exact hI.2.2 x (List.mem_filter.1 this).1
theorem inv_add {s : Int} {R T : TR} (hI : Inv s R T) {id : Int} {P : PT} (hf : fitsB s P = true) (hn : hasId R id = false) : Inv s (R ++ [(id, P)]) (T ++ [(id, P)]) := by
  refine ⟨hI.1.append_right _, ?_, fun x hx => ?_⟩
  · rw [List.map_append, List.map_singleton, List.nodup_append]
    refine ⟨hI.2.1, by simp, fun a ha b hb e => ?_⟩
    have hb' : b = id := by simpa using hb
    subst hb'
    subst e
    obtain ⟨r, hr, e⟩ := List.mem_map.1 ha
    have : hasId R a = true := List.any_eq_true.2 ⟨r, hr, by simpa using e⟩
    rw [this] at hn
    cases hn
  · rcases List.mem_append.1 hx with h | h
    · exact hI.2.2 x h
    · have : x = (id, P) := by simpa using h
      rw [this]; exact hf
theorem inv_step {s : Int} {R T : TR} {k id : Int} {P : PT} {row x : Int} {Px : PT} (hI : Inv s R T) (he : actE s R k id P row = 0) (hx : inR R row = true → (x, Px) = R.getD row.toNat d0) (h0 : 0 ≤ k) (h3 : k ≤ 3) :
    Inv s (actR s R k id P row) (nxL (inR R row) x k P T ++ (if k < 2 then [(id, P)] else [])) := by
  obtain rfl | rfl | rfl | rfl : k = 0 ∨ k = 1 ∨ k = 2 ∨ k = 3 := by omega
  all_goals unfold actE at he
  all_goals unfold actR
  · have he : tadE s R id P = 0 := he
    show Inv s (tadR s R id P) (nxL (inR R row) x 0 P T ++ [(id, P)])
    have e : nxL (inR R row) x 0 P T = T := by
      unfold nxL
      rw [List.filter_eq_self.2 (fun y _ => by unfold nxK; simp), List.map_congr_left (g := _root_.id) (fun y _ => by unfold nx1; simp), List.map_id]
    rw [e]
    unfold tadR
    rw [if_pos he]
    unfold tadE at he
    by_cases f : fitsB s P = true
    · rw [if_pos f] at he
      by_cases c : hasId R id = true
      · rw [if_pos c] at he; cases he
      · exact inv_add hI f (by simpa using c)
    · rw [if_neg f] at he; cases he
  · have he : tadE s R id P = 0 := he
    show Inv s (tadR s R id P) (nxL (inR R row) x 1 P T ++ [(id, P)])
    have e : nxL (inR R row) x 1 P T = T := by
      unfold nxL
      rw [List.filter_eq_self.2 (fun y _ => by unfold nxK; simp), List.map_congr_left (g := _root_.id) (fun y _ => by unfold nx1; simp), List.map_id]
    rw [e]
    unfold tadR
    rw [if_pos he]
    unfold tadE at he
    by_cases f : fitsB s P = true
    · rw [if_pos f] at he
      by_cases c : hasId R id = true
      · rw [if_pos c] at he; cases he
      · exact inv_add hI f (by simpa using c)
    · rw [if_neg f] at he; cases he
  · have he : tpuE s R row P = 0 := he
    show Inv s (tpuR s R row P) (nxL (inR R row) x 2 P T ++ [])
    unfold tpuR
    rw [if_pos he, List.append_nil]
    unfold tpuE at he
    by_cases f : fitsB s P = true
    · rw [if_pos f] at he
      by_cases c : inR R row = true
      · obtain ⟨i, hi, rfl, hg⟩ := inR_spec c
        have hxi := hx c
        rw [hg] at hxi
        have ex : x = R[i].1 := congrArg Prod.fst hxi
        rw [hg, Int.toNat_natCast, c]
        have e : nxL true x 2 P T = T.map (fun y => if y.1 == R[i].1 then (y.1, P) else y) := by
          unfold nxL
          rw [List.filter_eq_self.2 (fun y _ => by unfold nxK; simp)]
          refine List.map_congr_left (fun y _ => ?_)
          unfold nx1
          rw [ex]
          simp
        rw [e]
        exact inv_put hI hi f
      · rw [if_neg c] at he; cases he
    · rw [if_neg f] at he; cases he
  · have he : tcuE R row = 0 := he
    show Inv s (tcuR R row) (nxL (inR R row) x 3 P T ++ [])
    unfold tcuE at he
    by_cases c : inR R row = true
    · unfold tcuR
      rw [if_pos c, List.append_nil]
      obtain ⟨i, hi, rfl, hg⟩ := inR_spec c
      have hxi := hx c
      rw [hg] at hxi
      have ex : x = R[i].1 := congrArg Prod.fst hxi
      rw [Int.toNat_natCast, c]
      have e : nxL true x 3 P T = T.filter (fun y => y.1 != R[i].1) := by
        unfold nxL
        rw [List.map_congr_left (g := _root_.id) (fun y _ => by unfold nx1; simp), List.map_id, ex]
        refine List.filter_congr (fun y _ => ?_)
        unfold nxK
        simp
      rw [e]
      exact inv_cut hI hi
    · rw [if_neg c] at he; cases he
/-- a row that is there is found -/
theorem find_mem {R : TR} (h : (R.map Prod.fst).Nodup) {x : Int × PT} (hx : x ∈ R) : inR R (findI R x.1) = true ∧ R.getD (findI R x.1).toNat d0 = x := by
  obtain ⟨i, hi, rfl⟩ := List.getElem_of_mem hx
  have e : R.findIdx? (fun r => r.1 == R[i].1) = some i := by
    rw [List.findIdx?_eq_some_iff_getElem]
    refine ⟨hi, by simp, fun j hj => ?_⟩
    intro c
    have := nodup_at h (i := j) (j := i) (by omega) hi (beq_iff_eq.1 c)
    omega
  have e2 : findI R R[i].1 = (i : Int) := by unfold findI; rw [e]
  rw [e2]
  refine ⟨by unfold inR; simp [hi], ?_⟩
  simp [List.getD, List.getElem?_eq_getElem hi]

/-! rows in memory -/
def rcells (x : Int × PT) : List Value := .int .i64 x.1 :: pl x.2
theorem rcells_len (x : Int × PT) : (rcells x).length = 25 := rfl
theorem rcells_one (x : Int × PT) : (rcells x).toArray.all (·.oneCell') = true := all_oneCell_toArray (fun v hv => by
  rcases List.mem_cons.1 hv with rfl | h
  · rfl
  · have := pl_one x.2
    rw [← Array.all_toList] at this
    exact List.all_eq_true.1 this v (by simpa using h))
def flatR (T : TR) : List Value := T.flatMap rcells
theorem flatR_len (T : TR) : (flatR T).length = T.length * 25 := by
  unfold flatR
  induction T with
  | nil => rfl
  | cons x r ih => rw [List.flatMap_cons, List.length_append, ih, rcells_len, List.length_cons]; omega
theorem flatR_snoc (T : TR) (x : Int × PT) : flatR (T ++ [x]) = flatR T ++ rcells x := by unfold flatR; simp
theorem flatR_at : ∀ (T : TR) (i : Nat) (x : Int × PT), T[i]? = some x → ((flatR T).drop (i * 25)).take 25 = rcells x
  | [], i, x, h => by simp at h
  | y :: r, 0, x, h => by
    have : y = x := by simpa using h
    subst this
    unfold flatR
    rw [List.flatMap_cons, Nat.zero_mul, List.drop_zero, List.take_append_of_le_length (by rw [rcells_len]; omega), List.take_of_length_le (by rw [rcells_len]; omega)]
  | y :: r, i + 1, x, h => by
    have ih := flatR_at r i x (by simpa using h)
    have e : flatR (y :: r) = rcells y ++ flatR r := by unfold flatR; rw [List.flatMap_cons]
    rw [e, show (i + 1) * 25 = (rcells y).length + i * 25 by rw [rcells_len]; omega, List.drop_append]
    simp [List.drop_of_length_le, ih]
theorem row_info : (Try.prog.info? 47).map (·.size) = some 25 := by kernel_rfl
/-- a slice that reads as rows, in a block of its own -/
def RRow (w : World) (a : Option Addr) (n : Nat) (T : TR) : Prop := T.length = n ∧ (n = 0 ∨ ∃ b, a = some ⟨b, 0, none⟩ ∧ b < w.heap.size ∧ w.rangeAt b 0 (flatR T))
theorem RRow.at_ {w : World} {a : Option Addr} {n : Nat} {T : TR} (h : RRow w a n T) {i : Nat} (hi : i < n) : ∃ b x, a = some ⟨b, 0, none⟩ ∧ T[i]? = some x ∧ w.rangeAt b (i * 25) (rcells x) := by
  rcases h.2 with h0 | ⟨b, rfl, hb, hr⟩
  · omega
  · have hi' : i < T.length := by rw [h.1]; exact hi
    refine ⟨b, T[i], rfl, List.getElem?_eq_getElem hi', ?_⟩
    rw [← flatR_at T i T[i] (List.getElem?_eq_getElem hi')]
    intro j v hv
    rw [List.getElem?_take] at hv
    by_cases c : j < 25
    · rw [if_pos c, List.getElem?_drop] at hv
      have := hr (i * 25 + j) v hv
      rwa [Nat.zero_add] at this
    · rw [if_neg c] at hv; cases hv
theorem range_same {w w' : World} {b o : Nat} {cs : List Value} (h : w.rangeAt b o cs) (e : w'.heap[b]? = w.heap[b]?) : w'.rangeAt b o cs := fun j v hv => by
  have := h j v hv
  simp only [World.cell?] at this ⊢
  rw [e]
  exact this
theorem RRow.keep {w w' : World} {a : Option Addr} {n : Nat} {T : TR} (h : RRow w a n T) (hb : Below w.heap.size w w') : RRow w' a n T := ⟨h.1, h.2.imp id (fun ⟨b, e, hl, hr⟩ => ⟨b, e, Nat.lt_of_lt_of_le hl hb.size, range_same hr (hb.block b hl)⟩)⟩
/-- not among these blocks -/
def Away (L : Nat → Prop) (a : Option Addr) (n : Nat) : Prop := n = 0 ∨ ∀ b, a = some ⟨b, 0, none⟩ → ¬ L b
theorem RRow.frame {w w' : World} {a : Option Addr} {n : Nat} {T : TR} {L : Nat → Prop} (h : RRow w a n T) (ha : Away L a n) (hf : Fr w w' L) : RRow w' a n T := by
  refine ⟨h.1, ?_⟩
  rcases h.2 with h0 | ⟨b, e, hl, hr⟩
  · exact .inl h0
  · rcases ha with h0 | ha
    · exact .inl h0
    · exact .inr ⟨b, e, Nat.lt_of_lt_of_le hl hf.2.2.2.1, range_same hr (hf.2.2.2.2 b hl (ha b e))⟩
/-- rows that the call itself appends -/
def OwnR (w : World) (base : Nat) (v : Value) (n : Nat) (T : TR) : Prop := w.ownsRow base 47 25 v n (flatR T)
theorem OwnR.nil (w : World) (base : Nat) : OwnR w base (.slice none 0 0) 0 [] := World.ownsRow_nil _ _ _ _
theorem OwnR.row {w : World} {base : Nat} {v : Value} {n : Nat} {T : TR} (h : OwnR w base v n T) : ∃ a cap, v = .slice a n cap ∧ RRow w a n T ∧ (n = 0 ∨ ∀ b, a = some ⟨b, 0, none⟩ → base ≤ b) := by
  have hl : T.length = n := by have := h.1; rw [flatR_len] at this; omega
  rcases h.2 with ⟨rfl, rfl⟩ | ⟨g, cap, cur, rfl, hb, hh, hnc, hm, hs, ht⟩
  · exact ⟨none, 0, rfl, ⟨hl, .inl rfl⟩, .inl rfl⟩
  · refine ⟨_, cap, rfl, ⟨hl, .inr ⟨g, rfl, (Array.getElem?_eq_some_iff.1 hh).1, fun j v hv => ?_⟩⟩, .inr (fun b e => by simp at e; omega)⟩
    rw [Nat.zero_add, World.ownsRow.cellAt h j (by have := (List.getElem?_eq_some_iff.1 hv).1; rw [flatR_len] at this; omega)]
    exact hv
theorem grownR_below {w0 wr w' : World} {base B : Nat} {v : Value} {n : Nat} {T : TR} {o : Obj} (ho : OwnR wr base v n T) (hB : B ≤ base) (hb : Below B w0 wr) (hs : B ≤ wr.heap.size) (hg : (wr.alloc o).grownBy w' v.ownBlock) : Below B w0 w' :=
  (hb.alloc hs o).grown hg (by simp; omega) (fun k hk => by have := World.ownsRow.lt ho k hk; omega)
theorem newsR (w : World) (X : List Value) (t : TypeId) : ∀ j u, X[j]? = some u → (w.alloc (.cells X.toArray t)).cell? ((⟨w.heap.size, 0, none⟩ : Addr).add j) = some u := by
  intro j u h
  rw [Go.WideShapes.add_plain, Nat.zero_add, (Blk.new w t X.toArray).cell j]
  simpa using h

/-! acts in memory -/
abbrev AT := Int × Int × PT × Int
def acells (x : AT) : List Value := .int .u8 x.1 :: .int .i64 x.2.1 :: (pl x.2.2.1 ++ [.int .i64 x.2.2.2])
theorem acells_len (x : AT) : (acells x).length = 27 := rfl
theorem acells_one (x : AT) : (acells x).toArray.all (·.oneCell') = true := all_oneCell_toArray (fun v hv => by
  rcases List.mem_cons.1 hv with rfl | h
  · rfl
  · rcases List.mem_cons.1 h with rfl | h
    · rfl
    · rcases List.mem_append.1 h with h | h
      · have := pl_one x.2.2.1
        rw [← Array.all_toList] at this
        exact List.all_eq_true.1 this v (by simpa using h)
      · have : v = .int .i64 x.2.2.2 := by simpa using h
        rw [this]; rfl)
theorem act_size (x : AT) : (Try.prog.info? 41).map (·.size) = some (acells x).length := by rw [acells_len]; kernel_rfl
theorem act_size' (x : AT) : (Try.prog.info? 41).map (·.size) = some (acells x).toArray.size := by rw [List.size_toArray, acells_len]; kernel_rfl
theorem rrow_size (x : Int × PT) : (Try.prog.info? 47).map (·.size) = some (rcells x).length := by rw [rcells_len]; kernel_rfl
theorem rrow_size' (x : Int × PT) : (Try.prog.info? 47).map (·.size) = some (rcells x).toArray.size := by rw [List.size_toArray, rcells_len]; kernel_rfl
def a0 : AT := (0, 0, zT, 0)
/-- a slice of acts that came in -/
def ARow (w : World) (a : Option Addr) (len : Nat) (acts : List AT) : Prop := acts.length = len ∧ len ≤ 9223372036854775807 ∧ (len = 0 ∨ ∃ b off, a = some ⟨b, off, none⟩ ∧ b < w.heap.size ∧ ∀ i, i < len → w.rangeAt b (off + i * 27) (acells (acts.getD i a0)) ∧ 0 ≤ (acts.getD i a0).1 ∧ (acts.getD i a0).1 ≤ 255)
theorem ARow.keep {w w' : World} {a : Option Addr} {n : Nat} {T : List AT} (h : ARow w a n T) (hb : Below w.heap.size w w') : ARow w' a n T := ⟨h.1, h.2.1, h.2.2.imp id (fun ⟨b, o, e, hl, hr⟩ => ⟨b, o, e, Nat.lt_of_lt_of_le hl hb.size, fun i hi => ⟨range_same (hr i hi).1 (hb.block b hl), (hr i hi).2⟩⟩)⟩

end Go.Proofs.Ytpobnmcjmclgbaa
