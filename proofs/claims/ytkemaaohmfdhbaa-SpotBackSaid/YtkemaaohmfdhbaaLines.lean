/- Lines: the iterator that keeps the rest of the text in a captured variable, and the loop over it. -/
import Derived.Test.YtkemaaohmfdhbaaAt
import Derived.Test.YtkemaaohmfdhbaaSplit
import Derived.Test.YtkemaaohmfdhbaaRange
import Derived.RangeFuncNested
import Derived.RangeFuncBound
import Derived.RangeFuncCalls
import Derived.RangeFuncLeaves
import Derived.Shelf.Abstract
import Derived.Shelf.RegionOpen
import Derived.WalkKit
import Derived.OwnWalkIn
import Derived.TacticsInMore
import Derived.LoopNIn
import Derived.LoopIn
import Derived.Maps.AppendAt
namespace Go.Proofs.Ytkemaaohmfdhbaa
open Go.RowKit Go.Shelf
attribute [local go_sem] Oper.semAt_some

theorem index30 (s : ByteArray) (c : Int) (w : World) :
    Calls Try.prog 30 #[.string s, .int .u8 c] w fun e w' => e = .returned (.int .i64 (Lib.indexByte s.data.toList c.toNat.toUInt8)) ∧ w' = w := by
  go_enter Try.func30, Try.ntmps30
  go_wp2
  rw [run_callFunc_extern Try.func31 (by kernel_rfl) (by kernel_rfl) (by kernel_rfl) (e := Extern.BytealgIndexByte.indexByte) (by kernel_rfl), Lib.run_indexByteString]
  simp only [Result.andThen]
  rw [Oper.upon_value]
  go_wp2
  go_ret
  exact ⟨rfl, rfl⟩
theorem index27 (s : ByteArray) (c : Int) (w : World) :
    Calls Try.prog 27 #[.string s, .int .u8 c] w fun e w' => e = .returned (.int .i64 (Lib.indexByte s.data.toList c.toNat.toUInt8)) ∧ w' = w := by
  go_enter Try.func27, Try.ntmps27
  go_wp2_with (go_at_call 30; refine (index30 _ _ _).mono ?_; rintro e w' ⟨rfl, rfl⟩)
  go_ret
  exact ⟨rfl, rfl⟩

theorem index10 (s : ByteArray) (w : World) :
    Calls Try.prog 27 #[.string s, .int .u8 10] w fun e w' => e = .returned (.int .i64 (Lib.indexByte s.data.toList 10)) ∧ w = w' :=
  (index27 s 10 w).mono fun _ _ ⟨h1, h2⟩ => ⟨h1, h2.symm⟩

/-- bytes of a list of texts -/
def tx (l : List ByteArray) : List (List UInt8) := l.map fun x => x.data.toList

theorem ext0 (t : ByteArray) (e : Nat) : (t.extract 0 e).data.toList = t.data.toList.take e := by
  rw [ByteArray.data_extract, Array.toList_extract, List.extract_eq_take_drop, List.drop_zero, Nat.sub_zero]
theorem ext1 (t : ByteArray) (e : Nat) : (t.extract e t.size).data.toList = t.data.toList.drop e := by
  rw [ByteArray.data_extract, Array.toList_extract, List.extract_eq_take_drop, List.take_of_length_le (by simp)]

set_option maxRecDepth 100000 in
set_option maxHeartbeats 2000000 in
theorem lines1_in (l Bn : Nat) (s : ByteArray) (hs : s.size ≤ 4294967296) (J Jx : List ByteArray → World → Prop) (hJ : Stands (· = Bn) J) (W : World)
    (hY : ∀ pre x W1, J pre W1 → pre.length < s.size + 1 → YieldAt Fence.wide 3 Try.prog l #[.string x] W1 fun e W' =>
      (e = .returned (.bool true) ∧ J (pre ++ [x]) W' ∧ W'.heap[Bn]? = W1.heap[Bn]?) ∨ (e = .returned (.bool false) ∧ Jx (pre ++ [x]) W'))
    (hB : Blk W Bn #[.string s] 9) (h0 : J [] W) :
    CallsIn Fence.wide 4 Try.prog 26 #[.func (.yield l) #[] #[], .pointer (some ⟨Bn, 0, none⟩)] W fun e W' => (∃ v, e = .returned v) ∧
      ((∃ xs, tx xs = lns s.data.toList ∧ J xs W') ∨ (∃ pre, True ∧ Jx pre W')) := by
  have HJ := Lib.hid hJ
  have HY := Lib.hid hY
  clear hJ hY
  refine callsIn_of_wp Try.func26 rfl trivial ?_ rfl
  simp only [Try.ntmps26, List.size_toArray, List.length_cons, List.length_nil, Nat.reduceAdd, Nat.reduceSub, Array.replicate_succ, Array.replicate_zero, List.push_toArray, List.append_toArray, List.nil_append, List.cons_append]
  gi_wp2
  gi_loopw [] (fun wr => ∃ (pre : List ByteArray) (t : ByteArray), Blk wr Bn #[.string t] 9 ∧ t.size ≤ s.size ∧ pre.length + t.size ≤ s.size ∧ tx pre ++ lns t.data.toList = lns s.data.toList ∧ J pre wr)
    (fun wr => match wr.cell? ⟨Bn, 0, none⟩ with | some (.string t) => t.size | _ => 0)
  case atStart => exact ⟨[], s, hB, Nat.le_refl _, by simp, by simp [tx], h0⟩
  case round =>
    obtain ⟨pre, t, hb, ht, hlen, hsp, hJ0⟩ := hrel
    have hc := hb.cell 0
    have hf := hb.frozen 0
    simp at hc
    have hig := Lib.indexByte_ge t.data.toList 10
    have hSP := Lib.hid hsp
    clear hsp
    by_cases hn : Lib.indexByte t.data.toList 10 = -1
    · have hN := Lib.hid hn
      have hN2 := Lib.hid (lns_none _ hn)
      obtain ⟨fn, tmps, assign, body, hy, hR⟩ := HY.out pre t wr hJ0 (by omega)
      have hneg : Lib.indexByte t.data.toList 10 < 0 := by omega
      clear hn
      gi_wp2_with fail
      refine ⟨trivial, (callsIn_wide.2 (index10 t _)).mono ?_⟩
      rintro e w' ⟨rfl, rfl⟩
      gi_wp2
      refine hR.mono ?_
      rintro e W3 (⟨rfl, hJ3, hk3⟩ | ⟨rfl, hJx3⟩)
      · gi_wp2
        refine bodyPost_ret (results_none rfl _ _ _) rfl ?_
        exact ⟨⟨_, rfl⟩, .inl ⟨pre ++ [t], by rw [← hSP.out, hN2.out]; simp [tx], hJ3⟩⟩
      · gi_wp2
        refine bodyPost_ret (results_none rfl _ _ _) rfl ?_
        exact ⟨⟨_, rfl⟩, .inr ⟨pre ++ [t], trivial, hJx3⟩⟩
    · obtain ⟨k, hk⟩ : ∃ k : Nat, Lib.indexByte t.data.toList 10 = k := ⟨(Lib.indexByte t.data.toList 10).toNat, by omega⟩
      have hls := lns_some _ k hk
      have hkt : k < t.size := by simpa using hls.1
      have HL2 := Lib.hid hls.2
      obtain ⟨fn, tmps, assign, body, hy, hR⟩ := HY.out pre (t.extract 0 k) wr hJ0 (by omega)
      have HK := Lib.hid hk
      clear hls hk hn
      gi_wp2_with fail
      refine ⟨trivial, (callsIn_wide.2 (index10 t _)).mono ?_⟩
      rintro e w' ⟨rfl, rfl⟩
      rw [HK.out]
      gi_wp2
      refine hR.mono ?_
      rintro e W3 (⟨rfl, hJ3, hk3⟩ | ⟨rfl, hJx3⟩)
      · have hb3 : Blk W3 Bn #[.string t] 9 := hk3.trans hb
        have hc3 := hb3.cell 0
        have hf3 := hb3.frozen 0
        simp at hc3
        have HB3 := Lib.hid hb3
        clear hk3 hb3
        gi_wp2
        have hb4 := HB3.out.set 0 (.string (t.extract (k + 1) t.size))
        have hsz : (t.extract (k + 1) t.size).size = t.size - (k + 1) := by rw [ByteArray.size_extract]; omega
        refine ⟨⟨pre ++ [t.extract 0 k], t.extract (k + 1) t.size, hb4, by omega, by simp; omega, ?_, HJ.out _ _ _ _ hJ3 (grownBy_setCell' _ _ _) (fun r e => by cases e; rfl)⟩, ?_⟩
        · rw [← hSP.out, HL2.out, ext1]; simp [tx]
        · have h5 := hb4.cell 0
          simp at h5
          rw [h5, hc]
          simp only
          omega
      · gi_wp2
        refine bodyPost_ret (results_none rfl _ _ _) rfl ?_
        exact ⟨⟨_, rfl⟩, .inr ⟨_, trivial, hJx3⟩⟩

theorem lines_iter (Bn : Nat) (s : ByteArray) (hs : s.size ≤ 4294967296) (w : World) (hB : Blk w Bn #[.string s] 9) :
    Iter Fence.wide 4 Try.prog 26 #[.pointer (some ⟨Bn, 0, none⟩)] (fun x : ByteArray => #[Value.string x]) (· = Bn) (fun A B => B.heap[Bn]? = A.heap[Bn]?) (fun xs => tx xs = lns s.data.toList) (fun _ => True) (s.size + 1) w :=
  fun l J Jx W hW hJ hY h0 => lines1_in l Bn s hs J Jx hJ W hY (hB.below hW hB.lt) h0

theorem mklines (s : ByteArray) (w : World) :
    Calls Try.prog 22 #[.string s] w fun e w' => e = .returned (.func (.func 26) #[] #[.pointer (some ⟨w.heap.size, 0, none⟩)]) ∧ w' = w.alloc (.cells #[.string s] 9) := by
  have hmf : ∀ (fn : Fn) (first cap : Array Value) (w : World), (Instr.makeFunc fn first cap).run Try.prog w = .ok (.func fn first cap) w := fun _ _ _ _ => rfl
  go_enter Try.func22, Try.ntmps22
  go_wp2
  go_ret
  exact ⟨rfl, rfl⟩

theorem info9 : (Try.prog.info? 9).map (fun i => (i.zero, i.size, i.bytes)) = some (some (.string ⟨#[]⟩), 1, 16) := by kernel_rfl

theorem ownsRow_mono {W : World} {b b' : Nat} {e : TypeId} {size : Nat} {v : Value} {n : Nat} {xs : List Value} (h : W.ownsRow b e size v n xs) (hb : b' ≤ b) : W.ownsRow b' e size v n xs := by
  obtain ⟨h1, h2⟩ := h
  refine ⟨h1, ?_⟩
  rcases h2 with h2 | ⟨g, cap, cur, h3, h4, h5⟩
  · exact .inl h2
  · exact .inr ⟨g, cap, cur, h3, Nat.le_trans hb h4, h5⟩

/-- between two rounds: the variable holds a slice that owns what has come -/
def Coll (w : World) (pre : List ByteArray) (W : World) : Prop :=
  (∃ v, Boxed W w.heap.size 36 v ∧ W.ownsRow (w.heap.size + 2) 9 1 v pre.length (pre.map Value.string) ∧ True) ∧ Below w.heap.size w W

theorem coll_own (w : World) (B : Nat) (hB : w.heap.size ≤ B) : OwnFrom B (Coll w) :=
  OwnFrom.and (Own.from (holdsRow_own (w.heap.size + 2) w.heap.size 36 9 1 (fun pre : List ByteArray => pre.length) (fun pre => pre.map Value.string) (fun _ _ => True)) _) (ownFrom_below (Nat.le_refl _) hB)
theorem coll_stands (w : World) : Stands (· = w.heap.size + 1) (Coll w) := by
  rintro xs A B row ⟨⟨v, hv, hr, _⟩, hB⟩ hg hrow
  refine ⟨⟨v, hv.kept hg (fun e => by have := hrow _ e.symm; omega), hr.kept hg ?_, trivial⟩, hB.grown hg hB.size (fun k e => by have := hrow _ e; omega)⟩
  by_cases h : v.ownBlock = none
  · exact .inl h
  · refine .inr fun e => ?_
    obtain ⟨k, hk⟩ := Option.ne_none_iff_exists'.1 h
    have := (hr.lt k hk).1
    have := hrow k (by rw [← e, hk])
    omega

/-- all that a round's append owes: the box before the store; what it holds behind; the row; what lies as it lay -/
theorem collected {W w1 : World} {n B b : Nat} {t e : TypeId} {v v' : Value} {k m : Nat} {xs ys : List Value} {tmp : Obj} {size : Nat}
    (hv : Boxed W B t v) (hte : t ≠ e) (hrow : W.ownsRow b e size v k xs) (hn : n ≤ W.heap.size) (hB : n ≤ B) (hb : n ≤ b)
    (hown' : w1.ownsRow b e size v' m ys) (hgrow : (W.alloc tmp).grownBy w1 v.ownBlock) :
    Boxed w1 B t v ∧ Boxed (w1.setCell ⟨B, 0, none⟩ v') B t v' ∧ (w1.setCell ⟨B, 0, none⟩ v').ownsRow b e size v' m ys ∧ KeepsOthers W (w1.setCell ⟨B, 0, none⟩ v') ∧ Below n W (w1.setCell ⟨B, 0, none⟩ v') ∧
      (∀ c, c < b → c ≠ B → c < W.heap.size → (w1.setCell ⟨B, 0, none⟩ v').heap[c]? = W.heap[c]?) := by
  obtain ⟨h1, h2, h3, h4, h5⟩ := hv.appended hte (ownsRow_mono hrow hb) hn hB (ownsRow_mono hown' hb) hgrow
  refine ⟨h1, h2, hown'.kept (grownBy_setCell' w1 B v') (.inr (h1.not_row hte hown').symm), h4, h5, fun c hc hcB hcs => ?_⟩
  refine (Below.heap_setCell w1 ⟨B, 0, none⟩ v' c hcB).trans ((hgrow.block c (by simp; omega) (fun e' => ?_)).trans (Below.heap_alloc W tmp c hcs))
  have := (hrow.lt c e'.symm).1
  omega

set_option maxRecDepth 100000 in
set_option maxHeartbeats 2000000 in
theorem lines_any (s : ByteArray) (w : World) (hs : s.size ≤ 4294967296) :
    Calls Try.prog 16 #[.string s] w fun e w' => ∃ v xs, e = .returned v ∧ tx xs = lns s.data.toList ∧ w'.ownsRow (w.heap.size + 2) 9 1 v xs.length (xs.map Value.string) ∧ Below w.heap.size w w' := by
  obtain ⟨i0, hi, hz0, hz1, hz2⟩ := info_parts info9
  refine (callsIn_wide (n := 5)).1 ?_
  refine callsIn_of_wp_marks Try.func16 rfl trivial ?_ rfl
  simp only [Try.ntmps16, List.size_toArray, List.length_cons, List.length_nil, Nat.reduceAdd, Nat.reduceSub, Array.replicate_succ, Array.replicate_zero, List.push_toArray, List.append_toArray, List.nil_append, List.cons_append]
  gi_wp2_with fail
  refine ⟨trivial, (callsIn_wide.2 (mklines s _)).mono ?_⟩
  rintro e w' ⟨rfl, rfl⟩
  gi_wp2
  have bO := Boxed.new w 36 (.slice none 0 0)
  have bN := Blk.new (w.alloc (.cells #[.slice none 0 0] 36)) #[.string s] 9
  rw [World.size_alloc] at bN
  have hB0 : Below w.heap.size w ((w.alloc (.cells #[.slice none 0 0] 36)).alloc (.cells #[.string s] 9)) := ((Below.refl _ w).alloc (Nat.le_refl _) _).alloc (by simp) _
  refine range_over (gf := 26) (lb := #[.pointer (some ⟨w.heap.size + 1, 0, none⟩)]) rfl (by omega) rfl trivial (enters_of Try.func26 (by kernel_rfl) rfl)
    (lines_iter (w.heap.size + 1) s hs _ bN) (fun r hr => by simp; omega) (fun h k => k.trans h) (fun W l o hl => World.putObj_heap_other (by simp at hl; omega)) (fun _ => rfl)
    (Coll w) (fun _ _ _ => False) (coll_own w _ (by simp; omega)) (coll_stands w) (fun _ _ _ _ _ hs _ _ => hs)
    ⟨⟨_, bO.alloc _, World.ownsRow_nil _ _ _ _, trivial⟩, hB0⟩
    (fun x => { tmps := #[.string s, undef, .slice none 0 0, .pointer (some ⟨w.heap.size, 0, none⟩), .string x, .string s, .func (.func 26) #[] #[.pointer (some ⟨w.heap.size + 1, 0, none⟩)], .string x, undef, undef, undef, undef, undef], defers := [] }) ?assign ?body ?done ?stop
  case assign =>
    intro l x W K hK
    gi_wp2
    exact hK
  case body =>
    rintro l pre x W hsz ⟨⟨v, hv, hrow, _⟩, hB⟩ hlt
    have hc := hv.cell
    gi_wp2_with (gi_at_builtin; refine wpListIn_append_own _ rfl _ _ 36 rfl (w.heap.size + 2) 9 i0 (.string ⟨#[]⟩) 1 16 Try.underlying36 hi hz0 hz1 hz2 rfl (by decide) _ _ _ rfl (hrow.alloc _) ⟨W.heap.size, 0, none⟩ 1 1 [.string x] rfl rfl (cell_one_new _ _ _) (by simp [Value.oneCell']) (by unfold maxLen; omega) (by omega) (by simp at hsz ⊢; omega) ?_; intro v' w1 hown' hgrow _; obtain ⟨g', cap', rfl⟩ := ownsRow_succ hown'; obtain ⟨hv1, hv2, hr2, hk2, hb2, hq2⟩ := collected hv (by decide) hrow hB.size (Nat.le_refl _) (by omega) hown' hgrow; have hc1 := hv1.cell; have hf1 := hv1.frozen)
    exact ⟨hk2.from _, hq2 _ (by omega) (by omega) (by simp at hsz; omega), ⟨_, hv2, by simpa using hr2, trivial⟩, hB.trans hb2⟩
  case done =>
    rintro D ys W hD hS ⟨⟨v, hv, hrow, _⟩, hB⟩ hK
    have hc := hv.cell
    have HS := Lib.hid hS
    clear hS
    gi_wp2
    refine ⟨by simp, .inl ⟨_, _, rfl, run_takeDeferred hK, ?_⟩⟩
    exact ⟨_, results_tmp rfl _ _ _, v, ys, rfl, HS.out, ownsRow_putObj hrow _ hK rfl, hB.trans (belowK_b (w := w) (Nat.le_refl _) W D _ _ (by simp at hD; omega) hK rfl rfl)⟩
  case stop =>
    rintro D c pre W _ _ h _
    exact h.elim
end Go.Proofs.Ytkemaaohmfdhbaa
