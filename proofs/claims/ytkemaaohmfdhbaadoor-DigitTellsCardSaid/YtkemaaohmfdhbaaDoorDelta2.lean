/- Delta whole. -/
import Derived.Test.YtkemaaohmfdhbaaDoorDelta
import Derived.Laws.IdiomStrings
namespace Go.Proofs.YtkemaaohmfdhbaaDoor
open Go.RowKit Go.Shelf
attribute [local go_sem] Oper.semAt_some

theorem groups_iter (Bn n : Nat) (hn : n ≤ 2147483647) (w : World) (hB : Blk w Bn #[.int .i64 (n : Int)] 3) :
    Iter Fence.wide 4 Tryd.prog 29 #[.pointer (some ⟨Bn, 0, none⟩)] (fun x : UInt8 => #[Value.int .u8 (x.toNat : Int)]) (· = Bn) (fun A B => B.heap[Bn]? = A.heap[Bn]?) (fun xs => xs = grp n) (fun _ => True) 6 w :=
  fun l J Jx W hW hJ hY h0 => groups1_in l Bn n hn J Jx hJ W hY (hB.below hW hB.lt) h0

theorem mkgroups (n : Int) (w : World) :
    Calls Tryd.prog 24 #[.int .i64 n] w fun e w' => e = .returned (.func (.func 29) #[] #[.pointer (some ⟨w.heap.size, 0, none⟩)]) ∧ w' = w.alloc (.cells #[.int .i64 n] 3) := by
  have hmf : ∀ (fn : Fn) (first cap : Array Value) (w : World), (Instr.makeFunc fn first cap).run Tryd.prog w = .ok (.func fn first cap) w := fun _ _ _ _ => rfl
  go_enter Tryd.func24, Tryd.ntmps24
  go_wp2
  go_ret
  exact ⟨rfl, rfl⟩

theorem info5 : (Tryd.prog.info? 5).map (fun i => (i.zero, i.size, i.bytes)) = some (some (.int .u8 0), 1, 1) := by kernel_rfl

theorem ownsRow_mono {W : World} {b b' : Nat} {e : TypeId} {size : Nat} {v : Value} {n : Nat} {xs : List Value} (h : W.ownsRow b e size v n xs) (hb : b' ≤ b) : W.ownsRow b' e size v n xs := by
  obtain ⟨h1, h2⟩ := h
  refine ⟨h1, ?_⟩
  rcases h2 with h2 | ⟨g, cap, cur, h3, h4, h5⟩
  · exact .inl h2
  · exact .inr ⟨g, cap, cur, h3, Nat.le_trans hb h4, h5⟩

def bv (x : UInt8) : Value := .int .u8 (x.toNat : Int)
/-- between two rounds: the variable holds a slice that owns what has come -/
def Coll (w : World) (pre : List UInt8) (W : World) : Prop :=
  (∃ v, Boxed W w.heap.size 34 v ∧ W.ownsRow (w.heap.size + 2) 5 1 v pre.length (pre.map bv) ∧ True) ∧ Below w.heap.size w W

theorem coll_own (w : World) (B : Nat) (hB : w.heap.size ≤ B) : OwnFrom B (Coll w) :=
  OwnFrom.and (Own.from (holdsRow_own (w.heap.size + 2) w.heap.size 34 5 1 (fun pre : List UInt8 => pre.length) (fun pre => pre.map bv) (fun _ _ => True)) _) (ownFrom_below (Nat.le_refl _) hB)
theorem coll_stands (w : World) : Stands (· = w.heap.size + 1) (Coll w) := by
  rintro xs A B row ⟨⟨v, hv, hr, _⟩, hB⟩ hg hrow
  refine ⟨⟨v, hv.kept hg (fun e => by have := hrow _ e.symm; omega), hr.kept hg ?_, trivial⟩, hB.grown hg hB.size (fun k e => by have := hrow _ e; omega)⟩
  by_cases h : v.ownBlock = none
  · exact .inl h
  · refine .inr fun e => ?_
    obtain ⟨k, hk⟩ := Option.ne_none_iff_exists'.1 h
    have := (hr.lt k hk).1
    have := hrow k (by rw [← e, hk])
    omega

/-- all that a round's append owes: the box before the store; what it holds behind; the row; what lies as it lay -/
theorem collected {W w1 : World} {n B b : Nat} {t e : TypeId} {v v' : Value} {k m : Nat} {xs ys : List Value} {tmp : Obj} {size : Nat}
    (hv : Boxed W B t v) (hte : t ≠ e) (hrow : W.ownsRow b e size v k xs) (hn : n ≤ W.heap.size) (hB : n ≤ B) (hb : n ≤ b)
    (hown' : w1.ownsRow b e size v' m ys) (hgrow : (W.alloc tmp).grownBy w1 v.ownBlock) :
    Boxed w1 B t v ∧ Boxed (w1.setCell ⟨B, 0, none⟩ v') B t v' ∧ (w1.setCell ⟨B, 0, none⟩ v').ownsRow b e size v' m ys ∧ KeepsOthers W (w1.setCell ⟨B, 0, none⟩ v') ∧ Below n W (w1.setCell ⟨B, 0, none⟩ v') ∧
      (∀ c, c < b → c ≠ B → c < W.heap.size → (w1.setCell ⟨B, 0, none⟩ v').heap[c]? = W.heap[c]?) := by
  obtain ⟨h1, h2, h3, h4, h5⟩ := hv.appended hte (ownsRow_mono hrow hb) hn hB (ownsRow_mono hown' hb) hgrow
  refine ⟨h1, h2, hown'.kept (grownBy_setCell' w1 B v') (.inr (h1.not_row hte hown').symm), h4, h5, fun c hc hcB hcs => ?_⟩
  refine (Below.heap_setCell w1 ⟨B, 0, none⟩ v' c hcB).trans ((hgrow.block c (by simp; omega) (fun e' => ?_)).trans (Below.heap_alloc W tmp c hcs))
  have := (hrow.lt c e'.symm).1
  omega

theorem delta_no (n : Int) (w : World) (h : n < 0 ∨ 2147483647 < n) : Calls Tryd.prog 16 #[.int .i64 n] w fun e w' => e = .returned (.tuple #[.string ⟨#[]⟩, .int .i64 3]) ∧ Below w.heap.size w w' := by
  go_enter Tryd.func16, Tryd.ntmps16
  go_wp2_with fail
  refine (isNumber_no _ _ h).mono ?_
  rintro e w' ⟨rfl, rfl⟩
  go_wp2
  go_ret2
  exact ⟨rfl, Below.refl _ _⟩

set_option maxRecDepth 100000 in
set_option maxHeartbeats 2000000 in
theorem delta_yes (n : Nat) (w : World) (hn : n ≤ 2147483647) :
    Calls Tryd.prog 16 #[.int .i64 (n : Int)] w fun e w' => e = .returned (.tuple #[.string ⟨(grp n).toArray⟩, .int .i64 0]) ∧ Below w.heap.size w w' := by
  obtain ⟨i0, hi, hz0, hz1, hz2⟩ := info_parts info5
  refine (callsIn_wide (n := 5)).1 ?_
  refine callsIn_of_wp_marks Tryd.func16 rfl trivial ?_ rfl
  simp only [Tryd.ntmps16, List.size_toArray, List.length_cons, List.length_nil, Nat.reduceAdd, Nat.reduceSub, Array.replicate_succ, Array.replicate_zero, List.push_toArray, List.append_toArray, List.nil_append, List.cons_append]
  gi_wp2_with fail
  refine ⟨trivial, (callsIn_wide.2 (isNumber_yes _ _ (by omega) (by omega))).mono ?_⟩
  rintro e w' ⟨rfl, rfl⟩
  gi_wp2_with fail
  refine ⟨trivial, (callsIn_wide.2 (mkgroups _ _)).mono ?_⟩
  rintro e w' ⟨rfl, rfl⟩
  gi_wp2
  have bO := Boxed.new w 34 (.slice none 0 0)
  have bN := Blk.new (w.alloc (.cells #[.slice none 0 0] 34)) #[.int .i64 (n : Int)] 3
  rw [World.size_alloc] at bN
  have hB0 : Below w.heap.size w ((w.alloc (.cells #[.slice none 0 0] 34)).alloc (.cells #[.int .i64 (n : Int)] 3)) := ((Below.refl _ w).alloc (Nat.le_refl _) _).alloc (by simp) _
  refine range_over (gf := 29) (lb := #[.pointer (some ⟨w.heap.size + 1, 0, none⟩)]) rfl (by omega) rfl trivial (enters_of Tryd.func29 (by kernel_rfl) rfl)
    (groups_iter (w.heap.size + 1) n hn _ bN) (fun r hr => by simp; omega) (fun h k => k.trans h) (fun W l o hl => World.putObj_heap_other (by simp at hl; omega)) (fun _ => rfl)
    (Coll w) (fun _ _ _ => False) (coll_own w _ (by simp; omega)) (coll_stands w) (fun _ _ _ _ _ hs _ _ => hs)
    ⟨⟨_, bO.alloc _, World.ownsRow_nil _ _ _ _, trivial⟩, hB0⟩
    (fun x => { tmps := #[.int .i64 (n : Int), undef, .string ⟨#[]⟩, .int .i64 0, .pointer (some ⟨w.heap.size, 0, none⟩), .int .u8 (x.toNat : Int), .int .i64 (n : Int), .bool true, .bool false, .int .i64 (n : Int), .func (.func 29) #[] #[.pointer (some ⟨w.heap.size + 1, 0, none⟩)], .int .u8 (x.toNat : Int), undef, undef, undef, undef, undef, undef], defers := [] }) ?assign ?body ?done ?stop
  case assign =>
    intro l x W K hK
    gi_wp2
    exact hK
  case body =>
    rintro l pre x W hsz ⟨⟨v, hv, hrow, _⟩, hB⟩ hlt
    have hc := hv.cell
    gi_wp2_with (gi_at_builtin; refine wpListIn_append_own _ rfl _ _ 34 rfl (w.heap.size + 2) 5 i0 (.int .u8 0) 1 1 Tryd.underlying34 hi hz0 hz1 hz2 rfl (by decide) _ _ _ rfl (hrow.alloc _) ⟨W.heap.size, 0, none⟩ 1 1 [bv x] rfl rfl (cell_one_new _ _ _) (by simp [bv, Value.oneCell']) (by unfold maxLen; omega) (by omega) (by simp at hsz ⊢; omega) ?_; intro v' w1 hown' hgrow _; obtain ⟨g', cap', rfl⟩ := ownsRow_succ hown'; obtain ⟨hv1, hv2, hr2, hk2, hb2, hq2⟩ := collected hv (by decide) hrow hB.size (Nat.le_refl _) (by omega) hown' hgrow; have hc1 := hv1.cell; have hf1 := hv1.frozen)
    exact ⟨hk2.from _, hq2 _ (by omega) (by omega) (by simp at hsz; omega), ⟨_, hv2, by simpa using hr2, trivial⟩, hB.trans hb2⟩
  case done =>
    rintro D ys W hD rfl ⟨⟨v, hv, hrow, _⟩, hB⟩ hK
    have hc := hv.cell
    obtain ⟨k, hk⟩ : ∃ k, (grp n).length = k + 1 := ⟨(grp n).length - 1, by have := grp_pos n; omega⟩
    have hrow2 := hrow
    rw [hk] at hrow2
    obtain ⟨g, cap, rfl⟩ := ownsRow_succ hrow2
    have hcv := run_convert_bytes_back (P := Tryd.prog) W 34 9 5 ⟨g, 0, none⟩ cap (grp n) Tryd.underlying34 Tryd.underlying5 Tryd.underlying9 (fun j hj => by
      have := hrow.cells (g := g) rfl j (bv (grp n)[j]) (by simp [List.getElem?_eq_getElem hj])
      simpa [bv] using this)
    rw [hk] at hcv
    clear hrow2
    have HR := Lib.hid hrow
    clear hrow
    gi_wp2
    refine ⟨by simp, .inl ⟨_, _, rfl, run_takeDeferred hK, ?_⟩⟩
    exact ⟨_, results_tmp2 rfl _ _ _, rfl, hB.trans (belowK_b (w := w) (Nat.le_refl _) W D _ _ (by simp at hD; omega) hK rfl rfl)⟩
  case stop =>
    rintro D c pre W _ _ h _
    exact h.elim
end Go.Proofs.YtkemaaohmfdhbaaDoor
