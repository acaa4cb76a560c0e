/- A table of two rows; with its sides turned. -/
import Derived.Test.YtadodccciejghaaTCheck
import Derived.Test.YtadodccciejghaaClone
namespace Go.Proofs.Ytadodccciejghaa
open Go.RowKit
set_option maxRecDepth 100000
set_option maxHeartbeats 1000000

/-- what is left where something is wrong -/
def okL (q : Int) (l : List ByteArray) : List ByteArray := if q = 0 then l else []
/-- a table as a value -/
def Tab (W : World) (V : Value) (a b : List ByteArray) : Prop := ∃ x y, V = .agg #[x, y] ∧ Lst stc W x a ∧ Lst stc W y b ∧ NilFine x ∧ NilFine y
theorem Tab.below {W W' : World} {V : Value} {a b : List ByteArray} (h : Tab W V a b) (hb : Below W.heap.size W W') : Tab W' V a b := by
  obtain ⟨x, y, h1, h2, h3, h4⟩ := h
  exact ⟨x, y, h1, h2.below hb, h3.below hb, h4⟩
theorem nilfine_nil : NilFine (.slice none 0 0) := fun n c h => by cases h; exact ⟨rfl, rfl⟩
theorem Tab.nil {W : World} : Tab W (.agg #[.slice none 0 0, .slice none 0 0]) [] [] := ⟨_, _, rfl, Lst.nil, Lst.nil, nilfine_nil, nilfine_nil⟩

/-- .. whose rows are the call's own -/
def TabR (B : Nat) (W : World) (V : Value) (a b : List ByteArray) : Prop := ∃ x y, V = .agg #[x, y] ∧ W.ownsRow B 9 1 x a.length (a.flatMap stc) ∧ W.ownsRow B 9 1 y b.length (b.flatMap stc)
theorem TabR.tab {B : Nat} {W : World} {V : Value} {a b : List ByteArray} (h : TabR B W V a b) : Tab W V a b := by
  obtain ⟨x, y, h1, h2, h3⟩ := h
  exact ⟨x, y, h1, Lst.of_row h2, Lst.of_row h3, nilFine_row h2, nilFine_row h3⟩
theorem TabR.below {B : Nat} {W W' : World} {V : Value} {a b : List ByteArray} (h : TabR B W V a b) (hb : Below W.heap.size W W') : TabR B W' V a b := by
  obtain ⟨x, y, h1, h2, h3⟩ := h
  exact ⟨x, y, h1, row_below h2 hb, row_below h3 hb⟩
theorem TabR.set {B : Nat} {W : World} {V : Value} {a b : List ByteArray} (h : TabR B W V a b) {p : Addr} (hp : p.block < B) (z : Value) : TabR B (W.setCell p z) V a b := by
  obtain ⟨x, y, h1, h2, h3⟩ := h
  exact ⟨x, y, h1, row_set h2 hp z, row_set h3 hp z⟩
theorem TabR.mono {B B' : Nat} {W : World} {V : Value} {a b : List ByteArray} (h : TabR B W V a b) (hb : B' ≤ B) : TabR B' W V a b := by
  obtain ⟨x, y, h1, h2, h3⟩ := h
  exact ⟨x, y, h1, row_mono h2 hb, row_mono h3 hb⟩
theorem TabR.nil {B : Nat} {W : World} : TabR B W (.agg #[.slice none 0 0, .slice none 0 0]) [] [] := ⟨_, _, rfl, World.ownsRow_nil _ _ _ _, World.ownsRow_nil _ _ _ _⟩

theorem results_cell_two {P : Program} {fn : Func} {p q : Tmp} {ty : TypeId} (h : fn.results = #[.cell p ty, .tmp q]) (tmps : Array Value) (w : World) (g : Nat) (t : TypeId) (cs : Array Value) (fr : Nat × Nat) (d : TypeDesc) (v : Value)
    (hp : tmps.getD p undef = .pointer (some ⟨g, 0, none⟩)) (hq : tmps.getD q undef = v) (hg : w.heap[g]? = some (.cells cs t fr))
    (hu : P.underlying ty = some d) (hd : (match d with | .struct _ | .array _ _ => true | _ => false) = true) (hi : (P.info? ty).map (·.size) = some cs.size) :
    (results fn tmps).run P w = .ok (.tuple #[.agg cs, v]) w := by
  have hp' : tmps[p]?.getD undef = .pointer (some ⟨g, 0, none⟩) := by simpa using hp
  have hq' : tmps[q]?.getD undef = v := by simpa using hq
  simp [results, h, hp', hq', asAddr, run_loadVar_row w g t ty cs fr d hg hu hd hi]

theorem tof_any (a b : List ByteArray) (v u : Value) (w : World) (hv : Lst stc w v a) (hu : Lst stc w u b) (hz : ∀ x ∈ a, x.size ≤ maxLen) (hz' : ∀ x ∈ b, x.size ≤ maxLen) (hn : NilFine v) (hn' : NilFine u) :
    Calls Try.prog 18 #[v, u] w fun e w' => ∃ V, e = .returned (.tuple #[V, .int .i64 (checkF a b)]) ∧ TabR w.heap.size w' V (okL (checkF a b) a) (okL (checkF a b) b) ∧ Below w.heap.size w w' := by
  have HB := Lib.hid ((Below.refl w.heap.size w).alloc (Nat.le_refl _) (.cells #[.slice none 0 0, .slice none 0 0] 24))
  have HV := Lib.hid (hv.below HB.out)
  have HU := Lib.hid (hu.below HB.out)
  have HCK := Lib.hid (tcheck_any a b v u _ (hv.below HB.out) (hu.below HB.out) hz hz')
  have HN := Lib.hid hn
  have HN' := Lib.hid hn'
  have HK := Lib.hid (Blk.new w #[.slice none 0 0, .slice none 0 0] 24)
  obtain ⟨va, vc, rfl⟩ := hv.slice
  obtain ⟨ua, uc, rfl⟩ := hu.slice
  clear hv hu hz hz' hn hn'
  have hsz : (w.alloc (.cells #[.slice none 0 0, .slice none 0 0] 24)).heap.size = w.heap.size + 1 := by simp
  have HSZ := Lib.hid hsz
  clear hsz
  have HLN := Lib.hid (fun h : checkF a b = 0 => (check_ok a b).1 h)
  obtain ⟨q, hq⟩ : ∃ q, checkF a b = q := ⟨_, rfl⟩
  rw [hq] at HCK HLN ⊢
  clear hq
  by_cases h0 : q = 0
  · subst h0
    have hal : a.length ≤ 100000 := by have := (HLN.out rfl).1; omega
    have hbl : b.length ≤ 100000 := by have := (HLN.out rfl).1; have := (HLN.out rfl).2.1; omega
    rw [show okL 0 a = a from rfl, show okL 0 b = b from rfl]
    go_enter Try.func18, Try.ntmps18
    go_wp2_with fail
    refine HCK.out.mono ?_
    rintro e w1 ⟨rfl, b1⟩
    have B1 := Lib.hid (HB.out.trans (b1.mono HB.out.size))
    have V1 := Lib.hid (HV.out.below b1)
    have U1 := Lib.hid (HU.out.below b1)
    have K1 := Lib.hid (HK.out.below b1 (by rw [HSZ.out]; omega))
    have S1 := Lib.hid (show w.heap.size + 1 ≤ w1.heap.size by have := b1.size; rw [HSZ.out] at this; exact this)
    clear b1
    go_wp2_with fail
    refine (clone_any a _ _ hal V1.out HN.out).mono ?_
    rintro e w2 ⟨v2, rfl, l2, b2⟩
    have B2 := Lib.hid (B1.out.trans (b2.mono B1.out.size))
    have U2 := Lib.hid (U1.out.below b2)
    have K2 := Lib.hid (K1.out.below b2 (by have := S1.out; omega))
    have S2 := Lib.hid (show w.heap.size + 1 ≤ w2.heap.size by have := b2.size; have := S1.out; omega)
    have L2 := Lib.hid (row_mono l2 S1.out)
    clear b2 l2
    go_wp2_with fail
    refine (clone_any b _ _ hbl U2.out HN'.out).mono ?_
    rintro e w3 ⟨v3, rfl, l3, b3⟩
    have B3 := Lib.hid (B2.out.trans (b3.mono B2.out.size))
    have k3 := K2.out.below b3 (by have := S2.out; omega)
    have V3 := Lib.hid (row_below L2.out b3)
    have L3 := Lib.hid (row_mono l3 S2.out)
    obtain ⟨xa, xc, rfl⟩ := row_slice l3
    obtain ⟨ya, yc, rfl⟩ := row_slice L2.out
    have f0 := k3.frozen 0
    have f1 := k3.frozen 1
    have c0 := k3.cell 0
    have c1 := k3.cell 1
    simp at c0 c1
    have K3 := Lib.hid ((k3.set 0 (.slice ya a.length yc)).set 1 (.slice xa b.length xc))
    have B4 := Lib.hid ((B3.out.setCell (p := ⟨w.heap.size, 0, none⟩) (Nat.le_refl _) (.slice ya a.length yc)).setCell (p := ⟨w.heap.size, 1, none⟩) (Nat.le_refl _) (.slice xa b.length xc))
    have T4 := Lib.hid (show TabR w.heap.size ((w3.setCell ⟨w.heap.size, 0, none⟩ (.slice ya a.length yc)).setCell ⟨w.heap.size, 1, none⟩ (.slice xa b.length xc)) (.agg #[.slice ya a.length yc, .slice xa b.length xc]) a b from ⟨_, _, rfl, row_mono (row_set (row_set V3.out (by simp) _) (by simp) _) (Nat.le_succ _), row_mono (row_set (row_set L3.out (by simp) _) (by simp) _) (Nat.le_succ _)⟩)
    clear b3 l3 k3
    go_wp2
    refine bodyPost_ret (results_cell_two rfl _ _ w.heap.size 24 #[.slice ya a.length yc, .slice xa b.length xc] (0, 0) _ _ rfl rfl K3.out Try.underlying24 rfl (by kernel_rfl)) rfl ?_
    exact ⟨_, rfl, T4.out, B4.out⟩
  · have hne : (q != 0) = true := by rw [bne_iff_ne]; exact h0
    rw [show okL q a = [] from if_neg h0, show okL q b = [] from if_neg h0]
    clear h0
    go_enter Try.func18, Try.ntmps18
    go_wp2_with fail
    refine HCK.out.mono ?_
    rintro e w1 ⟨rfl, b1⟩
    have B1 := Lib.hid (HB.out.trans (b1.mono HB.out.size))
    have k1 := HK.out.below b1 (by rw [HSZ.out]; omega)
    have f0 := k1.frozen 0
    have f1 := k1.frozen 1
    have c0 := k1.cell 0
    have c1 := k1.cell 1
    simp at c0 c1
    have K2 := Lib.hid ((k1.set 0 (.slice none 0 0)).set 1 (.slice none 0 0))
    have B2 := Lib.hid ((B1.out.setCell (p := ⟨w.heap.size, 0, none⟩) (Nat.le_refl _) (.slice none 0 0)).setCell (p := ⟨w.heap.size, 1, none⟩) (Nat.le_refl _) (.slice none 0 0))
    clear b1 k1
    go_wp2
    refine bodyPost_ret (results_cell_two rfl _ _ w.heap.size 24 #[.slice none 0 0, .slice none 0 0] (0, 0) _ _ rfl rfl K2.out Try.underlying24 rfl (by kernel_rfl)) rfl ?_
    exact ⟨_, rfl, TabR.nil, B2.out⟩
end Go.Proofs.Ytadodccciejghaa
