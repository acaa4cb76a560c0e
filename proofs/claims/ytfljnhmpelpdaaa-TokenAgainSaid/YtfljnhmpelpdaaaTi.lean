/- Tokens of any numbers: lists of them; as the document has them. -/
import Derived.Test.YtfljnhmpelpdaaaTexts
import Derived.Test.YtfljnhmpelpdaaaSame
import Derived.ChangeArms
import Derived.Test.YtfljnhmpelpdaaaLst
import Derived.Deep.RegionHeld3
import Derived.Deep.AppendLies
import Derived.StillTactics
import Derived.OwnWalk
import Derived.Laws.Pointers
import Derived.Deep.QuietTactic
import Derived.BigQuiet
namespace Go.Proofs.Ytfljnhmpelpdaaa
open Go.RowKit

structure Ti where
  k : Int
  t : ByteArray
  p : Int
def tic (x : Ti) : List Value := [.int .i64 x.k, .string x.t, .int .i64 x.p]
theorem tic_len (x : Ti) : (tic x).length = 3 := rfl
def toI (x : Tk) : Ti := ⟨x.k, x.t, x.p⟩
theorem cs_flat (l : List Tk) : cs l = (l.map toI).flatMap tic := by
  induction l with
  | nil => rfl
  | cons x l ih => rw [cs, ih]; rfl
theorem lst_of_cs {W : World} {B : Nat} {v : Value} {l : List Tk} (h : W.ownsRow B 42 3 v l.length (cs l)) : Lst tic W v (l.map toI) := by
  rw [cs_flat, show l.length = (l.map toI).length from by simp] at h
  exact Lst.of_row h

theorem ti_of {H : Type} {enc : TypeId × Value → H} {W : World} {n : Nat} {xs : List Value} {y : DataW H × List MemPlace} (h : DataW.trod enc Try.prog W 0 (fun _ => true) true n 42 xs = some y) (hl : xs.length = 3) : ∃ x : Ti, xs = tic x := by
  obtain ⟨ys, m, _, _, _, hys, hf⟩ := DataW.trod_struct under42 h
  have hfs := fields42
  have part : ∀ (j : Nat) (f : Field), (Try.prog.fieldsOf 42)[j]? = some f → ∃ y', DataW.trod enc Try.prog W 0 (fun _ => true) true m f.type ((xs.drop f.offset).take (Try.prog.cellsOf f.type)) = some y' := fun j f hj => by
    have hj2 : j < ys.length := by rw [hys]; exact (Array.getElem?_eq_some_iff.1 hj).1
    exact ⟨_, (hf j f hj).trans (List.getElem?_eq_getElem hj2)⟩
  match xs, hl with
  | [a, b, c], _ =>
    have hl3 : (Try.prog.fieldsOf 42).toList.length = 3 := by have := congrArg List.length hfs; simpa using this
    have f0 := congrArg (fun l => l[0]?) hfs
    have f1 := congrArg (fun l => l[1]?) hfs
    have f2 := congrArg (fun l => l[2]?) hfs
    simp only [List.getElem?_map, Array.getElem?_toList, List.getElem?_cons_zero, List.getElem?_cons_succ, Option.map_eq_some_iff, Prod.mk.injEq] at f0 f1 f2
    obtain ⟨g0, e0, _, t0, o0⟩ := f0
    obtain ⟨g1, e1, _, t1, o1⟩ := f1
    obtain ⟨g2, e2, _, t2, o2⟩ := f2
    have k3 : Try.prog.cellsOf 3 = 1 := by kernel_rfl
    have k9 : Try.prog.cellsOf 9 = 1 := by kernel_rfl
    obtain ⟨y0, h0⟩ := part 0 g0 e0
    obtain ⟨y1, h1⟩ := part 1 g1 e1
    obtain ⟨y2, h2⟩ := part 2 g2 e2
    rw [t0, o0, k3] at h0
    rw [t1, o1, k9] at h1
    rw [t2, o2, k3] at h2
    obtain ⟨x0, q0, _⟩ := trod_int_is Try.underlying3 h0
    obtain ⟨x1, q1, _⟩ := trod_string_is Try.underlying9 h1
    obtain ⟨x2, q2, _⟩ := trod_int_is Try.underlying3 h2
    simp only [List.drop_zero, List.drop_succ_cons, List.take_succ_cons, List.take_zero, List.cons.injEq, and_true] at q0 q1 q2
    subst q0 q1 q2
    exact ⟨⟨x0, x1, x2⟩, rfl⟩

def stc (s : ByteArray) : List Value := [.string s]
theorem stc_len (s : ByteArray) : (stc s).length = 1 := rfl
theorem info51 : (Try.prog.info? 51).map (fun i => (i.zero, i.size, i.bytes)) = some (some (.agg #[.int .i64 0, .string ⟨#[]⟩, .int .i64 0]), 3, 32) := by kernel_rfl

set_option maxRecDepth 100000 in
set_option maxHeartbeats 1000000 in
theorem of_any (l : List Ti) (v : Value) (w : World) (hl : l.length ≤ 100000) (ht : Lst tic w v l) :
    Calls Try.prog 11 #[v] w fun e w' => ∃ v', e = .returned v' ∧ w'.ownsRow w.heap.size 51 3 v' l.length (l.flatMap tic) ∧ Below w.heap.size w w' := by
  obtain ⟨i0, hi, hz0, hz1, hz2⟩ := info_parts info51
  have HT := Lib.hid ht
  obtain ⟨b, c, rfl⟩ := ht.slice
  clear ht
  go_enter Try.func11, Try.ntmps11
  go_wp2
  go_loopw [3, 4] (fun r i wr => ∃ k : Nat, k ≤ l.length ∧ i = .int .i64 (k : Int) ∧ wr.ownsRow w.heap.size 51 3 r k ((l.take k).flatMap tic) ∧ Below w.heap.size w wr) (fun _ i _ => l.length - (intOf i).toNat)
  case atStart => exact ⟨0, by omega, rfl, World.ownsRow_nil _ _ _ _, Below.refl _ _⟩
  case round =>
    obtain ⟨k, hk, rfl, hrow, hB⟩ := hrel
    by_cases hlt : k < l.length
    · have hlt' : (k : Int) < (l.length : Int) := by omega
      obtain ⟨g, o, c', x, hx, hv, hg, hc⟩ := HT.out.at_ tic_len hlt
      injection hv with hb _ hcc
      subst hb hcc
      have c0 := (hB.cell (p := ⟨g, o + k * 3 + 0, none⟩) hg).trans (hc 0 (by omega))
      have c1 := (hB.cell (p := ⟨g, o + k * 3 + 1, none⟩) hg).trans (hc 1 (by omega))
      have c2 := (hB.cell (p := ⟨g, o + k * 3 + 2, none⟩) hg).trans (hc 2 (by omega))
      simp [tic] at c0 c1 c2
      have HTK := Lib.hid (flat_take (ec := tic) l k x hx)
      have HR := Lib.hid hrow
      have HB := Lib.hid hB
      have hBs := hB.size
      clear hc hx hrow hB
      have hg2 : u3.ownBlock ≠ some g := fun e => by
        have := (HR.out.lt g e).1
        omega
      go_wp2_with fail
      go_region_held3 (fun w' => w'.cell? ⟨g, o + k * 3, none⟩ = some (.int .i64 x.k) ∧ w'.cell? ⟨g, o + k * 3 + 1, none⟩ = some (.string x.t) ∧ w'.cell? ⟨g, o + k * 3 + 2, none⟩ = some (.int .i64 x.p))
        (first | go_keep | (go_split_ands; refine ⟨?_, ?_, ?_⟩ <;> (rw [hgrow.cell_far _ (by simp; omega) (Ne.symm hg2)]; assumption)))
        ((refine step_append_lies _ (by rfl) _ _ _ (by rfl) w.heap.size 51 i0 _ 3 32 Try.underlying27 hi hz0 hz1 hz2 rfl (by omega) u3 k _ (by rfl) ((HR.out.alloc _).drew) ⟨wr.heap.size, 0, none⟩ 1 1 [.int .i64 x.k, .string x.t, .int .i64 x.p] (by rfl) (by rfl) (World.news_of_block (cs := #[.int .i64 x.k, .string x.t, .int .i64 x.p]) (t := 51) (fr := (0, 0)) (heap_alloc_new wr _)) (fun x hx => by simp at hx; rcases hx with rfl | rfl | rfl <;> rfl) (by omega) (by unfold maxLen; omega) (by omega) (by simp; omega) (wr.heap.size + 1) (by simp) ?_; intro gg cap w1 hown1 hgrow hat hlt2)) 
      have HO := Lib.hid hown1
      have HG := Lib.hid (Below.grown ((HB.out.alloc hBs (.cells #[.int .i64 x.k, .string x.t, .int .i64 x.p] 51)).drew) hgrow (by simp; omega) (fun j hj => (HR.out.lt j hj).1))
      clear hown1 hgrow
      go_wp2
      refine ⟨⟨k + 1, by omega, by go_num, ?_, HG.out⟩, ?_⟩
      · rw [HTK.out]
        exact HO.out
      · simp [intOf]; omega
    · have hge : (l.length : Int) ≤ (k : Int) := by omega
      have hkl : k = l.length := by omega
      subst hkl
      have HR := Lib.hid hrow
      have HB := Lib.hid hB
      clear hrow hB
      go_wp2
      go_ret
      refine ⟨_, rfl, ?_, HB.out⟩
      have := HR.out
      rw [List.take_length] at this
      exact this
end Go.Proofs.Ytfljnhmpelpdaaa
