/- Where a net is. -/
import Derived.Test.YtfkmolbcgnkfdaaDoorNets
namespace Go.Proofs.YtfkmolbcgnkfdaaDoor
open Go.RowKit
attribute [local go_sem] Oper.semAt_some
set_option maxRecDepth 100000
set_option maxHeartbeats 1000000

theorem placeL_range : ∀ (l : List ByteArray) (s : ByteArray), -1 ≤ placeL l s ∧ placeL l s < l.length
  | [], s => by simp [placeL]
  | x :: l, s => by
    have := placeL_range l s
    rw [placeL]
    simp only [List.length_cons]
    split
    · omega
    · split <;> omega
theorem placeL_at : ∀ (l : List ByteArray) (s : ByteArray) (k : Nat) (x : ByteArray), (∀ y ∈ l.take k, y ≠ s) → l[k]? = some x → x = s → placeL l s = (k : Int)
  | [], s, k, x, _, h, _ => by simp at h
  | y :: l, s, 0, x, _, h, e => by
    simp at h
    subst h e
    rw [placeL, if_pos (stEq_self _)]
    rfl
  | y :: l, s, k + 1, x, h0, h, e => by
    have ih := placeL_at l s k x (fun z hz => h0 z (by rw [List.take_succ_cons]; exact List.mem_cons_of_mem _ hz)) (by simpa using h) e
    have hy : ¬ stEq y s = true := fun h => h0 y (by simp) ((stEq_iff y s).1 h)
    rw [placeL, if_neg hy, ih, if_neg (by omega)]
    omega
theorem placeL_none : ∀ (l : List ByteArray) (s : ByteArray), (∀ y ∈ l, y ≠ s) → placeL l s = -1
  | [], _, _ => rfl
  | y :: l, s, h => by
    have hy : ¬ stEq y s = true := fun e => h y (by simp) ((stEq_iff y s).1 e)
    rw [placeL, if_neg hy, placeL_none l s (fun z hz => h z (by simp [hz])), if_pos rfl]

theorem index_any (l : List ByteArray) (v : Value) (s : ByteArray) (w : World) (hl : l.length ≤ 1000000) (ht : Lst stc w v l) :
    Calls Tryd.prog 57 #[v, .string s] w fun e w' => e = .returned (.int .i64 (placeL l s)) ∧ w = w' := by
  have HT := Lib.hid ht
  obtain ⟨b, c, rfl⟩ := ht.slice
  clear ht
  obtain ⟨q, hq⟩ : ∃ q, placeL l s = q := ⟨_, rfl⟩
  rw [hq]
  have HQ := Lib.hid hq
  clear hq
  go_enter Tryd.func57, Tryd.ntmps57
  go_wp2
  go_loop [8] (fun i => ∃ k : Nat, k ≤ l.length ∧ i = .int .i64 (k : Int) ∧ Hid (∀ y ∈ l.take k, y ≠ s)) (fun i => l.length - (intOf i).toNat)
  case atStart => exact ⟨0, by omega, rfl, Lib.hid (by simp)⟩
  case round =>
    obtain ⟨k, hk, rfl, hall⟩ := hrel
    by_cases hlt : k < l.length
    · have hlt' : (k : Int) < (l.length : Int) := by omega
      obtain ⟨g, o, cc, x, hx, hv, hg, hc⟩ := HT.out.at_ stc_len hlt
      injection hv with hb _ hcc
      subst hb hcc
      have c0 := hc 0 (by omega)
      simp [stc] at c0
      by_cases he : x = s
      · obtain rfl : (k : Int) = q := by rw [← HQ.out]; exact (placeL_at l s k x hall.out hx he).symm
        have htl : (s.toList == x.toList) = true := by rw [he]; exact tl_self s
        clear hc hx he hall HQ
        go_wp2
        go_ret
        exact ⟨rfl, by first | rfl | trivial⟩
      · have htl : (s.toList == x.toList) = false := tl_ne s x (fun h => he h.symm)
        have hn : ∀ y ∈ l.take (k + 1), y ≠ s := by
          intro y hy
          rw [List.take_add_one, hx] at hy
          rcases List.mem_append.1 hy with hy | hy
          · exact hall.out y hy
          · simp at hy; rw [hy]; exact he
        have HN := Lib.hid hn
        clear hc hx he hall hn
        go_wp2
        refine ⟨⟨k + 1, by omega, by go_num, HN⟩, ?_⟩
        simp [intOf]; omega
    · have hge : (l.length : Int) ≤ (k : Int) := by omega
      obtain rfl : q = -1 := by
        rw [← HQ.out]
        refine placeL_none l s ?_
        have := hall.out
        rwa [List.take_of_length_le (by omega)] at this
      clear hall HQ
      go_wp2
      go_ret
      exact ⟨rfl, by first | rfl | trivial⟩
theorem netsC_len {c : Ci} (hf : Few c) : (netsC c).length ≤ 300000 := by
  have := hf.ins
  have := hf.las
  have := hf.gts
  simp [netsC]
  omega

theorem place_any (c : Ci) (a b l g : Value) (s : ByteArray) (w : World) (h : Cir w a b l g c) (hf : Few c) :
    Calls Tryd.prog 22 #[.agg #[a, b, l, g], .string s] w fun e w' => e = .returned (.int .i64 (placeL (netsC c) s)) ∧ Below w.heap.size w w' := by
  have H := Lib.hid h
  obtain ⟨pa, qa, pb, qb, pl, ql, pg, qg, rfl, rfl, rfl, rfl⟩ := h.slices
  have hnl := netsC_len hf
  have HF := Lib.hid hf
  clear h hf
  go_enter Tryd.func22, Tryd.ntmps22
  go_wp2_with fail
  have a1 : Below w.heap.size w (w.alloc (.cells #[.slice pa c.ins.length qa, .slice pb c.outs.length qb, .slice pl c.las.length ql, .slice pg c.gts.length qg] 26)) := ((Below.refl w.heap.size w).alloc (by first | exact Nat.le_refl _ | (simp only [World.size_alloc]; omega)) (.cells #[.slice pa c.ins.length qa, .slice pb c.outs.length qb, .slice pl c.las.length ql, .slice pg c.gts.length qg] 26))
  have T_new0 := (Blk.new w #[.slice pa c.ins.length qa, .slice pb c.outs.length qb, .slice pl c.las.length ql, .slice pg c.gts.length qg] 26)
  have KT_00 := Lib.hid T_new0
  clear T_new0
  have C_1 := Lib.hid (H.out.below a1)
  clear H
  have B_1 := Lib.hid a1
  clear a1
  generalize (w.alloc (.cells #[.slice pa c.ins.length qa, .slice pb c.outs.length qb, .slice pl c.las.length ql, .slice pg c.gts.length qg] 26)) = w1 at C_1 KT_00 B_1 ⊢
  refine (nets_any c _ _ _ _ _ C_1.out HF.out).mono ?_
  rintro e w2 ⟨v1, rfl, r1, b2⟩
  have C_2 := Lib.hid (C_1.out.below b2)
  clear C_1
  have KT_2 := Lib.hid (KT_00.out.below b2 KT_00.out.lt)
  clear KT_00
  have B_2 := Lib.hid (B_1.out.trans (b2.mono B_1.out.size))
  clear B_1
  clear b2
  obtain ⟨x, y, rfl⟩ := row_slice r1
  have R := Lib.hid r1
  clear r1
  go_wp2_with fail
  refine (index_any (netsC c) _ s _ (by omega) (Lst.of_row R.out)).mono ?_
  rintro e w' ⟨rfl, rfl⟩
  go_wp2
  go_ret
  exact ⟨rfl, B_2.out⟩

theorem rplace_any (c : Ci) (a b l g : Value) (s : ByteArray) (w : World) (h : Cir w a b l g c) (hf : Few c) :
    Calls Tryd.prog 20 #[.agg #[a, b, l, g], .string s] w fun e w' => e = .returned (.int .i64 (placeL (netsC c) s)) ∧ Below w.heap.size w w' := by
  obtain ⟨q, hq⟩ : ∃ q, placeL (netsC c) s = q := ⟨_, rfl⟩
  rw [hq]
  have HQ := Lib.hid hq
  clear hq
  have H := Lib.hid h
  obtain ⟨pa, qa, pb, qb, pl, ql, pg, qg, rfl, rfl, rfl, rfl⟩ := h.slices
  have hnl := netsC_len hf
  have HF := Lib.hid hf
  clear h hf
  go_enter Tryd.func20, Tryd.ntmps20
  go_wp2_with fail
  have a1 : Below w.heap.size w (w.alloc (.cells #[.slice pa c.ins.length qa, .slice pb c.outs.length qb, .slice pl c.las.length ql, .slice pg c.gts.length qg] 26)) := ((Below.refl w.heap.size w).alloc (by first | exact Nat.le_refl _ | (simp only [World.size_alloc]; omega)) (.cells #[.slice pa c.ins.length qa, .slice pb c.outs.length qb, .slice pl c.las.length ql, .slice pg c.gts.length qg] 26))
  have T_new0 := (Blk.new w #[.slice pa c.ins.length qa, .slice pb c.outs.length qb, .slice pl c.las.length ql, .slice pg c.gts.length qg] 26)
  have KT_00 := Lib.hid T_new0
  clear T_new0
  have C_1 := Lib.hid (H.out.below a1)
  clear H
  have B_1 := Lib.hid a1
  clear a1
  generalize (w.alloc (.cells #[.slice pa c.ins.length qa, .slice pb c.outs.length qb, .slice pl c.las.length ql, .slice pg c.gts.length qg] 26)) = w1 at C_1 KT_00 B_1 ⊢
  refine (rnets_any c _ _ _ _ _ C_1.out HF.out).mono ?_
  rintro e w2 ⟨v1, rfl, r1, b2⟩
  have C_2 := Lib.hid (C_1.out.below b2)
  clear C_1
  have KT_2 := Lib.hid (KT_00.out.below b2 KT_00.out.lt)
  clear KT_00
  have B_2 := Lib.hid (B_1.out.trans (b2.mono B_1.out.size))
  clear B_1
  clear b2
  obtain ⟨x, y, rfl⟩ := row_slice r1
  have HT := Lib.hid (Lst.of_row r1)
  clear r1
  generalize netsC c = ll at *
  go_wp2
  go_loop [6] (fun i => ∃ k : Nat, k ≤ ll.length ∧ i = .int .i64 (k : Int) ∧ Hid (∀ y ∈ ll.take k, y ≠ s)) (fun i => ll.length - (intOf i).toNat)
  case atStart => exact ⟨0, by omega, rfl, Lib.hid (by simp)⟩
  case round =>
    obtain ⟨k, hk, rfl, hall⟩ := hrel
    by_cases hlt : k < ll.length
    · have hlt' : (k : Int) < (ll.length : Int) := by omega
      obtain ⟨g, o, cc, ex, hx, hv, hg, hc⟩ := HT.out.at_ stc_len hlt
      injection hv with hb _ hcc
      subst hb hcc
      have c0 := hc 0 (by omega)
      simp [stc] at c0
      by_cases he : ex = s
      · obtain rfl : (k : Int) = q := by rw [← HQ.out]; exact (placeL_at ll s k ex hall.out hx he).symm
        have htl : (ex.toList == s.toList) = true := by rw [he]; exact tl_self s
        clear hc hx he hall HQ
        go_wp2
        go_ret
        exact ⟨rfl, B_2.out⟩
      · have htl : (ex.toList == s.toList) = false := tl_ne ex s he
        have hn : ∀ y ∈ ll.take (k + 1), y ≠ s := by
          intro y hy
          rw [List.take_add_one, hx] at hy
          rcases List.mem_append.1 hy with hy | hy
          · exact hall.out y hy
          · simp at hy; rw [hy]; exact he
        have HN := Lib.hid hn
        clear hc hx he hall hn
        go_wp2
        refine ⟨⟨k + 1, by omega, by go_num, HN⟩, ?_⟩
        simp [intOf]; omega
    · have hge : (ll.length : Int) ≤ (k : Int) := by omega
      obtain rfl : q = -1 := by
        rw [← HQ.out]
        refine placeL_none ll s ?_
        have := hall.out
        rwa [List.take_of_length_le (by omega)] at this
      clear hall HQ
      go_wp2
      go_ret
      exact ⟨rfl, B_2.out⟩
end Go.Proofs.YtfkmolbcgnkfdaaDoor
