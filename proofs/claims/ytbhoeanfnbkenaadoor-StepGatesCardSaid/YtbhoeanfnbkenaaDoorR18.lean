import Derived.Test.YtbhoeanfnbkenaaDoorR16
import Derived.Test.YtbhoeanfnbkenaaDoorR5
namespace Go.Proofs.YtbhoeanfnbkenaaDoor
open Go.RowKit Go.WideMaps
set_option maxRecDepth 100000
set_option linter.unusedSimpArgs false
variable (Hy : World → Prop)
attribute [local irreducible] runM runD cwp seqQ blkQ lpQ retQ asQ bdQ bdY retP endR preD retD
theorem twiceF_nodup : ∀ (l pre : List ByteArray), twiceF pre l = none → l.Nodup ∧ ∀ x ∈ l, x ∉ pre
  | [], _, _ => ⟨List.nodup_nil, fun x hx => (by cases hx)⟩
  | y :: l, pre, h => by
    unfold twiceF at h
    split at h
    · cases h
    · rename_i hy
      obtain ⟨h1, h2⟩ := twiceF_nodup l _ h
      refine ⟨List.nodup_cons.2 ⟨fun hm => h2 y hm (by simp), h1⟩, fun x hx => ?_⟩
      rcases List.mem_cons.1 hx with rfl | hx
      · exact hy
      · exact fun hm => h2 x hx (List.mem_append_left _ hm)
theorem cok_of {c : Ci} (h : (checkC c).1 = 0) : COk c := by
  have h1 : limitW c = none := by
    cases hl : limitW c with
    | none => rfl
    | some w =>
      have e : w = (8, noneT) := by
        unfold limitW at hl
        split at hl
        · cases hl; rfl
        · cases hl
      unfold checkC checkW at h
      rw [hl, e] at h
      exact absurd (show (8 : Int) = 0 from h) (by decide)
  have h2 : namesW (toldC c) = none := by
    cases hl : namesW (toldC c) with
    | none => rfl
    | some w =>
      unfold checkC checkW at h
      rw [h1, hl] at h
      unfold namesW at hl
      obtain ⟨s, _, rfl⟩ := Option.map_eq_some_iff.1 hl
      exact absurd (show (4 : Int) = 0 from h) (by decide)
  have h3 : twiceW (netsC c) = none := by
    cases hl : twiceW (netsC c) with
    | none => rfl
    | some w =>
      unfold checkC checkW at h
      rw [h1, h2, hl] at h
      unfold twiceW at hl
      obtain ⟨s, _, rfl⟩ := Option.map_eq_some_iff.1 hl
      exact absurd (show (5 : Int) = 0 from h) (by decide)
  obtain ⟨⟨l1, l2⟩, l3⟩ := limit_fit h1
  have hn := names_fit h2
  have hgt : ∀ g ∈ c.gts, ∀ s ∈ gtT g, s.size ≤ 40 := fun g hg s hs => name_size (hn s (by
    unfold toldC
    exact List.mem_append_right _ (List.mem_append_right _ (List.mem_append_right _ (List.mem_flatMap.2 ⟨g, hg, hs⟩)))))
  have hnd := (twiceF_nodup _ [] (Option.map_eq_none_iff.1 h3)).1
  unfold netsC at hnd
  have hnd2 : (c.gts.map (·.name)).Nodup := ((List.nodup_append.1 (List.nodup_append.1 hnd).2.1)).2.1
  refine ⟨⟨by omega, by omega, by omega, by omega⟩, by omega, fun g hg => (l3 g hg).1, fun g hg => Nat.le_trans (hgt g hg _ List.mem_cons_self) (by decide), fun g hg s hs => Nat.le_trans (hgt g hg _ (List.mem_cons_of_mem _ hs)) (by decide), fun i j hi hj e => ?_⟩
  refine (List.getElem?_inj (by rw [List.length_map]; exact hi) hnd2).1 ?_
  rw [List.getElem?_map, List.getElem?_map, gat_some hi, gat_some hj, Option.map_some, Option.map_some, e]
theorem comes_cm (c : Ci) (o : Nat → O) : Cm Tryd.prog Hy 44 [.ag (cA c)] o fun rs o' => ∃ g, rs = [.fn 78 [] [.ptr 6011 g 0]] ∧ o' 6011 = ⟨g, .cells 26 (cA c)⟩ ∧ Fr [6011] o o' := by
  refine cm_of (cls := fun d => 6010 + d) tt_ok follows_ Tryd.func44 rfl (by decide) (Nat.le_of_ble_eq_true rfl) ?_
  rw [show Tryd.f44.ntmps = 4 from rfl, s0_nf]
  simp only [List.zipIdx_cons, List.zipIdx_nil, List.map_cons, List.map_nil, Nat.reduceAdd, cA]
  repeat' first | refine c_seq ?_ | refine c_reg' rfl fun K E hK hE => ?_ | (refine r_opN fun κ η => ?_; simp only [go_sem, simprocAttr, Nat.le_refl]; refine η _ ?_; clear η κ) | (refine r_nil (hK _ ?_); clear hE hK E K) | refine q_seq ?_ | refine c_ret ?_ | (refine q_ret ?_; refine q_r1 ?_; simp only [go_sem, simprocAttr, Nat.le_refl])
  exact ⟨_, rfl, rfl, fr_nf (by simp)⟩
def bR (N : Nat) (th : Nat → Bool) : List (List T) := (List.range N).map fun i => [.b (th i)]
theorem bR_len (N : Nat) (th : Nat → Bool) : (bR N th).length = N := by simp [bR]
attribute [go_sem] bR_len
theorem bR_get {N : Nat} {th : Nat → Bool} {i : Nat} (h : i < N) : (bR N th)[i]? = some [.b (th i)] := by
  unfold bR
  rw [List.getElem?_map, List.getElem?_range h]
  rfl
theorem bR_set {N : Nat} {th : Nat → Bool} (i : Nat) : (bR N th).set i [.b true] = bR N (updB th i) := by
  unfold bR
  refine List.ext_getElem (by simp) fun j h1 h2 => ?_
  simp only [List.getElem_set, List.getElem_map, List.getElem_range, updB]
  by_cases e : i = j
  · subst e; simp
  · rw [if_neg e, decide_eq_false (fun e2 => e e2.symm), Bool.false_or]
theorem bR_zero (N : Nat) : List.replicate N [T.b false] = bR N (thOf []) := by
  unfold bR
  refine List.ext_getElem (by simp) fun i h1 h2 => ?_
  simp [thOf]
theorem bad_nf {n : Nat} {F : Nat → A} {G : Nat → O} {ts : List (Nat × A)} {os : List (Nat × O)} (h : ∀ p ∈ os.map (·.1), ¬ badL p) : ∀ i, badL i → (nf n F G ts os).o i = G i := fun _ hi => lookO_other fun p hp e => h p hp (e ▸ hi)
theorem never_mem (gs : List Gt) (k : Nat) : (sortG gs).2 k = thOf (sortG gs).1 k := by
  unfold sortG
  rw [sortF_mem]
  rfl
def nevP (gs : List Gt) (k : Nat) : List ByteArray := ((List.range k).filter fun k => !thOf (sortG gs).1 k).map fun k => (gat gs k).name
theorem nevP_all (gs : List Gt) : nevP gs gs.length = neverG gs := by
  unfold nevP neverG
  simp only [never_mem]
theorem nevP_succ (gs : List Gt) (k : Nat) : nevP gs (k + 1) = nevP gs k ++ if thOf (sortG gs).1 k = true then [] else [(gat gs k).name] := by
  unfold nevP
  rw [List.range_succ, List.filter_append, List.map_append]
  cases hc : thOf (sortG gs).1 k <;> simp [List.filter_cons, hc]
theorem nevP_len (gs : List Gt) (k : Nat) : (nevP gs k).length ≤ k := by
  unfold nevP
  rw [List.length_map]
  exact Nat.le_trans (List.length_filter_le _ _) (by simp)
theorem sortF_lt (gs : List Gt) : ∀ (n : Nat) (th : Nat → Bool), (sortF gs n th).1.length ≤ n ∧ ∀ x ∈ (sortF gs n th).1, x < gs.length
  | 0, _ => ⟨Nat.le_refl _, fun x hx => (by cases hx)⟩
  | n + 1, th => by
    cases h : firstF gs th with
    | none => rw [sortF, h]; exact ⟨Nat.zero_le _, fun x hx => (by cases hx)⟩
    | some k =>
      obtain ⟨h1, h2⟩ := sortF_lt gs n (updB th k)
      rw [sortF_step h]
      have hk := List.mem_range.1 (List.mem_of_find?_eq_some h)
      exact ⟨Nat.succ_le_succ h1, fun x hx => by
        rcases List.mem_cons.1 hx with rfl | hx
        · exact hk
        · exact h2 x hx⟩
structure SoI (c : Ci) (g1 g g6 g7 q7 : Nat) (n : Nat) (o : Nat → O) : Prop where
  a : o 1 = ⟨g1, .cells 26 (cA c)⟩
  b : o 6011 = ⟨g, .cells 26 (cA c)⟩
  p : ∃ x, o 6 = ⟨g6, .cells 29 [x]⟩ ∧ Acc o 29 3 1 (iR (castL ((sortG c.gts).1.take n))) x
  d : o 7 = ⟨g7, .cells 49 [.row 22 q7]⟩
  r : o 22 = ⟨q7, .row 4 1 (bR c.gts.length (thOf ((sortG c.gts).1.take n)))⟩
theorem SoI.fr {c : Ci} {g1 g g6 g7 q7 n : Nat} {o o' : Nat → O} (h : SoI c g1 g g6 g7 q7 n o) (hf : FrL o o') : SoI c g1 g g6 g7 q7 n o' := by
  obtain ⟨x, h1, h2⟩ := h.p
  refine ⟨by rw [hf _ (by unfold badL; omega)]; exact h.a, by rw [hf _ (by unfold badL; omega)]; exact h.b, ⟨x, by rw [hf _ (by unfold badL; omega)]; exact h1, ?_⟩, by rw [hf _ (by unfold badL; omega)]; exact h.d, by rw [hf _ (by unfold badL; omega)]; exact h.r⟩
  rcases h2 with h2 | ⟨q, e, h2⟩
  · exact .inl h2
  · exact .inr ⟨q, e, by rw [hf _ (by unfold badL; omega)]; exact h2⟩
theorem SoI.up {c : Ci} {g1 g g6 g7 q7 n k : Nat} {o o2 : Nat → O} {xx : A} (hat : (sortG c.gts).1[n]? = some k) (h : SoI c g1 g g6 g7 q7 n o) (h1 : o2 1 = o 1) (hb : o2 6011 = o 6011) (hp : o2 6 = ⟨g6, .cells 29 [xx]⟩) (hx : Acc o2 29 3 1 (iR (castL ((sortG c.gts).1.take n)) ++ [[.i .i64 k]]) xx) (hd : o2 7 = o 7) (hr : o2 22 = ⟨q7, .row 4 1 (bR c.gts.length (updB (thOf ((sortG c.gts).1.take n)) k))⟩) : SoI c g1 g g6 g7 q7 (n + 1) o2 := by
  have e : (sortG c.gts).1.take (n + 1) = (sortG c.gts).1.take n ++ [k] := by rw [List.take_add_one, hat]; rfl
  refine ⟨h1.trans h.a, hb.trans h.b, ⟨xx, hp, ?_⟩, hd.trans h.d, ?_⟩
  · rw [e]
    unfold castL at *
    rw [List.map_append, iR_app]
    exact hx
  · rw [e, ← thOf_snoc]
    exact hr
def sortC (c : Ci) : List Nat × List ByteArray := if (checkC c).1 = 0 then ((sortG c.gts).1, neverG c.gts) else ([], [])
set_option maxHeartbeats 4000000 in
theorem sort_ct (c : Ci) (hr : CRoom c) (hgo : GOk c.gts) (hlo : LOk c.las) : Ct Tryd.prog Hy 14 [.ag (cE c)] [.sl (iR (castL (sortC c).1)), .sl (sR (sortC c).2)] := by
  have hck := fun (o : Nat → O) => Cm.of_ct (o := o) (check_ct Hy c hr hgo hlo)
  have hco := comes_cm Hy c
  by_cases h0 : (checkC c).1 = 0
  · have hc := cok_of h0
    have hn := hc.n200
    have hs : sortC c = ((sortG c.gts).1, neverG c.gts) := if_pos h0
    have hit := fun (g : Nat) (I : Nat → (Nat → O) → Prop) hI hB (o : Nat → O) h0 lb => comes_it Hy c hc (g := g) (I := I) hI hB (o := o) h0 lb
    have hz := bR_zero c.gts.length
    obtain ⟨hsl, hsk⟩ := sortF_lt c.gts c.gts.length none_
    rw [hs]
    obtain ⟨ins, outs, las, gts⟩ := c
    have h0' := eq_true h0
    simp only [cE, cA] at hck hco hn hz hsl hsk ⊢
    refine ct_of (cls := _root_.id) tt_ok follows_ Tryd.func14 rfl (by decide) (Nat.le_of_ble_eq_true rfl) ?_
    rw [show Tryd.f14.ntmps = 54 from rfl, s0_nf]
    simp only [List.zipIdx_cons, List.zipIdx_nil, List.map_cons, List.map_nil, Nat.reduceAdd, cE]
    repeat' first | refine c_seq ?_ | refine c_reg' rfl fun K E hK hE => ?_ | (refine r_opN fun κ η => ?_; simp only [go_sem, simprocAttr, Nat.le_refl]; refine η _ ?_; clear η κ) | (refine r_nil (hK _ ?_); clear hE hK E K) | refine q_seq ?_
    refine r_callF fun κ η => ?_; simp only [go_sem, simprocAttr, Nat.le_refl]; refine ⟨_, (hck _), ?_⟩; rintro _ _ ⟨rfl, rfl⟩; simp only [go_sem, simprocAttr, Nat.le_refl]; refine η _ ?_; clear η κ
    repeat' first | refine c_seq ?_ | refine c_reg' rfl fun K E hK hE => ?_ | (refine r_opN fun κ η => ?_; simp only [go_sem, simprocAttr, Nat.le_refl, h0', hz]; (repeat refine ⟨by omega, ?_⟩); refine η _ ?_; clear η κ) | (refine r_nil (hK _ ?_); clear hE hK E K) | refine q_seq ?_ | refine c_cond false rfl (fun h => (by cases h)) fun _ => ?_ | refine c_skip ?_
    refine r_call fun κ η => ?_; simp only [go_sem, simprocAttr, Nat.le_refl]; refine ⟨_, hco _, ?_⟩; rintro _ o2 ⟨g, rfl, h6, hF⟩; simp only [go_sem, simprocAttr, Nat.le_refl]; refine η _ ?_; clear η κ
    repeat' first | refine c_block ?_ | (refine r_nil (hK _ ?_); clear hE hK E K) | refine q_seq ?_
    refine c_rangeY (YL (sortG gts).1 (SoI ⟨ins, outs, las, gts⟩ 1 g 1 1 1)) _ rfl (fun lb => hit g (SoI ⟨ins, outs, las, gts⟩ 1 g 1 1 1) (fun n o o' => SoI.fr) (fun n o h => h.b) _ ?_ lb) (fun args o1 Rb hy => ?_) (fun rs o' hr => ?_)
    · exact ⟨(hF 1 (by simp)).trans rfl, h6, ⟨.nilS, (hF 6 (by simp)).trans rfl, .inl ⟨rfl, rfl⟩⟩, (hF 7 (by simp)).trans rfl, (hF 22 (by simp)).trans rfl⟩
    · obtain ⟨n, k, rfl, hat, hi, hRb⟩ := hy
      refine ⟨rfl, ?_⟩
      have hkm : k < gts.length := hsk k (List.mem_of_getElem? hat)
      have hnl : n < (sortG gts).1.length := (List.getElem?_eq_some_iff.1 hat).1
      have hnl2 : (sortG gts).1.length ≤ gts.length := hsl
      have hup := fun (o2 : Nat → O) (xx : A) => SoI.up (o2 := o2) (xx := xx) (c := ⟨ins, outs, las, gts⟩) hat hi
      obtain ⟨x, h6c, hx⟩ := hi.p
      have h7 := hi.d
      have h22 := hi.r
      have hset := bR_set (N := gts.length) (th := thOf ((sortG gts).1.take n)) k
      have hbg := bR_get (th := thOf ((sortG gts).1.take n)) hkm
      have hlen : (iR (castL ((sortG gts).1.take n))).length ≤ 1000000 := by
        rw [iR_len, castL_len, List.length_take]
        omega
      simp only at h22 hx hup
      generalize iR (castL ((sortG gts).1.take n)) = rw0 at hup hx hlen
      simp only [go_sem]
      repeat' first | refine c_reg' rfl fun K E hK hE => ?_ | (refine r_opN fun κ η => ?_; simp only [go_sem, simprocAttr, Nat.le_refl]; refine η _ ?_; clear η κ) | (refine r_nil (hK _ ?_); clear hE hK E K)
      refine q_as ?_
      rcases hx with ⟨rfl, rfl⟩ | ⟨q, rfl, hr2⟩
      · repeat' first | refine c_seq ?_ | refine c_block ?_ | refine c_reg' rfl fun K E hK hE => ?_ | (refine r_opN fun κ η => ?_; simp only [go_sem, simprocAttr, Nat.le_refl, h6c, h7, h22, hbg, hset]; (repeat refine ⟨by omega, ?_⟩); refine η _ ?_; clear η κ) | (refine r_nil (hK _ ?_); clear hE hK E K) | refine q_seq ?_ | refine q_blk ?_
        refine q_by (hRb _ ?_ ?_)
        · exact hup _ _ rfl rfl rfl (.inr ⟨_, rfl, rfl⟩) rfl rfl
        · exact bad_nf (by simp [badL])
      · repeat' first | refine c_seq ?_ | refine c_block ?_ | refine c_reg' rfl fun K E hK hE => ?_ | (refine r_opN fun κ η => ?_; simp only [go_sem, simprocAttr, Nat.le_refl, h6c, h7, h22, hbg, hset, hr2]; (repeat refine ⟨by omega, ?_⟩); refine η _ ?_; clear η κ) | (refine r_nil (hK _ ?_); clear hE hK E K) | refine q_seq ?_ | refine q_blk ?_
        refine q_by (hRb _ ?_ ?_)
        · exact hup _ _ rfl rfl rfl (.inr ⟨_, rfl, rfl⟩) rfl rfl
        · exact bad_nf (by simp [badL])
    · obtain ⟨rfl, hi⟩ := hr
      obtain ⟨x, h6c, hx⟩ := hi.p
      have h1 := hi.a
      have h7 := hi.d
      have h22 := hi.r
      simp only [List.take_length] at h22 hx
      simp only [cA] at h1
      clear h6 hF hi
      repeat' first | refine c_seq ?_ | refine c_block ?_ | refine c_reg' rfl fun K E hK hE => ?_ | (refine r_opN fun κ η => ?_; simp only [go_sem, simprocAttr, Nat.le_refl, h1]; (repeat refine ⟨by omega, ?_⟩); refine η _ ?_; clear η κ) | (refine r_nil (hK _ ?_); clear hE hK E K) | refine q_seq ?_ | refine q_blk ?_
      refine c_loop (fun m s' => ∃ k : Nat, m = gts.length - k ∧ k ≤ gts.length ∧ ∃ F G0 yy, s' = nf 54 F G0 [(6, .ptr 6 1 0), (7, .ptr 7 1 0), (9, yy), (34, .t (.sl (gsR gts))), (35, .t (.i .i64 gts.length)), (36, .t (.i .i64 k))] [] ∧ G0 6 = ⟨1, .cells 29 [x]⟩ ∧ Acc G0 29 3 1 (iR (castL (sortG gts).1)) x ∧ G0 7 = ⟨1, .cells 49 [.row 22 1]⟩ ∧ G0 22 = ⟨1, .row 4 1 (bR gts.length (thOf (sortG gts).1))⟩ ∧ Acc G0 50 9 1 (sR (nevP gts k)) yy) gts.length ?_ ?_
      · exact ⟨0, by omega, by omega, _, _, _, nf_of rfl ⟨rfl, rfl, rfl, rfl, rfl, rfl, trivial⟩ trivial, h6c, hx, h7, h22, .inl ⟨rfl, rfl⟩⟩
      clear h1 h6c hx h7 h22
      rintro m s' ⟨k, rfl, hk, F, G0, yy, rfl, h6c, hx, h7, h22, hy⟩
      repeat' first | refine c_seq ?_ | refine c_reg' rfl fun K E hK hE => ?_ | (refine r_opN fun κ η => ?_; simp only [go_sem, simprocAttr, Nat.le_refl]; refine η _ ?_; clear η κ) | (refine r_nil (hK _ ?_); clear hE hK E K) | refine q_seq ?_
      refine c_cond _ rfl (fun hq => ?_) (fun hq => ?_)
      · simp only [decide_eq_true_eq] at hq
        have hkl : k < gts.length := by omega
        have hx' := gsR_get (gat_some hkl)
        have hbg := bR_get (th := thOf (sortG gts).1) hkl
        have hnx := nevP_succ gts k
        cases hb : thOf (sortG gts).1 k with
        | true =>
          rw [hb] at hbg
          rw [if_pos hb, List.append_nil] at hnx
          repeat' first | refine c_seq ?_ | refine c_block ?_ | refine c_reg' rfl fun K E hK hE => ?_ | (refine r_opN fun κ η => ?_; simp only [go_sem, simprocAttr, Nat.le_refl, hx', h7, h22, hbg]; (repeat refine ⟨by omega, ?_⟩); refine η _ ?_; clear η κ) | (refine r_nil (hK _ ?_); clear hE hK E K) | refine q_seq ?_ | refine c_cond false rfl (fun h => (by cases h)) fun _ => ?_ | refine q_blk ?_ | refine c_skip ?_ | refine q_lpN ?_
          exact ⟨gts.length - (k + 1), by omega, k + 1, rfl, by omega, _, _, _, nf_of rfl ⟨rfl, rfl, rfl, rfl, rfl, rfl, trivial⟩ trivial, h6c, hx, h7, h22, by rw [hnx]; exact hy⟩
        | false =>
          rw [hb] at hbg
          rw [if_neg (by rw [hb]; decide)] at hnx
          have hs2 : sR (nevP gts (k + 1)) = sR (nevP gts k) ++ [[.s (gat gts k).name]] := by rw [hnx, sR_app]; rfl
          have hlen : (sR (nevP gts k)).length ≤ 1000000 := by
            have := nevP_len gts k
            rw [sR_len]
            omega
          rcases hy with ⟨h0, rfl⟩ | ⟨q, rfl, hr2⟩
          · rw [h0] at hs2
            repeat' first | refine c_seq ?_ | refine c_block ?_ | refine c_reg' rfl fun K E hK hE => ?_ | (refine r_opN fun κ η => ?_; simp only [go_sem, simprocAttr, Nat.le_refl, hx', h7, h22, hbg]; (repeat refine ⟨by omega, ?_⟩); refine η _ ?_; clear η κ) | (refine r_nil (hK _ ?_); clear hE hK E K) | refine q_seq ?_ | refine c_cond true rfl (fun _ => ?_) (fun h => (by cases h)) | refine q_blk ?_ | refine c_skip ?_ | refine q_lpN ?_
            exact ⟨gts.length - (k + 1), by omega, k + 1, rfl, by omega, _, _, _, nf_of rfl ⟨rfl, rfl, rfl, rfl, rfl, rfl, trivial⟩ trivial, h6c, hx, h7, h22, .inr ⟨_, rfl, by rw [hs2]; rfl⟩⟩
          · generalize sR (nevP gts k) = rw0 at hr2 hs2 hlen
            repeat' first | refine c_seq ?_ | refine c_block ?_ | refine c_reg' rfl fun K E hK hE => ?_ | (refine r_opN fun κ η => ?_; simp only [go_sem, simprocAttr, Nat.le_refl, hx', h7, h22, hbg, hr2]; (repeat refine ⟨by omega, ?_⟩); refine η _ ?_; clear η κ) | (refine r_nil (hK _ ?_); clear hE hK E K) | refine q_seq ?_ | refine c_cond true rfl (fun _ => ?_) (fun h => (by cases h)) | refine q_blk ?_ | refine c_skip ?_ | refine q_lpN ?_
            exact ⟨gts.length - (k + 1), by omega, k + 1, rfl, by omega, _, _, _, nf_of rfl ⟨rfl, rfl, rfl, rfl, rfl, rfl, trivial⟩ trivial, h6c, hx, h7, h22, .inr ⟨_, rfl, by rw [hs2]; rfl⟩⟩
      · simp only [decide_eq_false_iff_not] at hq
        obtain rfl : k = gts.length := by omega
        rw [nevP_all] at hy
        rcases hx with ⟨x0, rfl⟩ | ⟨q, rfl, hr2⟩ <;> rcases hy with ⟨y0, rfl⟩ | ⟨q', rfl, hr3⟩
        · rw [x0, y0]
          repeat' first | refine c_seq ?_ | refine c_reg' rfl fun K E hK hE => ?_ | (refine r_opN fun κ η => ?_; simp only [go_sem, simprocAttr, Nat.le_refl, h6c]; refine η _ ?_; clear η κ) | (refine r_nil (hK _ ?_); clear hE hK E K) | refine q_seq ?_ | refine c_exit ?_ | refine c_ret ?_ | refine q_seqE ?_ | refine q_blkHit ?_ | refine q_lpE ?_ | (refine q_ret ?_; refine q_r1 ?_; simp only [go_sem, simprocAttr, Nat.le_refl, h6c])
        · rw [x0]
          repeat' first | refine c_seq ?_ | refine c_reg' rfl fun K E hK hE => ?_ | (refine r_opN fun κ η => ?_; simp only [go_sem, simprocAttr, Nat.le_refl, h6c, hr3]; refine η _ ?_; clear η κ) | (refine r_nil (hK _ ?_); clear hE hK E K) | refine q_seq ?_ | refine c_exit ?_ | refine c_ret ?_ | refine q_seqE ?_ | refine q_blkHit ?_ | refine q_lpE ?_ | (refine q_ret ?_; refine q_r1 ?_; simp only [go_sem, simprocAttr, Nat.le_refl, h6c, hr3])
        · rw [y0]
          repeat' first | refine c_seq ?_ | refine c_reg' rfl fun K E hK hE => ?_ | (refine r_opN fun κ η => ?_; simp only [go_sem, simprocAttr, Nat.le_refl, h6c, hr2]; refine η _ ?_; clear η κ) | (refine r_nil (hK _ ?_); clear hE hK E K) | refine q_seq ?_ | refine c_exit ?_ | refine c_ret ?_ | refine q_seqE ?_ | refine q_blkHit ?_ | refine q_lpE ?_ | (refine q_ret ?_; refine q_r1 ?_; simp only [go_sem, simprocAttr, Nat.le_refl, h6c, hr2])
        · repeat' first | refine c_seq ?_ | refine c_reg' rfl fun K E hK hE => ?_ | (refine r_opN fun κ η => ?_; simp only [go_sem, simprocAttr, Nat.le_refl, h6c, hr2, hr3]; refine η _ ?_; clear η κ) | (refine r_nil (hK _ ?_); clear hE hK E K) | refine q_seq ?_ | refine c_exit ?_ | refine c_ret ?_ | refine q_seqE ?_ | refine q_blkHit ?_ | refine q_lpE ?_ | (refine q_ret ?_; refine q_r1 ?_; simp only [go_sem, simprocAttr, Nat.le_refl, h6c, hr2, hr3])
  · have hs : sortC c = ([], []) := if_neg h0
    rw [hs]
    obtain ⟨ins, outs, las, gts⟩ := c
    have h0' := eq_false h0
    simp only [cE] at hck ⊢
    refine ct_of (cls := _root_.id) tt_ok follows_ Tryd.func14 rfl (by decide) (Nat.le_of_ble_eq_true rfl) ?_
    rw [show Tryd.f14.ntmps = 54 from rfl, s0_nf]
    simp only [List.zipIdx_cons, List.zipIdx_nil, List.map_cons, List.map_nil, Nat.reduceAdd, cE]
    repeat' first | refine c_seq ?_ | refine c_reg' rfl fun K E hK hE => ?_ | (refine r_opN fun κ η => ?_; simp only [go_sem, simprocAttr, Nat.le_refl]; refine η _ ?_; clear η κ) | (refine r_nil (hK _ ?_); clear hE hK E K) | refine q_seq ?_
    refine r_callF fun κ η => ?_; simp only [go_sem, simprocAttr, Nat.le_refl]; refine ⟨_, (hck _), ?_⟩; rintro _ _ ⟨rfl, rfl⟩; simp only [go_sem, simprocAttr, Nat.le_refl]; refine η _ ?_; clear η κ
    repeat' first | refine c_seq ?_ | refine c_reg' rfl fun K E hK hE => ?_ | (refine r_opN fun κ η => ?_; simp only [go_sem, simprocAttr, Nat.le_refl, h0']; refine η _ ?_; clear η κ) | (refine r_nil (hK _ ?_); clear hE hK E K) | refine q_seq ?_ | refine c_cond true rfl (fun _ => ?_) (fun h => (by cases h)) | refine c_ret ?_ | refine q_seqR ?_ | (refine q_ret ?_; refine q_r1 ?_; simp only [go_sem, simprocAttr, Nat.le_refl, h0'])
    rfl
end Go.Proofs.YtbhoeanfnbkenaaDoor
namespace Go.Proofs.YtbhoeanfnbkenaaDoor
open Go.RowKit Go.WideMaps
set_option maxRecDepth 100000
set_option linter.unusedSimpArgs false
end Go.Proofs.YtbhoeanfnbkenaaDoor
namespace Go.Proofs.YtbhoeanfnbkenaaDoor
open Go.RowKit Go.WideMaps
set_option maxRecDepth 100000
set_option linter.unusedSimpArgs false
variable (Hy : World → Prop)
attribute [local irreducible] runM runD cwp seqQ blkQ lpQ retQ asQ bdQ bdY retP endR preD retD
def checkO (c : Ci) : Int × ByteArray := if (checkC c).1 = 0 then (match neverG c.gts with
  | [] => (0, noneT)
  | x :: _ => (7, x)) else checkC c
set_option maxHeartbeats 4000000 in
theorem ocheck_ct (c : Ci) (hr : CRoom c) (hgo : GOk c.gts) (hlo : LOk c.las) : Ct Tryd.prog Hy 16 [.ag (cE c)] [.i .i64 (checkO c).1, .s (checkO c).2] := by
  have hck := fun (o : Nat → O) => Cm.of_ct (o := o) (check_ct Hy c hr hgo hlo)
  have hso := fun (o : Nat → O) => Cm.of_ct (o := o) (sort_ct Hy c hr hgo hlo)
  by_cases h0 : (checkC c).1 = 0
  · have h0' := eq_true h0
    have hs : sortC c = ((sortG c.gts).1, neverG c.gts) := if_pos h0
    rw [hs] at hso
    have hce : checkO c = match neverG c.gts with
      | [] => (0, noneT)
      | x :: _ => (7, x) := if_pos h0
    rw [hce]
    have hnl := nevP_len c.gts c.gts.length
    rw [nevP_all] at hnl
    have hn2 := (cok_of h0).n200
    generalize neverG c.gts = nv at *
    obtain ⟨ins, outs, las, gts⟩ := c
    simp only [cE] at hck hso ⊢
    cases nv with
    | nil =>
      refine ct_of (cls := _root_.id) tt_ok follows_ Tryd.func16 rfl (by decide) (Nat.le_of_ble_eq_true rfl) ?_
      rw [show Tryd.f16.ntmps = 28 from rfl, s0_nf]
      simp only [List.zipIdx_cons, List.zipIdx_nil, List.map_cons, List.map_nil, Nat.reduceAdd, cE]
      repeat' first | refine c_seq ?_ | refine c_reg' rfl fun K E hK hE => ?_ | (refine r_opN fun κ η => ?_; simp only [go_sem, simprocAttr, Nat.le_refl]; refine η _ ?_; clear η κ) | (refine r_nil (hK _ ?_); clear hE hK E K) | refine q_seq ?_
      refine r_callF fun κ η => ?_; simp only [go_sem, simprocAttr, Nat.le_refl]; refine ⟨_, (hck _), ?_⟩; rintro _ _ ⟨rfl, rfl⟩; simp only [go_sem, simprocAttr, Nat.le_refl]; refine η _ ?_; clear η κ
      repeat' first | refine c_seq ?_ | refine c_reg' rfl fun K E hK hE => ?_ | (refine r_opN fun κ η => ?_; simp only [go_sem, simprocAttr, Nat.le_refl, h0']; refine η _ ?_; clear η κ) | (refine r_nil (hK _ ?_); clear hE hK E K) | refine q_seq ?_ | refine c_cond false rfl (fun h => (by cases h)) fun _ => ?_ | refine c_skip ?_
      refine r_callF fun κ η => ?_; simp only [go_sem, simprocAttr, Nat.le_refl]; refine ⟨_, (hso _), ?_⟩; rintro _ _ ⟨rfl, rfl⟩; simp only [go_sem, simprocAttr, Nat.le_refl]; refine η _ ?_; clear η κ
      repeat' first | refine c_seq ?_ | refine c_reg' rfl fun K E hK hE => ?_ | (refine r_opN fun κ η => ?_; simp only [go_sem, simprocAttr, Nat.le_refl, sR, List.map_nil, List.length_nil]; refine η _ ?_; clear η κ) | (refine r_nil (hK _ ?_); clear hE hK E K) | refine q_seq ?_ | refine c_cond false rfl (fun h => (by cases h)) fun _ => ?_ | refine c_skip ?_ | refine c_ret ?_ | (refine q_ret ?_; refine q_r1 ?_; simp only [go_sem, simprocAttr, Nat.le_refl, sR, List.map_nil, List.length_nil])
      rfl
    | cons x l =>
      have hx : (sR (x :: l))[0]? = some [.s x] := rfl
      have hp : ((0 : Int) < (x :: l).length) = True := eq_true (by rw [List.length_cons]; omega)
      generalize hsr : x :: l = nv at *
      refine ct_of (cls := _root_.id) tt_ok follows_ Tryd.func16 rfl (by decide) (Nat.le_of_ble_eq_true rfl) ?_
      rw [show Tryd.f16.ntmps = 28 from rfl, s0_nf]
      simp only [List.zipIdx_cons, List.zipIdx_nil, List.map_cons, List.map_nil, Nat.reduceAdd, cE]
      repeat' first | refine c_seq ?_ | refine c_reg' rfl fun K E hK hE => ?_ | (refine r_opN fun κ η => ?_; simp only [go_sem, simprocAttr, Nat.le_refl]; refine η _ ?_; clear η κ) | (refine r_nil (hK _ ?_); clear hE hK E K) | refine q_seq ?_
      refine r_callF fun κ η => ?_; simp only [go_sem, simprocAttr, Nat.le_refl]; refine ⟨_, (hck _), ?_⟩; rintro _ _ ⟨rfl, rfl⟩; simp only [go_sem, simprocAttr, Nat.le_refl]; refine η _ ?_; clear η κ
      repeat' first | refine c_seq ?_ | refine c_reg' rfl fun K E hK hE => ?_ | (refine r_opN fun κ η => ?_; simp only [go_sem, simprocAttr, Nat.le_refl, h0']; refine η _ ?_; clear η κ) | (refine r_nil (hK _ ?_); clear hE hK E K) | refine q_seq ?_ | refine c_cond false rfl (fun h => (by cases h)) fun _ => ?_ | refine c_skip ?_
      refine r_callF fun κ η => ?_; simp only [go_sem, simprocAttr, Nat.le_refl]; refine ⟨_, (hso _), ?_⟩; rintro _ _ ⟨rfl, rfl⟩; simp only [go_sem, simprocAttr, Nat.le_refl]; refine η _ ?_; clear η κ
      repeat' first | refine c_seq ?_ | refine c_reg' rfl fun K E hK hE => ?_ | refine c_draw' rfl (by kernel_rfl) fun K E hK hE => ?_ | ((first | refine r_opN fun κ η => ?_ | refine d_opN (by kernel_rfl) fun κ η => ?_); simp only [go_sem, simprocAttr, Nat.le_refl, hp, hx]; (repeat refine ⟨by omega, ?_⟩); refine η _ ?_; clear η κ) | (refine r_nil (hK _ ?_); clear hE hK E K) | refine q_seq ?_ | refine c_cond true rfl (fun _ => ?_) (fun h => (by cases h)) | (refine d_nil (hK _ ?_); clear hE hK E K) | refine c_ret ?_ | refine q_seqR ?_ | (refine q_ret ?_; refine q_r1 ?_; simp only [go_sem, simprocAttr, Nat.le_refl, hp, hx])
      rw [← hsr]
  · have h0' := eq_false h0
    have hce : checkO c = checkC c := if_neg h0
    rw [hce]
    obtain ⟨ins, outs, las, gts⟩ := c
    simp only [cE] at hck ⊢
    refine ct_of (cls := _root_.id) tt_ok follows_ Tryd.func16 rfl (by decide) (Nat.le_of_ble_eq_true rfl) ?_
    rw [show Tryd.f16.ntmps = 28 from rfl, s0_nf]
    simp only [List.zipIdx_cons, List.zipIdx_nil, List.map_cons, List.map_nil, Nat.reduceAdd, cE]
    repeat' first | refine c_seq ?_ | refine c_reg' rfl fun K E hK hE => ?_ | (refine r_opN fun κ η => ?_; simp only [go_sem, simprocAttr, Nat.le_refl]; refine η _ ?_; clear η κ) | (refine r_nil (hK _ ?_); clear hE hK E K) | refine q_seq ?_
    refine r_callF fun κ η => ?_; simp only [go_sem, simprocAttr, Nat.le_refl]; refine ⟨_, (hck _), ?_⟩; rintro _ _ ⟨rfl, rfl⟩; simp only [go_sem, simprocAttr, Nat.le_refl]; refine η _ ?_; clear η κ
    repeat' first | refine c_seq ?_ | refine c_reg' rfl fun K E hK hE => ?_ | (refine r_opN fun κ η => ?_; simp only [go_sem, simprocAttr, Nat.le_refl, h0']; refine η _ ?_; clear η κ) | (refine r_nil (hK _ ?_); clear hE hK E K) | refine q_seq ?_ | refine c_cond true rfl (fun _ => ?_) (fun h => (by cases h)) | refine c_ret ?_ | refine q_seqR ?_ | (refine q_ret ?_; refine q_r1 ?_; simp only [go_sem, simprocAttr, Nat.le_refl, h0'])
end Go.Proofs.YtbhoeanfnbkenaaDoor
