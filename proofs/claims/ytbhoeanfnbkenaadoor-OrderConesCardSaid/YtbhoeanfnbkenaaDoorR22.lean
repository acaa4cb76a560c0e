import Derived.Test.YtbhoeanfnbkenaaDoorR21
import Derived.Test.YtbhoeanfnbkenaaDoorR18
namespace Go.Proofs.YtbhoeanfnbkenaaDoor
open Go.RowKit Go.WideMaps
set_option maxRecDepth 100000
set_option linter.unusedSimpArgs false
variable (Hy : World → Prop)
attribute [local irreducible] runM runD cwp seqQ blkQ lpQ retQ asQ bdQ bdY retP endR preD retD
theorem chk_parts {c : Ci} (h : (checkC c).1 = 0) : limitW c = none ∧ namesW (toldC c) = none ∧ twiceW (netsC c) = none := by
  have h1 : limitW c = none := by
    cases hl : limitW c with
    | none => rfl
    | some w =>
      have e : w = (8, noneT) := by
        unfold limitW at hl
        split at hl
        · cases hl; rfl
        · cases hl
      unfold checkC checkW at h
      rw [hl, e] at h
      exact absurd (show (8 : Int) = 0 from h) (by decide)
  have h2 : namesW (toldC c) = none := by
    cases hl : namesW (toldC c) with
    | none => rfl
    | some w =>
      unfold checkC checkW at h
      rw [h1, hl] at h
      unfold namesW at hl
      obtain ⟨s, _, rfl⟩ := Option.map_eq_some_iff.1 hl
      exact absurd (show (4 : Int) = 0 from h) (by decide)
  have h3 : twiceW (netsC c) = none := by
    cases hl : twiceW (netsC c) with
    | none => rfl
    | some w =>
      unfold checkC checkW at h
      rw [h1, h2, hl] at h
      unfold twiceW at hl
      obtain ⟨s, _, rfl⟩ := Option.map_eq_some_iff.1 hl
      exact absurd (show (5 : Int) = 0 from h) (by decide)
  exact ⟨h1, h2, h3⟩
theorem mok_of {c : Ci} (h : (checkC c).1 = 0) : MOk c := by
  obtain ⟨h1, h2, h3⟩ := chk_parts h
  obtain ⟨⟨l1, l2⟩, l3⟩ := limit_fit h1
  have hn := names_fit h2
  have hsz : ∀ s ∈ toldC c, s.size ≤ 1000000 := fun s hs => Nat.le_trans (name_size (hn s hs)) (by decide)
  refine ⟨cok_of h, fun s hs => hsz s ?_, fun x hx => ⟨hsz _ ?_, hsz _ ?_⟩, ⟨(twiceF_nodup _ [] (Option.map_eq_none_iff.1 h3)).1⟩, by rw [nets_le]; omega⟩
  · exact List.mem_append_left _ hs
  · exact List.mem_append_right _ (List.mem_append_right _ (List.mem_append_left _ (List.mem_flatMap.2 ⟨x, hx, List.mem_cons_self⟩)))
  · exact List.mem_append_right _ (List.mem_append_right _ (List.mem_append_left _ (List.mem_flatMap.2 ⟨x, hx, List.mem_cons_of_mem _ List.mem_cons_self⟩)))
theorem nets_size {c : Ci} (h : (checkC c).1 = 0) : ∀ s ∈ netsC c, s.size ≤ 1000000 := fun s hs => Nat.le_trans (name_size (names_fit (chk_parts h).2.1 s (nets_told hs))) (by decide)
/-- what leads to nets -/
def coneC (c : Ci) (nets : List ByteArray) : List ByteArray := if (checkC c).1 = 0 then rconeL c nets else []
theorem cone_is {c : Ci} (hm : May c) {nets : List ByteArray} {M : ByteArray → Bool} (hM : ∀ s, M s = true ↔ Rch (leadsL c) nets s) : (netsC c).filter M = rconeL c nets := coneIs_one ⟨M, hM, rfl⟩ (rcone_is hm nets)
set_option maxHeartbeats 4000000 in
theorem cone_ct (c : Ci) (hr : CRoom c) (hgo : GOk c.gts) (hlo : LOk c.las) (nets : List ByteArray) (hnl : nets.length ≤ 1000) (hns : ∀ s ∈ nets, s.size ≤ 1000000) : Ct Tryd.prog Hy 23 [.ag (cE c), .sl (sR nets)] [.sl (sR (coneC c nets))] := by
  have hmb := fun (o : Nat → O) => Cm.of_ct (o := o) (mayBe_ct Hy c hr hgo hlo)
  by_cases h0 : (checkC c).1 = 0
  · have hmo := mok_of h0
    have hmk := mark_cm Hy c hmo nets hnl hns
    have hne := fun (o : Nat → O) => Cm.of_ct (o := o) (nets_ct Hy c hmo.fit)
    have hnz := nets_size h0
    have hn2 := hmo.n2
    have hci := fun {M} => cone_is (c := c) hmo.may (nets := nets) (M := M)
    rw [coneC, if_pos h0]
    rw [decide_eq_true h0] at hmb
    have hM := mlawU
    have hks : ksOf tt 9 = .str := rfl
    generalize netsC c = N at *
    obtain ⟨ins, outs, las, gts⟩ := c
    simp only [cE, cA] at hmb hmk hne ⊢
    refine ct_of (cls := _root_.id) tt_ok follows_ Tryd.func23 rfl (by decide) (Nat.le_of_ble_eq_true rfl) ?_
    rw [show Tryd.f23.ntmps = 37 from rfl, s0_nf]
    simp only [List.zipIdx_cons, List.zipIdx_nil, List.map_cons, List.map_nil, Nat.reduceAdd, cE]
    repeat' first | refine c_seq ?_ | refine c_reg' rfl fun K E hK hE => ?_ | (refine r_opN fun κ η => ?_; simp only [go_sem, simprocAttr, Nat.le_refl]; refine η _ ?_; clear η κ) | (refine r_nil (hK _ ?_); clear hE hK E K) | refine q_seq ?_
    refine r_callF fun κ η => ?_; simp only [go_sem, simprocAttr, Nat.le_refl]; refine ⟨_, (hmb _), ?_⟩; rintro _ _ ⟨rfl, rfl⟩; simp only [go_sem, simprocAttr, Nat.le_refl]; refine η _ ?_; clear η κ
    repeat' first | refine c_seq ?_ | refine c_reg' rfl fun K E hK hE => ?_ | (refine r_opN fun κ η => ?_; simp only [go_sem, simprocAttr, Nat.le_refl]; refine η _ ?_; clear η κ) | (refine r_nil (hK _ ?_); clear hE hK E K) | refine q_seq ?_ | refine c_cond false rfl (fun h => (by cases h)) fun _ => ?_ | refine c_skip ?_
    refine r_call fun κ η => ?_; simp only [go_sem, simprocAttr, Nat.le_refl]; refine ⟨_, hmk _, ?_⟩; rintro _ o2 ⟨q, Em, M, rfl, hq, hMk, hR, hF⟩; simp only [go_sem, simprocAttr, Nat.le_refl]; refine η _ ?_; clear η κ
    have b2 : o2 2 = ⟨_, .cells 26 [.t (.sl (sR ins)), .t (.sl (sR outs)), .t (.sl (lsR las)), .t (.sl (gsR gts))]⟩ := (hF 2 (by unfold badM; omega)).trans rfl
    have hce := hci hR
    clear hF hR hci
    repeat' first | refine c_seq ?_ | refine c_reg' rfl fun K E hK hE => ?_ | (refine r_opN fun κ η => ?_; simp only [go_sem, simprocAttr, Nat.le_refl, b2]; refine η _ ?_; clear η κ) | (refine r_nil (hK _ ?_); clear hE hK E K) | refine q_seq ?_
    refine r_callF fun κ η => ?_; simp only [go_sem, simprocAttr, Nat.le_refl]; refine ⟨_, (hne _), ?_⟩; rintro _ _ ⟨rfl, rfl⟩; simp only [go_sem, simprocAttr, Nat.le_refl]; refine η _ ?_; clear η κ
    repeat' first | refine c_block ?_ | (refine r_opN fun κ η => ?_; simp only [go_sem, simprocAttr, Nat.le_refl]; refine η _ ?_; clear η κ) | (refine r_nil (hK _ ?_); clear hE hK E K) | refine q_seq ?_
    refine c_loop (fun m s' => ∃ k : Nat, m = N.length - k ∧ k ≤ N.length ∧ ∃ F G0 yy, s' = nf 37 F G0 [(5, .row 6457 q), (6, yy), (18, .t (.sl (sR N))), (19, .t (.i .i64 N.length)), (20, .t (.i .i64 k))] [] ∧ G0 6457 = ⟨q, .map .str Em⟩ ∧ Acc G0 34 9 1 (sR ((N.take k).filter M)) yy) N.length ?_ ?_
    · exact ⟨0, by omega, by omega, _, _, _, nf_of rfl ⟨rfl, rfl, rfl, rfl, rfl, trivial⟩ trivial, hq, .inl ⟨rfl, rfl⟩⟩
    clear hq b2
    rintro m s' ⟨k, rfl, hk, F, G0, yy, rfl, hq, hy⟩
    repeat' first | refine c_seq ?_ | refine c_reg' rfl fun K E hK hE => ?_ | (refine r_opN fun κ η => ?_; simp only [go_sem, simprocAttr, Nat.le_refl]; refine η _ ?_; clear η κ) | (refine r_nil (hK _ ?_); clear hE hK E K) | refine q_seq ?_
    refine c_cond _ rfl (fun hd => ?_) (fun hd => ?_)
    · simp only [decide_eq_true_eq] at hd
      obtain ⟨x, hx⟩ : ∃ x, N[k]? = some x := ⟨_, List.getElem?_eq_getElem (by omega)⟩
      have hx' := sR_get hx
      have hxs := hnz x (List.mem_of_getElem? hx)
      have hmx := hMk x
      have hst : (N.take (k + 1)).filter M = (N.take k).filter M ++ if M x = true then [x] else [] := by
        rw [List.take_add_one, hx, List.filter_append]
        cases c : M x <;> simp [c]
      have hlen : (sR ((N.take k).filter M)).length ≤ 1000000 := by
        have := List.length_filter_le M (N.take k)
        rw [List.length_take] at this
        rw [sR_len]
        omega
      cases hMx : M x with
      | true =>
        rw [if_pos hMx] at hmx hst
        have hs2 : sR ((N.take (k + 1)).filter M) = sR ((N.take k).filter M) ++ [[.s x]] := by rw [hst, sR_app]; rfl
        rcases hy with ⟨h0, rfl⟩ | ⟨q', rfl, hr2⟩
        · rw [h0] at hs2
          repeat' first | refine c_seq ?_ | refine c_block ?_ | refine c_reg' rfl fun K E hK hE => ?_ | (refine r_opN fun κ η => ?_; simp only [go_sem, simprocAttr, Nat.le_refl, hx', hq, hks, Ky.ok, hmx]; (repeat refine ⟨by omega, ?_⟩); refine η _ ?_; clear η κ) | (refine r_nil (hK _ ?_); clear hE hK E K) | refine q_seq ?_ | refine c_cond true rfl (fun _ => ?_) (fun h => (by cases h)) | refine q_blk ?_ | refine c_skip ?_ | refine q_lpN ?_
          exact ⟨N.length - (k + 1), by omega, k + 1, rfl, by omega, _, _, _, nf_of rfl ⟨rfl, rfl, rfl, rfl, rfl, trivial⟩ trivial, hq, .inr ⟨_, rfl, by rw [hs2]; rfl⟩⟩
        · generalize sR ((N.take k).filter M) = rw0 at hr2 hs2 hlen
          repeat' first | refine c_seq ?_ | refine c_block ?_ | refine c_reg' rfl fun K E hK hE => ?_ | (refine r_opN fun κ η => ?_; simp only [go_sem, simprocAttr, Nat.le_refl, hx', hq, hks, Ky.ok, hmx, hr2]; (repeat refine ⟨by omega, ?_⟩); refine η _ ?_; clear η κ) | (refine r_nil (hK _ ?_); clear hE hK E K) | refine q_seq ?_ | refine c_cond true rfl (fun _ => ?_) (fun h => (by cases h)) | refine q_blk ?_ | refine c_skip ?_ | refine q_lpN ?_
          exact ⟨N.length - (k + 1), by omega, k + 1, rfl, by omega, _, _, _, nf_of rfl ⟨rfl, rfl, rfl, rfl, rfl, trivial⟩ trivial, hq, .inr ⟨_, rfl, by rw [hs2]; rfl⟩⟩
      | false =>
        rw [if_neg (by rw [hMx]; decide)] at hmx hst
        rw [List.append_nil] at hst
        repeat' first | refine c_seq ?_ | refine c_block ?_ | refine c_reg' rfl fun K E hK hE => ?_ | (refine r_opN fun κ η => ?_; simp only [go_sem, simprocAttr, Nat.le_refl, hx', hq, hks, Ky.ok, hmx]; (repeat refine ⟨by omega, ?_⟩); refine η _ ?_; clear η κ) | (refine r_nil (hK _ ?_); clear hE hK E K) | refine q_seq ?_ | refine c_cond false rfl (fun h => (by cases h)) fun _ => ?_ | refine q_blk ?_ | refine c_skip ?_ | refine q_lpN ?_
        exact ⟨N.length - (k + 1), by omega, k + 1, rfl, by omega, _, _, _, nf_of rfl ⟨rfl, rfl, rfl, rfl, rfl, trivial⟩ trivial, hq, by rw [hst]; exact hy⟩
    · simp only [decide_eq_false_iff_not] at hd
      rw [List.take_of_length_le (by omega), hce] at hy
      rcases hy with ⟨h0, rfl⟩ | ⟨q', rfl, hr2⟩
      · rw [h0]
        repeat' first | refine c_seq ?_ | refine c_reg' rfl fun K E hK hE => ?_ | (refine r_opN fun κ η => ?_; simp only [go_sem, simprocAttr, Nat.le_refl]; refine η _ ?_; clear η κ) | (refine r_nil (hK _ ?_); clear hE hK E K) | refine q_seq ?_ | refine c_exit ?_ | refine c_ret ?_ | refine q_seqE ?_ | refine q_blkHit ?_ | refine q_lpE ?_ | (refine q_ret ?_; refine q_r1 ?_; simp only [go_sem, simprocAttr, Nat.le_refl])
      · repeat' first | refine c_seq ?_ | refine c_reg' rfl fun K E hK hE => ?_ | (refine r_opN fun κ η => ?_; simp only [go_sem, simprocAttr, Nat.le_refl, hr2]; refine η _ ?_; clear η κ) | (refine r_nil (hK _ ?_); clear hE hK E K) | refine q_seq ?_ | refine c_exit ?_ | refine c_ret ?_ | refine q_seqE ?_ | refine q_blkHit ?_ | refine q_lpE ?_ | (refine q_ret ?_; refine q_r1 ?_; simp only [go_sem, simprocAttr, Nat.le_refl, hr2])
  · rw [coneC, if_neg h0]
    rw [decide_eq_false h0] at hmb
    obtain ⟨ins, outs, las, gts⟩ := c
    simp only [cE] at hmb ⊢
    refine ct_of (cls := _root_.id) tt_ok follows_ Tryd.func23 rfl (by decide) (Nat.le_of_ble_eq_true rfl) ?_
    rw [show Tryd.f23.ntmps = 37 from rfl, s0_nf]
    simp only [List.zipIdx_cons, List.zipIdx_nil, List.map_cons, List.map_nil, Nat.reduceAdd, cE]
    repeat' first | refine c_seq ?_ | refine c_reg' rfl fun K E hK hE => ?_ | (refine r_opN fun κ η => ?_; simp only [go_sem, simprocAttr, Nat.le_refl]; refine η _ ?_; clear η κ) | (refine r_nil (hK _ ?_); clear hE hK E K) | refine q_seq ?_
    refine r_callF fun κ η => ?_; simp only [go_sem, simprocAttr, Nat.le_refl]; refine ⟨_, (hmb _), ?_⟩; rintro _ _ ⟨rfl, rfl⟩; simp only [go_sem, simprocAttr, Nat.le_refl]; refine η _ ?_; clear η κ
    repeat' first | refine c_seq ?_ | refine c_reg' rfl fun K E hK hE => ?_ | (refine r_opN fun κ η => ?_; simp only [go_sem, simprocAttr, Nat.le_refl]; refine η _ ?_; clear η κ) | (refine r_nil (hK _ ?_); clear hE hK E K) | refine q_seq ?_ | refine c_cond true rfl (fun _ => ?_) (fun h => (by cases h)) | refine c_ret ?_ | refine q_seqR ?_ | (refine q_ret ?_; refine q_r1 ?_; simp only [go_sem, simprocAttr, Nat.le_refl])
    rfl
end Go.Proofs.YtbhoeanfnbkenaaDoor
namespace Go.Proofs.YtbhoeanfnbkenaaDoor
open Go.RowKit Go.WideMaps
set_option maxRecDepth 100000
set_option linter.unusedSimpArgs false
variable (Hy : World → Prop)
attribute [local irreducible] runM runD cwp seqQ blkQ lpQ retQ asQ bdQ bdY retP endR preD retD
def lvL (n : Nat) (lv : Nat → Int) : List Int := (List.range n).map lv
theorem lvL_len (n : Nat) (lv : Nat → Int) : (lvL n lv).length = n := by simp [lvL]
theorem lvL_at {n k : Nat} {lv : Nat → Int} (h : k < n) : (lvL n lv).getD k 0 = lv k := by
  unfold lvL
  rw [List.getD_eq_getElem?_getD, List.getElem?_map, List.getElem?_range h]
  rfl
def updI (lv : Nat → Int) (k : Nat) (x : Int) : Nat → Int := fun j => if j = k then x else lv j
theorem lvL_set (n : Nat) (lv : Nat → Int) (k : Nat) (x : Int) : (lvL n lv).set k x = lvL n (updI lv k x) := by
  unfold lvL
  apply List.ext_getElem (by simp)
  intro j h1 h2
  simp only [List.getElem_set, List.getElem_map, List.getElem_range]
  unfold updI
  by_cases e : k = j
  · subst e
    simp
  · rw [if_neg e, if_neg (fun e2 => e e2.symm)]
/-- where the gate of a name stands -/
def idxF (gs : List Gt) (s : ByteArray) : Option Nat := (List.range gs.length).find? fun k => stEq (gat gs k).name s
theorem idxF_some {gs : List Gt} {s : ByteArray} {k : Nat} (hu : Uniq gs) (hk : k < gs.length) (e : (gat gs k).name = s) : idxF gs s = some k :=
  List.find?_range_eq_some.2 ⟨(stEq_iff _ _).2 e, List.mem_range.2 hk, fun j hj => by
    cases h : stEq (gat gs j).name s
    · rfl
    · have := hu j k (by omega) hk (((stEq_iff _ _).1 h).trans e.symm)
      omega⟩
theorem idxF_none {gs : List Gt} {s : ByteArray} (h : usedB (nmsL gs) s = false) : idxF gs s = none :=
  List.find?_range_eq_none.2 fun j hj => by
    cases h2 : stEq (gat gs j).name s
    · rfl
    · exfalso
      rw [← Bool.not_eq_true, usedB_iff] at h
      apply h
      unfold nmsL
      rw [← (stEq_iff _ _).1 h2]
      exact List.mem_map.2 ⟨_, gat_mem hj, rfl⟩
/-- one name that a gate waits for -/
def lvS (gs : List Gt) (i : Nat) (lv : Nat → Int) (s : ByteArray) : Nat → Int := match idxF gs s with
  | none => lv
  | some j => updI lv i (max (lv i) (lv j + 1))
def lvI (gs : List Gt) (lv : Nat → Int) (i : Nat) : Nat → Int := (gat gs i).ins.foldl (lvS gs i) (updI lv i 0)
def lvG (gs : List Gt) : Nat → Int := (sortG gs).1.foldl (lvI gs) (fun _ => -1)
def levelsR (c : Ci) : List Int := if (checkC c).1 = 0 then lvL c.gts.length (lvG c.gts) else []
/-- no level is great -/
def LvB (b : Int) (lv : Nat → Int) : Prop := ∀ j, -1 ≤ lv j ∧ lv j ≤ b
theorem LvB.upd {b b' : Int} {lv : Nat → Int} (h : LvB b lv) (k : Nat) {x : Int} (hb : b ≤ b') (h1 : -1 ≤ x) (h2 : x ≤ b') : LvB b' (updI lv k x) := fun j => by
  unfold updI
  have := h j
  split <;> omega
attribute [go_sem] lvL_len
theorem lvL_get {n : Nat} {lv : Nat → Int} {k : Nat} (h : k < n) : (iR (lvL n lv))[k]? = some [.i .i64 (lv k)] := iR_get (by
  unfold lvL
  rw [List.getElem?_map, List.getElem?_range h]
  rfl)
theorem lvL_set2 (n : Nat) (lv : Nat → Int) (k : Nat) (x : Int) : (iR (lvL n lv)).set k [.i .i64 x] = iR (lvL n (updI lv k x)) := by rw [iR_set, lvL_set]
theorem lvL_zero (n : Nat) : List.replicate n [T.i .i64 0] = iR (lvL n fun j => if j < 0 then -1 else 0) := by
  unfold iR lvL
  rw [List.map_map]
  refine List.ext_getElem (by simp) fun i h1 h2 => ?_
  simp
theorem lv_neg (k : Nat) : updI (fun j => if j < k then -1 else 0) k (-1) = fun j => if j < k + 1 then -1 else 0 := funext fun j => by
  unfold updI
  by_cases e : j = k
  · subst e
    rw [if_pos rfl, if_pos (Nat.lt_succ_self _)]
  · rw [if_neg e]
    show (if j < k then (-1 : Int) else 0) = _
    by_cases e2 : j < k
    · rw [if_pos e2, if_pos (by omega)]
    · rw [if_neg e2, if_neg (by omega)]
theorem lvL_congr {n : Nat} {lv lv' : Nat → Int} (h : ∀ j, j < n → lv' j = lv j) : lvL n lv' = lvL n lv := List.map_congr_left fun j hj => h j (List.mem_range.1 hj)
set_option maxHeartbeats 8000000 in
theorem levels_ct (c : Ci) (hr : CRoom c) (hgo : GOk c.gts) (hlo : LOk c.las) : Ct Tryd.prog Hy 19 [.ag (cE c)] [.sl (iR (levelsR c))] := by
  have hmb := fun (o : Nat → O) => Cm.of_ct (o := o) (mayBe_ct Hy c hr hgo hlo)
  have hso := fun (o : Nat → O) => Cm.of_ct (o := o) (sort_ct Hy c hr hgo hlo)
  by_cases h0 : (checkC c).1 = 0
  · have hco := cok_of h0
    have hpl := gatePlaces_cm Hy c hco
    have hs : sortC c = ((sortG c.gts).1, neverG c.gts) := if_pos h0
    obtain ⟨_, hn, hi8, hsz, h5, hu⟩ := hco
    obtain ⟨hsl, hsk⟩ := sortF_lt c.gts c.gts.length none_
    rw [levelsR, if_pos h0]
    rw [decide_eq_true h0] at hmb
    rw [hs] at hso
    have hM := mlawP
    have hks : ksOf tt 9 = .str := rfl
    have hz := lvL_zero c.gts.length
    obtain ⟨ins, outs, las, gts⟩ := c
    simp only at hn hi8 hsz h5 hu hsl hsk hpl hz hso
    have hlg : lvG gts = (sortG gts).1.foldl (lvI gts) (fun _ => -1) := rfl
    have hsl : (sortG gts).1.length ≤ gts.length := hsl
    have hsk : ∀ x ∈ (sortG gts).1, x < gts.length := hsk
    simp only [cE, cA] at hmb hso hpl ⊢
    rw [hlg]
    generalize (sortG gts).1 = so at *
    generalize neverG gts = nv at *
    refine ct_of (cls := _root_.id) tt_ok follows_ Tryd.func19 rfl (by decide) (Nat.le_of_ble_eq_true rfl) ?_
    rw [show Tryd.f19.ntmps = 80 from rfl, s0_nf]
    simp only [List.zipIdx_cons, List.zipIdx_nil, List.map_cons, List.map_nil, Nat.reduceAdd, cE]
    repeat' first | refine c_seq ?_ | refine c_reg' rfl fun K E hK hE => ?_ | (refine r_opN fun κ η => ?_; simp only [go_sem, simprocAttr, Nat.le_refl]; refine η _ ?_; clear η κ) | (refine r_nil (hK _ ?_); clear hE hK E K) | refine q_seq ?_
    refine r_callF fun κ η => ?_; simp only [go_sem, simprocAttr, Nat.le_refl]; refine ⟨_, (hmb _), ?_⟩; rintro _ _ ⟨rfl, rfl⟩; simp only [go_sem, simprocAttr, Nat.le_refl]; refine η _ ?_; clear η κ
    repeat' first | refine c_seq ?_ | refine c_reg' rfl fun K E hK hE => ?_ | (refine r_opN fun κ η => ?_; simp only [go_sem, simprocAttr, Nat.le_refl]; refine η _ ?_; clear η κ) | (refine r_nil (hK _ ?_); clear hE hK E K) | refine q_seq ?_ | refine c_cond false rfl (fun h => (by cases h)) fun _ => ?_ | refine c_skip ?_
    refine r_callF fun κ η => ?_; simp only [go_sem, simprocAttr, Nat.le_refl]; refine ⟨_, (hso _), ?_⟩; rintro _ _ ⟨rfl, rfl⟩; simp only [go_sem, simprocAttr, Nat.le_refl]; refine η _ ?_; clear η κ
    repeat' first | refine c_seq ?_ | refine c_block ?_ | refine c_reg' rfl fun K E hK hE => ?_ | (refine r_opN fun κ η => ?_; simp only [go_sem, simprocAttr, Nat.le_refl, hz]; (repeat refine ⟨by omega, ?_⟩); refine η _ ?_; clear η κ) | (refine r_nil (hK _ ?_); clear hE hK E K) | refine q_seq ?_
    refine c_loop (fun m s' => ∃ k : Nat, m = gts.length - k ∧ k ≤ gts.length ∧ ∃ F G0, s' = nf 80 F G0 [(1, .ptr 1 1 0), (3, .t (.sl (iR (castL so)))), (5, .row 25 1), (27, .t (.i .i64 gts.length)), (28, .t (.i .i64 k))] [] ∧ G0 1 = ⟨1, .cells 26 [.t (.sl (sR ins)), .t (.sl (sR outs)), .t (.sl (lsR las)), .t (.sl (gsR gts))]⟩ ∧ G0 25 = ⟨1, .row 3 1 (iR (lvL gts.length fun j => if j < k then -1 else 0))⟩) gts.length ?_ ?_
    · exact ⟨0, by omega, by omega, _, _, nf_of rfl ⟨rfl, rfl, rfl, rfl, rfl, trivial⟩ trivial, rfl, rfl⟩
    rintro m s' ⟨k, rfl, hk, F, G0, rfl, hb, hrow⟩
    repeat' first | refine c_seq ?_ | refine c_reg' rfl fun K E hK hE => ?_ | (refine r_opN fun κ η => ?_; simp only [go_sem, simprocAttr, Nat.le_refl]; refine η _ ?_; clear η κ) | (refine r_nil (hK _ ?_); clear hE hK E K) | refine q_seq ?_
    refine c_cond _ rfl (fun hd => ?_) (fun hd => ?_)
    · simp only [decide_eq_true_eq] at hd
      have hkl : k < gts.length := by omega
      have hg := lvL_get (lv := fun j => if j < k then -1 else 0) hkl
      have hset := lvL_set2 gts.length (fun j => if j < k then -1 else 0) k (-1)
      rw [lv_neg] at hset
      repeat' first | refine c_seq ?_ | refine c_block ?_ | refine c_reg' rfl fun K E hK hE => ?_ | (refine r_opN fun κ η => ?_; simp only [go_sem, simprocAttr, Nat.le_refl, hrow, hg, hset]; (repeat refine ⟨by omega, ?_⟩); refine η _ ?_; clear η κ) | (refine r_nil (hK _ ?_); clear hE hK E K) | refine q_seq ?_ | refine q_blk ?_ | refine c_skip ?_ | refine q_lpN ?_
      exact ⟨gts.length - (k + 1), by omega, k + 1, rfl, by omega, _, _, nf_of rfl ⟨rfl, rfl, rfl, rfl, rfl, trivial⟩ trivial, hb, rfl⟩
    simp only [decide_eq_false_iff_not] at hd
    obtain rfl : k = gts.length := by omega
    rw [lvL_congr (lv := fun _ => -1) (fun j hj => if_pos hj)] at hrow
    repeat' first | refine c_seq ?_ | refine c_reg' rfl fun K E hK hE => ?_ | (refine r_opN fun κ η => ?_; simp only [go_sem, simprocAttr, Nat.le_refl, hb]; refine η _ ?_; clear η κ) | refine q_seq ?_ | refine c_exit ?_ | refine q_seqE ?_ | refine q_blkHit ?_ | refine q_lpE ?_
    refine r_call fun κ η => ?_; simp only [go_sem, simprocAttr, Nat.le_refl]; refine ⟨_, hpl _, ?_⟩; rintro _ o2 ⟨q, Em, rfl, hq, hP, hF⟩; simp only [go_sem, simprocAttr, Nat.le_refl]; refine η _ ?_; clear η κ
    have b2 : o2 1 = ⟨1, .cells 26 [.t (.sl (sR ins)), .t (.sl (sR outs)), .t (.sl (lsR las)), .t (.sl (gsR gts))]⟩ := (hF 1 (.inl (by decide))).trans hb
    have r2 : o2 25 = ⟨1, .row 3 1 (iR (lvL gts.length fun _ => -1))⟩ := (hF 25 (.inl (by decide))).trans hrow
    clear hF hb hrow hd
    repeat' first | refine c_seq ?_ | refine c_block ?_ | refine c_reg' rfl fun K E hK hE => ?_ | (refine r_opN fun κ η => ?_; simp only [go_sem, simprocAttr, Nat.le_refl]; refine η _ ?_; clear η κ) | (refine r_nil (hK _ ?_); clear hE hK E K) | refine q_seq ?_
    refine c_loop (fun m s' => ∃ k : Nat, m = so.length - k ∧ k ≤ so.length ∧ ∃ F G0 lv, s' = nf 80 F G0 [(1, .ptr 1 1 0), (5, .row 25 1), (7, .row 6106 q), (37, .t (.sl (iR (castL so)))), (38, .t (.i .i64 so.length)), (39, .t (.i .i64 k))] [] ∧ G0 1 = ⟨1, .cells 26 [.t (.sl (sR ins)), .t (.sl (sR outs)), .t (.sl (lsR las)), .t (.sl (gsR gts))]⟩ ∧ G0 25 = ⟨1, .row 3 1 (iR (lvL gts.length lv))⟩ ∧ G0 6106 = ⟨q, .map .str Em⟩ ∧ lv = (so.take k).foldl (lvI gts) (fun _ => -1) ∧ LvB (9 * k) lv) so.length ?_ ?_
    · exact ⟨0, by omega, by omega, _, _, _, nf_of rfl ⟨rfl, rfl, rfl, rfl, rfl, rfl, trivial⟩ trivial, b2, r2, hq, rfl, fun j => ⟨Int.le_refl _, (by show (-1 : Int) ≤ 9 * ((0 : Nat) : Int); omega)⟩⟩
    clear b2 r2 hq
    rintro m s' ⟨k, rfl, hk, F, G0, lv, rfl, hb, hrow, hq, hlv, hB⟩
    repeat' first | refine c_seq ?_ | refine c_reg' rfl fun K E hK hE => ?_ | (refine r_opN fun κ η => ?_; simp only [go_sem, simprocAttr, Nat.le_refl]; refine η _ ?_; clear η κ) | (refine r_nil (hK _ ?_); clear hE hK E K) | refine q_seq ?_
    refine c_cond _ rfl (fun hd => ?_) (fun hd => ?_)
    · simp only [decide_eq_true_eq] at hd
      obtain ⟨i, hi⟩ : ∃ i, so[k]? = some i := ⟨_, List.getElem?_eq_getElem (by omega)⟩
      have hi' := castL_get hi
      have hin := hsk i (List.mem_of_getElem? hi)
      have hgi := gsR_get (gat_some hin)
      have hil := hi8 _ (gat_mem hin)
      have hg := lvL_get (lv := lv) hin
      have hset := lvL_set2 gts.length lv i 0
      repeat' first | refine c_seq ?_ | refine c_block ?_ | refine c_reg' rfl fun K E hK hE => ?_ | (refine r_opN fun κ η => ?_; simp only [go_sem, simprocAttr, Nat.le_refl, hi', hrow, hg, hset, hb, hgi]; (repeat refine ⟨by omega, ?_⟩); refine η _ ?_; clear η κ) | (refine r_nil (hK _ ?_); clear hE hK E K) | refine q_seq ?_ | refine c_skip ?_
      have hlvi : lvI gts lv i = (gat gts i).ins.foldl (lvS gts i) (updI lv i 0) := rfl
      have hnx : (so.take (k + 1)).foldl (lvI gts) (fun _ => -1) = lvI gts lv i := by rw [foldl_take _ _ hi, ← hlv]
      have hB0 : LvB (9 * k + (0 : Nat)) (updI lv i 0) := hB.upd i (by omega) (by omega) (by omega)
      clear hg hset hB
      refine c_loop (fun m s' => ∃ p : Nat, m = (gat gts i).ins.length - p ∧ p ≤ (gat gts i).ins.length ∧ ∃ F G0 lv', s' = nf 80 F G0 [(1, .ptr 1 1 0), (5, .row 25 1), (7, .row 6106 q), (9, .t (.i .i64 i)), (37, .t (.sl (iR (castL so)))), (38, .t (.i .i64 so.length)), (39, .t (.i .i64 k)), (51, .t (.sl (sR (gat gts i).ins))), (52, .t (.i .i64 (gat gts i).ins.length)), (53, .t (.i .i64 p))] [] ∧ G0 1 = ⟨1, .cells 26 [.t (.sl (sR ins)), .t (.sl (sR outs)), .t (.sl (lsR las)), .t (.sl (gsR gts))]⟩ ∧ G0 25 = ⟨1, .row 3 1 (iR (lvL gts.length lv'))⟩ ∧ G0 6106 = ⟨q, .map .str Em⟩ ∧ lv' = ((gat gts i).ins.take p).foldl (lvS gts i) (updI lv i 0) ∧ LvB (9 * k + p) lv') (gat gts i).ins.length ?_ ?_
      · exact ⟨0, by omega, by omega, _, _, _, nf_of rfl ⟨rfl, rfl, rfl, rfl, rfl, rfl, rfl, rfl, rfl, rfl, trivial⟩ trivial, hb, rfl, hq, rfl, hB0⟩
      have hkso : k < so.length := by omega
      clear hb hrow hq hB0 hd
      rintro m s' ⟨p, rfl, hp, F, G0, lv', rfl, hb, hrow, hq, hlv', hB⟩
      repeat' first | refine c_seq ?_ | refine c_reg' rfl fun K E hK hE => ?_ | (refine r_opN fun κ η => ?_; simp only [go_sem, simprocAttr, Nat.le_refl]; refine η _ ?_; clear η κ) | (refine r_nil (hK _ ?_); clear hE hK E K) | refine q_seq ?_
      refine c_cond _ rfl (fun hd => ?_) (fun hd => ?_)
      · simp only [decide_eq_true_eq] at hd
        obtain ⟨x, hx⟩ : ∃ x, (gat gts i).ins[p]? = some x := ⟨_, List.getElem?_eq_getElem (by omega)⟩
        have hx' := sR_get hx
        have hxs := h5 _ (gat_mem hin) x (List.mem_of_getElem? hx)
        have hst : ((gat gts i).ins.take (p + 1)).foldl (lvS gts i) (updI lv i 0) = lvS gts i lv' x := by rw [foldl_take _ _ hx, ← hlv']
        by_cases hm : x ∈ nmsL gts
        · obtain ⟨j, hj, hjx⟩ := nms_at hm
          have hget : getM Em (.s x) = some (.t (.i .i64 j)) := hjx ▸ hP.2 j hj
          have hS : lvS gts i lv' x = updI lv' i (max (lv' i) (lv' j + 1)) := by
            unfold lvS
            rw [idxF_some hu hj hjx]
          have hgi2 := lvL_get (lv := lv') hin
          have hgj2 := lvL_get (lv := lv') hj
          have hmax : (if lv' i < lv' j + 1 then lv' j + 1 else lv' i) = max (lv' i) (lv' j + 1) := by
            rw [Int.max_def]
            split <;> split <;> omega
          have hset := lvL_set2 gts.length lv' i (max (lv' i) (lv' j + 1))
          have hbi := hB i
          have hbj := hB j
          have hmb : -1 ≤ max (lv' i) (lv' j + 1) ∧ max (lv' i) (lv' j + 1) ≤ 9 * k + (p + 1 : Nat) := by omega
          repeat' first | refine c_seq ?_ | refine c_block ?_ | refine c_reg' rfl fun K E hK hE => ?_ | refine c_draw' rfl (by kernel_rfl) fun K E hK hE => ?_ | ((first | refine r_opN fun κ η => ?_ | refine d_opN (by kernel_rfl) fun κ η => ?_); simp only [go_sem, simprocAttr, Nat.le_refl, hx', hq, hks, Ky.ok, hget, hrow, hgi2, hgj2, hmax, hset]; (repeat refine ⟨by omega, ?_⟩); refine η _ ?_; clear η κ) | (refine r_nil (hK _ ?_); clear hE hK E K) | refine q_seq ?_ | refine c_cond true rfl (fun _ => ?_) (fun h => (by cases h)) | (refine d_nil (hK _ ?_); clear hE hK E K) | refine q_blk ?_ | refine c_skip ?_ | refine q_lpN ?_
          exact ⟨(gat gts i).ins.length - (p + 1), by omega, p + 1, rfl, by omega, _, _, _, nf_of rfl ⟨rfl, rfl, rfl, rfl, rfl, rfl, rfl, rfl, rfl, rfl, trivial⟩ trivial, hb, rfl, hq, by rw [hst, hS], hB.upd i (by omega) hmb.1 hmb.2⟩
        · have hget : getM Em (.s x) = none := hP.1 x (by rw [List.take_of_length_le (Nat.le_refl _)]; exact hm)
          have hS : lvS gts i lv' x = lv' := by
            unfold lvS
            rw [idxF_none (by rw [← Bool.not_eq_true, usedB_iff]; exact hm)]
          repeat' first | refine c_seq ?_ | refine c_block ?_ | refine c_reg' rfl fun K E hK hE => ?_ | (refine r_opN fun κ η => ?_; simp only [go_sem, simprocAttr, Nat.le_refl, hx', hq, hks, Ky.ok, hget, hrow]; (repeat refine ⟨by omega, ?_⟩); refine η _ ?_; clear η κ) | (refine r_nil (hK _ ?_); clear hE hK E K) | refine q_seq ?_ | refine c_cond false rfl (fun h => (by cases h)) fun _ => ?_ | refine q_blk ?_ | refine c_skip ?_ | refine q_lpN ?_
          exact ⟨(gat gts i).ins.length - (p + 1), by omega, p + 1, rfl, by omega, _, _, lv', nf_of rfl ⟨rfl, rfl, rfl, rfl, rfl, rfl, rfl, rfl, rfl, rfl, trivial⟩ trivial, hb, hrow, hq, by rw [hst, hS], fun j => by have := hB j; omega⟩
      · simp only [decide_eq_false_iff_not] at hd
        rw [List.take_of_length_le (by omega)] at hlv'
        repeat' first | refine c_reg' rfl fun K E hK hE => ?_ | (refine r_opN fun κ η => ?_; simp only [go_sem, simprocAttr, Nat.le_refl]; (repeat refine ⟨by omega, ?_⟩); refine η _ ?_; clear η κ) | (refine r_nil (hK _ ?_); clear hE hK E K) | refine q_seq ?_ | refine q_blk ?_ | refine c_exit ?_ | refine q_seqE ?_ | refine q_blkHit ?_ | refine q_lpE ?_ | refine q_lpN ?_
        exact ⟨so.length - (k + 1), by omega, k + 1, rfl, by omega, _, _, lv', nf_of rfl ⟨rfl, rfl, rfl, rfl, rfl, rfl, trivial⟩ trivial, hb, hrow, hq, by rw [hnx, hlvi, hlv'], fun j => by have := hB j; omega⟩
    · simp only [decide_eq_false_iff_not] at hd
      rw [List.take_of_length_le (by omega)] at hlv
      subst hlv
      repeat' first | refine c_seq ?_ | refine c_reg' rfl fun K E hK hE => ?_ | (refine r_opN fun κ η => ?_; simp only [go_sem, simprocAttr, Nat.le_refl, hrow]; refine η _ ?_; clear η κ) | (refine r_nil (hK _ ?_); clear hE hK E K) | refine q_seq ?_ | refine c_exit ?_ | refine c_ret ?_ | refine q_seqE ?_ | refine q_blkHit ?_ | refine q_lpE ?_ | (refine q_ret ?_; refine q_r1 ?_; simp only [go_sem, simprocAttr, Nat.le_refl, hrow])
  · rw [levelsR, if_neg h0]
    rw [decide_eq_false h0] at hmb
    obtain ⟨ins, outs, las, gts⟩ := c
    simp only [cE] at hmb ⊢
    refine ct_of (cls := _root_.id) tt_ok follows_ Tryd.func19 rfl (by decide) (Nat.le_of_ble_eq_true rfl) ?_
    rw [show Tryd.f19.ntmps = 80 from rfl, s0_nf]
    simp only [List.zipIdx_cons, List.zipIdx_nil, List.map_cons, List.map_nil, Nat.reduceAdd, cE]
    repeat' first | refine c_seq ?_ | refine c_reg' rfl fun K E hK hE => ?_ | (refine r_opN fun κ η => ?_; simp only [go_sem, simprocAttr, Nat.le_refl]; refine η _ ?_; clear η κ) | (refine r_nil (hK _ ?_); clear hE hK E K) | refine q_seq ?_
    refine r_callF fun κ η => ?_; simp only [go_sem, simprocAttr, Nat.le_refl]; refine ⟨_, (hmb _), ?_⟩; rintro _ _ ⟨rfl, rfl⟩; simp only [go_sem, simprocAttr, Nat.le_refl]; refine η _ ?_; clear η κ
    repeat' first | refine c_seq ?_ | refine c_reg' rfl fun K E hK hE => ?_ | (refine r_opN fun κ η => ?_; simp only [go_sem, simprocAttr, Nat.le_refl]; refine η _ ?_; clear η κ) | (refine r_nil (hK _ ?_); clear hE hK E K) | refine q_seq ?_ | refine c_cond true rfl (fun _ => ?_) (fun h => (by cases h)) | refine c_ret ?_ | refine q_seqR ?_ | (refine q_ret ?_; refine q_r1 ?_; simp only [go_sem, simprocAttr, Nat.le_refl])
    rfl
end Go.Proofs.YtbhoeanfnbkenaaDoor
namespace Go.Proofs.YtbhoeanfnbkenaaDoor
open Go.RowKit Go.WideMaps
set_option maxRecDepth 100000
set_option linter.unusedSimpArgs false
def nG (gs : List Gt) (lv : Nat → Int) (i k : Nat) : Int := (List.range k).foldl (fun n j => if usedB (gat gs i).ins (gat gs j).name then max n (lv j + 1) else n) 0
theorem nG_succ (gs : List Gt) (lv : Nat → Int) (i k : Nat) : nG gs lv i (k + 1) = if usedB (gat gs i).ins (gat gs k).name then max (nG gs lv i k) (lv k + 1) else nG gs lv i k := by
  unfold nG
  rw [List.range_succ, List.foldl_append]
  rfl
theorem nG_le (gs : List Gt) (lv : Nat → Int) (i : Nat) (b : Int) : ∀ k, nG gs lv i k ≤ b ↔ 0 ≤ b ∧ ∀ j, j < k → usedB (gat gs i).ins (gat gs j).name = true → lv j + 1 ≤ b
  | 0 => ⟨fun h => ⟨h, fun j hj => absurd hj (by omega)⟩, fun h => h.1⟩
  | k + 1 => by
    have ih := nG_le gs lv i b k
    rw [nG_succ]
    constructor
    · intro h
      split at h
      · rename_i hu
        have h1 : nG gs lv i k ≤ b := by omega
        obtain ⟨h0, h2⟩ := ih.1 h1
        refine ⟨h0, fun j hj hj2 => ?_⟩
        by_cases e : j = k
        · subst e; omega
        · exact h2 j (by omega) hj2
      · rename_i hu
        obtain ⟨h0, h2⟩ := ih.1 h
        refine ⟨h0, fun j hj hj2 => ?_⟩
        by_cases e : j = k
        · subst e; exact absurd hj2 hu
        · exact h2 j (by omega) hj2
    · rintro ⟨h0, h2⟩
      have h1 := ih.2 ⟨h0, fun j hj => h2 j (by omega)⟩
      split
      · rename_i hu
        have := h2 k (by omega) hu
        omega
      · exact h1
theorem nG_nn (gs : List Gt) (lv : Nat → Int) (i : Nat) : ∀ k, 0 ≤ nG gs lv i k
  | 0 => Int.le_refl _
  | k + 1 => by
    have := nG_nn gs lv i k
    rw [nG_succ]
    split <;> omega
/-- the level that a gate's names tell -/
def nI (gs : List Gt) (lv : Nat → Int) (l : List ByteArray) : Int := l.foldl (fun n s => match idxF gs s with
  | none => n
  | some j => max n (lv j + 1)) 0
theorem nI_le (gs : List Gt) (lv : Nat → Int) (b : Int) : ∀ (l : List ByteArray) (n : Int), l.foldl (fun n s => match idxF gs s with
  | none => n
  | some j => max n (lv j + 1)) n ≤ b ↔ n ≤ b ∧ ∀ s ∈ l, ∀ j, idxF gs s = some j → lv j + 1 ≤ b
  | [], n => ⟨fun h => ⟨h, fun s hs => by cases hs⟩, fun h => h.1⟩
  | s :: l, n => by
    rw [List.foldl_cons, nI_le gs lv b l]
    cases hs : idxF gs s with
    | none =>
      refine ⟨fun ⟨h1, h2⟩ => ⟨h1, fun t ht j hj => ?_⟩, fun ⟨h1, h2⟩ => ⟨h1, fun t ht => h2 t (List.mem_cons_of_mem _ ht)⟩⟩
      rcases List.mem_cons.1 ht with rfl | ht
      · rw [hs] at hj; cases hj
      · exact h2 t ht j hj
    | some k =>
      refine ⟨fun ⟨h1, h2⟩ => ⟨?_, fun t ht j hj => ?_⟩, fun ⟨h1, h2⟩ => ⟨?_, fun t ht => h2 t (List.mem_cons_of_mem _ ht)⟩⟩
      · have h1' : max n (lv k + 1) ≤ b := h1
        omega
      · rcases List.mem_cons.1 ht with rfl | ht
        · rw [hs] at hj
          cases hj
          have h1' : max n (lv k + 1) ≤ b := h1
          omega
        · exact h2 t ht j hj
      · have := h2 s List.mem_cons_self k hs
        show max n (lv k + 1) ≤ b
        omega
theorem idxF_get {gs : List Gt} {s : ByteArray} {k : Nat} (h : idxF gs s = some k) : k < gs.length ∧ (gat gs k).name = s := by
  have := List.find?_range_eq_some.1 h
  exact ⟨List.mem_range.1 this.2.1, (stEq_iff _ _).1 this.1⟩
theorem nI_nG {gs : List Gt} (hu : Uniq gs) (lv : Nat → Int) (i : Nat) : nI gs lv (gat gs i).ins = nG gs lv i gs.length := by
  have e : ∀ b, nI gs lv (gat gs i).ins ≤ b ↔ nG gs lv i gs.length ≤ b := fun b => by
    unfold nI
    rw [nI_le, nG_le]
    refine and_congr_right fun _ => ⟨fun h j hj hj2 => ?_, fun h s hs j hj => ?_⟩
    · exact h _ ((usedB_iff _ _).1 hj2) j (idxF_some hu hj rfl)
    · obtain ⟨h1, h2⟩ := idxF_get hj
      exact h j h1 ((usedB_iff _ _).2 (h2 ▸ hs))
  have h1 := (e _).2 (Int.le_refl _)
  have h2 := (e _).1 (Int.le_refl _)
  omega
theorem updI_updI (lv : Nat → Int) (k : Nat) (x y : Int) : updI (updI lv k x) k y = updI lv k y := by
  funext j
  unfold updI
  by_cases e : j = k
  · rw [if_pos e, if_pos e]
  · rw [if_neg e, if_neg e, if_neg e]
theorem updI_self (lv : Nat → Int) (k : Nat) (x : Int) : updI lv k x k = x := if_pos rfl
theorem updI_ne {lv : Nat → Int} {k j : Nat} {x : Int} (h : ¬ j = k) : updI lv k x j = lv j := if_neg h
theorem lvS_fold {gs : List Gt} {lv : Nat → Int} {i : Nat} : ∀ (l : List ByteArray) (n : Int), (∀ s ∈ l, idxF gs s ≠ some i) → l.foldl (lvS gs i) (updI lv i n) = updI lv i (l.foldl (fun n s => match idxF gs s with
  | none => n
  | some j => max n (lv j + 1)) n)
  | [], _, _ => rfl
  | s :: l, n, h => by
    rw [List.foldl_cons, List.foldl_cons]
    have e : lvS gs i (updI lv i n) s = updI lv i (match idxF gs s with
      | none => n
      | some j => max n (lv j + 1)) := by
      unfold lvS
      cases hs : idxF gs s with
      | none => rfl
      | some j =>
        have hj : ¬ j = i := fun e => h s List.mem_cons_self (by rw [hs, e])
        show updI (updI lv i n) i (max (updI lv i n i) (updI lv i n j + 1)) = updI lv i (max n (lv j + 1))
        rw [updI_updI, updI_self, updI_ne hj]
    rw [e]
    exact lvS_fold l _ (fun t ht => h t (List.mem_cons_of_mem _ ht))
def noSelf (gs : List Gt) (i : Nat) : Prop := ¬ (gat gs i).name ∈ (gat gs i).ins
theorem sortF_self (gs : List Gt) : ∀ (n : Nat) (th : Nat → Bool), ∀ k ∈ (sortF gs n th).1, noSelf gs k
  | 0, _, k, h => by cases h
  | n + 1, th, k, h => by
    cases hf : firstF gs th with
    | none => rw [sortF_stop hf] at h; cases h
    | some j =>
      rw [sortF_step hf] at h
      rcases List.mem_cons.1 h with rfl | h
      · obtain ⟨h1, h2, _⟩ := List.find?_range_eq_some.1 hf
        unfold freeB at h1
        simp only [Bool.and_eq_true, Bool.not_eq_true'] at h1
        intro hm
        have h3 := h1.2
        unfold waitsF at h3
        rw [List.any_eq_false] at h3
        exact h3 _ hm ((needs_iff _ _ _).2 ⟨k, List.mem_range.1 h2, rfl, h1.1⟩)
      · exact sortF_self gs n (updB th j) k h
def rlvI (gs : List Gt) (lv : Nat → Int) (i : Nat) : Nat → Int := updI lv i (nG gs lv i gs.length)
theorem lvI_eq {gs : List Gt} (hu : Uniq gs) {lv : Nat → Int} {i : Nat} (hs : noSelf gs i) : lvI gs lv i = rlvI gs lv i := by
  unfold lvI rlvI
  rw [lvS_fold _ _ (fun s hs2 e => hs ((idxF_get e).2 ▸ hs2)), ← nI_nG hu]
  rfl
theorem foldl_same {α β : Type} {f g : β → α → β} : ∀ (l : List α) (b : β), (∀ x ∈ l, ∀ b, f b x = g b x) → l.foldl f b = l.foldl g b
  | [], _, _ => rfl
  | x :: l, b, h => by
    rw [List.foldl_cons, List.foldl_cons, h x List.mem_cons_self]
    exact foldl_same l _ (fun y hy => h y (List.mem_cons_of_mem _ hy))
theorem lvG_eq {gs : List Gt} (hu : Uniq gs) : lvG gs = (sortG gs).1.foldl (rlvI gs) (fun _ => -1) :=
  foldl_same _ _ (fun i hi _ => lvI_eq hu (sortF_self gs gs.length none_ i hi))
theorem used_dec (l : List ByteArray) (s : ByteArray) : decide (s ∈ l) = usedB l s := by
  rw [Bool.eq_iff_iff, decide_eq_true_eq, usedB_iff]
theorem LvB.next {gs : List Gt} {b : Int} {lv : Nat → Int} (h : LvB b lv) (h0 : 0 ≤ b) (i k : Nat) : 0 ≤ nG gs lv i k ∧ nG gs lv i k ≤ b + 1 := ⟨nG_nn gs lv i k, (nG_le gs lv i (b + 1) k).2 ⟨by omega, fun j _ _ => by have := h j; omega⟩⟩
end Go.Proofs.YtbhoeanfnbkenaaDoor
