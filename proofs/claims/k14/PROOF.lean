import PyProof.Rows.All
import Wide.All
import OpenK.AllK
import Wide.FinOn
import HandS.ForMost
import HandS.Codes
import KE.GoesMore
import HandS.Walk
import HandS.Dict
import HandS.Style
import OpenK.KEqL
import HandS.IsInst
import HandS.StrMore
import HandS.TupAny
import HandS.Defaults
import HandS.ExcInit
import HandS.ExcField
import HandS.ExcIs
import HandS.WordsExc
import HandS.ExcOwn
import KE.KExcIs
import PySem.Challenge.RW_laytwice_k14_tools_refused
set_option Elab.async false
set_option linter.all false
set_option maxRecDepth 100000
set_option maxHeartbeats 4000000
namespace Lay
open PySem L2
def top (i : Nat) : Stmt := PySem.Challenge.pw_laytwice_k14_tools_refused.main.body.getD i (.Pass ⟨0, 0, 0, 0⟩)
abbrev sFeed : Stmt := top 24
abbrev sTake : Stmt := top 25
abbrev sPick : Stmt := top 26
theorem Same.new {a : Addr} {H : Hp} {o : HO} (h : H a = none) : Same H (upd H a o) := fun c u e => by
  rw [upd_ne (ne_of_none e h)]
  exact e
theorem iteN {c : Bool} {A B : Prop} (h : c = false) (x : B) : if c = true then A else B := by
  rw [if_neg (by rw [h]; exact Bool.false_ne_true)]
  exact x
theorem iteY {c : Bool} {A B : Prop} (h : c = true) (x : A) : if c = true then A else B := by
  rw [if_pos h]
  exact x
theorem fits {n : Nat} (h : n ≤ 1000) : n ≤ sizeLine := by
  rw [sizeLine_eq]
  omega
/-! ### the box of draws: a dict and its list -/
def kvBox (gr : Addr) (m : Int) : List (Key × V) := [(.inr "great", .ref gr), (.inr "mixed", .int m)]
structure BoxD (H : Hp) (b gr : Addr) : Prop where
  d : ∃ m, H b = some (.dK (kvBox gr m))
  l : ∃ ns : List Int, H gr = some (.lst (ns.map V.int)) ∧ ns.length ≤ 1000
/-- all that is tracked beside the box is as it was -/
def K2 (b gr : Addr) (H H' : Hp) : Prop := ∀ a o, a ≠ b → a ≠ gr → H a = some o → H' a = some o
theorem K2.refl (b gr : Addr) (H : Hp) : K2 b gr H H := fun _ _ _ _ h => h
theorem K2.trans {b gr : Addr} {H H1 H2 : Hp} (x : K2 b gr H H1) (y : K2 b gr H1 H2) : K2 b gr H H2 := fun a o n1 n2 h => y a o n1 n2 (x a o n1 n2 h)
theorem K2.of_same {b gr : Addr} {H H' : Hp} (x : Same H H') : K2 b gr H H' := fun a o _ _ h => x a o h
theorem K2.b {b gr : Addr} {H : Hp} {o : HO} : K2 b gr H (upd H b o) := fun a u n _ h => by rw [upd_ne n]; exact h
theorem K2.g {b gr : Addr} {H : Hp} {o : HO} : K2 b gr H (upd H gr o) := fun a u _ n h => by rw [upd_ne n]; exact h
theorem BoxD.ne {H : Hp} {b gr : Addr} (x : BoxD H b gr) : gr ≠ b := fun z => by
  obtain ⟨⟨m, h1⟩, ns, h2, _⟩ := x
  rw [z, h1] at h2
  cases h2
theorem BoxD.same {H H' : Hp} {b gr : Addr} (s : Same H H') (x : BoxD H b gr) : BoxD H' b gr := by
  obtain ⟨⟨m, h1⟩, ns, h2, h3⟩ := x
  exact ⟨⟨m, s _ _ h1⟩, ns, s _ _ h2, h3⟩
theorem BoxD.fresh {H : Hp} {a b gr : Addr} (x : BoxD H b gr) (h : H a = none) : a ≠ b ∧ a ≠ gr := by
  obtain ⟨⟨m, h1⟩, ns, h2, h3⟩ := x
  exact ⟨(ne_of_none h1 h).symm, (ne_of_none h2 h).symm⟩
theorem snocs (ms : List Int) : ms = [] ∨ ∃ (i : List Int) (z : Int), ms = i ++ [z] := by
  rcases List.eq_nil_or_concat ms with h | ⟨i, z, h⟩
  · exact .inl h
  · exact .inr ⟨i, z, by rw [h, List.concat_eq_append]⟩
theorem kv_ne : ¬ (Sum.inr (Str.ofString "great") : Key) = Sum.inr (Str.ofString "mixed") := by decide
theorem kv_great {gr : Addr} {m : Int} : valV (kvBox gr m) (.inr "great") = some (.ref gr) := valV_pos rfl
theorem kv_mixed {gr : Addr} {m : Int} : valV (kvBox gr m) (.inr "mixed") = some (.int m) := by
  unfold kvBox
  rw [valV_neg kv_ne]
  exact valV_pos rfl
theorem kv_put {gr : Addr} {m i : Int} : putK (kvBox gr m) (.inr "mixed") (.int i) = kvBox gr i := by
  have e := kv_ne
  simp [putK, kvBox, e]
/-- what the draws want of the module's names -/
structure TxtD (mg : Str → Option Value) : Prop where
  int : mg "int" = none
  len : mg "len" = none
  abs : mg "abs" = none
  range : mg "range" = none
def spTake : Sp := fun vs H Q _ => ∃ (b gr : Addr) (m : Int), vs = [.ref b, .int m] ∧ BoxD H b gr ∧ 0 < m ∧ m < 1073741824 ∧ ∀ (r : Int) (H' : Hp), 0 ≤ r → r < m → BoxD H' b gr → K2 b gr H H' → Q (.int r) H'
theorem ints_dp {K : PySem.W.Frag} {H : Hp} {p : Addr} {ns : List Int} (h : SqL K H p (ns.map V.int)) : Dp K H (.ref p) (.list (ns.map .int)) := .lst h (by
  clear h
  induction ns with
  | nil => exact .nil
  | cons n ns ih => exact .cons (.int n) ih)
theorem eqv_nil (ns : List Int) : PyData.eqv (.list (ns.map .int)) (.list []) = ns.isEmpty := by
  cases ns <;> rfl
theorem get_great {b gr : Addr} {m : Int} {H : Hp} (h : H b = some (.dK (kvBox gr m))) : DGet H b (.str "great") (some (.ref gr)) := by
  have q := DGet.k (k := .inr "great") h
  rw [kv_great] at q
  exact q
theorem get_mixed {b gr : Addr} {m : Int} {H : Hp} (h : H b = some (.dK (kvBox gr m))) : DGet H b (.str "mixed") (some (.int m)) := by
  have q := DGet.k (k := .inr "mixed") h
  rw [kv_mixed] at q
  exact q
theorem put_mixed {b gr : Addr} {m i : Int} {H : Hp} (h : H b = some (.dK (kvBox gr m))) : DPut H b (.str "mixed") (.int i) (upd H b (.dK (kvBox gr i))) := by
  have q := DPut.k (k := .inr "mixed") (v := .int i) h (by rw [sizeLine_eq]; show 2 < _; omega)
  rw [kv_put] at q
  exact q
section
variable {P : Program} {w : World} {K : PySem.W.Frag} {mg : Str → Option Value} {base : Heap}
theorem scTake : FnScope ["_law_box", "_law_wide", "_law_great", "_law_cell"] ["_law_box", "_law_wide"] (defScope sTake) := ⟨rfl, rfl, rfl, by decide +kernel, rfl, by decide +kernel, by decide +kernel⟩
theorem ok_take {f : Addr} {fd : FuncData} (F : Fun K "_law_take" "_law_take" sTake f fd) (T : TxtD mg) : FnOk P w K mg base CX0 1 f fd ["_law_box", "_law_wide"] spTake := by
  refine F.ok scTake (fun vs H Q E h => ?_) (fun cdv A outer s H vs Q E hr h => ?_)
  · obtain ⟨b, gr, m, rfl, _⟩ := h
    rfl
  · obtain ⟨b, gr, m, rfl, bx, hm, hm2, k⟩ := h
    refine ⟨_, (pss_cons (ps_set (i := 2) scTake.nd rfl (.inl rfl) (pe_dget (hu_of hr) (pv 0) pe_str (fun _ _ => rfl)))
    (C8.pss_cut (ps_while PassesOwn.never (PW.pt (pw_and (pt_cmpR (op_neD hr.units) (pv 2) (pe_lst pa_nil) (nomark _)) (pw_and1 (pt_cmpR op_eq (pe_ix ix_list (pv 2) (pe_un un_neg pe_int) (fun _ _ => rfl)) pe_int (nomark _)))))
      (pss_one (ps_expr (pe_bm0 PySem.F.plainAttrs_list PySem.F.slot_list_pop PySem.F.type_list_pop mt_pop (pv 2)))))
    (pss_cons (ps_if (pt_cmpR (op_neD hr.units) (pv 2) (pe_lst pa_nil) (nomark _))
      (pss_cons (ps_set (i := 3) scTake.nd rfl (.inl rfl) (pe_bm0 PySem.F.plainAttrs_list PySem.F.slot_list_pop PySem.F.type_list_pop mt_pop (pv 2)))
      (pss_cons (ps_expr (pe_bm PySem.F.plainAttrs_list PySem.F.slot_list_append PySem.F.type_list_append mt_append (pv 2) (pa_cons (pe_op op_fdiv (pv 3) (pv 1)) pa_nil)))
      (pss_one (ps_ret (pe_op op_mod (pe_callTy call_int1 (by rfl) T.int (by decide +kernel) (pa_cons (pv 3) pa_nil)) (pv 1))))))
      pss_nil)
    (pss_cons (ps_dput (hu_of hr) (pv 0) pe_str (pe_op op_mod (pe_callTy call_int1 (by rfl) T.int (by decide +kernel) (pa_cons (pe_op op_add (pe_op op_mul (pe_dget (hu_of hr) (pv 0) pe_str (fun _ _ => rfl)) pe_int) pe_int) pa_nil)) pe_int) (by rfl))
    (pss_one (ps_ret (pe_op op_mod (pe_callTy call_int1 (by rfl) T.int (by decide +kernel) (pa_cons (pe_op op_fdiv (pe_dget (hu_of hr) (pv 0) pe_str (fun _ _ => rfl)) pe_int) pa_nil)) (pv 1)))))))), ?_⟩
    obtain ⟨⟨x, hb⟩, ns, hg, hl⟩ := bx
    have ngb : gr ≠ b := fun z => by
      rw [z, hb] at hg
      cases hg
    refine ⟨_, rfl, b, _, rfl, get_great hb, ?_⟩
    refine ⟨fun σ G => ∃ ms : List Int, σ = [some (.ref b), some (.int m), some (.ref gr), none] ∧ G gr = some (.lst (ms.map V.int)) ∧ ms.length ≤ 1000 ∧ G b = some (.dK (kvBox gr x)) ∧ K2 b gr H G, ?_, ?_⟩
    · refine ⟨fun n σ G => ∃ ms : List Int, n = ms.length ∧ σ = [some (.ref b), some (.int m), some (.ref gr), none] ∧ G gr = some (.lst (ms.map V.int)) ∧ ms.length ≤ 1000 ∧ G b = some (.dK (kvBox gr x)) ∧ K2 b gr H G, ⟨_, ns, rfl, rfl, hg, hl, hb, K2.refl _ _ _⟩, ?_⟩
      rintro n σ G ⟨ms, rfl, rfl, hg1, hl1, hb1, k1⟩
      refine ⟨_, rfl, (by show 0 ≤ sizeLine; exact Nat.zero_le _), fun q nq => ⟨.list (ms.map .int), .list [], ints_dp (SqL.of (Same.new nq _ _ hg1)), .lst (SqL.of upd_same) .nil, PySem.W.shaped_ints ms, rfl, _, rfl, ?_⟩⟩
      have s1 := Same.new nq (o := .lst [])
      rw [eqv_nil]
      rcases snocs ms with rfl | ⟨init, z, rfl⟩
      · exact iteN rfl (iteN rfl ⟨[], rfl, s1 _ _ hg1, hl1, s1 _ _ hb1, k1.trans (K2.of_same s1)⟩)
      · have hg2 : upd G q (.lst []) gr = some (.lst (init.map V.int ++ [.int z])) := by
          have := s1 _ _ hg1
          rw [List.map_append] at this
          exact this
        refine iteY (by cases init <;> rfl) ⟨_, rfl, _, rfl, gr, _, _, _, rfl, rfl, SqL.of hg2, atI_last _ _, rfl, _, rfl, ?_⟩
        refine ite2 (fun hz => ?_) (fun hz => ?_)
        · have li : init.length < (init ++ [z]).length := by rw [List.length_append]; show _ < _ + 1; omega
          refine ⟨fun σ' G' => σ' = [some (.ref b), some (.int m), some (.ref gr), none] ∧ G' gr = some (.lst (init.map V.int)) ∧ G' b = some (.dK (kvBox gr x)) ∧ K2 b gr H G', fun σ' G' ⟨e1, e2, e3, e4⟩ => ⟨_, li, init, rfl, e1, e2, by omega, e3, e4⟩, ?_⟩
          refine ⟨_, rfl, .inl ⟨rfl, _, SqL.of hg2⟩, gr, _, .int z, rfl, rfl, hg2, by simp, rfl, ?_, ?_, ?_⟩
          · rw [upd_same, List.dropLast_concat]
          · rw [upd_ne (Ne.symm ngb)]
            exact s1 _ _ hb1
          · exact (k1.trans (K2.of_same s1)).trans K2.g
        · refine ⟨init ++ [z], rfl, ?_, hl1, s1 _ _ hb1, k1.trans (K2.of_same s1)⟩
          rw [List.map_append]
          exact hg2
    · rintro σ G ⟨ms, rfl, hg1, hl1, hb1, k1⟩
      refine ⟨_, rfl, (by show 0 ≤ sizeLine; exact Nat.zero_le _), fun q nq => ⟨.list (ms.map .int), .list [], ints_dp (SqL.of (Same.new nq _ _ hg1)), .lst (SqL.of upd_same) .nil, PySem.W.shaped_ints ms, rfl, _, rfl, ?_⟩⟩
      have s1 := Same.new nq (o := .lst [])
      have k2 := k1.trans (K2.of_same s1)
      rw [eqv_nil]
      rcases snocs ms with rfl | ⟨init, z, rfl⟩
      · refine iteN rfl ?_
        have hb2 := s1 _ _ hb1
        have hg2 := s1 _ _ hg1
        refine ⟨_, rfl, b, _, rfl, get_mixed hb2, _, _, rfl, rfl, .inr ⟨by decide, by decide⟩, _, _, rfl, rfl, .inl ⟨_, rfl, _, _, rfl, rfl, (by show (0 : Int) < 2147483647; decide), _, rfl, b, _, rfl, put_mixed hb2, ?_⟩⟩
        refine ⟨_, rfl, b, _, rfl, get_mixed upd_same, _, _, rfl, rfl, ⟨by decide, by decide⟩, .inl ⟨_, rfl, _, rfl, _, _, rfl, rfl, hm, ?_⟩⟩
        refine k _ _ (Int.emod_nonneg _ (by omega)) (Int.emod_lt_of_pos _ hm) ⟨⟨_, upd_same⟩, [], by rw [upd_ne ngb]; exact hg2, hl1⟩ (k2.trans K2.b)
      · have hg2 : upd G q (.lst []) gr = some (.lst (init.map V.int ++ [.int z])) := by
          have := s1 _ _ hg1
          rw [List.map_append] at this
          exact this
        refine iteY (by cases init <;> rfl) ?_
        refine ⟨_, rfl, .inl ⟨rfl, _, SqL.of hg2⟩, gr, _, .int z, rfl, rfl, hg2, by simp, ?_⟩
        rw [List.dropLast_concat]
        refine ⟨_, rfl, .inl ⟨rfl, _, SqL.of upd_same⟩, _, rfl, _, rfl, _, _, rfl, rfl, ⟨hm, hm2⟩, gr, _, _, rfl, rfl, upd_same, ?_, ?_⟩
        · rw [List.length_map]
          rw [List.length_append] at hl1
          exact small1000 (by omega)
        · refine ⟨_, rfl, .inl ⟨_, rfl, _, rfl, _, _, rfl, rfl, hm, ?_⟩⟩
          refine k _ _ (Int.emod_nonneg _ (by omega)) (Int.emod_lt_of_pos _ hm) ⟨⟨x, ?_⟩, init ++ [z / m], ?_, ?_⟩ ?_
          · rw [upd_ne (Ne.symm ngb), upd_ne (Ne.symm ngb)]
            exact s1 _ _ hb1
          · rw [upd_same, List.map_append]
            rfl
          · rw [List.length_append] at hl1 ⊢
            exact hl1
          · exact (k2.trans K2.g).trans K2.g
end
end Lay
set_option Elab.async false
set_option linter.all false
set_option maxRecDepth 100000
set_option maxHeartbeats 4000000
namespace Lay
open PySem L2
def spPick (K : PySem.W.Frag) : Sp := fun vs H Q _ => ∃ (b gr l : Addr) (xs : List V), vs = [.ref b, .ref l] ∧ BoxD H b gr ∧ l ≠ b ∧ l ≠ gr ∧ (H l = some (.lst xs) ∨ H l = some (.tup xs)) ∧ 0 < xs.length ∧ xs.length ≤ 1000 ∧ ∀ (v : V) (H' : Hp), v ∈ xs → BoxD H' b gr → K2 b gr H H' → Q v H'
def spFeed (K : PySem.W.Frag) : Sp := fun vs H Q _ => ∃ (a : Addr) (ns : List Int) (i : Int), vs = [.ref a, .int i] ∧ SqL K H a (ns.map V.int) ∧ 0 ≤ i ∧ i ≤ 1000 ∧ ns.length ≤ 1000 ∧ ∀ (b gr : Addr) (H' : Hp), Same H H' → H b = none → H gr = none → BoxD H' b gr → Q (.ref b) H'
theorem sIx_le' {α : Type} (xs : List α) (lo hi : Option Int) : ((xs.drop (HT.sIx xs.length 0 lo)).take (HT.sIx xs.length xs.length hi - HT.sIx xs.length 0 lo)).length ≤ xs.length := by
  rw [List.length_take, List.length_drop]
  omega
theorem cut_ints (ns : List Int) (lo hi : Option Int) : ∃ ms : List Int, cutV (ns.map V.int) lo hi = ms.map V.int ∧ ms.length ≤ ns.length := by
  refine ⟨(ns.drop (HT.sIx ns.length 0 lo)).take (HT.sIx ns.length ns.length hi - HT.sIx ns.length 0 lo), ?_, sIx_le' ns lo hi⟩
  unfold cutV
  rw [List.length_map, List.map_take, List.map_drop]
theorem merge_box {gr : Addr} {m : Int} : mergeK [] [((.inr "great" : Key), V.ref gr), (.inr "mixed", .int m)] = kvBox gr m := by
  have e := kv_ne
  simp [mergeK, putK, kvBox, e]
section
variable {P : Program} {w : World} {K : PySem.W.Frag} {mg : Str → Option Value} {base : Heap}
theorem scPick : FnScope ["_law_box", "_law_some"] ["_law_box", "_law_some"] (defScope sPick) := ⟨rfl, rfl, rfl, by decide +kernel, rfl, by decide +kernel, by decide +kernel⟩
theorem ok_pick {f fT : Addr} {fd fdT : FuncData} (F : Fun K "_law_pick" "_law_pick" sPick f fd) (T : TxtD mg) (GT : FnOk P w K mg base CX0 1 fT fdT ["_law_box", "_law_wide"] spTake) (gT : mg "_law_take" = some (.ref fT)) (kT : PySem.W.keepIn K (.ref fT) = true) (bT : Binds K fdT ["_law_box", "_law_wide"] []) :
    FnOk P w K mg base CX0 2 f fd ["_law_box", "_law_some"] (spPick K) := by
  refine F.ok scPick (fun vs H Q E h => ?_) (fun cdv A outer s H vs Q E hr h => ?_)
  · obtain ⟨b, gr, l, xs, rfl, _⟩ := h
    rfl
  · obtain ⟨b, gr, l, xs, rfl, bx, n1, n2, hs, h0, h1, k⟩ := h
    rcases hs with hs | hs
    · refine ⟨_, (pss_one (ps_ret (pe_ix ix_list (pv 1) (pe_call GT hr (by rfl) gT kT bT .nil pass0 (pa_cons (pv 0) (pa_cons (pe_callB call_len_seq (by rfl) T.len (by decide +kernel) (pa_cons (pv 1) pa_nil)) pa_nil))) (fun _ _ => rfl)))), ?_⟩
      refine ⟨_, rfl, _, rfl, _, rfl, l, xs, rfl, .inl (SqL.of hs), b, gr, _, rfl, bx, by omega, by omega, fun r H' r0 r1 bx' k2 => ?_⟩
      have hr' : r.toNat < xs.length := by omega
      have er : r = ((r.toNat : Nat) : Int) := by omega
      exact ⟨l, xs, r, xs[r.toNat], rfl, rfl, SqL.of (k2 _ _ n1 n2 hs), at_of er (by simp [hr']), k _ _ (List.getElem_mem hr') bx' k2⟩
    · refine ⟨_, (pss_one (ps_ret (pe_ix ix_tup (pv 1) (pe_call GT hr (by rfl) gT kT bT .nil pass0 (pa_cons (pv 0) (pa_cons (pe_callB call_len_seq (by rfl) T.len (by decide +kernel) (pa_cons (pv 1) pa_nil)) pa_nil))) (fun _ _ => rfl)))), ?_⟩
      refine ⟨_, rfl, _, rfl, _, rfl, l, xs, rfl, .inr (SqT.of hs), b, gr, _, rfl, bx, by omega, by omega, fun r H' r0 r1 bx' k2 => ?_⟩
      have hr' : r.toNat < xs.length := by omega
      have er : r = ((r.toNat : Nat) : Int) := by omega
      exact ⟨l, xs, r, xs[r.toNat], rfl, rfl, SqT.of (k2 _ _ n1 n2 hs), at_of er (by simp [hr']), k _ _ (List.getElem_mem hr') bx' k2⟩
def feedN : List Str := ["_law_script", "_law_base", "_law_cell", "_law_cells", "_law_mixed_here"]
theorem scFeed : FnScope feedN ["_law_script", "_law_base"] (defScope sFeed) := ⟨rfl, rfl, rfl, by decide +kernel, rfl, by decide +kernel, by decide +kernel⟩
theorem ok_feed {f : Addr} {fd : FuncData} (F : Fun K "_law_feed" "_law_feed" sFeed f fd) (T : TxtD mg) : FnOk P w K mg base CX0 1 f fd ["_law_script", "_law_base"] (spFeed K) := by
  refine F.ok scFeed (fun vs H Q E h => ?_) (fun cdv A outer s H vs Q E hr h => ?_)
  · obtain ⟨a, ns, i, rfl, _⟩ := h
    rfl
  · obtain ⟨a, ns, i, rfl, hs, i0, i1, hn, k⟩ := h
    refine ⟨_, (C8.pss_cut (ps_setLc (i := 3) (own := [("_law_cell", 2)]) (g := gName 2) (tt := tYes) rfl scFeed.nd rfl rfl (sw_true rfl rfl rfl (by decide +kernel)) (pi_list (pe_slice sl_list (pv 0) (po_some (pv 1)) (po_some (pe_op op_add (pv 1) pe_int)))) (blkOk_by (N := feedN) (sc := defScope sFeed) (by decide +kernel)) (fun _ _ _ _ _ => pg_name (i := 2) scFeed.nd rfl (Or.inl rfl)) (fun _ _ _ _ _ => pts_nil)
        (fun _ _ _ _ _ => pe_callB call_abs (by rfl) T.abs (by decide +kernel) (pa_cons (pe_callTy call_int1 (by rfl) T.int (by decide +kernel) (pa_cons (pv 2) pa_nil)) pa_nil)))
      (pss_cons (ps_set (i := 4) scFeed.nd rfl (.inl rfl) (pe_op op_add pe_int (pe_op op_mul pe_int (pv 1))))
      (C8.pss_cut (ps_for PassesOwn.never rfl (pi_list (pv 3)) (pg_name (i := 2) scFeed.nd rfl (.inl rfl))
        (pss_one (ps_set (i := 4) scFeed.nd rfl (.inl rfl) (pe_op op_mod (pe_callTy call_int1 (by rfl) T.int (by decide +kernel) (pa_cons (pe_op op_add (pe_op op_add (pe_callTy call_int1 (by rfl) T.int (by decide +kernel) (pa_cons (pe_op op_mul (pv 4) pe_int) pa_nil)) (pe_op op_mod (pe_callTy call_int1 (by rfl) T.int (by decide +kernel) (pa_cons (pv 2) pa_nil)) pe_int)) pe_int) pa_nil)) pe_int))))
      (pss_one (ps_ret (pe_disp (pps_cons pe_str (pe_revL (pe_lc (own := [("_law_cell", 2)]) (g := gName 2) (by rfl) scFeed.nd (pi_list (pv 3)) (blkOk_by (N := feedN) (sc := defScope sFeed) (by decide +kernel)) (fun _ _ _ _ _ => pg_name (i := 2) scFeed.nd rfl (Or.inl rfl))
          (fun _ _ _ _ _ => pts_one (pt_cmpR op_ge (pv 2) (pe_op op_pow pe_int pe_int) (nomark _))) (fun _ _ _ _ _ => pv 2))) (pps_cons pe_str (pv 4) pps_nil)) rfl rfl (by decide) (by decide))))))), ?_⟩
    refine ⟨fun σ G => ∃ (x2 x4 : Option V) (C1 : Addr) (ms : List Int), σ = [some (.ref a), some (.int i), x2, some (.ref C1), x4] ∧ Same H G ∧ G C1 = some (.lst (ms.map V.int)) ∧ ms.length ≤ 1000, ?_, ?_⟩
    · refine ⟨_, rfl, _, rfl, i, rfl, _, rfl, _, _, rfl, rfl, _, rfl, a, _, rfl, hs, fun p np => ?_⟩
      obtain ⟨ms, em, lm⟩ := cut_ints ns (some i) (some (i + 60))
      have hp : upd H p (.lst (cutV (ns.map V.int) (some i) (some (i + 60)))) p = some (.lst (ms.map V.int)) := by rw [upd_same, em]
      have s1 := Same.new np (o := .lst (cutV (ns.map V.int) (some i) (some (i + 60))))
      refine ⟨p, rfl, ⟨_, SqL.of hp⟩, fun D nD => lc_list (xs := ms.map V.int) (fun j G => ∃ acc : List Int, Same H G ∧ G p = some (.lst (ms.map V.int)) ∧ G D = some (.lst (acc.map V.int)) ∧ acc.length = j) ⟨[], s1.trans (Same.new nD), Same.new nD _ _ hp, upd_same, rfl⟩ (fun j G _ q => SqL.of (by obtain ⟨acc, _, q, _⟩ := q; exact q)) ?_ ?_⟩
      · rintro j x G hx ⟨acc, sG, hp', hD, hl⟩
        obtain ⟨z, rfl⟩ : ∃ z, x = V.int z := by
          rw [List.getElem?_map] at hx
          cases q : ms[j]? with
          | none => rw [q] at hx; cases hx
          | some z => rw [q] at hx; exact ⟨z, (Option.some.inj hx).symm⟩
        have hj : j < ms.length := by
          have := (List.getElem?_eq_some_iff.mp hx).1
          rw [List.length_map] at this
          exact this
        have nDp : D ≠ p := fun z => by
          rw [z] at nD
          rw [hp] at nD
          cases nD
        refine ⟨rfl, _, rfl, .inl ⟨_, rfl, _, rfl, _, hD, ?_, acc ++ [if z < 0 then -z else z], fun c u e => ?_, ?_, ?_, ?_⟩⟩
        · rw [List.length_map, hl]
          exact small1000 (by omega)
        · rw [upd_ne (ne_of_none (s1 _ _ e) nD)]
          exact sG _ _ e
        · rw [upd_ne (Ne.symm nDp)]
          exact hp'
        · rw [upd_same, List.map_append]
          rfl
        · rw [List.length_append, hl]
          rfl
      · rintro G ⟨acc, sG, hp', hD, hl⟩
        rw [List.length_map] at hl
        exact ⟨_, _, D, acc, rfl, sG, hD, by omega⟩
    · rintro σ G ⟨x2, x4, C1, ms, rfl, sG, hC, hl⟩
      refine ⟨_, rfl, _, _, rfl, rfl, .inl ⟨by decide, by decide⟩, _, _, rfl, rfl, ?_⟩
      refine ⟨fun σ G' => ∃ (x2 : Option V) (m : Int), σ = [some (.ref a), some (.int i), x2, some (.ref C1), some (.int m)] ∧ G' = G, ?_, ?_⟩
      · refine ⟨_, rfl, C1, rfl, ⟨_, SqL.of hC⟩, for_list (xs := ms.map V.int) (fun j σ G' => ∃ (x2 : Option V) (m : Int), σ = [some (.ref a), some (.int i), x2, some (.ref C1), some (.int m)] ∧ G' = G) ⟨_, _, rfl, rfl⟩ (fun j σ G' _ q => SqL.of (by obtain ⟨_, _, _, q⟩ := q; rw [q]; exact hC)) ?_ (fun σ G' q => q)⟩
        rintro j x σ G' hx ⟨x2, m, rfl, rfl⟩
        obtain ⟨z, rfl⟩ : ∃ z, x = V.int z := by
          rw [List.getElem?_map] at hx
          cases q : ms[j]? with
          | none => rw [q] at hx; cases hx
          | some z => rw [q] at hx; exact ⟨z, (Option.some.inj hx).symm⟩
        exact ⟨_, rfl, _, _, rfl, rfl, .inr ⟨by decide, by decide⟩, .inl ⟨_, rfl, _, rfl, .inl ⟨_, rfl, _, _, rfl, rfl, (by show (0 : Int) < 2147483587; decide), _, _, rfl, rfl, _, _, rfl, rfl, .inl ⟨_, rfl, _, _, rfl, rfl, (by show (0 : Int) < 2147483647; decide), _, _, rfl, rfl⟩⟩⟩⟩
      · rintro σ G' ⟨x2, m, rfl, rfl⟩
        refine fun p np => ⟨_, rfl, C1, rfl, ⟨_, SqL.of (Same.new np _ _ hC)⟩, fun D nD => lc_list (xs := ms.map V.int) (fun j H' => ∃ acc : List Int, Same G' H' ∧ H' C1 = some (.lst (ms.map V.int)) ∧ H' p = some (.dK []) ∧ H' D = some (.lst (acc.map V.int)) ∧ acc.length ≤ j)
          ⟨[], (Same.new np).trans (Same.new nD), Same.new nD _ _ (Same.new np _ _ hC), Same.new nD _ _ upd_same, upd_same, Nat.le_refl _⟩ (fun j G _ q => SqL.of (by obtain ⟨acc, _, q, _⟩ := q; exact q)) ?_ ?_⟩
        · rintro j x H' hx ⟨acc, sH, hC', hp', hD, hl'⟩
          obtain ⟨z, rfl⟩ : ∃ z, x = V.int z := by
            rw [List.getElem?_map] at hx
            cases q : ms[j]? with
            | none => rw [q] at hx; cases hx
            | some z => rw [q] at hx; exact ⟨z, (Option.some.inj hx).symm⟩
          have hj : j < ms.length := by
            have := (List.getElem?_eq_some_iff.mp hx).1
            rw [List.length_map] at this
            exact this
          have nDC : C1 ≠ D := ne_of_none (Same.new np _ _ hC) nD
          have nDp : p ≠ D := ne_of_none (upd_same (H := G') (a := p) (o := .dK [])) nD
          refine ⟨rfl, _, rfl, _, _, rfl, rfl, ⟨by decide, by decide, by decide⟩, _, _, rfl, rfl, _, rfl, ?_⟩
          refine ite2 (fun _ => ?_) (fun _ => ⟨acc, sH, hC', hp', hD, by omega⟩)
          refine ⟨_, rfl, _, hD, ?_, acc ++ [z], fun c u e => ?_, ?_, ?_, ?_, ?_⟩
          · rw [List.length_map]
            exact small1000 (by omega)
          · rw [upd_ne (ne_of_none ((Same.new np) _ _ e) nD)]
            exact sH _ _ e
          · rw [upd_ne nDC]
            exact hC'
          · rw [upd_ne nDp]
            exact hp'
          · rw [upd_same, List.map_append]
            rfl
          · rw [List.length_append]
            show acc.length + 1 ≤ j + 1
            omega
        · rintro H' ⟨acc, sH, hC', hp', hD, hl'⟩
          rw [List.length_map] at hl'
          refine ⟨D, _, rfl, SqL.of hD, fun gr ng => ⟨_, rfl, Same.new ng _ _ hp', [(.inr "great", .ref gr), (.inr "mixed", .int m)], rfl, (by show 2 ≤ 15; decide), ?_⟩⟩
          rw [merge_box]
          have ngp : gr ≠ p := (ne_of_none hp' ng).symm
          refine k p gr _ (fun c u e => ?_) (sG.free np) (((sG.trans sH)).free ng) ⟨⟨m, upd_same⟩, acc.reverse, ?_, ?_⟩
          · have e1 := sG _ _ e
            rw [upd_ne (ne_of_none e1 np)]
            exact Same.new ng _ _ (sH _ _ e1)
          · rw [upd_ne ngp, upd_same, List.map_reverse]
          · rw [List.length_reverse]
            omega
end
end Lay
set_option Elab.async false
set_option linter.all false
set_option maxRecDepth 100000
set_option maxHeartbeats 4000000
namespace Lay
open PySem L2
/-- the names of the module that must be Python's own -/
structure TxtK (mg : Str → Option Value) : Prop where
  str : mg "str" = none
  list : mg "list" = none
  tuple : mg "tuple" = none
  isinstance : mg "isinstance" = none
  len : mg "len" = none
  all : mg "all" = none
theorem TyOf.same {K : PySem.W.Frag} {H H' : Hp} {x : V} {t : Value} (s : Same H H') (h : TyOf K H x t) : TyOf K H' x t := by
  cases h with
  | non => exact .non
  | bl b => exact .bl b
  | int i => exact .int i
  | str z => exact .str z
  | flt z => exact .flt z
  | lst e => exact .lst (s _ _ e)
  | frz e => exact .frz (s _ _ e)
  | tup e => exact .tup (s _ _ e)
  | dK e => exact .dK (s _ _ e)
  | dT e => exact .dT (s _ _ e)
  | ins e cl ha hn htk hm => exact .ins (s _ _ e) cl ha hn htk hm
theorem TyX.same {K : PySem.W.Frag} {H H' : Hp} {x : V} {t : Value} (s : Same H H') (h : TyX K H x t) : TyX K H' x t := by
  cases h with
  | base h => exact .base (TyOf.same s h)
  | byt b => exact .byt b
  | set e => exact .set (s _ _ e)
  | kList e c => exact .kList e c
  | kTuple e c => exact .kTuple e c
  | kDict e c => exact .kDict e c
  | fTuple e => exact .fTuple (s _ _ e)
  | fDict e => exact .fDict (s _ _ e)
/-- isinstance of the built-in class n -/
def IsT (K : PySem.W.Frag) (H : Hp) (x : V) (n : String) (b : Bool) : Prop := ∃ t, TyX K H x t ∧ PySem.W.kitOne K t (.type n) = some b
theorem IsT.same {K : PySem.W.Frag} {H H' : Hp} {x : V} {n : String} {b : Bool} (s : Same H H') (h : IsT K H x n b) : IsT K H' x n b := by
  obtain ⟨t, h1, h2⟩ := h
  exact ⟨t, TyX.same s h1, h2⟩
theorem isT_str {K : PySem.W.Frag} {H : Hp} {z : Str} : IsT K H (.str z) "str" true := ⟨_, .base (.str z), kit_ty (by decide +kernel)⟩
/-- is it a list or a tuple -/
def IsSeq (K : PySem.W.Frag) (H : Hp) (x : V) (b : Bool) : Prop := ∃ t, TyX K H x t ∧ PySem.W.kitAny K t [.type "list", .type "tuple"] = some b
theorem IsSeq.same {K : PySem.W.Frag} {H H' : Hp} {x : V} {b : Bool} (s : Same H H') (h : IsSeq K H x b) : IsSeq K H' x b := by
  obtain ⟨t, h1, h2⟩ := h
  exact ⟨t, TyX.same s h1, h2⟩
theorem kitAny_lt {K : PySem.W.Frag} {t : Value} {b c : Bool} (h1 : PySem.W.kitOne K t (.type "list") = some b) (h2 : PySem.W.kitOne K t (.type "tuple") = some c) : PySem.W.kitAny K t [.type "list", .type "tuple"] = some (b || c) := by
  refine kitAny_cons h1 (fun hb => ?_) (fun hb => by rw [hb]; rfl)
  subst hb
  exact kitAny_cons h2 (fun hc => by subst hc; exact kitAny_nil) (fun hc => by rw [hc]; rfl)
/-- what is a list or a tuple of xs -/
def SqX (H : Hp) (a : Addr) (xs : List V) : Prop := H a = some (.lst xs) ∨ H a = some (.tup xs)
theorem SqX.same {H H' : Hp} {a : Addr} {xs : List V} (s : Same H H') (h : SqX H a xs) : SqX H' a xs := h.imp (s _ _) (s _ _)
theorem SqX.seq {K : PySem.W.Frag} {H : Hp} {a : Addr} {xs : List V} (h : SqX H a xs) : IsSeq K H (.ref a) true := by
  rcases h with h | h
  · exact ⟨_, .base (.lst h), kitAny_lt (b := true) (c := false) (kit_ty (by decide +kernel)) (kit_ty (by decide +kernel))⟩
  · exact ⟨_, .base (.tup h), kitAny_lt (b := false) (c := true) (kit_ty (by decide +kernel)) (kit_ty (by decide +kernel))⟩
/-! ### words -/
def testL : List Str := ["broken", "marked", "left", "ahead", "behind", "blank", "long", "first", "afterbroken", "afterbehind"]
def deedL : List Str := ["break", "join", "mark", "unmark", "lift", "lower", "space", "close"]
def progT (z : Str) : Bool := inV (.str (Txt.removeprefix z "not ")) (testL.map V.str)
def progD (z : Str) : Bool := inV (.str z) (deedL.map V.str)
theorem flat_strs (zs : List Str) : (zs.map V.str).all flatV = true := by
  induction zs with
  | nil => rfl
  | cons z zs ih => exact (Bool.and_eq_true_iff.mpr ⟨rfl, ih⟩)
/-- what one thing's test answers: f of a text, no otherwise -/
def ItB (f : Str → Bool) (K : PySem.W.Frag) (H : Hp) (x : V) (b : Bool) : Prop := (∃ z, x = .str z ∧ z.length ≤ 1000 ∧ b = f z) ∨ (b = false ∧ IsT K H x "str" false)
theorem ItB.same {f : Str → Bool} {K : PySem.W.Frag} {H H' : Hp} {x : V} {b : Bool} (s : Same H H') (h : ItB f K H x b) : ItB f K H' x b := h.imp id fun ⟨e, t⟩ => ⟨e, t.same s⟩
def ItBs (f : Str → Bool) (K : PySem.W.Frag) (H : Hp) (xs : List V) (bs : List Bool) : Prop := bs.length = xs.length ∧ ∀ (i : Nat) (x : V) (b : Bool), xs[i]? = some x → bs[i]? = some b → ItB f K H x b
theorem ItBs.same {f : Str → Bool} {K : PySem.W.Frag} {H H' : Hp} {xs : List V} {bs : List Bool} (s : Same H H') (h : ItBs f K H xs bs) : ItBs f K H' xs bs := ⟨h.1, fun i x b h1 h2 => (h.2 i x b h1 h2).same s⟩
/-- what is said of a value: r, where more is what must hold of a sequence besides -/
def AnsV (f : Str → Bool) (more : List V → Bool) (K : PySem.W.Frag) (H : Hp) (x : V) (r : Bool) : Prop := (IsSeq K H x false ∧ r = false) ∨ ∃ a xs bs, x = .ref a ∧ SqX H a xs ∧ xs.length ≤ 1000 ∧ ItBs f K H xs bs ∧ r = (more xs && bs.all id)
theorem AnsV.same {f : Str → Bool} {more : List V → Bool} {K : PySem.W.Frag} {H H' : Hp} {x : V} {r : Bool} (s : Same H H') (h : AnsV f more K H x r) : AnsV f more K H' x r := by
  rcases h with ⟨h, e⟩ | ⟨a, xs, bs, e, h1, h2, h3, h4⟩
  · exact .inl ⟨h.same s, e⟩
  · exact .inr ⟨a, xs, bs, e, h1.same s, h2, h3.same s, h4⟩
def yes (_ : List V) : Bool := true
def full (xs : List V) : Bool := decide (0 < xs.length)
def spSeq (K : PySem.W.Frag) : Sp := fun vs H Q _ => ∃ x b, vs = [x] ∧ IsSeq K H x b ∧ ∀ H', Same H H' → Q (.bl b) H'
def spOne (f : Str → Bool) (K : PySem.W.Frag) : Sp := fun vs H Q _ => ∃ x b, vs = [x] ∧ ItB f K H x b ∧ Q (.bl b) H
def spAre (f : Str → Bool) (more : List V → Bool) (K : PySem.W.Frag) : Sp := fun vs H Q _ => ∃ x r, vs = [x] ∧ AnsV f more K H x r ∧ ∀ H', Same H H' → Q (.bl r) H'
abbrev sSeq : Stmt := top 9
abbrev sTest : Stmt := top 13
abbrev sDeed : Stmt := top 14
abbrev sAreT : Stmt := top 15
abbrev sAreD : Stmt := top 16
section
variable {P : Program} {w : World} {K : PySem.W.Frag} {mg : Str → Option Value} {base : Heap}
theorem scSeq : FnScope ["value"] ["value"] (defScope sSeq) := ⟨rfl, rfl, rfl, by decide +kernel, rfl, by decide +kernel, by decide +kernel⟩
theorem ok_seq {f : Addr} {fd : FuncData} (F : Fun K "is_sequence" "is_sequence" sSeq f fd) (T : TxtK mg) : FnOk P w K mg base CX0 1 f fd ["value"] (spSeq K) := by
  refine F.ok scSeq (fun vs H Q E h => ?_) (fun cdv A outer s H vs Q E hr h => ?_)
  · obtain ⟨x, b, rfl, _⟩ := h
    rfl
  · obtain ⟨x, b, rfl, ⟨t, ty, e⟩, k⟩ := h
    refine ⟨_, (pss_one (ps_ret (pe_callB call_isiT (by rfl) T.isinstance (by decide +kernel) (pa_cons (pv 0) (pa_cons (pe_tup (pa_cons (pe_bltn (v := .ty "list") (by rfl) T.list (by decide +kernel) rfl) (pa_cons (pe_bltn (v := .ty "tuple") (by rfl) T.tuple (by decide +kernel) rfl) pa_nil))) pa_nil))))), ?_⟩
    refine ⟨_, rfl, (by show 2 ≤ sizeLine; decide), fun p hp => ?_⟩
    exact ⟨x, p, _, t, _, b, rfl, upd_same, .cons (.ty _) (.cons (.ty _) .nil), TyX.same (Same.new hp) ty, e, k _ (Same.new hp)⟩
theorem scTest : FnScope ["value"] ["value"] (defScope sTest) := ⟨rfl, rfl, rfl, by decide +kernel, rfl, by decide +kernel, by decide +kernel⟩
theorem ok_test {f tT : Addr} {fd : FuncData} (F : Fun K "is_test" "is_test" sTest f fd) (T : TxtK mg) (gT : mg "TESTS" = some (.ref tT)) (hT : ∀ H : Hp, SqT K H tT (testL.map V.str)) : FnOk P w K mg base CX0 1 f fd ["value"] (spOne progT K) := by
  refine F.ok scTest (fun vs H Q E h => ?_) (fun cdv A outer s H vs Q E hr h => ?_)
  · obtain ⟨x, b, rfl, _⟩ := h
    rfl
  · obtain ⟨x, b, rfl, h, k⟩ := h
    refine ⟨_, (pss_one (ps_ret (pe_and (pe_callB call_isi (by rfl) T.isinstance (by decide +kernel) (pa_cons (pv 0) (pa_cons (pe_bltn (v := .ty "str") (by rfl) T.str (by decide +kernel) rfl) pa_nil)))
      (pe_one (pe_cmpR op_in_seq (pe_bm PySem.F.plainAttrs_str PySem.F.slot_str_removeprefix PySem.F.type_str_removeprefix mt_removeprefix (pv 0) (pa_cons pe_str pa_nil)) (pe_glob (v := .ref tT) (by rfl) gT rfl) (by rfl)))))), ?_⟩
    rcases h with ⟨z, rfl, hz, rfl⟩ | ⟨rfl, t, ty, e⟩
    · obtain ⟨t, ty, e⟩ := isT_str (K := K) (H := H) (z := z)
      refine ⟨_, rfl, _, _, _, _, _, rfl, .ty _, ty, e, _, rfl, ?_⟩
      exact iteY rfl ⟨_, rfl, rfl, z, "not ", rfl, rfl, fits hz, tT, _, rfl, .inr (hT _), rfl, flat_strs _, k⟩
    · exact ⟨_, rfl, _, _, _, _, _, rfl, .ty _, ty, e, _, rfl, iteN rfl k⟩
theorem scDeed : FnScope ["value"] ["value"] (defScope sDeed) := ⟨rfl, rfl, rfl, by decide +kernel, rfl, by decide +kernel, by decide +kernel⟩
theorem ok_deed {f tD : Addr} {fd : FuncData} (F : Fun K "is_deed" "is_deed" sDeed f fd) (T : TxtK mg) (gT : mg "DEEDS" = some (.ref tD)) (hT : ∀ H : Hp, SqT K H tD (deedL.map V.str)) : FnOk P w K mg base CX0 1 f fd ["value"] (spOne progD K) := by
  refine F.ok scDeed (fun vs H Q E h => ?_) (fun cdv A outer s H vs Q E hr h => ?_)
  · obtain ⟨x, b, rfl, _⟩ := h
    rfl
  · obtain ⟨x, b, rfl, h, k⟩ := h
    refine ⟨_, (pss_one (ps_ret (pe_and (pe_callB call_isi (by rfl) T.isinstance (by decide +kernel) (pa_cons (pv 0) (pa_cons (pe_bltn (v := .ty "str") (by rfl) T.str (by decide +kernel) rfl) pa_nil)))
      (pe_one (pe_cmpR op_in_seq (pv 0) (pe_glob (v := .ref tD) (by rfl) gT rfl) (by rfl)))))), ?_⟩
    rcases h with ⟨z, rfl, hz, rfl⟩ | ⟨rfl, t, ty, e⟩
    · obtain ⟨t, ty, e⟩ := isT_str (K := K) (H := H) (z := z)
      refine ⟨_, rfl, _, _, _, _, _, rfl, .ty _, ty, e, _, rfl, ?_⟩
      exact iteY rfl ⟨_, rfl, tD, _, rfl, .inr (hT _), rfl, flat_strs _, k⟩
    · exact ⟨_, rfl, _, _, _, _, _, rfl, .ty _, ty, e, _, rfl, iteN rfl k⟩
theorem scAreT : FnScope ["value", "one"] ["value"] (defScope sAreT) := ⟨rfl, rfl, rfl, by decide +kernel, rfl, by decide +kernel, by decide +kernel⟩
theorem ok_areT {f fS fO : Addr} {fd fdS fdO : FuncData} (F : Fun K "are_tests" "are_tests" sAreT f fd) (T : TxtK mg) (GS : FnOk P w K mg base CX0 1 fS fdS ["value"] (spSeq K)) (gS : mg "is_sequence" = some (.ref fS)) (kS : PySem.W.keepIn K (.ref fS) = true) (bS : Binds K fdS ["value"] [])
    (GO : FnOk P w K mg base CX0 1 fO fdO ["value"] (spOne progT K)) (gO : mg "is_test" = some (.ref fO)) (kO : PySem.W.keepIn K (.ref fO) = true) (bO : Binds K fdO ["value"] []) : FnOk P w K mg base CX0 2 f fd ["value"] (spAre progT yes K) := by
  refine F.ok scAreT (fun vs H Q E h => ?_) (fun cdv A outer s H vs Q E hr h => ?_)
  · obtain ⟨x, r, rfl, _⟩ := h
    rfl
  · obtain ⟨x, r, rfl, h, k⟩ := h
    rcases h with ⟨h, rfl⟩ | ⟨a, xs, bs, rfl, hx, hl, hb, rfl⟩
    · refine ⟨_, (pss_one (ps_ret (pe_and (pe_call GS hr (by rfl) gS kS bS .nil pass0 (pa_cons (pv 0) pa_nil)) (pe_one (pe_callB (cr_all rfl) (by rfl) T.all (by decide +kernel) (pa_cons
            (pe_lc (own := [("one", 1)]) (g := gName 1) (tt := tYes) (by rfl) scAreT.nd (pi_list (pv 0)) (blkOk_by (N := ["value", "one"]) (sc := defScope sAreT) (by decide +kernel)) (fun _ _ _ _ _ => pg_name (i := 1) scAreT.nd rfl (Or.inl rfl)) (fun _ _ _ _ _ => pts_nil) (fun _ _ _ _ _ => pe_call GO hr (by rfl) gO kO bO .nil pass0 (pa_cons (pv 1) pa_nil))) pa_nil)))))), ?_⟩
      exact ⟨_, rfl, _, false, rfl, h, fun H' s => ⟨_, rfl, iteN rfl (k H' s)⟩⟩
    · have lb : bs.length ≤ 1000 := by rw [hb.1]; exact hl
      rcases hx with hx | hx
      · refine ⟨_, (pss_one (ps_ret (pe_and (pe_call GS hr (by rfl) gS kS bS .nil pass0 (pa_cons (pv 0) pa_nil)) (pe_one (pe_callB (cr_all rfl) (by rfl) T.all (by decide +kernel) (pa_cons
            (pe_lc (own := [("one", 1)]) (g := gName 1) (tt := tYes) (by rfl) scAreT.nd (pi_list (pv 0)) (blkOk_by (N := ["value", "one"]) (sc := defScope sAreT) (by decide +kernel)) (fun _ _ _ _ _ => pg_name (i := 1) scAreT.nd rfl (Or.inl rfl)) (fun _ _ _ _ _ => pts_nil) (fun _ _ _ _ _ => pe_call GO hr (by rfl) gO kO bO .nil pass0 (pa_cons (pv 1) pa_nil))) pa_nil)))))), ?_⟩
        refine ⟨_, rfl, _, true, rfl, SqX.seq (.inl hx), fun H1 s1 => ⟨_, rfl, ?_⟩⟩
        refine iteY rfl ?_
        refine ⟨_, rfl, a, rfl, ⟨_, SqL.of (s1 _ _ hx)⟩, fun D nD => lc_list (K := K) (a := a) (xs := xs) (fun i G => Same H1 G ∧ G D = some (.lst ((bs.take i).map V.bl))) ⟨Same.new nD, upd_same⟩ (fun i G _ q => SqL.of (q.1 _ _ (s1 _ _ hx))) ?_ ?_⟩
        · rintro i x G hi ⟨sG, hD⟩
          have li := (List.getElem?_eq_some_iff.mp hi).1
          rw [← hb.1] at li
          have eb : bs[i]? = some bs[i] := by simp [li]
          refine ⟨rfl, _, rfl, x, bs[i], rfl, (hb.2 i x _ hi eb).same (s1.trans sG), _, hD, ?_, fun c u e => by rw [upd_ne (ne_of_none e nD)]; exact sG _ _ e, ?_⟩
          · rw [List.length_map, List.length_take]
            exact small1000 (by omega)
          · rw [upd_same, List.take_succ, eb, List.map_append]
            rfl
        · rintro G ⟨sG, hD⟩
          rw [← hb.1, List.take_length] at hD
          exact ⟨D, bs, rfl, SqL.of hD, k G (s1.trans sG)⟩
      · refine ⟨_, (pss_one (ps_ret (pe_and (pe_call GS hr (by rfl) gS kS bS .nil pass0 (pa_cons (pv 0) pa_nil)) (pe_one (pe_callB (cr_all rfl) (by rfl) T.all (by decide +kernel) (pa_cons
            (pe_lc (own := [("one", 1)]) (g := gName 1) (tt := tYes) (by rfl) scAreT.nd (pi_tup (pv 0)) (blkOk_by (N := ["value", "one"]) (sc := defScope sAreT) (by decide +kernel)) (fun _ _ _ _ _ => pg_name (i := 1) scAreT.nd rfl (Or.inl rfl)) (fun _ _ _ _ _ => pts_nil) (fun _ _ _ _ _ => pe_call GO hr (by rfl) gO kO bO .nil pass0 (pa_cons (pv 1) pa_nil))) pa_nil)))))), ?_⟩
        refine ⟨_, rfl, _, true, rfl, SqX.seq (.inr hx), fun H1 s1 => ⟨_, rfl, ?_⟩⟩
        refine iteY rfl ?_
        refine ⟨_, rfl, a, rfl, ⟨_, SqT.of (s1 _ _ hx)⟩, fun D nD => lc_tup (K := K) (a := a) (xs := xs) (fun i G => Same H1 G ∧ G D = some (.lst ((bs.take i).map V.bl))) ⟨Same.new nD, upd_same⟩ (fun i G _ q => SqT.of (q.1 _ _ (s1 _ _ hx))) ?_ ?_⟩
        · rintro i x G hi ⟨sG, hD⟩
          have li := (List.getElem?_eq_some_iff.mp hi).1
          rw [← hb.1] at li
          have eb : bs[i]? = some bs[i] := by simp [li]
          refine ⟨rfl, _, rfl, x, bs[i], rfl, (hb.2 i x _ hi eb).same (s1.trans sG), _, hD, ?_, fun c u e => by rw [upd_ne (ne_of_none e nD)]; exact sG _ _ e, ?_⟩
          · rw [List.length_map, List.length_take]
            exact small1000 (by omega)
          · rw [upd_same, List.take_succ, eb, List.map_append]
            rfl
        · rintro G ⟨sG, hD⟩
          rw [← hb.1, List.take_length] at hD
          exact ⟨D, bs, rfl, SqL.of hD, k G (s1.trans sG)⟩
theorem scAreD : FnScope ["value", "one"] ["value"] (defScope sAreD) := ⟨rfl, rfl, rfl, by decide +kernel, rfl, by decide +kernel, by decide +kernel⟩
theorem ok_areD {f fS fO : Addr} {fd fdS fdO : FuncData} (F : Fun K "are_deeds" "are_deeds" sAreD f fd) (T : TxtK mg) (GS : FnOk P w K mg base CX0 1 fS fdS ["value"] (spSeq K)) (gS : mg "is_sequence" = some (.ref fS)) (kS : PySem.W.keepIn K (.ref fS) = true) (bS : Binds K fdS ["value"] [])
    (GO : FnOk P w K mg base CX0 1 fO fdO ["value"] (spOne progD K)) (gO : mg "is_deed" = some (.ref fO)) (kO : PySem.W.keepIn K (.ref fO) = true) (bO : Binds K fdO ["value"] []) : FnOk P w K mg base CX0 2 f fd ["value"] (spAre progD full K) := by
  refine F.ok scAreD (fun vs H Q E h => ?_) (fun cdv A outer s H vs Q E hr h => ?_)
  · obtain ⟨x, r, rfl, _⟩ := h
    rfl
  · obtain ⟨x, r, rfl, h, k⟩ := h
    rcases h with ⟨h, rfl⟩ | ⟨a, xs, bs, rfl, hx, hl, hb, rfl⟩
    · refine ⟨_, (pss_one (ps_ret (pe_and (pe_call GS hr (by rfl) gS kS bS .nil pass0 (pa_cons (pv 0) pa_nil)) (pe_and (pe_cmpR op_gt (pe_callB call_len_seq (by rfl) T.len PySem.boot_len (pa_cons (pv 0) pa_nil)) pe_int (nomark _)) (pe_one (pe_callB (cr_all rfl) (by rfl) T.all (by decide +kernel) (pa_cons
            (pe_lc (own := [("one", 1)]) (g := gName 1) (tt := tYes) (by rfl) scAreD.nd (pi_list (pv 0)) (blkOk_by (N := ["value", "one"]) (sc := defScope sAreD) (by decide +kernel)) (fun _ _ _ _ _ => pg_name (i := 1) scAreD.nd rfl (Or.inl rfl)) (fun _ _ _ _ _ => pts_nil) (fun _ _ _ _ _ => pe_call GO hr (by rfl) gO kO bO .nil pass0 (pa_cons (pv 1) pa_nil))) pa_nil))))))), ?_⟩
      exact ⟨_, rfl, _, false, rfl, h, fun H' s => ⟨_, rfl, iteN rfl (k H' s)⟩⟩
    · have lb : bs.length ≤ 1000 := by rw [hb.1]; exact hl
      rcases hx with hx | hx
      · refine ⟨_, (pss_one (ps_ret (pe_and (pe_call GS hr (by rfl) gS kS bS .nil pass0 (pa_cons (pv 0) pa_nil)) (pe_and (pe_cmpR op_gt (pe_callB call_len_seq (by rfl) T.len PySem.boot_len (pa_cons (pv 0) pa_nil)) pe_int (nomark _)) (pe_one (pe_callB (cr_all rfl) (by rfl) T.all (by decide +kernel) (pa_cons
            (pe_lc (own := [("one", 1)]) (g := gName 1) (tt := tYes) (by rfl) scAreD.nd (pi_list (pv 0)) (blkOk_by (N := ["value", "one"]) (sc := defScope sAreD) (by decide +kernel)) (fun _ _ _ _ _ => pg_name (i := 1) scAreD.nd rfl (Or.inl rfl)) (fun _ _ _ _ _ => pts_nil) (fun _ _ _ _ _ => pe_call GO hr (by rfl) gO kO bO .nil pass0 (pa_cons (pv 1) pa_nil))) pa_nil))))))), ?_⟩
        refine ⟨_, rfl, _, true, rfl, SqX.seq (.inl hx), fun H1 s1 => ⟨_, rfl, ?_⟩⟩
        refine iteY rfl ?_
        refine ⟨_, rfl, a, xs, rfl, .inl (SqL.of (s1 _ _ hx)), _, _, rfl, rfl, _, rfl, ?_⟩
        have e0 : decide (((xs.length : Nat) : Int) > 0) = full xs := by
          unfold full
          by_cases q : 0 < xs.length
          · rw [decide_eq_true q, decide_eq_true (by omega)]
          · rw [decide_eq_false q, decide_eq_false (by omega)]
        refine ite2 (fun h1 => ?_) (fun h1 => ?_)
        · have h2 : full xs = true := by rw [← e0]; exact h1
          rw [h2] at k
          refine ⟨_, rfl, a, rfl, ⟨_, SqL.of (s1 _ _ hx)⟩, fun D nD => lc_list (K := K) (a := a) (xs := xs) (fun i G => Same H1 G ∧ G D = some (.lst ((bs.take i).map V.bl))) ⟨Same.new nD, upd_same⟩ (fun i G _ q => SqL.of (q.1 _ _ (s1 _ _ hx))) ?_ ?_⟩
          · rintro i x G hi ⟨sG, hD⟩
            have li := (List.getElem?_eq_some_iff.mp hi).1
            rw [← hb.1] at li
            have eb : bs[i]? = some bs[i] := by simp [li]
            refine ⟨rfl, _, rfl, x, bs[i], rfl, (hb.2 i x _ hi eb).same (s1.trans sG), _, hD, ?_, fun c u e => by rw [upd_ne (ne_of_none e nD)]; exact sG _ _ e, ?_⟩
            · rw [List.length_map, List.length_take]
              exact small1000 (by omega)
            · rw [upd_same, List.take_succ, eb, List.map_append]
              rfl
          · rintro G ⟨sG, hD⟩
            rw [← hb.1, List.take_length] at hD
            exact ⟨D, bs, rfl, SqL.of hD, k G (s1.trans sG)⟩
        · have h2 : full xs = false := by rw [← e0]; simpa using h1
          rw [h2] at k
          exact k H1 s1
      · refine ⟨_, (pss_one (ps_ret (pe_and (pe_call GS hr (by rfl) gS kS bS .nil pass0 (pa_cons (pv 0) pa_nil)) (pe_and (pe_cmpR op_gt (pe_callB call_len_seq (by rfl) T.len PySem.boot_len (pa_cons (pv 0) pa_nil)) pe_int (nomark _)) (pe_one (pe_callB (cr_all rfl) (by rfl) T.all (by decide +kernel) (pa_cons
            (pe_lc (own := [("one", 1)]) (g := gName 1) (tt := tYes) (by rfl) scAreD.nd (pi_tup (pv 0)) (blkOk_by (N := ["value", "one"]) (sc := defScope sAreD) (by decide +kernel)) (fun _ _ _ _ _ => pg_name (i := 1) scAreD.nd rfl (Or.inl rfl)) (fun _ _ _ _ _ => pts_nil) (fun _ _ _ _ _ => pe_call GO hr (by rfl) gO kO bO .nil pass0 (pa_cons (pv 1) pa_nil))) pa_nil))))))), ?_⟩
        refine ⟨_, rfl, _, true, rfl, SqX.seq (.inr hx), fun H1 s1 => ⟨_, rfl, ?_⟩⟩
        refine iteY rfl ?_
        refine ⟨_, rfl, a, xs, rfl, .inr (SqT.of (s1 _ _ hx)), _, _, rfl, rfl, _, rfl, ?_⟩
        have e0 : decide (((xs.length : Nat) : Int) > 0) = full xs := by
          unfold full
          by_cases q : 0 < xs.length
          · rw [decide_eq_true q, decide_eq_true (by omega)]
          · rw [decide_eq_false q, decide_eq_false (by omega)]
        refine ite2 (fun h1 => ?_) (fun h1 => ?_)
        · have h2 : full xs = true := by rw [← e0]; exact h1
          rw [h2] at k
          refine ⟨_, rfl, a, rfl, ⟨_, SqT.of (s1 _ _ hx)⟩, fun D nD => lc_tup (K := K) (a := a) (xs := xs) (fun i G => Same H1 G ∧ G D = some (.lst ((bs.take i).map V.bl))) ⟨Same.new nD, upd_same⟩ (fun i G _ q => SqT.of (q.1 _ _ (s1 _ _ hx))) ?_ ?_⟩
          · rintro i x G hi ⟨sG, hD⟩
            have li := (List.getElem?_eq_some_iff.mp hi).1
            rw [← hb.1] at li
            have eb : bs[i]? = some bs[i] := by simp [li]
            refine ⟨rfl, _, rfl, x, bs[i], rfl, (hb.2 i x _ hi eb).same (s1.trans sG), _, hD, ?_, fun c u e => by rw [upd_ne (ne_of_none e nD)]; exact sG _ _ e, ?_⟩
            · rw [List.length_map, List.length_take]
              exact small1000 (by omega)
            · rw [upd_same, List.take_succ, eb, List.map_append]
              rfl
          · rintro G ⟨sG, hD⟩
            rw [← hb.1, List.take_length] at hD
            exact ⟨D, bs, rfl, SqL.of hD, k G (s1.trans sG)⟩
        · have h2 : full xs = false := by rw [← e0]; simpa using h1
          rw [h2] at k
          exact k H1 s1
end
end Lay
set_option Elab.async false
set_option linter.all false
set_option maxRecDepth 100000
set_option maxHeartbeats 4000000
namespace Lay
open PySem PySem.Spec PyProof.Rows L2
/-! C(e, ..) where what is let out depends on the slots; isinstance of an exception that the suite holds, with a dict. -/
section
variable {X : Cx} {CX : CXT} {k : Nat} {f C : Addr} {fd : FuncData} {ps : List Str} {sp : Sp} {E : L2.St → XK} {x m : Str} {p pos : Pos} {e : Expr} {es : List Expr} {t : TA} {ds : List Value} {dvs : List V}
theorem run_makeS {pins : List (Addr × Obj)} {σ : L2.St} {H : Hp} {s : Shared} {Q : VK} {us : List Value} {vs : List V} (M : Mk X.K C f) (F : FnOk X.prog X.w X.K X.mg X.base CX k f fd ps sp) (hr : Room (k + 1) X.A) (hb : Binds X.K fd ps ds) (hd : Vals dvs ds)
    (hx : PassesAt CX X σ (E σ)) (I : Inv X pins σ H s) (r : Vals vs us)
    (h : ∀ x dx, H x = none → H dx = none → dx ≠ x → sp (.ref x :: (vs ++ dvs)) (upd (upd H dx (.own x)) x (.ins C dx [])) (fun v H2 => v = .non ∧ Q (.ref x) H2) (E σ)) :
    wpAny (model X.prog X.w) X.A (call (.ref C) us) (EP X pins σ Q) X.xe s := by
  have hq := h (s.heap.objs.size + 1) s.heap.objs.size (I.hok.fresh (Nat.le_succ _)) (I.hok.fresh (Nat.le_refl _)) (Nat.ne_of_lt (Nat.lt_succ_self _))
  have I2 := Inv.made (C := C) I
  have r2 : Vals (V.ref (s.heap.objs.size + 1) :: (vs ++ dvs)) (Value.ref (s.heap.objs.size + 1) :: (us ++ ds)) := .cons rfl (r.append hd)
  have hl : (Value.ref (s.heap.objs.size + 1) :: us ++ ds).length = ps.length := by
    have e := r2.length
    rw [F.len _ _ _ _ hq] at e
    exact e.symm
  refine wpAny_call (make_map (f := f) I.kIn M.makes M.init (beq_iff_eq.mp M.fn) (codeAny_mono (F.run _ X.stack _ _ ⟨Value.ref (s.heap.objs.size + 1) :: us, []⟩ (Value.ref (s.heap.objs.size + 1) :: (us ++ ds)) _ _ (E σ) (hr.make C us [])
    (I2.env0.make C us []) (hb _ (Value.ref (s.heap.objs.size + 1) :: us) I2.kIn hl) r2 hq) fun r s' hq' => ?_))
  cases r with
  | error e => exact hx pins _ _ e s' I2 hq'
  | ok fl =>
    cases fl with
    | ret u =>
      obtain ⟨v, H', I3, rv, ev, q3⟩ := I2.after hq'
      subst ev
      exact ⟨rv, ⟨V.ref (s.heap.objs.size + 1), H', I3, rfl, q3⟩⟩
    | next => exact False.elim hq'
    | brk => exact False.elim hq'
    | cont => exact False.elim hq'
def tMakeS (C : Addr) (sp : Sp) (dvs : List V) (E : L2.St → XK) (t : TA) : TE := fun σ H Q => t σ H fun vs H1 => ∀ x dx, H1 x = none → H1 dx = none → dx ≠ x → sp (.ref x :: (vs ++ dvs)) (upd (upd H1 dx (.own x)) x (.ins C dx [])) (fun v H2 => v = .non ∧ Q (.ref x) H2) (E σ)
theorem pe_makeS (M : Mk X.K C f) (F : FnOk X.prog X.w X.K X.mg X.base CX k f fd ps sp) (hr : Room (k + 1) X.A) (hg : Gl X x) (hm : X.mg x = some (.ref C)) (hb : Binds X.K fd ps ds) (hd : Vals dvs ds) (hx : ∀ σ, PassesAt CX X σ (E σ))
    (ha : PA X (e :: es) t) (hdb : (x == ("__debug__" : Str)) = false := by decide) (he : starEach (e :: es) X.env = (false, eval e X.env) :: starEach es X.env := by rfl) (hpl : (backTo pos (starEach es X.env)).any (·.1) = false := by rfl) :
    PE X (.Call (.Name x p) (e :: es) [] pos) (tMakeS C sp dvs E t) := by
  refine ⟨fun pins s σ H Q I h => ?_⟩
  refine wpAny_Call_Name_kw (ld_glob I hg hm ?_ hdb)
  refine PySem.W.callWith_K (h₀ := X.base) I.ok.mod.kin M.kp (thn (ha.run pos pins s σ H _ I h) fun us s1 ⟨vs, H1, I1, r, q⟩ => ⟨I1.kIn, ?_⟩) he hpl
  exact run_makeS M F hr hb hd (hx σ) I1 r q
/-- isinstance(e, c), e the exception that the suite holds, a dict with it -/
def rIsEX (K : PySem.W.Frag) (a : Addr) (cls : Value) (d : Option Addr) : List V → Hp → VK → Prop := fun xs H Q => ∃ (D dd : Addr) (fs : List (Str × V)) (c : V) (cv : Value) (b : Bool), xs = [.ref a, c] ∧ cls = .ref D ∧ d = some dd ∧ H dd = some (.xd fs) ∧ ExcC K D ∧ ClsV c cv ∧
  PySem.W.kitOne K (.ref D) cv = some b ∧ Q (.bl b) H
theorem call_isEX {a : Addr} {cls : Value} {d : Option Addr} {oe : Obj} {pn : List (Addr × Obj)} (hz : Zc cls d oe) (hf : ∃ vs, oe.data = .fields vs) : CallR (X.suite a ((a, oe) :: pn)) (.builtin "isinstance") (rIsEX X.K a cls d) := by
  intro pins s σ H xs us Q I r h
  obtain ⟨D, dd, fs, c, cv, b, rfl, ec, ed, hdd, C, k, e, q⟩ := h
  obtain ⟨u1, u2, rfl, r1, r2⟩ := vals2 r
  cases r1
  have e2 := k.eq r2
  subst e2 ec ed
  have hcl : (PySem.W.clsIn X.K D).isSome = true := by
    obtain ⟨cd, hc, _⟩ := PySem.W.any_some C.hd
    rw [hc]
    rfl
  obtain ⟨hget, _⟩ := I.pin (a, oe) (List.mem_append_left _ List.mem_cons_self)
  obtain ⟨vs, hv⟩ := hf
  have hx : ObjOk X.prog X.w H s.heap dd (.xd fs) := I.hok dd _ hdd
  obtain ⟨mA, hns, hrel⟩ := hx
  obtain ⟨od, ho, hl⟩ := lookIn_ns hns
  have J : PySem.W.InstAt s.heap a oe D (some od) := ⟨hget, hz.1, by unfold PySem.W.notCls; rw [hv] <;> rfl, by rw [hz.2]; exact ho⟩
  exact PySem.W.kia_one (PySem.W.kitx_exc hcl C.hg C.hk C.hs C.ha C.hn C.ht C.hm) I.kIn J e (fun z => nomatch z) fun tk => ⟨.bl b, H, I.kept (t' := tk) fun _ _ z => z, rfl, q⟩
end
section
variable {X : Cx}
/-- tuple(a list or a tuple) -/
theorem call_tupleX : CallR X (.type "tuple") (fun xs H Q => ∃ a ys, xs = [.ref a] ∧ SqX H a ys ∧ ∀ l H', Same H H' → H' l = some (.tup ys) → Q (.ref l) H') := by
  intro pins s σ H xs us Q I r h
  obtain ⟨a, ys, rfl, hs, q⟩ := h
  refine call_tuple_of pins s σ H _ us Q I r ⟨a, ys, rfl, ?_⟩
  rcases hs with hs | hs
  · exact .inl ⟨SqL.of hs, fun l nl => q l _ (Same.new nl) upd_same⟩
  · exact .inr ⟨SqT.of hs, q a H (Same.refl H) hs⟩
theorem call_listX : CallR X (.type "list") (fun xs H Q => ∃ a ys, xs = [.ref a] ∧ SqX H a ys ∧ ∀ l H', Same H H' → H l = none → H' l = some (.lst ys) → Q (.ref l) H') := by
  intro pins s σ H xs us Q I r h
  obtain ⟨a, ys, rfl, hs, q⟩ := h
  refine call_list_of pins s σ H _ us Q I r ⟨a, ys, rfl, ?_, fun l nl => q l _ (Same.new nl) nl upd_same⟩
  rcases hs with hs | hs
  · exact .inl (SqL.of hs)
  · exact .inr (SqT.of hs)
theorem op_catX : OpR X (binaryOp .Add) (fun x y H Q => ∃ a b xs ys, x = .ref a ∧ y = .ref b ∧ H a = some (.tup xs) ∧ H b = some (.tup ys) ∧ xs.length + ys.length ≤ 1000 ∧ ∀ p H', Same H H' → H' p = some (.tup (xs ++ ys)) → Q (.ref p) H') := by
  intro pins s σ H x y v u Q I rx ry h
  obtain ⟨a, b, xs, ys, rfl, rfl, ha, hb, hl, q⟩ := h
  refine op_catA pins s σ H _ _ v u Q I rx ry ⟨a, b, xs, ys, rfl, rfl, SqT.of ha, SqT.of hb, fits hl, fun e => ?_, fun _ e => ?_, fun _ _ p np => q p _ (Same.new np) upd_same⟩
  · subst e
    exact q b H (Same.refl H) hb
  · subst e
    exact q a H (Same.refl H) (by rw [List.append_nil]; exact ha)
theorem sl_tupX : SlR X (fun x lo hi H Q => ∃ a xs, x = .ref a ∧ H a = some (.tup xs) ∧ ∀ p H', Same H H' → H' p = some (.tup (cutV xs lo hi)) → Q (.ref p) H') := by
  intro pins s σ H x v vl vu lo hi sl Q I rx hs pl pu h
  obtain ⟨a, xs, rfl, ha, q⟩ := h
  refine sl_tupA pins s σ H _ v vl vu lo hi sl Q I rx hs pl pu ⟨a, xs, rfl, SqT.of ha, fun w => ?_, fun _ p np => q p _ (Same.new np) upd_same⟩
  refine q a H (Same.refl H) ?_
  unfold cutV
  rw [w.1, w.2]
  simpa using ha
end
/-- an error class with an __init__ of its own that keeps f -/
structure XC (K : PySem.W.Frag) (mg : Str → Option Value) (C fI : Addr) (x f : Str) : Prop where
  oex : OexC K C
  init : PySem.W.findIn K (.ref C) "__init__" = some (some (.ref fI))
  tI : PySem.W.typeIn K (.ref fI) = some (.type "function")
  gC : mg x = some (.ref C)
  no : PySem.W.findIn K (.ref C) f = some none
  isC : ExcC K C
  xf : XfC K C
def spInit (K : PySem.W.Frag) (C : Addr) (f : Str) : Sp := fun vs H Q _ => ∃ (a : Addr) (v : V), vs = [.ref a, v] ∧ OexC K C ∧ PySem.W.findIn K (.ref C) f = some none ∧ H a = some (exo a C none) ∧
  ∀ dx, H dx = none → dx ≠ a → Q .non (upd (upd H dx (exd dx [(f, v)])) a (exo a C (some dx)))
/-- what raising such a class comes to -/
theorem raised_at {K : PySem.W.Frag} {C a : Addr} {f : Str} {H : Hp} {v : V} {Q : XK} (T : OexC K C) (no : PySem.W.findIn K (.ref C) f = some none) (ha : H a = none)
    (k : ∀ H' d, Same H H' → H d = none → H' d = some (.xd [(f, v)]) → Q (.ref C) (some d) H') :
    spInit K C f [.ref a, v] (upd H a (exo a C none)) (fun u H2 => u = .non ∧ ∃ (d : Addr) (fs : List (Str × V)), H2 a = some (exo a C (some d)) ∧ H2 d = some (exd d fs) ∧ H d = none ∧ Q (.ref C) (some d) (upd (del H2 a) d (.xd fs))) (fun _ _ _ => False) := by
  refine ⟨a, v, rfl, T, no, upd_same, fun dx hd ne => ?_⟩
  have hd' : H dx = none := by
    rw [upd_ne ne] at hd
    exact hd
  refine ⟨rfl, dx, _, upd_same, by rw [upd_ne ne, upd_same], hd', k _ dx (fun b o e => ?_) hd' upd_same⟩
  have nb : b ≠ a := ne_of_none e ha
  have nd : b ≠ dx := ne_of_none e hd'
  rw [upd_ne nd, del_ne nb, upd_ne nb, upd_ne nd, upd_ne nb]
  exact e
/-- what is raised -/
def Raised (D : Addr) (H : Hp) (v : V) (E : XK) : Prop := ∀ H' d, Same H H' → H d = none → H' d = some (.xd [("part", v)]) → E (.ref D) (some d) H'
theorem Raised.same {D : Addr} {H H' : Hp} {v : V} {E : XK} (s : Same H H') (h : Raised D H v E) : Raised D H' v E := fun G d s2 n e => h G d (s.trans s2) (s.free n) e
/-- all that is tracked beside b is as it was -/
def Kept (b : Addr) (H H' : Hp) : Prop := ∀ a o, a ≠ b → H a = some o → H' a = some o
theorem Kept.of_same {b : Addr} {H H' : Hp} (x : Same H H') : Kept b H H' := fun a o _ h => x a o h
theorem Kept.trans {b : Addr} {H H1 H2 : Hp} (x : Kept b H H1) (y : Kept b H1 H2) : Kept b H H2 := fun a o n h => y a o n (x a o n h)
theorem Kept.box {b : Addr} {H : Hp} {o : HO} : Kept b H (upd H b o) := fun a u n h => by rw [upd_ne n]; exact h
/-- what the class Row says of itself -/
structure RowC (K : PySem.W.Frag) (C : Addr) : Prop where
  cl : Cls K C
  tests : NoAttr K C "tests"
  deeds : NoAttr K C "deeds"
def rowF (t d : Addr) : List (Str × V) := putF "deeds" (.ref d) (putF "tests" (.ref t) [])
def spRowI (K : PySem.W.Frag) (C D : Addr) : Sp := fun vs H Q E => ∃ (p dx : Addr) (x y : V) (rt rd : Bool), vs = [.ref p, x, y] ∧ H p = some (.ins C dx []) ∧ AnsV progT yes K H x rt ∧ AnsV progD full K H y rd ∧
  (rt = true → rd = true → ∀ H' t d ys, Kept p H H' → H' p = some (.ins C dx (rowF t d)) → H' d = some (.tup ys) → 0 < ys.length → Q .non H') ∧ (rt = false → Raised D H (.str "tests") E) ∧ (rt = true → rd = false → Raised D H (.str "deeds") E)
abbrev sIR : Stmt := inClass (top 3) 0
abbrev sRowI : Stmt := inClass (top 21) 0
section
variable {P : Program} {w : World} {K : PySem.W.Frag} {mg : Str → Option Value} {base : Heap}
theorem scIR : FnScope ["self", "part"] ["self", "part"] (defScope sIR) := ⟨rfl, rfl, rfl, by decide +kernel, rfl, by decide +kernel, by decide +kernel⟩
theorem ok_iR {f C : Addr} {fd : FuncData} (F : Fun K "__init__" "InvalidRow.__init__" sIR f fd) : FnOk P w K mg base CX0 1 f fd ["self", "part"] (spInit K C "part") := by
  refine F.ok scIR (fun vs H Q E h => ?_) (fun cdv A outer s H vs Q E hr h => ?_)
  · obtain ⟨a, v, rfl, _⟩ := h
    rfl
  · obtain ⟨a, v, rfl, T, no, ha, k⟩ := h
    exact ⟨_, pss_one (ps_ost (pv 0) (pv 1)), _, rfl, _, rfl, a, C, rfl, T, no, .inl ⟨ha, fun dx h1 h2 => k dx h1 h2⟩⟩
theorem scRowI : FnScope ["self", "tests", "deeds"] ["self", "tests", "deeds"] (defScope sRowI) := ⟨rfl, rfl, rfl, by decide +kernel, rfl, by decide +kernel, by decide +kernel⟩
theorem ok_rowI {f fT fD fI C D : Addr} {fd fdT fdD fdI : FuncData} {dvs : List V} (F : FunD K "__init__" "Row.__init__" (defArgs sRowI) (defBody sRowI) (defScope sRowI) dvs [] f fd) (T : TxtK mg) (Z : RowC K C)
    (GT : FnOk P w K mg base CX0 2 fT fdT ["value"] (spAre progT yes K)) (gT : mg "are_tests" = some (.ref fT)) (kT : PySem.W.keepIn K (.ref fT) = true) (bT : Binds K fdT ["value"] [])
    (GD : FnOk P w K mg base CX0 2 fD fdD ["value"] (spAre progD full K)) (gD : mg "are_deeds" = some (.ref fD)) (kD : PySem.W.keepIn K (.ref fD) = true) (bD : Binds K fdD ["value"] [])
    (Y : XC K mg D fI "InvalidRow" "part") (GI : FnOk P w K mg base CX0 1 fI fdI ["self", "part"] (spInit K D "part")) (bI : Binds K fdI ["self", "part"] []) : FnOk P w K mg base (L2.CX P w) 3 f fd ["self", "tests", "deeds"] (spRowI K C D) := by
  refine F.ok scRowI (fun vs H Q E h => ?_) (fun cdv A outer s H vs Q E hr h => ?_)
  · obtain ⟨p, dx, x, y, rt, rd, rfl, _⟩ := h
    rfl
  · obtain ⟨p, dx, x, y, rt, rd, rfl, hp, ht, hd, k1, k2, k3⟩ := h
    refine ⟨_, (pss_cons (ps_if (pt_not (pt_val (pe_call GT hr (by rfl) gT kT bT .nil pass0 (pa_cons (pv 1) pa_nil))))
      (pss_one (ps_raise rfl (takes_of rfl rfl rfl rfl) (pmk_oex Y.oex Y.init Y.tI GI hr bI .nil pass0 (by rfl) Y.gC (pa_cons pe_str pa_nil))))
      pss_nil)
    (pss_cons (ps_if (pt_not (pt_val (pe_call GD hr (by rfl) gD kD bD .nil pass0 (pa_cons (pv 2) pa_nil))))
      (pss_one (ps_raise rfl (takes_of rfl rfl rfl rfl) (pmk_oex Y.oex Y.init Y.tI GI hr bI .nil pass0 (by rfl) Y.gC (pa_cons pe_str pa_nil))))
      pss_nil)
    (pss_cons (ps_fld (pv 0) (pe_callTy call_tupleX (by rfl) T.tuple (by decide +kernel) (pa_cons (pv 1) pa_nil)) rfl)
    (pss_one (ps_fld (pv 0) (pe_callTy call_tupleX (by rfl) T.tuple (by decide +kernel) (pa_cons (pv 2) pa_nil)) rfl))))), ?_⟩
    refine ⟨_, rfl, x, rt, rfl, ht, fun H1 s1 => ⟨_, rfl, ?_⟩⟩
    cases rt with
    | false =>
      exact iteY rfl ⟨by show 1 ≤ 1000; decide, fun a ha => raised_at Y.oex Y.no ha (k2 rfl |>.same s1)⟩
    | true =>
      refine iteN rfl ⟨_, rfl, y, rd, rfl, hd.same s1, fun H2 s2 => ⟨_, rfl, ?_⟩⟩
      cases rd with
      | false =>
        exact iteY rfl ⟨by show 1 ≤ 1000; decide, fun a ha => raised_at Y.oex Y.no ha (k3 rfl rfl |>.same (s1.trans s2))⟩
      | true =>
        refine iteN rfl ?_
        have s12 := s1.trans s2
        rcases ht with ⟨_, z⟩ | ⟨a, xs, bs, rfl, hx, _⟩
        · cases z
        rcases hd with ⟨_, z⟩ | ⟨c, ys, ds, rfl, hy, _, _, ey⟩
        · cases z
        have n0 : 0 < ys.length := of_decide_eq_true (Bool.and_eq_true_iff.mp ey.symm).1
        refine ⟨_, rfl, a, xs, rfl, hx.same s12, fun t H3 s3 h3 => ⟨_, rfl, p, C, dx, _, rfl, s3 _ _ (s12 _ _ hp), Z.cl, Z.tests, (by show 0 < 1000; decide), ?_⟩⟩
        have ncp : c ≠ p := by
          rcases hy with hy | hy
          · exact ne_of hy hp (fun z => nomatch z)
          · exact ne_of hy hp (fun z => nomatch z)
        have k4 : Kept p H (upd H3 p (.ins C dx (putF "tests" (.ref t) []))) := (Kept.of_same (s12.trans s3)).trans Kept.box
        have hy4 : SqX (upd H3 p (.ins C dx (putF "tests" (.ref t) []))) c ys := by
          rcases hy with hy | hy
          · exact .inl (k4 _ _ ncp hy)
          · exact .inr (k4 _ _ ncp hy)
        refine ⟨_, rfl, c, ys, rfl, hy4, fun d H5 s5 h5 => ⟨_, rfl, p, C, dx, _, rfl, s5 _ _ upd_same, Z.cl, Z.deeds, ?_, ?_⟩⟩
        · exact Nat.lt_of_le_of_lt (length_putF _ _ []) (by show 0 + 1 < 1000; decide)
        · have ndp : d ≠ p := ne_of h5 (s5 _ _ upd_same) (fun z => nomatch z)
          exact k1 rfl rfl _ t d ys ((k4.trans (Kept.of_same s5)).trans Kept.box) upd_same (by rw [upd_ne ndp]; exact h5) n0
end
end Lay
set_option Elab.async false
set_option linter.all false
set_option maxRecDepth 100000
set_option maxHeartbeats 4000000
namespace Lay
open PySem PySem.Spec PyProof.Rows L2
section
variable {X : Cx}
/-- xs == [], any xs -/
theorem op_eqNil (hu : X.A.units + 64 < cLine) : OpR X (compareOp .Eq) (fun x y H Q => ∃ a b xs, x = .ref a ∧ y = .ref b ∧ SqL X.K H a xs ∧ H b = some (.lst []) ∧ Q (.bl xs.isEmpty) H) := by
  intro pins s σ H x y v u Q I rx ry h
  obtain ⟨a, b, xs, rfl, rfl, ha, hb, q⟩ := h
  cases xs with
  | nil => exact op_eqD hu pins s σ H _ _ v u Q I rx ry ⟨.list [], .list [], .lst ha .nil, .lst (SqL.of hb) .nil, rfl, rfl, q⟩
  | cons z zs =>
    cases rx
    cases ry
    obtain ⟨its, r, p1, _⟩ := I.list ha
    obtain ⟨its2, r2, p2, _⟩ := I.list (SqL.of hb)
    cases r2
    refine SeqAt.eq_list_lengthsAt p1.isList p2.isList ?_ (by omega) ⟨.bl false, H, I, rfl, q⟩
    cases r
    rfl
end
section
variable {X : Cx} {K : PySem.W.Frag} {e : Expr} {ta : TE} {f : Str} {pos : Pos}
theorem pe_fldK (hK : X.K = K) (he : PE X e ta) (hb : attributeBase e f X.env (eval e X.env) = eval e X.env) : PE X (.Attribute e f pos) (tFld K ta f) := by
  subst hK
  exact pe_fld he hb
theorem call_lenK (hK : X.K = K) : CallR X (.builtin "len") (fun xs H Q => ∃ p ys, xs = [.ref p] ∧ (SqL K H p ys ∨ SqT K H p ys) ∧ Q (.int ys.length) H) := by
  subst hK
  exact call_len_seq
end
section
variable {X : Cx}
/-- xs != [], any xs -/
theorem op_neNil (hu : X.A.units + 64 < cLine) : OpR X (compareOp .NotEq) (fun x y H Q => ∃ a b xs, x = .ref a ∧ y = .ref b ∧ SqL X.K H a xs ∧ H b = some (.lst []) ∧ Q (.bl (!xs.isEmpty)) H) := by
  intro pins s σ H x y v u Q I rx ry h
  obtain ⟨a, b, xs, rfl, rfl, ha, hb, q⟩ := h
  cases xs with
  | nil => exact op_neD hu pins s σ H _ _ v u Q I rx ry ⟨.list [], .list [], .lst ha .nil, .lst (SqL.of hb) .nil, rfl, rfl, q⟩
  | cons z zs =>
    cases rx
    cases ry
    obtain ⟨its, r, p1, _⟩ := I.list ha
    obtain ⟨its2, r2, p2, _⟩ := I.list (SqL.of hb)
    cases r2
    have hsz : (its.toArray.size != ([] : List Value).toArray.size) = true := by
      cases r
      rfl
    exact (SeqAt.RcNeAt.lists_lengths p1.isList p2.isList hsz (by omega)) _ _ _ _ ⟨.bl true, H, I, rfl, q⟩
end
section
variable {X : Cx} {K : PySem.W.Frag}
theorem call_isiK (hK : X.K = K) : CallR X (.builtin "isinstance") (rIsi K) := by
  subst hK
  exact call_isi
theorem op_notInK (hK : X.K = K) : OpR X (compareOp .NotIn) (rIn K true) := by
  subst hK
  exact op_notIn_seq
end
theorem str_at {zs : List Str} {i : Nat} {x : V} (h : (zs.map V.str)[i]? = some x) : ∃ z, zs[i]? = some z ∧ x = V.str z := by
  rw [List.getElem?_map] at h
  cases q : zs[i]? with
  | none => rw [q] at h; cases h
  | some z => rw [q] at h; exact ⟨z, rfl, (Option.some.inj h).symm⟩
end Lay
set_option Elab.async false
set_option linter.all false
set_option maxRecDepth 100000
set_option maxHeartbeats 4000000
namespace Lay
open PySem L2
theorem K2.put {b gr p : Addr} {H G : Hp} {o : HO} (h : H p = none) (k : K2 b gr H G) : K2 b gr H (upd G p o) := fun a u n1 n2 e => by
  rw [upd_ne (ne_of_none e h)]
  exact k _ _ n1 n2 e
theorem BoxD.put {b gr p : Addr} {H : Hp} {o : HO} (n1 : p ≠ b) (n2 : p ≠ gr) (x : BoxD H b gr) : BoxD (upd H p o) b gr := by
  obtain ⟨⟨m, h1⟩, ns, h2, h3⟩ := x
  exact ⟨⟨m, by rw [upd_ne (Ne.symm n1)]; exact h1⟩, ns, by rw [upd_ne (Ne.symm n2)]; exact h2, h3⟩
theorem BoxD.tup_ne {b gr t : Addr} {H : Hp} {xs : List V} (x : BoxD H b gr) (h : H t = some (.tup xs)) : t ≠ b ∧ t ≠ gr := by
  obtain ⟨⟨m, h1⟩, ns, h2, _⟩ := x
  exact ⟨ne_of h h1 (fun z => nomatch z), ne_of h h2 (fun z => nomatch z)⟩
def drawT : List Str := ["broken", "marked", "left", "ahead", "behind", "blank", "long", "long", "first", "afterbroken", "afterbehind"]
def GoodT (z : Str) : Bool := progT z && decide (z.length ≤ 1000)
def GoodD (z : Str) : Bool := progD z && decide (z.length ≤ 1000)
theorem goodT_drawn : ∀ z ∈ drawT, GoodT z = true ∧ GoodT (Str.ofString "not " ++ z) = true ∧ z.length ≤ 20 := by decide +kernel
theorem goodD_drawn : ∀ z ∈ deedL, GoodD z = true := by decide +kernel
theorem mem_strs {zs : List Str} {v : V} (h : v ∈ zs.map V.str) : ∃ z, z ∈ zs ∧ v = V.str z := by
  obtain ⟨z, h1, h2⟩ := List.mem_map.mp h
  exact ⟨z, h1, h2.symm⟩
/-- texts drawn: a new tuple of good ones -/
def spDrawn (good : Str → Bool) (lo : Int) : Sp := fun vs H Q _ => ∃ (b gr : Addr) (m : Int), vs = [.ref b, .int m] ∧ BoxD H b gr ∧ 0 < m ∧ m ≤ 100 ∧
  ∀ (t : Addr) (ws : List Str) (H' : Hp), K2 b gr H H' → BoxD H' b gr → t ≠ b → t ≠ gr → H' t = some (.tup (ws.map V.str)) → lo ≤ ws.length → ws.length ≤ m → (∀ z ∈ ws, good z = true) → Q (.ref t) H'
abbrev sTests : Stmt := top 28
abbrev sDeeds : Stmt := top 29
def testsN : List Str := ["_law_box", "_law_most", "_law_every", "_law_found", "_law_turn", "_law_word"]
def deedsN : List Str := ["_law_box", "_law_most", "_law_every", "_law_turn"]
/-- the draws -/
structure Draws (P : Program) (w : World) (K : PySem.W.Frag) (mg : Str → Option Value) (base : Heap) (fT fK : Addr) (dT dK : FuncData) : Prop where
  range : mg "range" = none
  tuple : mg "tuple" = none
  okT : FnOk P w K mg base CX0 1 fT dT ["_law_box", "_law_wide"] spTake
  gT : mg "_law_take" = some (.ref fT)
  kT : PySem.W.keepIn K (.ref fT) = true
  bT : Binds K dT ["_law_box", "_law_wide"] []
  okK : FnOk P w K mg base CX0 2 fK dK ["_law_box", "_law_some"] (spPick K)
  gK : mg "_law_pick" = some (.ref fK)
  kK : PySem.W.keepIn K (.ref fK) = true
  bK : Binds K dK ["_law_box", "_law_some"] []
section
variable {P : Program} {w : World} {K : PySem.W.Frag} {mg : Str → Option Value} {base : Heap} {fT fK : Addr} {dT dK : FuncData}
theorem scTests : FnScope testsN ["_law_box", "_law_most"] (defScope sTests) := ⟨rfl, rfl, rfl, by decide +kernel, rfl, by decide +kernel, by decide +kernel⟩
theorem ok_tests {f : Addr} {fd : FuncData} (F : Fun K "_law_tests" "_law_tests" sTests f fd) (D : Draws P w K mg base fT fK dT dK) : FnOk P w K mg base CX0 3 f fd ["_law_box", "_law_most"] (spDrawn GoodT 0) := by
  refine F.ok scTests (fun vs H Q E h => ?_) (fun cdv A outer s H vs Q E hr h => ?_)
  · obtain ⟨b, gr, m, rfl, _⟩ := h
    rfl
  · obtain ⟨b, gr, m, rfl, bx, m0, m1, k⟩ := h
    have hr1 := hr.mono (show 1 ≤ 2 by decide)
    refine ⟨_, (pss_cons (ps_set (i := 2) scTests.nd rfl (.inl rfl) (pe_lst (pa_cons pe_str (pa_cons pe_str (pa_cons pe_str (pa_cons pe_str (pa_cons pe_str (pa_cons pe_str (pa_cons pe_str (pa_cons pe_str (pa_cons pe_str (pa_cons pe_str pa_nil))))))))))))
      (pss_cons (ps_set (i := 3) scTests.nd rfl (.inl rfl) (pe_lst pa_nil))
      (pss_cons (ps_for PassesOwn.never rfl (pi_range1 (by rfl) D.range (pa_cons (pe_call D.okT hr1 (by rfl) D.gT D.kT D.bT .nil pass0 (pa_cons (pv 0) (pa_cons (pe_op op_add (pv 1) pe_int) pa_nil))) pa_nil)) (pg_name (i := 4) scTests.nd rfl (.inl rfl))
        (pss_cons (ps_set (i := 5) scTests.nd rfl (.inl rfl) (pe_call D.okK hr (by rfl) D.gK D.kK D.bK .nil pass0 (pa_cons (pv 0) (pa_cons (pe_op op_cat (pv 2) (pe_lst (pa_cons pe_str pa_nil))) pa_nil))))
        (pss_one (ps_expr (pe_bm PySem.F.plainAttrs_list PySem.F.slot_list_append PySem.F.type_list_append mt_append (pv 3) (pa_cons (pe_ifExp (pt_cmpR op_eq (pe_call D.okT hr1 (by rfl) D.gT D.kT D.bT .nil pass0 (pa_cons (pv 0) (pa_cons pe_int pa_nil))) pe_int (nomark _)) (pe_op op_add_str pe_str (pv 5)) (pv 5)) pa_nil))))))
      (pss_one (ps_ret (pe_callTy call_tupleX (by rfl) D.tuple (by decide +kernel) (pa_cons (pv 3) pa_nil))))))), ?_⟩
    refine ⟨(by show 10 ≤ sizeLine; decide), fun e1 n1 => ⟨(by show 0 ≤ sizeLine; exact Nat.zero_le _), fun f1 n2 => ?_⟩⟩
    have s1 := (Same.new n1 (o := .lst ((drawT.take 10).map V.str))).trans (Same.new n2 (o := .lst []))
    have e1b := bx.fresh n1
    have f1b := (bx.same (Same.new n1 (o := .lst ((drawT.take 10).map V.str)))).fresh n2
    have h1 : upd H e1 (.lst ((drawT.take 10).map V.str)) e1 = some (.lst ((drawT.take 10).map V.str)) := upd_same
    have ef : e1 ≠ f1 := ne_of_none h1 n2
    have nf : H f1 = none := (Same.new n1).free n2
    refine ⟨_, rfl, _, rfl, _, _, rfl, rfl, b, gr, m + 1, rfl, bx.same s1, by omega, by omega, fun r G r0 r1 bG kG => ?_⟩
    have kHG := (K2.of_same s1).trans kG
    refine ⟨r, rfl, by omega, by omega, for_range (lo := 0) (n := r.toNat) (fun i σ G' => ∃ (x4 x5 : Option V) (ws : List Str), σ = [some (.ref b), some (.int m), some (.ref e1), some (.ref f1), x4, x5] ∧ K2 b gr H G' ∧ BoxD G' b gr ∧ G' e1 = some (.lst ((drawT.take 10).map V.str)) ∧ G' f1 = some (.lst (ws.map V.str)) ∧ ws.length = i ∧ ∀ z ∈ ws, GoodT z = true)
      ⟨_, _, [], rfl, kHG, bG, kG _ _ e1b.1 e1b.2 (Same.new n2 _ _ h1), kG _ _ f1b.1 f1b.2 upd_same, rfl, fun z hz => (List.not_mem_nil hz).elim⟩ ?_ ?_⟩
    · rintro i σ G2 hi ⟨x4, x5, ws, rfl, k2, b2, he, hf, hl, hg⟩
      refine ⟨_, rfl, _, rfl, (by show 1 ≤ sizeLine; decide), fun q nq => ⟨e1, q, _, _, rfl, rfl, Same.new nq _ _ he, upd_same, (by show 11 ≤ sizeLine; decide), fun q2 nq2 => ?_⟩⟩
      have sq := (Same.new nq (o := .lst [.str "afterbehind"])).trans (Same.new nq2 (o := .lst ((drawT.take 10).map V.str ++ [.str "afterbehind"])))
      have bq := b2.same (Same.new nq (o := .lst [.str "afterbehind"]))
      have q2b := bq.fresh nq2
      refine ⟨b, gr, q2, drawT.map V.str, rfl, b2.same sq, q2b.1, q2b.2, .inl upd_same, (by show 0 < 11; decide), (by show 11 ≤ 1000; decide), fun v G3 hv b3 k3 => ?_⟩
      obtain ⟨z, hz, rfl⟩ := mem_strs hv
      obtain ⟨g1, g2, g3⟩ := goodT_drawn z hz
      have k23 := (k2.trans (K2.of_same sq)).trans k3
      have he3 := k3 _ _ e1b.1 e1b.2 (sq _ _ he)
      have hf3 := k3 _ _ f1b.1 f1b.2 (sq _ _ hf)
      refine ⟨_, rfl, .inl ⟨rfl, _, SqL.of hf3⟩, _, rfl, b, gr, 3, rfl, b3, by decide, by decide, fun r3 G4 r30 r31 b4 k4 => ⟨rfl, _, rfl, ?_⟩⟩
      have k24 := k23.trans k4
      have he4 := k4 _ _ e1b.1 e1b.2 he3
      have hf4 := k4 _ _ f1b.1 f1b.2 hf3
      have fin : ∀ y, GoodT y = true → K2 b gr H (upd G4 f1 (.lst (ws.map V.str ++ [.str y]))) ∧ BoxD (upd G4 f1 (.lst (ws.map V.str ++ [.str y]))) b gr ∧ (upd G4 f1 (.lst (ws.map V.str ++ [.str y]))) e1 = some (.lst ((drawT.take 10).map V.str)) ∧ (upd G4 f1 (.lst (ws.map V.str ++ [.str y]))) f1 = some (.lst ((ws ++ [y]).map V.str)) ∧ (ws ++ [y]).length = i + 1 ∧ ∀ z ∈ ws ++ [y], GoodT z = true := fun y hy =>
        ⟨k24.put nf, b4.put f1b.1 f1b.2, by rw [upd_ne ef]; exact he4, by rw [upd_same, List.map_append]; rfl, by rw [List.length_append, hl]; rfl, fun x hx => by
          rcases List.mem_append.mp hx with hx | hx
          · exact hg x hx
          · rw [List.mem_singleton] at hx
            rw [hx]
            exact hy⟩
      refine ite2 (fun _ => ?_) (fun _ => ?_)
      · refine ⟨_, rfl, _, _, rfl, rfl, fits (by show 4 + z.length ≤ 1000; omega), f1, _, _, rfl, rfl, hf4, by rw [List.length_map, hl]; exact small1000 (by omega), ?_⟩
        obtain ⟨a1, a2, a3, a4, a5, a6⟩ := fin _ g2
        exact ⟨_, _, ws ++ [_], rfl, a1, a2, a3, a4, a5, a6⟩
      · refine ⟨_, rfl, f1, _, _, rfl, rfl, hf4, by rw [List.length_map, hl]; exact small1000 (by omega), ?_⟩
        obtain ⟨a1, a2, a3, a4, a5, a6⟩ := fin _ g1
        exact ⟨_, _, ws ++ [_], rfl, a1, a2, a3, a4, a5, a6⟩
    · rintro σ G2 ⟨x4, x5, ws, rfl, k2, b2, he, hf, hl, hg⟩
      refine ⟨_, rfl, f1, _, rfl, .inl hf, fun t H' st ht => ?_⟩
      have bt := b2.same st
      exact k t ws H' (k2.trans (K2.of_same st)) bt (bt.tup_ne ht).1 (bt.tup_ne ht).2 ht (by omega) (by omega) hg
theorem scDeeds : FnScope deedsN ["_law_box", "_law_most"] (defScope sDeeds) := ⟨rfl, rfl, rfl, by decide +kernel, rfl, by decide +kernel, by decide +kernel⟩
theorem ok_deeds {f : Addr} {fd : FuncData} (F : Fun K "_law_deeds" "_law_deeds" sDeeds f fd) (D : Draws P w K mg base fT fK dT dK) : FnOk P w K mg base CX0 3 f fd ["_law_box", "_law_most"] (spDrawn GoodD 1) := by
  refine F.ok scDeeds (fun vs H Q E h => ?_) (fun cdv A outer s H vs Q E hr h => ?_)
  · obtain ⟨b, gr, m, rfl, _⟩ := h
    rfl
  · obtain ⟨b, gr, m, rfl, bx, m0, m1, k⟩ := h
    have hr1 := hr.mono (show 1 ≤ 2 by decide)
    refine ⟨_, (pss_cons (ps_set (i := 2) scDeeds.nd rfl (.inr rfl) (pe_lst (pa_cons pe_str (pa_cons pe_str (pa_cons pe_str (pa_cons pe_str (pa_cons pe_str (pa_cons pe_str (pa_cons pe_str (pa_cons pe_str pa_nil))))))))))
      (pss_one (ps_ret (pe_callTy call_tupleX (by rfl) D.tuple (by decide +kernel) (pa_cons (pe_lc (own := [("_law_turn", 3)]) (g := gName 3) (tt := tYes) (by rfl) scDeeds.nd (pi_range1 (by rfl) D.range (pa_cons (pe_op op_add pe_int (pe_call D.okT hr1 (by rfl) D.gT D.kT D.bT .nil pass0 (pa_cons (pv 0) (pa_cons (pv 1) pa_nil)))) pa_nil)) (blkOk_by (N := deedsN) (sc := defScope sDeeds) (by decide +kernel)) (fun _ _ _ _ _ => pg_name (i := 3) scDeeds.nd rfl (Or.inl rfl)) (fun _ _ _ _ _ => pts_nil)
        (fun _ _ _ _ _ => pe_call D.okK hr (by rfl) D.gK D.kK D.bK .nil pass0 (pa_cons (pv 0) (pa_cons (pv 2) pa_nil)))) pa_nil))))), ?_⟩
    refine ⟨(by show 8 ≤ sizeLine; decide), fun e1 n1 => ?_⟩
    have s1 := Same.new n1 (o := .lst (deedL.map V.str))
    have e1b := bx.fresh n1
    have h1 : upd H e1 (.lst (deedL.map V.str)) e1 = some (.lst (deedL.map V.str)) := upd_same
    refine ⟨_, rfl, _, rfl, b, gr, m, rfl, bx.same s1, m0, by omega, fun r G r0 r1 bG kG => ?_⟩
    have kHG := (K2.of_same s1).trans kG
    refine ⟨_, _, rfl, rfl, 1 + r, rfl, by omega, by omega, fun D1 nD => lc_range (lo := 0) (n := (1 + r).toNat) (fun i G' => ∃ ws : List Str, K2 b gr H G' ∧ BoxD G' b gr ∧ G' e1 = some (.lst (deedL.map V.str)) ∧ G' D1 = some (.lst (ws.map V.str)) ∧ ws.length = i ∧ ∀ z ∈ ws, GoodD z = true)
      ⟨[], kHG.trans (K2.of_same (Same.new nD)), bG.same (Same.new nD), Same.new nD _ _ (kG _ _ e1b.1 e1b.2 h1), upd_same, rfl, fun z hz => (List.not_mem_nil hz).elim⟩ ?_ ?_⟩
    · rintro i G2 hi ⟨ws, k2, b2, he, hD, hl, hg⟩
      have Db := bG.fresh nD
      have De : e1 ≠ D1 := ne_of_none (kG _ _ e1b.1 e1b.2 h1) nD
      refine ⟨rfl, _, rfl, _, rfl, b, gr, e1, deedL.map V.str, rfl, b2, e1b.1, e1b.2, .inl he, (by show 0 < 8; decide), (by show 8 ≤ 1000; decide), fun v G3 hv b3 k3 => ?_⟩
      obtain ⟨z, hz, rfl⟩ := mem_strs hv
      refine ⟨_, k3 _ _ Db.1 Db.2 hD, by rw [List.length_map, hl]; exact small1000 (by omega), ws ++ [z], ?_, b3.put Db.1 Db.2, by rw [upd_ne De]; exact k3 _ _ e1b.1 e1b.2 he, by rw [upd_same, List.map_append]; rfl, by rw [List.length_append, hl]; rfl, fun x hx => ?_⟩
      · have nDH : H D1 = none := by
          cases q : H D1 with
          | none => rfl
          | some o =>
            have := kHG _ _ Db.1 Db.2 q
            rw [this] at nD
            cases nD
        exact (k2.trans k3).put nDH
      · rcases List.mem_append.mp hx with hx | hx
        · exact hg x hx
        · rw [List.mem_singleton] at hx
          rw [hx]
          exact goodD_drawn z hz
    · rintro G2 ⟨ws, k2, b2, he, hD, hl, hg⟩
      refine ⟨D1, _, rfl, .inl hD, fun t H' st ht => ?_⟩
      have bt := b2.same st
      exact k t ws H' (k2.trans (K2.of_same st)) bt (bt.tup_ne ht).1 (bt.tup_ne ht).2 ht (by omega) (by omega) hg
end
end Lay
set_option Elab.async false
set_option linter.all false
set_option maxRecDepth 100000
set_option maxHeartbeats 4000000
namespace Lay
open PySem L2
/-- a pair of tests and deeds -/
def PairAt (G : Hp) (v : V) : Prop := ∃ (p t d : Addr) (ws us : List Str), v = .ref p ∧ G p = some (.tup [.ref t, .ref d]) ∧ G t = some (.tup (ws.map V.str)) ∧ G d = some (.tup (us.map V.str)) ∧ (∀ z ∈ ws, GoodT z = true) ∧ (∀ z ∈ us, GoodD z = true) ∧ ws.length ≤ 1000 ∧ us.length ≤ 1000 ∧ 0 < us.length
theorem PairAt.same {G G' : Hp} {v : V} (s : Same G G') (h : PairAt G v) : PairAt G' v := by
  obtain ⟨p, t, d, ws, us, e, h1, h2, h3, h4⟩ := h
  exact ⟨p, t, d, ws, us, e, s _ _ h1, s _ _ h2, s _ _ h3, h4⟩
theorem PairAt.k2 {b gr : Addr} {G G' : Hp} {v : V} (x : BoxD G b gr) (k : K2 b gr G G') (h : PairAt G v) : PairAt G' v := by
  obtain ⟨p, t, d, ws, us, e, h1, h2, h3, h4⟩ := h
  exact ⟨p, t, d, ws, us, e, k _ _ (x.tup_ne h1).1 (x.tup_ne h1).2 h1, k _ _ (x.tup_ne h2).1 (x.tup_ne h2).2 h2, k _ _ (x.tup_ne h3).1 (x.tup_ne h3).2 h3, h4⟩
theorem PairAt.lset {D : Addr} {G : Hp} {v : V} {xs ys : List V} (hD : G D = some (.lst xs)) (h : PairAt G v) : PairAt (upd G D (.lst ys)) v := by
  obtain ⟨p, t, d, ws, us, e, h1, h2, h3, h4⟩ := h
  exact ⟨p, t, d, ws, us, e, by rw [upd_ne (ne_of h1 hD (fun z => nomatch z))]; exact h1, by rw [upd_ne (ne_of h2 hD (fun z => nomatch z))]; exact h2, by rw [upd_ne (ne_of h3 hD (fun z => nomatch z))]; exact h3, h4⟩
def tStrs : List Str → TA
  | [] => tNil
  | w :: ws => tCons (tC (.str w)) (tStrs ws)
theorem tStrs_of : ∀ (ws : List Str) (σ : St) (H : Hp) (Q : List V → Hp → Prop), Q (ws.map V.str) H → tStrs ws σ H Q
  | [], _, _, _, h => h
  | w :: ws, σ, H, Q, h => tStrs_of ws σ H (fun vs H' => Q (.str w :: vs) H') h
def tPair : TE := fun σ H Q => ∀ p H', Same H H' → PairAt H' (.ref p) → Q (.ref p) H'
section
variable {X : Cx}
theorem pe_mono {e : Expr} {t t' : TE} (h : PE X e t) (m : ∀ σ H Q, t' σ H Q → t σ H Q) : PE X e t' := ⟨fun pins s σ H Q I q => h.run pins s σ H Q I (m σ H Q q)⟩
theorem pe_pair {es1 es2 : List Expr} {x1 x2 x3} {p1 p2 p3 : Pos} {ws us : List Str} (ha : PA X es1 (tStrs ws)) (hb : PA X es2 (tStrs us)) (gw : ∀ z ∈ ws, GoodT z = true) (gu : ∀ z ∈ us, GoodD z = true) (lw : ws.length ≤ 1000) (lu : us.length ≤ 1000) (nu : 0 < us.length) :
    PE X (.Tuple [.Tuple es1 x1 p1, .Tuple es2 x2 p2] x3 p3) tPair := by
  refine pe_mono (pe_tup (pa_cons (pe_tup ha) (pa_cons (pe_tup hb) pa_nil))) fun σ H Q q => ?_
  refine tStrs_of ws σ H _ ⟨by rw [List.length_map]; exact fits lw, fun t nt => tStrs_of us σ _ _ ⟨by rw [List.length_map]; exact fits lu, fun d nd => ⟨by show 2 ≤ sizeLine; decide, fun p np => ?_⟩⟩⟩
  have s1 := Same.new nt (o := .tup (ws.map V.str))
  have s2 := Same.new nd (o := .tup (us.map V.str))
  have s3 := Same.new np (o := .tup [.ref t, .ref d])
  exact q p _ ((s1.trans s2).trans s3) ⟨p, t, d, ws, us, rfl, upd_same, s3 _ _ (s2 _ _ upd_same), s3 _ _ upd_same, gw, gu, lw, lu, nu⟩
end
def spMixed (K : PySem.W.Frag) : Sp := fun vs H Q _ => ∃ (b gr a : Addr) (xs : List V), vs = [.ref b, .ref a] ∧ BoxD H b gr ∧ H a = some (.lst xs) ∧ xs.length ≤ 1000 ∧
  ∀ (p : Addr) (ys : List V) (H' : Hp), K2 b gr H H' → BoxD H' b gr → p ≠ b → p ≠ gr → H' p = some (.lst ys) → ys.length ≤ 1000 → (∀ y ∈ ys, y ∈ xs) → Q (.ref p) H'
def spUsual : Sp := fun vs H Q _ => ∃ (b gr : Addr), vs = [.ref b] ∧ BoxD H b gr ∧
  ∀ (q : Addr) (ys : List V) (H' : Hp), K2 b gr H H' → BoxD H' b gr → q ≠ b → q ≠ gr → H' q = some (.lst ys) → ys.length ≤ 1000 → (∀ y ∈ ys, PairAt H' y) → Q (.ref q) H'
def spTool : Sp := fun vs H Q _ => ∃ (b gr : Addr) (m : Int), vs = [.ref b, .int m] ∧ BoxD H b gr ∧ 0 ≤ m ∧ m ≤ 100 ∧
  ∀ (q r : Addr) (s : Bool) (ys : List V) (H' : Hp), K2 b gr H H' → BoxD H' b gr → H' q = some (.tup [.ref r, .bl s]) → H' r = some (.tup ys) → ys.length ≤ 900 → (∀ y ∈ ys, PairAt H' y) → Q (.ref q) H'
abbrev sMixed : Stmt := top 27
abbrev sUsual : Stmt := top 30
abbrev sTool : Stmt := top 31
section
variable {P : Program} {w : World} {K : PySem.W.Frag} {mg : Str → Option Value} {base : Heap} {fT fK : Addr} {dT dK : FuncData}
theorem scMixed : FnScope ["_law_box", "_law_some", "_law_left", "_law_found"] ["_law_box", "_law_some"] (defScope sMixed) := ⟨rfl, rfl, rfl, by decide +kernel, rfl, by decide +kernel, by decide +kernel⟩
theorem ok_mixed {f : Addr} {fd : FuncData} (F : Fun K "_law_mixed" "_law_mixed" sMixed f fd) (D : Draws P w K mg base fT fK dT dK) (hlist : mg "list" = none) (hlen : mg "len" = none) : FnOk P w K mg base CX0 2 f fd ["_law_box", "_law_some"] (spMixed K) := by
  refine F.ok scMixed (fun vs H Q E h => ?_) (fun cdv A outer s H vs Q E hr h => ?_)
  · obtain ⟨b, gr, a, xs, rfl, _⟩ := h
    rfl
  · obtain ⟨b, gr, a, xs, rfl, bx, ha, hl, k⟩ := h
    refine ⟨_, (pss_cons (ps_par (i := 2) (j := 3) (by rfl) scMixed.nd rfl rfl (by decide) rfl rfl (pa_cons (pe_callTy call_listX (by rfl) hlist (by decide +kernel) (pa_cons (pv 1) pa_nil)) (pa_cons (pe_lst pa_nil) pa_nil)) (by rfl))
      (pss_cons (ps_while PassesOwn.never (pt_cmpR (op_neNil hr.units) (pv 2) (pe_lst pa_nil) (nomark _))
        (pss_one (ps_expr (pe_bm PySem.F.plainAttrs_list PySem.F.slot_list_append PySem.F.type_list_append mt_append (pv 3) (pa_cons (pe_bm PySem.F.plainAttrs_list PySem.F.slot_list_pop PySem.F.type_list_pop mt_popAt (pv 2) (pa_cons (pe_call D.okT hr (by rfl) D.gT D.kT D.bT .nil pass0 (pa_cons (pv 0) (pa_cons (pe_callB call_len_seq (by rfl) hlen PySem.boot_len (pa_cons (pv 2) pa_nil)) pa_nil))) pa_nil)) pa_nil)))))
      (pss_one (ps_ret (pv 3))))), ?_⟩
    refine ⟨_, rfl, a, xs, rfl, .inl ha, fun l H1 s1 nl hl1 => ⟨(by show 0 ≤ sizeLine; exact Nat.zero_le _), fun f1 nf => ⟨_, _, rfl, ?_⟩⟩⟩
    have lb := bx.fresh nl
    have bx1 := bx.same s1
    have fb := bx1.fresh nf
    have nlf : l ≠ f1 := ne_of_none hl1 nf
    have sf := Same.new nf (o := .lst [])
    refine ⟨fun n σ G => ∃ ls fs : List V, n = ls.length ∧ σ = [some (.ref b), some (.ref a), some (.ref l), some (.ref f1)] ∧ K2 b gr H G ∧ BoxD G b gr ∧ G l = some (.lst ls) ∧ G f1 = some (.lst fs) ∧ ls.length + fs.length = xs.length ∧ (∀ y ∈ ls, y ∈ xs) ∧ ∀ y ∈ fs, y ∈ xs,
      ⟨_, xs, [], rfl, rfl, K2.of_same (s1.trans sf), bx1.same sf, sf _ _ hl1, upd_same, by simp, fun y hy => hy, fun y hy => (List.not_mem_nil hy).elim⟩, ?_⟩
    rintro n σ G ⟨ls, fs, rfl, rfl, kG, bG, hls, hfs, hlen2, m1, m2⟩
    refine ⟨_, rfl, (by show 0 ≤ sizeLine; exact Nat.zero_le _), fun q nq => ⟨l, q, ls, rfl, rfl, SqL.of (Same.new nq _ _ hls), upd_same, _, rfl, ?_⟩⟩
    have sq := Same.new nq (o := .lst [])
    have nHl : ∀ {p : Addr}, p = l ∨ p = f1 → H p = none := fun h => by
      rcases h with rfl | rfl
      · exact nl
      · exact s1.free nf
    cases ls with
    | nil =>
      refine iteN rfl ⟨_, rfl, k f1 fs _ (kG.trans (K2.of_same sq)) (bG.same sq) fb.1 fb.2 (sq _ _ hfs) (by simp at hlen2; omega) m2⟩
    | cons y0 ls0 =>
      refine iteY rfl ⟨fun σ' G' => ∃ ls' fs' : List V, ls'.length < (y0 :: ls0).length ∧ σ' = [some (.ref b), some (.ref a), some (.ref l), some (.ref f1)] ∧ K2 b gr H G' ∧ BoxD G' b gr ∧ G' l = some (.lst ls') ∧ G' f1 = some (.lst fs') ∧ ls'.length + fs'.length = xs.length ∧ (∀ y ∈ ls', y ∈ xs) ∧ ∀ y ∈ fs', y ∈ xs,
        fun σ' G' ⟨ls', fs', lt, e1, r⟩ => ⟨_, lt, ls', fs', rfl, e1, r⟩, ?_⟩
      have hl2 := sq _ _ hls
      have hf2 := sq _ _ hfs
      refine ⟨_, rfl, .inl ⟨rfl, _, SqL.of hf2⟩, _, rfl, .inl ⟨rfl, _, SqL.of hl2⟩, _, rfl, _, rfl, l, _, rfl, .inl (SqL.of hl2), b, gr, _, rfl, bG.same sq, by simp, ?_, fun r G3 r0 r1 b3 k3 => ?_⟩
      · have : (y0 :: ls0).length ≤ 1000 := by omega
        omega
      have hl3 := k3 _ _ lb.1 lb.2 hl2
      have hf3 := k3 _ _ fb.1 fb.2 hf2
      have hr' : r.toNat < (y0 :: ls0).length := by omega
      have er : r = ((r.toNat : Nat) : Int) := by omega
      obtain ⟨j, e1, e2, e3, e4, e5⟩ := atI_get (at_of er (by simp [hr'] : (y0 :: ls0)[r.toNat]? = some (y0 :: ls0)[r.toNat]))
      have l1000 : (y0 :: ls0).length ≤ 1000 := by omega
      refine ⟨l, _, r, j, _, rfl, rfl, hl3, by omega, by omega, e1, e2, f1, fs, _, rfl, rfl, ?_, small1000 (by omega), ?_⟩
      · rw [upd_ne (Ne.symm nlf)]
        exact hf3
      · have le : ((y0 :: ls0).eraseIdx j).length + 1 = (y0 :: ls0).length := by
          rw [List.length_eraseIdx_of_lt e3]
          have : 0 < (y0 :: ls0).length := by simp
          omega
        refine ⟨(y0 :: ls0).eraseIdx j, fs ++ [_], by omega, rfl, ((((kG.trans (K2.of_same sq)).trans k3).put (nHl (.inl rfl))).put (nHl (.inr rfl))), (b3.put lb.1 lb.2).put fb.1 fb.2, ?_, upd_same, ?_, fun y hy => m1 y (List.mem_of_mem_eraseIdx hy), fun y hy => ?_⟩
        · rw [upd_ne nlf]
          exact upd_same
        · rw [List.length_append]
          show _ + (_ + 1) = _
          omega
        · rcases List.mem_append.mp hy with hy | hy
          · exact m2 y hy
          · rw [List.mem_singleton] at hy
            rw [hy]
            exact m1 _ (List.getElem_mem hr')
end
end Lay
set_option Elab.async false
set_option linter.all false
set_option maxRecDepth 100000
set_option maxHeartbeats 4000000
namespace Lay
open PySem L2
theorem mem_cut {xs : List V} {lo hi : Option Int} {x : V} (h : x ∈ cutV xs lo hi) : x ∈ xs := List.mem_of_mem_drop (List.mem_of_mem_take h)
theorem cut_few {xs : List V} {m : Int} (h : 0 ≤ m) : ((cutV xs none (some m)).length : Int) ≤ m := by
  obtain ⟨n, rfl⟩ := Int.eq_ofNat_of_zero_le h
  unfold cutV
  rw [HT.sIx_none, HT.sIx_nat, List.length_take]
  omega
section
variable {P : Program} {w : World} {K : PySem.W.Frag} {mg : Str → Option Value} {base : Heap} {fT fK : Addr} {dT dK : FuncData}
theorem scUsual : FnScope ["_law_box", "_law_some"] ["_law_box"] (defScope sUsual) := ⟨rfl, rfl, rfl, by decide +kernel, rfl, by decide +kernel, by decide +kernel⟩
theorem ok_usual {f fM : Addr} {fd fdM : FuncData} (F : Fun K "_law_usual" "_law_usual" sUsual f fd) (D : Draws P w K mg base fT fK dT dK) (GM : FnOk P w K mg base CX0 2 fM fdM ["_law_box", "_law_some"] (spMixed K)) (gM : mg "_law_mixed" = some (.ref fM)) (kM : PySem.W.keepIn K (.ref fM) = true) (bM : Binds K fdM ["_law_box", "_law_some"] []) :
    FnOk P w K mg base CX0 3 f fd ["_law_box"] spUsual := by
  refine F.ok scUsual (fun vs H Q E h => ?_) (fun cdv A outer s H vs Q E hr h => ?_)
  · obtain ⟨b, gr, rfl, _⟩ := h
    rfl
  · obtain ⟨b, gr, rfl, bx, k⟩ := h
    have hr1 := hr.mono (show 1 ≤ 2 by decide)
    refine ⟨_, (pss_cons (ps_set (i := 1) scUsual.nd rfl (.inl rfl) (pe_lst (pa_cons (pe_pair (ws := ["long"]) (us := ["break", "mark"]) (pa_cons pe_str pa_nil) (pa_cons pe_str (pa_cons pe_str pa_nil)) (by decide +kernel) (by decide +kernel) (by decide) (by decide) (by decide)) (pa_cons (pe_pair (ws := ["marked"]) (us := ["break"]) (pa_cons pe_str pa_nil) (pa_cons pe_str pa_nil) (by decide +kernel) (by decide +kernel) (by decide) (by decide) (by decide)) (pa_cons (pe_pair (ws := ["not long", "not marked"]) (us := ["join"]) (pa_cons pe_str (pa_cons pe_str pa_nil)) (pa_cons pe_str pa_nil) (by decide +kernel) (by decide +kernel) (by decide) (by decide) (by decide)) pa_nil)))))
      (pss_cons (ps_set (i := 1) scUsual.nd rfl (.inl rfl) (pe_op op_cat (pv 1) (pe_lst (pa_cons (pe_pair (ws := ["behind", "long"]) (us := ["lift"]) (pa_cons pe_str (pa_cons pe_str pa_nil)) (pa_cons pe_str pa_nil) (by decide +kernel) (by decide +kernel) (by decide) (by decide) (by decide)) (pa_cons (pe_pair (ws := ["ahead", "not long"]) (us := ["lower"]) (pa_cons pe_str (pa_cons pe_str pa_nil)) (pa_cons pe_str pa_nil) (by decide +kernel) (by decide +kernel) (by decide) (by decide) (by decide)) (pa_cons (pe_pair (ws := ["first"]) (us := ["close"]) (pa_cons pe_str pa_nil) (pa_cons pe_str pa_nil) (by decide +kernel) (by decide +kernel) (by decide) (by decide) (by decide)) pa_nil))))))
      (pss_cons (ps_set (i := 1) scUsual.nd rfl (.inl rfl) (pe_op op_cat (pv 1) (pe_lst (pa_cons (pe_pair (ws := ["afterbroken"]) (us := ["space"]) (pa_cons pe_str pa_nil) (pa_cons pe_str pa_nil) (by decide +kernel) (by decide +kernel) (by decide) (by decide) (by decide)) (pa_cons (pe_pair (ws := ["broken"]) (us := ["mark"]) (pa_cons pe_str pa_nil) (pa_cons pe_str pa_nil) (by decide +kernel) (by decide +kernel) (by decide) (by decide) (by decide)) (pa_cons (pe_pair (ws := ["not left"]) (us := ["unmark"]) (pa_cons pe_str pa_nil) (pa_cons pe_str pa_nil) (by decide +kernel) (by decide +kernel) (by decide) (by decide) (by decide)) pa_nil))))))
      (pss_one (ps_ret (pe_slice sl_list (pe_call GM hr (by rfl) gM kM bM .nil pass0 (pa_cons (pv 0) (pa_cons (pv 1) pa_nil))) po_none (po_some (pe_op op_add pe_int (pe_call D.okT hr1 (by rfl) D.gT D.kT D.bT .nil pass0 (pa_cons (pv 0) (pa_cons pe_int pa_nil))))))))))), ?_⟩
    refine fun p1 H1 s1 a1 => fun p2 H2 s2 a2 => fun p3 H3 s3 a3 => ⟨(by show 3 ≤ sizeLine; decide), fun l3 nl3 => ?_⟩
    refine ⟨_, rfl, ?_⟩
    refine fun p4 H4 s4 a4 => fun p5 H5 s5 a5 => fun p6 H6 s6 a6 => ⟨(by show 3 ≤ sizeLine; decide), fun l6 nl6 => ?_⟩
    have c3 := Same.new nl3 (o := .lst [.ref p1, .ref p2, .ref p3])
    have c6 := Same.new nl6 (o := .lst [.ref p4, .ref p5, .ref p6])
    refine ⟨l3, l6, _, _, rfl, rfl, c6 _ _ (s6 _ _ (s5 _ _ (s4 _ _ upd_same))), upd_same, (by show 6 ≤ sizeLine; decide), fun m6 nm6 => ?_⟩
    have c66 := Same.new nm6 (o := .lst ([.ref p1, .ref p2, .ref p3] ++ [.ref p4, .ref p5, .ref p6]))
    refine ⟨_, rfl, ?_⟩
    refine fun p7 H7 s7 a7 => fun p8 H8 s8 a8 => fun p9 H9 s9 a9 => ⟨(by show 3 ≤ sizeLine; decide), fun l9 nl9 => ?_⟩
    have c9 := Same.new nl9 (o := .lst [.ref p7, .ref p8, .ref p9])
    refine ⟨m6, l9, _, _, rfl, rfl, c9 _ _ (s9 _ _ (s8 _ _ (s7 _ _ upd_same))), upd_same, (by show 9 ≤ sizeLine; decide), fun m9 nm9 => ?_⟩
    have c99 := Same.new nm9 (o := .lst (([.ref p1, .ref p2, .ref p3] ++ [.ref p4, .ref p5, .ref p6]) ++ [.ref p7, .ref p8, .ref p9]))
    have t9 := c9.trans c99
    have t8 := s9.trans t9
    have t7 := s8.trans t8
    have t6 := (c6.trans c66).trans (s7.trans t7)
    have t5 := s6.trans t6
    have t4 := s5.trans t5
    have t3 := c3.trans (s4.trans t4)
    have t2 := s3.trans t3
    have t1 := s2.trans t2
    have t0 := s1.trans t1
    have b9 := bx.same t0
    have n9 := (bx.same (s1.trans (s2.trans (s3.trans (c3.trans (s4.trans (s5.trans (s6.trans ((c6.trans c66).trans (s7.trans (s8.trans (s9.trans c9)))))))))))).fresh nm9
    refine ⟨_, rfl, _, rfl, b, gr, m9, _, rfl, b9, upd_same, (by show 9 ≤ 1000; decide), fun p ys G kG bG pb pg hp hl hy => ?_⟩
    have good : ∀ y ∈ ys, PairAt G y := fun y h => by
      have q := hy y h
      simp only [List.cons_append, List.nil_append, List.mem_cons, List.not_mem_nil, or_false] at q
      refine PairAt.k2 b9 kG ?_
      rcases q with rfl | rfl | rfl | rfl | rfl | rfl | rfl | rfl | rfl
      · exact a1.same t1
      · exact a2.same t2
      · exact a3.same t3
      · exact a4.same t4
      · exact a5.same t5
      · exact a6.same t6
      · exact a7.same t7
      · exact a8.same t8
      · exact a9.same t9
    refine ⟨_, rfl, b, gr, 4, rfl, bG, by decide, by decide, fun r G2 r0 r4 b2 k2 => ⟨_, _, rfl, rfl, _, rfl, p, ys, rfl, SqL.of (k2 _ _ pb pg hp), fun q nq => ?_⟩⟩
    have sq := Same.new nq (o := .lst (cutV ys none (some (1 + r))))
    have qb := b2.fresh nq
    have kk := k2.trans (K2.of_same sq)
    exact k q _ _ ((K2.of_same t0).trans (kG.trans kk)) (b2.same sq) qb.1 qb.2 upd_same (Nat.le_trans (cutV_length _ _ _) hl) fun y h => PairAt.k2 bG kk (good y (mem_cut h))
def toolN : List Str := ["_law_box", "_law_most", "_law_rows", "_law_turn", "_law_at"]
theorem scTool : FnScope toolN ["_law_box", "_law_most"] (defScope sTool) := ⟨rfl, rfl, rfl, by decide +kernel, rfl, by decide +kernel, by decide +kernel⟩
theorem ok_tool {f fU f3 f4 : Addr} {fd fdU fd3 fd4 : FuncData} (F : Fun K "_law_tool" "_law_tool" sTool f fd) (D : Draws P w K mg base fT fK dT dK) (hlen : mg "len" = none) (GU : FnOk P w K mg base CX0 3 fU fdU ["_law_box"] spUsual) (gU : mg "_law_usual" = some (.ref fU)) (kU : PySem.W.keepIn K (.ref fU) = true) (bU : Binds K fdU ["_law_box"] [])
    (GT3 : FnOk P w K mg base CX0 3 f3 fd3 ["_law_box", "_law_most"] (spDrawn GoodT 0)) (gT3 : mg "_law_tests" = some (.ref f3)) (kT3 : PySem.W.keepIn K (.ref f3) = true) (bT3 : Binds K fd3 ["_law_box", "_law_most"] [])
    (GD3 : FnOk P w K mg base CX0 3 f4 fd4 ["_law_box", "_law_most"] (spDrawn GoodD 1)) (gD3 : mg "_law_deeds" = some (.ref f4)) (kD3 : PySem.W.keepIn K (.ref f4) = true) (bD3 : Binds K fd4 ["_law_box", "_law_most"] []) : FnOk P w K mg base CX0 4 f fd ["_law_box", "_law_most"] spTool := by
  refine F.ok scTool (fun vs H Q E h => ?_) (fun cdv A outer s H vs Q E hr h => ?_)
  · obtain ⟨b, gr, m, rfl, _⟩ := h
    rfl
  · obtain ⟨b, gr, m, rfl, bx, m0, m1, k⟩ := h
    have hr1 := hr.mono (show 1 ≤ 3 by decide)
    have hr3 := hr
    refine ⟨_, (C8.pss_cut (ps_set (i := 2) scTool.nd rfl (.inl rfl) (pe_ifExp (pt_cmpR op_eq (pe_call D.okT hr1 (by rfl) D.gT D.kT D.bT .nil pass0 (pa_cons (pv 0) (pa_cons pe_int pa_nil))) pe_int (nomark _)) (pe_slice sl_list (pe_call GU hr3 (by rfl) gU kU bU .nil pass0 (pa_cons (pv 0) pa_nil)) po_none (po_some (pv 1))) (pe_lst pa_nil)))
      (pss_cons (ps_for PassesOwn.never rfl (pi_range1 (by rfl) D.range (pa_cons (pe_call D.okT hr1 (by rfl) D.gT D.kT D.bT .nil pass0 (pa_cons (pv 0) (pa_cons (pe_op op_sub (pe_op op_add (pv 1) pe_int) (pe_callB call_len_seq (by rfl) hlen PySem.boot_len (pa_cons (pv 2) pa_nil))) pa_nil))) pa_nil)) (pg_name (i := 3) scTool.nd rfl (.inl rfl))
        (pss_cons (ps_set (i := 4) scTool.nd rfl (.inl rfl) (pe_call D.okT hr1 (by rfl) D.gT D.kT D.bT .nil pass0 (pa_cons (pv 0) (pa_cons (pe_op op_add (pe_callB call_len_seq (by rfl) hlen PySem.boot_len (pa_cons (pv 2) pa_nil)) pe_int) pa_nil))))
        (pss_one (ps_set (i := 2) scTool.nd rfl (.inl rfl) (pe_op op_cat (pe_op op_cat (pe_slice sl_list (pv 2) po_none (po_some (pv 4))) (pe_lst (pa_cons (pe_tup (pa_cons (pe_call GT3 hr3 (by rfl) gT3 kT3 bT3 .nil pass0 (pa_cons (pv 0) (pa_cons pe_int pa_nil))) (pa_cons (pe_call GD3 hr3 (by rfl) gD3 kD3 bD3 .nil pass0 (pa_cons (pv 0) (pa_cons pe_int pa_nil))) pa_nil))) pa_nil))) (pe_slice sl_list (pv 2) (po_some (pv 4)) po_none))))))
      (pss_one (ps_ret (pe_tup (pa_cons (pe_callTy call_tupleX (by rfl) D.tuple (by decide +kernel) (pa_cons (pv 2) pa_nil)) (pa_cons (pe_cmpR op_eq (pe_call D.okT hr1 (by rfl) D.gT D.kT D.bT .nil pass0 (pa_cons (pv 0) (pa_cons pe_int pa_nil))) pe_int (nomark _)) pa_nil))))))), ?_⟩
    refine ⟨fun σ G => ∃ (l : Addr) (ys : List V), σ = [some (.ref b), some (.int m), some (.ref l), none, none] ∧ K2 b gr H G ∧ BoxD G b gr ∧ l ≠ b ∧ l ≠ gr ∧ G l = some (.lst ys) ∧ (ys.length : Int) ≤ m ∧ ∀ y ∈ ys, PairAt G y, ?_, ?_⟩
    · refine ⟨_, rfl, b, gr, 2, rfl, bx, by decide, by decide, fun r G r0 r2 bG kG => ⟨rfl, _, rfl, ?_⟩⟩
      refine ite2 (fun _ => ?_) (fun _ => ?_)
      · refine ⟨_, rfl, b, gr, rfl, bG, fun q ys G2 k2 b2 qb qg hq hl hy => ⟨_, rfl, m, rfl, q, ys, rfl, SqL.of hq, fun p np => ?_⟩⟩
        have sp := Same.new np (o := .lst (cutV ys none (some m)))
        have pb := b2.fresh np
        exact ⟨p, _, rfl, (kG.trans k2).trans (K2.of_same sp), b2.same sp, pb.1, pb.2, upd_same, cut_few m0, fun y h => (hy y (mem_cut h)).same sp⟩
      · refine ⟨(by show 0 ≤ sizeLine; exact Nat.zero_le _), fun p np => ?_⟩
        have sp := Same.new np (o := .lst [])
        have pb := bG.fresh np
        exact ⟨p, [], rfl, kG.trans (K2.of_same sp), bG.same sp, pb.1, pb.2, upd_same, m0, fun y h => (List.not_mem_nil h).elim⟩
    · rintro σ G ⟨l, ys, rfl, kG, bG, lb, lg, hl, ll, hy⟩
      refine ⟨_, rfl, _, rfl, _, _, rfl, rfl, _, rfl, l, ys, rfl, .inl (SqL.of hl), _, _, rfl, rfl, b, gr, _, rfl, bG, by omega, by omega, fun r G1 r0 r1 b1 k1 => ?_⟩
      refine ⟨r, rfl, by omega, by omega, for_range (lo := 0) (n := r.toNat) (fun i σ G' => ∃ (l : Addr) (ys : List V) (x3 x4 : Option V), σ = [some (.ref b), some (.int m), some (.ref l), x3, x4] ∧ K2 b gr H G' ∧ BoxD G' b gr ∧ l ≠ b ∧ l ≠ gr ∧ G' l = some (.lst ys) ∧ ys.length ≤ 300 + i ∧ ∀ y ∈ ys, PairAt G' y)
        ⟨l, ys, none, none, rfl, kG.trans k1, b1, lb, lg, k1 _ _ lb lg hl, by omega, fun y h => PairAt.k2 bG k1 (hy y h)⟩ ?_ ?_⟩
      · rintro i σ G2 hi ⟨l, ys, x3, x4, rfl, k2, b2, lb, lg, hl, ll, hy⟩
        have i200 : i ≤ 200 := by omega
        refine ⟨_, rfl, _, rfl, l, ys, rfl, .inl (SqL.of hl), _, _, rfl, rfl, b, gr, _, rfl, b2, by omega, by omega, fun at' G3 a0 a1 b3 k3 => ?_⟩
        have hl3 := k3 _ _ lb lg hl
        refine ⟨_, rfl, _, rfl, at', rfl, l, ys, rfl, SqL.of hl3, fun A nA => ?_⟩
        have zA := Same.new nA (o := .lst (cutV ys none (some at')))
        have Ab := b3.fresh nA
        have bA := b3.same zA
        refine ⟨_, rfl, b, gr, 3, rfl, bA, by decide, by decide, fun t ws G4 k4 b4 tb tg ht w0 w3 hg => ⟨_, rfl, b, gr, 2, rfl, b4, by decide, by decide, fun d us G5 k5 b5 db dg hd u0 u2 hu => ⟨(by show 2 ≤ sizeLine; decide), fun p np => ⟨(by show 1 ≤ sizeLine; decide), fun B nB => ?_⟩⟩⟩⟩
        have k45 := k4.trans k5
        have zp := Same.new np (o := .tup [.ref t, .ref d])
        have zB := Same.new nB (o := .lst [.ref p])
        have hA := zB _ _ (zp _ _ (k45 _ _ Ab.1 Ab.2 (upd_same (H := G3) (a := A) (o := .lst (cutV ys none (some at'))))))
        have c1 := cutV_length ys none (some at')
        have c2 := cutV_length ys (some at') none
        refine ⟨A, B, _, _, rfl, rfl, hA, upd_same, fits (by show _ + 1 ≤ 1000; omega), fun C1 nC => ?_⟩
        have zC := Same.new nC (o := .lst (cutV ys none (some at') ++ [.ref p]))
        have kk : K2 b gr G3 _ := ((K2.of_same zA).trans k45).trans (K2.of_same ((zp.trans zB).trans zC))
        refine ⟨_, rfl, _, rfl, at', rfl, l, ys, rfl, SqL.of (kk _ _ lb lg hl3), fun E1 nE => ?_⟩
        have zE := Same.new nE (o := .lst (cutV ys (some at') none))
        refine ⟨C1, E1, _, _, rfl, rfl, zE _ _ upd_same, upd_same, fits (by rw [List.length_append]; show _ + 1 + _ ≤ 1000; omega), fun W nW => ?_⟩
        have zW := Same.new nW (o := .lst ((cutV ys none (some at') ++ [.ref p]) ++ cutV ys (some at') none))
        have zz := zE.trans zW
        have bC := b5.same ((zp.trans zB).trans zC)
        have bE := bC.same zE
        have Wb := bE.fresh nW
        have pr : PairAt (upd G5 p (.tup [.ref t, .ref d])) (.ref p) := ⟨p, t, d, ws, us, rfl, upd_same, zp _ _ (k5 _ _ tb tg ht), zp _ _ hd, hg, hu, by omega, by omega, by omega⟩
        have all3 : ∀ y ∈ ys, PairAt G3 y := fun y h => PairAt.k2 b2 k3 (hy y h)
        refine ⟨W, _, _, _, rfl, ((k2.trans k3).trans kk).trans (K2.of_same zz), bE.same zW, Wb.1, Wb.2, upd_same, ?_, fun y h => ?_⟩
        · have e1 : (cutV ys none (some at')).length + (cutV ys (some at') none).length ≤ ys.length := by
            obtain ⟨n, rfl⟩ := Int.eq_ofNat_of_zero_le a0
            unfold cutV
            rw [HT.sIx_none, HT.sIx_nat, HT.sIx_none, HT.sIx_nat, List.length_take, List.length_drop, List.length_take, List.length_drop]
            omega
          rw [List.length_append, List.length_append]
          show _ + 1 + _ ≤ 300 + (i + 1)
          omega
        · rcases List.mem_append.mp h with h | h
          · rcases List.mem_append.mp h with h | h
            · exact (PairAt.k2 b3 kk (all3 y (mem_cut h))).same zz
            · rw [List.mem_singleton] at h
              rw [h]
              exact ((pr.same zB).same zC).same zz
          · exact (PairAt.k2 b3 kk (all3 y (mem_cut h))).same zz
      · rintro σ G2 ⟨l, ys, x3, x4, rfl, k2, b2, lb, lg, hl, ll, hy⟩
        refine ⟨_, rfl, l, ys, rfl, .inl hl, fun t H' st ht => ⟨_, rfl, b, gr, 4, rfl, b2.same st, by decide, by decide, fun r4 G5 r40 r44 b5 k5 => ⟨rfl, (by show 2 ≤ sizeLine; decide), fun q nq => ?_⟩⟩⟩
        have sq := Same.new nq (o := .tup [.ref t, .bl (decide (V.int r4 = V.int 0))])
        have bt := b2.same st
        refine k q t _ ys _ ((k2.trans (K2.of_same st)).trans (k5.trans (K2.of_same sq))) (b5.same sq) upd_same (sq _ _ (k5 _ _ (bt.tup_ne ht).1 (bt.tup_ne ht).2 ht)) (by omega) fun y h => (PairAt.k2 bt k5 ((hy y h).same st)).same sq
end
end Lay
set_option Elab.async false
set_option linter.all false
set_option maxRecDepth 100000
set_option maxHeartbeats 4000000
namespace Lay
open PySem L2
/-- isinstance(x, Row) -/
def IsP (K : PySem.W.Frag) (C : Addr) (H : Hp) (x : V) (b : Bool) : Prop := ∃ t, TyX K H x t ∧ PySem.W.kitOne K t (.ref C) = some b
theorem IsP.same {K : PySem.W.Frag} {C : Addr} {H H' : Hp} {x : V} {b : Bool} (s : Same H H') (h : IsP K C H x b) : IsP K C H' x b := by
  obtain ⟨t, h1, h2⟩ := h
  exact ⟨t, TyX.same s h1, h2⟩
theorem SqT.same {K : PySem.W.Frag} {H H' : Hp} {a : Addr} {xs : List V} (e : Same H H') (h : SqT K H a xs) : SqT K H' a xs := by
  rcases h with (h | ⟨o, h⟩) | h
  · exact .inl (.inl (e _ _ h))
  · exact .inl (.inr ⟨o, e _ _ h⟩)
  · exact .inr h
theorem SqL.same {K : PySem.W.Frag} {H H' : Hp} {a : Addr} {xs : List V} (e : Same H H') (h : SqL K H a xs) : SqL K H' a xs := by
  rcases h with (h | ⟨o, h⟩) | h
  · exact .inl (.inl (e _ _ h))
  · exact .inl (.inr ⟨o, e _ _ h⟩)
  · exact .inr h
/-- a list, or any tuple (the written ones, too) -/
def SqG (K : PySem.W.Frag) (H : Hp) (a : Addr) (xs : List V) : Prop := H a = some (.lst xs) ∨ (SqT K H a xs ∧ IsSeq K H (.ref a) true)
theorem SqG.same {K : PySem.W.Frag} {H H' : Hp} {a : Addr} {xs : List V} (s : Same H H') (h : SqG K H a xs) : SqG K H' a xs := h.imp (s _ _) fun q => ⟨SqT.same s q.1, q.2.same s⟩
theorem SqG.seq {K : PySem.W.Frag} {H : Hp} {a : Addr} {xs : List V} (h : SqG K H a xs) : IsSeq K H (.ref a) true := by
  rcases h with h | h
  · exact SqX.seq (.inl h)
  · exact h.2
theorem SqG.of {K : PySem.W.Frag} {H : Hp} {a : Addr} {xs : List V} (h : SqX H a xs) : SqG K H a xs := h.imp id fun q => ⟨SqT.of q, SqX.seq (.inr q)⟩
def IsPs (K : PySem.W.Frag) (C : Addr) (H : Hp) (xs : List V) (bs : List Bool) : Prop := bs.length = xs.length ∧ ∀ (i : Nat) (x : V) (b : Bool), xs[i]? = some x → bs[i]? = some b → IsP K C H x b
theorem IsPs.same {K : PySem.W.Frag} {C : Addr} {H H' : Hp} {xs : List V} {bs : List Bool} (s : Same H H') (h : IsPs K C H xs bs) : IsPs K C H' xs bs := ⟨h.1, fun i x b h1 h2 => (h.2 i x b h1 h2).same s⟩
/-- whether a value is a sequence of rows -/
def AnsR (K : PySem.W.Frag) (C : Addr) (H : Hp) (x : V) (r : Bool) : Prop := (IsSeq K H x false ∧ r = false) ∨ ∃ a xs bs, x = .ref a ∧ SqG K H a xs ∧ xs.length ≤ 1000 ∧ IsPs K C H xs bs ∧ r = bs.all id
theorem AnsR.same {K : PySem.W.Frag} {C : Addr} {H H' : Hp} {x : V} {r : Bool} (s : Same H H') (h : AnsR K C H x r) : AnsR K C H' x r := by
  rcases h with ⟨h, e⟩ | ⟨a, xs, bs, e, h1, h2, h3, h4⟩
  · exact .inl ⟨h.same s, e⟩
  · exact .inr ⟨a, xs, bs, e, h1.same s, h2, h3.same s, h4⟩
def spAreR (K : PySem.W.Frag) (C : Addr) : Sp := fun vs H Q _ => ∃ x r, vs = [x] ∧ AnsR K C H x r ∧ ∀ H', Same H H' → Q (.bl r) H'
/-- whether a value is a bool -/
def SrtV (K : PySem.W.Frag) (H : Hp) (y : V) (sb : Bool) : Prop := (∃ z, y = .bl z ∧ sb = true) ∨ (sb = false ∧ IsT K H y "bool" false)
theorem SrtV.same {K : PySem.W.Frag} {H H' : Hp} {y : V} {sb : Bool} (s : Same H H') (h : SrtV K H y sb) : SrtV K H' y sb := h.imp id fun q => ⟨q.1, q.2.same s⟩
theorem SrtV.isT {K : PySem.W.Frag} {H : Hp} {y : V} {sb : Bool} (h : SrtV K H y sb) : IsT K H y "bool" sb := by
  rcases h with ⟨z, rfl, rfl⟩ | ⟨rfl, h⟩
  · exact ⟨_, .base (.bl z), kit_ty (by decide +kernel)⟩
  · exact h
abbrev sAreR : Stmt := top 17
abbrev sWRows : Stmt := top 33
abbrev sToolI : Stmt := inClass (top 22) 0
section
variable {P : Program} {w : World} {K : PySem.W.Frag} {mg : Str → Option Value} {base : Heap}
theorem scAreR : FnScope ["value", "one"] ["value"] (defScope sAreR) := ⟨rfl, rfl, rfl, by decide +kernel, rfl, by decide +kernel, by decide +kernel⟩
theorem ok_areR {f fS C : Addr} {fd fdS : FuncData} (F : Fun K "are_rows" "are_rows" sAreR f fd) (T : TxtK mg) (GS : FnOk P w K mg base CX0 1 fS fdS ["value"] (spSeq K)) (gS : mg "is_sequence" = some (.ref fS)) (kS : PySem.W.keepIn K (.ref fS) = true) (bS : Binds K fdS ["value"] [])
    (gC : mg "Row" = some (.ref C)) : FnOk P w K mg base CX0 2 f fd ["value"] (spAreR K C) := by
  refine F.ok scAreR (fun vs H Q E h => ?_) (fun cdv A outer s H vs Q E hr h => ?_)
  · obtain ⟨x, r, rfl, _⟩ := h
    rfl
  · obtain ⟨x, r, rfl, h, k⟩ := h
    rcases h with ⟨h, rfl⟩ | ⟨a, xs, bs, rfl, hx, hl, hb, rfl⟩
    · refine ⟨_, (pss_one (ps_ret (pe_and (pe_call GS hr (by rfl) gS kS bS .nil pass0 (pa_cons (pv 0) pa_nil)) (pe_one (pe_callB (cr_all rfl) (by rfl) T.all (by decide +kernel) (pa_cons
            (pe_lc (own := [("one", 1)]) (g := gName 1) (tt := tYes) (by rfl) scAreR.nd (pi_list (pv 0)) (blkOk_by (N := ["value", "one"]) (sc := defScope sAreR) (by decide +kernel)) (fun _ _ _ _ _ => pg_name (i := 1) scAreR.nd rfl (Or.inl rfl)) (fun _ _ _ _ _ => pts_nil) (fun _ _ _ _ _ => pe_callB (call_isiK (K := K) rfl) (by rfl) T.isinstance (by decide +kernel) (pa_cons (pv 1) (pa_cons (pe_glob (v := .ref C) (by rfl) gC rfl) pa_nil)))) pa_nil)))))), ?_⟩
      exact ⟨_, rfl, _, false, rfl, h, fun H' s => ⟨_, rfl, iteN rfl (k H' s)⟩⟩
    · have lb : bs.length ≤ 1000 := by rw [hb.1]; exact hl
      rcases hx with hx | hx
      · refine ⟨_, (pss_one (ps_ret (pe_and (pe_call GS hr (by rfl) gS kS bS .nil pass0 (pa_cons (pv 0) pa_nil)) (pe_one (pe_callB (cr_all rfl) (by rfl) T.all (by decide +kernel) (pa_cons
            (pe_lc (own := [("one", 1)]) (g := gName 1) (tt := tYes) (by rfl) scAreR.nd (pi_list (pv 0)) (blkOk_by (N := ["value", "one"]) (sc := defScope sAreR) (by decide +kernel)) (fun _ _ _ _ _ => pg_name (i := 1) scAreR.nd rfl (Or.inl rfl)) (fun _ _ _ _ _ => pts_nil) (fun _ _ _ _ _ => pe_callB (call_isiK (K := K) rfl) (by rfl) T.isinstance (by decide +kernel) (pa_cons (pv 1) (pa_cons (pe_glob (v := .ref C) (by rfl) gC rfl) pa_nil)))) pa_nil)))))), ?_⟩
        refine ⟨_, rfl, _, true, rfl, SqG.seq (.inl hx), fun H1 s1 => ⟨_, rfl, iteY rfl ?_⟩⟩
        have hx1 : SqL K H1 a xs := SqL.of (s1 _ _ hx)
        refine ⟨_, rfl, a, rfl, ⟨_, hx1⟩, fun D nD => lc_list (K := K) (a := a) (xs := xs) (fun i G => Same H1 G ∧ G D = some (.lst ((bs.take i).map V.bl))) ⟨Same.new nD, upd_same⟩ (fun i G _ q => SqL.same q.1 hx1) ?_ ?_⟩
        · rintro i x G hi ⟨sG, hD⟩
          have li := (List.getElem?_eq_some_iff.mp hi).1
          rw [← hb.1] at li
          have eb : bs[i]? = some bs[i] := by simp [li]
          obtain ⟨t, ty, et⟩ := (hb.2 i x _ hi eb).same (s1.trans sG)
          refine ⟨rfl, _, rfl, x, _, t, _, bs[i], rfl, .own _, ty, et, _, hD, ?_, fun c u e => by rw [upd_ne (ne_of_none e nD)]; exact sG _ _ e, ?_⟩
          · rw [List.length_map, List.length_take]
            exact small1000 (by omega)
          · rw [upd_same, List.take_succ, eb, List.map_append]
            rfl
        · rintro G ⟨sG, hD⟩
          rw [← hb.1, List.take_length] at hD
          exact ⟨D, bs, rfl, SqL.of hD, k G (s1.trans sG)⟩
      · refine ⟨_, (pss_one (ps_ret (pe_and (pe_call GS hr (by rfl) gS kS bS .nil pass0 (pa_cons (pv 0) pa_nil)) (pe_one (pe_callB (cr_all rfl) (by rfl) T.all (by decide +kernel) (pa_cons
            (pe_lc (own := [("one", 1)]) (g := gName 1) (tt := tYes) (by rfl) scAreR.nd (pi_tup (pv 0)) (blkOk_by (N := ["value", "one"]) (sc := defScope sAreR) (by decide +kernel)) (fun _ _ _ _ _ => pg_name (i := 1) scAreR.nd rfl (Or.inl rfl)) (fun _ _ _ _ _ => pts_nil) (fun _ _ _ _ _ => pe_callB (call_isiK (K := K) rfl) (by rfl) T.isinstance (by decide +kernel) (pa_cons (pv 1) (pa_cons (pe_glob (v := .ref C) (by rfl) gC rfl) pa_nil)))) pa_nil)))))), ?_⟩
        refine ⟨_, rfl, _, true, rfl, SqG.seq (.inr hx), fun H1 s1 => ⟨_, rfl, iteY rfl ?_⟩⟩
        have hx1 : SqT K H1 a xs := SqT.same s1 hx.1
        refine ⟨_, rfl, a, rfl, ⟨_, hx1⟩, fun D nD => lc_tup (K := K) (a := a) (xs := xs) (fun i G => Same H1 G ∧ G D = some (.lst ((bs.take i).map V.bl))) ⟨Same.new nD, upd_same⟩ (fun i G _ q => SqT.same q.1 hx1) ?_ ?_⟩
        · rintro i x G hi ⟨sG, hD⟩
          have li := (List.getElem?_eq_some_iff.mp hi).1
          rw [← hb.1] at li
          have eb : bs[i]? = some bs[i] := by simp [li]
          obtain ⟨t, ty, et⟩ := (hb.2 i x _ hi eb).same (s1.trans sG)
          refine ⟨rfl, _, rfl, x, _, t, _, bs[i], rfl, .own _, ty, et, _, hD, ?_, fun c u e => by rw [upd_ne (ne_of_none e nD)]; exact sG _ _ e, ?_⟩
          · rw [List.length_map, List.length_take]
            exact small1000 (by omega)
          · rw [upd_same, List.take_succ, eb, List.map_append]
            rfl
        · rintro G ⟨sG, hD⟩
          rw [← hb.1, List.take_length] at hD
          exact ⟨D, bs, rfl, SqL.of hD, k G (s1.trans sG)⟩
theorem scWRows : FnScope ["_law_value", "_law_one"] ["_law_value"] (defScope sWRows) := ⟨rfl, rfl, rfl, by decide +kernel, rfl, by decide +kernel, by decide +kernel⟩
theorem ok_wrows {f C : Addr} {fd : FuncData} (F : Fun K "_law_are_rows" "_law_are_rows" sWRows f fd) (T : TxtK mg) (gC : mg "Row" = some (.ref C)) : FnOk P w K mg base CX0 1 f fd ["_law_value"] (spAreR K C) := by
  refine F.ok scWRows (fun vs H Q E h => ?_) (fun cdv A outer s H vs Q E hr h => ?_)
  · obtain ⟨x, r, rfl, _⟩ := h
    rfl
  · obtain ⟨x, r, rfl, h, k⟩ := h
    rcases h with ⟨h, rfl⟩ | ⟨a, xs, bs, rfl, hx, hl, hb, rfl⟩
    · refine ⟨_, (pss_one (ps_ret (pe_and (pe_callB call_isiT (by rfl) T.isinstance (by decide +kernel) (pa_cons (pv 0) (pa_cons (pe_tup (pa_cons (pe_bltn (v := .ty "list") (by rfl) T.list (by decide +kernel) rfl) (pa_cons (pe_bltn (v := .ty "tuple") (by rfl) T.tuple (by decide +kernel) rfl) pa_nil))) pa_nil))) (pe_one (pe_cmpR (op_eqNil hr.units) (pe_lc (own := [("_law_one", 1)]) (g := gName 1) (by rfl) scWRows.nd (pi_list (pv 0)) (blkOk_by (N := ["_law_value", "_law_one"]) (sc := defScope sWRows) (by decide +kernel)) (fun _ _ _ _ _ => pg_name (i := 1) scWRows.nd rfl (Or.inl rfl))
            (fun _ _ _ _ _ => pts_one (pt_not (pt_val (pe_callB (call_isiK (K := K) rfl) (by rfl) T.isinstance (by decide +kernel) (pa_cons (pv 1) (pa_cons (pe_glob (v := .ref C) (by rfl) gC rfl) pa_nil))))))
            (fun _ _ _ _ _ => pv 1)) (pe_lst pa_nil) (nomark _)))))), ?_⟩
      refine ⟨_, rfl, (by show 2 ≤ sizeLine; decide), fun p np => ?_⟩
      obtain ⟨t, ty, et⟩ := h.same (Same.new np (o := .tup [.ty "list", .ty "tuple"]))
      exact ⟨_, p, _, t, _, false, rfl, upd_same, .cons (.ty _) (.cons (.ty _) .nil), ty, et, _, rfl, iteN rfl (k _ (Same.new np))⟩
    · rcases hx with hx | hx
      · refine ⟨_, (pss_one (ps_ret (pe_and (pe_callB call_isiT (by rfl) T.isinstance (by decide +kernel) (pa_cons (pv 0) (pa_cons (pe_tup (pa_cons (pe_bltn (v := .ty "list") (by rfl) T.list (by decide +kernel) rfl) (pa_cons (pe_bltn (v := .ty "tuple") (by rfl) T.tuple (by decide +kernel) rfl) pa_nil))) pa_nil))) (pe_one (pe_cmpR (op_eqNil hr.units) (pe_lc (own := [("_law_one", 1)]) (g := gName 1) (by rfl) scWRows.nd (pi_list (pv 0)) (blkOk_by (N := ["_law_value", "_law_one"]) (sc := defScope sWRows) (by decide +kernel)) (fun _ _ _ _ _ => pg_name (i := 1) scWRows.nd rfl (Or.inl rfl))
            (fun _ _ _ _ _ => pts_one (pt_not (pt_val (pe_callB (call_isiK (K := K) rfl) (by rfl) T.isinstance (by decide +kernel) (pa_cons (pv 1) (pa_cons (pe_glob (v := .ref C) (by rfl) gC rfl) pa_nil))))))
            (fun _ _ _ _ _ => pv 1)) (pe_lst pa_nil) (nomark _)))))), ?_⟩
        refine ⟨_, rfl, (by show 2 ≤ sizeLine; decide), fun p np => ?_⟩
        have sp := Same.new np (o := .tup [.ty "list", .ty "tuple"])
        obtain ⟨t, ty, et⟩ := (SqG.seq (K := K) (.inl hx)).same sp
        refine ⟨_, p, _, t, _, true, rfl, upd_same, .cons (.ty _) (.cons (.ty _) .nil), ty, et, _, rfl, iteY rfl ?_⟩
        have hx3 : SqL K _ a xs := SqL.of (sp _ _ hx)
        refine ⟨_, rfl, a, rfl, ⟨_, hx3⟩, fun D2 nD2 => lc_list (xs := xs) (fun i G => ∃ acc : List V, Same (upd H p (.tup [.ty "list", .ty "tuple"])) G ∧ G D2 = some (.lst acc) ∧ acc.length ≤ i ∧ acc.isEmpty = (bs.take i).all id) ⟨[], Same.new nD2, upd_same, Nat.le_refl _, rfl⟩ (fun i G _ q => by obtain ⟨acc, q, _⟩ := q; exact SqL.same q hx3) ?_ ?_⟩
        · rintro i y G hi ⟨acc, sG3, hD2, la, ea⟩
          have li := (List.getElem?_eq_some_iff.mp hi).1
          have li2 : i < bs.length := by rw [hb.1]; exact li
          have eb : bs[i]? = some bs[i] := by simp [li2]
          obtain ⟨t2, ty2, e2⟩ := (hb.2 i y _ hi eb).same (sp.trans sG3)
          have et2 : (bs.take (i + 1)).all id = ((bs.take i).all id && bs[i]) := by
            rw [List.take_succ, eb, List.all_append]
            simp
          refine ⟨rfl, _, rfl, _, _, _, _, _, rfl, .own _, ty2, e2, _, rfl, ?_⟩
          refine ite2 (fun q => ?_) (fun q => ?_)
          · have hf : bs[i] = false := by simpa using q
            refine ⟨_, rfl, acc, hD2, small1000 (by omega), acc ++ [y], fun c u e => ?_, upd_same, ?_, ?_⟩
            · rw [upd_ne (ne_of_none e nD2)]
              exact sG3 _ _ e
            · rw [List.length_append]
              show acc.length + 1 ≤ i + 1
              omega
            · rw [et2, hf, Bool.and_false]
              simp
          · have ht : bs[i] = true := by simpa using q
            exact ⟨acc, sG3, hD2, by omega, by rw [et2, ht, Bool.and_true]; exact ea⟩
        · rintro G ⟨acc, sG3, hD2, la, ea⟩
          rw [← hb.1, List.take_length] at ea
          refine ⟨(by show 0 ≤ sizeLine; exact Nat.zero_le _), fun q nq => ⟨D2, q, acc, rfl, rfl, SqL.of (Same.new nq _ _ hD2), upd_same, ?_⟩⟩
          rw [ea]
          exact k _ ((sp.trans sG3).trans (Same.new nq))
      · refine ⟨_, (pss_one (ps_ret (pe_and (pe_callB call_isiT (by rfl) T.isinstance (by decide +kernel) (pa_cons (pv 0) (pa_cons (pe_tup (pa_cons (pe_bltn (v := .ty "list") (by rfl) T.list (by decide +kernel) rfl) (pa_cons (pe_bltn (v := .ty "tuple") (by rfl) T.tuple (by decide +kernel) rfl) pa_nil))) pa_nil))) (pe_one (pe_cmpR (op_eqNil hr.units) (pe_lc (own := [("_law_one", 1)]) (g := gName 1) (by rfl) scWRows.nd (pi_tup (pv 0)) (blkOk_by (N := ["_law_value", "_law_one"]) (sc := defScope sWRows) (by decide +kernel)) (fun _ _ _ _ _ => pg_name (i := 1) scWRows.nd rfl (Or.inl rfl))
            (fun _ _ _ _ _ => pts_one (pt_not (pt_val (pe_callB (call_isiK (K := K) rfl) (by rfl) T.isinstance (by decide +kernel) (pa_cons (pv 1) (pa_cons (pe_glob (v := .ref C) (by rfl) gC rfl) pa_nil))))))
            (fun _ _ _ _ _ => pv 1)) (pe_lst pa_nil) (nomark _)))))), ?_⟩
        refine ⟨_, rfl, (by show 2 ≤ sizeLine; decide), fun p np => ?_⟩
        have sp := Same.new np (o := .tup [.ty "list", .ty "tuple"])
        obtain ⟨t, ty, et⟩ := (SqG.seq (K := K) (.inr hx)).same sp
        refine ⟨_, p, _, t, _, true, rfl, upd_same, .cons (.ty _) (.cons (.ty _) .nil), ty, et, _, rfl, iteY rfl ?_⟩
        have hx3 : SqT K _ a xs := SqT.same sp hx.1
        refine ⟨_, rfl, a, rfl, ⟨_, hx3⟩, fun D2 nD2 => lc_tup (xs := xs) (fun i G => ∃ acc : List V, Same (upd H p (.tup [.ty "list", .ty "tuple"])) G ∧ G D2 = some (.lst acc) ∧ acc.length ≤ i ∧ acc.isEmpty = (bs.take i).all id) ⟨[], Same.new nD2, upd_same, Nat.le_refl _, rfl⟩ (fun i G _ q => by obtain ⟨acc, q, _⟩ := q; exact SqT.same q hx3) ?_ ?_⟩
        · rintro i y G hi ⟨acc, sG3, hD2, la, ea⟩
          have li := (List.getElem?_eq_some_iff.mp hi).1
          have li2 : i < bs.length := by rw [hb.1]; exact li
          have eb : bs[i]? = some bs[i] := by simp [li2]
          obtain ⟨t2, ty2, e2⟩ := (hb.2 i y _ hi eb).same (sp.trans sG3)
          have et2 : (bs.take (i + 1)).all id = ((bs.take i).all id && bs[i]) := by
            rw [List.take_succ, eb, List.all_append]
            simp
          refine ⟨rfl, _, rfl, _, _, _, _, _, rfl, .own _, ty2, e2, _, rfl, ?_⟩
          refine ite2 (fun q => ?_) (fun q => ?_)
          · have hf : bs[i] = false := by simpa using q
            refine ⟨_, rfl, acc, hD2, small1000 (by omega), acc ++ [y], fun c u e => ?_, upd_same, ?_, ?_⟩
            · rw [upd_ne (ne_of_none e nD2)]
              exact sG3 _ _ e
            · rw [List.length_append]
              show acc.length + 1 ≤ i + 1
              omega
            · rw [et2, hf, Bool.and_false]
              simp
          · have ht : bs[i] = true := by simpa using q
            exact ⟨acc, sG3, hD2, by omega, by rw [et2, ht, Bool.and_true]; exact ea⟩
        · rintro G ⟨acc, sG3, hD2, la, ea⟩
          rw [← hb.1, List.take_length] at ea
          refine ⟨(by show 0 ≤ sizeLine; exact Nat.zero_le _), fun q nq => ⟨D2, q, acc, rfl, rfl, SqL.of (Same.new nq _ _ hD2), upd_same, ?_⟩⟩
          rw [ea]
          exact k _ ((sp.trans sG3).trans (Same.new nq))
end
section
variable {X : Cx}
theorem call_tupleG : CallR X (.type "tuple") (fun xs H Q => ∃ a ys, xs = [.ref a] ∧ SqG X.K H a ys ∧ ∀ l H', Same H H' → Q (.ref l) H') := by
  intro pins s σ H xs us Q I r h
  obtain ⟨a, ys, rfl, hs, q⟩ := h
  refine call_tuple_of pins s σ H _ us Q I r ⟨a, ys, rfl, ?_⟩
  rcases hs with hs | hs
  · exact .inl ⟨SqL.of hs, fun l nl => q l _ (Same.new nl)⟩
  · exact .inr ⟨hs.1, q a H (Same.refl H)⟩
end
structure ToolC (K : PySem.W.Frag) (C : Addr) : Prop where
  cl : Cls K C
  rows : NoAttr K C "rows"
  sorts : NoAttr K C "sorts"
def toolF (t : Addr) (y : V) : List (Str × V) := putF "sorts" y (putF "rows" (.ref t) [])
def spToolI (K : PySem.W.Frag) (C CT D : Addr) : Sp := fun vs H Q E => ∃ (p dx : Addr) (x y : V) (rr sb : Bool), vs = [.ref p, x, y] ∧ H p = some (.ins CT dx []) ∧ AnsR K C H x rr ∧ SrtV K H y sb ∧
  (rr = true → sb = true → ∀ H' t, Kept p H H' → H' p = some (.ins CT dx (toolF t y)) → Q .non H') ∧ (rr = false → Raised D H (.str "rows") E) ∧ (rr = true → sb = false → Raised D H (.str "sorts") E)
section
variable {P : Program} {w : World} {K : PySem.W.Frag} {mg : Str → Option Value} {base : Heap}
theorem scToolI : FnScope ["self", "rows", "sorts"] ["self", "rows", "sorts"] (defScope sToolI) := ⟨rfl, rfl, rfl, by decide +kernel, rfl, by decide +kernel, by decide +kernel⟩
theorem ok_toolI {f fR fI C CT D : Addr} {fd fdR fdI : FuncData} {dvs : List V} (F : FunD K "__init__" "Tool.__init__" (defArgs sToolI) (defBody sToolI) (defScope sToolI) dvs [] f fd) (T : TxtK mg) (hbool : mg "bool" = none) (Z : ToolC K CT)
    (GR : FnOk P w K mg base CX0 2 fR fdR ["value"] (spAreR K C)) (gR : mg "are_rows" = some (.ref fR)) (kR : PySem.W.keepIn K (.ref fR) = true) (bR : Binds K fdR ["value"] [])
    (Y : XC K mg D fI "InvalidRow" "part") (GI : FnOk P w K mg base CX0 1 fI fdI ["self", "part"] (spInit K D "part")) (bI : Binds K fdI ["self", "part"] []) : FnOk P w K mg base (L2.CX P w) 3 f fd ["self", "rows", "sorts"] (spToolI K C CT D) := by
  refine F.ok scToolI (fun vs H Q E h => ?_) (fun cdv A outer s H vs Q E hr h => ?_)
  · obtain ⟨p, dx, x, y, rr, sb, rfl, _⟩ := h
    rfl
  · obtain ⟨p, dx, x, y, rr, sb, rfl, hp, hx, hy, k1, k2, k3⟩ := h
    refine ⟨_, (pss_cons (ps_if (pt_not (pt_val (pe_call GR hr (by rfl) gR kR bR .nil pass0 (pa_cons (pv 1) pa_nil))))
      (pss_one (ps_raise rfl (takes_of rfl rfl rfl rfl) (pmk_oex Y.oex Y.init Y.tI GI hr bI .nil pass0 (by rfl) Y.gC (pa_cons pe_str pa_nil))))
      pss_nil)
    (pss_cons (ps_if (pt_not (pt_val (pe_callB call_isi (by rfl) T.isinstance (by decide +kernel) (pa_cons (pv 2) (pa_cons (pe_bltn (v := .ty "bool") (by rfl) hbool (by decide +kernel) rfl) pa_nil)))))
      (pss_one (ps_raise rfl (takes_of rfl rfl rfl rfl) (pmk_oex Y.oex Y.init Y.tI GI hr bI .nil pass0 (by rfl) Y.gC (pa_cons pe_str pa_nil))))
      pss_nil)
    (pss_cons (ps_fld (pv 0) (pe_callTy call_tupleG (by rfl) T.tuple (by decide +kernel) (pa_cons (pv 1) pa_nil)) rfl)
    (pss_one (ps_fld (pv 0) (pv 2) rfl))))), ?_⟩
    refine ⟨_, rfl, x, rr, rfl, hx, fun H1 s1 => ⟨_, rfl, ?_⟩⟩
    cases rr with
    | false => exact iteY rfl ⟨by show 1 ≤ 1000; decide, fun a ha => raised_at Y.oex Y.no ha (k2 rfl |>.same s1)⟩
    | true =>
      obtain ⟨t, ty, et⟩ := (hy.isT).same s1
      refine iteN rfl ⟨_, rfl, _, _, t, _, sb, rfl, .ty _, ty, et, _, rfl, ?_⟩
      cases sb with
      | false => exact iteY rfl ⟨by show 1 ≤ 1000; decide, fun a ha => raised_at Y.oex Y.no ha (k3 rfl rfl |>.same s1)⟩
      | true =>
        refine iteN rfl ?_
        rcases hx with ⟨_, z⟩ | ⟨a, xs, bs, rfl, hs, _⟩
        · cases z
        refine ⟨_, rfl, a, xs, rfl, hs.same s1, fun l H2 s2 => ⟨_, rfl, p, CT, dx, _, rfl, s2 _ _ (s1 _ _ hp), Z.cl, Z.rows, (by show 0 < 1000; decide), ?_⟩⟩
        refine ⟨_, rfl, _, rfl, p, CT, dx, _, rfl, upd_same, Z.cl, Z.sorts, ?_, ?_⟩
        · exact Nat.lt_of_le_of_lt (length_putF _ _ []) (by show 0 + 1 < 1000; decide)
        · refine k1 rfl rfl _ l ?_ upd_same
          exact ((Kept.of_same (s1.trans s2)).trans Kept.box).trans Kept.box
end
end Lay
set_option Elab.async false
set_option linter.all false
set_option maxRecDepth 100000
set_option maxHeartbeats 4000000
namespace Lay
open PySem L2
section
variable {X : Cx} {K : PySem.W.Frag}
theorem pg_tupK {es : List Expr} {k : Nat} {t : TGs} {n : Nat} {pos : Pos} (hK : X.K = K) (hc : X.calm = true) (h : PGs X es t) (hn : (assignEach es X.env).length = n := by rfl) (hst : (assignEach es X.env).findIdx? (·.1) = none := by rfl) : PG X (.Tuple es k pos) (gTup K n t) := by
  subst hK
  exact pg_tup hc h hn hst
end
def partS (rr sb : Bool) : Str := if rr then (if sb then "made" else "sorts") else "rows"
def spPart (K : PySem.W.Frag) (C : Addr) : Sp := fun vs H Q _ => ∃ (x y : V) (rr sb : Bool), vs = [x, y] ∧ AnsR K C H x rr ∧ SrtV K H y sb ∧ ∀ H', Same H H' → Q (.str (partS rr sb)) H'
abbrev sPart : Stmt := top 32
/-- the class D is no InvalidTool, and a LayError -/
structure Kin (K : PySem.W.Frag) (mg : Str → Option Value) (D L DT : Addr) : Prop where
  gL : mg "LayError" = some (.ref L)
  gDT : mg "InvalidTool" = some (.ref DT)
  kL : PySem.W.kitOne K (.ref D) (.ref L) = some true
  kT : PySem.W.kitOne K (.ref D) (.ref DT) = some false
  ex : PySem.W.exmOne K (.ref D) (.ref D) = some true
theorem made_same {x dx : Addr} {H H' : Hp} {o : HO} (hx : H x = none) (hd : H dx = none) (k : Kept x (upd (upd H dx (.own x)) x o) H') : Same H H' := fun b u e => k b u (ne_of_none e hx) (by rw [upd_ne (ne_of_none e hx), upd_ne (ne_of_none e hd)]; exact e)
theorem fresh_own {H : Hp} {p d : Addr} {o : HO} (np : H p = none) (ne : d ≠ p) : upd H d o p = none := by
  rw [upd_ne (Ne.symm ne)]
  exact np
section
variable {P : Program} {w : World} {K : PySem.W.Frag} {mg : Str → Option Value} {base : Heap}
theorem scPart : FnScope ["_law_rows", "_law_sorts", "_law_found", "e"] ["_law_rows", "_law_sorts"] (defScope sPart) := ⟨rfl, rfl, rfl, by decide +kernel, rfl, by decide +kernel, by decide +kernel⟩
theorem ok_part {f fT fI C CT D L DT : Addr} {fd fdT : FuncData} (F : Fun K "_law_part" "_law_part" sPart f fd) (T : TxtK mg) (Y : XC K mg D fI "InvalidRow" "part") (N : Kin K mg D L DT) (M : Mk K CT fT) (Z : ToolC K CT)
    (GT : FnOk P w K mg base (L2.CX P w) 3 fT fdT ["self", "rows", "sorts"] (spToolI K C CT D)) (gT : mg "Tool" = some (.ref CT)) (bT : Binds K fdT ["self", "rows", "sorts"] []) : FnOk P w K mg base CX0 5 f fd ["_law_rows", "_law_sorts"] (spPart K C) := by
  refine F.ok scPart (fun vs H Q E h => ?_) (fun cdv A outer s H vs Q E hr h => ?_)
  · obtain ⟨x, y, rr, sb, rfl, _⟩ := h
    rfl
  · obtain ⟨x, y, rr, sb, rfl, hx, hy, k⟩ := h
    refine ⟨_, (pss_cons (ps_set (i := 2) scPart.nd rfl (.inl rfl) pe_str)
      (pss_cons (ps_try_as (i := 3) rfl rfl scPart.nd rfl (by rfl) ⟨by rfl, by decide, .inl Y.gC⟩ takes0
        (fun W pn xe tk hp => pss_one (ps_set (i := 2) scPart.nd rfl (.inl rfl) (pe_ifExp (pt_cmpR op_eq (pe_fldK (K := K) rfl (pe_makeS (E := WE W) M GT (hr.mono (by decide)) (by rfl) gT bT .nil (fun σ => passAt tk σ) (pa_cons (pv 0) (pa_cons (pv 1) pa_nil))) (by rfl)) (pv 1) (nomark _)) pe_str pe_str)))
        (fun a oe cls d pn hz hf => pss_one (ps_set (i := 2) scPart.nd rfl (.inl rfl) (pe_ifExp (PW.pt (pw_and (pt_val (pe_callB (call_isEX hz hf) (by rfl) T.isinstance (by decide +kernel) (pa_cons (pv 3) (pa_cons (pe_glob (v := .ref L) (by rfl) N.gL rfl) pa_nil))))
          (pw_and1 (pt_not (pt_val (pe_callB (call_isEX hz hf) (by rfl) T.isinstance (by decide +kernel) (pa_cons (pv 3) (pa_cons (pe_glob (v := .ref DT) (by rfl) N.gDT rfl) pa_nil))))))))
          (pe_xf Y.xf Y.no hz hf (pv 3)) pe_str))))
      (pss_one (ps_ret (pv 2))))), ?_⟩
    refine ⟨_, rfl, _, rfl, fun p dx hp hd0 ne => ?_⟩
    have hp2 := fresh_own (o := .own p) hp ne
    have s1 : Same H (upd (upd H dx (.own p)) p (.ins CT dx [])) := (Same.new hd0).trans (Same.new hp2)
    refine ⟨p, dx, x, y, rr, sb, rfl, upd_same, hx.same s1, hy.same s1, fun er es H' t kp hp' => ⟨rfl, p, CT, dx, _, y, rfl, hp', Z.cl, Z.sorts, rfl, _, rfl, ?_⟩, fun er => ?_, fun er es => ?_⟩
    · subst er es
      rcases hy with ⟨z, rfl, _⟩ | ⟨e, _⟩
      · refine ⟨rfl, _, rfl, iteY (by simp) ?_⟩
        exact ⟨_, rfl, k H' fun b o eb => kp b o (ne_of_none eb hp) (s1 _ _ eb)⟩
      · cases e
    · subst er
      refine fun G d s2 n e => ⟨true, N.ex, fun _ a ha => ?_, fun z => nomatch z⟩
      refine ⟨_, rfl, D, d, _, _, _, _, rfl, rfl, rfl, e, Y.isC, .own _, N.kL, _, rfl, ?_⟩
      refine ⟨_, rfl, D, d, _, _, _, _, rfl, rfl, rfl, e, Y.isC, .own _, N.kT, _, rfl, ?_⟩
      exact ⟨_, rfl, rfl, rfl, d, _, _, rfl, e, rfl, _, rfl, k G (s1.trans s2)⟩
    · subst er es
      refine fun G d s2 n e => ⟨true, N.ex, fun _ a ha => ?_, fun z => nomatch z⟩
      refine ⟨_, rfl, D, d, _, _, _, _, rfl, rfl, rfl, e, Y.isC, .own _, N.kL, _, rfl, ?_⟩
      refine ⟨_, rfl, D, d, _, _, _, _, rfl, rfl, rfl, e, Y.isC, .own _, N.kT, _, rfl, ?_⟩
      exact ⟨_, rfl, rfl, rfl, d, _, _, rfl, e, rfl, _, rfl, k G (s1.trans s2)⟩
end
/-! ### values -/
structure ClsI (K : PySem.W.Frag) (C : Addr) : Prop where
  cl : Cls K C
  ha : PySem.W.findIn K (.ref C) "__class__" = some (some (.builtin "object.__class__"))
  hn : PySem.W.specialIn K (.builtin "object.__class__") "__get__" = some (some (.builtin "getset_descriptor.__get__"))
  htk : PySem.W.takesIn K (.builtin "object.__class__") = some true
  hm : PySem.W.mroIn K C (.type "object") = some true
  nl : PySem.W.subIn K (.ref C) (.type "list") = some false
  nt : PySem.W.subIn K (.ref C) (.type "tuple") = some false
  nb : PySem.W.subIn K (.ref C) (.type "bool") = some false
  ty : PySem.W.typeIn K (.ref C) = some (.type "type")
theorem kit_cls {K : PySem.W.Frag} {C : Addr} {t : Value} {b : Bool} (hd : PySem.W.hasDictIn K C = true) (ty : PySem.W.typeIn K (.ref C) = some (.type "type")) (s : PySem.W.subIn K t (.ref C) = some b) (e : t = .ref C → b = true) : PySem.W.kitOne K t (.ref C) = some b := by
  unfold PySem.W.kitOne
  by_cases h : (t == Value.ref C) = true
  · rw [if_pos h, e (beq_iff_eq.mp h)]
  · rw [if_neg h]
    obtain ⟨cd, hc, _⟩ := PySem.W.any_some hd
    unfold PySem.W.kitCls
    dsimp only
    rw [if_pos (by rw [hc, ty]; rfl)]
    exact s
theorem kit_type {K : PySem.W.Frag} {C : Addr} {n : String} {b : Bool} (hm : PySem.W.kitMeta n = true) (s : PySem.W.subIn K (.ref C) (.type n) = some b) : PySem.W.kitOne K (.ref C) (.type n) = some b := by
  unfold PySem.W.kitOne
  rw [if_neg (fun h => by have q := beq_iff_eq.mp h; cases q)]
  unfold PySem.W.kitCls
  dsimp only
  rw [if_pos hm]
  exact s
theorem ClsI.at {K : PySem.W.Frag} {C a dx : Addr} {H : Hp} {fs : List (Str × V)} (c : ClsI K C) (h : H a = some (.ins C dx fs)) : TyX K H (.ref a) (.ref C) := .base (.ins h c.cl c.ha c.hn c.htk c.hm)
theorem ClsI.noSeq {K : PySem.W.Frag} {C a dx : Addr} {H : Hp} {fs : List (Str × V)} (c : ClsI K C) (h : H a = some (.ins C dx fs)) : IsSeq K H (.ref a) false :=
  ⟨_, c.at h, kitAny_lt (b := false) (c := false) (kit_type (by decide +kernel) c.nl) (kit_type (by decide +kernel) c.nt)⟩
theorem ClsI.yes {K : PySem.W.Frag} {C a dx : Addr} {H : Hp} {fs : List (Str × V)} (c : ClsI K C) (h : H a = some (.ins C dx fs)) : IsP K C H (.ref a) true := ⟨_, c.at h, by unfold PySem.W.kitOne; rw [if_pos (by simp)]⟩
theorem no_row {K : PySem.W.Frag} {C : Addr} {n : String} (c : ClsI K C) (h : (PySem.fastBuiltinMro n).map (·.contains (Value.ref C)) = some false) : PySem.W.kitOne K (.type n) (.ref C) = some false := kit_cls c.cl.hd c.ty h (fun z => nomatch z)
theorem np_none {C : Addr} : (PySem.fastBuiltinMro "NoneType").map (·.contains (Value.ref C)) = some false := by
  have e : PySem.fastBuiltinMro "NoneType" = some [.type "NoneType", .type "object"] := by decide +kernel
  rw [e]
  rfl
theorem np_int {C : Addr} : (PySem.fastBuiltinMro "int").map (·.contains (Value.ref C)) = some false := by
  have e : PySem.fastBuiltinMro "int" = some [.type "int", .type "object"] := by decide +kernel
  rw [e]
  rfl
theorem np_bool {C : Addr} : (PySem.fastBuiltinMro "bool").map (·.contains (Value.ref C)) = some false := by
  have e : PySem.fastBuiltinMro "bool" = some [.type "bool", .type "int", .type "object"] := by decide +kernel
  rw [e]
  rfl
theorem np_str {C : Addr} : (PySem.fastBuiltinMro "str").map (·.contains (Value.ref C)) = some false := by
  have e : PySem.fastBuiltinMro "str" = some [.type "str", .type "object"] := by decide +kernel
  rw [e]
  rfl
theorem np_list {C : Addr} : (PySem.fastBuiltinMro "list").map (·.contains (Value.ref C)) = some false := by
  have e : PySem.fastBuiltinMro "list" = some [.type "list", .type "object"] := by decide +kernel
  rw [e]
  rfl
theorem np_tuple {C : Addr} : (PySem.fastBuiltinMro "tuple").map (·.contains (Value.ref C)) = some false := by
  have e : PySem.fastBuiltinMro "tuple" = some [.type "tuple", .type "object"] := by decide +kernel
  rw [e]
  rfl
def Cst (v : V) : Prop := v = .non ∨ (∃ i, v = .int i) ∨ (∃ z, v = .bl z) ∨ ∃ z, v = .str z
def Itm (C CT b gr : Addr) (H : Hp) (v : V) : Prop := Cst v ∨ ∃ a, v = .ref a ∧ a ≠ b ∧ a ≠ gr ∧ ((∃ xs, H a = some (.lst xs)) ∨ (∃ xs, H a = some (.tup xs)) ∨ (∃ dx fs, H a = some (.ins C dx fs)) ∨ ∃ dx fs, H a = some (.ins CT dx fs))
def Shp (C CT b gr : Addr) (H : Hp) (v : V) : Prop := Cst v ∨ ∃ a, v = .ref a ∧ a ≠ b ∧ a ≠ gr ∧ ((∃ dx fs, H a = some (.ins C dx fs)) ∨ (∃ dx fs, H a = some (.ins CT dx fs)) ∨ ∃ xs, (H a = some (.lst xs) ∨ H a = some (.tup xs)) ∧ xs.length ≤ 1000 ∧ ∀ x ∈ xs, Itm C CT b gr H x)
theorem Itm.k2 {C CT b gr : Addr} {H H' : Hp} {v : V} (k : K2 b gr H H') (h : Itm C CT b gr H v) : Itm C CT b gr H' v := by
  rcases h with h | ⟨a, rfl, n1, n2, ⟨xs, h⟩ | ⟨xs, h⟩ | ⟨dx, fs, h⟩ | ⟨dx, fs, h⟩⟩
  · exact .inl h
  · exact .inr ⟨a, rfl, n1, n2, .inl ⟨xs, k _ _ n1 n2 h⟩⟩
  · exact .inr ⟨a, rfl, n1, n2, .inr (.inl ⟨xs, k _ _ n1 n2 h⟩)⟩
  · exact .inr ⟨a, rfl, n1, n2, .inr (.inr (.inl ⟨dx, fs, k _ _ n1 n2 h⟩))⟩
  · exact .inr ⟨a, rfl, n1, n2, .inr (.inr (.inr ⟨dx, fs, k _ _ n1 n2 h⟩))⟩
theorem Shp.k2 {C CT b gr : Addr} {H H' : Hp} {v : V} (k : K2 b gr H H') (h : Shp C CT b gr H v) : Shp C CT b gr H' v := by
  rcases h with h | ⟨a, rfl, n1, n2, ⟨dx, fs, h⟩ | ⟨dx, fs, h⟩ | ⟨xs, h, l, i⟩⟩
  · exact .inl h
  · exact .inr ⟨a, rfl, n1, n2, .inl ⟨dx, fs, k _ _ n1 n2 h⟩⟩
  · exact .inr ⟨a, rfl, n1, n2, .inr (.inl ⟨dx, fs, k _ _ n1 n2 h⟩)⟩
  · exact .inr ⟨a, rfl, n1, n2, .inr (.inr ⟨xs, h.imp (k _ _ n1 n2) (k _ _ n1 n2), l, fun x hx => (i x hx).k2 k⟩)⟩
theorem Shp.itm {C CT b gr : Addr} {H : Hp} {v : V} (h : Shp C CT b gr H v) : Itm C CT b gr H v := by
  rcases h with h | ⟨a, rfl, n1, n2, ⟨dx, fs, h⟩ | ⟨dx, fs, h⟩ | ⟨xs, h | h, l, i⟩⟩
  · exact .inl h
  · exact .inr ⟨a, rfl, n1, n2, .inr (.inr (.inl ⟨dx, fs, h⟩))⟩
  · exact .inr ⟨a, rfl, n1, n2, .inr (.inr (.inr ⟨dx, fs, h⟩))⟩
  · exact .inr ⟨a, rfl, n1, n2, .inl ⟨xs, h⟩⟩
  · exact .inr ⟨a, rfl, n1, n2, .inr (.inl ⟨xs, h⟩)⟩
/-- the two classes -/
structure Two (K : PySem.W.Frag) (C CT : Addr) : Prop where
  c : ClsI K C
  t : ClsI K CT
  sub : PySem.W.subIn K (.ref CT) (.ref C) = some false
  ne : CT ≠ C
theorem Itm.isP {K : PySem.W.Frag} {C CT b gr : Addr} {H : Hp} {v : V} (t : Two K C CT) (h : Itm C CT b gr H v) : ∃ bb, IsP K C H v bb := by
  rcases h with (rfl | ⟨i, rfl⟩ | ⟨z, rfl⟩ | ⟨z, rfl⟩) | ⟨a, rfl, _, _, ⟨xs, h⟩ | ⟨xs, h⟩ | ⟨dx, fs, h⟩ | ⟨dx, fs, h⟩⟩
  · exact ⟨_, _, .base .non, no_row t.c np_none⟩
  · exact ⟨_, _, .base (.int i), no_row t.c np_int⟩
  · exact ⟨_, _, .base (.bl z), no_row t.c np_bool⟩
  · exact ⟨_, _, .base (.str z), no_row t.c np_str⟩
  · exact ⟨_, _, .base (.lst h), no_row t.c np_list⟩
  · exact ⟨_, _, .base (.tup h), no_row t.c np_tuple⟩
  · exact ⟨_, t.c.yes h⟩
  · exact ⟨_, _, t.t.at h, kit_cls t.c.cl.hd t.c.ty t.sub fun z => absurd (Value.ref.inj z) t.ne⟩
theorem isPs_of {K : PySem.W.Frag} {C : Addr} {H : Hp} : ∀ {xs : List V}, (∀ x ∈ xs, ∃ bb, IsP K C H x bb) → ∃ bs, IsPs K C H xs bs
  | [], _ => ⟨[], rfl, fun i x b h => by simp at h⟩
  | x :: xs, h => by
    obtain ⟨b0, h0⟩ := h x List.mem_cons_self
    obtain ⟨bs, h1, h2⟩ := isPs_of (xs := xs) fun y hy => h y (List.mem_cons_of_mem _ hy)
    refine ⟨b0 :: bs, by rw [List.length_cons, List.length_cons, h1], fun i y b hy hb => ?_⟩
    cases i with
    | zero =>
      cases hy
      cases hb
      exact h0
    | succ i => exact h2 i y b hy hb
theorem Cst.noSeq {K : PySem.W.Frag} {H : Hp} {v : V} (h : Cst v) : IsSeq K H v false := by
  rcases h with rfl | ⟨i, rfl⟩ | ⟨z, rfl⟩ | ⟨z, rfl⟩
  · exact ⟨_, .base .non, kitAny_lt (b := false) (c := false) (kit_ty (by decide +kernel)) (kit_ty (by decide +kernel))⟩
  · exact ⟨_, .base (.int i), kitAny_lt (b := false) (c := false) (kit_ty (by decide +kernel)) (kit_ty (by decide +kernel))⟩
  · exact ⟨_, .base (.bl z), kitAny_lt (b := false) (c := false) (kit_ty (by decide +kernel)) (kit_ty (by decide +kernel))⟩
  · exact ⟨_, .base (.str z), kitAny_lt (b := false) (c := false) (kit_ty (by decide +kernel)) (kit_ty (by decide +kernel))⟩
theorem Shp.ans {K : PySem.W.Frag} {C CT b gr : Addr} {H : Hp} {v : V} (t : Two K C CT) (h : Shp C CT b gr H v) : ∃ r, AnsR K C H v r := by
  rcases h with h | ⟨a, rfl, n1, n2, ⟨dx, fs, h⟩ | ⟨dx, fs, h⟩ | ⟨xs, h, l, i⟩⟩
  · exact ⟨false, .inl ⟨h.noSeq, rfl⟩⟩
  · exact ⟨false, .inl ⟨t.c.noSeq h, rfl⟩⟩
  · exact ⟨false, .inl ⟨t.t.noSeq h, rfl⟩⟩
  · obtain ⟨bs, hb⟩ := isPs_of fun x hx => (i x hx).isP t
    exact ⟨_, .inr ⟨a, xs, bs, rfl, SqG.of h, l, hb, rfl⟩⟩
/-- rows alone -/
theorem rows_ans {K : PySem.W.Frag} {C : Addr} {H : Hp} {a : Addr} {xs : List V} (c : ClsI K C) (h : SqG K H a xs) (l : xs.length ≤ 1000) (i : ∀ x ∈ xs, ∃ q dx fs, x = V.ref q ∧ H q = some (.ins C dx fs)) : AnsR K C H (.ref a) true := by
  refine .inr ⟨a, xs, List.replicate xs.length true, rfl, h, l, ⟨List.length_replicate, fun n x b hx hb => ?_⟩, ?_⟩
  · obtain ⟨q, dx, fs, rfl, hq⟩ := i x (List.mem_of_getElem? hx)
    rw [(List.mem_replicate.mp (List.mem_of_getElem? hb)).2]
    exact c.yes hq
  · symm
    rw [List.all_eq_true]
    intro b hb
    rw [(List.mem_replicate.mp hb).2]
    rfl
end Lay
set_option Elab.async false
set_option linter.all false
set_option maxRecDepth 100000
set_option maxHeartbeats 8000000
namespace Lay
open PySem L2
abbrev sLaw : Stmt := top 34
def lawN : List Str := ["_law_script", "_law_base", "_law_box", "_law_rows", "_law_odd", "_law_turn", "_law_at", "_law_value", "_law_sorts", "_law_some", "_law_due", "_law_tests_here", "_law_deeds_here"]
/-- the class Row, to be called -/
structure RowD (P : Program) (w : World) (K : PySem.W.Frag) (mg : Str → Option Value) (base : Heap) (C D fR : Addr) (dR : FuncData) : Prop where
  made : Mk K C fR
  ok : FnOk P w K mg base (L2.CX P w) 3 fR dR ["self", "tests", "deeds"] (spRowI K C D)
  g : mg "Row" = some (.ref C)
  b : Binds K dR ["self", "tests", "deeds"] []
/-- the class Tool, to be called; e: the empty tuple that stands for no rows -/
structure ToolD (P : Program) (w : World) (K : PySem.W.Frag) (mg : Str → Option Value) (base : Heap) (C CT D fT e : Addr) (dT : FuncData) : Prop where
  made : Mk K CT fT
  ok : FnOk P w K mg base (L2.CX P w) 3 fT dT ["self", "rows", "sorts"] (spToolI K C CT D)
  g : mg "Tool" = some (.ref CT)
  b1 : ∃ ds, Vals [V.bl false] ds ∧ Binds K dT ["self", "rows", "sorts"] ds
  b0 : ∃ ds, Vals [V.ref e, V.bl false] ds ∧ Binds K dT ["self", "rows", "sorts"] ds
  e : ∀ H : Hp, SqG K H e []
structure Fs where
  f_feed : Addr
  d_feed : FuncData
  f_take : Addr
  d_take : FuncData
  f_pick : Addr
  d_pick : FuncData
  f_tool : Addr
  d_tool : FuncData
  f_part : Addr
  d_part : FuncData
  f_rows : Addr
  d_rows : FuncData
  fR : Addr
  dR : FuncData
  fT : Addr
  dT : FuncData
/-- what the law wants -/
structure TxtL (P : Program) (w : World) (K : PySem.W.Frag) (mg : Str → Option Value) (base : Heap) (C CT D e : Addr) (fs : Fs) : Prop where
  range : mg "range" = none
  max : mg "max" = none
  min : mg "min" = none
  len : mg "len" = none
  tuple : mg "tuple" = none
  isinstance : mg "isinstance" = none
  bool : mg "bool" = none
  two : Two K C CT
  row : RowD P w K mg base C D fs.fR fs.dR
  tl : ToolD P w K mg base C CT D fs.fT e fs.dT
  ok_feed : FnOk P w K mg base CX0 1 (fs.f_feed) (fs.d_feed) ["_law_script", "_law_base"] (spFeed K)
  g_feed : mg "_law_feed" = some (.ref fs.f_feed)
  k_feed : PySem.W.keepIn K (.ref fs.f_feed) = true
  b_feed : Binds K fs.d_feed ["_law_script", "_law_base"] []
  ok_take : FnOk P w K mg base CX0 1 (fs.f_take) (fs.d_take) ["_law_box", "_law_wide"] spTake
  g_take : mg "_law_take" = some (.ref fs.f_take)
  k_take : PySem.W.keepIn K (.ref fs.f_take) = true
  b_take : Binds K fs.d_take ["_law_box", "_law_wide"] []
  ok_pick : FnOk P w K mg base CX0 2 (fs.f_pick) (fs.d_pick) ["_law_box", "_law_some"] (spPick K)
  g_pick : mg "_law_pick" = some (.ref fs.f_pick)
  k_pick : PySem.W.keepIn K (.ref fs.f_pick) = true
  b_pick : Binds K fs.d_pick ["_law_box", "_law_some"] []
  ok_tool : FnOk P w K mg base CX0 4 (fs.f_tool) (fs.d_tool) ["_law_box", "_law_most"] spTool
  g_tool : mg "_law_tool" = some (.ref fs.f_tool)
  k_tool : PySem.W.keepIn K (.ref fs.f_tool) = true
  b_tool : Binds K fs.d_tool ["_law_box", "_law_most"] []
  ok_part : FnOk P w K mg base CX0 5 (fs.f_part) (fs.d_part) ["_law_rows", "_law_sorts"] (spPart K C)
  g_part : mg "_law_part" = some (.ref fs.f_part)
  k_part : PySem.W.keepIn K (.ref fs.f_part) = true
  b_part : Binds K fs.d_part ["_law_rows", "_law_sorts"] []
  ok_rows : FnOk P w K mg base CX0 1 (fs.f_rows) (fs.d_rows) ["_law_value"] (spAreR K C)
  g_rows : mg "_law_are_rows" = some (.ref fs.f_rows)
  k_rows : PySem.W.keepIn K (.ref fs.f_rows) = true
  b_rows : Binds K fs.d_rows ["_law_value"] []
theorem same_k2 {b gr : Addr} {G0 G G' : Hp} (s : Same G0 G) (k : K2 b gr G G') (nb : G0 b = none) (ng : G0 gr = none) : Same G0 G' := fun a o e => k a o (ne_of_none e nb) (ne_of_none e ng) (s a o e)
theorem good_ans {f : Str → Bool} {more : List V → Bool} {K : PySem.W.Frag} {H : Hp} {t : Addr} {ws : List Str} (h : SqX H t (ws.map V.str)) (l : ws.length ≤ 1000) (m : more (ws.map V.str) = true) (g : ∀ z ∈ ws, f z = true ∧ z.length ≤ 1000) : AnsV f more K H (.ref t) true := by
  refine .inr ⟨t, _, ws.map f, rfl, h, by rw [List.length_map]; exact l, ⟨by rw [List.length_map, List.length_map], fun i x b hx hb => ?_⟩, ?_⟩
  · obtain ⟨z, hz, rfl⟩ := str_at hx
    rw [List.getElem?_map, hz] at hb
    cases hb
    exact .inl ⟨z, rfl, (g z (List.mem_of_getElem? hz)).2, rfl⟩
  · rw [m, Bool.true_and]
    symm
    rw [List.all_eq_true]
    intro b hb
    obtain ⟨z, hz, rfl⟩ := List.mem_map.mp hb
    exact (g z hz).1
theorem good_of {f : Str → Bool} {z : Str} (h : (f z && decide (z.length ≤ 1000)) = true) : f z = true ∧ z.length ≤ 1000 := by
  obtain ⟨h1, h3⟩ := Bool.and_eq_true_iff.mp h
  exact ⟨h1, of_decide_eq_true h3⟩
theorem progD_join : progD "join" = true := by decide +kernel
/-- the rows and their list -/
structure Rws (C b gr rw : Addr) (rs : List V) (G : Hp) : Prop where
  l : G rw = some (.lst rs)
  nb : rw ≠ b
  ng : rw ≠ gr
  few : rs.length ≤ 900
  all : ∀ x ∈ rs, ∃ q dx fs, x = V.ref q ∧ q ≠ b ∧ q ≠ gr ∧ G q = some (.ins C dx fs)
theorem Rws.k2 {C b gr rw : Addr} {rs : List V} {G G' : Hp} (k : K2 b gr G G') (h : Rws C b gr rw rs G) : Rws C b gr rw rs G' :=
  ⟨k _ _ h.nb h.ng h.l, h.nb, h.ng, h.few, fun x hx => by
    obtain ⟨q, dx, fs, e, n1, n2, hq⟩ := h.all x hx
    exact ⟨q, dx, fs, e, n1, n2, k _ _ n1 n2 hq⟩⟩
theorem Rws.itm {C CT b gr rw : Addr} {rs : List V} {G : Hp} (h : Rws C b gr rw rs G) : ∀ x ∈ rs, Itm C CT b gr G x := fun x hx => by
  obtain ⟨q, dx, fs, e, n1, n2, hq⟩ := h.all x hx
  exact .inr ⟨q, e, n1, n2, .inr (.inr (.inl ⟨dx, fs, hq⟩))⟩
def spLaw (K : PySem.W.Frag) : Sp := fun vs H Q _ => ∃ (a : Addr) (ns : List Int), vs = [.ref a] ∧ SqL K H a (ns.map V.int) ∧ ns.length ≤ 63 ∧ ∀ H', Q (.bl true) H'
theorem scLaw : FnScope lawN ["_law_script"] (defScope sLaw) := ⟨rfl, rfl, rfl, by decide +kernel, rfl, by decide +kernel, by decide +kernel⟩
section
variable {P : Program} {w : World} {K : PySem.W.Frag} {mg : Str → Option Value} {base : Heap} {C CT D e0 : Addr} {fs : Fs}
theorem ok_law {f : Addr} {fx : FuncData} (F : Fun K "law" "law" sLaw f fx) (T : TxtL P w K mg base C CT D e0 fs) : FnOk P w K mg base CX0 6 f fx ["_law_script"] (spLaw K) := by
  refine F.ok scLaw (fun vs H Q E h => ?_) (fun cdv A outer s H vs Q E hr h => ?_)
  · obtain ⟨a, ns, rfl, _⟩ := h
    rfl
  · obtain ⟨a, ns, rfl, hs, hl, k⟩ := h
    have hr1 := hr.mono (show 1 ≤ 5 by decide)
    have hr2 := hr.mono (show 2 ≤ 5 by decide)
    have hr4 := hr.mono (show 4 ≤ 5 by decide)
    have hr5 := hr
    obtain ⟨ds1, hd1, hb1⟩ := T.tl.b1
    obtain ⟨ds0, hd0, hb0⟩ := T.tl.b0
    refine ⟨_, (pss_cons (ps_for PassesOwn.never rfl (pi_range1 (by rfl) T.range (pa_cons (pe_callB (call_max2 rfl) (by rfl) T.max (by decide +kernel) (pa_cons pe_int (pa_cons (pe_callB (call_min2 rfl) (by rfl) T.min (by decide +kernel) (pa_cons pe_int (pa_cons (pe_callB call_len_seq (by rfl) T.len (by decide +kernel) (pa_cons (pv 0) pa_nil)) pa_nil))) pa_nil))) pa_nil)) (pg_name (i := 1) scLaw.nd rfl (.inl rfl))
      (pss_cons (ps_set (i := 2) scLaw.nd rfl (.inl rfl) (pe_call T.ok_feed hr1 (by rfl) T.g_feed T.k_feed T.b_feed .nil pass0 (pa_cons (pv 0) (pa_cons (pv 1) pa_nil))))
      (C8.pss_cut (ps_setLc (i := 3) (own := [("_law_tests_here", 11), ("_law_deeds_here", 12)]) (tt := tYes) rfl scLaw.nd rfl rfl (sw_true rfl rfl rfl (by decide +kernel)) (pi_tup (pe_ix ix_tup (pe_call T.ok_tool hr4 (by rfl) T.g_tool T.k_tool T.b_tool .nil pass0 (pa_cons (pv 2) (pa_cons pe_int pa_nil))) pe_int (fun _ _ => rfl))) (blkOk_by (N := lawN) (sc := defScope sLaw) (by decide +kernel))
          (fun _ _ _ _ _ => pg_tupK (K := K) (n := 2) rfl rfl (pgs_cons (pg_name (i := 11) scLaw.nd rfl (Or.inl rfl)) (pgs_cons (pg_name (i := 12) scLaw.nd rfl (Or.inl rfl)) pgs_nil))) (fun _ _ _ _ _ => pts_nil) (fun _ _ _ _ _ => (pe_make (E := E0) T.row.made T.row.ok hr4 (by rfl) T.row.g T.row.b .nil passL (pa_cons (pv 11) (pa_cons (pv 12) pa_nil)))))
      (C8.pss_cut (ps_set (i := 4) scLaw.nd rfl (.inl rfl) (pe_lst (pa_cons pe_non (pa_cons pe_int (pa_cons pe_bl (pa_cons pe_str (pa_cons pe_str (pa_cons (pe_lst pa_nil) (pa_cons (pe_tup pa_nil) (pa_cons (pe_tup (pa_cons pe_str pa_nil)) (pa_cons (pe_lst (pa_cons (pe_make (E := E0) T.row.made T.row.ok hr4 (by rfl) T.row.g T.row.b .nil passL (pa_cons (pe_tup pa_nil) (pa_cons (pe_lst (pa_cons pe_str pa_nil)) pa_nil))) pa_nil)) (pa_cons (pe_make (E := E0) T.tl.made T.tl.ok hr4 (by rfl) T.tl.g hb1 hd1 passL (pa_cons (pv 3) pa_nil)) (pa_cons (pe_op op_pow pe_int pe_int) (pa_cons (pe_lst (pa_cons (pe_lst pa_nil) pa_nil)) pa_nil))))))))))))))
      (pss_one (ps_for PassesOwn.never rfl (pi_range1 (by rfl) T.range (pa_cons pe_int pa_nil)) (pg_name (i := 5) scLaw.nd rfl (.inl rfl))
        (pss_cons (ps_par (i := 6) (j := 7) (by rfl) scLaw.nd rfl rfl (by decide) rfl rfl (pa_cons (pe_call T.ok_take hr1 (by rfl) T.g_take T.k_take T.b_take .nil pass0 (pa_cons (pv 2) (pa_cons (pe_op op_add (pe_callB call_len_seq (by rfl) T.len (by decide +kernel) (pa_cons (pv 3) pa_nil)) pe_int) pa_nil))) (pa_cons (pe_call T.ok_pick hr2 (by rfl) T.g_pick T.k_pick T.b_pick .nil pass0 (pa_cons (pv 2) (pa_cons (pv 4) pa_nil))) pa_nil)) (by rfl))
        (pss_cons (ps_set (i := 8) scLaw.nd rfl (.inl rfl) (pe_call T.ok_pick hr2 (by rfl) T.g_pick T.k_pick T.b_pick .nil pass0 (pa_cons (pv 2) (pa_cons (pe_lst (pa_cons pe_bl (pa_cons pe_bl (pa_cons pe_bl (pa_cons pe_bl (pa_cons pe_int (pa_cons pe_int (pa_cons pe_non (pa_cons pe_str (pa_cons pe_str (pa_cons (pe_tup pa_nil) (pa_cons (pe_lst (pa_cons pe_bl pa_nil)) (pa_cons (pe_make0 (E := E0) T.tl.made T.tl.ok hr4 (by rfl) T.tl.g hb0 hd0 passL) pa_nil))))))))))))) pa_nil))))
        (pss_one (ps_for PassesOwn.never rfl (pi_tup (pe_tup (pa_cons (pv 3) (pa_cons (pe_callTy call_tupleX (by rfl) T.tuple (by decide +kernel) (pa_cons (pv 3) pa_nil)) (pa_cons (pe_op op_cat (pe_op op_cat (pe_slice sl_list (pv 3) po_none (po_some (pv 6))) (pe_lst (pa_cons (pv 7) pa_nil))) (pe_slice sl_list (pv 3) (po_some (pv 6)) po_none)) (pa_cons (pv 7) (pa_cons (pe_tup (pa_cons (pv 7) pa_nil)) pa_nil))))))) (pg_name (i := 9) scLaw.nd rfl (.inl rfl))
          (C8.pss_cut (ps_set (i := 10) scLaw.nd rfl (.inl rfl) (pe_ifExp (pt_val (pe_callB call_isi (by rfl) T.isinstance (by decide +kernel) (pa_cons (pv 8) (pa_cons (pe_bltn (v := .ty "bool") (by rfl) T.bool (by decide +kernel) rfl) pa_nil)))) pe_str pe_str))
          (C8.pss_cut (ps_set (i := 10) scLaw.nd rfl (.inl rfl) (pe_ifExp (pt_val (pe_call T.ok_rows hr1 (by rfl) T.g_rows T.k_rows T.b_rows .nil pass0 (pa_cons (pv 9) pa_nil))) (pv 10) pe_str))
          (pss_one (ps_if (pt_cmpR op_ne (pe_call T.ok_part hr5 (by rfl) T.g_part T.k_part T.b_part .nil pass0 (pa_cons (pv 9) (pa_cons (pv 8) pa_nil))) (pv 10) (nomark _))
            (pss_one (ps_ret pe_bl))
            pss_nil))))))))))))))
    (pss_one (ps_ret (pe_and (pe_cmpR op_eq (pe_call T.ok_part hr5 (by rfl) T.g_part T.k_part T.b_part .nil pass0 (pa_cons pe_non (pa_cons pe_non pa_nil))) pe_str (nomark _)) (pe_and (pe_cmpR op_eq (pe_call T.ok_part hr5 (by rfl) T.g_part T.k_part T.b_part .nil pass0 (pa_cons (pe_lst pa_nil) (pa_cons pe_int pa_nil))) pe_str (nomark _)) (pe_one (pe_cmpR op_eq (pe_call T.ok_part hr5 (by rfl) T.g_part T.k_part T.b_part .nil pass0 (pa_cons (pe_tup pa_nil) (pa_cons pe_bl pa_nil))) pe_str (nomark _)))))))), ?_⟩
    have hmap : (ns.map V.int).length = ns.length := List.length_map ..
    refine ⟨_, rfl, a, _, rfl, .inl hs, _, _, rfl, _, _, rfl, _, rfl, ?_, ?_, for_range (lo := 0) (n := Int.toNat _) (fun i σ G => ∃ x1 x2 x3 x4 x5 x6 x7 x8 x9 x10 x11 x12 : Option V, σ = [some (.ref a), x1, x2, x3, x4, x5, x6, x7, x8, x9, x10, x11, x12] ∧ Same H G)
      ⟨none, none, none, none, none, none, none, none, none, none, none, none, rfl, Same.refl H⟩ ?_ ?_⟩
    · split <;> split <;> omega
    · split <;> split <;> omega
    · rintro i σ G0 hi ⟨x1, x2, x3, x4, x5, x6, x7, x8, x9, x10, x11, x12, rfl, sG⟩
      have hi3 : i ≤ 2 := by
        revert hi
        split <;> split <;> omega
      refine ⟨_, rfl, _, rfl, a, ns, 0 + (i : Int), rfl, sG.seq hs, by omega, by omega, by omega, fun b gr G1 s1 nb ng b1 => ?_⟩
      -- the rows
      refine ⟨fun σ' G' => ∃ (rw : Addr) (rs : List V) (x4 x5 x6 x7 x8 x9 x10 x11 x12 : Option V), σ' = [some (.ref a), some (.int (0 + (i : Int))), some (.ref b), some (.ref rw), x4, x5, x6, x7, x8, x9, x10, x11, x12] ∧ Same G0 G' ∧ BoxD G' b gr ∧ Rws C b gr rw rs G', ?_, ?_⟩
      · refine ⟨_, rfl, b, gr, 6, rfl, b1, by decide, by decide, fun q r sb ys G2 k2 b2 hq hr' ly hy => ⟨q, _, 0, .ref r, rfl, rfl, SqT.of hq, rfl, r, rfl, ⟨_, SqT.of hr'⟩, fun D1 nD => lc_tup (xs := ys) (fun n G' => ∃ acc : List V, Same G2 G' ∧ G' D1 = some (.lst acc) ∧ acc.length = n ∧ ∀ x ∈ acc, ∃ q dx fs, x = V.ref q ∧ q ≠ b ∧ q ≠ gr ∧ G' q = some (.ins C dx fs))
          ⟨[], Same.new nD, upd_same, rfl, fun x hx => (List.not_mem_nil hx).elim⟩ (fun n G' _ z => by obtain ⟨acc, z, _⟩ := z; exact SqT.of (z _ _ hr')) ?_ ?_⟩⟩
        · rintro n x G' hx ⟨acc, z, hD, la, ha⟩
          have ln := (List.getElem?_eq_some_iff.mp hx).1
          obtain ⟨p, t, d, ws, us, rfl, hp, ht, hd, gw, gu, lw, lu, nu⟩ := (hy x (List.mem_of_getElem? hx)).same z
          refine ⟨p, _, rfl, SqT.of hp, rfl, _, _, rfl, _, _, rfl, rfl, rfl, _, rfl, _, rfl, fun p2 d2 np nd ne => ?_⟩
          have zz := (Same.new nd (o := .own p2)).trans (Same.new (fresh_own (o := .own p2) np ne) (o := .ins C d2 []))
          have fu : full (us.map V.str) = true := decide_eq_true (by rw [List.length_map]; exact nu)
          refine ⟨p2, d2, .ref t, .ref d, true, true, rfl, upd_same, good_ans (.inr (zz _ _ ht)) lw rfl fun y h => good_of (gw y h), good_ans (.inr (zz _ _ hd)) lu fu fun y h => good_of (gu y h), fun _ _ H' t' d' ys' kp hp' hd' hl' => ⟨rfl, ?_⟩, fun e => (nomatch e), fun _ e => (nomatch e)⟩
          have zm := made_same np nd kp
          have pb := (b2.same z).fresh np
          refine ⟨acc, zm _ _ hD, by rw [la]; exact small1000 (by omega), acc ++ [.ref p2], fun c u e => ?_, upd_same, by rw [List.length_append, la]; rfl, fun y h => ?_⟩
          · rw [upd_ne (ne_of_none e nD)]
            exact zm _ _ (z _ _ e)
          · rcases List.mem_append.mp h with h | h
            · obtain ⟨q2, dx, fs2, e, n1, n2, hq2⟩ := ha y h
              exact ⟨q2, dx, fs2, e, n1, n2, by rw [upd_ne (ne_of (zm _ _ hq2) (zm _ _ hD) (fun z => nomatch z))]; exact zm _ _ hq2⟩
            · rw [List.mem_singleton] at h
              exact ⟨p2, _, _, h, pb.1, pb.2, by rw [upd_ne (ne_of hp' (zm _ _ hD) (fun z => nomatch z))]; exact hp'⟩
        · rintro G' ⟨acc, z, hD, la, ha⟩
          have s2 := same_k2 s1 k2 nb ng
          have Db := b2.fresh nD
          exact ⟨D1, acc, _, _, _, _, _, _, _, _, _, rfl, s2.trans z, b2.same z, ⟨hD, Db.1, Db.2, by omega, ha⟩⟩
      · rintro σ' G2 ⟨rw, rs, x4, x5, x6, x7, x8, x9, x10, x11, x12, rfl, s2, b2, R2⟩
        -- odd ones
        refine ⟨fun σ' G' => ∃ (od : Addr) (os : List V) (x5 x6 x7 x8 x9 x10 x11 x12 : Option V), σ' = [some (.ref a), some (.int (0 + (i : Int))), some (.ref b), some (.ref rw), some (.ref od), x5, x6, x7, x8, x9, x10, x11, x12] ∧ Same G0 G' ∧ BoxD G' b gr ∧ Rws C b gr rw rs G' ∧ od ≠ b ∧ od ≠ gr ∧ G' od = some (.lst os) ∧ 0 < os.length ∧ os.length ≤ 1000 ∧ ∀ x ∈ os, Shp C CT b gr G' x, ?_, ?_⟩
        · refine ⟨(by show 0 ≤ sizeLine; exact Nat.zero_le _), fun q1 n1 => ⟨(by show 0 ≤ sizeLine; exact Nat.zero_le _), fun q2 n2 => ⟨(by show 1 ≤ sizeLine; decide), fun q3 n3 => ⟨(by show 0 ≤ sizeLine; exact Nat.zero_le _), fun t0 nt0 => ⟨(by show 1 ≤ sizeLine; decide), fun d0 nd0 => fun p dx np nd ne => ?_⟩⟩⟩⟩⟩
          have u1 := Same.new n1 (o := .lst [])
          have u2 := Same.new n2 (o := .tup [])
          have u3 := Same.new n3 (o := .tup [.str "long"])
          have u4 := Same.new nt0 (o := .tup [])
          have u5 := Same.new nd0 (o := .lst [.str "join"])
          have zz := (Same.new nd (o := .own p)).trans (Same.new (fresh_own (o := .own p) np ne) (o := .ins C dx []))
          refine ⟨p, dx, .ref t0, .ref d0, true, true, rfl, upd_same, good_ans (ws := []) (.inr (zz _ _ (u5 _ _ upd_same))) (Nat.zero_le _) rfl (fun y h => (List.not_mem_nil h).elim), good_ans (ws := ["join"]) (.inl (zz _ _ upd_same)) (by decide) rfl (fun y h => by
            rw [List.mem_singleton] at h
            rw [h]
            exact ⟨progD_join, by decide⟩), fun _ _ G5 t' d' ys' kp hp hd' hl' => ⟨rfl, (by show 1 ≤ sizeLine; decide), fun q4 n4 => ⟨_, rfl, fun pt dt npt ndt net => ?_⟩⟩, fun e => (nomatch e), fun _ e => (nomatch e)⟩
          have m1 := made_same np nd kp
          have u6 := Same.new n4 (o := .lst [.ref p])
          have c1 := ((((u1.trans u2).trans u3).trans u4).trans u5).trans m1
          have z2 := (Same.new ndt (o := .own pt)).trans (Same.new (fresh_own (o := .own pt) npt net) (o := .ins CT dt []))
          have R5 := R2.k2 (K2.of_same ((c1.trans u6).trans z2))
          refine ⟨pt, dt, .ref rw, .bl false, true, true, rfl, upd_same, rows_ans T.two.c (.inl R5.l) (Nat.le_trans R5.few (by decide)) (fun x hx => by
            obtain ⟨q, dx, fs2, e, _, _, hq⟩ := R5.all x hx
            exact ⟨q, dx, fs2, e, hq⟩), .inl ⟨_, rfl, rfl⟩, fun _ _ G6 tt kt hpt => ⟨rfl, _, _, rfl, rfl, ⟨by decide, by decide, by decide⟩, (by show 0 ≤ sizeLine; exact Nat.zero_le _), fun q5 n5 => ⟨(by show 1 ≤ sizeLine; decide), fun q6 n6 => ⟨(by show 12 ≤ sizeLine; decide), fun od nod => ?_⟩⟩⟩, fun e => (nomatch e), fun _ e => (nomatch e)⟩
          have m2 := made_same npt ndt kt
          have u7 := Same.new n5 (o := .lst [])
          have u8 := Same.new n6 (o := .lst [.ref q5])
          have u9 := Same.new nod (o := .lst [.non, .int 0, .bl true, .str "do join", .str "", .ref q1, .ref q2, .ref q3, .ref q4, .ref pt, .int (10 ^ (20 : Int).toNat), .ref q6])
          have e8 := u8.trans u9
          have e7 := u7.trans e8
          have e6 := m2.trans e7
          have e5 := u6.trans e6
          have e4 := m1.trans e5
          have e3 := u4.trans (u5.trans e4)
          have e2 := u3.trans e3
          have e1 := u2.trans e2
          have e0' := u1.trans e1
          have x1 := b2.fresh n1
          have bb1 := b2.same u1
          have x2 := bb1.fresh n2
          have bb2 := bb1.same u2
          have x3 := bb2.fresh n3
          have bb5 := ((bb2.same u3).same u4).same u5
          have xp := bb5.fresh np
          have bb6 := bb5.same m1
          have x4' := bb6.fresh n4
          have bb7 := bb6.same u6
          have xt := bb7.fresh npt
          have bb8 := bb7.same m2
          have x5' := bb8.fresh n5
          have bb9 := bb8.same u7
          have x6' := bb9.fresh n6
          have bb10 := bb9.same u8
          have xo := bb10.fresh nod
          refine ⟨od, _, _, _, _, _, _, _, _, _, rfl, s2.trans e0', b2.same e0', R2.k2 (K2.of_same e0'), xo.1, xo.2, upd_same, (by show 0 < 12; decide), (by show 12 ≤ 1000; decide), fun x hx => ?_⟩
          simp only [List.mem_cons, List.not_mem_nil, or_false] at hx
          rcases hx with rfl | rfl | rfl | rfl | rfl | rfl | rfl | rfl | rfl | rfl | rfl | rfl
          · exact .inl (.inl rfl)
          · exact .inl (.inr (.inl ⟨_, rfl⟩))
          · exact .inl (.inr (.inr (.inl ⟨_, rfl⟩)))
          · exact .inl (.inr (.inr (.inr ⟨_, rfl⟩)))
          · exact .inl (.inr (.inr (.inr ⟨_, rfl⟩)))
          · exact .inr ⟨q1, rfl, x1.1, x1.2, .inr (.inr ⟨[], .inl (e1 _ _ upd_same), Nat.zero_le _, fun y h => (List.not_mem_nil h).elim⟩)⟩
          · exact .inr ⟨q2, rfl, x2.1, x2.2, .inr (.inr ⟨[], .inr (e2 _ _ upd_same), Nat.zero_le _, fun y h => (List.not_mem_nil h).elim⟩)⟩
          · exact .inr ⟨q3, rfl, x3.1, x3.2, .inr (.inr ⟨_, .inr (e3 _ _ upd_same), (by show 1 ≤ 1000; decide), fun y h => by
              rw [List.mem_singleton] at h
              rw [h]
              exact .inl (.inr (.inr (.inr ⟨_, rfl⟩)))⟩)⟩
          · exact .inr ⟨q4, rfl, x4'.1, x4'.2, .inr (.inr ⟨_, .inl (e6 _ _ upd_same), (by show 1 ≤ 1000; decide), fun y h => by
              rw [List.mem_singleton] at h
              rw [h]
              exact .inr ⟨p, rfl, xp.1, xp.2, .inr (.inr (.inl ⟨_, _, e5 _ _ hp⟩))⟩⟩)⟩
          · exact .inr ⟨pt, rfl, xt.1, xt.2, .inr (.inl ⟨_, _, e7 _ _ hpt⟩)⟩
          · exact .inl (.inr (.inl ⟨_, rfl⟩))
          · exact .inr ⟨q6, rfl, x6'.1, x6'.2, .inr (.inr ⟨_, .inl (u9 _ _ upd_same), (by show 1 ≤ 1000; decide), fun y h => by
              rw [List.mem_singleton] at h
              rw [h]
              exact .inr ⟨q5, rfl, x5'.1, x5'.2, .inl ⟨[], e8 _ _ upd_same⟩⟩⟩)⟩
        · rintro σ' G3 ⟨od, os, x5, x6, x7, x8, x9, x10, x11, x12, rfl, s3, b3, R3, ob, og, ho, o0, ol, oh⟩
          refine ⟨8, rfl, by decide, by decide, for_range (lo := 0) (n := 8) (fun j σ G => ∃ x5 x6 x7 x8 x9 x10 x11 x12 : Option V, σ = [some (.ref a), some (.int (0 + (i : Int))), some (.ref b), some (.ref rw), some (.ref od), x5, x6, x7, x8, x9, x10, x11, x12] ∧ K2 b gr G3 G ∧ BoxD G b gr) ⟨_, _, _, _, _, _, _, _, rfl, K2.refl _ _ _, b3⟩ ?_ ?_⟩
          · rintro j σ G4 hj ⟨x5, x6, x7, x8, x9, x10, x11, x12, rfl, k4, b4⟩
            have R4 := R3.k2 k4
            have ho4 := k4 _ _ ob og ho
            have lr : rs.length ≤ 900 := R4.few
            refine ⟨_, rfl, _, rfl, rw, rs, rfl, .inl (SqL.of R4.l), _, _, rfl, rfl, b, gr, _, rfl, b4, by omega, by omega, fun at' G5 a0 a1 b5 k5 => ⟨_, rfl, _, rfl, b, gr, od, os, rfl, b5, ob, og, .inl (k5 _ _ ob og ho4), o0, ol, fun v G6 hv b6 k6 => ⟨_, _, rfl, ?_⟩⟩⟩
            have k46 := (k4.trans k5).trans k6
            have shv := (oh v hv).k2 k46
            have R6 := R3.k2 k46
            refine ⟨_, rfl, (by show 0 ≤ sizeLine; exact Nat.zero_le _), fun q1 n1 => ⟨(by show 1 ≤ sizeLine; decide), fun q2 n2 => fun pt dt npt ndt net => ?_⟩⟩
            have u1 := Same.new n1 (o := .tup [])
            have u2 := Same.new n2 (o := .lst [.bl true])
            have z2 := (Same.new ndt (o := .own pt)).trans (Same.new (fresh_own (o := .own pt) npt net) (o := .ins CT dt []))
            refine ⟨pt, dt, .ref e0, .bl false, true, true, rfl, upd_same, rows_ans T.two.c (T.tl.e _) (Nat.zero_le _) (fun x hx => (List.not_mem_nil hx).elim), .inl ⟨_, rfl, rfl⟩, fun _ _ G7 tt kt hpt => ⟨rfl, (by show 12 ≤ sizeLine; decide), fun l nl => ?_⟩, fun e => (nomatch e), fun _ e => (nomatch e)⟩
            have m2 := made_same npt ndt kt
            have bb6 := (b6.same u1).same u2
            have bb7 := bb6.same m2
            have lb := bb7.fresh nl
            have u3 := Same.new nl (o := .lst [.bl true, .bl false, .bl true, .bl false, .int 0, .int 1, .non, .str "", .str "sorts", .ref q1, .ref q2, .ref pt])
            have x1 := b6.fresh n1
            have x2 := (b6.same u1).fresh n2
            have xt := bb6.fresh npt
            refine ⟨b, gr, l, _, rfl, bb7.same u3, lb.1, lb.2, .inl upd_same, (by show 0 < 12; decide), (by show 12 ≤ 1000; decide), fun sv G8 hsv b8 k8 => ?_⟩
            have k68 := (K2.of_same (((u1.trans u2).trans m2).trans u3)).trans k8
            have k48 := k46.trans k68
            have R8 := R3.k2 k48
            have shv8 := shv.k2 k68
            have srt : ∃ sb, SrtV K G8 sv sb := by
              simp only [List.mem_cons, List.not_mem_nil, or_false] at hsv
              rcases hsv with rfl | rfl | rfl | rfl | rfl | rfl | rfl | rfl | rfl | rfl | rfl | rfl
              · exact ⟨_, .inl ⟨_, rfl, rfl⟩⟩
              · exact ⟨_, .inl ⟨_, rfl, rfl⟩⟩
              · exact ⟨_, .inl ⟨_, rfl, rfl⟩⟩
              · exact ⟨_, .inl ⟨_, rfl, rfl⟩⟩
              · exact ⟨_, .inr ⟨rfl, _, .base (.int _), kit_ty (by decide +kernel)⟩⟩
              · exact ⟨_, .inr ⟨rfl, _, .base (.int _), kit_ty (by decide +kernel)⟩⟩
              · exact ⟨_, .inr ⟨rfl, _, .base .non, kit_ty (by decide +kernel)⟩⟩
              · exact ⟨_, .inr ⟨rfl, _, .base (.str _), kit_ty (by decide +kernel)⟩⟩
              · exact ⟨_, .inr ⟨rfl, _, .base (.str _), kit_ty (by decide +kernel)⟩⟩
              · exact ⟨_, .inr ⟨rfl, _, .base (.tup (k8 _ _ x1.1 x1.2 (u3 _ _ (m2 _ _ (u2 _ _ upd_same))))), kit_ty (by decide +kernel)⟩⟩
              · exact ⟨_, .inr ⟨rfl, _, .base (.lst (k8 _ _ x2.1 x2.2 (u3 _ _ (m2 _ _ upd_same)))), kit_ty (by decide +kernel)⟩⟩
              · exact ⟨_, .inr ⟨rfl, _, T.two.t.at (k8 _ _ xt.1 xt.2 (u3 _ _ hpt)), kit_type (by decide +kernel) T.two.t.nb⟩⟩
            obtain ⟨sb, srt⟩ := srt
            -- the five
            refine ⟨_, rfl, _, rfl, rw, rs, rfl, .inl R8.l, fun t1 G9 z9 ht1 => ⟨_, rfl, _, rfl, at', rfl, rw, rs, rfl, SqL.of (z9 _ _ R8.l), fun A1 nA => ⟨_, rfl, (by show 1 ≤ sizeLine; decide), fun B1 nB => ⟨A1, B1, _, _, rfl, rfl, Same.new nB _ _ upd_same, upd_same, ?_, fun C1 nC => ?_⟩⟩⟩⟩
            · have c1 := cutV_length rs none (some at')
              exact fits (by show _ + 1 ≤ 1000; omega)
            have w3 := ((Same.new nA (o := .lst (cutV rs none (some at')))).trans (Same.new nB (o := .lst [v]))).trans (Same.new nC (o := .lst (cutV rs none (some at') ++ [v])))
            have c1 := cutV_length rs none (some at')
            have c2 := cutV_length rs (some at') none
            have c12 : (cutV rs none (some at')).length + (cutV rs (some at') none).length ≤ rs.length := by
              obtain ⟨n, rfl⟩ := Int.eq_ofNat_of_zero_le a0
              unfold cutV
              rw [HT.sIx_none, HT.sIx_nat, HT.sIx_none, HT.sIx_nat, List.length_take, List.length_drop, List.length_take, List.length_drop]
              omega
            refine ⟨_, rfl, _, rfl, at', rfl, rw, rs, rfl, SqL.of (w3 _ _ (z9 _ _ R8.l)), fun E1 nE => ⟨C1, E1, _, _, rfl, rfl, Same.new nE _ _ upd_same, upd_same, fits (by rw [List.length_append]; show _ + 1 + _ ≤ 1000; omega), fun W nW => ⟨_, rfl, _, rfl, (by show 1 ≤ sizeLine; decide), fun q nq => ⟨(by show 5 ≤ sizeLine; decide), fun T1 nT => ?_⟩⟩⟩⟩
            have w5 := (Same.new nE (o := .lst (cutV rs (some at') none))).trans (Same.new nW (o := .lst ((cutV rs none (some at') ++ [v]) ++ cutV rs (some at') none)))
            have w6 := Same.new nq (o := .tup [v])
            have w7 := Same.new nT (o := .tup [.ref rw, .ref t1, .ref W, v, .ref q])
            have f3 := w6.trans w7
            have f2 := w3.trans (w5.trans f3)
            have f1 := z9.trans f2
            have b9 := b8.same z9
            have bC := b9.same w3
            have bE := bC.same (Same.new nE (o := .lst (cutV rs (some at') none)))
            have xW := bE.fresh nW
            have bW := bC.same w5
            have xq := bW.fresh nq
            have R9 := R8.k2 (K2.of_same f1)
            have sh9 := shv8.k2 (K2.of_same f1)
            have xt1 := b9.tup_ne ht1
            have sh : ∀ (n : Nat) (x : V), ([V.ref rw, .ref t1, .ref W, v, .ref q] : List V)[n]? = some x → Shp C CT b gr _ x := fun n x hx => by
              match n, hx with
              | 0, hx => cases hx; exact .inr ⟨rw, rfl, R9.nb, R9.ng, .inr (.inr ⟨rs, .inl R9.l, by omega, R9.itm⟩)⟩
              | 1, hx => cases hx; exact .inr ⟨t1, rfl, xt1.1, xt1.2, .inr (.inr ⟨rs, .inr (f2 _ _ ht1), by omega, R9.itm⟩)⟩
              | 2, hx =>
                cases hx
                refine .inr ⟨W, rfl, xW.1, xW.2, .inr (.inr ⟨_, .inl (f3 _ _ upd_same), by rw [List.length_append, List.length_append]; show _ + 1 + _ ≤ 1000; omega, fun y h => ?_⟩)⟩
                rcases List.mem_append.mp h with h | h
                · rcases List.mem_append.mp h with h | h
                  · exact R9.itm y (mem_cut h)
                  · rw [List.mem_singleton] at h
                    rw [h]
                    exact sh9.itm
                · exact R9.itm y (mem_cut h)
              | 3, hx => cases hx; exact sh9
              | 4, hx =>
                cases hx
                refine .inr ⟨q, rfl, xq.1, xq.2, .inr (.inr ⟨_, .inr (w7 _ _ upd_same), (by show 1 ≤ 1000; decide), fun y h => ?_⟩)⟩
                rw [List.mem_singleton] at h
                rw [h]
                exact sh9.itm
              | n + 5, hx => cases hx
            have hT1 := upd_same (H := upd (upd (upd (upd (upd (upd G9 A1 (.lst (cutV rs none (some at')))) B1 (.lst [v])) C1 (.lst (cutV rs none (some at') ++ [v]))) E1 (.lst (cutV rs (some at') none))) W (.lst ((cutV rs none (some at') ++ [v]) ++ cutV rs (some at') none))) q (.tup [v])) (a := T1) (o := .tup [.ref rw, .ref t1, .ref W, v, .ref q])
            have srt9 := srt.same f1
            have b9' := b8.same f1
            have k49 := k48.trans (K2.of_same f1)
            revert sh hT1 srt9 b9' k49
            generalize upd (upd (upd (upd (upd (upd (upd G9 A1 (.lst (cutV rs none (some at')))) B1 (.lst [v])) C1 (.lst (cutV rs none (some at') ++ [v]))) E1 (.lst (cutV rs (some at') none))) W (.lst ((cutV rs none (some at') ++ [v]) ++ cutV rs (some at') none))) q (.tup [v])) T1 (.tup [.ref rw, .ref t1, .ref W, v, .ref q]) = GF
            intro sh hT1 srt9 b9' k49
            refine ⟨T1, rfl, ⟨_, SqT.of hT1⟩, for_tup (xs := [.ref rw, .ref t1, .ref W, v, .ref q]) (fun n σ G => ∃ x9 x10 x11 x12 : Option V, σ = [some (.ref a), some (.int (0 + (i : Int))), some (.ref b), some (.ref rw), some (.ref od), some (.int (0 + (j : Int))), some (.int at'), some v, some sv, x9, x10, x11, x12] ∧ Same GF G) ⟨_, _, _, _, rfl, Same.refl _⟩ (fun n σ G _ z => SqT.of (by obtain ⟨_, _, _, _, _, z⟩ := z; exact z _ _ hT1)) ?_ ?_⟩
            · rintro n x σ G hx ⟨x9, x10, x11, x12, rfl, z⟩
              obtain ⟨r, aR⟩ := (sh n x hx).ans T.two
              refine ⟨fun σ' G' => ∃ (x11 x12 : Option V), σ' = [some (.ref a), some (.int (0 + (i : Int))), some (.ref b), some (.ref rw), some (.ref od), some (.int (0 + (j : Int))), some (.int at'), some v, some sv, some x, some (.str (if sb then "made" else "sorts")), x11, x12] ∧ Same GF G', ?_, ?_⟩
              · obtain ⟨t, ty, et⟩ := (srt9.isT).same z
                refine ⟨_, rfl, _, _, t, _, sb, rfl, .ty _, ty, et, _, rfl, ?_⟩
                cases sb with
                | true => exact iteY rfl ⟨_, _, rfl, z⟩
                | false => exact iteN rfl ⟨_, _, rfl, z⟩
              · rintro σ' G10 ⟨x11, x12, rfl, z10⟩
                refine ⟨fun σ' G' => ∃ (x11 x12 : Option V), σ' = [some (.ref a), some (.int (0 + (i : Int))), some (.ref b), some (.ref rw), some (.ref od), some (.int (0 + (j : Int))), some (.int at'), some v, some sv, some x, some (.str (partS r sb)), x11, x12] ∧ Same GF G', ?_, ?_⟩
                · refine ⟨_, rfl, x, r, rfl, aR.same z10, fun G11 z11 => ⟨_, rfl, ?_⟩⟩
                  cases r with
                  | true => exact iteY rfl ⟨_, rfl, _, _, rfl, z10.trans z11⟩
                  | false => exact iteN rfl ⟨_, _, rfl, z10.trans z11⟩
                · rintro σ' G12 ⟨x11, x12, rfl, z12⟩
                  refine ⟨_, rfl, _, rfl, x, sv, r, sb, rfl, aR.same z12, srt9.same z12, fun G13 z13 => ⟨_, rfl, rfl, _, rfl, iteN (by simp) ?_⟩⟩
                  exact ⟨_, _, _, _, rfl, z12.trans z13⟩
            · rintro σ G ⟨x9, x10, x11, x12, rfl, z⟩
              exact ⟨_, _, _, _, _, _, _, _, rfl, k49.trans (K2.of_same z), b9'.same z⟩
          · rintro σ G4 ⟨x5, x6, x7, x8, x9, x10, x11, x12, rfl, k4, b4⟩
            exact ⟨_, _, _, _, _, _, _, _, _, _, _, _, rfl, sG.trans (same_k2 s3 k4 nb ng)⟩
    · rintro σ G ⟨x1, x2, x3, x4, x5, x6, x7, x8, x9, x10, x11, x12, rfl, sG⟩
      have r1' : decide (V.str (partS false false) = V.str "rows") = true := by decide +kernel
      have r2' : decide (V.str (partS true false) = V.str "sorts") = true := by decide +kernel
      have r3' : decide (V.str (partS true true) = V.str "made") = true := by decide +kernel
      have none_ : ∀ {G : Hp}, AnsR K C G .non false := .inl ⟨Cst.noSeq (.inl rfl), rfl⟩
      refine ⟨.non, .non, false, false, rfl, none_, .inr ⟨rfl, _, .base .non, kit_ty (by decide +kernel)⟩, fun H1 z1 => ⟨rfl, _, rfl, iteY r1' ?_⟩⟩
      refine ⟨(by show 0 ≤ sizeLine; exact Nat.zero_le _), fun q nq => ⟨.ref q, .int 0, true, false, rfl, rows_ans T.two.c (.inl upd_same) (Nat.zero_le _) (fun x hx => (List.not_mem_nil hx).elim), .inr ⟨rfl, _, .base (.int _), kit_ty (by decide +kernel)⟩, fun H2 z2 => ⟨rfl, _, rfl, iteY r2' ?_⟩⟩⟩
      refine ⟨(by show 0 ≤ sizeLine; exact Nat.zero_le _), fun q2 nq2 => ⟨.ref q2, .bl true, true, true, rfl, rows_ans T.two.c (SqG.of (.inr upd_same)) (Nat.zero_le _) (fun x hx => (List.not_mem_nil hx).elim), .inl ⟨_, rfl, rfl⟩, fun H3 z3 => ⟨rfl, ?_⟩⟩⟩
      rw [r3']
      exact k _
end
end Lay
set_option Elab.async false
set_option linter.all false
set_option maxRecDepth 100000
set_option maxHeartbeats 8000000
namespace Lay
open PySem L2
theorem refs_ok (L : Addr) : PySem.HandSPX.refsVE [.ref L, .type "ValueError", .type "Exception", .type "BaseException", .type "object"] = true := by
  show PySem.HandSPX.refsVE [.type "ValueError", .type "Exception", .type "BaseException", .type "object"] = true
  decide +kernel
theorem binds_row {K : PySem.W.Frag} {f e1 e2 : Addr} {fd : FuncData} (F : FunD K "__init__" "Row.__init__" (defArgs sRowI) (defBody sRowI) (defScope sRowI) [.ref e1, .ref e2] [] f fd) : Binds K fd ["self", "tests", "deeds"] [] := by
  obtain ⟨ds, h1, h2⟩ := F.binds1 (ps := ["self", "tests", "deeds"]) 3 2 (fun z => nomatch z) rfl fun T kV doc pm an cdv ct us its h1 h2 => match us, its, h1, h2 with
    | [_, _, _], [_, _], _, _ => ⟨_, rfl, rfl⟩
  cases h1
  exact h2
theorem binds_tool {K : PySem.W.Frag} {f e1 : Addr} {fd : FuncData} (F : FunD K "__init__" "Tool.__init__" (defArgs sToolI) (defBody sToolI) (defScope sToolI) [.ref e1, .bl false] [] f fd) : Binds K fd ["self", "rows", "sorts"] [] := by
  obtain ⟨ds, h1, h2⟩ := F.binds1 (ps := ["self", "rows", "sorts"]) 3 2 (fun z => nomatch z) rfl fun T kV doc pm an cdv ct us its h1 h2 => match us, its, h1, h2 with
    | [_, _, _], [_, _], _, _ => ⟨_, rfl, rfl⟩
  cases h1
  exact h2
theorem binds_tool1 {K : PySem.W.Frag} {f e1 : Addr} {fd : FuncData} (F : FunD K "__init__" "Tool.__init__" (defArgs sToolI) (defBody sToolI) (defScope sToolI) [.ref e1, .bl false] [] f fd) : ∃ ds, Vals [V.bl false] ds ∧ Binds K fd ["self", "rows", "sorts"] ds :=
  F.binds1 (ps := ["self", "rows", "sorts"]) 2 1 (fun z => nomatch z) rfl fun T kV doc pm an cdv ct us its h1 h2 => match us, its, h1, h2 with
    | [_, _], [_, _], _, _ => ⟨_, rfl, rfl⟩
theorem binds_tool0 {K : PySem.W.Frag} {f e1 : Addr} {fd : FuncData} (F : FunD K "__init__" "Tool.__init__" (defArgs sToolI) (defBody sToolI) (defScope sToolI) [.ref e1, .bl false] [] f fd) : ∃ ds, Vals [V.ref e1, V.bl false] ds ∧ Binds K fd ["self", "rows", "sorts"] ds :=
  F.binds1 (ps := ["self", "rows", "sorts"]) 1 0 (fun z => nomatch z) rfl fun T kV doc pm an cdv ct us its h1 h2 => match us, its, h1, h2 with
    | [_], [_, _], _, _ => ⟨_, rfl, rfl⟩

theorem all_mk {l : PySem.W.OpenLaw} {w : World} {K : PySem.W.Frag} {h : Heap} {mg : Str → Option Value} {fa L DT DI fI C fR TC CT fT TCT tT tD g_seq g_test g_deed g_areT g_areD g_areR g_feed g_take g_pick g_mixed g_tests g_deeds g_usual g_tool g_part g_rows g_law : Addr} (X : K.In h) (G : h.Ns mainGlobals mg) (hfa : mg "law" = some (.ref fa))
    {nm qn : Str} {N0 : Addr} {bs : List Value} {sn : List Str} {sub0 : List Value} {ab : Bool} {col : Option Bool} {dd : Option Addr} {m0 m1 m2 m3 m5 : Option Value}
    {od_I an_I : Option Addr} {sl_I : Array (Option Value)} {oc_I kV_I dc_I pm_I cd_I ct_I : Value}
    {od_C an_C : Option Addr} {sl_C : Array (Option Value)} {oc_C kV_C dc_C pm_C cd_C ct_C : Value}
    {od_CT an_CT : Option Addr} {sl_CT : Array (Option Value)} {oc_CT kV_CT dc_CT pm_CT cd_CT ct_CT : Value}
    {ocP ocQ : Value} {odP odQ odE : Option Addr} {nP nQ nE : Nat} {slP slQ slE : Array (Option Value)} {eP eQ eR : Addr}
    {od_tT : Option Addr} {n_tT tT0 tT1 tT2 tT3 tT4 tT5 tT6 tT7 tT8 tT9 : Nat} {sl_tT : Array (Option Value)}
    {od_tD : Option Addr} {n_tD tD0 tD1 tD2 tD3 tD4 tD5 tD6 tD7 : Nat} {sl_tD : Array (Option Value)}
    {od_seq an_seq : Option Addr} {sl_seq : Array (Option Value)} {oc_seq kV_seq dc_seq pm_seq cd_seq ct_seq : Value}
    {od_test an_test : Option Addr} {sl_test : Array (Option Value)} {oc_test kV_test dc_test pm_test cd_test ct_test : Value}
    {od_deed an_deed : Option Addr} {sl_deed : Array (Option Value)} {oc_deed kV_deed dc_deed pm_deed cd_deed ct_deed : Value}
    {od_areT an_areT : Option Addr} {sl_areT : Array (Option Value)} {oc_areT kV_areT dc_areT pm_areT cd_areT ct_areT : Value}
    {od_areD an_areD : Option Addr} {sl_areD : Array (Option Value)} {oc_areD kV_areD dc_areD pm_areD cd_areD ct_areD : Value}
    {od_areR an_areR : Option Addr} {sl_areR : Array (Option Value)} {oc_areR kV_areR dc_areR pm_areR cd_areR ct_areR : Value}
    {od_feed an_feed : Option Addr} {sl_feed : Array (Option Value)} {oc_feed kV_feed dc_feed pm_feed cd_feed ct_feed : Value}
    {od_take an_take : Option Addr} {sl_take : Array (Option Value)} {oc_take kV_take dc_take pm_take cd_take ct_take : Value}
    {od_pick an_pick : Option Addr} {sl_pick : Array (Option Value)} {oc_pick kV_pick dc_pick pm_pick cd_pick ct_pick : Value}
    {od_mixed an_mixed : Option Addr} {sl_mixed : Array (Option Value)} {oc_mixed kV_mixed dc_mixed pm_mixed cd_mixed ct_mixed : Value}
    {od_tests an_tests : Option Addr} {sl_tests : Array (Option Value)} {oc_tests kV_tests dc_tests pm_tests cd_tests ct_tests : Value}
    {od_deeds an_deeds : Option Addr} {sl_deeds : Array (Option Value)} {oc_deeds kV_deeds dc_deeds pm_deeds cd_deeds ct_deeds : Value}
    {od_usual an_usual : Option Addr} {sl_usual : Array (Option Value)} {oc_usual kV_usual dc_usual pm_usual cd_usual ct_usual : Value}
    {od_tool an_tool : Option Addr} {sl_tool : Array (Option Value)} {oc_tool kV_tool dc_tool pm_tool cd_tool ct_tool : Value}
    {od_part an_part : Option Addr} {sl_part : Array (Option Value)} {oc_part kV_part dc_part pm_part cd_part ct_part : Value}
    {od_rows an_rows : Option Addr} {sl_rows : Array (Option Value)} {oc_rows kV_rows dc_rows pm_rows cd_rows ct_rows : Value}
    {od_law an_law : Option Addr} {sl_law : Array (Option Value)} {oc_law kV_law dc_law pm_law cd_law ct_law : Value}
    (aL : PySem.W.nsIn K mainGlobals "LayError" = some (some (.ref L)))
    (tL : PySem.W.typeIn K (.ref L) = some (.type "type"))
    (hL : PySem.W.hasDictIn K L = true)
    (aDT : PySem.W.nsIn K mainGlobals "InvalidTool" = some (some (.ref DT)))
    (tDT : PySem.W.typeIn K (.ref DT) = some (.type "type"))
    (hDT : PySem.W.hasDictIn K DT = true)
    (aDI : PySem.W.nsIn K mainGlobals "InvalidRow" = some (some (.ref DI)))
    (tyI : PySem.W.typeIn K (.ref DI) = some (.type "type"))
    (kDI : PySem.W.keepIn K (.ref DI) = true)
    (exI : PySem.W.subIn K (.ref DI) (.type "BaseException") = some true)
    (sLI : PySem.W.subIn K (.ref DI) (.ref L) = some true)
    (sPI : PySem.W.subIn K (.ref DI) (.ref DT) = some false)
    (sSI : PySem.W.subIn K (.ref DI) (.ref DI) = some true)
    (gaI : PySem.W.findIn K (.ref DI) "__getattribute__" = some (some (.builtin "BaseException.__getattribute__")))
    (ggI : PySem.W.findIn K (.ref DI) "__getattr__" = some none)
    (hdI : PySem.W.hasDictIn K DI = true)
    (caI : PySem.W.findIn K (.ref DI) "__class__" = some (some (.builtin "object.__class__")))
    (moI : PySem.W.mroIn K DI (.type "object") = some true)
    (xLI : K.lookup DI = some (excClassObj nm qn DI N0 bs [.ref L, .type "ValueError", .type "Exception", .type "BaseException", .type "object"] true sn sub0 ab col dd m0 m1 m2 m3 m5 "ValueError.__new__"))
    (saI : PySem.W.findIn K (.ref DI) "__setattr__" = some (some (.builtin "object.__setattr__")))
    (iniI : PySem.W.findIn K (.ref DI) "__init__" = some (some (.ref fI)))
    (tiI : PySem.W.typeIn K (.ref fI) = some (.type "function"))
    (noI : PySem.W.findIn K (.ref DI) "part" = some none)
    (l_I : K.lookup fI = some ⟨oc_I, od_I, .func (PySem.W.fnOf "__init__" "InvalidRow.__init__" (defArgs sIR) (defBody sIR) (defScope sIR) .none kV_I dc_I pm_I an_I cd_I ct_I), sl_I⟩)
    (c_I : PySem.W.codeIn K cd_I "InvalidRow.__init__" = true)
    (k_I : PySem.W.keepIn K (.ref fI) = true)
    (hn : PySem.W.specialIn K (.builtin "object.__class__") "__get__" = some (some (.builtin "getset_descriptor.__get__")))
    (ht : PySem.W.takesIn K (.builtin "object.__class__") = some true)
    (aC : PySem.W.nsIn K mainGlobals "Row" = some (some (.ref C)))
    (pgC : PySem.W.plainGet K C Str.empty = true)
    (hdC : PySem.W.hasDictIn K C = true)
    (poC : PySem.W.plainOver K C = true)
    (saC : PySem.W.findIn K (.ref C) "__setattr__" = some (some (.builtin "object.__setattr__")))
    (caC : PySem.W.findIn K (.ref C) "__class__" = some (some (.builtin "object.__class__")))
    (moC : PySem.W.mroIn K C (.type "object") = some true)
    (nlC : PySem.W.subIn K (.ref C) (.type "list") = some false)
    (ntC : PySem.W.subIn K (.ref C) (.type "tuple") = some false)
    (nbC : PySem.W.subIn K (.ref C) (.type "bool") = some false)
    (tyC : PySem.W.typeIn K (.ref C) = some (.type "type"))
    (noC_tests : PySem.W.findIn K (.ref C) "tests" = some none)
    (noC_deeds : PySem.W.findIn K (.ref C) "deeds" = some none)
    (mkC : PySem.W.makesIn K C = true)
    (inC : PySem.W.findIn K (.ref C) "__init__" = some (some (.ref fR)))
    (fnC : PySem.W.isFn K (.ref fR) = true)
    (kpC : PySem.W.keepIn K (.ref C) = true)
    (l_C : K.lookup fR = some ⟨oc_C, od_C, .func (PySem.W.fnOf "__init__" "Row.__init__" (defArgs sRowI) (defBody sRowI) (defScope sRowI) (.ref TC) kV_C dc_C pm_C an_C cd_C ct_C), sl_C⟩)
    (c_C : PySem.W.codeIn K cd_C "Row.__init__" = true)
    (k_C : PySem.W.keepIn K (.ref fR) = true)
    (aCT : PySem.W.nsIn K mainGlobals "Tool" = some (some (.ref CT)))
    (pgCT : PySem.W.plainGet K CT Str.empty = true)
    (hdCT : PySem.W.hasDictIn K CT = true)
    (poCT : PySem.W.plainOver K CT = true)
    (saCT : PySem.W.findIn K (.ref CT) "__setattr__" = some (some (.builtin "object.__setattr__")))
    (caCT : PySem.W.findIn K (.ref CT) "__class__" = some (some (.builtin "object.__class__")))
    (moCT : PySem.W.mroIn K CT (.type "object") = some true)
    (nlCT : PySem.W.subIn K (.ref CT) (.type "list") = some false)
    (ntCT : PySem.W.subIn K (.ref CT) (.type "tuple") = some false)
    (nbCT : PySem.W.subIn K (.ref CT) (.type "bool") = some false)
    (tyCT : PySem.W.typeIn K (.ref CT) = some (.type "type"))
    (noCT_rows : PySem.W.findIn K (.ref CT) "rows" = some none)
    (noCT_sorts : PySem.W.findIn K (.ref CT) "sorts" = some none)
    (mkCT : PySem.W.makesIn K CT = true)
    (inCT : PySem.W.findIn K (.ref CT) "__init__" = some (some (.ref fT)))
    (fnCT : PySem.W.isFn K (.ref fT) = true)
    (kpCT : PySem.W.keepIn K (.ref CT) = true)
    (l_CT : K.lookup fT = some ⟨oc_CT, od_CT, .func (PySem.W.fnOf "__init__" "Tool.__init__" (defArgs sToolI) (defBody sToolI) (defScope sToolI) (.ref TCT) kV_CT dc_CT pm_CT an_CT cd_CT ct_CT), sl_CT⟩)
    (c_CT : PySem.W.codeIn K cd_CT "Tool.__init__" = true)
    (k_CT : PySem.W.keepIn K (.ref fT) = true)
    (lQ : K.lookup TCT = some ⟨ocQ, odQ, .seq [.ref eR, .bool false].toArray nQ, slQ⟩)
    (lE : K.lookup eR = some ⟨.type "tuple", odE, .seq [].toArray nE, slE⟩)
    (scc : PySem.W.subIn K (.ref C) (.ref C) = some true)
    (stc : PySem.W.subIn K (.ref CT) (.ref C) = some false)
    (lP : K.lookup TC = some ⟨ocP, odP, .seq [.ref eP, .ref eQ].toArray nP, slP⟩)
    (a_tT : PySem.W.nsIn K mainGlobals "TESTS" = some (some (.ref tT)))
    (l_tT : K.lookup tT = some ⟨.type "tuple", od_tT, .seq [.str "broken" tT0, .str "marked" tT1, .str "left" tT2, .str "ahead" tT3, .str "behind" tT4, .str "blank" tT5, .str "long" tT6, .str "first" tT7, .str "afterbroken" tT8, .str "afterbehind" tT9].toArray n_tT, sl_tT⟩)
    (a_tD : PySem.W.nsIn K mainGlobals "DEEDS" = some (some (.ref tD)))
    (l_tD : K.lookup tD = some ⟨.type "tuple", od_tD, .seq [.str "break" tD0, .str "join" tD1, .str "mark" tD2, .str "unmark" tD3, .str "lift" tD4, .str "lower" tD5, .str "space" tD6, .str "close" tD7].toArray n_tD, sl_tD⟩)
    (a_seq : PySem.W.nsIn K mainGlobals "is_sequence" = some (some (.ref g_seq)))
    (l_seq : K.lookup g_seq = some ⟨oc_seq, od_seq, .func (PySem.W.fnOf "is_sequence" "is_sequence" (defArgs sSeq) (defBody sSeq) (defScope sSeq) .none kV_seq dc_seq pm_seq an_seq cd_seq ct_seq), sl_seq⟩)
    (c_seq : PySem.W.codeIn K cd_seq "is_sequence" = true)
    (k_seq : PySem.W.keepIn K (.ref g_seq) = true)
    (a_test : PySem.W.nsIn K mainGlobals "is_test" = some (some (.ref g_test)))
    (l_test : K.lookup g_test = some ⟨oc_test, od_test, .func (PySem.W.fnOf "is_test" "is_test" (defArgs sTest) (defBody sTest) (defScope sTest) .none kV_test dc_test pm_test an_test cd_test ct_test), sl_test⟩)
    (c_test : PySem.W.codeIn K cd_test "is_test" = true)
    (k_test : PySem.W.keepIn K (.ref g_test) = true)
    (a_deed : PySem.W.nsIn K mainGlobals "is_deed" = some (some (.ref g_deed)))
    (l_deed : K.lookup g_deed = some ⟨oc_deed, od_deed, .func (PySem.W.fnOf "is_deed" "is_deed" (defArgs sDeed) (defBody sDeed) (defScope sDeed) .none kV_deed dc_deed pm_deed an_deed cd_deed ct_deed), sl_deed⟩)
    (c_deed : PySem.W.codeIn K cd_deed "is_deed" = true)
    (k_deed : PySem.W.keepIn K (.ref g_deed) = true)
    (a_areT : PySem.W.nsIn K mainGlobals "are_tests" = some (some (.ref g_areT)))
    (l_areT : K.lookup g_areT = some ⟨oc_areT, od_areT, .func (PySem.W.fnOf "are_tests" "are_tests" (defArgs sAreT) (defBody sAreT) (defScope sAreT) .none kV_areT dc_areT pm_areT an_areT cd_areT ct_areT), sl_areT⟩)
    (c_areT : PySem.W.codeIn K cd_areT "are_tests" = true)
    (k_areT : PySem.W.keepIn K (.ref g_areT) = true)
    (a_areD : PySem.W.nsIn K mainGlobals "are_deeds" = some (some (.ref g_areD)))
    (l_areD : K.lookup g_areD = some ⟨oc_areD, od_areD, .func (PySem.W.fnOf "are_deeds" "are_deeds" (defArgs sAreD) (defBody sAreD) (defScope sAreD) .none kV_areD dc_areD pm_areD an_areD cd_areD ct_areD), sl_areD⟩)
    (c_areD : PySem.W.codeIn K cd_areD "are_deeds" = true)
    (k_areD : PySem.W.keepIn K (.ref g_areD) = true)
    (a_areR : PySem.W.nsIn K mainGlobals "are_rows" = some (some (.ref g_areR)))
    (l_areR : K.lookup g_areR = some ⟨oc_areR, od_areR, .func (PySem.W.fnOf "are_rows" "are_rows" (defArgs sAreR) (defBody sAreR) (defScope sAreR) .none kV_areR dc_areR pm_areR an_areR cd_areR ct_areR), sl_areR⟩)
    (c_areR : PySem.W.codeIn K cd_areR "are_rows" = true)
    (k_areR : PySem.W.keepIn K (.ref g_areR) = true)
    (a_feed : PySem.W.nsIn K mainGlobals "_law_feed" = some (some (.ref g_feed)))
    (l_feed : K.lookup g_feed = some ⟨oc_feed, od_feed, .func (PySem.W.fnOf "_law_feed" "_law_feed" (defArgs sFeed) (defBody sFeed) (defScope sFeed) .none kV_feed dc_feed pm_feed an_feed cd_feed ct_feed), sl_feed⟩)
    (c_feed : PySem.W.codeIn K cd_feed "_law_feed" = true)
    (k_feed : PySem.W.keepIn K (.ref g_feed) = true)
    (a_take : PySem.W.nsIn K mainGlobals "_law_take" = some (some (.ref g_take)))
    (l_take : K.lookup g_take = some ⟨oc_take, od_take, .func (PySem.W.fnOf "_law_take" "_law_take" (defArgs sTake) (defBody sTake) (defScope sTake) .none kV_take dc_take pm_take an_take cd_take ct_take), sl_take⟩)
    (c_take : PySem.W.codeIn K cd_take "_law_take" = true)
    (k_take : PySem.W.keepIn K (.ref g_take) = true)
    (a_pick : PySem.W.nsIn K mainGlobals "_law_pick" = some (some (.ref g_pick)))
    (l_pick : K.lookup g_pick = some ⟨oc_pick, od_pick, .func (PySem.W.fnOf "_law_pick" "_law_pick" (defArgs sPick) (defBody sPick) (defScope sPick) .none kV_pick dc_pick pm_pick an_pick cd_pick ct_pick), sl_pick⟩)
    (c_pick : PySem.W.codeIn K cd_pick "_law_pick" = true)
    (k_pick : PySem.W.keepIn K (.ref g_pick) = true)
    (a_mixed : PySem.W.nsIn K mainGlobals "_law_mixed" = some (some (.ref g_mixed)))
    (l_mixed : K.lookup g_mixed = some ⟨oc_mixed, od_mixed, .func (PySem.W.fnOf "_law_mixed" "_law_mixed" (defArgs sMixed) (defBody sMixed) (defScope sMixed) .none kV_mixed dc_mixed pm_mixed an_mixed cd_mixed ct_mixed), sl_mixed⟩)
    (c_mixed : PySem.W.codeIn K cd_mixed "_law_mixed" = true)
    (k_mixed : PySem.W.keepIn K (.ref g_mixed) = true)
    (a_tests : PySem.W.nsIn K mainGlobals "_law_tests" = some (some (.ref g_tests)))
    (l_tests : K.lookup g_tests = some ⟨oc_tests, od_tests, .func (PySem.W.fnOf "_law_tests" "_law_tests" (defArgs sTests) (defBody sTests) (defScope sTests) .none kV_tests dc_tests pm_tests an_tests cd_tests ct_tests), sl_tests⟩)
    (c_tests : PySem.W.codeIn K cd_tests "_law_tests" = true)
    (k_tests : PySem.W.keepIn K (.ref g_tests) = true)
    (a_deeds : PySem.W.nsIn K mainGlobals "_law_deeds" = some (some (.ref g_deeds)))
    (l_deeds : K.lookup g_deeds = some ⟨oc_deeds, od_deeds, .func (PySem.W.fnOf "_law_deeds" "_law_deeds" (defArgs sDeeds) (defBody sDeeds) (defScope sDeeds) .none kV_deeds dc_deeds pm_deeds an_deeds cd_deeds ct_deeds), sl_deeds⟩)
    (c_deeds : PySem.W.codeIn K cd_deeds "_law_deeds" = true)
    (k_deeds : PySem.W.keepIn K (.ref g_deeds) = true)
    (a_usual : PySem.W.nsIn K mainGlobals "_law_usual" = some (some (.ref g_usual)))
    (l_usual : K.lookup g_usual = some ⟨oc_usual, od_usual, .func (PySem.W.fnOf "_law_usual" "_law_usual" (defArgs sUsual) (defBody sUsual) (defScope sUsual) .none kV_usual dc_usual pm_usual an_usual cd_usual ct_usual), sl_usual⟩)
    (c_usual : PySem.W.codeIn K cd_usual "_law_usual" = true)
    (k_usual : PySem.W.keepIn K (.ref g_usual) = true)
    (a_tool : PySem.W.nsIn K mainGlobals "_law_tool" = some (some (.ref g_tool)))
    (l_tool : K.lookup g_tool = some ⟨oc_tool, od_tool, .func (PySem.W.fnOf "_law_tool" "_law_tool" (defArgs sTool) (defBody sTool) (defScope sTool) .none kV_tool dc_tool pm_tool an_tool cd_tool ct_tool), sl_tool⟩)
    (c_tool : PySem.W.codeIn K cd_tool "_law_tool" = true)
    (k_tool : PySem.W.keepIn K (.ref g_tool) = true)
    (a_part : PySem.W.nsIn K mainGlobals "_law_part" = some (some (.ref g_part)))
    (l_part : K.lookup g_part = some ⟨oc_part, od_part, .func (PySem.W.fnOf "_law_part" "_law_part" (defArgs sPart) (defBody sPart) (defScope sPart) .none kV_part dc_part pm_part an_part cd_part ct_part), sl_part⟩)
    (c_part : PySem.W.codeIn K cd_part "_law_part" = true)
    (k_part : PySem.W.keepIn K (.ref g_part) = true)
    (a_rows : PySem.W.nsIn K mainGlobals "_law_are_rows" = some (some (.ref g_rows)))
    (l_rows : K.lookup g_rows = some ⟨oc_rows, od_rows, .func (PySem.W.fnOf "_law_are_rows" "_law_are_rows" (defArgs sWRows) (defBody sWRows) (defScope sWRows) .none kV_rows dc_rows pm_rows an_rows cd_rows ct_rows), sl_rows⟩)
    (c_rows : PySem.W.codeIn K cd_rows "_law_are_rows" = true)
    (k_rows : PySem.W.keepIn K (.ref g_rows) = true)
    (a_law : PySem.W.nsIn K mainGlobals "law" = some (some (.ref g_law)))
    (l_law : K.lookup g_law = some ⟨oc_law, od_law, .func (PySem.W.fnOf "law" "law" (defArgs sLaw) (defBody sLaw) (defScope sLaw) .none kV_law dc_law pm_law an_law cd_law ct_law), sl_law⟩)
    (c_law : PySem.W.codeIn K cd_law "law" = true)
    (k_law : PySem.W.keepIn K (.ref g_law) = true)
    (z_int : PySem.W.nsIn K mainGlobals "int" = some none)
    (z_str : PySem.W.nsIn K mainGlobals "str" = some none)
    (z_list : PySem.W.nsIn K mainGlobals "list" = some none)
    (z_tuple : PySem.W.nsIn K mainGlobals "tuple" = some none)
    (z_isinstance : PySem.W.nsIn K mainGlobals "isinstance" = some none)
    (z_len : PySem.W.nsIn K mainGlobals "len" = some none)
    (z_all : PySem.W.nsIn K mainGlobals "all" = some none)
    (z_abs : PySem.W.nsIn K mainGlobals "abs" = some none)
    (z_range : PySem.W.nsIn K mainGlobals "range" = some none)
    (z_max : PySem.W.nsIn K mainGlobals "max" = some none)
    (z_min : PySem.W.nsIn K mainGlobals "min" = some none)
    (z_bool : PySem.W.nsIn K mainGlobals "bool" = some none)
    : ∃ fd : FuncData, (∀ (s : Shared) (v : Value), BindsTo s fd ⟨[v], []⟩ [("_law_script", v)]) ∧ ∀ base : Heap, K.In base → base.Ns mainGlobals mg → FnOk l.prog w K mg base CX0 6 fa fd ["_law_script"] (spLaw K) := by
  have e := hfa.symm.trans (PySem.W.mg_of X G a_law)
  cases e
  have M : ∀ {x : Str} {a : Addr}, PySem.W.nsIn K mainGlobals x = some (some (.ref a)) → mg x = some (.ref a) := fun h => PySem.W.mg_of X G h
  have N : ∀ {x : Str}, PySem.W.nsIn K mainGlobals x = some none → mg x = none := fun h => PySem.W.mg_none_of X G h
  have isC : ExcC K DI := ⟨gaI, ggI, exI, hdI, caI, hn, ht, moI⟩
  have XI : XC K mg DI fI "InvalidRow" "part" := ⟨⟨⟨_, _, _, _, _, _, _, _, _, _, _, _, _, _, _, xLI, refs_ok L⟩, saI, exI, tyI, kDI⟩, iniI, tiI, M aDI, noI, isC, ⟨gaI, ggI, exI, hdI⟩⟩
  have F_I := fun_mk (st := sIR) l_I c_I k_I
  have b_I := F_I.binds (ps := ["self", "part"]) fun _ _ _ _ _ _ us hl => match us, hl with | [_, _], _ => rfl
  have FR : FunD K "__init__" "Row.__init__" (defArgs sRowI) (defBody sRowI) (defScope sRowI) [.ref eP, .ref eQ] [] fR _ :=
    ⟨⟨_, _, _, _, _, _, _, _, _, _, rfl, l_C, c_C, .inr ⟨(fun z => nomatch z), TC, _, _, _, rfl, lP, rfl, .cons rfl (.cons rfl .nil)⟩, .inl rfl⟩, k_C⟩
  have FT : FunD K "__init__" "Tool.__init__" (defArgs sToolI) (defBody sToolI) (defScope sToolI) [.ref eR, .bl false] [] fT _ :=
    ⟨⟨_, _, _, _, _, _, _, _, _, _, rfl, l_CT, c_CT, .inr ⟨(fun z => nomatch z), TCT, _, _, _, rfl, lQ, rfl, .cons rfl (.cons rfl .nil)⟩, .inl rfl⟩, k_CT⟩
  have F_seq := fun_mk (st := sSeq) l_seq c_seq k_seq
  have b_seq := F_seq.binds (ps := ["value"]) fun _ _ _ _ _ _ us hl => match us, hl with | [_], _ => rfl
  have F_test := fun_mk (st := sTest) l_test c_test k_test
  have b_test := F_test.binds (ps := ["value"]) fun _ _ _ _ _ _ us hl => match us, hl with | [_], _ => rfl
  have F_deed := fun_mk (st := sDeed) l_deed c_deed k_deed
  have b_deed := F_deed.binds (ps := ["value"]) fun _ _ _ _ _ _ us hl => match us, hl with | [_], _ => rfl
  have F_areT := fun_mk (st := sAreT) l_areT c_areT k_areT
  have b_areT := F_areT.binds (ps := ["value"]) fun _ _ _ _ _ _ us hl => match us, hl with | [_], _ => rfl
  have F_areD := fun_mk (st := sAreD) l_areD c_areD k_areD
  have b_areD := F_areD.binds (ps := ["value"]) fun _ _ _ _ _ _ us hl => match us, hl with | [_], _ => rfl
  have F_areR := fun_mk (st := sAreR) l_areR c_areR k_areR
  have b_areR := F_areR.binds (ps := ["value"]) fun _ _ _ _ _ _ us hl => match us, hl with | [_], _ => rfl
  have F_feed := fun_mk (st := sFeed) l_feed c_feed k_feed
  have b_feed := F_feed.binds (ps := ["_law_script", "_law_base"]) fun _ _ _ _ _ _ us hl => match us, hl with | [_, _], _ => rfl
  have F_take := fun_mk (st := sTake) l_take c_take k_take
  have b_take := F_take.binds (ps := ["_law_box", "_law_wide"]) fun _ _ _ _ _ _ us hl => match us, hl with | [_, _], _ => rfl
  have F_pick := fun_mk (st := sPick) l_pick c_pick k_pick
  have b_pick := F_pick.binds (ps := ["_law_box", "_law_some"]) fun _ _ _ _ _ _ us hl => match us, hl with | [_, _], _ => rfl
  have F_mixed := fun_mk (st := sMixed) l_mixed c_mixed k_mixed
  have b_mixed := F_mixed.binds (ps := ["_law_box", "_law_some"]) fun _ _ _ _ _ _ us hl => match us, hl with | [_, _], _ => rfl
  have F_tests := fun_mk (st := sTests) l_tests c_tests k_tests
  have b_tests := F_tests.binds (ps := ["_law_box", "_law_most"]) fun _ _ _ _ _ _ us hl => match us, hl with | [_, _], _ => rfl
  have F_deeds := fun_mk (st := sDeeds) l_deeds c_deeds k_deeds
  have b_deeds := F_deeds.binds (ps := ["_law_box", "_law_most"]) fun _ _ _ _ _ _ us hl => match us, hl with | [_, _], _ => rfl
  have F_usual := fun_mk (st := sUsual) l_usual c_usual k_usual
  have b_usual := F_usual.binds (ps := ["_law_box"]) fun _ _ _ _ _ _ us hl => match us, hl with | [_], _ => rfl
  have F_tool := fun_mk (st := sTool) l_tool c_tool k_tool
  have b_tool := F_tool.binds (ps := ["_law_box", "_law_most"]) fun _ _ _ _ _ _ us hl => match us, hl with | [_, _], _ => rfl
  have F_part := fun_mk (st := sPart) l_part c_part k_part
  have b_part := F_part.binds (ps := ["_law_rows", "_law_sorts"]) fun _ _ _ _ _ _ us hl => match us, hl with | [_, _], _ => rfl
  have F_rows := fun_mk (st := sWRows) l_rows c_rows k_rows
  have b_rows := F_rows.binds (ps := ["_law_value"]) fun _ _ _ _ _ _ us hl => match us, hl with | [_], _ => rfl
  have F_law := fun_mk (st := sLaw) l_law c_law k_law
  have b_law := F_law.binds (ps := ["_law_script"]) fun _ _ _ _ _ _ us hl => match us, hl with | [_], _ => rfl
  have D : TxtD mg := ⟨N z_int, N z_len, N z_abs, N z_range⟩
  have T : TxtK mg := ⟨N z_str, N z_list, N z_tuple, N z_isinstance, N z_len, N z_all⟩
  have c : ClsI K C := ⟨⟨pgC, hdC, poC, saC⟩, caC, hn, ht, moC, nlC, ntC, nbC, tyC⟩
  have ct : ClsI K CT := ⟨⟨pgCT, hdCT, poCT, saCT⟩, caCT, hn, ht, moCT, nlCT, ntCT, nbCT, tyCT⟩
  have two : Two K C CT := ⟨c, ct, stc, fun z => by
    rw [z, scc] at stc
    cases stc⟩
  have neD : DI ≠ DT := fun z => by
    rw [← z, sSI] at sPI
    cases sPI
  have Kn : Kin K mg DI L DT := ⟨M aL, M aDT, kit_cls hL tL sLI (fun _ => rfl), kit_cls hDT tDT sPI (fun z => absurd (Value.ref.inj z) neD), PySem.W.exm_ref exI hdI tyI sSI⟩
  have mkR : Mk K C fR := ⟨mkC, inC, fnC, kpC⟩
  have bR := binds_row FR
  have mkT : Mk K CT fT := ⟨mkCT, inCT, fnCT, kpCT⟩
  have bT := binds_tool FT
  have bT1 := binds_tool1 FT
  have bT0 := binds_tool0 FT
  have emp : ∀ H : Hp, SqG K H eR [] := fun H => .inr ⟨.inr ⟨_, _, _, lE, rfl, rfl, (by show 0 ≤ sizeLine; exact Nat.zero_le _), .nil⟩, _, .kTuple lE rfl, kitAny_lt (b := false) (c := true) (kit_ty (by decide +kernel)) (kit_ty (by decide +kernel))⟩
  have hTests : ∀ H : Hp, SqT K H tT (testL.map V.str) := fun H => .inr ⟨_, _, _, l_tT, rfl, rfl, (by show 10 ≤ sizeLine; decide), (.cons ⟨_, rfl⟩ (.cons ⟨_, rfl⟩ (.cons ⟨_, rfl⟩ (.cons ⟨_, rfl⟩ (.cons ⟨_, rfl⟩ (.cons ⟨_, rfl⟩ (.cons ⟨_, rfl⟩ (.cons ⟨_, rfl⟩ (.cons ⟨_, rfl⟩ (.cons ⟨_, rfl⟩ .nil))))))))))⟩
  have hDeeds : ∀ H : Hp, SqT K H tD (deedL.map V.str) := fun H => .inr ⟨_, _, _, l_tD, rfl, rfl, (by show 8 ≤ sizeLine; decide), (.cons ⟨_, rfl⟩ (.cons ⟨_, rfl⟩ (.cons ⟨_, rfl⟩ (.cons ⟨_, rfl⟩ (.cons ⟨_, rfl⟩ (.cons ⟨_, rfl⟩ (.cons ⟨_, rfl⟩ (.cons ⟨_, rfl⟩ .nil))))))))⟩
  refine ⟨PySem.W.fnOf "law" "law" (defArgs sLaw) (defBody sLaw) (defScope sLaw) .none kV_law dc_law pm_law an_law cd_law ct_law, fun s v => .of_eq rfl, fun base _ _ => ?_⟩
  have okSeq : FnOk l.prog w K mg base CX0 1 g_seq _ ["value"] (spSeq K) := ok_seq F_seq T
  have okTest : FnOk l.prog w K mg base CX0 1 g_test _ ["value"] (spOne progT K) := ok_test F_test T (M a_tT) hTests
  have okDeed : FnOk l.prog w K mg base CX0 1 g_deed _ ["value"] (spOne progD K) := ok_deed F_deed T (M a_tD) hDeeds
  have okAT := ok_areT F_areT T okSeq (M a_seq) k_seq b_seq okTest (M a_test) k_test b_test
  have okAD := ok_areD F_areD T okSeq (M a_seq) k_seq b_seq okDeed (M a_deed) k_deed b_deed
  have RC : RowC K C := ⟨c.cl, noC_tests, noC_deeds⟩
  have okR := ok_rowI FR T RC okAT (M a_areT) k_areT b_areT okAD (M a_areD) k_areD b_areD XI (ok_iR F_I) b_I
  have RD : RowD l.prog w K mg base C DI fR _ := ⟨mkR, okR, M aC, bR⟩
  have okTake : FnOk l.prog w K mg base CX0 1 g_take _ ["_law_box", "_law_wide"] spTake := ok_take F_take D
  have okPick := ok_pick F_pick D okTake (M a_take) k_take b_take
  have DR : Draws l.prog w K mg base g_take g_pick _ _ := ⟨N z_range, N z_tuple, okTake, M a_take, k_take, b_take, okPick, M a_pick, k_pick, b_pick⟩
  have okAR := ok_areR (C := C) F_areR T okSeq (M a_seq) k_seq b_seq (M aC)
  have TC : ToolC K CT := ⟨ct.cl, noCT_rows, noCT_sorts⟩
  have okT := ok_toolI FT T (N z_bool) TC okAR (M a_areR) k_areR b_areR XI (ok_iR F_I) b_I
  have TD : ToolD l.prog w K mg base C CT DI fT eR _ := ⟨mkT, okT, M aCT, bT1, bT0, emp⟩
  have okPart := ok_part F_part T XI Kn mkT TC okT (M aCT) bT
  have okMixed := ok_mixed F_mixed DR (N z_list) (N z_len)
  have okUsual := ok_usual F_usual DR okMixed (M a_mixed) k_mixed b_mixed
  have okTool := ok_tool F_tool DR (N z_len) okUsual (M a_usual) k_usual b_usual (ok_tests F_tests DR) (M a_tests) k_tests b_tests (ok_deeds F_deeds DR) (M a_deeds) k_deeds b_deeds
  exact ok_law (C := C) (CT := CT) (D := DI) (e0 := eR) (fs := ⟨g_feed, _, g_take, _, g_pick, _, g_tool, _, g_part, _, g_rows, _, fR, _, fT, _⟩) F_law ⟨N z_range, N z_max, N z_min, N z_len, N z_tuple, N z_isinstance, N z_bool, two, RD, TD,
    ok_feed F_feed D, M a_feed, k_feed, b_feed, okTake, M a_take, k_take, b_take, okPick, M a_pick, k_pick, b_pick, okTool, M a_tool, k_tool, b_tool, okPart, M a_part, k_part, b_part, ok_wrows (C := C) F_rows T (M aC), M a_rows, k_rows, b_rows⟩
end Lay
open PySem PySem.W PyProof.Rows
set_option Elab.async false
set_option maxRecDepth 100000 in
set_option maxHeartbeats 0 in
theorem PySem.Challenge.cw_laytwice_k14_tools_refused_holds : PySem.Challenge.rw_laytwice_k14_tools_refused.Holds := by
  w_on; o_law; k_head; (case hw => w_witness2)
  k_fill
  refine L2.walk_of (l := PySem.Challenge.rw_laytwice_k14_tools_refused) (n := 63) (k := 6) (x := "_law_script") (CX := fun _ => L2.CX0) (sp := fun w => Lay.spLaw _) rfl (by decide) rfl ⟨rfl, by decide, by decide⟩ (fun w h Y => PySem.W.kIn_of Y) ?F (fun _ _ a ns hl _ hS => ⟨a, ns, rfl, hS, hl, fun _ => rfl⟩) (fun _ _ _ _ _ z => z.elim)
  case F =>
    intro w mg fa h KX G hmg
    refine' Lay.all_mk KX G hmg ?aL ?tL ?hL ?aDT ?tDT ?hDT ?aDI ?tyI ?kDI ?exI ?sLI ?sPI ?sSI ?gaI ?ggI ?hdI ?caI ?moI ?xLI ?saI ?iniI ?tiI ?noI ?l_I ?c_I ?k_I ?hn ?ht ?aC ?pgC ?hdC ?poC ?saC ?caC ?moC ?nlC ?ntC ?nbC ?tyC ?noC_tests ?noC_deeds ?mkC ?inC ?fnC ?kpC ?l_C ?c_C ?k_C ?aCT ?pgCT ?hdCT ?poCT ?saCT ?caCT ?moCT ?nlCT ?ntCT ?nbCT ?tyCT ?noCT_rows ?noCT_sorts ?mkCT ?inCT ?fnCT ?kpCT ?l_CT ?c_CT ?k_CT ?lQ ?lE ?scc ?stc ?lP ?a_tT ?l_tT ?a_tD ?l_tD ?a_seq ?l_seq ?c_seq ?k_seq ?a_test ?l_test ?c_test ?k_test ?a_deed ?l_deed ?c_deed ?k_deed ?a_areT ?l_areT ?c_areT ?k_areT ?a_areD ?l_areD ?c_areD ?k_areD ?a_areR ?l_areR ?c_areR ?k_areR ?a_feed ?l_feed ?c_feed ?k_feed ?a_take ?l_take ?c_take ?k_take ?a_pick ?l_pick ?c_pick ?k_pick ?a_mixed ?l_mixed ?c_mixed ?k_mixed ?a_tests ?l_tests ?c_tests ?k_tests ?a_deeds ?l_deeds ?c_deeds ?k_deeds ?a_usual ?l_usual ?c_usual ?k_usual ?a_tool ?l_tool ?c_tool ?k_tool ?a_part ?l_part ?c_part ?k_part ?a_rows ?l_rows ?c_rows ?k_rows ?a_law ?l_law ?c_law ?k_law ?z_int ?z_str ?z_list ?z_tuple ?z_isinstance ?z_len ?z_all ?z_abs ?z_range ?z_max ?z_min ?z_bool
    (case aL => k_is)
    (case tL => k_is)
    (case hL => k_is)
    (case aDT => k_is)
    (case tDT => k_is)
    (case hDT => k_is)
    (case aDI => k_is)
    (case tyI => k_is)
    (case kDI => k_is)
    (case exI => k_is)
    (case sLI => k_is)
    (case sPI => k_is)
    (case sSI => k_is)
    (case gaI => k_is)
    (case ggI => k_is)
    (case hdI => k_is)
    (case caI => k_is)
    (case moI => k_is)
    (case xLI => k_is)
    (case saI => k_is)
    (case iniI => k_is)
    (case tiI => k_is)
    (case noI => k_is)
    (case l_I => k_is)
    (case c_I => k_is)
    (case k_I => k_is)
    (case hn => k_is)
    (case ht => k_is)
    (case aC => k_is)
    (case pgC => k_is)
    (case hdC => k_is)
    (case poC => k_is)
    (case saC => k_is)
    (case caC => k_is)
    (case moC => k_is)
    (case nlC => k_is)
    (case ntC => k_is)
    (case nbC => k_is)
    (case tyC => k_is)
    (case noC_tests => k_is)
    (case noC_deeds => k_is)
    (case mkC => k_is)
    (case inC => k_is)
    (case fnC => k_is)
    (case kpC => k_is)
    (case l_C => k_is)
    (case c_C => k_is)
    (case k_C => k_is)
    (case aCT => k_is)
    (case pgCT => k_is)
    (case hdCT => k_is)
    (case poCT => k_is)
    (case saCT => k_is)
    (case caCT => k_is)
    (case moCT => k_is)
    (case nlCT => k_is)
    (case ntCT => k_is)
    (case nbCT => k_is)
    (case tyCT => k_is)
    (case noCT_rows => k_is)
    (case noCT_sorts => k_is)
    (case mkCT => k_is)
    (case inCT => k_is)
    (case fnCT => k_is)
    (case kpCT => k_is)
    (case l_CT => k_is)
    (case c_CT => k_is)
    (case k_CT => k_is)
    (case lQ => k_is)
    (case lE => k_is)
    (case scc => k_is)
    (case stc => k_is)
    (case lP => k_is)
    (case a_tT => k_is)
    (case l_tT => k_is)
    (case a_tD => k_is)
    (case l_tD => k_is)
    (case a_seq => k_is)
    (case l_seq => k_is)
    (case c_seq => k_is)
    (case k_seq => k_is)
    (case a_test => k_is)
    (case l_test => k_is)
    (case c_test => k_is)
    (case k_test => k_is)
    (case a_deed => k_is)
    (case l_deed => k_is)
    (case c_deed => k_is)
    (case k_deed => k_is)
    (case a_areT => k_is)
    (case l_areT => k_is)
    (case c_areT => k_is)
    (case k_areT => k_is)
    (case a_areD => k_is)
    (case l_areD => k_is)
    (case c_areD => k_is)
    (case k_areD => k_is)
    (case a_areR => k_is)
    (case l_areR => k_is)
    (case c_areR => k_is)
    (case k_areR => k_is)
    (case a_feed => k_is)
    (case l_feed => k_is)
    (case c_feed => k_is)
    (case k_feed => k_is)
    (case a_take => k_is)
    (case l_take => k_is)
    (case c_take => k_is)
    (case k_take => k_is)
    (case a_pick => k_is)
    (case l_pick => k_is)
    (case c_pick => k_is)
    (case k_pick => k_is)
    (case a_mixed => k_is)
    (case l_mixed => k_is)
    (case c_mixed => k_is)
    (case k_mixed => k_is)
    (case a_tests => k_is)
    (case l_tests => k_is)
    (case c_tests => k_is)
    (case k_tests => k_is)
    (case a_deeds => k_is)
    (case l_deeds => k_is)
    (case c_deeds => k_is)
    (case k_deeds => k_is)
    (case a_usual => k_is)
    (case l_usual => k_is)
    (case c_usual => k_is)
    (case k_usual => k_is)
    (case a_tool => k_is)
    (case l_tool => k_is)
    (case c_tool => k_is)
    (case k_tool => k_is)
    (case a_part => k_is)
    (case l_part => k_is)
    (case c_part => k_is)
    (case k_part => k_is)
    (case a_rows => k_is)
    (case l_rows => k_is)
    (case c_rows => k_is)
    (case k_rows => k_is)
    (case a_law => k_is)
    (case l_law => k_is)
    (case c_law => k_is)
    (case k_law => k_is)
    (case z_int => k_is)
    (case z_str => k_is)
    (case z_list => k_is)
    (case z_tuple => k_is)
    (case z_isinstance => k_is)
    (case z_len => k_is)
    (case z_all => k_is)
    (case z_abs => k_is)
    (case z_range => k_is)
    (case z_max => k_is)
    (case z_min => k_is)
    (case z_bool => k_is)
