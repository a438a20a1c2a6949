import PyProof.Rows.All
import Wide.All
import OpenK.AllK
import Wide.FinOn
import HandS.ForMost
import HandS.Codes
import KE.GoesMore
import HandS.Walk
import HandS.Dict
import HandS.Style
import OpenK.KEqL
import HandS.IsInst
import HandS.StrMore
import HandS.TupAny
import HandS.Defaults
import HandS.ExcInit
import HandS.ExcField
import HandS.ExcIs
import HandS.WordsExc
import HandS.ExcOwn
import KE.KExcIs
import HandS.Text
import HandS.Star
import HandS.OwnEq
import KE.KCallOwn
import HandS.NoneIn
import HandS.RaiseMore
import PySem.Challenge.RW_laytwice_k13_tools_made
set_option Elab.async false
set_option linter.all false
set_option maxRecDepth 100000
set_option maxHeartbeats 4000000
namespace Lay
open PySem L2
def top (i : Nat) : Stmt := PySem.Challenge.pw_laytwice_k13_tools_made.main.body.getD i (.Pass ⟨0, 0, 0, 0⟩)
abbrev sFeed : Stmt := top 23
abbrev sTake : Stmt := top 24
abbrev sPick : Stmt := top 25
theorem Same.new {a : Addr} {H : Hp} {o : HO} (h : H a = none) : Same H (upd H a o) := fun c u e => by
  rw [upd_ne (ne_of_none e h)]
  exact e
theorem iteN {c : Bool} {A B : Prop} (h : c = false) (x : B) : if c = true then A else B := by
  rw [if_neg (by rw [h]; exact Bool.false_ne_true)]
  exact x
theorem iteY {c : Bool} {A B : Prop} (h : c = true) (x : A) : if c = true then A else B := by
  rw [if_pos h]
  exact x
theorem fits {n : Nat} (h : n ≤ 1000) : n ≤ sizeLine := by
  rw [sizeLine_eq]
  omega
/-! ### the box of draws: a dict and its list -/
def kvBox (gr : Addr) (m : Int) : List (Key × V) := [(.inr "great", .ref gr), (.inr "mixed", .int m)]
structure BoxD (H : Hp) (b gr : Addr) : Prop where
  d : ∃ m, H b = some (.dK (kvBox gr m))
  l : ∃ ns : List Int, H gr = some (.lst (ns.map V.int)) ∧ ns.length ≤ 1000
/-- all that is tracked beside the box is as it was -/
def K2 (b gr : Addr) (H H' : Hp) : Prop := ∀ a o, a ≠ b → a ≠ gr → H a = some o → H' a = some o
theorem K2.refl (b gr : Addr) (H : Hp) : K2 b gr H H := fun _ _ _ _ h => h
theorem K2.trans {b gr : Addr} {H H1 H2 : Hp} (x : K2 b gr H H1) (y : K2 b gr H1 H2) : K2 b gr H H2 := fun a o n1 n2 h => y a o n1 n2 (x a o n1 n2 h)
theorem K2.of_same {b gr : Addr} {H H' : Hp} (x : Same H H') : K2 b gr H H' := fun a o _ _ h => x a o h
theorem K2.b {b gr : Addr} {H : Hp} {o : HO} : K2 b gr H (upd H b o) := fun a u n _ h => by rw [upd_ne n]; exact h
theorem K2.g {b gr : Addr} {H : Hp} {o : HO} : K2 b gr H (upd H gr o) := fun a u _ n h => by rw [upd_ne n]; exact h
theorem BoxD.ne {H : Hp} {b gr : Addr} (x : BoxD H b gr) : gr ≠ b := fun z => by
  obtain ⟨⟨m, h1⟩, ns, h2, _⟩ := x
  rw [z, h1] at h2
  cases h2
theorem BoxD.same {H H' : Hp} {b gr : Addr} (s : Same H H') (x : BoxD H b gr) : BoxD H' b gr := by
  obtain ⟨⟨m, h1⟩, ns, h2, h3⟩ := x
  exact ⟨⟨m, s _ _ h1⟩, ns, s _ _ h2, h3⟩
theorem BoxD.fresh {H : Hp} {a b gr : Addr} (x : BoxD H b gr) (h : H a = none) : a ≠ b ∧ a ≠ gr := by
  obtain ⟨⟨m, h1⟩, ns, h2, h3⟩ := x
  exact ⟨(ne_of_none h1 h).symm, (ne_of_none h2 h).symm⟩
theorem snocs (ms : List Int) : ms = [] ∨ ∃ (i : List Int) (z : Int), ms = i ++ [z] := by
  rcases List.eq_nil_or_concat ms with h | ⟨i, z, h⟩
  · exact .inl h
  · exact .inr ⟨i, z, by rw [h, List.concat_eq_append]⟩
theorem kv_ne : ¬ (Sum.inr (Str.ofString "great") : Key) = Sum.inr (Str.ofString "mixed") := by decide
theorem kv_great {gr : Addr} {m : Int} : valV (kvBox gr m) (.inr "great") = some (.ref gr) := valV_pos rfl
theorem kv_mixed {gr : Addr} {m : Int} : valV (kvBox gr m) (.inr "mixed") = some (.int m) := by
  unfold kvBox
  rw [valV_neg kv_ne]
  exact valV_pos rfl
theorem kv_put {gr : Addr} {m i : Int} : putK (kvBox gr m) (.inr "mixed") (.int i) = kvBox gr i := by
  have e := kv_ne
  simp [putK, kvBox, e]
/-- what the draws want of the module's names -/
structure TxtD (mg : Str → Option Value) : Prop where
  int : mg "int" = none
  len : mg "len" = none
  abs : mg "abs" = none
  range : mg "range" = none
def spTake : Sp := fun vs H Q _ => ∃ (b gr : Addr) (m : Int), vs = [.ref b, .int m] ∧ BoxD H b gr ∧ 0 < m ∧ m < 1073741824 ∧ ∀ (r : Int) (H' : Hp), 0 ≤ r → r < m → BoxD H' b gr → K2 b gr H H' → Q (.int r) H'
theorem ints_dp {K : PySem.W.Frag} {H : Hp} {p : Addr} {ns : List Int} (h : SqL K H p (ns.map V.int)) : Dp K H (.ref p) (.list (ns.map .int)) := .lst h (by
  clear h
  induction ns with
  | nil => exact .nil
  | cons n ns ih => exact .cons (.int n) ih)
theorem eqv_nil (ns : List Int) : PyData.eqv (.list (ns.map .int)) (.list []) = ns.isEmpty := by
  cases ns <;> rfl
theorem get_great {b gr : Addr} {m : Int} {H : Hp} (h : H b = some (.dK (kvBox gr m))) : DGet H b (.str "great") (some (.ref gr)) := by
  have q := DGet.k (k := .inr "great") h
  rw [kv_great] at q
  exact q
theorem get_mixed {b gr : Addr} {m : Int} {H : Hp} (h : H b = some (.dK (kvBox gr m))) : DGet H b (.str "mixed") (some (.int m)) := by
  have q := DGet.k (k := .inr "mixed") h
  rw [kv_mixed] at q
  exact q
theorem put_mixed {b gr : Addr} {m i : Int} {H : Hp} (h : H b = some (.dK (kvBox gr m))) : DPut H b (.str "mixed") (.int i) (upd H b (.dK (kvBox gr i))) := by
  have q := DPut.k (k := .inr "mixed") (v := .int i) h (by rw [sizeLine_eq]; show 2 < _; omega)
  rw [kv_put] at q
  exact q
section
variable {P : Program} {w : World} {K : PySem.W.Frag} {mg : Str → Option Value} {base : Heap}
theorem scTake : FnScope ["_law_box", "_law_wide", "_law_great", "_law_cell"] ["_law_box", "_law_wide"] (defScope sTake) := ⟨rfl, rfl, rfl, by decide +kernel, rfl, by decide +kernel, by decide +kernel⟩
theorem ok_take {f : Addr} {fd : FuncData} (F : Fun K "_law_take" "_law_take" sTake f fd) (T : TxtD mg) : FnOk P w K mg base CX0 1 f fd ["_law_box", "_law_wide"] spTake := by
  refine F.ok scTake (fun vs H Q E h => ?_) (fun cdv A outer s H vs Q E hr h => ?_)
  · obtain ⟨b, gr, m, rfl, _⟩ := h
    rfl
  · obtain ⟨b, gr, m, rfl, bx, hm, hm2, k⟩ := h
    refine ⟨_, (pss_cons (ps_set (i := 2) scTake.nd rfl (.inl rfl) (pe_dget (hu_of hr) (pv 0) pe_str (fun _ _ => rfl)))
    (C8.pss_cut (ps_while PassesOwn.never (PW.pt (pw_and (pt_cmpR (op_neD hr.units) (pv 2) (pe_lst pa_nil) (nomark _)) (pw_and1 (pt_cmpR op_eq (pe_ix ix_list (pv 2) (pe_un un_neg pe_int) (fun _ _ => rfl)) pe_int (nomark _)))))
      (pss_one (ps_expr (pe_bm0 PySem.F.plainAttrs_list PySem.F.slot_list_pop PySem.F.type_list_pop mt_pop (pv 2)))))
    (pss_cons (ps_if (pt_cmpR (op_neD hr.units) (pv 2) (pe_lst pa_nil) (nomark _))
      (pss_cons (ps_set (i := 3) scTake.nd rfl (.inl rfl) (pe_bm0 PySem.F.plainAttrs_list PySem.F.slot_list_pop PySem.F.type_list_pop mt_pop (pv 2)))
      (pss_cons (ps_expr (pe_bm PySem.F.plainAttrs_list PySem.F.slot_list_append PySem.F.type_list_append mt_append (pv 2) (pa_cons (pe_op op_fdiv (pv 3) (pv 1)) pa_nil)))
      (pss_one (ps_ret (pe_op op_mod (pe_callTy call_int1 (by rfl) T.int (by decide +kernel) (pa_cons (pv 3) pa_nil)) (pv 1))))))
      pss_nil)
    (pss_cons (ps_dput (hu_of hr) (pv 0) pe_str (pe_op op_mod (pe_callTy call_int1 (by rfl) T.int (by decide +kernel) (pa_cons (pe_op op_add (pe_op op_mul (pe_dget (hu_of hr) (pv 0) pe_str (fun _ _ => rfl)) pe_int) pe_int) pa_nil)) pe_int) (by rfl))
    (pss_one (ps_ret (pe_op op_mod (pe_callTy call_int1 (by rfl) T.int (by decide +kernel) (pa_cons (pe_op op_fdiv (pe_dget (hu_of hr) (pv 0) pe_str (fun _ _ => rfl)) pe_int) pa_nil)) (pv 1)))))))), ?_⟩
    obtain ⟨⟨x, hb⟩, ns, hg, hl⟩ := bx
    have ngb : gr ≠ b := fun z => by
      rw [z, hb] at hg
      cases hg
    refine ⟨_, rfl, b, _, rfl, get_great hb, ?_⟩
    refine ⟨fun σ G => ∃ ms : List Int, σ = [some (.ref b), some (.int m), some (.ref gr), none] ∧ G gr = some (.lst (ms.map V.int)) ∧ ms.length ≤ 1000 ∧ G b = some (.dK (kvBox gr x)) ∧ K2 b gr H G, ?_, ?_⟩
    · refine ⟨fun n σ G => ∃ ms : List Int, n = ms.length ∧ σ = [some (.ref b), some (.int m), some (.ref gr), none] ∧ G gr = some (.lst (ms.map V.int)) ∧ ms.length ≤ 1000 ∧ G b = some (.dK (kvBox gr x)) ∧ K2 b gr H G, ⟨_, ns, rfl, rfl, hg, hl, hb, K2.refl _ _ _⟩, ?_⟩
      rintro n σ G ⟨ms, rfl, rfl, hg1, hl1, hb1, k1⟩
      refine ⟨_, rfl, (by show 0 ≤ sizeLine; exact Nat.zero_le _), fun q nq => ⟨.list (ms.map .int), .list [], ints_dp (SqL.of (Same.new nq _ _ hg1)), .lst (SqL.of upd_same) .nil, PySem.W.shaped_ints ms, rfl, _, rfl, ?_⟩⟩
      have s1 := Same.new nq (o := .lst [])
      rw [eqv_nil]
      rcases snocs ms with rfl | ⟨init, z, rfl⟩
      · exact iteN rfl (iteN rfl ⟨[], rfl, s1 _ _ hg1, hl1, s1 _ _ hb1, k1.trans (K2.of_same s1)⟩)
      · have hg2 : upd G q (.lst []) gr = some (.lst (init.map V.int ++ [.int z])) := by
          have := s1 _ _ hg1
          rw [List.map_append] at this
          exact this
        refine iteY (by cases init <;> rfl) ⟨_, rfl, _, rfl, gr, _, _, _, rfl, rfl, SqL.of hg2, atI_last _ _, rfl, _, rfl, ?_⟩
        refine ite2 (fun hz => ?_) (fun hz => ?_)
        · have li : init.length < (init ++ [z]).length := by rw [List.length_append]; show _ < _ + 1; omega
          refine ⟨fun σ' G' => σ' = [some (.ref b), some (.int m), some (.ref gr), none] ∧ G' gr = some (.lst (init.map V.int)) ∧ G' b = some (.dK (kvBox gr x)) ∧ K2 b gr H G', fun σ' G' ⟨e1, e2, e3, e4⟩ => ⟨_, li, init, rfl, e1, e2, by omega, e3, e4⟩, ?_⟩
          refine ⟨_, rfl, .inl ⟨rfl, _, SqL.of hg2⟩, gr, _, .int z, rfl, rfl, hg2, by simp, rfl, ?_, ?_, ?_⟩
          · rw [upd_same, List.dropLast_concat]
          · rw [upd_ne (Ne.symm ngb)]
            exact s1 _ _ hb1
          · exact (k1.trans (K2.of_same s1)).trans K2.g
        · refine ⟨init ++ [z], rfl, ?_, hl1, s1 _ _ hb1, k1.trans (K2.of_same s1)⟩
          rw [List.map_append]
          exact hg2
    · rintro σ G ⟨ms, rfl, hg1, hl1, hb1, k1⟩
      refine ⟨_, rfl, (by show 0 ≤ sizeLine; exact Nat.zero_le _), fun q nq => ⟨.list (ms.map .int), .list [], ints_dp (SqL.of (Same.new nq _ _ hg1)), .lst (SqL.of upd_same) .nil, PySem.W.shaped_ints ms, rfl, _, rfl, ?_⟩⟩
      have s1 := Same.new nq (o := .lst [])
      have k2 := k1.trans (K2.of_same s1)
      rw [eqv_nil]
      rcases snocs ms with rfl | ⟨init, z, rfl⟩
      · refine iteN rfl ?_
        have hb2 := s1 _ _ hb1
        have hg2 := s1 _ _ hg1
        refine ⟨_, rfl, b, _, rfl, get_mixed hb2, _, _, rfl, rfl, .inr ⟨by decide, by decide⟩, _, _, rfl, rfl, .inl ⟨_, rfl, _, _, rfl, rfl, (by show (0 : Int) < 2147483647; decide), _, rfl, b, _, rfl, put_mixed hb2, ?_⟩⟩
        refine ⟨_, rfl, b, _, rfl, get_mixed upd_same, _, _, rfl, rfl, ⟨by decide, by decide⟩, .inl ⟨_, rfl, _, rfl, _, _, rfl, rfl, hm, ?_⟩⟩
        refine k _ _ (Int.emod_nonneg _ (by omega)) (Int.emod_lt_of_pos _ hm) ⟨⟨_, upd_same⟩, [], by rw [upd_ne ngb]; exact hg2, hl1⟩ (k2.trans K2.b)
      · have hg2 : upd G q (.lst []) gr = some (.lst (init.map V.int ++ [.int z])) := by
          have := s1 _ _ hg1
          rw [List.map_append] at this
          exact this
        refine iteY (by cases init <;> rfl) ?_
        refine ⟨_, rfl, .inl ⟨rfl, _, SqL.of hg2⟩, gr, _, .int z, rfl, rfl, hg2, by simp, ?_⟩
        rw [List.dropLast_concat]
        refine ⟨_, rfl, .inl ⟨rfl, _, SqL.of upd_same⟩, _, rfl, _, rfl, _, _, rfl, rfl, ⟨hm, hm2⟩, gr, _, _, rfl, rfl, upd_same, ?_, ?_⟩
        · rw [List.length_map]
          rw [List.length_append] at hl1
          exact small1000 (by omega)
        · refine ⟨_, rfl, .inl ⟨_, rfl, _, rfl, _, _, rfl, rfl, hm, ?_⟩⟩
          refine k _ _ (Int.emod_nonneg _ (by omega)) (Int.emod_lt_of_pos _ hm) ⟨⟨x, ?_⟩, init ++ [z / m], ?_, ?_⟩ ?_
          · rw [upd_ne (Ne.symm ngb), upd_ne (Ne.symm ngb)]
            exact s1 _ _ hb1
          · rw [upd_same, List.map_append]
            rfl
          · rw [List.length_append] at hl1 ⊢
            exact hl1
          · exact (k2.trans K2.g).trans K2.g
end
end Lay
set_option Elab.async false
set_option linter.all false
set_option maxRecDepth 100000
set_option maxHeartbeats 4000000
namespace Lay
open PySem L2
def spPick (K : PySem.W.Frag) : Sp := fun vs H Q _ => ∃ (b gr l : Addr) (xs : List V), vs = [.ref b, .ref l] ∧ BoxD H b gr ∧ l ≠ b ∧ l ≠ gr ∧ (H l = some (.lst xs) ∨ H l = some (.tup xs)) ∧ 0 < xs.length ∧ xs.length ≤ 1000 ∧ ∀ (v : V) (H' : Hp), v ∈ xs → BoxD H' b gr → K2 b gr H H' → Q v H'
def spFeed (K : PySem.W.Frag) : Sp := fun vs H Q _ => ∃ (a : Addr) (ns : List Int) (i : Int), vs = [.ref a, .int i] ∧ SqL K H a (ns.map V.int) ∧ 0 ≤ i ∧ i ≤ 1000 ∧ ns.length ≤ 1000 ∧ ∀ (b gr : Addr) (H' : Hp), Same H H' → H b = none → H gr = none → BoxD H' b gr → Q (.ref b) H'
theorem sIx_le' {α : Type} (xs : List α) (lo hi : Option Int) : ((xs.drop (HT.sIx xs.length 0 lo)).take (HT.sIx xs.length xs.length hi - HT.sIx xs.length 0 lo)).length ≤ xs.length := by
  rw [List.length_take, List.length_drop]
  omega
theorem cut_ints (ns : List Int) (lo hi : Option Int) : ∃ ms : List Int, cutV (ns.map V.int) lo hi = ms.map V.int ∧ ms.length ≤ ns.length := by
  refine ⟨(ns.drop (HT.sIx ns.length 0 lo)).take (HT.sIx ns.length ns.length hi - HT.sIx ns.length 0 lo), ?_, sIx_le' ns lo hi⟩
  unfold cutV
  rw [List.length_map, List.map_take, List.map_drop]
theorem merge_box {gr : Addr} {m : Int} : mergeK [] [((.inr "great" : Key), V.ref gr), (.inr "mixed", .int m)] = kvBox gr m := by
  have e := kv_ne
  simp [mergeK, putK, kvBox, e]
section
variable {P : Program} {w : World} {K : PySem.W.Frag} {mg : Str → Option Value} {base : Heap}
theorem scPick : FnScope ["_law_box", "_law_some"] ["_law_box", "_law_some"] (defScope sPick) := ⟨rfl, rfl, rfl, by decide +kernel, rfl, by decide +kernel, by decide +kernel⟩
theorem ok_pick {f fT : Addr} {fd fdT : FuncData} (F : Fun K "_law_pick" "_law_pick" sPick f fd) (T : TxtD mg) (GT : FnOk P w K mg base CX0 1 fT fdT ["_law_box", "_law_wide"] spTake) (gT : mg "_law_take" = some (.ref fT)) (kT : PySem.W.keepIn K (.ref fT) = true) (bT : Binds K fdT ["_law_box", "_law_wide"] []) :
    FnOk P w K mg base CX0 2 f fd ["_law_box", "_law_some"] (spPick K) := by
  refine F.ok scPick (fun vs H Q E h => ?_) (fun cdv A outer s H vs Q E hr h => ?_)
  · obtain ⟨b, gr, l, xs, rfl, _⟩ := h
    rfl
  · obtain ⟨b, gr, l, xs, rfl, bx, n1, n2, hs, h0, h1, k⟩ := h
    rcases hs with hs | hs
    · refine ⟨_, (pss_one (ps_ret (pe_ix ix_list (pv 1) (pe_call GT hr (by rfl) gT kT bT .nil pass0 (pa_cons (pv 0) (pa_cons (pe_callB call_len_seq (by rfl) T.len (by decide +kernel) (pa_cons (pv 1) pa_nil)) pa_nil))) (fun _ _ => rfl)))), ?_⟩
      refine ⟨_, rfl, _, rfl, _, rfl, l, xs, rfl, .inl (SqL.of hs), b, gr, _, rfl, bx, by omega, by omega, fun r H' r0 r1 bx' k2 => ?_⟩
      have hr' : r.toNat < xs.length := by omega
      have er : r = ((r.toNat : Nat) : Int) := by omega
      exact ⟨l, xs, r, xs[r.toNat], rfl, rfl, SqL.of (k2 _ _ n1 n2 hs), at_of er (by simp [hr']), k _ _ (List.getElem_mem hr') bx' k2⟩
    · refine ⟨_, (pss_one (ps_ret (pe_ix ix_tup (pv 1) (pe_call GT hr (by rfl) gT kT bT .nil pass0 (pa_cons (pv 0) (pa_cons (pe_callB call_len_seq (by rfl) T.len (by decide +kernel) (pa_cons (pv 1) pa_nil)) pa_nil))) (fun _ _ => rfl)))), ?_⟩
      refine ⟨_, rfl, _, rfl, _, rfl, l, xs, rfl, .inr (SqT.of hs), b, gr, _, rfl, bx, by omega, by omega, fun r H' r0 r1 bx' k2 => ?_⟩
      have hr' : r.toNat < xs.length := by omega
      have er : r = ((r.toNat : Nat) : Int) := by omega
      exact ⟨l, xs, r, xs[r.toNat], rfl, rfl, SqT.of (k2 _ _ n1 n2 hs), at_of er (by simp [hr']), k _ _ (List.getElem_mem hr') bx' k2⟩
def feedN : List Str := ["_law_script", "_law_base", "_law_cell", "_law_cells", "_law_mixed_here"]
theorem scFeed : FnScope feedN ["_law_script", "_law_base"] (defScope sFeed) := ⟨rfl, rfl, rfl, by decide +kernel, rfl, by decide +kernel, by decide +kernel⟩
theorem ok_feed {f : Addr} {fd : FuncData} (F : Fun K "_law_feed" "_law_feed" sFeed f fd) (T : TxtD mg) : FnOk P w K mg base CX0 1 f fd ["_law_script", "_law_base"] (spFeed K) := by
  refine F.ok scFeed (fun vs H Q E h => ?_) (fun cdv A outer s H vs Q E hr h => ?_)
  · obtain ⟨a, ns, i, rfl, _⟩ := h
    rfl
  · obtain ⟨a, ns, i, rfl, hs, i0, i1, hn, k⟩ := h
    refine ⟨_, (C8.pss_cut (ps_setLc (i := 3) (own := [("_law_cell", 2)]) (g := gName 2) (tt := tYes) rfl scFeed.nd rfl rfl (sw_true rfl rfl rfl (by decide +kernel)) (pi_list (pe_slice sl_list (pv 0) (po_some (pv 1)) (po_some (pe_op op_add (pv 1) pe_int)))) (blkOk_by (N := feedN) (sc := defScope sFeed) (by decide +kernel)) (fun _ _ _ _ _ => pg_name (i := 2) scFeed.nd rfl (Or.inl rfl)) (fun _ _ _ _ _ => pts_nil)
        (fun _ _ _ _ _ => pe_callB call_abs (by rfl) T.abs (by decide +kernel) (pa_cons (pe_callTy call_int1 (by rfl) T.int (by decide +kernel) (pa_cons (pv 2) pa_nil)) pa_nil)))
      (pss_cons (ps_set (i := 4) scFeed.nd rfl (.inl rfl) (pe_op op_add pe_int (pe_op op_mul pe_int (pv 1))))
      (C8.pss_cut (ps_for PassesOwn.never rfl (pi_list (pv 3)) (pg_name (i := 2) scFeed.nd rfl (.inl rfl))
        (pss_one (ps_set (i := 4) scFeed.nd rfl (.inl rfl) (pe_op op_mod (pe_callTy call_int1 (by rfl) T.int (by decide +kernel) (pa_cons (pe_op op_add (pe_op op_add (pe_callTy call_int1 (by rfl) T.int (by decide +kernel) (pa_cons (pe_op op_mul (pv 4) pe_int) pa_nil)) (pe_op op_mod (pe_callTy call_int1 (by rfl) T.int (by decide +kernel) (pa_cons (pv 2) pa_nil)) pe_int)) pe_int) pa_nil)) pe_int))))
      (pss_one (ps_ret (pe_disp (pps_cons pe_str (pe_revL (pe_lc (own := [("_law_cell", 2)]) (g := gName 2) (by rfl) scFeed.nd (pi_list (pv 3)) (blkOk_by (N := feedN) (sc := defScope sFeed) (by decide +kernel)) (fun _ _ _ _ _ => pg_name (i := 2) scFeed.nd rfl (Or.inl rfl))
          (fun _ _ _ _ _ => pts_one (pt_cmpR op_ge (pv 2) (pe_op op_pow pe_int pe_int) (nomark _))) (fun _ _ _ _ _ => pv 2))) (pps_cons pe_str (pv 4) pps_nil)) rfl rfl (by decide) (by decide))))))), ?_⟩
    refine ⟨fun σ G => ∃ (x2 x4 : Option V) (C1 : Addr) (ms : List Int), σ = [some (.ref a), some (.int i), x2, some (.ref C1), x4] ∧ Same H G ∧ G C1 = some (.lst (ms.map V.int)) ∧ ms.length ≤ 1000, ?_, ?_⟩
    · refine ⟨_, rfl, _, rfl, i, rfl, _, rfl, _, _, rfl, rfl, _, rfl, a, _, rfl, hs, fun p np => ?_⟩
      obtain ⟨ms, em, lm⟩ := cut_ints ns (some i) (some (i + 60))
      have hp : upd H p (.lst (cutV (ns.map V.int) (some i) (some (i + 60)))) p = some (.lst (ms.map V.int)) := by rw [upd_same, em]
      have s1 := Same.new np (o := .lst (cutV (ns.map V.int) (some i) (some (i + 60))))
      refine ⟨p, rfl, ⟨_, SqL.of hp⟩, fun D nD => lc_list (xs := ms.map V.int) (fun j G => ∃ acc : List Int, Same H G ∧ G p = some (.lst (ms.map V.int)) ∧ G D = some (.lst (acc.map V.int)) ∧ acc.length = j) ⟨[], s1.trans (Same.new nD), Same.new nD _ _ hp, upd_same, rfl⟩ (fun j G _ q => SqL.of (by obtain ⟨acc, _, q, _⟩ := q; exact q)) ?_ ?_⟩
      · rintro j x G hx ⟨acc, sG, hp', hD, hl⟩
        obtain ⟨z, rfl⟩ : ∃ z, x = V.int z := by
          rw [List.getElem?_map] at hx
          cases q : ms[j]? with
          | none => rw [q] at hx; cases hx
          | some z => rw [q] at hx; exact ⟨z, (Option.some.inj hx).symm⟩
        have hj : j < ms.length := by
          have := (List.getElem?_eq_some_iff.mp hx).1
          rw [List.length_map] at this
          exact this
        have nDp : D ≠ p := fun z => by
          rw [z] at nD
          rw [hp] at nD
          cases nD
        refine ⟨rfl, _, rfl, .inl ⟨_, rfl, _, rfl, _, hD, ?_, acc ++ [if z < 0 then -z else z], fun c u e => ?_, ?_, ?_, ?_⟩⟩
        · rw [List.length_map, hl]
          exact small1000 (by omega)
        · rw [upd_ne (ne_of_none (s1 _ _ e) nD)]
          exact sG _ _ e
        · rw [upd_ne (Ne.symm nDp)]
          exact hp'
        · rw [upd_same, List.map_append]
          rfl
        · rw [List.length_append, hl]
          rfl
      · rintro G ⟨acc, sG, hp', hD, hl⟩
        rw [List.length_map] at hl
        exact ⟨_, _, D, acc, rfl, sG, hD, by omega⟩
    · rintro σ G ⟨x2, x4, C1, ms, rfl, sG, hC, hl⟩
      refine ⟨_, rfl, _, _, rfl, rfl, .inl ⟨by decide, by decide⟩, _, _, rfl, rfl, ?_⟩
      refine ⟨fun σ G' => ∃ (x2 : Option V) (m : Int), σ = [some (.ref a), some (.int i), x2, some (.ref C1), some (.int m)] ∧ G' = G, ?_, ?_⟩
      · refine ⟨_, rfl, C1, rfl, ⟨_, SqL.of hC⟩, for_list (xs := ms.map V.int) (fun j σ G' => ∃ (x2 : Option V) (m : Int), σ = [some (.ref a), some (.int i), x2, some (.ref C1), some (.int m)] ∧ G' = G) ⟨_, _, rfl, rfl⟩ (fun j σ G' _ q => SqL.of (by obtain ⟨_, _, _, q⟩ := q; rw [q]; exact hC)) ?_ (fun σ G' q => q)⟩
        rintro j x σ G' hx ⟨x2, m, rfl, rfl⟩
        obtain ⟨z, rfl⟩ : ∃ z, x = V.int z := by
          rw [List.getElem?_map] at hx
          cases q : ms[j]? with
          | none => rw [q] at hx; cases hx
          | some z => rw [q] at hx; exact ⟨z, (Option.some.inj hx).symm⟩
        exact ⟨_, rfl, _, _, rfl, rfl, .inr ⟨by decide, by decide⟩, .inl ⟨_, rfl, _, rfl, .inl ⟨_, rfl, _, _, rfl, rfl, (by show (0 : Int) < 2147483587; decide), _, _, rfl, rfl, _, _, rfl, rfl, .inl ⟨_, rfl, _, _, rfl, rfl, (by show (0 : Int) < 2147483647; decide), _, _, rfl, rfl⟩⟩⟩⟩
      · rintro σ G' ⟨x2, m, rfl, rfl⟩
        refine fun p np => ⟨_, rfl, C1, rfl, ⟨_, SqL.of (Same.new np _ _ hC)⟩, fun D nD => lc_list (xs := ms.map V.int) (fun j H' => ∃ acc : List Int, Same G' H' ∧ H' C1 = some (.lst (ms.map V.int)) ∧ H' p = some (.dK []) ∧ H' D = some (.lst (acc.map V.int)) ∧ acc.length ≤ j)
          ⟨[], (Same.new np).trans (Same.new nD), Same.new nD _ _ (Same.new np _ _ hC), Same.new nD _ _ upd_same, upd_same, Nat.le_refl _⟩ (fun j G _ q => SqL.of (by obtain ⟨acc, _, q, _⟩ := q; exact q)) ?_ ?_⟩
        · rintro j x H' hx ⟨acc, sH, hC', hp', hD, hl'⟩
          obtain ⟨z, rfl⟩ : ∃ z, x = V.int z := by
            rw [List.getElem?_map] at hx
            cases q : ms[j]? with
            | none => rw [q] at hx; cases hx
            | some z => rw [q] at hx; exact ⟨z, (Option.some.inj hx).symm⟩
          have hj : j < ms.length := by
            have := (List.getElem?_eq_some_iff.mp hx).1
            rw [List.length_map] at this
            exact this
          have nDC : C1 ≠ D := ne_of_none (Same.new np _ _ hC) nD
          have nDp : p ≠ D := ne_of_none (upd_same (H := G') (a := p) (o := .dK [])) nD
          refine ⟨rfl, _, rfl, _, _, rfl, rfl, ⟨by decide, by decide, by decide⟩, _, _, rfl, rfl, _, rfl, ?_⟩
          refine ite2 (fun _ => ?_) (fun _ => ⟨acc, sH, hC', hp', hD, by omega⟩)
          refine ⟨_, rfl, _, hD, ?_, acc ++ [z], fun c u e => ?_, ?_, ?_, ?_, ?_⟩
          · rw [List.length_map]
            exact small1000 (by omega)
          · rw [upd_ne (ne_of_none ((Same.new np) _ _ e) nD)]
            exact sH _ _ e
          · rw [upd_ne nDC]
            exact hC'
          · rw [upd_ne nDp]
            exact hp'
          · rw [upd_same, List.map_append]
            rfl
          · rw [List.length_append]
            show acc.length + 1 ≤ j + 1
            omega
        · rintro H' ⟨acc, sH, hC', hp', hD, hl'⟩
          rw [List.length_map] at hl'
          refine ⟨D, _, rfl, SqL.of hD, fun gr ng => ⟨_, rfl, Same.new ng _ _ hp', [(.inr "great", .ref gr), (.inr "mixed", .int m)], rfl, (by show 2 ≤ 15; decide), ?_⟩⟩
          rw [merge_box]
          have ngp : gr ≠ p := (ne_of_none hp' ng).symm
          refine k p gr _ (fun c u e => ?_) (sG.free np) (((sG.trans sH)).free ng) ⟨⟨m, upd_same⟩, acc.reverse, ?_, ?_⟩
          · have e1 := sG _ _ e
            rw [upd_ne (ne_of_none e1 np)]
            exact Same.new ng _ _ (sH _ _ e1)
          · rw [upd_ne ngp, upd_same, List.map_reverse]
          · rw [List.length_reverse]
            omega
end
end Lay
set_option Elab.async false
set_option linter.all false
set_option maxRecDepth 100000
set_option maxHeartbeats 4000000
namespace Lay
open PySem L2
/-- the names of the module that must be Python's own -/
structure TxtK (mg : Str → Option Value) : Prop where
  str : mg "str" = none
  list : mg "list" = none
  tuple : mg "tuple" = none
  isinstance : mg "isinstance" = none
  len : mg "len" = none
  all : mg "all" = none
theorem TyOf.same {K : PySem.W.Frag} {H H' : Hp} {x : V} {t : Value} (s : Same H H') (h : TyOf K H x t) : TyOf K H' x t := by
  cases h with
  | non => exact .non
  | bl b => exact .bl b
  | int i => exact .int i
  | str z => exact .str z
  | flt z => exact .flt z
  | lst e => exact .lst (s _ _ e)
  | frz e => exact .frz (s _ _ e)
  | tup e => exact .tup (s _ _ e)
  | dK e => exact .dK (s _ _ e)
  | dT e => exact .dT (s _ _ e)
  | ins e cl ha hn htk hm => exact .ins (s _ _ e) cl ha hn htk hm
theorem TyX.same {K : PySem.W.Frag} {H H' : Hp} {x : V} {t : Value} (s : Same H H') (h : TyX K H x t) : TyX K H' x t := by
  cases h with
  | base h => exact .base (TyOf.same s h)
  | byt b => exact .byt b
  | set e => exact .set (s _ _ e)
  | kList e c => exact .kList e c
  | kTuple e c => exact .kTuple e c
  | kDict e c => exact .kDict e c
  | fTuple e => exact .fTuple (s _ _ e)
  | fDict e => exact .fDict (s _ _ e)
/-- isinstance of the built-in class n -/
def IsT (K : PySem.W.Frag) (H : Hp) (x : V) (n : String) (b : Bool) : Prop := ∃ t, TyX K H x t ∧ PySem.W.kitOne K t (.type n) = some b
theorem IsT.same {K : PySem.W.Frag} {H H' : Hp} {x : V} {n : String} {b : Bool} (s : Same H H') (h : IsT K H x n b) : IsT K H' x n b := by
  obtain ⟨t, h1, h2⟩ := h
  exact ⟨t, TyX.same s h1, h2⟩
theorem isT_str {K : PySem.W.Frag} {H : Hp} {z : Str} : IsT K H (.str z) "str" true := ⟨_, .base (.str z), kit_ty (by decide +kernel)⟩
/-- is it a list or a tuple -/
def IsSeq (K : PySem.W.Frag) (H : Hp) (x : V) (b : Bool) : Prop := ∃ t, TyX K H x t ∧ PySem.W.kitAny K t [.type "list", .type "tuple"] = some b
theorem IsSeq.same {K : PySem.W.Frag} {H H' : Hp} {x : V} {b : Bool} (s : Same H H') (h : IsSeq K H x b) : IsSeq K H' x b := by
  obtain ⟨t, h1, h2⟩ := h
  exact ⟨t, TyX.same s h1, h2⟩
theorem kitAny_lt {K : PySem.W.Frag} {t : Value} {b c : Bool} (h1 : PySem.W.kitOne K t (.type "list") = some b) (h2 : PySem.W.kitOne K t (.type "tuple") = some c) : PySem.W.kitAny K t [.type "list", .type "tuple"] = some (b || c) := by
  refine kitAny_cons h1 (fun hb => ?_) (fun hb => by rw [hb]; rfl)
  subst hb
  exact kitAny_cons h2 (fun hc => by subst hc; exact kitAny_nil) (fun hc => by rw [hc]; rfl)
/-- what is a list or a tuple of xs -/
def SqX (H : Hp) (a : Addr) (xs : List V) : Prop := H a = some (.lst xs) ∨ H a = some (.tup xs)
theorem SqX.same {H H' : Hp} {a : Addr} {xs : List V} (s : Same H H') (h : SqX H a xs) : SqX H' a xs := h.imp (s _ _) (s _ _)
theorem SqX.seq {K : PySem.W.Frag} {H : Hp} {a : Addr} {xs : List V} (h : SqX H a xs) : IsSeq K H (.ref a) true := by
  rcases h with h | h
  · exact ⟨_, .base (.lst h), kitAny_lt (b := true) (c := false) (kit_ty (by decide +kernel)) (kit_ty (by decide +kernel))⟩
  · exact ⟨_, .base (.tup h), kitAny_lt (b := false) (c := true) (kit_ty (by decide +kernel)) (kit_ty (by decide +kernel))⟩
/-! ### words -/
def testL : List Str := ["broken", "marked", "left", "ahead", "behind", "blank", "long", "first", "afterbroken", "afterbehind"]
def deedL : List Str := ["break", "join", "mark", "unmark", "lift", "lower", "space", "close"]
def progT (z : Str) : Bool := inV (.str (Txt.removeprefix z "not ")) (testL.map V.str)
def progD (z : Str) : Bool := inV (.str z) (deedL.map V.str)
theorem flat_strs (zs : List Str) : (zs.map V.str).all flatV = true := by
  induction zs with
  | nil => rfl
  | cons z zs ih => exact (Bool.and_eq_true_iff.mpr ⟨rfl, ih⟩)
/-- what one thing's test answers: f of a text, no otherwise -/
def ItB (f : Str → Bool) (K : PySem.W.Frag) (H : Hp) (x : V) (b : Bool) : Prop := (∃ z, x = .str z ∧ z.length ≤ 1000 ∧ b = f z) ∨ (b = false ∧ IsT K H x "str" false)
theorem ItB.same {f : Str → Bool} {K : PySem.W.Frag} {H H' : Hp} {x : V} {b : Bool} (s : Same H H') (h : ItB f K H x b) : ItB f K H' x b := h.imp id fun ⟨e, t⟩ => ⟨e, t.same s⟩
def ItBs (f : Str → Bool) (K : PySem.W.Frag) (H : Hp) (xs : List V) (bs : List Bool) : Prop := bs.length = xs.length ∧ ∀ (i : Nat) (x : V) (b : Bool), xs[i]? = some x → bs[i]? = some b → ItB f K H x b
theorem ItBs.same {f : Str → Bool} {K : PySem.W.Frag} {H H' : Hp} {xs : List V} {bs : List Bool} (s : Same H H') (h : ItBs f K H xs bs) : ItBs f K H' xs bs := ⟨h.1, fun i x b h1 h2 => (h.2 i x b h1 h2).same s⟩
/-- what is said of a value: r, where more is what must hold of a sequence besides -/
def AnsV (f : Str → Bool) (more : List V → Bool) (K : PySem.W.Frag) (H : Hp) (x : V) (r : Bool) : Prop := (IsSeq K H x false ∧ r = false) ∨ ∃ a xs bs, x = .ref a ∧ SqX H a xs ∧ xs.length ≤ 1000 ∧ ItBs f K H xs bs ∧ r = (more xs && bs.all id)
theorem AnsV.same {f : Str → Bool} {more : List V → Bool} {K : PySem.W.Frag} {H H' : Hp} {x : V} {r : Bool} (s : Same H H') (h : AnsV f more K H x r) : AnsV f more K H' x r := by
  rcases h with ⟨h, e⟩ | ⟨a, xs, bs, e, h1, h2, h3, h4⟩
  · exact .inl ⟨h.same s, e⟩
  · exact .inr ⟨a, xs, bs, e, h1.same s, h2, h3.same s, h4⟩
def yes (_ : List V) : Bool := true
def full (xs : List V) : Bool := decide (0 < xs.length)
def spSeq (K : PySem.W.Frag) : Sp := fun vs H Q _ => ∃ x b, vs = [x] ∧ IsSeq K H x b ∧ ∀ H', Same H H' → Q (.bl b) H'
def spOne (f : Str → Bool) (K : PySem.W.Frag) : Sp := fun vs H Q _ => ∃ x b, vs = [x] ∧ ItB f K H x b ∧ Q (.bl b) H
def spAre (f : Str → Bool) (more : List V → Bool) (K : PySem.W.Frag) : Sp := fun vs H Q _ => ∃ x r, vs = [x] ∧ AnsV f more K H x r ∧ ∀ H', Same H H' → Q (.bl r) H'
abbrev sSeq : Stmt := top 8
abbrev sTest : Stmt := top 12
abbrev sDeed : Stmt := top 13
abbrev sAreT : Stmt := top 14
abbrev sAreD : Stmt := top 15
section
variable {P : Program} {w : World} {K : PySem.W.Frag} {mg : Str → Option Value} {base : Heap}
theorem scSeq : FnScope ["value"] ["value"] (defScope sSeq) := ⟨rfl, rfl, rfl, by decide +kernel, rfl, by decide +kernel, by decide +kernel⟩
theorem ok_seq {f : Addr} {fd : FuncData} (F : Fun K "is_sequence" "is_sequence" sSeq f fd) (T : TxtK mg) : FnOk P w K mg base CX0 1 f fd ["value"] (spSeq K) := by
  refine F.ok scSeq (fun vs H Q E h => ?_) (fun cdv A outer s H vs Q E hr h => ?_)
  · obtain ⟨x, b, rfl, _⟩ := h
    rfl
  · obtain ⟨x, b, rfl, ⟨t, ty, e⟩, k⟩ := h
    refine ⟨_, (pss_one (ps_ret (pe_callB call_isiT (by rfl) T.isinstance (by decide +kernel) (pa_cons (pv 0) (pa_cons (pe_tup (pa_cons (pe_bltn (v := .ty "list") (by rfl) T.list (by decide +kernel) rfl) (pa_cons (pe_bltn (v := .ty "tuple") (by rfl) T.tuple (by decide +kernel) rfl) pa_nil))) pa_nil))))), ?_⟩
    refine ⟨_, rfl, (by show 2 ≤ sizeLine; decide), fun p hp => ?_⟩
    exact ⟨x, p, _, t, _, b, rfl, upd_same, .cons (.ty _) (.cons (.ty _) .nil), TyX.same (Same.new hp) ty, e, k _ (Same.new hp)⟩
theorem scTest : FnScope ["value"] ["value"] (defScope sTest) := ⟨rfl, rfl, rfl, by decide +kernel, rfl, by decide +kernel, by decide +kernel⟩
theorem ok_test {f tT : Addr} {fd : FuncData} (F : Fun K "is_test" "is_test" sTest f fd) (T : TxtK mg) (gT : mg "TESTS" = some (.ref tT)) (hT : ∀ H : Hp, SqT K H tT (testL.map V.str)) : FnOk P w K mg base CX0 1 f fd ["value"] (spOne progT K) := by
  refine F.ok scTest (fun vs H Q E h => ?_) (fun cdv A outer s H vs Q E hr h => ?_)
  · obtain ⟨x, b, rfl, _⟩ := h
    rfl
  · obtain ⟨x, b, rfl, h, k⟩ := h
    refine ⟨_, (pss_one (ps_ret (pe_and (pe_callB call_isi (by rfl) T.isinstance (by decide +kernel) (pa_cons (pv 0) (pa_cons (pe_bltn (v := .ty "str") (by rfl) T.str (by decide +kernel) rfl) pa_nil)))
      (pe_one (pe_cmpR op_in_seq (pe_bm PySem.F.plainAttrs_str PySem.F.slot_str_removeprefix PySem.F.type_str_removeprefix mt_removeprefix (pv 0) (pa_cons pe_str pa_nil)) (pe_glob (v := .ref tT) (by rfl) gT rfl) (by rfl)))))), ?_⟩
    rcases h with ⟨z, rfl, hz, rfl⟩ | ⟨rfl, t, ty, e⟩
    · obtain ⟨t, ty, e⟩ := isT_str (K := K) (H := H) (z := z)
      refine ⟨_, rfl, _, _, _, _, _, rfl, .ty _, ty, e, _, rfl, ?_⟩
      exact iteY rfl ⟨_, rfl, rfl, z, "not ", rfl, rfl, fits hz, tT, _, rfl, .inr (hT _), rfl, flat_strs _, k⟩
    · exact ⟨_, rfl, _, _, _, _, _, rfl, .ty _, ty, e, _, rfl, iteN rfl k⟩
theorem scDeed : FnScope ["value"] ["value"] (defScope sDeed) := ⟨rfl, rfl, rfl, by decide +kernel, rfl, by decide +kernel, by decide +kernel⟩
theorem ok_deed {f tD : Addr} {fd : FuncData} (F : Fun K "is_deed" "is_deed" sDeed f fd) (T : TxtK mg) (gT : mg "DEEDS" = some (.ref tD)) (hT : ∀ H : Hp, SqT K H tD (deedL.map V.str)) : FnOk P w K mg base CX0 1 f fd ["value"] (spOne progD K) := by
  refine F.ok scDeed (fun vs H Q E h => ?_) (fun cdv A outer s H vs Q E hr h => ?_)
  · obtain ⟨x, b, rfl, _⟩ := h
    rfl
  · obtain ⟨x, b, rfl, h, k⟩ := h
    refine ⟨_, (pss_one (ps_ret (pe_and (pe_callB call_isi (by rfl) T.isinstance (by decide +kernel) (pa_cons (pv 0) (pa_cons (pe_bltn (v := .ty "str") (by rfl) T.str (by decide +kernel) rfl) pa_nil)))
      (pe_one (pe_cmpR op_in_seq (pv 0) (pe_glob (v := .ref tD) (by rfl) gT rfl) (by rfl)))))), ?_⟩
    rcases h with ⟨z, rfl, hz, rfl⟩ | ⟨rfl, t, ty, e⟩
    · obtain ⟨t, ty, e⟩ := isT_str (K := K) (H := H) (z := z)
      refine ⟨_, rfl, _, _, _, _, _, rfl, .ty _, ty, e, _, rfl, ?_⟩
      exact iteY rfl ⟨_, rfl, tD, _, rfl, .inr (hT _), rfl, flat_strs _, k⟩
    · exact ⟨_, rfl, _, _, _, _, _, rfl, .ty _, ty, e, _, rfl, iteN rfl k⟩
theorem scAreT : FnScope ["value", "one"] ["value"] (defScope sAreT) := ⟨rfl, rfl, rfl, by decide +kernel, rfl, by decide +kernel, by decide +kernel⟩
theorem ok_areT {f fS fO : Addr} {fd fdS fdO : FuncData} (F : Fun K "are_tests" "are_tests" sAreT f fd) (T : TxtK mg) (GS : FnOk P w K mg base CX0 1 fS fdS ["value"] (spSeq K)) (gS : mg "is_sequence" = some (.ref fS)) (kS : PySem.W.keepIn K (.ref fS) = true) (bS : Binds K fdS ["value"] [])
    (GO : FnOk P w K mg base CX0 1 fO fdO ["value"] (spOne progT K)) (gO : mg "is_test" = some (.ref fO)) (kO : PySem.W.keepIn K (.ref fO) = true) (bO : Binds K fdO ["value"] []) : FnOk P w K mg base CX0 2 f fd ["value"] (spAre progT yes K) := by
  refine F.ok scAreT (fun vs H Q E h => ?_) (fun cdv A outer s H vs Q E hr h => ?_)
  · obtain ⟨x, r, rfl, _⟩ := h
    rfl
  · obtain ⟨x, r, rfl, h, k⟩ := h
    rcases h with ⟨h, rfl⟩ | ⟨a, xs, bs, rfl, hx, hl, hb, rfl⟩
    · refine ⟨_, (pss_one (ps_ret (pe_and (pe_call GS hr (by rfl) gS kS bS .nil pass0 (pa_cons (pv 0) pa_nil)) (pe_one (pe_callB (cr_all rfl) (by rfl) T.all (by decide +kernel) (pa_cons
            (pe_lc (own := [("one", 1)]) (g := gName 1) (tt := tYes) (by rfl) scAreT.nd (pi_list (pv 0)) (blkOk_by (N := ["value", "one"]) (sc := defScope sAreT) (by decide +kernel)) (fun _ _ _ _ _ => pg_name (i := 1) scAreT.nd rfl (Or.inl rfl)) (fun _ _ _ _ _ => pts_nil) (fun _ _ _ _ _ => pe_call GO hr (by rfl) gO kO bO .nil pass0 (pa_cons (pv 1) pa_nil))) pa_nil)))))), ?_⟩
      exact ⟨_, rfl, _, false, rfl, h, fun H' s => ⟨_, rfl, iteN rfl (k H' s)⟩⟩
    · have lb : bs.length ≤ 1000 := by rw [hb.1]; exact hl
      rcases hx with hx | hx
      · refine ⟨_, (pss_one (ps_ret (pe_and (pe_call GS hr (by rfl) gS kS bS .nil pass0 (pa_cons (pv 0) pa_nil)) (pe_one (pe_callB (cr_all rfl) (by rfl) T.all (by decide +kernel) (pa_cons
            (pe_lc (own := [("one", 1)]) (g := gName 1) (tt := tYes) (by rfl) scAreT.nd (pi_list (pv 0)) (blkOk_by (N := ["value", "one"]) (sc := defScope sAreT) (by decide +kernel)) (fun _ _ _ _ _ => pg_name (i := 1) scAreT.nd rfl (Or.inl rfl)) (fun _ _ _ _ _ => pts_nil) (fun _ _ _ _ _ => pe_call GO hr (by rfl) gO kO bO .nil pass0 (pa_cons (pv 1) pa_nil))) pa_nil)))))), ?_⟩
        refine ⟨_, rfl, _, true, rfl, SqX.seq (.inl hx), fun H1 s1 => ⟨_, rfl, ?_⟩⟩
        refine iteY rfl ?_
        refine ⟨_, rfl, a, rfl, ⟨_, SqL.of (s1 _ _ hx)⟩, fun D nD => lc_list (K := K) (a := a) (xs := xs) (fun i G => Same H1 G ∧ G D = some (.lst ((bs.take i).map V.bl))) ⟨Same.new nD, upd_same⟩ (fun i G _ q => SqL.of (q.1 _ _ (s1 _ _ hx))) ?_ ?_⟩
        · rintro i x G hi ⟨sG, hD⟩
          have li := (List.getElem?_eq_some_iff.mp hi).1
          rw [← hb.1] at li
          have eb : bs[i]? = some bs[i] := by simp [li]
          refine ⟨rfl, _, rfl, x, bs[i], rfl, (hb.2 i x _ hi eb).same (s1.trans sG), _, hD, ?_, fun c u e => by rw [upd_ne (ne_of_none e nD)]; exact sG _ _ e, ?_⟩
          · rw [List.length_map, List.length_take]
            exact small1000 (by omega)
          · rw [upd_same, List.take_succ, eb, List.map_append]
            rfl
        · rintro G ⟨sG, hD⟩
          rw [← hb.1, List.take_length] at hD
          exact ⟨D, bs, rfl, SqL.of hD, k G (s1.trans sG)⟩
      · refine ⟨_, (pss_one (ps_ret (pe_and (pe_call GS hr (by rfl) gS kS bS .nil pass0 (pa_cons (pv 0) pa_nil)) (pe_one (pe_callB (cr_all rfl) (by rfl) T.all (by decide +kernel) (pa_cons
            (pe_lc (own := [("one", 1)]) (g := gName 1) (tt := tYes) (by rfl) scAreT.nd (pi_tup (pv 0)) (blkOk_by (N := ["value", "one"]) (sc := defScope sAreT) (by decide +kernel)) (fun _ _ _ _ _ => pg_name (i := 1) scAreT.nd rfl (Or.inl rfl)) (fun _ _ _ _ _ => pts_nil) (fun _ _ _ _ _ => pe_call GO hr (by rfl) gO kO bO .nil pass0 (pa_cons (pv 1) pa_nil))) pa_nil)))))), ?_⟩
        refine ⟨_, rfl, _, true, rfl, SqX.seq (.inr hx), fun H1 s1 => ⟨_, rfl, ?_⟩⟩
        refine iteY rfl ?_
        refine ⟨_, rfl, a, rfl, ⟨_, SqT.of (s1 _ _ hx)⟩, fun D nD => lc_tup (K := K) (a := a) (xs := xs) (fun i G => Same H1 G ∧ G D = some (.lst ((bs.take i).map V.bl))) ⟨Same.new nD, upd_same⟩ (fun i G _ q => SqT.of (q.1 _ _ (s1 _ _ hx))) ?_ ?_⟩
        · rintro i x G hi ⟨sG, hD⟩
          have li := (List.getElem?_eq_some_iff.mp hi).1
          rw [← hb.1] at li
          have eb : bs[i]? = some bs[i] := by simp [li]
          refine ⟨rfl, _, rfl, x, bs[i], rfl, (hb.2 i x _ hi eb).same (s1.trans sG), _, hD, ?_, fun c u e => by rw [upd_ne (ne_of_none e nD)]; exact sG _ _ e, ?_⟩
          · rw [List.length_map, List.length_take]
            exact small1000 (by omega)
          · rw [upd_same, List.take_succ, eb, List.map_append]
            rfl
        · rintro G ⟨sG, hD⟩
          rw [← hb.1, List.take_length] at hD
          exact ⟨D, bs, rfl, SqL.of hD, k G (s1.trans sG)⟩
theorem scAreD : FnScope ["value", "one"] ["value"] (defScope sAreD) := ⟨rfl, rfl, rfl, by decide +kernel, rfl, by decide +kernel, by decide +kernel⟩
theorem ok_areD {f fS fO : Addr} {fd fdS fdO : FuncData} (F : Fun K "are_deeds" "are_deeds" sAreD f fd) (T : TxtK mg) (GS : FnOk P w K mg base CX0 1 fS fdS ["value"] (spSeq K)) (gS : mg "is_sequence" = some (.ref fS)) (kS : PySem.W.keepIn K (.ref fS) = true) (bS : Binds K fdS ["value"] [])
    (GO : FnOk P w K mg base CX0 1 fO fdO ["value"] (spOne progD K)) (gO : mg "is_deed" = some (.ref fO)) (kO : PySem.W.keepIn K (.ref fO) = true) (bO : Binds K fdO ["value"] []) : FnOk P w K mg base CX0 2 f fd ["value"] (spAre progD full K) := by
  refine F.ok scAreD (fun vs H Q E h => ?_) (fun cdv A outer s H vs Q E hr h => ?_)
  · obtain ⟨x, r, rfl, _⟩ := h
    rfl
  · obtain ⟨x, r, rfl, h, k⟩ := h
    rcases h with ⟨h, rfl⟩ | ⟨a, xs, bs, rfl, hx, hl, hb, rfl⟩
    · refine ⟨_, (pss_one (ps_ret (pe_and (pe_call GS hr (by rfl) gS kS bS .nil pass0 (pa_cons (pv 0) pa_nil)) (pe_and (pe_cmpR op_gt (pe_callB call_len_seq (by rfl) T.len PySem.boot_len (pa_cons (pv 0) pa_nil)) pe_int (nomark _)) (pe_one (pe_callB (cr_all rfl) (by rfl) T.all (by decide +kernel) (pa_cons
            (pe_lc (own := [("one", 1)]) (g := gName 1) (tt := tYes) (by rfl) scAreD.nd (pi_list (pv 0)) (blkOk_by (N := ["value", "one"]) (sc := defScope sAreD) (by decide +kernel)) (fun _ _ _ _ _ => pg_name (i := 1) scAreD.nd rfl (Or.inl rfl)) (fun _ _ _ _ _ => pts_nil) (fun _ _ _ _ _ => pe_call GO hr (by rfl) gO kO bO .nil pass0 (pa_cons (pv 1) pa_nil))) pa_nil))))))), ?_⟩
      exact ⟨_, rfl, _, false, rfl, h, fun H' s => ⟨_, rfl, iteN rfl (k H' s)⟩⟩
    · have lb : bs.length ≤ 1000 := by rw [hb.1]; exact hl
      rcases hx with hx | hx
      · refine ⟨_, (pss_one (ps_ret (pe_and (pe_call GS hr (by rfl) gS kS bS .nil pass0 (pa_cons (pv 0) pa_nil)) (pe_and (pe_cmpR op_gt (pe_callB call_len_seq (by rfl) T.len PySem.boot_len (pa_cons (pv 0) pa_nil)) pe_int (nomark _)) (pe_one (pe_callB (cr_all rfl) (by rfl) T.all (by decide +kernel) (pa_cons
            (pe_lc (own := [("one", 1)]) (g := gName 1) (tt := tYes) (by rfl) scAreD.nd (pi_list (pv 0)) (blkOk_by (N := ["value", "one"]) (sc := defScope sAreD) (by decide +kernel)) (fun _ _ _ _ _ => pg_name (i := 1) scAreD.nd rfl (Or.inl rfl)) (fun _ _ _ _ _ => pts_nil) (fun _ _ _ _ _ => pe_call GO hr (by rfl) gO kO bO .nil pass0 (pa_cons (pv 1) pa_nil))) pa_nil))))))), ?_⟩
        refine ⟨_, rfl, _, true, rfl, SqX.seq (.inl hx), fun H1 s1 => ⟨_, rfl, ?_⟩⟩
        refine iteY rfl ?_
        refine ⟨_, rfl, a, xs, rfl, .inl (SqL.of (s1 _ _ hx)), _, _, rfl, rfl, _, rfl, ?_⟩
        have e0 : decide (((xs.length : Nat) : Int) > 0) = full xs := by
          unfold full
          by_cases q : 0 < xs.length
          · rw [decide_eq_true q, decide_eq_true (by omega)]
          · rw [decide_eq_false q, decide_eq_false (by omega)]
        refine ite2 (fun h1 => ?_) (fun h1 => ?_)
        · have h2 : full xs = true := by rw [← e0]; exact h1
          rw [h2] at k
          refine ⟨_, rfl, a, rfl, ⟨_, SqL.of (s1 _ _ hx)⟩, fun D nD => lc_list (K := K) (a := a) (xs := xs) (fun i G => Same H1 G ∧ G D = some (.lst ((bs.take i).map V.bl))) ⟨Same.new nD, upd_same⟩ (fun i G _ q => SqL.of (q.1 _ _ (s1 _ _ hx))) ?_ ?_⟩
          · rintro i x G hi ⟨sG, hD⟩
            have li := (List.getElem?_eq_some_iff.mp hi).1
            rw [← hb.1] at li
            have eb : bs[i]? = some bs[i] := by simp [li]
            refine ⟨rfl, _, rfl, x, bs[i], rfl, (hb.2 i x _ hi eb).same (s1.trans sG), _, hD, ?_, fun c u e => by rw [upd_ne (ne_of_none e nD)]; exact sG _ _ e, ?_⟩
            · rw [List.length_map, List.length_take]
              exact small1000 (by omega)
            · rw [upd_same, List.take_succ, eb, List.map_append]
              rfl
          · rintro G ⟨sG, hD⟩
            rw [← hb.1, List.take_length] at hD
            exact ⟨D, bs, rfl, SqL.of hD, k G (s1.trans sG)⟩
        · have h2 : full xs = false := by rw [← e0]; simpa using h1
          rw [h2] at k
          exact k H1 s1
      · refine ⟨_, (pss_one (ps_ret (pe_and (pe_call GS hr (by rfl) gS kS bS .nil pass0 (pa_cons (pv 0) pa_nil)) (pe_and (pe_cmpR op_gt (pe_callB call_len_seq (by rfl) T.len PySem.boot_len (pa_cons (pv 0) pa_nil)) pe_int (nomark _)) (pe_one (pe_callB (cr_all rfl) (by rfl) T.all (by decide +kernel) (pa_cons
            (pe_lc (own := [("one", 1)]) (g := gName 1) (tt := tYes) (by rfl) scAreD.nd (pi_tup (pv 0)) (blkOk_by (N := ["value", "one"]) (sc := defScope sAreD) (by decide +kernel)) (fun _ _ _ _ _ => pg_name (i := 1) scAreD.nd rfl (Or.inl rfl)) (fun _ _ _ _ _ => pts_nil) (fun _ _ _ _ _ => pe_call GO hr (by rfl) gO kO bO .nil pass0 (pa_cons (pv 1) pa_nil))) pa_nil))))))), ?_⟩
        refine ⟨_, rfl, _, true, rfl, SqX.seq (.inr hx), fun H1 s1 => ⟨_, rfl, ?_⟩⟩
        refine iteY rfl ?_
        refine ⟨_, rfl, a, xs, rfl, .inr (SqT.of (s1 _ _ hx)), _, _, rfl, rfl, _, rfl, ?_⟩
        have e0 : decide (((xs.length : Nat) : Int) > 0) = full xs := by
          unfold full
          by_cases q : 0 < xs.length
          · rw [decide_eq_true q, decide_eq_true (by omega)]
          · rw [decide_eq_false q, decide_eq_false (by omega)]
        refine ite2 (fun h1 => ?_) (fun h1 => ?_)
        · have h2 : full xs = true := by rw [← e0]; exact h1
          rw [h2] at k
          refine ⟨_, rfl, a, rfl, ⟨_, SqT.of (s1 _ _ hx)⟩, fun D nD => lc_tup (K := K) (a := a) (xs := xs) (fun i G => Same H1 G ∧ G D = some (.lst ((bs.take i).map V.bl))) ⟨Same.new nD, upd_same⟩ (fun i G _ q => SqT.of (q.1 _ _ (s1 _ _ hx))) ?_ ?_⟩
          · rintro i x G hi ⟨sG, hD⟩
            have li := (List.getElem?_eq_some_iff.mp hi).1
            rw [← hb.1] at li
            have eb : bs[i]? = some bs[i] := by simp [li]
            refine ⟨rfl, _, rfl, x, bs[i], rfl, (hb.2 i x _ hi eb).same (s1.trans sG), _, hD, ?_, fun c u e => by rw [upd_ne (ne_of_none e nD)]; exact sG _ _ e, ?_⟩
            · rw [List.length_map, List.length_take]
              exact small1000 (by omega)
            · rw [upd_same, List.take_succ, eb, List.map_append]
              rfl
          · rintro G ⟨sG, hD⟩
            rw [← hb.1, List.take_length] at hD
            exact ⟨D, bs, rfl, SqL.of hD, k G (s1.trans sG)⟩
        · have h2 : full xs = false := by rw [← e0]; simpa using h1
          rw [h2] at k
          exact k H1 s1
end
end Lay
set_option Elab.async false
set_option linter.all false
set_option maxRecDepth 100000
set_option maxHeartbeats 4000000
namespace Lay
open PySem PySem.Spec PyProof.Rows L2
/-! C(e, ..) where what is let out depends on the slots; isinstance of an exception that the suite holds, with a dict. -/
section
variable {X : Cx} {CX : CXT} {k : Nat} {f C : Addr} {fd : FuncData} {ps : List Str} {sp : Sp} {E : L2.St → XK} {x m : Str} {p pos : Pos} {e : Expr} {es : List Expr} {t : TA} {ds : List Value} {dvs : List V}
theorem run_makeS {pins : List (Addr × Obj)} {σ : L2.St} {H : Hp} {s : Shared} {Q : VK} {us : List Value} {vs : List V} (M : Mk X.K C f) (F : FnOk X.prog X.w X.K X.mg X.base CX k f fd ps sp) (hr : Room (k + 1) X.A) (hb : Binds X.K fd ps ds) (hd : Vals dvs ds)
    (hx : PassesAt CX X σ (E σ)) (I : Inv X pins σ H s) (r : Vals vs us)
    (h : ∀ x dx, H x = none → H dx = none → dx ≠ x → sp (.ref x :: (vs ++ dvs)) (upd (upd H dx (.own x)) x (.ins C dx [])) (fun v H2 => v = .non ∧ Q (.ref x) H2) (E σ)) :
    wpAny (model X.prog X.w) X.A (call (.ref C) us) (EP X pins σ Q) X.xe s := by
  have hq := h (s.heap.objs.size + 1) s.heap.objs.size (I.hok.fresh (Nat.le_succ _)) (I.hok.fresh (Nat.le_refl _)) (Nat.ne_of_lt (Nat.lt_succ_self _))
  have I2 := Inv.made (C := C) I
  have r2 : Vals (V.ref (s.heap.objs.size + 1) :: (vs ++ dvs)) (Value.ref (s.heap.objs.size + 1) :: (us ++ ds)) := .cons rfl (r.append hd)
  have hl : (Value.ref (s.heap.objs.size + 1) :: us ++ ds).length = ps.length := by
    have e := r2.length
    rw [F.len _ _ _ _ hq] at e
    exact e.symm
  refine wpAny_call (make_map (f := f) I.kIn M.makes M.init (beq_iff_eq.mp M.fn) (codeAny_mono (F.run _ X.stack _ _ ⟨Value.ref (s.heap.objs.size + 1) :: us, []⟩ (Value.ref (s.heap.objs.size + 1) :: (us ++ ds)) _ _ (E σ) (hr.make C us [])
    (I2.env0.make C us []) (hb _ (Value.ref (s.heap.objs.size + 1) :: us) I2.kIn hl) r2 hq) fun r s' hq' => ?_))
  cases r with
  | error e => exact hx pins _ _ e s' I2 hq'
  | ok fl =>
    cases fl with
    | ret u =>
      obtain ⟨v, H', I3, rv, ev, q3⟩ := I2.after hq'
      subst ev
      exact ⟨rv, ⟨V.ref (s.heap.objs.size + 1), H', I3, rfl, q3⟩⟩
    | next => exact False.elim hq'
    | brk => exact False.elim hq'
    | cont => exact False.elim hq'
def tMakeS (C : Addr) (sp : Sp) (dvs : List V) (E : L2.St → XK) (t : TA) : TE := fun σ H Q => t σ H fun vs H1 => ∀ x dx, H1 x = none → H1 dx = none → dx ≠ x → sp (.ref x :: (vs ++ dvs)) (upd (upd H1 dx (.own x)) x (.ins C dx [])) (fun v H2 => v = .non ∧ Q (.ref x) H2) (E σ)
theorem pe_makeS (M : Mk X.K C f) (F : FnOk X.prog X.w X.K X.mg X.base CX k f fd ps sp) (hr : Room (k + 1) X.A) (hg : Gl X x) (hm : X.mg x = some (.ref C)) (hb : Binds X.K fd ps ds) (hd : Vals dvs ds) (hx : ∀ σ, PassesAt CX X σ (E σ))
    (ha : PA X (e :: es) t) (hdb : (x == ("__debug__" : Str)) = false := by decide) (he : starEach (e :: es) X.env = (false, eval e X.env) :: starEach es X.env := by rfl) (hpl : (backTo pos (starEach es X.env)).any (·.1) = false := by rfl) :
    PE X (.Call (.Name x p) (e :: es) [] pos) (tMakeS C sp dvs E t) := by
  refine ⟨fun pins s σ H Q I h => ?_⟩
  refine wpAny_Call_Name_kw (ld_glob I hg hm ?_ hdb)
  refine PySem.W.callWith_K (h₀ := X.base) I.ok.mod.kin M.kp (thn (ha.run pos pins s σ H _ I h) fun us s1 ⟨vs, H1, I1, r, q⟩ => ⟨I1.kIn, ?_⟩) he hpl
  exact run_makeS M F hr hb hd (hx σ) I1 r q
/-- isinstance(e, c), e the exception that the suite holds, a dict with it -/
def rIsEX (K : PySem.W.Frag) (a : Addr) (cls : Value) (d : Option Addr) : List V → Hp → VK → Prop := fun xs H Q => ∃ (D dd : Addr) (fs : List (Str × V)) (c : V) (cv : Value) (b : Bool), xs = [.ref a, c] ∧ cls = .ref D ∧ d = some dd ∧ H dd = some (.xd fs) ∧ ExcC K D ∧ ClsV c cv ∧
  PySem.W.kitOne K (.ref D) cv = some b ∧ Q (.bl b) H
theorem call_isEX {a : Addr} {cls : Value} {d : Option Addr} {oe : Obj} {pn : List (Addr × Obj)} (hz : Zc cls d oe) (hf : ∃ vs, oe.data = .fields vs) : CallR (X.suite a ((a, oe) :: pn)) (.builtin "isinstance") (rIsEX X.K a cls d) := by
  intro pins s σ H xs us Q I r h
  obtain ⟨D, dd, fs, c, cv, b, rfl, ec, ed, hdd, C, k, e, q⟩ := h
  obtain ⟨u1, u2, rfl, r1, r2⟩ := vals2 r
  cases r1
  have e2 := k.eq r2
  subst e2 ec ed
  have hcl : (PySem.W.clsIn X.K D).isSome = true := by
    obtain ⟨cd, hc, _⟩ := PySem.W.any_some C.hd
    rw [hc]
    rfl
  obtain ⟨hget, _⟩ := I.pin (a, oe) (List.mem_append_left _ List.mem_cons_self)
  obtain ⟨vs, hv⟩ := hf
  have hx : ObjOk X.prog X.w H s.heap dd (.xd fs) := I.hok dd _ hdd
  obtain ⟨mA, hns, hrel⟩ := hx
  obtain ⟨od, ho, hl⟩ := lookIn_ns hns
  have J : PySem.W.InstAt s.heap a oe D (some od) := ⟨hget, hz.1, by unfold PySem.W.notCls; rw [hv] <;> rfl, by rw [hz.2]; exact ho⟩
  exact PySem.W.kia_one (PySem.W.kitx_exc hcl C.hg C.hk C.hs C.ha C.hn C.ht C.hm) I.kIn J e (fun z => nomatch z) fun tk => ⟨.bl b, H, I.kept (t' := tk) fun _ _ z => z, rfl, q⟩
end
section
variable {X : Cx}
/-- tuple(a list or a tuple) -/
theorem call_tupleX : CallR X (.type "tuple") (fun xs H Q => ∃ a ys, xs = [.ref a] ∧ SqX H a ys ∧ ∀ l H', Same H H' → H' l = some (.tup ys) → Q (.ref l) H') := by
  intro pins s σ H xs us Q I r h
  obtain ⟨a, ys, rfl, hs, q⟩ := h
  refine call_tuple_of pins s σ H _ us Q I r ⟨a, ys, rfl, ?_⟩
  rcases hs with hs | hs
  · exact .inl ⟨SqL.of hs, fun l nl => q l _ (Same.new nl) upd_same⟩
  · exact .inr ⟨SqT.of hs, q a H (Same.refl H) hs⟩
theorem call_listX : CallR X (.type "list") (fun xs H Q => ∃ a ys, xs = [.ref a] ∧ SqX H a ys ∧ ∀ l H', Same H H' → H l = none → H' l = some (.lst ys) → Q (.ref l) H') := by
  intro pins s σ H xs us Q I r h
  obtain ⟨a, ys, rfl, hs, q⟩ := h
  refine call_list_of pins s σ H _ us Q I r ⟨a, ys, rfl, ?_, fun l nl => q l _ (Same.new nl) nl upd_same⟩
  rcases hs with hs | hs
  · exact .inl (SqL.of hs)
  · exact .inr (SqT.of hs)
theorem op_catX : OpR X (binaryOp .Add) (fun x y H Q => ∃ a b xs ys, x = .ref a ∧ y = .ref b ∧ H a = some (.tup xs) ∧ H b = some (.tup ys) ∧ xs.length + ys.length ≤ 1000 ∧ ∀ p H', Same H H' → H' p = some (.tup (xs ++ ys)) → Q (.ref p) H') := by
  intro pins s σ H x y v u Q I rx ry h
  obtain ⟨a, b, xs, ys, rfl, rfl, ha, hb, hl, q⟩ := h
  refine op_catA pins s σ H _ _ v u Q I rx ry ⟨a, b, xs, ys, rfl, rfl, SqT.of ha, SqT.of hb, fits hl, fun e => ?_, fun _ e => ?_, fun _ _ p np => q p _ (Same.new np) upd_same⟩
  · subst e
    exact q b H (Same.refl H) hb
  · subst e
    exact q a H (Same.refl H) (by rw [List.append_nil]; exact ha)
theorem sl_tupX : SlR X (fun x lo hi H Q => ∃ a xs, x = .ref a ∧ H a = some (.tup xs) ∧ ∀ p H', Same H H' → H' p = some (.tup (cutV xs lo hi)) → Q (.ref p) H') := by
  intro pins s σ H x v vl vu lo hi sl Q I rx hs pl pu h
  obtain ⟨a, xs, rfl, ha, q⟩ := h
  refine sl_tupA pins s σ H _ v vl vu lo hi sl Q I rx hs pl pu ⟨a, xs, rfl, SqT.of ha, fun w => ?_, fun _ p np => q p _ (Same.new np) upd_same⟩
  refine q a H (Same.refl H) ?_
  unfold cutV
  rw [w.1, w.2]
  simpa using ha
end
/-- an error class with an __init__ of its own that keeps f -/
structure XC (K : PySem.W.Frag) (mg : Str → Option Value) (C fI : Addr) (x f : Str) : Prop where
  oex : OexC K C
  init : PySem.W.findIn K (.ref C) "__init__" = some (some (.ref fI))
  tI : PySem.W.typeIn K (.ref fI) = some (.type "function")
  gC : mg x = some (.ref C)
  no : PySem.W.findIn K (.ref C) f = some none
  isC : ExcC K C
  xf : XfC K C
def spInit (K : PySem.W.Frag) (C : Addr) (f : Str) : Sp := fun vs H Q _ => ∃ (a : Addr) (v : V), vs = [.ref a, v] ∧ OexC K C ∧ PySem.W.findIn K (.ref C) f = some none ∧ H a = some (exo a C none) ∧
  ∀ dx, H dx = none → dx ≠ a → Q .non (upd (upd H dx (exd dx [(f, v)])) a (exo a C (some dx)))
/-- what raising such a class comes to -/
theorem raised_at {K : PySem.W.Frag} {C a : Addr} {f : Str} {H : Hp} {v : V} {Q : XK} (T : OexC K C) (no : PySem.W.findIn K (.ref C) f = some none) (ha : H a = none)
    (k : ∀ H' d, Same H H' → H d = none → H' d = some (.xd [(f, v)]) → Q (.ref C) (some d) H') :
    spInit K C f [.ref a, v] (upd H a (exo a C none)) (fun u H2 => u = .non ∧ ∃ (d : Addr) (fs : List (Str × V)), H2 a = some (exo a C (some d)) ∧ H2 d = some (exd d fs) ∧ H d = none ∧ Q (.ref C) (some d) (upd (del H2 a) d (.xd fs))) (fun _ _ _ => False) := by
  refine ⟨a, v, rfl, T, no, upd_same, fun dx hd ne => ?_⟩
  have hd' : H dx = none := by
    rw [upd_ne ne] at hd
    exact hd
  refine ⟨rfl, dx, _, upd_same, by rw [upd_ne ne, upd_same], hd', k _ dx (fun b o e => ?_) hd' upd_same⟩
  have nb : b ≠ a := ne_of_none e ha
  have nd : b ≠ dx := ne_of_none e hd'
  rw [upd_ne nd, del_ne nb, upd_ne nb, upd_ne nd, upd_ne nb]
  exact e
/-- what is raised -/
def Raised (D : Addr) (H : Hp) (v : V) (E : XK) : Prop := ∀ H' d, Same H H' → H d = none → H' d = some (.xd [("part", v)]) → E (.ref D) (some d) H'
theorem Raised.same {D : Addr} {H H' : Hp} {v : V} {E : XK} (s : Same H H') (h : Raised D H v E) : Raised D H' v E := fun G d s2 n e => h G d (s.trans s2) (s.free n) e
/-- all that is tracked beside b is as it was -/
def Kept (b : Addr) (H H' : Hp) : Prop := ∀ a o, a ≠ b → H a = some o → H' a = some o
theorem Kept.of_same {b : Addr} {H H' : Hp} (x : Same H H') : Kept b H H' := fun a o _ h => x a o h
theorem Kept.trans {b : Addr} {H H1 H2 : Hp} (x : Kept b H H1) (y : Kept b H1 H2) : Kept b H H2 := fun a o n h => y a o n (x a o n h)
theorem Kept.box {b : Addr} {H : Hp} {o : HO} : Kept b H (upd H b o) := fun a u n h => by rw [upd_ne n]; exact h
/-- what the class Row says of itself -/
structure RowC (K : PySem.W.Frag) (C : Addr) : Prop where
  cl : Cls K C
  tests : NoAttr K C "tests"
  deeds : NoAttr K C "deeds"
def rowF (t d : Addr) : List (Str × V) := putF "deeds" (.ref d) (putF "tests" (.ref t) [])
def spRowI (K : PySem.W.Frag) (C D : Addr) : Sp := fun vs H Q E => ∃ (p dx : Addr) (x y : V) (rt rd : Bool), vs = [.ref p, x, y] ∧ H p = some (.ins C dx []) ∧ AnsV progT yes K H x rt ∧ AnsV progD full K H y rd ∧
  (rt = true → rd = true → ∀ H' t d ys, Kept p H H' → H' p = some (.ins C dx (rowF t d)) → H' d = some (.tup ys) → 0 < ys.length → Q .non H') ∧ (rt = false → Raised D H (.str "tests") E) ∧ (rt = true → rd = false → Raised D H (.str "deeds") E)
abbrev sIR : Stmt := inClass (top 2) 0
abbrev sRowI : Stmt := inClass (top 20) 0
section
variable {P : Program} {w : World} {K : PySem.W.Frag} {mg : Str → Option Value} {base : Heap}
theorem scIR : FnScope ["self", "part"] ["self", "part"] (defScope sIR) := ⟨rfl, rfl, rfl, by decide +kernel, rfl, by decide +kernel, by decide +kernel⟩
theorem ok_iR {f C : Addr} {fd : FuncData} (F : Fun K "__init__" "InvalidRow.__init__" sIR f fd) : FnOk P w K mg base CX0 1 f fd ["self", "part"] (spInit K C "part") := by
  refine F.ok scIR (fun vs H Q E h => ?_) (fun cdv A outer s H vs Q E hr h => ?_)
  · obtain ⟨a, v, rfl, _⟩ := h
    rfl
  · obtain ⟨a, v, rfl, T, no, ha, k⟩ := h
    exact ⟨_, pss_one (ps_ost (pv 0) (pv 1)), _, rfl, _, rfl, a, C, rfl, T, no, .inl ⟨ha, fun dx h1 h2 => k dx h1 h2⟩⟩
theorem scRowI : FnScope ["self", "tests", "deeds"] ["self", "tests", "deeds"] (defScope sRowI) := ⟨rfl, rfl, rfl, by decide +kernel, rfl, by decide +kernel, by decide +kernel⟩
theorem ok_rowI {f fT fD fI C D : Addr} {fd fdT fdD fdI : FuncData} {dvs : List V} (F : FunD K "__init__" "Row.__init__" (defArgs sRowI) (defBody sRowI) (defScope sRowI) dvs [] f fd) (T : TxtK mg) (Z : RowC K C)
    (GT : FnOk P w K mg base CX0 2 fT fdT ["value"] (spAre progT yes K)) (gT : mg "are_tests" = some (.ref fT)) (kT : PySem.W.keepIn K (.ref fT) = true) (bT : Binds K fdT ["value"] [])
    (GD : FnOk P w K mg base CX0 2 fD fdD ["value"] (spAre progD full K)) (gD : mg "are_deeds" = some (.ref fD)) (kD : PySem.W.keepIn K (.ref fD) = true) (bD : Binds K fdD ["value"] [])
    (Y : XC K mg D fI "InvalidRow" "part") (GI : FnOk P w K mg base CX0 1 fI fdI ["self", "part"] (spInit K D "part")) (bI : Binds K fdI ["self", "part"] []) : FnOk P w K mg base (L2.CX P w) 3 f fd ["self", "tests", "deeds"] (spRowI K C D) := by
  refine F.ok scRowI (fun vs H Q E h => ?_) (fun cdv A outer s H vs Q E hr h => ?_)
  · obtain ⟨p, dx, x, y, rt, rd, rfl, _⟩ := h
    rfl
  · obtain ⟨p, dx, x, y, rt, rd, rfl, hp, ht, hd, k1, k2, k3⟩ := h
    refine ⟨_, (pss_cons (ps_if (pt_not (pt_val (pe_call GT hr (by rfl) gT kT bT .nil pass0 (pa_cons (pv 1) pa_nil))))
      (pss_one (ps_raise rfl (takes_of rfl rfl rfl rfl) (pmk_oex Y.oex Y.init Y.tI GI hr bI .nil pass0 (by rfl) Y.gC (pa_cons pe_str pa_nil))))
      pss_nil)
    (pss_cons (ps_if (pt_not (pt_val (pe_call GD hr (by rfl) gD kD bD .nil pass0 (pa_cons (pv 2) pa_nil))))
      (pss_one (ps_raise rfl (takes_of rfl rfl rfl rfl) (pmk_oex Y.oex Y.init Y.tI GI hr bI .nil pass0 (by rfl) Y.gC (pa_cons pe_str pa_nil))))
      pss_nil)
    (pss_cons (ps_fld (pv 0) (pe_callTy call_tupleX (by rfl) T.tuple (by decide +kernel) (pa_cons (pv 1) pa_nil)) rfl)
    (pss_one (ps_fld (pv 0) (pe_callTy call_tupleX (by rfl) T.tuple (by decide +kernel) (pa_cons (pv 2) pa_nil)) rfl))))), ?_⟩
    refine ⟨_, rfl, x, rt, rfl, ht, fun H1 s1 => ⟨_, rfl, ?_⟩⟩
    cases rt with
    | false =>
      exact iteY rfl ⟨by show 1 ≤ 1000; decide, fun a ha => raised_at Y.oex Y.no ha (k2 rfl |>.same s1)⟩
    | true =>
      refine iteN rfl ⟨_, rfl, y, rd, rfl, hd.same s1, fun H2 s2 => ⟨_, rfl, ?_⟩⟩
      cases rd with
      | false =>
        exact iteY rfl ⟨by show 1 ≤ 1000; decide, fun a ha => raised_at Y.oex Y.no ha (k3 rfl rfl |>.same (s1.trans s2))⟩
      | true =>
        refine iteN rfl ?_
        have s12 := s1.trans s2
        rcases ht with ⟨_, z⟩ | ⟨a, xs, bs, rfl, hx, _⟩
        · cases z
        rcases hd with ⟨_, z⟩ | ⟨c, ys, ds, rfl, hy, _, _, ey⟩
        · cases z
        have n0 : 0 < ys.length := of_decide_eq_true (Bool.and_eq_true_iff.mp ey.symm).1
        refine ⟨_, rfl, a, xs, rfl, hx.same s12, fun t H3 s3 h3 => ⟨_, rfl, p, C, dx, _, rfl, s3 _ _ (s12 _ _ hp), Z.cl, Z.tests, (by show 0 < 1000; decide), ?_⟩⟩
        have ncp : c ≠ p := by
          rcases hy with hy | hy
          · exact ne_of hy hp (fun z => nomatch z)
          · exact ne_of hy hp (fun z => nomatch z)
        have k4 : Kept p H (upd H3 p (.ins C dx (putF "tests" (.ref t) []))) := (Kept.of_same (s12.trans s3)).trans Kept.box
        have hy4 : SqX (upd H3 p (.ins C dx (putF "tests" (.ref t) []))) c ys := by
          rcases hy with hy | hy
          · exact .inl (k4 _ _ ncp hy)
          · exact .inr (k4 _ _ ncp hy)
        refine ⟨_, rfl, c, ys, rfl, hy4, fun d H5 s5 h5 => ⟨_, rfl, p, C, dx, _, rfl, s5 _ _ upd_same, Z.cl, Z.deeds, ?_, ?_⟩⟩
        · exact Nat.lt_of_le_of_lt (length_putF _ _ []) (by show 0 + 1 < 1000; decide)
        · have ndp : d ≠ p := ne_of h5 (s5 _ _ upd_same) (fun z => nomatch z)
          exact k1 rfl rfl _ t d ys ((k4.trans (Kept.of_same s5)).trans Kept.box) upd_same (by rw [upd_ne ndp]; exact h5) n0
end
end Lay
set_option Elab.async false
set_option linter.all false
set_option maxRecDepth 100000
set_option maxHeartbeats 4000000
namespace Lay
open PySem PySem.Spec PyProof.Rows L2
section
variable {X : Cx}
/-- xs == [], any xs -/
theorem op_eqNil (hu : X.A.units + 64 < cLine) : OpR X (compareOp .Eq) (fun x y H Q => ∃ a b xs, x = .ref a ∧ y = .ref b ∧ SqL X.K H a xs ∧ H b = some (.lst []) ∧ Q (.bl xs.isEmpty) H) := by
  intro pins s σ H x y v u Q I rx ry h
  obtain ⟨a, b, xs, rfl, rfl, ha, hb, q⟩ := h
  cases xs with
  | nil => exact op_eqD hu pins s σ H _ _ v u Q I rx ry ⟨.list [], .list [], .lst ha .nil, .lst (SqL.of hb) .nil, rfl, rfl, q⟩
  | cons z zs =>
    cases rx
    cases ry
    obtain ⟨its, r, p1, _⟩ := I.list ha
    obtain ⟨its2, r2, p2, _⟩ := I.list (SqL.of hb)
    cases r2
    refine SeqAt.eq_list_lengthsAt p1.isList p2.isList ?_ (by omega) ⟨.bl false, H, I, rfl, q⟩
    cases r
    rfl
end
section
variable {X : Cx} {K : PySem.W.Frag} {e : Expr} {ta : TE} {f : Str} {pos : Pos}
theorem pe_fldK (hK : X.K = K) (he : PE X e ta) (hb : attributeBase e f X.env (eval e X.env) = eval e X.env) : PE X (.Attribute e f pos) (tFld K ta f) := by
  subst hK
  exact pe_fld he hb
theorem call_lenK (hK : X.K = K) : CallR X (.builtin "len") (fun xs H Q => ∃ p ys, xs = [.ref p] ∧ (SqL K H p ys ∨ SqT K H p ys) ∧ Q (.int ys.length) H) := by
  subst hK
  exact call_len_seq
end
section
variable {X : Cx}
/-- xs != [], any xs -/
theorem op_neNil (hu : X.A.units + 64 < cLine) : OpR X (compareOp .NotEq) (fun x y H Q => ∃ a b xs, x = .ref a ∧ y = .ref b ∧ SqL X.K H a xs ∧ H b = some (.lst []) ∧ Q (.bl (!xs.isEmpty)) H) := by
  intro pins s σ H x y v u Q I rx ry h
  obtain ⟨a, b, xs, rfl, rfl, ha, hb, q⟩ := h
  cases xs with
  | nil => exact op_neD hu pins s σ H _ _ v u Q I rx ry ⟨.list [], .list [], .lst ha .nil, .lst (SqL.of hb) .nil, rfl, rfl, q⟩
  | cons z zs =>
    cases rx
    cases ry
    obtain ⟨its, r, p1, _⟩ := I.list ha
    obtain ⟨its2, r2, p2, _⟩ := I.list (SqL.of hb)
    cases r2
    have hsz : (its.toArray.size != ([] : List Value).toArray.size) = true := by
      cases r
      rfl
    exact (SeqAt.RcNeAt.lists_lengths p1.isList p2.isList hsz (by omega)) _ _ _ _ ⟨.bl true, H, I, rfl, q⟩
end
section
variable {X : Cx} {K : PySem.W.Frag}
theorem call_isiK (hK : X.K = K) : CallR X (.builtin "isinstance") (rIsi K) := by
  subst hK
  exact call_isi
theorem op_notInK (hK : X.K = K) : OpR X (compareOp .NotIn) (rIn K true) := by
  subst hK
  exact op_notIn_seq
end
theorem str_at {zs : List Str} {i : Nat} {x : V} (h : (zs.map V.str)[i]? = some x) : ∃ z, zs[i]? = some z ∧ x = V.str z := by
  rw [List.getElem?_map] at h
  cases q : zs[i]? with
  | none => rw [q] at h; cases h
  | some z => rw [q] at h; exact ⟨z, rfl, (Option.some.inj h).symm⟩
end Lay
set_option Elab.async false
set_option linter.all false
set_option maxRecDepth 100000
set_option maxHeartbeats 4000000
namespace Lay
open PySem L2
theorem K2.put {b gr p : Addr} {H G : Hp} {o : HO} (h : H p = none) (k : K2 b gr H G) : K2 b gr H (upd G p o) := fun a u n1 n2 e => by
  rw [upd_ne (ne_of_none e h)]
  exact k _ _ n1 n2 e
theorem BoxD.put {b gr p : Addr} {H : Hp} {o : HO} (n1 : p ≠ b) (n2 : p ≠ gr) (x : BoxD H b gr) : BoxD (upd H p o) b gr := by
  obtain ⟨⟨m, h1⟩, ns, h2, h3⟩ := x
  exact ⟨⟨m, by rw [upd_ne (Ne.symm n1)]; exact h1⟩, ns, by rw [upd_ne (Ne.symm n2)]; exact h2, h3⟩
theorem BoxD.tup_ne {b gr t : Addr} {H : Hp} {xs : List V} (x : BoxD H b gr) (h : H t = some (.tup xs)) : t ≠ b ∧ t ≠ gr := by
  obtain ⟨⟨m, h1⟩, ns, h2, _⟩ := x
  exact ⟨ne_of h h1 (fun z => nomatch z), ne_of h h2 (fun z => nomatch z)⟩
def drawT : List Str := ["broken", "marked", "left", "ahead", "behind", "blank", "long", "long", "first", "afterbroken", "afterbehind"]
def GoodT (z : Str) : Bool := progT z && (PyData.strOk z && decide (z.length ≤ 20))
def GoodD (z : Str) : Bool := progD z && decide (z.length ≤ 20)
theorem goodT_drawn : ∀ z ∈ drawT, GoodT z = true ∧ GoodT (Str.ofString "not " ++ z) = true ∧ z.length ≤ 20 := by decide +kernel
theorem goodD_drawn : ∀ z ∈ deedL, GoodD z = true := by decide +kernel
theorem mem_strs {zs : List Str} {v : V} (h : v ∈ zs.map V.str) : ∃ z, z ∈ zs ∧ v = V.str z := by
  obtain ⟨z, h1, h2⟩ := List.mem_map.mp h
  exact ⟨z, h1, h2.symm⟩
/-- texts drawn: a new tuple of good ones -/
def spDrawn (good : Str → Bool) (lo : Int) : Sp := fun vs H Q _ => ∃ (b gr : Addr) (m : Int), vs = [.ref b, .int m] ∧ BoxD H b gr ∧ 0 < m ∧ m ≤ 100 ∧
  ∀ (t : Addr) (ws : List Str) (H' : Hp), K2 b gr H H' → BoxD H' b gr → t ≠ b → t ≠ gr → H' t = some (.tup (ws.map V.str)) → lo ≤ ws.length → ws.length ≤ m → (∀ z ∈ ws, good z = true) → Q (.ref t) H'
abbrev sTests : Stmt := top 27
abbrev sDeeds : Stmt := top 28
def testsN : List Str := ["_law_box", "_law_most", "_law_every", "_law_found", "_law_turn", "_law_word"]
def deedsN : List Str := ["_law_box", "_law_most", "_law_every", "_law_turn"]
/-- the draws -/
structure Draws (P : Program) (w : World) (K : PySem.W.Frag) (mg : Str → Option Value) (base : Heap) (fT fK : Addr) (dT dK : FuncData) : Prop where
  range : mg "range" = none
  tuple : mg "tuple" = none
  okT : FnOk P w K mg base CX0 1 fT dT ["_law_box", "_law_wide"] spTake
  gT : mg "_law_take" = some (.ref fT)
  kT : PySem.W.keepIn K (.ref fT) = true
  bT : Binds K dT ["_law_box", "_law_wide"] []
  okK : FnOk P w K mg base CX0 2 fK dK ["_law_box", "_law_some"] (spPick K)
  gK : mg "_law_pick" = some (.ref fK)
  kK : PySem.W.keepIn K (.ref fK) = true
  bK : Binds K dK ["_law_box", "_law_some"] []
section
variable {P : Program} {w : World} {K : PySem.W.Frag} {mg : Str → Option Value} {base : Heap} {fT fK : Addr} {dT dK : FuncData}
theorem scTests : FnScope testsN ["_law_box", "_law_most"] (defScope sTests) := ⟨rfl, rfl, rfl, by decide +kernel, rfl, by decide +kernel, by decide +kernel⟩
theorem ok_tests {f : Addr} {fd : FuncData} (F : Fun K "_law_tests" "_law_tests" sTests f fd) (D : Draws P w K mg base fT fK dT dK) : FnOk P w K mg base CX0 3 f fd ["_law_box", "_law_most"] (spDrawn GoodT 0) := by
  refine F.ok scTests (fun vs H Q E h => ?_) (fun cdv A outer s H vs Q E hr h => ?_)
  · obtain ⟨b, gr, m, rfl, _⟩ := h
    rfl
  · obtain ⟨b, gr, m, rfl, bx, m0, m1, k⟩ := h
    have hr1 := hr.mono (show 1 ≤ 2 by decide)
    refine ⟨_, (pss_cons (ps_set (i := 2) scTests.nd rfl (.inl rfl) (pe_lst (pa_cons pe_str (pa_cons pe_str (pa_cons pe_str (pa_cons pe_str (pa_cons pe_str (pa_cons pe_str (pa_cons pe_str (pa_cons pe_str (pa_cons pe_str (pa_cons pe_str pa_nil))))))))))))
      (pss_cons (ps_set (i := 3) scTests.nd rfl (.inl rfl) (pe_lst pa_nil))
      (pss_cons (ps_for PassesOwn.never rfl (pi_range1 (by rfl) D.range (pa_cons (pe_call D.okT hr1 (by rfl) D.gT D.kT D.bT .nil pass0 (pa_cons (pv 0) (pa_cons (pe_op op_add (pv 1) pe_int) pa_nil))) pa_nil)) (pg_name (i := 4) scTests.nd rfl (.inl rfl))
        (pss_cons (ps_set (i := 5) scTests.nd rfl (.inl rfl) (pe_call D.okK hr (by rfl) D.gK D.kK D.bK .nil pass0 (pa_cons (pv 0) (pa_cons (pe_op op_cat (pv 2) (pe_lst (pa_cons pe_str pa_nil))) pa_nil))))
        (pss_one (ps_expr (pe_bm PySem.F.plainAttrs_list PySem.F.slot_list_append PySem.F.type_list_append mt_append (pv 3) (pa_cons (pe_ifExp (pt_cmpR op_eq (pe_call D.okT hr1 (by rfl) D.gT D.kT D.bT .nil pass0 (pa_cons (pv 0) (pa_cons pe_int pa_nil))) pe_int (nomark _)) (pe_op op_add_str pe_str (pv 5)) (pv 5)) pa_nil))))))
      (pss_one (ps_ret (pe_callTy call_tupleX (by rfl) D.tuple (by decide +kernel) (pa_cons (pv 3) pa_nil))))))), ?_⟩
    refine ⟨(by show 10 ≤ sizeLine; decide), fun e1 n1 => ⟨(by show 0 ≤ sizeLine; exact Nat.zero_le _), fun f1 n2 => ?_⟩⟩
    have s1 := (Same.new n1 (o := .lst ((drawT.take 10).map V.str))).trans (Same.new n2 (o := .lst []))
    have e1b := bx.fresh n1
    have f1b := (bx.same (Same.new n1 (o := .lst ((drawT.take 10).map V.str)))).fresh n2
    have h1 : upd H e1 (.lst ((drawT.take 10).map V.str)) e1 = some (.lst ((drawT.take 10).map V.str)) := upd_same
    have ef : e1 ≠ f1 := ne_of_none h1 n2
    have nf : H f1 = none := (Same.new n1).free n2
    refine ⟨_, rfl, _, rfl, _, _, rfl, rfl, b, gr, m + 1, rfl, bx.same s1, by omega, by omega, fun r G r0 r1 bG kG => ?_⟩
    have kHG := (K2.of_same s1).trans kG
    refine ⟨r, rfl, by omega, by omega, for_range (lo := 0) (n := r.toNat) (fun i σ G' => ∃ (x4 x5 : Option V) (ws : List Str), σ = [some (.ref b), some (.int m), some (.ref e1), some (.ref f1), x4, x5] ∧ K2 b gr H G' ∧ BoxD G' b gr ∧ G' e1 = some (.lst ((drawT.take 10).map V.str)) ∧ G' f1 = some (.lst (ws.map V.str)) ∧ ws.length = i ∧ ∀ z ∈ ws, GoodT z = true)
      ⟨_, _, [], rfl, kHG, bG, kG _ _ e1b.1 e1b.2 (Same.new n2 _ _ h1), kG _ _ f1b.1 f1b.2 upd_same, rfl, fun z hz => (List.not_mem_nil hz).elim⟩ ?_ ?_⟩
    · rintro i σ G2 hi ⟨x4, x5, ws, rfl, k2, b2, he, hf, hl, hg⟩
      refine ⟨_, rfl, _, rfl, (by show 1 ≤ sizeLine; decide), fun q nq => ⟨e1, q, _, _, rfl, rfl, Same.new nq _ _ he, upd_same, (by show 11 ≤ sizeLine; decide), fun q2 nq2 => ?_⟩⟩
      have sq := (Same.new nq (o := .lst [.str "afterbehind"])).trans (Same.new nq2 (o := .lst ((drawT.take 10).map V.str ++ [.str "afterbehind"])))
      have bq := b2.same (Same.new nq (o := .lst [.str "afterbehind"]))
      have q2b := bq.fresh nq2
      refine ⟨b, gr, q2, drawT.map V.str, rfl, b2.same sq, q2b.1, q2b.2, .inl upd_same, (by show 0 < 11; decide), (by show 11 ≤ 1000; decide), fun v G3 hv b3 k3 => ?_⟩
      obtain ⟨z, hz, rfl⟩ := mem_strs hv
      obtain ⟨g1, g2, g3⟩ := goodT_drawn z hz
      have k23 := (k2.trans (K2.of_same sq)).trans k3
      have he3 := k3 _ _ e1b.1 e1b.2 (sq _ _ he)
      have hf3 := k3 _ _ f1b.1 f1b.2 (sq _ _ hf)
      refine ⟨_, rfl, .inl ⟨rfl, _, SqL.of hf3⟩, _, rfl, b, gr, 3, rfl, b3, by decide, by decide, fun r3 G4 r30 r31 b4 k4 => ⟨rfl, _, rfl, ?_⟩⟩
      have k24 := k23.trans k4
      have he4 := k4 _ _ e1b.1 e1b.2 he3
      have hf4 := k4 _ _ f1b.1 f1b.2 hf3
      have fin : ∀ y, GoodT y = true → K2 b gr H (upd G4 f1 (.lst (ws.map V.str ++ [.str y]))) ∧ BoxD (upd G4 f1 (.lst (ws.map V.str ++ [.str y]))) b gr ∧ (upd G4 f1 (.lst (ws.map V.str ++ [.str y]))) e1 = some (.lst ((drawT.take 10).map V.str)) ∧ (upd G4 f1 (.lst (ws.map V.str ++ [.str y]))) f1 = some (.lst ((ws ++ [y]).map V.str)) ∧ (ws ++ [y]).length = i + 1 ∧ ∀ z ∈ ws ++ [y], GoodT z = true := fun y hy =>
        ⟨k24.put nf, b4.put f1b.1 f1b.2, by rw [upd_ne ef]; exact he4, by rw [upd_same, List.map_append]; rfl, by rw [List.length_append, hl]; rfl, fun x hx => by
          rcases List.mem_append.mp hx with hx | hx
          · exact hg x hx
          · rw [List.mem_singleton] at hx
            rw [hx]
            exact hy⟩
      refine ite2 (fun _ => ?_) (fun _ => ?_)
      · refine ⟨_, rfl, _, _, rfl, rfl, fits (by show 4 + z.length ≤ 1000; omega), f1, _, _, rfl, rfl, hf4, by rw [List.length_map, hl]; exact small1000 (by omega), ?_⟩
        obtain ⟨a1, a2, a3, a4, a5, a6⟩ := fin _ g2
        exact ⟨_, _, ws ++ [_], rfl, a1, a2, a3, a4, a5, a6⟩
      · refine ⟨_, rfl, f1, _, _, rfl, rfl, hf4, by rw [List.length_map, hl]; exact small1000 (by omega), ?_⟩
        obtain ⟨a1, a2, a3, a4, a5, a6⟩ := fin _ g1
        exact ⟨_, _, ws ++ [_], rfl, a1, a2, a3, a4, a5, a6⟩
    · rintro σ G2 ⟨x4, x5, ws, rfl, k2, b2, he, hf, hl, hg⟩
      refine ⟨_, rfl, f1, _, rfl, .inl hf, fun t H' st ht => ?_⟩
      have bt := b2.same st
      exact k t ws H' (k2.trans (K2.of_same st)) bt (bt.tup_ne ht).1 (bt.tup_ne ht).2 ht (by omega) (by omega) hg
theorem scDeeds : FnScope deedsN ["_law_box", "_law_most"] (defScope sDeeds) := ⟨rfl, rfl, rfl, by decide +kernel, rfl, by decide +kernel, by decide +kernel⟩
theorem ok_deeds {f : Addr} {fd : FuncData} (F : Fun K "_law_deeds" "_law_deeds" sDeeds f fd) (D : Draws P w K mg base fT fK dT dK) : FnOk P w K mg base CX0 3 f fd ["_law_box", "_law_most"] (spDrawn GoodD 1) := by
  refine F.ok scDeeds (fun vs H Q E h => ?_) (fun cdv A outer s H vs Q E hr h => ?_)
  · obtain ⟨b, gr, m, rfl, _⟩ := h
    rfl
  · obtain ⟨b, gr, m, rfl, bx, m0, m1, k⟩ := h
    have hr1 := hr.mono (show 1 ≤ 2 by decide)
    refine ⟨_, (pss_cons (ps_set (i := 2) scDeeds.nd rfl (.inr rfl) (pe_lst (pa_cons pe_str (pa_cons pe_str (pa_cons pe_str (pa_cons pe_str (pa_cons pe_str (pa_cons pe_str (pa_cons pe_str (pa_cons pe_str pa_nil))))))))))
      (pss_one (ps_ret (pe_callTy call_tupleX (by rfl) D.tuple (by decide +kernel) (pa_cons (pe_lc (own := [("_law_turn", 3)]) (g := gName 3) (tt := tYes) (by rfl) scDeeds.nd (pi_range1 (by rfl) D.range (pa_cons (pe_op op_add pe_int (pe_call D.okT hr1 (by rfl) D.gT D.kT D.bT .nil pass0 (pa_cons (pv 0) (pa_cons (pv 1) pa_nil)))) pa_nil)) (blkOk_by (N := deedsN) (sc := defScope sDeeds) (by decide +kernel)) (fun _ _ _ _ _ => pg_name (i := 3) scDeeds.nd rfl (Or.inl rfl)) (fun _ _ _ _ _ => pts_nil)
        (fun _ _ _ _ _ => pe_call D.okK hr (by rfl) D.gK D.kK D.bK .nil pass0 (pa_cons (pv 0) (pa_cons (pv 2) pa_nil)))) pa_nil))))), ?_⟩
    refine ⟨(by show 8 ≤ sizeLine; decide), fun e1 n1 => ?_⟩
    have s1 := Same.new n1 (o := .lst (deedL.map V.str))
    have e1b := bx.fresh n1
    have h1 : upd H e1 (.lst (deedL.map V.str)) e1 = some (.lst (deedL.map V.str)) := upd_same
    refine ⟨_, rfl, _, rfl, b, gr, m, rfl, bx.same s1, m0, by omega, fun r G r0 r1 bG kG => ?_⟩
    have kHG := (K2.of_same s1).trans kG
    refine ⟨_, _, rfl, rfl, 1 + r, rfl, by omega, by omega, fun D1 nD => lc_range (lo := 0) (n := (1 + r).toNat) (fun i G' => ∃ ws : List Str, K2 b gr H G' ∧ BoxD G' b gr ∧ G' e1 = some (.lst (deedL.map V.str)) ∧ G' D1 = some (.lst (ws.map V.str)) ∧ ws.length = i ∧ ∀ z ∈ ws, GoodD z = true)
      ⟨[], kHG.trans (K2.of_same (Same.new nD)), bG.same (Same.new nD), Same.new nD _ _ (kG _ _ e1b.1 e1b.2 h1), upd_same, rfl, fun z hz => (List.not_mem_nil hz).elim⟩ ?_ ?_⟩
    · rintro i G2 hi ⟨ws, k2, b2, he, hD, hl, hg⟩
      have Db := bG.fresh nD
      have De : e1 ≠ D1 := ne_of_none (kG _ _ e1b.1 e1b.2 h1) nD
      refine ⟨rfl, _, rfl, _, rfl, b, gr, e1, deedL.map V.str, rfl, b2, e1b.1, e1b.2, .inl he, (by show 0 < 8; decide), (by show 8 ≤ 1000; decide), fun v G3 hv b3 k3 => ?_⟩
      obtain ⟨z, hz, rfl⟩ := mem_strs hv
      refine ⟨_, k3 _ _ Db.1 Db.2 hD, by rw [List.length_map, hl]; exact small1000 (by omega), ws ++ [z], ?_, b3.put Db.1 Db.2, by rw [upd_ne De]; exact k3 _ _ e1b.1 e1b.2 he, by rw [upd_same, List.map_append]; rfl, by rw [List.length_append, hl]; rfl, fun x hx => ?_⟩
      · have nDH : H D1 = none := by
          cases q : H D1 with
          | none => rfl
          | some o =>
            have := kHG _ _ Db.1 Db.2 q
            rw [this] at nD
            cases nD
        exact (k2.trans k3).put nDH
      · rcases List.mem_append.mp hx with hx | hx
        · exact hg x hx
        · rw [List.mem_singleton] at hx
          rw [hx]
          exact goodD_drawn z hz
    · rintro G2 ⟨ws, k2, b2, he, hD, hl, hg⟩
      refine ⟨D1, _, rfl, .inl hD, fun t H' st ht => ?_⟩
      have bt := b2.same st
      exact k t ws H' (k2.trans (K2.of_same st)) bt (bt.tup_ne ht).1 (bt.tup_ne ht).2 ht (by omega) (by omega) hg
end
end Lay
set_option Elab.async false
set_option linter.all false
set_option maxRecDepth 100000
set_option maxHeartbeats 4000000
namespace Lay
open PySem L2
/-- a pair of tests and deeds -/
def PairAt (G : Hp) (v : V) : Prop := ∃ (p t d : Addr) (ws us : List Str), v = .ref p ∧ G p = some (.tup [.ref t, .ref d]) ∧ G t = some (.tup (ws.map V.str)) ∧ G d = some (.tup (us.map V.str)) ∧ (∀ z ∈ ws, GoodT z = true) ∧ (∀ z ∈ us, GoodD z = true) ∧ ws.length ≤ 10 ∧ us.length ≤ 10 ∧ 0 < us.length
theorem PairAt.same {G G' : Hp} {v : V} (s : Same G G') (h : PairAt G v) : PairAt G' v := by
  obtain ⟨p, t, d, ws, us, e, h1, h2, h3, h4⟩ := h
  exact ⟨p, t, d, ws, us, e, s _ _ h1, s _ _ h2, s _ _ h3, h4⟩
theorem PairAt.k2 {b gr : Addr} {G G' : Hp} {v : V} (x : BoxD G b gr) (k : K2 b gr G G') (h : PairAt G v) : PairAt G' v := by
  obtain ⟨p, t, d, ws, us, e, h1, h2, h3, h4⟩ := h
  exact ⟨p, t, d, ws, us, e, k _ _ (x.tup_ne h1).1 (x.tup_ne h1).2 h1, k _ _ (x.tup_ne h2).1 (x.tup_ne h2).2 h2, k _ _ (x.tup_ne h3).1 (x.tup_ne h3).2 h3, h4⟩
theorem PairAt.lset {D : Addr} {G : Hp} {v : V} {xs ys : List V} (hD : G D = some (.lst xs)) (h : PairAt G v) : PairAt (upd G D (.lst ys)) v := by
  obtain ⟨p, t, d, ws, us, e, h1, h2, h3, h4⟩ := h
  exact ⟨p, t, d, ws, us, e, by rw [upd_ne (ne_of h1 hD (fun z => nomatch z))]; exact h1, by rw [upd_ne (ne_of h2 hD (fun z => nomatch z))]; exact h2, by rw [upd_ne (ne_of h3 hD (fun z => nomatch z))]; exact h3, h4⟩
def tStrs : List Str → TA
  | [] => tNil
  | w :: ws => tCons (tC (.str w)) (tStrs ws)
theorem tStrs_of : ∀ (ws : List Str) (σ : St) (H : Hp) (Q : List V → Hp → Prop), Q (ws.map V.str) H → tStrs ws σ H Q
  | [], _, _, _, h => h
  | w :: ws, σ, H, Q, h => tStrs_of ws σ H (fun vs H' => Q (.str w :: vs) H') h
def tPair : TE := fun σ H Q => ∀ p H', Same H H' → PairAt H' (.ref p) → Q (.ref p) H'
section
variable {X : Cx}
theorem pe_mono {e : Expr} {t t' : TE} (h : PE X e t) (m : ∀ σ H Q, t' σ H Q → t σ H Q) : PE X e t' := ⟨fun pins s σ H Q I q => h.run pins s σ H Q I (m σ H Q q)⟩
theorem pe_pair {es1 es2 : List Expr} {x1 x2 x3} {p1 p2 p3 : Pos} {ws us : List Str} (ha : PA X es1 (tStrs ws)) (hb : PA X es2 (tStrs us)) (gw : ∀ z ∈ ws, GoodT z = true) (gu : ∀ z ∈ us, GoodD z = true) (lw : ws.length ≤ 10) (lu : us.length ≤ 10) (nu : 0 < us.length) :
    PE X (.Tuple [.Tuple es1 x1 p1, .Tuple es2 x2 p2] x3 p3) tPair := by
  refine pe_mono (pe_tup (pa_cons (pe_tup ha) (pa_cons (pe_tup hb) pa_nil))) fun σ H Q q => ?_
  refine tStrs_of ws σ H _ ⟨by rw [List.length_map]; exact fits (by omega), fun t nt => tStrs_of us σ _ _ ⟨by rw [List.length_map]; exact fits (by omega), fun d nd => ⟨by show 2 ≤ sizeLine; decide, fun p np => ?_⟩⟩⟩
  have s1 := Same.new nt (o := .tup (ws.map V.str))
  have s2 := Same.new nd (o := .tup (us.map V.str))
  have s3 := Same.new np (o := .tup [.ref t, .ref d])
  exact q p _ ((s1.trans s2).trans s3) ⟨p, t, d, ws, us, rfl, upd_same, s3 _ _ (s2 _ _ upd_same), s3 _ _ upd_same, gw, gu, lw, lu, nu⟩
end
def spMixed (K : PySem.W.Frag) : Sp := fun vs H Q _ => ∃ (b gr a : Addr) (xs : List V), vs = [.ref b, .ref a] ∧ BoxD H b gr ∧ H a = some (.lst xs) ∧ xs.length ≤ 1000 ∧
  ∀ (p : Addr) (ys : List V) (H' : Hp), K2 b gr H H' → BoxD H' b gr → p ≠ b → p ≠ gr → H' p = some (.lst ys) → ys.length ≤ 1000 → (∀ y ∈ ys, y ∈ xs) → Q (.ref p) H'
def spUsual : Sp := fun vs H Q _ => ∃ (b gr : Addr), vs = [.ref b] ∧ BoxD H b gr ∧
  ∀ (q : Addr) (ys : List V) (H' : Hp), K2 b gr H H' → BoxD H' b gr → q ≠ b → q ≠ gr → H' q = some (.lst ys) → ys.length ≤ 1000 → (∀ y ∈ ys, PairAt H' y) → Q (.ref q) H'
def spTool : Sp := fun vs H Q _ => ∃ (b gr : Addr) (m : Int), vs = [.ref b, .int m] ∧ BoxD H b gr ∧ 0 ≤ m ∧ m ≤ 100 ∧
  ∀ (q r : Addr) (s : Bool) (ys : List V) (H' : Hp), K2 b gr H H' → BoxD H' b gr → H' q = some (.tup [.ref r, .bl s]) → H' r = some (.tup ys) → (ys.length : Int) ≤ m → (∀ y ∈ ys, PairAt H' y) → Q (.ref q) H'
abbrev sMixed : Stmt := top 26
abbrev sUsual : Stmt := top 29
abbrev sTool : Stmt := top 30
section
variable {P : Program} {w : World} {K : PySem.W.Frag} {mg : Str → Option Value} {base : Heap} {fT fK : Addr} {dT dK : FuncData}
theorem scMixed : FnScope ["_law_box", "_law_some", "_law_left", "_law_found"] ["_law_box", "_law_some"] (defScope sMixed) := ⟨rfl, rfl, rfl, by decide +kernel, rfl, by decide +kernel, by decide +kernel⟩
theorem ok_mixed {f : Addr} {fd : FuncData} (F : Fun K "_law_mixed" "_law_mixed" sMixed f fd) (D : Draws P w K mg base fT fK dT dK) (hlist : mg "list" = none) (hlen : mg "len" = none) : FnOk P w K mg base CX0 2 f fd ["_law_box", "_law_some"] (spMixed K) := by
  refine F.ok scMixed (fun vs H Q E h => ?_) (fun cdv A outer s H vs Q E hr h => ?_)
  · obtain ⟨b, gr, a, xs, rfl, _⟩ := h
    rfl
  · obtain ⟨b, gr, a, xs, rfl, bx, ha, hl, k⟩ := h
    refine ⟨_, (pss_cons (ps_par (i := 2) (j := 3) (by rfl) scMixed.nd rfl rfl (by decide) rfl rfl (pa_cons (pe_callTy call_listX (by rfl) hlist (by decide +kernel) (pa_cons (pv 1) pa_nil)) (pa_cons (pe_lst pa_nil) pa_nil)) (by rfl))
      (pss_cons (ps_while PassesOwn.never (pt_cmpR (op_neNil hr.units) (pv 2) (pe_lst pa_nil) (nomark _))
        (pss_one (ps_expr (pe_bm PySem.F.plainAttrs_list PySem.F.slot_list_append PySem.F.type_list_append mt_append (pv 3) (pa_cons (pe_bm PySem.F.plainAttrs_list PySem.F.slot_list_pop PySem.F.type_list_pop mt_popAt (pv 2) (pa_cons (pe_call D.okT hr (by rfl) D.gT D.kT D.bT .nil pass0 (pa_cons (pv 0) (pa_cons (pe_callB call_len_seq (by rfl) hlen PySem.boot_len (pa_cons (pv 2) pa_nil)) pa_nil))) pa_nil)) pa_nil)))))
      (pss_one (ps_ret (pv 3))))), ?_⟩
    refine ⟨_, rfl, a, xs, rfl, .inl ha, fun l H1 s1 nl hl1 => ⟨(by show 0 ≤ sizeLine; exact Nat.zero_le _), fun f1 nf => ⟨_, _, rfl, ?_⟩⟩⟩
    have lb := bx.fresh nl
    have bx1 := bx.same s1
    have fb := bx1.fresh nf
    have nlf : l ≠ f1 := ne_of_none hl1 nf
    have sf := Same.new nf (o := .lst [])
    refine ⟨fun n σ G => ∃ ls fs : List V, n = ls.length ∧ σ = [some (.ref b), some (.ref a), some (.ref l), some (.ref f1)] ∧ K2 b gr H G ∧ BoxD G b gr ∧ G l = some (.lst ls) ∧ G f1 = some (.lst fs) ∧ ls.length + fs.length = xs.length ∧ (∀ y ∈ ls, y ∈ xs) ∧ ∀ y ∈ fs, y ∈ xs,
      ⟨_, xs, [], rfl, rfl, K2.of_same (s1.trans sf), bx1.same sf, sf _ _ hl1, upd_same, by simp, fun y hy => hy, fun y hy => (List.not_mem_nil hy).elim⟩, ?_⟩
    rintro n σ G ⟨ls, fs, rfl, rfl, kG, bG, hls, hfs, hlen2, m1, m2⟩
    refine ⟨_, rfl, (by show 0 ≤ sizeLine; exact Nat.zero_le _), fun q nq => ⟨l, q, ls, rfl, rfl, SqL.of (Same.new nq _ _ hls), upd_same, _, rfl, ?_⟩⟩
    have sq := Same.new nq (o := .lst [])
    have nHl : ∀ {p : Addr}, p = l ∨ p = f1 → H p = none := fun h => by
      rcases h with rfl | rfl
      · exact nl
      · exact s1.free nf
    cases ls with
    | nil =>
      refine iteN rfl ⟨_, rfl, k f1 fs _ (kG.trans (K2.of_same sq)) (bG.same sq) fb.1 fb.2 (sq _ _ hfs) (by simp at hlen2; omega) m2⟩
    | cons y0 ls0 =>
      refine iteY rfl ⟨fun σ' G' => ∃ ls' fs' : List V, ls'.length < (y0 :: ls0).length ∧ σ' = [some (.ref b), some (.ref a), some (.ref l), some (.ref f1)] ∧ K2 b gr H G' ∧ BoxD G' b gr ∧ G' l = some (.lst ls') ∧ G' f1 = some (.lst fs') ∧ ls'.length + fs'.length = xs.length ∧ (∀ y ∈ ls', y ∈ xs) ∧ ∀ y ∈ fs', y ∈ xs,
        fun σ' G' ⟨ls', fs', lt, e1, r⟩ => ⟨_, lt, ls', fs', rfl, e1, r⟩, ?_⟩
      have hl2 := sq _ _ hls
      have hf2 := sq _ _ hfs
      refine ⟨_, rfl, .inl ⟨rfl, _, SqL.of hf2⟩, _, rfl, .inl ⟨rfl, _, SqL.of hl2⟩, _, rfl, _, rfl, l, _, rfl, .inl (SqL.of hl2), b, gr, _, rfl, bG.same sq, by simp, ?_, fun r G3 r0 r1 b3 k3 => ?_⟩
      · have : (y0 :: ls0).length ≤ 1000 := by omega
        omega
      have hl3 := k3 _ _ lb.1 lb.2 hl2
      have hf3 := k3 _ _ fb.1 fb.2 hf2
      have hr' : r.toNat < (y0 :: ls0).length := by omega
      have er : r = ((r.toNat : Nat) : Int) := by omega
      obtain ⟨j, e1, e2, e3, e4, e5⟩ := atI_get (at_of er (by simp [hr'] : (y0 :: ls0)[r.toNat]? = some (y0 :: ls0)[r.toNat]))
      have l1000 : (y0 :: ls0).length ≤ 1000 := by omega
      refine ⟨l, _, r, j, _, rfl, rfl, hl3, by omega, by omega, e1, e2, f1, fs, _, rfl, rfl, ?_, small1000 (by omega), ?_⟩
      · rw [upd_ne (Ne.symm nlf)]
        exact hf3
      · have le : ((y0 :: ls0).eraseIdx j).length + 1 = (y0 :: ls0).length := by
          rw [List.length_eraseIdx_of_lt e3]
          have : 0 < (y0 :: ls0).length := by simp
          omega
        refine ⟨(y0 :: ls0).eraseIdx j, fs ++ [_], by omega, rfl, ((((kG.trans (K2.of_same sq)).trans k3).put (nHl (.inl rfl))).put (nHl (.inr rfl))), (b3.put lb.1 lb.2).put fb.1 fb.2, ?_, upd_same, ?_, fun y hy => m1 y (List.mem_of_mem_eraseIdx hy), fun y hy => ?_⟩
        · rw [upd_ne nlf]
          exact upd_same
        · rw [List.length_append]
          show _ + (_ + 1) = _
          omega
        · rcases List.mem_append.mp hy with hy | hy
          · exact m2 y hy
          · rw [List.mem_singleton] at hy
            rw [hy]
            exact m1 _ (List.getElem_mem hr')
end
end Lay
set_option Elab.async false
set_option linter.all false
set_option maxRecDepth 100000
set_option maxHeartbeats 4000000
namespace Lay
open PySem L2
theorem mem_cut {xs : List V} {lo hi : Option Int} {x : V} (h : x ∈ cutV xs lo hi) : x ∈ xs := List.mem_of_mem_drop (List.mem_of_mem_take h)
theorem cut_few {xs : List V} {m : Int} (h : 0 ≤ m) : ((cutV xs none (some m)).length : Int) ≤ m := by
  obtain ⟨n, rfl⟩ := Int.eq_ofNat_of_zero_le h
  unfold cutV
  rw [HT.sIx_none, HT.sIx_nat, List.length_take]
  omega
section
variable {P : Program} {w : World} {K : PySem.W.Frag} {mg : Str → Option Value} {base : Heap} {fT fK : Addr} {dT dK : FuncData}
theorem scUsual : FnScope ["_law_box", "_law_some"] ["_law_box"] (defScope sUsual) := ⟨rfl, rfl, rfl, by decide +kernel, rfl, by decide +kernel, by decide +kernel⟩
theorem ok_usual {f fM : Addr} {fd fdM : FuncData} (F : Fun K "_law_usual" "_law_usual" sUsual f fd) (D : Draws P w K mg base fT fK dT dK) (GM : FnOk P w K mg base CX0 2 fM fdM ["_law_box", "_law_some"] (spMixed K)) (gM : mg "_law_mixed" = some (.ref fM)) (kM : PySem.W.keepIn K (.ref fM) = true) (bM : Binds K fdM ["_law_box", "_law_some"] []) :
    FnOk P w K mg base CX0 3 f fd ["_law_box"] spUsual := by
  refine F.ok scUsual (fun vs H Q E h => ?_) (fun cdv A outer s H vs Q E hr h => ?_)
  · obtain ⟨b, gr, rfl, _⟩ := h
    rfl
  · obtain ⟨b, gr, rfl, bx, k⟩ := h
    have hr1 := hr.mono (show 1 ≤ 2 by decide)
    refine ⟨_, (pss_cons (ps_set (i := 1) scUsual.nd rfl (.inl rfl) (pe_lst (pa_cons (pe_pair (ws := ["long"]) (us := ["break", "mark"]) (pa_cons pe_str pa_nil) (pa_cons pe_str (pa_cons pe_str pa_nil)) (by decide +kernel) (by decide +kernel) (by decide) (by decide) (by decide)) (pa_cons (pe_pair (ws := ["marked"]) (us := ["break"]) (pa_cons pe_str pa_nil) (pa_cons pe_str pa_nil) (by decide +kernel) (by decide +kernel) (by decide) (by decide) (by decide)) (pa_cons (pe_pair (ws := ["not long", "not marked"]) (us := ["join"]) (pa_cons pe_str (pa_cons pe_str pa_nil)) (pa_cons pe_str pa_nil) (by decide +kernel) (by decide +kernel) (by decide) (by decide) (by decide)) pa_nil)))))
      (pss_cons (ps_set (i := 1) scUsual.nd rfl (.inl rfl) (pe_op op_cat (pv 1) (pe_lst (pa_cons (pe_pair (ws := ["behind", "long"]) (us := ["lift"]) (pa_cons pe_str (pa_cons pe_str pa_nil)) (pa_cons pe_str pa_nil) (by decide +kernel) (by decide +kernel) (by decide) (by decide) (by decide)) (pa_cons (pe_pair (ws := ["ahead", "not long"]) (us := ["lower"]) (pa_cons pe_str (pa_cons pe_str pa_nil)) (pa_cons pe_str pa_nil) (by decide +kernel) (by decide +kernel) (by decide) (by decide) (by decide)) (pa_cons (pe_pair (ws := ["first"]) (us := ["close"]) (pa_cons pe_str pa_nil) (pa_cons pe_str pa_nil) (by decide +kernel) (by decide +kernel) (by decide) (by decide) (by decide)) pa_nil))))))
      (pss_cons (ps_set (i := 1) scUsual.nd rfl (.inl rfl) (pe_op op_cat (pv 1) (pe_lst (pa_cons (pe_pair (ws := ["afterbroken"]) (us := ["space"]) (pa_cons pe_str pa_nil) (pa_cons pe_str pa_nil) (by decide +kernel) (by decide +kernel) (by decide) (by decide) (by decide)) (pa_cons (pe_pair (ws := ["broken"]) (us := ["mark"]) (pa_cons pe_str pa_nil) (pa_cons pe_str pa_nil) (by decide +kernel) (by decide +kernel) (by decide) (by decide) (by decide)) (pa_cons (pe_pair (ws := ["not left"]) (us := ["unmark"]) (pa_cons pe_str pa_nil) (pa_cons pe_str pa_nil) (by decide +kernel) (by decide +kernel) (by decide) (by decide) (by decide)) pa_nil))))))
      (pss_one (ps_ret (pe_slice sl_list (pe_call GM hr (by rfl) gM kM bM .nil pass0 (pa_cons (pv 0) (pa_cons (pv 1) pa_nil))) po_none (po_some (pe_op op_add pe_int (pe_call D.okT hr1 (by rfl) D.gT D.kT D.bT .nil pass0 (pa_cons (pv 0) (pa_cons pe_int pa_nil))))))))))), ?_⟩
    refine fun p1 H1 s1 a1 => fun p2 H2 s2 a2 => fun p3 H3 s3 a3 => ⟨(by show 3 ≤ sizeLine; decide), fun l3 nl3 => ?_⟩
    refine ⟨_, rfl, ?_⟩
    refine fun p4 H4 s4 a4 => fun p5 H5 s5 a5 => fun p6 H6 s6 a6 => ⟨(by show 3 ≤ sizeLine; decide), fun l6 nl6 => ?_⟩
    have c3 := Same.new nl3 (o := .lst [.ref p1, .ref p2, .ref p3])
    have c6 := Same.new nl6 (o := .lst [.ref p4, .ref p5, .ref p6])
    refine ⟨l3, l6, _, _, rfl, rfl, c6 _ _ (s6 _ _ (s5 _ _ (s4 _ _ upd_same))), upd_same, (by show 6 ≤ sizeLine; decide), fun m6 nm6 => ?_⟩
    have c66 := Same.new nm6 (o := .lst ([.ref p1, .ref p2, .ref p3] ++ [.ref p4, .ref p5, .ref p6]))
    refine ⟨_, rfl, ?_⟩
    refine fun p7 H7 s7 a7 => fun p8 H8 s8 a8 => fun p9 H9 s9 a9 => ⟨(by show 3 ≤ sizeLine; decide), fun l9 nl9 => ?_⟩
    have c9 := Same.new nl9 (o := .lst [.ref p7, .ref p8, .ref p9])
    refine ⟨m6, l9, _, _, rfl, rfl, c9 _ _ (s9 _ _ (s8 _ _ (s7 _ _ upd_same))), upd_same, (by show 9 ≤ sizeLine; decide), fun m9 nm9 => ?_⟩
    have c99 := Same.new nm9 (o := .lst (([.ref p1, .ref p2, .ref p3] ++ [.ref p4, .ref p5, .ref p6]) ++ [.ref p7, .ref p8, .ref p9]))
    have t9 := c9.trans c99
    have t8 := s9.trans t9
    have t7 := s8.trans t8
    have t6 := (c6.trans c66).trans (s7.trans t7)
    have t5 := s6.trans t6
    have t4 := s5.trans t5
    have t3 := c3.trans (s4.trans t4)
    have t2 := s3.trans t3
    have t1 := s2.trans t2
    have t0 := s1.trans t1
    have b9 := bx.same t0
    have n9 := (bx.same (s1.trans (s2.trans (s3.trans (c3.trans (s4.trans (s5.trans (s6.trans ((c6.trans c66).trans (s7.trans (s8.trans (s9.trans c9)))))))))))).fresh nm9
    refine ⟨_, rfl, _, rfl, b, gr, m9, _, rfl, b9, upd_same, (by show 9 ≤ 1000; decide), fun p ys G kG bG pb pg hp hl hy => ?_⟩
    have good : ∀ y ∈ ys, PairAt G y := fun y h => by
      have q := hy y h
      simp only [List.cons_append, List.nil_append, List.mem_cons, List.not_mem_nil, or_false] at q
      refine PairAt.k2 b9 kG ?_
      rcases q with rfl | rfl | rfl | rfl | rfl | rfl | rfl | rfl | rfl
      · exact a1.same t1
      · exact a2.same t2
      · exact a3.same t3
      · exact a4.same t4
      · exact a5.same t5
      · exact a6.same t6
      · exact a7.same t7
      · exact a8.same t8
      · exact a9.same t9
    refine ⟨_, rfl, b, gr, 4, rfl, bG, by decide, by decide, fun r G2 r0 r4 b2 k2 => ⟨_, _, rfl, rfl, _, rfl, p, ys, rfl, SqL.of (k2 _ _ pb pg hp), fun q nq => ?_⟩⟩
    have sq := Same.new nq (o := .lst (cutV ys none (some (1 + r))))
    have qb := b2.fresh nq
    have kk := k2.trans (K2.of_same sq)
    exact k q _ _ ((K2.of_same t0).trans (kG.trans kk)) (b2.same sq) qb.1 qb.2 upd_same (Nat.le_trans (cutV_length _ _ _) hl) fun y h => PairAt.k2 bG kk (good y (mem_cut h))
def toolN : List Str := ["_law_box", "_law_most", "_law_rows", "_law_turn", "_law_at"]
theorem scTool : FnScope toolN ["_law_box", "_law_most"] (defScope sTool) := ⟨rfl, rfl, rfl, by decide +kernel, rfl, by decide +kernel, by decide +kernel⟩
theorem ok_tool {f fU f3 f4 : Addr} {fd fdU fd3 fd4 : FuncData} (F : Fun K "_law_tool" "_law_tool" sTool f fd) (D : Draws P w K mg base fT fK dT dK) (hlen : mg "len" = none) (GU : FnOk P w K mg base CX0 3 fU fdU ["_law_box"] spUsual) (gU : mg "_law_usual" = some (.ref fU)) (kU : PySem.W.keepIn K (.ref fU) = true) (bU : Binds K fdU ["_law_box"] [])
    (GT3 : FnOk P w K mg base CX0 3 f3 fd3 ["_law_box", "_law_most"] (spDrawn GoodT 0)) (gT3 : mg "_law_tests" = some (.ref f3)) (kT3 : PySem.W.keepIn K (.ref f3) = true) (bT3 : Binds K fd3 ["_law_box", "_law_most"] [])
    (GD3 : FnOk P w K mg base CX0 3 f4 fd4 ["_law_box", "_law_most"] (spDrawn GoodD 1)) (gD3 : mg "_law_deeds" = some (.ref f4)) (kD3 : PySem.W.keepIn K (.ref f4) = true) (bD3 : Binds K fd4 ["_law_box", "_law_most"] []) : FnOk P w K mg base CX0 4 f fd ["_law_box", "_law_most"] spTool := by
  refine F.ok scTool (fun vs H Q E h => ?_) (fun cdv A outer s H vs Q E hr h => ?_)
  · obtain ⟨b, gr, m, rfl, _⟩ := h
    rfl
  · obtain ⟨b, gr, m, rfl, bx, m0, m1, k⟩ := h
    have hr1 := hr.mono (show 1 ≤ 3 by decide)
    have hr3 := hr
    refine ⟨_, (C8.pss_cut (ps_set (i := 2) scTool.nd rfl (.inl rfl) (pe_ifExp (pt_cmpR op_eq (pe_call D.okT hr1 (by rfl) D.gT D.kT D.bT .nil pass0 (pa_cons (pv 0) (pa_cons pe_int pa_nil))) pe_int (nomark _)) (pe_slice sl_list (pe_call GU hr3 (by rfl) gU kU bU .nil pass0 (pa_cons (pv 0) pa_nil)) po_none (po_some (pv 1))) (pe_lst pa_nil)))
      (pss_cons (ps_for PassesOwn.never rfl (pi_range1 (by rfl) D.range (pa_cons (pe_call D.okT hr1 (by rfl) D.gT D.kT D.bT .nil pass0 (pa_cons (pv 0) (pa_cons (pe_op op_sub (pe_op op_add (pv 1) pe_int) (pe_callB call_len_seq (by rfl) hlen PySem.boot_len (pa_cons (pv 2) pa_nil))) pa_nil))) pa_nil)) (pg_name (i := 3) scTool.nd rfl (.inl rfl))
        (pss_cons (ps_set (i := 4) scTool.nd rfl (.inl rfl) (pe_call D.okT hr1 (by rfl) D.gT D.kT D.bT .nil pass0 (pa_cons (pv 0) (pa_cons (pe_op op_add (pe_callB call_len_seq (by rfl) hlen PySem.boot_len (pa_cons (pv 2) pa_nil)) pe_int) pa_nil))))
        (pss_one (ps_set (i := 2) scTool.nd rfl (.inl rfl) (pe_op op_cat (pe_op op_cat (pe_slice sl_list (pv 2) po_none (po_some (pv 4))) (pe_lst (pa_cons (pe_tup (pa_cons (pe_call GT3 hr3 (by rfl) gT3 kT3 bT3 .nil pass0 (pa_cons (pv 0) (pa_cons pe_int pa_nil))) (pa_cons (pe_call GD3 hr3 (by rfl) gD3 kD3 bD3 .nil pass0 (pa_cons (pv 0) (pa_cons pe_int pa_nil))) pa_nil))) pa_nil))) (pe_slice sl_list (pv 2) (po_some (pv 4)) po_none))))))
      (pss_one (ps_ret (pe_tup (pa_cons (pe_callTy call_tupleX (by rfl) D.tuple (by decide +kernel) (pa_cons (pv 2) pa_nil)) (pa_cons (pe_cmpR op_eq (pe_call D.okT hr1 (by rfl) D.gT D.kT D.bT .nil pass0 (pa_cons (pv 0) (pa_cons pe_int pa_nil))) pe_int (nomark _)) pa_nil))))))), ?_⟩
    refine ⟨fun σ G => ∃ (l : Addr) (ys : List V), σ = [some (.ref b), some (.int m), some (.ref l), none, none] ∧ K2 b gr H G ∧ BoxD G b gr ∧ l ≠ b ∧ l ≠ gr ∧ G l = some (.lst ys) ∧ (ys.length : Int) ≤ m ∧ ∀ y ∈ ys, PairAt G y, ?_, ?_⟩
    · refine ⟨_, rfl, b, gr, 2, rfl, bx, by decide, by decide, fun r G r0 r2 bG kG => ⟨rfl, _, rfl, ?_⟩⟩
      refine ite2 (fun _ => ?_) (fun _ => ?_)
      · refine ⟨_, rfl, b, gr, rfl, bG, fun q ys G2 k2 b2 qb qg hq hl hy => ⟨_, rfl, m, rfl, q, ys, rfl, SqL.of hq, fun p np => ?_⟩⟩
        have sp := Same.new np (o := .lst (cutV ys none (some m)))
        have pb := b2.fresh np
        exact ⟨p, _, rfl, (kG.trans k2).trans (K2.of_same sp), b2.same sp, pb.1, pb.2, upd_same, cut_few m0, fun y h => (hy y (mem_cut h)).same sp⟩
      · refine ⟨(by show 0 ≤ sizeLine; exact Nat.zero_le _), fun p np => ?_⟩
        have sp := Same.new np (o := .lst [])
        have pb := bG.fresh np
        exact ⟨p, [], rfl, kG.trans (K2.of_same sp), bG.same sp, pb.1, pb.2, upd_same, m0, fun y h => (List.not_mem_nil h).elim⟩
    · rintro σ G ⟨l, ys0, rfl, kG, bG, lb, lg, hl, ll0, hy⟩
      refine ⟨_, rfl, _, rfl, _, _, rfl, rfl, _, rfl, l, ys0, rfl, .inl (SqL.of hl), _, _, rfl, rfl, b, gr, _, rfl, bG, by omega, by omega, fun r G1 r0 r1 b1 k1 => ?_⟩
      refine ⟨r, rfl, by omega, by omega, for_range (lo := 0) (n := r.toNat) (fun i σ G' => ∃ (l : Addr) (ys : List V) (x3 x4 : Option V), σ = [some (.ref b), some (.int m), some (.ref l), x3, x4] ∧ K2 b gr H G' ∧ BoxD G' b gr ∧ l ≠ b ∧ l ≠ gr ∧ G' l = some (.lst ys) ∧ ys.length ≤ ys0.length + i ∧ ∀ y ∈ ys, PairAt G' y)
        ⟨l, ys0, none, none, rfl, kG.trans k1, b1, lb, lg, k1 _ _ lb lg hl, by omega, fun y h => PairAt.k2 bG k1 (hy y h)⟩ ?_ ?_⟩
      · rintro i σ G2 hi ⟨l, ys, x3, x4, rfl, k2, b2, lb, lg, hl, ll, hy⟩
        have i200 : i ≤ 200 := by omega
        refine ⟨_, rfl, _, rfl, l, ys, rfl, .inl (SqL.of hl), _, _, rfl, rfl, b, gr, _, rfl, b2, by omega, by omega, fun at' G3 a0 a1 b3 k3 => ?_⟩
        have hl3 := k3 _ _ lb lg hl
        refine ⟨_, rfl, _, rfl, at', rfl, l, ys, rfl, SqL.of hl3, fun A nA => ?_⟩
        have zA := Same.new nA (o := .lst (cutV ys none (some at')))
        have Ab := b3.fresh nA
        have bA := b3.same zA
        refine ⟨_, rfl, b, gr, 3, rfl, bA, by decide, by decide, fun t ws G4 k4 b4 tb tg ht w0 w3 hg => ⟨_, rfl, b, gr, 2, rfl, b4, by decide, by decide, fun d us G5 k5 b5 db dg hd u0 u2 hu => ⟨(by show 2 ≤ sizeLine; decide), fun p np => ⟨(by show 1 ≤ sizeLine; decide), fun B nB => ?_⟩⟩⟩⟩
        have k45 := k4.trans k5
        have zp := Same.new np (o := .tup [.ref t, .ref d])
        have zB := Same.new nB (o := .lst [.ref p])
        have hA := zB _ _ (zp _ _ (k45 _ _ Ab.1 Ab.2 (upd_same (H := G3) (a := A) (o := .lst (cutV ys none (some at'))))))
        have c1 := cutV_length ys none (some at')
        have c2 := cutV_length ys (some at') none
        refine ⟨A, B, _, _, rfl, rfl, hA, upd_same, fits (by show _ + 1 ≤ 1000; omega), fun C1 nC => ?_⟩
        have zC := Same.new nC (o := .lst (cutV ys none (some at') ++ [.ref p]))
        have kk : K2 b gr G3 _ := ((K2.of_same zA).trans k45).trans (K2.of_same ((zp.trans zB).trans zC))
        refine ⟨_, rfl, _, rfl, at', rfl, l, ys, rfl, SqL.of (kk _ _ lb lg hl3), fun E1 nE => ?_⟩
        have zE := Same.new nE (o := .lst (cutV ys (some at') none))
        refine ⟨C1, E1, _, _, rfl, rfl, zE _ _ upd_same, upd_same, fits (by rw [List.length_append]; show _ + 1 + _ ≤ 1000; omega), fun W nW => ?_⟩
        have zW := Same.new nW (o := .lst ((cutV ys none (some at') ++ [.ref p]) ++ cutV ys (some at') none))
        have zz := zE.trans zW
        have bC := b5.same ((zp.trans zB).trans zC)
        have bE := bC.same zE
        have Wb := bE.fresh nW
        have pr : PairAt (upd G5 p (.tup [.ref t, .ref d])) (.ref p) := ⟨p, t, d, ws, us, rfl, upd_same, zp _ _ (k5 _ _ tb tg ht), zp _ _ hd, hg, hu, by omega, by omega, by omega⟩
        have all3 : ∀ y ∈ ys, PairAt G3 y := fun y h => PairAt.k2 b2 k3 (hy y h)
        refine ⟨W, _, _, _, rfl, ((k2.trans k3).trans kk).trans (K2.of_same zz), bE.same zW, Wb.1, Wb.2, upd_same, ?_, fun y h => ?_⟩
        · have e1 : (cutV ys none (some at')).length + (cutV ys (some at') none).length ≤ ys.length := by
            obtain ⟨n, rfl⟩ := Int.eq_ofNat_of_zero_le a0
            unfold cutV
            rw [HT.sIx_none, HT.sIx_nat, HT.sIx_none, HT.sIx_nat, List.length_take, List.length_drop, List.length_take, List.length_drop]
            omega
          rw [List.length_append, List.length_append]
          show _ + 1 + _ ≤ ys0.length + (i + 1)
          omega
        · rcases List.mem_append.mp h with h | h
          · rcases List.mem_append.mp h with h | h
            · exact (PairAt.k2 b3 kk (all3 y (mem_cut h))).same zz
            · rw [List.mem_singleton] at h
              rw [h]
              exact ((pr.same zB).same zC).same zz
          · exact (PairAt.k2 b3 kk (all3 y (mem_cut h))).same zz
      · rintro σ G2 ⟨l, ys, x3, x4, rfl, k2, b2, lb, lg, hl, ll, hy⟩
        refine ⟨_, rfl, l, ys, rfl, .inl hl, fun t H' st ht => ⟨_, rfl, b, gr, 4, rfl, b2.same st, by decide, by decide, fun r4 G5 r40 r44 b5 k5 => ⟨rfl, (by show 2 ≤ sizeLine; decide), fun q nq => ?_⟩⟩⟩
        have sq := Same.new nq (o := .tup [.ref t, .bl (decide (V.int r4 = V.int 0))])
        have bt := b2.same st
        refine k q t _ ys _ ((k2.trans (K2.of_same st)).trans (k5.trans (K2.of_same sq))) (b5.same sq) upd_same (sq _ _ (k5 _ _ (bt.tup_ne ht).1 (bt.tup_ne ht).2 ht)) (by omega) fun y h => (PairAt.k2 bt k5 ((hy y h).same st)).same sq
end
end Lay
set_option Elab.async false
set_option linter.all false
set_option maxRecDepth 100000
set_option maxHeartbeats 4000000
namespace Lay
open PySem L2
/-- isinstance(x, Row) -/
def IsP (K : PySem.W.Frag) (C : Addr) (H : Hp) (x : V) (b : Bool) : Prop := ∃ t, TyX K H x t ∧ PySem.W.kitOne K t (.ref C) = some b
theorem IsP.same {K : PySem.W.Frag} {C : Addr} {H H' : Hp} {x : V} {b : Bool} (s : Same H H') (h : IsP K C H x b) : IsP K C H' x b := by
  obtain ⟨t, h1, h2⟩ := h
  exact ⟨t, TyX.same s h1, h2⟩
theorem SqT.same {K : PySem.W.Frag} {H H' : Hp} {a : Addr} {xs : List V} (e : Same H H') (h : SqT K H a xs) : SqT K H' a xs := by
  rcases h with (h | ⟨o, h⟩) | h
  · exact .inl (.inl (e _ _ h))
  · exact .inl (.inr ⟨o, e _ _ h⟩)
  · exact .inr h
theorem SqL.same {K : PySem.W.Frag} {H H' : Hp} {a : Addr} {xs : List V} (e : Same H H') (h : SqL K H a xs) : SqL K H' a xs := by
  rcases h with (h | ⟨o, h⟩) | h
  · exact .inl (.inl (e _ _ h))
  · exact .inl (.inr ⟨o, e _ _ h⟩)
  · exact .inr h
/-- a tuple that is tracked, or a written one -/
def TupG (K : PySem.W.Frag) (H : Hp) (a : Addr) (xs : List V) : Prop := H a = some (.tup xs) ∨ ∃ (o : Obj) (its : Array Value) (n : Nat), K.lookup a = some o ∧ o.cls = .type "tuple" ∧ o.data = .seq its n ∧ its.size ≤ sizeLine ∧ Vals xs its.toList
theorem TupG.sqT {K : PySem.W.Frag} {H : Hp} {a : Addr} {xs : List V} (h : TupG K H a xs) : SqT K H a xs := by
  rcases h with h | h
  · exact SqT.of h
  · exact .inr h
theorem TupG.same {K : PySem.W.Frag} {H H' : Hp} {a : Addr} {xs : List V} (s : Same H H') (h : TupG K H a xs) : TupG K H' a xs := h.imp (s _ _) id
theorem TupG.put_ins {K : PySem.W.Frag} {H : Hp} {a p C dx : Addr} {fs : List (Str × V)} {o : HO} {xs : List V} (h : TupG K H a xs) (hp : H p = some (.ins C dx fs)) : TupG K (upd H p o) a xs := by
  rcases h with h | h
  · exact .inl (by rw [upd_ne (ne_of h hp (fun z => nomatch z))]; exact h)
  · exact .inr h
theorem TupG.seq {K : PySem.W.Frag} {H : Hp} {a : Addr} {xs : List V} (h : TupG K H a xs) : IsSeq K H (.ref a) true := by
  rcases h with h | ⟨o, its, n, h1, h2, _⟩
  · exact SqX.seq (.inr h)
  · exact ⟨_, .kTuple h1 h2, kitAny_lt (b := false) (c := true) (kit_ty (by decide +kernel)) (kit_ty (by decide +kernel))⟩
/-- a list, or any tuple (the written ones, too) -/
def SqG (K : PySem.W.Frag) (H : Hp) (a : Addr) (xs : List V) : Prop := H a = some (.lst xs) ∨ TupG K H a xs
theorem SqG.same {K : PySem.W.Frag} {H H' : Hp} {a : Addr} {xs : List V} (s : Same H H') (h : SqG K H a xs) : SqG K H' a xs := h.imp (s _ _) fun q => q.same s
theorem SqG.seq {K : PySem.W.Frag} {H : Hp} {a : Addr} {xs : List V} (h : SqG K H a xs) : IsSeq K H (.ref a) true := by
  rcases h with h | h
  · exact SqX.seq (.inl h)
  · exact h.seq
theorem SqG.of {K : PySem.W.Frag} {H : Hp} {a : Addr} {xs : List V} (h : SqX H a xs) : SqG K H a xs := h.imp id .inl
def IsPs (K : PySem.W.Frag) (C : Addr) (H : Hp) (xs : List V) (bs : List Bool) : Prop := bs.length = xs.length ∧ ∀ (i : Nat) (x : V) (b : Bool), xs[i]? = some x → bs[i]? = some b → IsP K C H x b
theorem IsPs.same {K : PySem.W.Frag} {C : Addr} {H H' : Hp} {xs : List V} {bs : List Bool} (s : Same H H') (h : IsPs K C H xs bs) : IsPs K C H' xs bs := ⟨h.1, fun i x b h1 h2 => (h.2 i x b h1 h2).same s⟩
/-- whether a value is a sequence of rows -/
def AnsR (K : PySem.W.Frag) (C : Addr) (H : Hp) (x : V) (r : Bool) : Prop := (IsSeq K H x false ∧ r = false) ∨ ∃ a xs bs, x = .ref a ∧ SqG K H a xs ∧ xs.length ≤ 1000 ∧ IsPs K C H xs bs ∧ r = bs.all id
theorem AnsR.same {K : PySem.W.Frag} {C : Addr} {H H' : Hp} {x : V} {r : Bool} (s : Same H H') (h : AnsR K C H x r) : AnsR K C H' x r := by
  rcases h with ⟨h, e⟩ | ⟨a, xs, bs, e, h1, h2, h3, h4⟩
  · exact .inl ⟨h.same s, e⟩
  · exact .inr ⟨a, xs, bs, e, h1.same s, h2, h3.same s, h4⟩
def spAreR (K : PySem.W.Frag) (C : Addr) : Sp := fun vs H Q _ => ∃ x r, vs = [x] ∧ AnsR K C H x r ∧ ∀ H', Same H H' → Q (.bl r) H'
/-- whether a value is a bool -/
def SrtV (K : PySem.W.Frag) (H : Hp) (y : V) (sb : Bool) : Prop := (∃ z, y = .bl z ∧ sb = true) ∨ (sb = false ∧ IsT K H y "bool" false)
theorem SrtV.same {K : PySem.W.Frag} {H H' : Hp} {y : V} {sb : Bool} (s : Same H H') (h : SrtV K H y sb) : SrtV K H' y sb := h.imp id fun q => ⟨q.1, q.2.same s⟩
theorem SrtV.isT {K : PySem.W.Frag} {H : Hp} {y : V} {sb : Bool} (h : SrtV K H y sb) : IsT K H y "bool" sb := by
  rcases h with ⟨z, rfl, rfl⟩ | ⟨rfl, h⟩
  · exact ⟨_, .base (.bl z), kit_ty (by decide +kernel)⟩
  · exact h
abbrev sAreR : Stmt := top 16
abbrev sToolI : Stmt := inClass (top 21) 0
section
variable {P : Program} {w : World} {K : PySem.W.Frag} {mg : Str → Option Value} {base : Heap}
theorem scAreR : FnScope ["value", "one"] ["value"] (defScope sAreR) := ⟨rfl, rfl, rfl, by decide +kernel, rfl, by decide +kernel, by decide +kernel⟩
theorem ok_areR {f fS C : Addr} {fd fdS : FuncData} (F : Fun K "are_rows" "are_rows" sAreR f fd) (T : TxtK mg) (GS : FnOk P w K mg base CX0 1 fS fdS ["value"] (spSeq K)) (gS : mg "is_sequence" = some (.ref fS)) (kS : PySem.W.keepIn K (.ref fS) = true) (bS : Binds K fdS ["value"] [])
    (gC : mg "Row" = some (.ref C)) : FnOk P w K mg base CX0 2 f fd ["value"] (spAreR K C) := by
  refine F.ok scAreR (fun vs H Q E h => ?_) (fun cdv A outer s H vs Q E hr h => ?_)
  · obtain ⟨x, r, rfl, _⟩ := h
    rfl
  · obtain ⟨x, r, rfl, h, k⟩ := h
    rcases h with ⟨h, rfl⟩ | ⟨a, xs, bs, rfl, hx, hl, hb, rfl⟩
    · refine ⟨_, (pss_one (ps_ret (pe_and (pe_call GS hr (by rfl) gS kS bS .nil pass0 (pa_cons (pv 0) pa_nil)) (pe_one (pe_callB (cr_all rfl) (by rfl) T.all (by decide +kernel) (pa_cons
            (pe_lc (own := [("one", 1)]) (g := gName 1) (tt := tYes) (by rfl) scAreR.nd (pi_list (pv 0)) (blkOk_by (N := ["value", "one"]) (sc := defScope sAreR) (by decide +kernel)) (fun _ _ _ _ _ => pg_name (i := 1) scAreR.nd rfl (Or.inl rfl)) (fun _ _ _ _ _ => pts_nil) (fun _ _ _ _ _ => pe_callB (call_isiK (K := K) rfl) (by rfl) T.isinstance (by decide +kernel) (pa_cons (pv 1) (pa_cons (pe_glob (v := .ref C) (by rfl) gC rfl) pa_nil)))) pa_nil)))))), ?_⟩
      exact ⟨_, rfl, _, false, rfl, h, fun H' s => ⟨_, rfl, iteN rfl (k H' s)⟩⟩
    · have lb : bs.length ≤ 1000 := by rw [hb.1]; exact hl
      rcases hx with hx | hx
      · refine ⟨_, (pss_one (ps_ret (pe_and (pe_call GS hr (by rfl) gS kS bS .nil pass0 (pa_cons (pv 0) pa_nil)) (pe_one (pe_callB (cr_all rfl) (by rfl) T.all (by decide +kernel) (pa_cons
            (pe_lc (own := [("one", 1)]) (g := gName 1) (tt := tYes) (by rfl) scAreR.nd (pi_list (pv 0)) (blkOk_by (N := ["value", "one"]) (sc := defScope sAreR) (by decide +kernel)) (fun _ _ _ _ _ => pg_name (i := 1) scAreR.nd rfl (Or.inl rfl)) (fun _ _ _ _ _ => pts_nil) (fun _ _ _ _ _ => pe_callB (call_isiK (K := K) rfl) (by rfl) T.isinstance (by decide +kernel) (pa_cons (pv 1) (pa_cons (pe_glob (v := .ref C) (by rfl) gC rfl) pa_nil)))) pa_nil)))))), ?_⟩
        refine ⟨_, rfl, _, true, rfl, SqG.seq (.inl hx), fun H1 s1 => ⟨_, rfl, iteY rfl ?_⟩⟩
        have hx1 : SqL K H1 a xs := SqL.of (s1 _ _ hx)
        refine ⟨_, rfl, a, rfl, ⟨_, hx1⟩, fun D nD => lc_list (K := K) (a := a) (xs := xs) (fun i G => Same H1 G ∧ G D = some (.lst ((bs.take i).map V.bl))) ⟨Same.new nD, upd_same⟩ (fun i G _ q => SqL.same q.1 hx1) ?_ ?_⟩
        · rintro i x G hi ⟨sG, hD⟩
          have li := (List.getElem?_eq_some_iff.mp hi).1
          rw [← hb.1] at li
          have eb : bs[i]? = some bs[i] := by simp [li]
          obtain ⟨t, ty, et⟩ := (hb.2 i x _ hi eb).same (s1.trans sG)
          refine ⟨rfl, _, rfl, x, _, t, _, bs[i], rfl, .own _, ty, et, _, hD, ?_, fun c u e => by rw [upd_ne (ne_of_none e nD)]; exact sG _ _ e, ?_⟩
          · rw [List.length_map, List.length_take]
            exact small1000 (by omega)
          · rw [upd_same, List.take_succ, eb, List.map_append]
            rfl
        · rintro G ⟨sG, hD⟩
          rw [← hb.1, List.take_length] at hD
          exact ⟨D, bs, rfl, SqL.of hD, k G (s1.trans sG)⟩
      · refine ⟨_, (pss_one (ps_ret (pe_and (pe_call GS hr (by rfl) gS kS bS .nil pass0 (pa_cons (pv 0) pa_nil)) (pe_one (pe_callB (cr_all rfl) (by rfl) T.all (by decide +kernel) (pa_cons
            (pe_lc (own := [("one", 1)]) (g := gName 1) (tt := tYes) (by rfl) scAreR.nd (pi_tup (pv 0)) (blkOk_by (N := ["value", "one"]) (sc := defScope sAreR) (by decide +kernel)) (fun _ _ _ _ _ => pg_name (i := 1) scAreR.nd rfl (Or.inl rfl)) (fun _ _ _ _ _ => pts_nil) (fun _ _ _ _ _ => pe_callB (call_isiK (K := K) rfl) (by rfl) T.isinstance (by decide +kernel) (pa_cons (pv 1) (pa_cons (pe_glob (v := .ref C) (by rfl) gC rfl) pa_nil)))) pa_nil)))))), ?_⟩
        refine ⟨_, rfl, _, true, rfl, SqG.seq (.inr hx), fun H1 s1 => ⟨_, rfl, iteY rfl ?_⟩⟩
        have hx1 : SqT K H1 a xs := SqT.same s1 hx.sqT
        refine ⟨_, rfl, a, rfl, ⟨_, hx1⟩, fun D nD => lc_tup (K := K) (a := a) (xs := xs) (fun i G => Same H1 G ∧ G D = some (.lst ((bs.take i).map V.bl))) ⟨Same.new nD, upd_same⟩ (fun i G _ q => SqT.same q.1 hx1) ?_ ?_⟩
        · rintro i x G hi ⟨sG, hD⟩
          have li := (List.getElem?_eq_some_iff.mp hi).1
          rw [← hb.1] at li
          have eb : bs[i]? = some bs[i] := by simp [li]
          obtain ⟨t, ty, et⟩ := (hb.2 i x _ hi eb).same (s1.trans sG)
          refine ⟨rfl, _, rfl, x, _, t, _, bs[i], rfl, .own _, ty, et, _, hD, ?_, fun c u e => by rw [upd_ne (ne_of_none e nD)]; exact sG _ _ e, ?_⟩
          · rw [List.length_map, List.length_take]
            exact small1000 (by omega)
          · rw [upd_same, List.take_succ, eb, List.map_append]
            rfl
        · rintro G ⟨sG, hD⟩
          rw [← hb.1, List.take_length] at hD
          exact ⟨D, bs, rfl, SqL.of hD, k G (s1.trans sG)⟩
end
section
variable {X : Cx}
theorem call_tupleG : CallR X (.type "tuple") (fun xs H Q => ∃ a ys, xs = [.ref a] ∧ SqG X.K H a ys ∧ ∀ l H', Same H H' → TupG X.K H' l ys → Q (.ref l) H') := by
  intro pins s σ H xs us Q I r h
  obtain ⟨a, ys, rfl, hs, q⟩ := h
  refine call_tuple_of pins s σ H _ us Q I r ⟨a, ys, rfl, ?_⟩
  rcases hs with hs | hs
  · exact .inl ⟨SqL.of hs, fun l nl => q l _ (Same.new nl) (.inl upd_same)⟩
  · exact .inr ⟨hs.sqT, q a H (Same.refl H) hs⟩
end
structure ToolC (K : PySem.W.Frag) (C : Addr) : Prop where
  cl : Cls K C
  rows : NoAttr K C "rows"
  sorts : NoAttr K C "sorts"
def toolF (t : Addr) (y : V) : List (Str × V) := putF "sorts" y (putF "rows" (.ref t) [])
def spToolI (K : PySem.W.Frag) (C CT D : Addr) : Sp := fun vs H Q E => ∃ (p dx : Addr) (x y : V) (rr sb : Bool), vs = [.ref p, x, y] ∧ H p = some (.ins CT dx []) ∧ AnsR K C H x rr ∧ SrtV K H y sb ∧
  (rr = true → sb = true → ∀ H' t a xs, x = .ref a → SqG K H a xs → TupG K H' t xs → Kept p H H' → H' p = some (.ins CT dx (toolF t y)) → Q .non H') ∧ (rr = false → Raised D H (.str "rows") E) ∧ (rr = true → sb = false → Raised D H (.str "sorts") E)
section
variable {P : Program} {w : World} {K : PySem.W.Frag} {mg : Str → Option Value} {base : Heap}
theorem scToolI : FnScope ["self", "rows", "sorts"] ["self", "rows", "sorts"] (defScope sToolI) := ⟨rfl, rfl, rfl, by decide +kernel, rfl, by decide +kernel, by decide +kernel⟩
theorem ok_toolI {f fR fI C CT D : Addr} {fd fdR fdI : FuncData} {dvs : List V} (F : FunD K "__init__" "Tool.__init__" (defArgs sToolI) (defBody sToolI) (defScope sToolI) dvs [] f fd) (T : TxtK mg) (hbool : mg "bool" = none) (Z : ToolC K CT)
    (GR : FnOk P w K mg base CX0 2 fR fdR ["value"] (spAreR K C)) (gR : mg "are_rows" = some (.ref fR)) (kR : PySem.W.keepIn K (.ref fR) = true) (bR : Binds K fdR ["value"] [])
    (Y : XC K mg D fI "InvalidRow" "part") (GI : FnOk P w K mg base CX0 1 fI fdI ["self", "part"] (spInit K D "part")) (bI : Binds K fdI ["self", "part"] []) : FnOk P w K mg base (L2.CX P w) 3 f fd ["self", "rows", "sorts"] (spToolI K C CT D) := by
  refine F.ok scToolI (fun vs H Q E h => ?_) (fun cdv A outer s H vs Q E hr h => ?_)
  · obtain ⟨p, dx, x, y, rr, sb, rfl, _⟩ := h
    rfl
  · obtain ⟨p, dx, x, y, rr, sb, rfl, hp, hx, hy, k1, k2, k3⟩ := h
    refine ⟨_, (pss_cons (ps_if (pt_not (pt_val (pe_call GR hr (by rfl) gR kR bR .nil pass0 (pa_cons (pv 1) pa_nil))))
      (pss_one (ps_raise rfl (takes_of rfl rfl rfl rfl) (pmk_oex Y.oex Y.init Y.tI GI hr bI .nil pass0 (by rfl) Y.gC (pa_cons pe_str pa_nil))))
      pss_nil)
    (pss_cons (ps_if (pt_not (pt_val (pe_callB call_isi (by rfl) T.isinstance (by decide +kernel) (pa_cons (pv 2) (pa_cons (pe_bltn (v := .ty "bool") (by rfl) hbool (by decide +kernel) rfl) pa_nil)))))
      (pss_one (ps_raise rfl (takes_of rfl rfl rfl rfl) (pmk_oex Y.oex Y.init Y.tI GI hr bI .nil pass0 (by rfl) Y.gC (pa_cons pe_str pa_nil))))
      pss_nil)
    (pss_cons (ps_fld (pv 0) (pe_callTy call_tupleG (by rfl) T.tuple (by decide +kernel) (pa_cons (pv 1) pa_nil)) rfl)
    (pss_one (ps_fld (pv 0) (pv 2) rfl))))), ?_⟩
    refine ⟨_, rfl, x, rr, rfl, hx, fun H1 s1 => ⟨_, rfl, ?_⟩⟩
    cases rr with
    | false => exact iteY rfl ⟨by show 1 ≤ 1000; decide, fun a ha => raised_at Y.oex Y.no ha (k2 rfl |>.same s1)⟩
    | true =>
      obtain ⟨t, ty, et⟩ := (hy.isT).same s1
      refine iteN rfl ⟨_, rfl, _, _, t, _, sb, rfl, .ty _, ty, et, _, rfl, ?_⟩
      cases sb with
      | false => exact iteY rfl ⟨by show 1 ≤ 1000; decide, fun a ha => raised_at Y.oex Y.no ha (k3 rfl rfl |>.same s1)⟩
      | true =>
        refine iteN rfl ?_
        rcases hx with ⟨_, z⟩ | ⟨a, xs, bs, rfl, hs, _⟩
        · cases z
        refine ⟨_, rfl, a, xs, rfl, hs.same s1, fun l H2 s2 hl2 => ⟨_, rfl, p, CT, dx, _, rfl, s2 _ _ (s1 _ _ hp), Z.cl, Z.rows, (by show 0 < 1000; decide), ?_⟩⟩
        refine ⟨_, rfl, _, rfl, p, CT, dx, _, rfl, upd_same, Z.cl, Z.sorts, ?_, ?_⟩
        · exact Nat.lt_of_le_of_lt (length_putF _ _ []) (by show 0 + 1 < 1000; decide)
        · refine k1 rfl rfl _ l a xs rfl hs ?_ (((Kept.of_same (s1.trans s2)).trans Kept.box).trans Kept.box) upd_same
          exact (hl2.put_ins (s2 _ _ (s1 _ _ hp))).put_ins upd_same
end
end Lay
set_option Elab.async false
set_option linter.all false
set_option maxRecDepth 100000
set_option maxHeartbeats 4000000
namespace Lay
open PySem L2
/-! ### rows and tools as texts -/
/-- what a row is made of -/
structure RD where
  ws : List Str
  us : List Str
structure RD.Ok (r : RD) : Prop where
  w : ∀ z ∈ r.ws, z.length ≤ 20
  u : ∀ z ∈ r.us, z.length ≤ 20
  lw : r.ws.length ≤ 10
  lu : r.us.length ≤ 10
  nu : 0 < r.us.length
  k : ∀ z ∈ r.ws, PyData.strOk z = true
def rowWords (r : RD) : List Str := if r.ws = [] then ["do", Txt.join " then " r.us] else ["if", Txt.join " and " r.ws, "do", Txt.join " then " r.us]
def rowText (r : RD) : Str := Txt.join " " (rowWords r)
/-- at p a row of r -/
def RowAt (C : Addr) (H : Hp) (p : Addr) (r : RD) : Prop := ∃ dx t d, H p = some (.ins C dx (rowF t d)) ∧ H t = some (.tup (r.ws.map V.str)) ∧ H d = some (.tup (r.us.map V.str))
theorem RowAt.same {C : Addr} {H H' : Hp} {p : Addr} {r : RD} (s : Same H H') (h : RowAt C H p r) : RowAt C H' p r := by
  obtain ⟨dx, t, d, h1, h2, h3⟩ := h
  exact ⟨dx, t, d, s _ _ h1, s _ _ h2, s _ _ h3⟩
theorem sum_few : ∀ {zs : List Str} {n : Nat}, (∀ z ∈ zs, z.length ≤ n) → (zs.map (·.length)).sum ≤ zs.length * n
  | [], _, _ => by simp
  | z :: zs, n, h => by
    have h1 := h z List.mem_cons_self
    have h2 := sum_few (zs := zs) fun y hy => h y (List.mem_cons_of_mem _ hy)
    rw [List.map_cons, List.sum_cons, List.length_cons, Nat.succ_mul]
    omega
def spWordsOf (C : Addr) : Sp := fun vs H Q _ => ∃ (p : Addr) (r : RD), vs = [.ref p] ∧ RowAt C H p r ∧ r.Ok ∧ ∀ l H', Same H H' → H l = none → H' l = some (.lst ((rowWords r).map V.str)) → Q (.ref l) H'
abbrev sRW : Stmt := top 17
section
variable {P : Program} {w : World} {K : PySem.W.Frag} {mg : Str → Option Value} {base : Heap}
theorem scRW : FnScope ["row", "done"] ["row"] (defScope sRW) := ⟨rfl, rfl, rfl, by decide +kernel, rfl, by decide +kernel, by decide +kernel⟩
theorem ok_rowWords {f C : Addr} {fd : FuncData} (F : Fun K "row_words" "row_words" sRW f fd) (hlen : mg "len" = none) (Z : RowC K C) : FnOk P w K mg base CX0 1 f fd ["row"] (spWordsOf C) := by
  refine F.ok scRW (fun vs H Q E h => ?_) (fun cdv A outer s H vs Q E hr h => ?_)
  · obtain ⟨p, r, rfl, _⟩ := h
    rfl
  · obtain ⟨p, r, rfl, ⟨dx, t, d, hp, ht, hd⟩, o, k⟩ := h
    refine ⟨_, (pss_cons (ps_set (i := 1) scRW.nd rfl (.inl rfl) (pe_lst (pa_cons pe_str (pa_cons (pe_bm PySem.F.plainAttrs_str PySem.F.slot_str_join PySem.F.type_str_join mt_join pe_str (pa_cons (pe_fld (pv 0) rfl) pa_nil)) pa_nil))))
      (pss_cons (ps_if (pt_cmpR op_eq (pe_callB call_len_seq (by rfl) hlen PySem.boot_len (pa_cons (pe_fld (pv 0) rfl) pa_nil)) pe_int (nomark _)) (pss_one (ps_ret (pv 1))) pss_nil)
      (pss_one (ps_ret (pe_lst (pa_cons pe_str (pa_cons (pe_bm PySem.F.plainAttrs_str PySem.F.slot_str_join PySem.F.type_str_join mt_join pe_str (pa_cons (pe_fld (pv 0) rfl) pa_nil)) (StX.pa_star (pv 1) pa_nil)))))))), ?_⟩
    have hsum := sum_few o.u
    have hsum2 := sum_few o.w
    have lw := o.lw
    have lu := o.lu
    have j1 : (Str.ofString " then ").length = 6 := by decide
    have j2 : (Str.ofString " and ").length = 5 := by decide
    refine ⟨rfl, _, rfl, p, C, dx, _, _, rfl, hp, Z.cl, Z.deeds, rfl, _, d, r.us, rfl, rfl, .inr (SqT.of hd), ?_, (by show 2 ≤ sizeLine; decide), fun l1 n1 => ?_⟩
    · rw [j1]
      omega
    have s1 := Same.new n1 (o := .lst [.str "do", .str (Txt.join " then " r.us)])
    refine ⟨_, rfl, p, C, dx, _, _, rfl, s1 _ _ hp, Z.cl, Z.tests, rfl, t, _, rfl, .inr (SqT.of (s1 _ _ ht)), rfl, _, rfl, ?_⟩
    refine ite2 (fun q => ?_) (fun q => ?_)
    · have e0 : r.ws = [] := by
        have h0 := V.int.inj (of_decide_eq_true q)
        rw [List.length_map] at h0
        exact List.length_eq_zero_iff.mp (by omega)
      refine ⟨_, rfl, k l1 _ s1 n1 ?_⟩
      rw [upd_same]
      unfold rowWords
      rw [if_pos e0]
      rfl
    · have e0 : ¬ r.ws = [] := fun z => q (by rw [z]; rfl)
      refine ⟨rfl, _, rfl, p, C, dx, _, _, rfl, s1 _ _ hp, Z.cl, Z.tests, rfl, _, t, r.ws, rfl, rfl, .inr (SqT.of (s1 _ _ ht)), ?_, _, rfl, l1, _, rfl, .inr (SqL.of upd_same), (by show 4 ≤ sizeLine; decide), fun l2 n2 => ?_⟩
      · rw [j2]
        omega
      · refine k l2 _ (s1.trans (Same.new n2)) (s1.free n2) ?_
        rw [upd_same]
        unfold rowWords
        rw [if_neg e0]
        rfl
end
end Lay
set_option Elab.async false
set_option linter.all false
set_option maxRecDepth 100000
set_option maxHeartbeats 4000000
namespace Lay
open PySem L2
theorem sjoin_le (sep : Str) : ∀ ts : List Str, (Str.join sep ts).length ≤ (ts.map (·.length)).sum + ts.length * sep.length
  | [] => by
    show (Str.join sep []).length ≤ _
    have : (Str.join sep []).length = 0 := rfl
    omega
  | [t] => by
    show t.length ≤ _
    rw [List.map_cons, List.sum_cons]
    omega
  | t :: u :: r => by
    have ih := sjoin_le sep (u :: r)
    show (t ++ sep ++ Str.join sep (u :: r)).length ≤ _
    rw [Str.length_append, Str.length_append, List.map_cons, List.sum_cons, List.length_cons, Nat.succ_mul]
    omega
theorem join_le (sep : Str) (ts : List Str) : (Txt.join sep ts).length ≤ (ts.map (·.length)).sum + ts.length * sep.length := by
  rw [TL.join_eq]
  exact sjoin_le sep ts
theorem row_few {r : RD} (o : r.Ok) : ∀ z ∈ rowWords r, z.length ≤ 260 := fun z hz => by
  have h1 := join_le " then " r.us
  have h2 := join_le " and " r.ws
  have s1 := sum_few o.u
  have s2 := sum_few o.w
  have lw := o.lw
  have lu := o.lu
  have j1 : (Str.ofString " then ").length = 6 := by decide
  have j2 : (Str.ofString " and ").length = 5 := by decide
  have d1 : (Str.ofString "do").length = 2 := by decide
  have d2 : (Str.ofString "if").length = 2 := by decide
  rw [j1] at h1
  rw [j2] at h2
  unfold rowWords at hz
  split at hz
  · simp only [List.mem_cons, List.not_mem_nil, or_false] at hz
    rcases hz with rfl | rfl
    · omega
    · omega
  · simp only [List.mem_cons, List.not_mem_nil, or_false] at hz
    rcases hz with rfl | rfl | rfl | rfl
    · omega
    · omega
    · omega
    · omega
theorem rowWords_4 (r : RD) : (rowWords r).length ≤ 4 := by
  unfold rowWords
  split
  · show 2 ≤ 4
    omega
  · show 4 ≤ 4
    omega
theorem rowText_few {r : RD} (o : r.Ok) : (rowText r).length ≤ 1100 := by
  have h := join_le " " (rowWords r)
  have s := sum_few (row_few o)
  have l := rowWords_4 r
  have j : (Str.ofString " ").length = 1 := by decide
  rw [j] at h
  unfold rowText
  omega
def spStrRow (C : Addr) : Sp := fun vs H Q _ => ∃ (p : Addr) (r : RD), vs = [.ref p] ∧ RowAt C H p r ∧ r.Ok ∧ ∀ H', Same H H' → Q (.str (rowText r)) H'
abbrev sStrRow : Stmt := inClass (top 20) 2
section
variable {P : Program} {w : World} {K : PySem.W.Frag} {mg : Str → Option Value} {base : Heap}
theorem scStrRow : FnScope ["self"] ["self"] (defScope sStrRow) := ⟨rfl, rfl, rfl, by decide +kernel, rfl, by decide +kernel, by decide +kernel⟩
theorem ok_strRow {f fW C : Addr} {fd fdW : FuncData} (F : Fun K "__str__" "Row.__str__" sStrRow f fd) (GW : FnOk P w K mg base CX0 1 fW fdW ["row"] (spWordsOf C)) (gW : mg "row_words" = some (.ref fW)) (kW : PySem.W.keepIn K (.ref fW) = true) (bW : Binds K fdW ["row"] []) : FnOk P w K mg base CX0 2 f fd ["self"] (spStrRow C) := by
  refine F.ok scStrRow (fun vs H Q E h => ?_) (fun cdv A outer s H vs Q E hr h => ?_)
  · obtain ⟨p, r, rfl, _⟩ := h
    rfl
  · obtain ⟨p, r, rfl, hp, o, k⟩ := h
    refine ⟨_, pss_one (ps_ret (pe_bm PySem.F.plainAttrs_str PySem.F.slot_str_join PySem.F.type_str_join mt_join pe_str (pa_cons (pe_call GW hr (by rfl) gW kW bW .nil pass0 (pa_cons (pv 0) pa_nil)) pa_nil))), ?_⟩
    refine ⟨rfl, _, rfl, p, r, rfl, hp, o, fun l H' s n hl => ⟨_, l, rowWords r, rfl, rfl, .inl (SqL.of hl), ?_, k H' s⟩⟩
    have s1 := sum_few (row_few o)
    have l4 := rowWords_4 r
    have j : (Str.ofString " ").length = 1 := by decide
    rw [j]
    omega
end
end Lay
set_option Elab.async false
set_option linter.all false
set_option maxRecDepth 100000
set_option maxHeartbeats 4000000
/-! str(x), x == y, x != y, x + y by what an own class defines. -/
namespace Lay
open PySem PySem.Spec PyProof.Rows L2
section
variable {X : Cx} {CX : CXT} {C f : Addr} {n : Nat} {fd : FuncData} {ps : List Str} {sp : Sp}
/-- a def called beneath, with its values -/
theorem run_sub {A : Around} {pins : List (Addr × Obj)} {σ : L2.St} {H : Hp} {s : Shared} {Q : VK} {us : List Value} {vs : List V} {Post : Value → Shared → Prop} (F : FnOk X.prog X.w X.K X.mg X.base CX n f fd ps sp) (hr : Sub X n A) (hb : Binds X.K fd ps []) (hx : Passes CX X E0)
    (I : Inv X pins σ H s) (r : Vals vs us) (h : sp vs H Q E0) (post : ∀ v u H' s', Inv X pins σ H' s' → RelV v u → Q v H' → Post u s') : wpAny (model X.prog X.w) A (call (.ref f) us) Post X.xe s := by
  have hl : us.length = ps.length := by rw [← r.length]; exact F.len _ _ _ _ h
  have b := hb s us I.kIn (by rw [List.append_nil]; exact hl)
  rw [List.append_nil] at b
  have e := I.env0
  have e0 : Env0 X.prog X.w X.K X.mg X.base A X.stack s H := ⟨by rw [hr.fr]; exact e.frames, e.mod, e.bs, e.bsz, e.funs, e.frf, e.hok, e.bare⟩
  refine wpAny_call (codeAny_mono (F.run A X.stack s H ⟨us, []⟩ us vs Q E0 hr.room e0 b r h) fun r s' hq => ?_)
  cases r with
  | error er => exact hx pins σ H s er s' I hq
  | ok fl =>
    cases fl with
    | ret u =>
      obtain ⟨v, H', I', rv, q⟩ := I.after hq
      exact post v u H' s' I' rv q
    | next => exact False.elim hq
    | brk => exact False.elim hq
    | cont => exact False.elim hq
theorem call_strOwn (F : FnOk X.prog X.w X.K X.mg X.base CX n f fd ps sp) (hs : PySem.W.findIn X.K (.ref C) "__str__" = some (some (.ref f))) (hf : PySem.W.isFn X.K (.ref f) = true) (hr : Room (n + 2) X.A) (hb : Binds X.K fd ps []) (hx : Passes CX X E0) :
    CallR X (.type "str") (fun xs H Q => ∃ (a dx : Addr) (fs : List (Str × V)), xs = [.ref a] ∧ H a = some (.ins C dx fs) ∧ sp [.ref a] H (fun v H' => ∃ z, v = .str z ∧ Q (.str z) H') E0) := by
  intro pins s σ H xs us Q I r h
  obtain ⟨a, dx, fs, rfl, ha, q⟩ := h
  obtain ⟨u, rfl, ru⟩ := vals1 r
  cases ru
  obtain ⟨mA, J, _⟩ := ins_get I.hok ha
  obtain ⟨od, J, _⟩ := J.look
  have sb : Sub X n X.A.in1.in1 := ⟨hr.in1.in1, rfl⟩
  refine PySem.W.kso_call sb.room.units0 I.kIn J hs hf (run_sub (vs := [V.ref a]) F sb hb hx I (.cons rfl .nil) q fun v u H' s' I' rv hq => ?_)
  obtain ⟨z, rfl, hq⟩ := hq
  obtain ⟨t, rfl⟩ := rv
  exact ⟨.str z, H', I', ⟨t, rfl⟩, hq⟩
/-- x == y, two instances of the class -/
theorem op_eqOwn (F : FnOk X.prog X.w X.K X.mg X.base CX n f fd ps sp) (hs : PySem.W.findIn X.K (.ref C) "__eq__" = some (some (.ref f))) (hf : PySem.W.isFn X.K (.ref f) = true) (hr : Room n X.A) (hb : Binds X.K fd ps []) (hx : Passes CX X E0) :
    OpR X (compareOp .Eq) (fun x y H Q => ∃ (a b dx dy : Addr) (fs gs : List (Str × V)), x = .ref a ∧ y = .ref b ∧ H a = some (.ins C dx fs) ∧ H b = some (.ins C dy gs) ∧ sp [.ref a, .ref b] H (fun v H' => ∃ z, v = .bl z ∧ Q (.bl z) H') E0) := by
  intro pins s σ H x y v u Q I rx ry h
  obtain ⟨a, b, dx, dy, fs, gs, rfl, rfl, ha, hb2, q⟩ := h
  cases rx
  cases ry
  obtain ⟨mA, J, _⟩ := ins_get I.hok ha
  obtain ⟨mB, J', _⟩ := ins_get I.hok hb2
  obtain ⟨od, J, _⟩ := J.look
  obtain ⟨od', J', _⟩ := J'.look
  obtain ⟨m, hF⟩ := I.fr
  have sb : Sub X n X.A := ⟨hr, rfl⟩
  show wpAny (model X.prog X.w) X.A (richCompare .Eq (.ref a) (.ref b)) (EP X pins σ Q) X.xe s
  refine PySem.W.cmp_K (op := .Eq) (tb := .ref C) sb.room.units0 hF I.ok.mod.kin J J'.type (by simp [PySem.W.notFirst]) hs hf (run_sub (vs := [V.ref a, V.ref b]) F sb hb hx I (.cons rfl (.cons rfl .nil)) q fun v u H' s' I' rv hq => ?_)
  obtain ⟨z, rfl, hq⟩ := hq
  cases rv
  exact ⟨.bl z, H', I', rfl, hq⟩
/-- x + y, two instances of the class, by its __add__ -/
theorem op_addOwn (F : FnOk X.prog X.w X.K X.mg X.base CX n f fd ps sp) (hs : PySem.W.findIn X.K (.ref C) "__add__" = some (some (.ref f))) (hc : PySem.W.selfFirst X.K C = true) (hf : PySem.W.isFn X.K (.ref f) = true) (hr : Room n X.A) (hb : Binds X.K fd ps []) (hx : Passes CX X E0) :
    OpR X (binaryOp .Add) (fun x y H Q => ∃ (a b dx dy : Addr) (fs gs : List (Str × V)), x = .ref a ∧ y = .ref b ∧ H a = some (.ins C dx fs) ∧ H b = some (.ins C dy gs) ∧ sp [.ref a, .ref b] H (fun v H' => ∃ c, v = .ref c ∧ Q (.ref c) H') E0) := by
  intro pins s σ H x y v u Q I rx ry h
  obtain ⟨a, b, dx, dy, fs, gs, rfl, rfl, ha, hb2, q⟩ := h
  cases rx
  cases ry
  obtain ⟨mA, J, _⟩ := ins_get I.hok ha
  obtain ⟨mB, J', _⟩ := ins_get I.hok hb2
  obtain ⟨od, J, _⟩ := J.look
  obtain ⟨od', J', _⟩ := J'.look
  obtain ⟨m, hF⟩ := I.fr
  have sb : Sub X n X.A := ⟨hr, rfl⟩
  refine PySem.W.binop_K (op := .Add) hF I.ok.mod.kin J J'.type hc hs hf (run_sub (vs := [V.ref a, V.ref b]) F sb hb hx I (.cons rfl (.cons rfl .nil)) q fun v u H' s' I' rv hq => ?_)
  obtain ⟨c, rfl, hq⟩ := hq
  cases rv
  exact ⟨.ref c, H', I', rfl, hq⟩
end
section
variable {prog : Program} {w : World} {A : Around} {E : Value → Shared → Prop} {s : Shared} {K : PySem.W.Frag} {x C f : Addr} {ox : Obj} {od : Option Obj} {b : Value}
theorem check_slot_K {M : Model} {id owner n : String} {rest : List Value} {Q : Unit → Shared → Prop} (hk : builtinKind id = some .slot) (hs : splitId id = some (owner, n))
    (ha : argsOk id ⟨.ref x :: rest, []⟩) (X : K.In s.heap) (I : PySem.W.InstAt s.heap x ox C od) (hm : PySem.W.mroIn K C (.type owner) = some true) (hq : Q () s) :
    wpAny M A (checkBuiltinCall id ⟨.ref x :: rest, []⟩) Q E s := by
  simp only [checkBuiltinCall, hk, hs]
  refine wpAny_bind ?_
  · unfold isInstance
    refine wpAny_bind (I.type.here ((PySem.W.looks_mroIn X hm).here ?_))
    rw [if_neg (by decide : ¬ (!true) = true)]
    cases hsig : Manifest.signature? id with
    | none => exact wpAny_pure hq
    | some sig =>
      simp only [argsOk, hsig] at ha
      have h2 : Bind.checkArgs id sig ⟨.ref x :: rest, []⟩ = pure () := ha
      show wpAny M A (Bind.checkArgs id sig ⟨.ref x :: rest, []⟩) Q E _
      rw [h2]
      exact wpAny_pure hq
theorem ne_entry {Q : PySem.Fin → Shared → Prop} (hu : A.units < cLine) (X : K.In s.heap) (I : PySem.W.InstAt s.heap x ox C od) (heq : PySem.W.findIn K (.ref C) "__eq__" = some (some (.ref f))) (hf : PySem.W.isFn K (.ref f) = true)
    (h : wpAny (model prog w) A (call (.ref f) [.ref x, b]) (fun v s' => ∃ z, v = .bool z ∧ Q (.done (.ret (.bool (!z)))) s') E s) : wpAny (model prog w) A (Builtin.«object.__ne__» ⟨[.ref x, b], []⟩) Q E s := by
  unfold Builtin.«object.__ne__»
  repeat (first | with_reducible refine wpAny_cRoomFor hu ?_ | (with_reducible refine PySem.W.ifBound_K X I heq hf (wpAny_mono h ?_ fun _ _ e => e)) | wp_step)
  rintro v s' ⟨z, rfl, q⟩
  repeat (first | wp_step)
  exact q
theorem ifBound_B {M : Model} {id : String} {name : Str} {args : List Value} {Q : Option Value → Shared → Prop} (S : ∀ v, bindSpecial (.builtin id) v = pure (.builtin id, [v])) (X : K.In s.heap) (I : PySem.W.InstAt s.heap x ox C od) (hs : PySem.W.findIn K (.ref C) name = some (some (.builtin id)))
    (h : wpAny M A (call (.builtin id) (.ref x :: args)) (fun v => Q (some v)) E s) : wpAny M A (callSpecialIfBound? (.ref x) name args) Q E s := by
  simp only [callSpecialIfBound?, bindSpecialIfBound?]
  refine wpAny_holding (wpAny_bind (wpAny_bind (wpAny_bind (I.type.here ((PySem.W.looks_findIn X hs).here ?_)))))
  simp only [S]
  refine wpAny_bind (wpAny_askSetting (wpAny_ite ?_))
  have fin : wpAny M A (call (.builtin id) ([.ref x] ++ args) >>= fun v => pure (some v)) Q E s := wpAny_bind (wpAny_mono h (fun v s' h' => wpAny_pure h') fun _ _ h' => h')
  split
  · exact wpAny_bind (wpAny_pure (wpAny_pure (by exact fin)))
  · exact wpAny_tryCatch (wpAny_bind (wpAny_pure (wpAny_pure (by exact fin))))
theorem ne_own {Q : Value → Shared → Prop} (hu : A.units + 1 < cLine) (X : K.In s.heap) (I : PySem.W.InstAt s.heap x ox C od) (hb : PySem.W.Looks (model prog w) s.heap (typeOf b) (.ref C)) (hne : PySem.W.findIn K (.ref C) "__ne__" = some (some (.builtin "object.__ne__")))
    (heq : PySem.W.findIn K (.ref C) "__eq__" = some (some (.ref f))) (hf : PySem.W.isFn K (.ref f) = true) (hm : PySem.W.mroIn K C (.type "object") = some true)
    (h : wpAny (model prog w) A.in1 (call (.ref f) [.ref x, b]) (fun v s' => ∃ z, v = .bool z ∧ Q (.bool (!z)) s') E s) : wpAny (model prog w) A (richCompare .NotEq (.ref x) b) Q E s := by
  have one : wpAny (model prog w) A (tryCompare (.ref x) "__ne__" b) (fun r s' => ∃ v, r = some v ∧ Q v s') E s := by
    unfold tryCompare
    refine wpAny_bind (ifBound_B F.cmp_object.ne.bind X I hne (wpAny_call (codeAny_call_builtin F.cmp_object.ne.plain F.cmpEntry_ne (check_slot_K F.cmpKind_ne F.cmpSplit_ne (F.cmpArgs_ne _ _) X I hm (ne_entry (A := A.in1) hu X I heq hf ?_)))))
    refine wpAny_mono h (fun v s' hv => ?_) fun _ _ e => e
    obtain ⟨z, rfl, q⟩ := hv
    exact ⟨z, rfl, wpAny_pure ⟨_, rfl, q⟩⟩
  unfold richCompare
  simp only [oneThing_ref]
  refine wpAny_holding (wpAny_bind (wpAny_cRoomFor (Nat.lt_of_succ_lt hu) ?_))
  refine wpAny_bind (I.type.here (wpAny_bind (hb.here ?_)))
  rw [if_neg (by simp)]
  refine wpAny_bind (wpAny_pure ?_)
  simp only [Bool.false_eq_true, if_false]
  refine wpAny_bind (wpAny_mono one (fun r s' z => ?_) fun _ _ e => e)
  obtain ⟨v, rfl, hq⟩ := z
  exact wpAny_pure hq
end
section
variable {X : Cx} {CX : CXT} {C f : Addr} {n : Nat} {fd : FuncData} {ps : List Str} {sp : Sp}
/-- x != y, two instances of the class, by its __eq__ -/
theorem op_neOwn (F : FnOk X.prog X.w X.K X.mg X.base CX n f fd ps sp) (hs : PySem.W.findIn X.K (.ref C) "__eq__" = some (some (.ref f))) (hne : PySem.W.findIn X.K (.ref C) "__ne__" = some (some (.builtin "object.__ne__"))) (hm : PySem.W.mroIn X.K C (.type "object") = some true)
    (hf : PySem.W.isFn X.K (.ref f) = true) (hr : Room (n + 1) X.A) (hb : Binds X.K fd ps []) (hx : Passes CX X E0) :
    OpR X (compareOp .NotEq) (fun x y H Q => ∃ (a b dx dy : Addr) (fs gs : List (Str × V)), x = .ref a ∧ y = .ref b ∧ H a = some (.ins C dx fs) ∧ H b = some (.ins C dy gs) ∧ sp [.ref a, .ref b] H (fun v H' => ∃ z, v = .bl z ∧ Q (.bl (!z)) H') E0) := by
  intro pins s σ H x y v u Q I rx ry h
  obtain ⟨a, b, dx, dy, fs, gs, rfl, rfl, ha, hb2, q⟩ := h
  cases rx
  cases ry
  obtain ⟨mA, J, _⟩ := ins_get I.hok ha
  obtain ⟨mB, J', _⟩ := ins_get I.hok hb2
  obtain ⟨od, J, _⟩ := J.look
  obtain ⟨od', J', _⟩ := J'.look
  have sb : Sub X n X.A.in1 := ⟨hr.in1, rfl⟩
  show wpAny (model X.prog X.w) X.A (richCompare .NotEq (.ref a) (.ref b)) (EP X pins σ Q) X.xe s
  refine ne_own sb.room.units0 I.kIn J J'.type hne hs hf hm (run_sub (vs := [V.ref a, V.ref b]) F sb hb hx I (.cons rfl (.cons rfl .nil)) q fun v u H' s' I' rv hq => ?_)
  obtain ⟨z, rfl, hq⟩ := hq
  cases rv
  exact ⟨z, rfl, .bl (!z), H', I', rfl, hq⟩
/-- len(x) by its __len__ -/
theorem call_lenOwn (F : FnOk X.prog X.w X.K X.mg X.base CX n f fd ps sp) (hs : PySem.W.findIn X.K (.ref C) "__len__" = some (some (.ref f))) (hf : PySem.W.isFn X.K (.ref f) = true) (hr : Room (n + 1) X.A) (hb : Binds X.K fd ps []) (hx : Passes CX X E0) :
    CallR X (.builtin "len") (fun xs H Q => ∃ (a dx : Addr) (fs : List (Str × V)), xs = [.ref a] ∧ H a = some (.ins C dx fs) ∧ sp [.ref a] H (fun v H' => ∃ k : Int, v = .int k ∧ 0 ≤ k ∧ k < 2 ^ 63 ∧ Q (.int k) H') E0) := by
  intro pins s σ H xs us Q I r h
  obtain ⟨a, dx, fs, rfl, ha, q⟩ := h
  obtain ⟨u, rfl, ru⟩ := vals1 r
  cases ru
  obtain ⟨mA, J, _⟩ := ins_get I.hok ha
  obtain ⟨od, J, _⟩ := J.look
  obtain ⟨m, hF⟩ := I.fr
  have sb : Sub X n X.A.in1 := ⟨hr.in1, rfl⟩
  refine PySem.W.len_K hF I.ok.mod.kin J hs hf (run_sub (vs := [V.ref a]) F sb hb hx I (.cons rfl .nil) q fun v u H' s' I' rv hq => ?_)
  obtain ⟨k, rfl, k0, k1, hq⟩ := hq
  obtain ⟨t, rfl⟩ := rv
  exact ⟨⟨k0, k1⟩, .int k, H', I'.tok _, ⟨_, rfl⟩, hq⟩
end
end Lay
set_option Elab.async false
set_option linter.all false
set_option maxRecDepth 100000
set_option maxHeartbeats 4000000
namespace Lay
open PySem L2
/-- rows that stand in a sequence -/
def RowsAt (C : Addr) (H : Hp) (xs : List V) (rs : List RD) : Prop := xs.length = rs.length ∧ (∀ r ∈ rs, r.Ok) ∧ ∀ (i : Nat) (x : V) (r : RD), xs[i]? = some x → rs[i]? = some r → ∃ q, x = .ref q ∧ RowAt C H q r
theorem RowsAt.same {C : Addr} {H H' : Hp} {xs : List V} {rs : List RD} (s : Same H H') (h : RowsAt C H xs rs) : RowsAt C H' xs rs := ⟨h.1, h.2.1, fun i x r h1 h2 => by
  obtain ⟨q, e, hq⟩ := h.2.2 i x r h1 h2
  exact ⟨q, e, hq.same s⟩⟩
/-- at p a tool of rs -/
def ToolAt (K : PySem.W.Frag) (C CT : Addr) (H : Hp) (p : Addr) (rs : List RD) (s : Bool) : Prop := ∃ dx t xs, H p = some (.ins CT dx (toolF t (.bl s))) ∧ TupG K H t xs ∧ RowsAt C H xs rs ∧ rs.length ≤ 100
theorem ToolAt.same {K : PySem.W.Frag} {C CT : Addr} {H H' : Hp} {p : Addr} {rs : List RD} {s : Bool} (e : Same H H') (h : ToolAt K C CT H p rs s) : ToolAt K C CT H' p rs s := by
  obtain ⟨dx, t, xs, h1, h2, h3, h4⟩ := h
  exact ⟨dx, t, xs, e _ _ h1, h2.same e, h3.same e, h4⟩
def firstS (s : Bool) : Str := if s then "tool sorts" else "tool"
def toolText (rs : List RD) (s : Bool) : Str := Txt.join "\n" (firstS s :: rs.map rowText)
def spFirst (K : PySem.W.Frag) (C CT : Addr) : Sp := fun vs H Q _ => ∃ (p : Addr) (rs : List RD) (s : Bool), vs = [.ref p] ∧ ToolAt K C CT H p rs s ∧ Q (.str (firstS s)) H
def spStrTool (K : PySem.W.Frag) (C CT : Addr) : Sp := fun vs H Q _ => ∃ (p : Addr) (rs : List RD) (s : Bool), vs = [.ref p] ∧ ToolAt K C CT H p rs s ∧ ∀ H', Same H H' → Q (.str (toolText rs s)) H'
abbrev sFirst : Stmt := top 18
abbrev sStrTool : Stmt := inClass (top 21) 8
section
variable {P : Program} {w : World} {K : PySem.W.Frag} {mg : Str → Option Value} {base : Heap}
theorem scFirst : FnScope ["tool"] ["tool"] (defScope sFirst) := ⟨rfl, rfl, rfl, by decide +kernel, rfl, by decide +kernel, by decide +kernel⟩
theorem ok_first {f C CT : Addr} {fd : FuncData} (F : Fun K "first_line" "first_line" sFirst f fd) (Z : ToolC K CT) : FnOk P w K mg base CX0 1 f fd ["tool"] (spFirst K C CT) := by
  refine F.ok scFirst (fun vs H Q E h => ?_) (fun cdv A outer s H vs Q E hr h => ?_)
  · obtain ⟨p, rs, b, rfl, _⟩ := h
    rfl
  · obtain ⟨p, rs, b, rfl, ⟨dx, t, xs, hp, ht, hr', hl⟩, k⟩ := h
    refine ⟨_, pss_one (ps_ret (pe_ifExp (pt_val (pe_fld (pv 0) rfl)) pe_str pe_str)), ?_⟩
    refine ⟨_, rfl, p, CT, dx, _, _, rfl, hp, Z.cl, Z.sorts, rfl, _, rfl, ?_⟩
    cases b with
    | true => exact iteY rfl k
    | false => exact iteN rfl k
theorem scStrTool : FnScope ["self", "row"] ["self"] (defScope sStrTool) := ⟨rfl, rfl, rfl, by decide +kernel, rfl, by decide +kernel, by decide +kernel⟩
theorem ok_strTool {f fF fS C CT : Addr} {fd fdF fdS : FuncData} (F : Fun K "__str__" "Tool.__str__" sStrTool f fd) (Z : ToolC K CT) (hstr : mg "str" = none) (GF : FnOk P w K mg base CX0 1 fF fdF ["tool"] (spFirst K C CT)) (gF : mg "first_line" = some (.ref fF)) (kF : PySem.W.keepIn K (.ref fF) = true) (bF : Binds K fdF ["tool"] [])
    (GS : FnOk P w K mg base CX0 2 fS fdS ["self"] (spStrRow C)) (hs : PySem.W.findIn K (.ref C) "__str__" = some (some (.ref fS))) (hf : PySem.W.isFn K (.ref fS) = true) (bS : Binds K fdS ["self"] []) : FnOk P w K mg base CX0 5 f fd ["self"] (spStrTool K C CT) := by
  refine F.ok scStrTool (fun vs H Q E h => ?_) (fun cdv A outer s H vs Q E hr h => ?_)
  · obtain ⟨p, rs, b, rfl, _⟩ := h
    rfl
  · obtain ⟨p, rs, b, rfl, hT, k⟩ := h
    have hr1 := hr.mono (show 1 ≤ 4 by decide)
    refine ⟨_, pss_one (ps_ret (pe_bm PySem.F.plainAttrs_str PySem.F.slot_str_join PySem.F.type_str_join mt_join pe_str (pa_cons (pe_lst (pa_cons (pe_call GF hr1 (by rfl) gF kF bF .nil pass0 (pa_cons (pv 0) pa_nil))
      (StX.pa_star (pe_lc (own := [("row", 1)]) (g := gName 1) (tt := tYes) (by rfl) scStrTool.nd (pi_tup (pe_fld (pv 0) rfl)) (blkOk_by (N := ["self", "row"]) (sc := defScope sStrTool) (by decide +kernel)) (fun _ _ _ _ _ => pg_name (i := 1) scStrTool.nd rfl (Or.inl rfl)) (fun _ _ _ _ _ => pts_nil)
        (fun _ _ _ _ _ => pe_callTy (call_strOwn GS hs hf hr bS pass0) (by rfl) hstr (by decide +kernel) (pa_cons (pv 1) pa_nil))) pa_nil))) pa_nil))), ?_⟩
    obtain ⟨dx, t, xs, hp, ht, hrows, hl⟩ := id hT
    have lx : xs.length ≤ 100 := by rw [hrows.1]; exact hl
    refine ⟨rfl, _, rfl, p, rs, b, rfl, hT, ?_⟩
    refine ⟨_, rfl, p, CT, dx, _, _, rfl, hp, Z.cl, Z.rows, rfl, t, rfl, ⟨_, ht.sqT⟩, fun D nD => lc_tup (xs := xs) (fun i G => Same H G ∧ G D = some (.lst ((rs.take i).map fun r => V.str (rowText r)))) ⟨Same.new nD, upd_same⟩ (fun i G _ q => SqT.same q.1 ht.sqT) ?_ ?_⟩
    · rintro i x G hi ⟨sG, hD⟩
      have li := (List.getElem?_eq_some_iff.mp hi).1
      rw [hrows.1] at li
      have er : rs[i]? = some rs[i] := by simp [li]
      obtain ⟨q, rfl, hq⟩ := (hrows.same sG).2.2 i x _ hi er
      obtain ⟨dx2, t2, d2, h1, _⟩ := id hq
      refine ⟨rfl, _, rfl, q, dx2, _, rfl, h1, q, rs[i], rfl, hq, hrows.2.1 _ (List.getElem_mem li), fun G2 s2 => ⟨_, rfl, _, s2 _ _ hD, ?_, fun c u e => ?_, ?_⟩⟩
      · rw [List.length_map, List.length_take]
        exact small1000 (by omega)
      · rw [upd_ne (ne_of_none e nD)]
        exact s2 _ _ (sG _ _ e)
      · rw [upd_same, List.take_succ, er, List.map_append]
        rfl
    · rintro G ⟨sG, hD⟩
      rw [hrows.1, List.take_length] at hD
      refine ⟨D, _, rfl, .inr (SqL.of hD), ?_, fun l nl => ?_⟩
      · rw [List.append_nil, List.length_cons, List.length_map]
        exact fits (by omega)
      have sl := Same.new nl (o := .lst (V.str (firstS b) :: ((rs.map fun r => V.str (rowText r)) ++ [])))
      refine ⟨_, l, firstS b :: rs.map rowText, rfl, rfl, .inl (SqL.of ?_), ?_, k _ (sG.trans sl)⟩
      · rw [upd_same, List.append_nil, List.map_cons, List.map_map]
        rfl
      · have s1 : ((rs.map rowText).map (·.length)).sum ≤ (rs.map rowText).length * 1100 := sum_few fun z hz => by
          obtain ⟨r, hr2, rfl⟩ := List.mem_map.mp hz
          exact rowText_few (hrows.2.1 r hr2)
        have f1 : (firstS b).length ≤ 10 := by cases b <;> decide
        have j : (Str.ofString "\n").length = 1 := by decide
        rw [List.length_map] at s1
        rw [j, List.map_cons, List.sum_cons, List.length_cons, List.length_map]
        omega
end
end Lay
set_option Elab.async false
set_option linter.all false
set_option maxRecDepth 100000
set_option maxHeartbeats 4000000
namespace Lay
open PySem L2
structure ClsI (K : PySem.W.Frag) (C : Addr) : Prop where
  cl : Cls K C
  ha : PySem.W.findIn K (.ref C) "__class__" = some (some (.builtin "object.__class__"))
  hn : PySem.W.specialIn K (.builtin "object.__class__") "__get__" = some (some (.builtin "getset_descriptor.__get__"))
  htk : PySem.W.takesIn K (.builtin "object.__class__") = some true
  hm : PySem.W.mroIn K C (.type "object") = some true
theorem ClsI.at {K : PySem.W.Frag} {C a dx : Addr} {H : Hp} {fs : List (Str × V)} (c : ClsI K C) (h : H a = some (.ins C dx fs)) : TyX K H (.ref a) (.ref C) := .base (.ins h c.cl c.ha c.hn c.htk c.hm)
theorem kit_same {K : PySem.W.Frag} {C : Addr} : PySem.W.kitOne K (.ref C) (.ref C) = some true := by
  unfold PySem.W.kitOne
  rw [if_pos (by simp)]
theorem RowAt.isP {K : PySem.W.Frag} {C p : Addr} {H : Hp} {r : RD} (c : ClsI K C) (h : RowAt C H p r) : IsP K C H (.ref p) true := by
  obtain ⟨dx, t, d, h1, _⟩ := h
  exact ⟨_, c.at h1, kit_same⟩
section
variable {X : Cx}
theorem op_catG : OpR X (binaryOp .Add) (fun x y H Q => ∃ a b xs ys, x = .ref a ∧ y = .ref b ∧ TupG X.K H a xs ∧ TupG X.K H b ys ∧ xs.length + ys.length ≤ 1000 ∧ ∀ p H', Same H H' → TupG X.K H' p (xs ++ ys) → Q (.ref p) H') := by
  intro pins s σ H x y v u Q I rx ry h
  obtain ⟨a, b, xs, ys, rfl, rfl, ha, hb, hl, q⟩ := h
  refine op_catA pins s σ H _ _ v u Q I rx ry ⟨a, b, xs, ys, rfl, rfl, ha.sqT, hb.sqT, fits hl, fun e => ?_, fun _ e => ?_, fun _ _ p np => q p _ (Same.new np) (.inl upd_same)⟩
  · subst e
    exact q b H (Same.refl H) hb
  · subst e
    exact q a H (Same.refl H) (by rw [List.append_nil]; exact ha)
end
/-- a row that is let -/
def spRowG (K : PySem.W.Frag) (C : Addr) : Sp := fun vs H Q _ => ∃ (p dx a c : Addr) (r : RD), vs = [.ref p, .ref a, .ref c] ∧ H p = some (.ins C dx []) ∧ SqX H a (r.ws.map V.str) ∧ SqX H c (r.us.map V.str) ∧ r.Ok ∧ (∀ z ∈ r.ws, progT z = true) ∧ (∀ z ∈ r.us, progD z = true) ∧
  ∀ H', Kept p H H' → RowAt C H' p r → Q .non H'
theorem good_ans {f : Str → Bool} {more : List V → Bool} {K : PySem.W.Frag} {H : Hp} {t : Addr} {ws : List Str} (h : SqX H t (ws.map V.str)) (l : ws.length ≤ 1000) (m : more (ws.map V.str) = true) (g : ∀ z ∈ ws, f z = true ∧ z.length ≤ 1000) : AnsV f more K H (.ref t) true := by
  refine .inr ⟨t, _, ws.map f, rfl, h, by rw [List.length_map]; exact l, ⟨by rw [List.length_map, List.length_map], fun i x b hx hb => ?_⟩, ?_⟩
  · obtain ⟨z, hz, rfl⟩ := str_at hx
    rw [List.getElem?_map, hz] at hb
    cases hb
    exact .inl ⟨z, rfl, (g z (List.mem_of_getElem? hz)).2, rfl⟩
  · rw [m, Bool.true_and]
    symm
    rw [List.all_eq_true]
    intro b hb
    obtain ⟨z, hz, rfl⟩ := List.mem_map.mp hb
    exact (g z hz).1
/-- a tool that is let -/
def spToolG (K : PySem.W.Frag) (C CT : Addr) : Sp := fun vs H Q _ => ∃ (p dx a : Addr) (xs : List V) (s : Bool), vs = [.ref p, .ref a, .bl s] ∧ H p = some (.ins CT dx []) ∧ SqG K H a xs ∧ xs.length ≤ 1000 ∧ (∀ v ∈ xs, IsP K C H v true) ∧
  ∀ H' t, TupG K H' t xs → Kept p H H' → H' p = some (.ins CT dx (toolF t (.bl s))) → Q .non H'
section
variable {P : Program} {w : World} {K : PySem.W.Frag} {mg : Str → Option Value} {base : Heap}
theorem ok_rowG {f fT fD C : Addr} {fd fdT fdD : FuncData} {dvs : List V} (F : FunD K "__init__" "Row.__init__" (defArgs sRowI) (defBody sRowI) (defScope sRowI) dvs [] f fd) (T : TxtK mg) (Z : RowC K C)
    (GT : FnOk P w K mg base CX0 2 fT fdT ["value"] (spAre progT yes K)) (gT : mg "are_tests" = some (.ref fT)) (kT : PySem.W.keepIn K (.ref fT) = true) (bT : Binds K fdT ["value"] [])
    (GD : FnOk P w K mg base CX0 2 fD fdD ["value"] (spAre progD full K)) (gD : mg "are_deeds" = some (.ref fD)) (kD : PySem.W.keepIn K (.ref fD) = true) (bD : Binds K fdD ["value"] []) : FnOk P w K mg base CX0 3 f fd ["self", "tests", "deeds"] (spRowG K C) := by
  refine F.ok scRowI (fun vs H Q E h => ?_) (fun cdv A outer s H vs Q E hr h => ?_)
  · obtain ⟨p, dx, a, c, r, rfl, _⟩ := h
    rfl
  · obtain ⟨p, dx, a, c, r, rfl, hp, hx, hy, o, gt, gd, k⟩ := h
    refine ⟨_, (pss_cons (ps_if (pt_not (pt_val (pe_call GT hr (by rfl) gT kT bT .nil pass0 (pa_cons (pv 1) pa_nil)))) pss_never pss_nil)
    (pss_cons (ps_if (pt_not (pt_val (pe_call GD hr (by rfl) gD kD bD .nil pass0 (pa_cons (pv 2) pa_nil)))) pss_never pss_nil)
    (pss_cons (ps_fld (pv 0) (pe_callTy call_tupleX (by rfl) T.tuple (by decide +kernel) (pa_cons (pv 1) pa_nil)) rfl)
    (pss_one (ps_fld (pv 0) (pe_callTy call_tupleX (by rfl) T.tuple (by decide +kernel) (pa_cons (pv 2) pa_nil)) rfl))))), ?_⟩
    have lw := o.lw
    have lu := o.lu
    have at_ := good_ans (K := K) (more := yes) hx (by omega) rfl fun z h => ⟨gt z h, by have := o.w z h; omega⟩
    have ad_ := good_ans (K := K) (more := full) hy (by omega) (decide_eq_true (by rw [List.length_map]; exact o.nu)) fun z h => ⟨gd z h, by have := o.u z h; omega⟩
    refine ⟨_, rfl, _, true, rfl, at_, fun H1 s1 => ⟨_, rfl, iteN rfl ⟨_, rfl, _, true, rfl, ad_.same s1, fun H2 s2 => ⟨_, rfl, iteN rfl ?_⟩⟩⟩⟩
    have s12 := s1.trans s2
    have nap : a ≠ p := by
      rcases hx with h | h
      · exact ne_of h hp (fun z => nomatch z)
      · exact ne_of h hp (fun z => nomatch z)
    have ncp : c ≠ p := by
      rcases hy with h | h
      · exact ne_of h hp (fun z => nomatch z)
      · exact ne_of h hp (fun z => nomatch z)
    refine ⟨_, rfl, a, _, rfl, hx.same s12, fun t H3 s3 h3 => ⟨_, rfl, p, C, dx, _, rfl, s3 _ _ (s12 _ _ hp), Z.cl, Z.tests, (by show 0 < 1000; decide), ?_⟩⟩
    have k4 : Kept p H (upd H3 p (.ins C dx (putF "tests" (.ref t) []))) := (Kept.of_same (s12.trans s3)).trans Kept.box
    have hy4 : SqX (upd H3 p (.ins C dx (putF "tests" (.ref t) []))) c (r.us.map V.str) := hy.imp (k4 _ _ ncp) (k4 _ _ ncp)
    have ntp : t ≠ p := ne_of h3 (s3 _ _ (s12 _ _ hp)) (fun z => nomatch z)
    refine ⟨_, rfl, c, _, rfl, hy4, fun d H5 s5 h5 => ⟨_, rfl, p, C, dx, _, rfl, s5 _ _ upd_same, Z.cl, Z.deeds, ?_, ?_⟩⟩
    · exact Nat.lt_of_le_of_lt (length_putF _ _ []) (by show 0 + 1 < 1000; decide)
    · have ndp : d ≠ p := ne_of h5 (s5 _ _ upd_same) (fun z => nomatch z)
      refine k _ ((k4.trans (Kept.of_same s5)).trans Kept.box) ⟨dx, t, d, upd_same, ?_, ?_⟩
      · rw [upd_ne ntp]
        exact s5 _ _ (by rw [upd_ne ntp]; exact h3)
      · rw [upd_ne ndp]
        exact h5
theorem ok_toolG {f fR C CT : Addr} {fd fdR : FuncData} {dvs : List V} (F : FunD K "__init__" "Tool.__init__" (defArgs sToolI) (defBody sToolI) (defScope sToolI) dvs [] f fd) (T : TxtK mg) (hbool : mg "bool" = none) (Z : ToolC K CT)
    (GR : FnOk P w K mg base CX0 2 fR fdR ["value"] (spAreR K C)) (gR : mg "are_rows" = some (.ref fR)) (kR : PySem.W.keepIn K (.ref fR) = true) (bR : Binds K fdR ["value"] []) : FnOk P w K mg base CX0 3 f fd ["self", "rows", "sorts"] (spToolG K C CT) := by
  refine F.ok scToolI (fun vs H Q E h => ?_) (fun cdv A outer s H vs Q E hr h => ?_)
  · obtain ⟨p, dx, a, xs, b, rfl, _⟩ := h
    rfl
  · obtain ⟨p, dx, a, xs, b, rfl, hp, hs, hl, hi, k⟩ := h
    refine ⟨_, (pss_cons (ps_if (pt_not (pt_val (pe_call GR hr (by rfl) gR kR bR .nil pass0 (pa_cons (pv 1) pa_nil)))) pss_never pss_nil)
    (pss_cons (ps_if (pt_not (pt_val (pe_callB call_isi (by rfl) T.isinstance (by decide +kernel) (pa_cons (pv 2) (pa_cons (pe_bltn (v := .ty "bool") (by rfl) hbool (by decide +kernel) rfl) pa_nil))))) pss_never pss_nil)
    (pss_cons (ps_fld (pv 0) (pe_callTy call_tupleG (by rfl) T.tuple (by decide +kernel) (pa_cons (pv 1) pa_nil)) rfl)
    (pss_one (ps_fld (pv 0) (pv 2) rfl))))), ?_⟩
    have an : AnsR K C H (.ref a) true := by
      refine .inr ⟨a, xs, List.replicate xs.length true, rfl, hs, hl, ⟨List.length_replicate, fun n x b hx hb => ?_⟩, ?_⟩
      · rw [(List.mem_replicate.mp (List.mem_of_getElem? hb)).2]
        exact hi x (List.mem_of_getElem? hx)
      · symm
        rw [List.all_eq_true]
        intro b hb
        rw [(List.mem_replicate.mp hb).2]
        rfl
    refine ⟨_, rfl, _, true, rfl, an, fun H1 s1 => ⟨_, rfl, iteN rfl ⟨_, rfl, _, _, _, _, true, rfl, .ty _, .base (.bl b), kit_ty (by decide +kernel), _, rfl, iteN rfl ?_⟩⟩⟩
    refine ⟨_, rfl, a, xs, rfl, hs.same s1, fun l H2 s2 hl2 => ⟨_, rfl, p, CT, dx, _, rfl, s2 _ _ (s1 _ _ hp), Z.cl, Z.rows, (by show 0 < 1000; decide), ?_⟩⟩
    refine ⟨_, rfl, _, rfl, p, CT, dx, _, rfl, upd_same, Z.cl, Z.sorts, ?_, ?_⟩
    · exact Nat.lt_of_le_of_lt (length_putF _ _ []) (by show 0 + 1 < 1000; decide)
    · exact k _ l ((hl2.put_ins (s2 _ _ (s1 _ _ hp))).put_ins upd_same) (((Kept.of_same (s1.trans s2)).trans Kept.box).trans Kept.box) upd_same
end
end Lay
set_option Elab.async false
set_option linter.all false
set_option maxRecDepth 100000
set_option maxHeartbeats 4000000
namespace Lay
open PySem L2
theorem made_same {x dx : Addr} {H H' : Hp} {o : HO} (hx : H x = none) (hd : H dx = none) (k : Kept x (upd (upd H dx (.own x)) x o) H') : Same H H' := fun b u e => k b u (ne_of_none e hx) (by rw [upd_ne (ne_of_none e hx), upd_ne (ne_of_none e hd)]; exact e)
theorem fresh_own {H : Hp} {p d : Addr} {o : HO} (np : H p = none) (ne : d ≠ p) : upd H d o p = none := by
  rw [upd_ne (Ne.symm ne)]
  exact np
theorem RowsAt.append {C : Addr} {H : Hp} {xs ys : List V} {rs qs : List RD} (h : RowsAt C H xs rs) (g : RowsAt C H ys qs) : RowsAt C H (xs ++ ys) (rs ++ qs) := by
  refine ⟨by rw [List.length_append, List.length_append, h.1, g.1], fun r hr => ?_, fun i x r hx hr => ?_⟩
  · rcases List.mem_append.mp hr with hr | hr
    · exact h.2.1 r hr
    · exact g.2.1 r hr
  · by_cases hi : i < xs.length
    · rw [List.getElem?_append_left hi] at hx
      rw [List.getElem?_append_left (by rw [← h.1]; exact hi)] at hr
      exact h.2.2 i x r hx hr
    · rw [List.getElem?_append_right (by omega)] at hx
      rw [List.getElem?_append_right (by rw [← h.1]; omega), ← h.1] at hr
      exact g.2.2 _ x r hx hr
theorem RowsAt.isP {K : PySem.W.Frag} {C : Addr} {H : Hp} {xs : List V} {rs : List RD} (c : ClsI K C) (h : RowsAt C H xs rs) : ∀ v ∈ xs, IsP K C H v true := fun v hv => by
  obtain ⟨i, hi⟩ := List.mem_iff_getElem?.mp hv
  have li := (List.getElem?_eq_some_iff.mp hi).1
  rw [h.1] at li
  obtain ⟨q, rfl, hq⟩ := h.2.2 i v rs[i] hi (by simp [li])
  exact hq.isP c
def spLenT (K : PySem.W.Frag) (C CT : Addr) : Sp := fun vs H Q _ => ∃ (p : Addr) (rs : List RD) (s : Bool), vs = [.ref p] ∧ ToolAt K C CT H p rs s ∧ Q (.int rs.length) H
def spEqT (K : PySem.W.Frag) (C CT : Addr) : Sp := fun vs H Q _ => ∃ (p q : Addr) (rs qs : List RD) (s t : Bool), vs = [.ref p, .ref q] ∧ ToolAt K C CT H p rs s ∧ ToolAt K C CT H q qs t ∧ ∀ H', Same H H' → Q (.bl (decide (V.str (toolText rs s) = V.str (toolText qs t)))) H'
/-- at p a tool of rs, its rows xs in the tuple t -/
def ToolX (K : PySem.W.Frag) (C CT : Addr) (H : Hp) (p t : Addr) (xs : List V) (rs : List RD) (s : Bool) : Prop := ∃ dx, H p = some (.ins CT dx (toolF t (.bl s))) ∧ TupG K H t xs ∧ RowsAt C H xs rs ∧ rs.length ≤ 100
theorem ToolX.at {K : PySem.W.Frag} {C CT : Addr} {H : Hp} {p t : Addr} {xs : List V} {rs : List RD} {s : Bool} (h : ToolX K C CT H p t xs rs s) : ToolAt K C CT H p rs s := by
  obtain ⟨dx, h⟩ := h
  exact ⟨dx, t, xs, h⟩
theorem ToolX.same {K : PySem.W.Frag} {C CT : Addr} {H H' : Hp} {p t : Addr} {xs : List V} {rs : List RD} {s : Bool} (e : Same H H') (h : ToolX K C CT H p t xs rs s) : ToolX K C CT H' p t xs rs s := by
  obtain ⟨dx, h1, h2, h3, h4⟩ := h
  exact ⟨dx, e _ _ h1, h2.same e, h3.same e, h4⟩
theorem ToolAt.x {K : PySem.W.Frag} {C CT : Addr} {H : Hp} {p : Addr} {rs : List RD} {s : Bool} (h : ToolAt K C CT H p rs s) : ∃ t xs, ToolX K C CT H p t xs rs s := by
  obtain ⟨dx, t, xs, h⟩ := h
  exact ⟨t, xs, dx, h⟩
def spAddT (K : PySem.W.Frag) (C CT : Addr) : Sp := fun vs H Q _ => ∃ (p q t1 t2 : Addr) (xs ys : List V) (rs qs : List RD) (s t : Bool), vs = [.ref p, .ref q] ∧ ToolX K C CT H p t1 xs rs s ∧ ToolX K C CT H q t2 ys qs t ∧ rs.length + qs.length ≤ 100 ∧ ∀ c u H', Same H H' → H c = none → ToolX K C CT H' c u (xs ++ ys) (rs ++ qs) s → Q (.ref c) H'
abbrev sLenT : Stmt := inClass (top 21) 3
abbrev sAddT : Stmt := inClass (top 21) 6
abbrev sEqT : Stmt := inClass (top 21) 7
section
variable {P : Program} {w : World} {K : PySem.W.Frag} {mg : Str → Option Value} {base : Heap}
theorem scLenT : FnScope ["self"] ["self"] (defScope sLenT) := ⟨rfl, rfl, rfl, by decide +kernel, rfl, by decide +kernel, by decide +kernel⟩
theorem ok_lenT {f C CT : Addr} {fd : FuncData} (F : Fun K "__len__" "Tool.__len__" sLenT f fd) (hlen : mg "len" = none) (Z : ToolC K CT) : FnOk P w K mg base CX0 1 f fd ["self"] (spLenT K C CT) := by
  refine F.ok scLenT (fun vs H Q E h => ?_) (fun cdv A outer s H vs Q E hr h => ?_)
  · obtain ⟨p, rs, b, rfl, _⟩ := h
    rfl
  · obtain ⟨p, rs, b, rfl, ⟨dx, t, xs, hp, ht, hr', hl⟩, k⟩ := h
    refine ⟨_, pss_one (ps_ret (pe_callB call_len_seq (by rfl) hlen PySem.boot_len (pa_cons (pe_fld (pv 0) rfl) pa_nil))), ?_⟩
    refine ⟨_, rfl, p, CT, dx, _, _, rfl, hp, Z.cl, Z.rows, rfl, t, xs, rfl, .inr ht.sqT, ?_⟩
    rw [hr'.1]
    exact k
theorem scEqT : FnScope ["self", "other"] ["self", "other"] (defScope sEqT) := ⟨rfl, rfl, rfl, by decide +kernel, rfl, by decide +kernel, by decide +kernel⟩
theorem ok_eqT {f fS C CT : Addr} {fd fdS : FuncData} (F : Fun K "__eq__" "Tool.__eq__" sEqT f fd) (T : TxtK mg) (c : ClsI K CT) (gT : mg "Tool" = some (.ref CT))
    (GS : FnOk P w K mg base CX0 5 fS fdS ["self"] (spStrTool K C CT)) (hs : PySem.W.findIn K (.ref CT) "__str__" = some (some (.ref fS))) (hf : PySem.W.isFn K (.ref fS) = true) (bS : Binds K fdS ["self"] []) : FnOk P w K mg base CX0 8 f fd ["self", "other"] (spEqT K C CT) := by
  refine F.ok scEqT (fun vs H Q E h => ?_) (fun cdv A outer s H vs Q E hr h => ?_)
  · obtain ⟨p, q, rs, qs, b, b2, rfl, _⟩ := h
    rfl
  · obtain ⟨p, q, rs, qs, b, b2, rfl, hp, hq, k⟩ := h
    refine ⟨_, pss_one (ps_ret (pe_and (pe_callB call_isi (by rfl) T.isinstance (by decide +kernel) (pa_cons (pv 1) (pa_cons (pe_glob (v := .ref CT) (by rfl) gT rfl) pa_nil)))
      (pe_one (pe_cmpR op_eq (pe_callTy (call_strOwn GS hs hf hr bS pass0) (by rfl) T.str (by decide +kernel) (pa_cons (pv 0) pa_nil)) (pe_callTy (call_strOwn GS hs hf hr bS pass0) (by rfl) T.str (by decide +kernel) (pa_cons (pv 1) pa_nil)) (nomark _))))), ?_⟩
    obtain ⟨dx2, t2, xs2, hq2, _⟩ := id hq
    obtain ⟨dx1, t1, xs1, hp1, _⟩ := id hp
    refine ⟨_, rfl, _, _, _, _, true, rfl, .own _, c.at hq2, kit_same, _, rfl, iteY rfl ?_⟩
    refine ⟨_, rfl, p, dx1, _, rfl, hp1, p, rs, b, rfl, hp, fun H1 s1 => ⟨_, rfl, _, rfl, q, dx2, _, rfl, s1 _ _ hq2, q, qs, b2, rfl, hq.same s1, fun H2 s2 => ⟨_, rfl, rfl, k H2 (s1.trans s2)⟩⟩⟩
theorem scAddT : FnScope ["self", "other"] ["self", "other"] (defScope sAddT) := ⟨rfl, rfl, rfl, by decide +kernel, rfl, by decide +kernel, by decide +kernel⟩
theorem ok_addT {f fT C CT : Addr} {fd fdT : FuncData} (F : Fun K "__add__" "Tool.__add__" sAddT f fd) (T : TxtK mg) (c0 : ClsI K C) (c : ClsI K CT) (Z : ToolC K CT) (gT : mg "Tool" = some (.ref CT)) (M : Mk K CT fT)
    (GT : FnOk P w K mg base CX0 3 fT fdT ["self", "rows", "sorts"] (spToolG K C CT)) (bT : Binds K fdT ["self", "rows", "sorts"] []) : FnOk P w K mg base CX0 5 f fd ["self", "other"] (spAddT K C CT) := by
  refine F.ok scAddT (fun vs H Q E h => ?_) (fun cdv A outer s H vs Q E hr h => ?_)
  · obtain ⟨p, q, t1, t2, xs1, xs2, rs, qs, b, b2, rfl, _⟩ := h
    rfl
  · obtain ⟨p, q, t1, t2, xs1, xs2, rs, qs, b, b2, rfl, hp, hq, hl, k⟩ := h
    refine ⟨_, (pss_cons (ps_if (pt_not (pt_val (pe_callB call_isi (by rfl) T.isinstance (by decide +kernel) (pa_cons (pv 1) (pa_cons (pe_glob (v := .ref CT) (by rfl) gT rfl) pa_nil))))) pss_never pss_nil)
      (pss_one (ps_ret (pe_make M GT hr (by rfl) gT bT .nil pass0 (pa_cons (pe_op op_catG (pe_fld (pv 0) rfl) (pe_fld (pv 1) rfl)) (pa_cons (pe_fld (pv 0) rfl) pa_nil)))))), ?_⟩
    obtain ⟨dx2, hq2, ht2, hr2, hl2⟩ := id hq
    obtain ⟨dx1, hp1, ht1, hr1, hl1⟩ := id hp
    refine ⟨_, rfl, _, _, _, _, true, rfl, .own _, c.at hq2, kit_same, _, rfl, iteN rfl ?_⟩
    refine ⟨_, rfl, p, CT, dx1, _, _, rfl, hp1, Z.cl, Z.rows, rfl, _, rfl, q, CT, dx2, _, _, rfl, hq2, Z.cl, Z.rows, rfl, t1, t2, xs1, xs2, rfl, rfl, ht1, ht2, by rw [hr1.1, hr2.1]; omega, fun u H1 s1 hu => ⟨_, rfl, p, CT, dx1, _, _, rfl, s1 _ _ hp1, Z.cl, Z.sorts, rfl, fun x dx nx nd ne => ?_⟩⟩
    have zz := (Same.new nd (o := .own x)).trans (Same.new (fresh_own (o := .own x) nx ne) (o := .ins CT dx []))
    have rr := ((hr1.append hr2).same s1)
    refine ⟨x, dx, u, xs1 ++ xs2, b, rfl, upd_same, .inr (hu.same zz), by rw [List.length_append, hr1.1, hr2.1]; omega, (rr.same zz).isP c0, fun H2 t ht kp hx => ⟨rfl, ?_⟩⟩
    have s2 := made_same nx nd kp
    exact k x t H2 (s1.trans s2) (s1.free nx) ⟨dx, hx, ht, rr.same s2, by rw [List.length_append]; exact hl⟩
end
end Lay
set_option Elab.async false
set_option linter.all false
set_option maxRecDepth 100000
set_option maxHeartbeats 4000000
namespace Lay
open PySem L2
theorem str_assoc (a b c : Str) : (a ++ b) ++ c = a ++ (b ++ c) := by
  cases a
  cases b
  cases c
  show Str.mk _ = Str.mk _
  congr 1
  exact Array.append_assoc
/-- the law's text of a row -/
theorem rowText_none {r : RD} (h : r.ws = []) : rowText r = (Str.ofString "" ++ Str.ofString "do ") ++ Txt.join " then " r.us := by
  unfold rowText rowWords
  rw [if_pos h, TL.join_eq]
  show Str.ofString "do" ++ Str.ofString " " ++ Txt.join " then " r.us = _
  rw [show Str.ofString "do" ++ Str.ofString " " = Str.ofString "" ++ Str.ofString "do " from by decide +kernel]
theorem rowText_some {r : RD} (h : ¬ r.ws = []) : rowText r = (((Str.ofString "if " ++ Txt.join " and " r.ws) ++ Str.ofString " ") ++ Str.ofString "do ") ++ Txt.join " then " r.us := by
  unfold rowText rowWords
  rw [if_neg h, TL.join_eq]
  show Str.ofString "if" ++ Str.ofString " " ++ (Txt.join " and " r.ws ++ Str.ofString " " ++ (Str.ofString "do" ++ Str.ofString " " ++ Txt.join " then " r.us)) = _
  rw [show Str.ofString "if " = Str.ofString "if" ++ Str.ofString " " from by decide +kernel, show Str.ofString "do " = Str.ofString "do" ++ Str.ofString " " from by decide +kernel]
  simp only [str_assoc]
/-- a pair of tests and deeds -/
def PrAt (H : Hp) (p : Addr) (r : RD) : Prop := ∃ t d, H p = some (.tup [.ref t, .ref d]) ∧ H t = some (.tup (r.ws.map V.str)) ∧ H d = some (.tup (r.us.map V.str))
theorem PrAt.same {H H' : Hp} {p : Addr} {r : RD} (s : Same H H') (h : PrAt H p r) : PrAt H' p r := by
  obtain ⟨t, d, h1, h2, h3⟩ := h
  exact ⟨t, d, s _ _ h1, s _ _ h2, s _ _ h3⟩
def spRowText : Sp := fun vs H Q _ => ∃ (p : Addr) (r : RD), vs = [.ref p] ∧ PrAt H p r ∧ r.Ok ∧ ∀ H', Same H H' → Q (.str (rowText r)) H'
abbrev sRowText : Stmt := top 31
theorem strs_dp {K : PySem.W.Frag} {H : Hp} : ∀ ws : List Str, DpAll K H (ws.map V.str) (ws.map PyData.str)
  | [] => .nil
  | w :: ws => .cons (.str w) (strs_dp ws)
theorem canLay_strs : ∀ ws : List Str, (∀ z ∈ ws, PyData.strOk z = true) → PyData.canLayAll0 (ws.map PyData.str) = true
  | [], _ => by simp [PyData.canLayAll0]
  | n :: r, h => by simp [PyData.canLayAll0, PyData.canLay0, h n List.mem_cons_self, canLay_strs r fun z hz => h z (List.mem_cons_of_mem _ hz)]
theorem depth_strs : ∀ ws : List Str, PyData.depthAll (ws.map PyData.str) ≤ 1
  | [] => by simp [PyData.depthAll]
  | n :: r => by
    have := depth_strs r
    simp only [List.map_cons, PyData.depthAll, PyData.depth]
    omega
theorem shaped_strs (ws : List Str) (h : ∀ z ∈ ws, PyData.strOk z = true) : PySem.SeqAt.shaped (.tuple (ws.map PyData.str)) = true := by
  have h1 := depth_strs ws
  have h2 : PyData.depth (.tuple (ws.map PyData.str)) ≤ 64 := by simp only [PyData.depth]; omega
  show (PyData.canLay0 (.tuple (ws.map PyData.str)) && decide (PyData.depth (.tuple (ws.map PyData.str)) ≤ 64)) = true
  rw [Bool.and_eq_true]
  exact ⟨by simp only [PyData.canLay0]; exact canLay_strs ws h, decide_eq_true h2⟩
theorem eqv_tup (ws : List Str) : PyData.eqv (.tuple (ws.map .str)) (.tuple []) = ws.isEmpty := by
  cases ws <;> rfl
section
variable {P : Program} {w : World} {K : PySem.W.Frag} {mg : Str → Option Value} {base : Heap}
theorem scRowText : FnScope ["_law_row"] ["_law_row"] (defScope sRowText) := ⟨rfl, rfl, rfl, by decide +kernel, rfl, by decide +kernel, by decide +kernel⟩
theorem ok_rowText {f : Addr} {fd : FuncData} (F : Fun K "_law_row_text" "_law_row_text" sRowText f fd) : FnOk P w K mg base CX0 1 f fd ["_law_row"] spRowText := by
  refine F.ok scRowText (fun vs H Q E h => ?_) (fun cdv A outer s H vs Q E hr h => ?_)
  · obtain ⟨p, r, rfl, _⟩ := h
    rfl
  · obtain ⟨p, r, rfl, ⟨t, d, hp, ht, hd⟩, o, k⟩ := h
    refine ⟨_, pss_one (ps_ret (pe_op op_add_str (pe_op op_add_str (pe_ifExp (pt_cmpR (op_neD hr.units) (pe_ix ix_tup (pv 0) pe_int (fun _ _ => rfl)) (pe_tup pa_nil) (nomark _))
        (pe_op op_add_str (pe_op op_add_str pe_str (pe_bm PySem.F.plainAttrs_str PySem.F.slot_str_join PySem.F.type_str_join mt_join pe_str (pa_cons (pe_ix ix_tup (pv 0) pe_int (fun _ _ => rfl)) pa_nil))) pe_str) pe_str) pe_str)
      (pe_bm PySem.F.plainAttrs_str PySem.F.slot_str_join PySem.F.type_str_join mt_join pe_str (pa_cons (pe_ix ix_tup (pv 0) pe_int (fun _ _ => rfl)) pa_nil)))), ?_⟩
    have hsum := sum_few o.u
    have hsum2 := sum_few o.w
    have lw := o.lw
    have lu := o.lu
    have h1 := join_le " then " r.us
    have h2 := join_le " and " r.ws
    have j1 : (Str.ofString " then ").length = 6 := by decide
    have j2 : (Str.ofString " and ").length = 5 := by decide
    have j3 : (Str.ofString "if ").length = 3 := by decide
    have j4 : (Str.ofString " ").length = 1 := by decide
    have j5 : (Str.ofString "do ").length = 3 := by decide
    have j6 : (Str.ofString "").length = 0 := by decide
    rw [j1] at h1
    rw [j2] at h2
    refine ⟨_, rfl, p, _, 0, .ref t, rfl, rfl, SqT.of hp, rfl, (by show 0 ≤ sizeLine; exact Nat.zero_le _), fun q nq => ?_⟩
    have sq := Same.new nq (o := .tup [])
    refine ⟨.tuple (r.ws.map .str), .tuple [], .tup (SqT.of (sq _ _ ht)) (strs_dp r.ws), .tup (SqT.of upd_same) .nil, shaped_strs r.ws o.k, rfl, _, rfl, ?_⟩
    rw [eqv_tup]
    by_cases e : r.ws = []
    · refine iteN (by rw [e]; rfl) ?_
      refine ⟨_, _, rfl, rfl, fits (by rw [j6, j5]; decide), rfl, _, rfl, p, _, 1, .ref d, rfl, rfl, SqT.of (sq _ _ hp), rfl, _, d, r.us, rfl, rfl, .inr (SqT.of (sq _ _ hd)), by rw [j1]; omega, _, _, rfl, rfl, fits (by rw [Str.length_append, j6, j5]; omega), ?_⟩
      rw [← rowText_none e]
      exact k _ sq
    · refine iteY (by cases h : r.ws with
        | nil => exact absurd h e
        | cons z zs => rfl) ?_
      refine ⟨rfl, _, rfl, p, _, 0, .ref t, rfl, rfl, SqT.of (sq _ _ hp), rfl, _, t, r.ws, rfl, rfl, .inr (SqT.of (sq _ _ ht)), by rw [j2]; omega, _, _, rfl, rfl, fits (by rw [j3]; omega), _, _, rfl, rfl, fits (by rw [Str.length_append, j3, j4]; omega), _, _, rfl, rfl, fits (by rw [Str.length_append, Str.length_append, j3, j4, j5]; omega),
        rfl, _, rfl, p, _, 1, .ref d, rfl, rfl, SqT.of (sq _ _ hp), rfl, _, d, r.us, rfl, rfl, .inr (SqT.of (sq _ _ hd)), by rw [j1]; omega, _, _, rfl, rfl, fits (by rw [Str.length_append, Str.length_append, Str.length_append, j3, j4, j5]; omega), ?_⟩
      rw [← rowText_some e]
      exact k _ sq
end
end Lay
set_option Elab.async false
set_option linter.all false
set_option maxRecDepth 100000
set_option maxHeartbeats 4000000
namespace Lay
open PySem L2
section
variable {X : Cx} {K : PySem.W.Frag}
theorem pg_tupK {es : List Expr} {k : Nat} {t : TGs} {n : Nat} {pos : Pos} (hK : X.K = K) (hc : X.calm = true) (h : PGs X es t) (hn : (assignEach es X.env).length = n := by rfl) (hst : (assignEach es X.env).findIdx? (·.1) = none := by rfl) : PG X (.Tuple es k pos) (gTup K n t) := by
  subst hK
  exact pg_tup hc h hn hst
end
/-- pairs that stand in a tuple -/
def PrsAt (H : Hp) (xs : List V) (rs : List RD) : Prop := xs.length = rs.length ∧ (∀ r ∈ rs, r.Ok ∧ (∀ z ∈ r.ws, progT z = true) ∧ ∀ z ∈ r.us, progD z = true) ∧ ∀ (i : Nat) (x : V) (r : RD), xs[i]? = some x → rs[i]? = some r → ∃ q, x = .ref q ∧ PrAt H q r
theorem PrsAt.same {H H' : Hp} {xs : List V} {rs : List RD} (s : Same H H') (h : PrsAt H xs rs) : PrsAt H' xs rs := ⟨h.1, h.2.1, fun i x r h1 h2 => by
  obtain ⟨q, e, hq⟩ := h.2.2 i x r h1 h2
  exact ⟨q, e, hq.same s⟩⟩
/-- at p the law's tool: pairs and a bool -/
def LawAt (H : Hp) (p : Addr) (rs : List RD) (s : Bool) : Prop := ∃ t xs, H p = some (.tup [.ref t, .bl s]) ∧ H t = some (.tup xs) ∧ PrsAt H xs rs ∧ rs.length ≤ 100
theorem LawAt.same {H H' : Hp} {p : Addr} {rs : List RD} {s : Bool} (e : Same H H') (h : LawAt H p rs s) : LawAt H' p rs s := by
  obtain ⟨t, xs, h1, h2, h3, h4⟩ := h
  exact ⟨t, xs, e _ _ h1, e _ _ h2, h3.same e, h4⟩
def spToolText : Sp := fun vs H Q _ => ∃ (p : Addr) (rs : List RD) (s : Bool), vs = [.ref p] ∧ LawAt H p rs s ∧ ∀ H', Same H H' → Q (.str (toolText rs s)) H'
def spToolOf (K : PySem.W.Frag) (C CT : Addr) : Sp := fun vs H Q _ => ∃ (p : Addr) (rs : List RD) (s : Bool), vs = [.ref p] ∧ LawAt H p rs s ∧ ∀ c H', Same H H' → H c = none → ToolAt K C CT H' c rs s → Q (.ref c) H'
abbrev sToolText : Stmt := top 32
abbrev sToolOf : Stmt := top 33
section
variable {P : Program} {w : World} {K : PySem.W.Frag} {mg : Str → Option Value} {base : Heap}
theorem scToolText : FnScope ["_law_tool_here", "_law_row"] ["_law_tool_here"] (defScope sToolText) := ⟨rfl, rfl, rfl, by decide +kernel, rfl, by decide +kernel, by decide +kernel⟩
theorem ok_toolText {f fR : Addr} {fd fdR : FuncData} (F : Fun K "_law_tool_text" "_law_tool_text" sToolText f fd) (GR : FnOk P w K mg base CX0 1 fR fdR ["_law_row"] spRowText) (gR : mg "_law_row_text" = some (.ref fR)) (kR : PySem.W.keepIn K (.ref fR) = true) (bR : Binds K fdR ["_law_row"] []) :
    FnOk P w K mg base CX0 2 f fd ["_law_tool_here"] spToolText := by
  refine F.ok scToolText (fun vs H Q E h => ?_) (fun cdv A outer s H vs Q E hr h => ?_)
  · obtain ⟨p, rs, b, rfl, _⟩ := h
    rfl
  · obtain ⟨p, rs, b, rfl, hT, k⟩ := h
    refine ⟨_, pss_one (ps_ret (pe_bm PySem.F.plainAttrs_str PySem.F.slot_str_join PySem.F.type_str_join mt_join pe_str (pa_cons (pe_op op_cat (pe_lst (pa_cons (pe_ifExp (pt_val (pe_ix ix_tup (pv 0) pe_int (fun _ _ => rfl))) pe_str pe_str) pa_nil))
      (pe_lc (own := [("_law_row", 1)]) (g := gName 1) (tt := tYes) (by rfl) scToolText.nd (pi_tup (pe_ix ix_tup (pv 0) pe_int (fun _ _ => rfl))) (blkOk_by (N := ["_law_tool_here", "_law_row"]) (sc := defScope sToolText) (by decide +kernel)) (fun _ _ _ _ _ => pg_name (i := 1) scToolText.nd rfl (Or.inl rfl)) (fun _ _ _ _ _ => pts_nil)
        (fun _ _ _ _ _ => pe_call GR hr (by rfl) gR kR bR .nil pass0 (pa_cons (pv 1) pa_nil)))) pa_nil))), ?_⟩
    obtain ⟨t, xs, hp, ht, hrows, hl⟩ := id hT
    have lx : xs.length ≤ 100 := by rw [hrows.1]; exact hl
    refine ⟨rfl, _, rfl, p, _, 1, .bl b, rfl, rfl, SqT.of hp, rfl, _, rfl, ?_⟩
    cases b with
    | true =>
      refine iteY rfl ⟨by show 1 ≤ sizeLine; decide, fun A1 nA => ?_⟩
      have sA := Same.new nA (o := .lst [.str (firstS true)])
      have hA : upd H A1 (.lst [.str (firstS true)]) A1 = some (.lst [.str (firstS true)]) := upd_same
      refine ⟨_, rfl, p, _, 0, .ref t, rfl, rfl, SqT.of (sA _ _ hp), rfl, t, rfl, ⟨_, SqT.of (sA _ _ ht)⟩, fun D nD => lc_tup (xs := xs) (fun i G => Same (upd H A1 (.lst [.str (firstS true)])) G ∧ G D = some (.lst ((rs.take i).map fun r => V.str (rowText r)))) ⟨Same.new nD, upd_same⟩ (fun i G _ q => SqT.of (q.1 _ _ (sA _ _ ht))) ?_ ?_⟩
      · rintro i x G hi ⟨sG, hD⟩
        have li := (List.getElem?_eq_some_iff.mp hi).1
        rw [hrows.1] at li
        have er : rs[i]? = some rs[i] := by simp [li]
        obtain ⟨q, rfl, hq⟩ := ((hrows.same sA).same sG).2.2 i x _ hi er
        refine ⟨rfl, _, rfl, q, rs[i], rfl, hq, (hrows.2.1 _ (List.getElem_mem li)).1, fun G2 s2 => ⟨_, s2 _ _ hD, ?_, fun c u e => ?_, ?_⟩⟩
        · rw [List.length_map, List.length_take]
          exact small1000 (by omega)
        · rw [upd_ne (ne_of_none e nD)]
          exact s2 _ _ (sG _ _ e)
        · rw [upd_same, List.take_succ, er, List.map_append]
          rfl
      · rintro G ⟨sG, hD⟩
        rw [hrows.1, List.take_length] at hD
        refine ⟨A1, D, _, _, rfl, rfl, sG _ _ hA, hD, fits (by rw [List.length_map]; show 1 + _ ≤ 1000; omega), fun l nl => ?_⟩
        have sl := Same.new nl (o := .lst ([V.str (firstS true)] ++ rs.map fun r => V.str (rowText r)))
        refine ⟨_, l, firstS true :: rs.map rowText, rfl, rfl, .inl (SqL.of ?_), ?_, k _ ((sA.trans sG).trans sl)⟩
        · rw [upd_same, List.map_cons, List.map_map]
          rfl
        · have s1 : ((rs.map rowText).map (·.length)).sum ≤ (rs.map rowText).length * 1100 := sum_few fun z hz => by
            obtain ⟨r, hr2, rfl⟩ := List.mem_map.mp hz
            exact rowText_few (hrows.2.1 r hr2).1
          have f1 : (firstS true).length ≤ 10 := by decide
          have j : (Str.ofString "\n").length = 1 := by decide
          rw [List.length_map] at s1
          rw [j, List.map_cons, List.sum_cons, List.length_cons, List.length_map]
          omega
    | false =>
      refine iteN rfl ⟨by show 1 ≤ sizeLine; decide, fun A1 nA => ?_⟩
      have sA := Same.new nA (o := .lst [.str (firstS false)])
      have hA : upd H A1 (.lst [.str (firstS false)]) A1 = some (.lst [.str (firstS false)]) := upd_same
      refine ⟨_, rfl, p, _, 0, .ref t, rfl, rfl, SqT.of (sA _ _ hp), rfl, t, rfl, ⟨_, SqT.of (sA _ _ ht)⟩, fun D nD => lc_tup (xs := xs) (fun i G => Same (upd H A1 (.lst [.str (firstS false)])) G ∧ G D = some (.lst ((rs.take i).map fun r => V.str (rowText r)))) ⟨Same.new nD, upd_same⟩ (fun i G _ q => SqT.of (q.1 _ _ (sA _ _ ht))) ?_ ?_⟩
      · rintro i x G hi ⟨sG, hD⟩
        have li := (List.getElem?_eq_some_iff.mp hi).1
        rw [hrows.1] at li
        have er : rs[i]? = some rs[i] := by simp [li]
        obtain ⟨q, rfl, hq⟩ := ((hrows.same sA).same sG).2.2 i x _ hi er
        refine ⟨rfl, _, rfl, q, rs[i], rfl, hq, (hrows.2.1 _ (List.getElem_mem li)).1, fun G2 s2 => ⟨_, s2 _ _ hD, ?_, fun c u e => ?_, ?_⟩⟩
        · rw [List.length_map, List.length_take]
          exact small1000 (by omega)
        · rw [upd_ne (ne_of_none e nD)]
          exact s2 _ _ (sG _ _ e)
        · rw [upd_same, List.take_succ, er, List.map_append]
          rfl
      · rintro G ⟨sG, hD⟩
        rw [hrows.1, List.take_length] at hD
        refine ⟨A1, D, _, _, rfl, rfl, sG _ _ hA, hD, fits (by rw [List.length_map]; show 1 + _ ≤ 1000; omega), fun l nl => ?_⟩
        have sl := Same.new nl (o := .lst ([V.str (firstS false)] ++ rs.map fun r => V.str (rowText r)))
        refine ⟨_, l, firstS false :: rs.map rowText, rfl, rfl, .inl (SqL.of ?_), ?_, k _ ((sA.trans sG).trans sl)⟩
        · rw [upd_same, List.map_cons, List.map_map]
          rfl
        · have s1 : ((rs.map rowText).map (·.length)).sum ≤ (rs.map rowText).length * 1100 := sum_few fun z hz => by
            obtain ⟨r, hr2, rfl⟩ := List.mem_map.mp hz
            exact rowText_few (hrows.2.1 r hr2).1
          have f1 : (firstS false).length ≤ 10 := by decide
          have j : (Str.ofString "\n").length = 1 := by decide
          rw [List.length_map] at s1
          rw [j, List.map_cons, List.sum_cons, List.length_cons, List.length_map]
          omega
end
end Lay
set_option Elab.async false
set_option linter.all false
set_option maxRecDepth 100000
set_option maxHeartbeats 4000000
namespace Lay
open PySem L2
theorem take_none {xs : List V} {i : Nat} : cutV xs none (some (i : Int)) = xs.take i := by
  unfold cutV
  rw [HT.sIx_none, HT.sIx_nat, List.drop_zero, Nat.sub_zero]
  rw [List.take_eq_take_iff]
  omega
theorem drop_none {xs : List V} {i : Nat} : cutV xs (some (i : Int)) none = xs.drop i := by
  unfold cutV
  rw [HT.sIx_none, HT.sIx_nat]
  by_cases h : i ≤ xs.length
  · rw [Nat.min_eq_left h, List.take_of_length_le (by rw [List.length_drop]; omega)]
  · rw [Nat.min_eq_right (by omega), List.drop_of_length_le (by omega), List.drop_of_length_le (by omega), List.take_nil]
section
variable {X : Cx}
theorem sl_tupG : SlR X (fun x lo hi H Q => ∃ a xs, x = .ref a ∧ TupG X.K H a xs ∧ ∀ p H', Same H H' → TupG X.K H' p (cutV xs lo hi) → Q (.ref p) H') := by
  intro pins s σ H x v vl vu lo hi sl Q I rx hs pl pu h
  obtain ⟨a, xs, rfl, hx, q⟩ := h
  refine sl_tupA pins s σ H _ v vl vu lo hi sl Q I rx hs pl pu ⟨a, xs, rfl, hx.sqT, fun w => ?_, fun _ p np => q p _ (Same.new np) (.inl upd_same)⟩
  refine q a H (Same.refl H) ?_
  unfold cutV
  rw [w.1, w.2, List.drop_zero, Nat.sub_zero, List.take_length]
  exact hx
end
theorem RowsAt.take {C : Addr} {H : Hp} {xs : List V} {rs : List RD} (n : Nat) (h : RowsAt C H xs rs) : RowsAt C H (xs.take n) (rs.take n) := by
  refine ⟨by rw [List.length_take, List.length_take, h.1], fun r hr => h.2.1 r (List.mem_of_mem_take hr), fun i x r hx hr => ?_⟩
  rw [List.getElem?_take] at hx hr
  split at hx
  · rename_i hi
    rw [if_pos hi] at hr
    exact h.2.2 i x r hx hr
  · cases hx
theorem RowsAt.drop {C : Addr} {H : Hp} {xs : List V} {rs : List RD} (n : Nat) (h : RowsAt C H xs rs) : RowsAt C H (xs.drop n) (rs.drop n) := by
  refine ⟨by rw [List.length_drop, List.length_drop, h.1], fun r hr => h.2.1 r (List.mem_of_mem_drop hr), fun i x r hx hr => ?_⟩
  rw [List.getElem?_drop] at hx hr
  exact h.2.2 _ x r hx hr
/-- an int -/
def spIntI : Sp := fun vs H Q _ => ∃ i : Int, vs = [.int i] ∧ Q (.bl true) H
def spNumI : Sp := fun vs H Q _ => ∃ i m : Int, vs = [.int i, .int m] ∧ Q (.bl (decide (0 ≤ i) && decide (i < m))) H
def spWithout (K : PySem.W.Frag) (C CT : Addr) : Sp := fun vs H Q _ => ∃ (p : Addr) (i : Nat) (rs : List RD) (s : Bool), vs = [.ref p, .int i] ∧ ToolAt K C CT H p rs s ∧ i < rs.length ∧ ∀ c H', Same H H' → H c = none → ToolAt K C CT H' c (rs.take i ++ rs.drop (i + 1)) s → Q (.ref c) H'
abbrev sInt : Stmt := top 6
abbrev sNum : Stmt := top 7
abbrev sWithout : Stmt := inClass (top 21) 2
section
variable {P : Program} {w : World} {K : PySem.W.Frag} {mg : Str → Option Value} {base : Heap}
theorem isT_int {H : Hp} {i : Int} : IsT K H (.int i) "int" true ∧ IsT K H (.int i) "bool" false := ⟨⟨_, .base (.int i), kit_ty (by decide +kernel)⟩, ⟨_, .base (.int i), kit_ty (by decide +kernel)⟩⟩
theorem scInt : FnScope ["value"] ["value"] (defScope sInt) := ⟨rfl, rfl, rfl, by decide +kernel, rfl, by decide +kernel, by decide +kernel⟩
theorem ok_int {f : Addr} {fd : FuncData} (F : Fun K "is_integer" "is_integer" sInt f fd) (T : TxtK mg) (hint : mg "int" = none) (hbool : mg "bool" = none) : FnOk P w K mg base CX0 1 f fd ["value"] spIntI := by
  refine F.ok scInt (fun vs H Q E h => ?_) (fun cdv A outer s H vs Q E hr h => ?_)
  · obtain ⟨i, rfl, _⟩ := h
    rfl
  · obtain ⟨i, rfl, k⟩ := h
    refine ⟨_, (pss_one (ps_ret (pe_and (pe_callB call_isi (by rfl) T.isinstance (by decide +kernel) (pa_cons (pv 0) (pa_cons (pe_bltn (v := .ty "int") (by rfl) hint (by decide +kernel) rfl) pa_nil))) (pe_one (pe_not (pe_callB call_isi (by rfl) T.isinstance (by decide +kernel) (pa_cons (pv 0) (pa_cons (pe_bltn (v := .ty "bool") (by rfl) hbool (by decide +kernel) rfl) pa_nil)))))))), ?_⟩
    obtain ⟨⟨t, ty, e⟩, ⟨t', ty', e'⟩⟩ := isT_int (K := K) (H := H) (i := i)
    refine ⟨_, rfl, _, _, _, _, _, rfl, .ty _, ty, e, _, rfl, iteY rfl ?_⟩
    exact ⟨_, rfl, _, _, _, _, _, rfl, .ty _, ty', e', _, rfl, k⟩
theorem scNum : FnScope ["value", "many"] ["value", "many"] (defScope sNum) := ⟨rfl, rfl, rfl, by decide +kernel, rfl, by decide +kernel, by decide +kernel⟩
theorem ok_num {f fI : Addr} {fd fdI : FuncData} (F : Fun K "is_number" "is_number" sNum f fd) (GI : FnOk P w K mg base CX0 1 fI fdI ["value"] spIntI) (gI : mg "is_integer" = some (.ref fI)) (kI : PySem.W.keepIn K (.ref fI) = true) (bI : Binds K fdI ["value"] []) :
    FnOk P w K mg base CX0 2 f fd ["value", "many"] spNumI := by
  refine F.ok scNum (fun vs H Q E h => ?_) (fun cdv A outer s H vs Q E hr h => ?_)
  · obtain ⟨i, m, rfl, _⟩ := h
    rfl
  · obtain ⟨i, m, rfl, k⟩ := h
    refine ⟨_, (pss_one (ps_ret (pe_and (pe_call GI hr (by rfl) gI kI bI .nil pass0 (pa_cons (pv 0) pa_nil)) (pe_one (pe_chain op_le op_lt pe_int (pv 0) (pv 1)))))), ?_⟩
    refine ⟨_, rfl, i, rfl, _, rfl, iteY rfl ?_⟩
    refine ⟨_, rfl, _, _, rfl, rfl, _, rfl, ?_⟩
    refine ite2 (fun q => ?_) (fun q => ?_)
    · refine ⟨_, rfl, _, _, rfl, rfl, ?_⟩
      rw [q, Bool.true_and] at k
      exact k
    · have e : decide (0 ≤ i) = false := by simpa using q
      rw [e, Bool.false_and] at k
      exact k
theorem scWithout : FnScope ["self", "at"] ["self", "at"] (defScope sWithout) := ⟨rfl, rfl, rfl, by decide +kernel, rfl, by decide +kernel, by decide +kernel⟩
theorem ok_without {f fT fN C CT : Addr} {fd fdT fdN : FuncData} (F : Fun K "without" "Tool.without" sWithout f fd) (hlen : mg "len" = none) (c0 : ClsI K C) (Z : ToolC K CT) (gT : mg "Tool" = some (.ref CT)) (M : Mk K CT fT)
    (GT : FnOk P w K mg base CX0 3 fT fdT ["self", "rows", "sorts"] (spToolG K C CT)) (bT : Binds K fdT ["self", "rows", "sorts"] [])
    (GN : FnOk P w K mg base CX0 2 fN fdN ["value", "many"] spNumI) (gN : mg "is_number" = some (.ref fN)) (kN : PySem.W.keepIn K (.ref fN) = true) (bN : Binds K fdN ["value", "many"] []) : FnOk P w K mg base CX0 5 f fd ["self", "at"] (spWithout K C CT) := by
  refine F.ok scWithout (fun vs H Q E h => ?_) (fun cdv A outer s H vs Q E hr h => ?_)
  · obtain ⟨p, i, rs, b, rfl, _⟩ := h
    rfl
  · obtain ⟨p, i, rs, b, rfl, hT, hi, k⟩ := h
    obtain ⟨dx, t, xs, hp, ht, hr1, hl⟩ := id hT
    have hr2 := hr.mono (show 2 ≤ 4 by decide)
    refine ⟨_, (pss_cons (ps_if (pt_not (pt_val (pe_call GN hr2 (by rfl) gN kN bN .nil pass0 (pa_cons (pv 1) (pa_cons (pe_callB call_len_seq (by rfl) hlen PySem.boot_len (pa_cons (pe_fld (pv 0) rfl) pa_nil)) pa_nil))))) pss_never pss_nil)
      (pss_one (ps_ret (pe_make M GT hr (by rfl) gT bT .nil pass0 (pa_cons (pe_op op_catG (pe_slice sl_tupG (pe_fld (pv 0) rfl) po_none (po_some (pv 1))) (pe_slice sl_tupG (pe_fld (pv 0) rfl) (po_some (pe_op op_add (pv 1) pe_int)) po_none)) (pa_cons (pe_fld (pv 0) rfl) pa_nil)))))), ?_⟩
    refine ⟨_, rfl, _, rfl, p, CT, dx, _, _, rfl, hp, Z.cl, Z.rows, rfl, t, xs, rfl, .inr ht.sqT, _, _, rfl, _, rfl, iteN ?_ ?_⟩
    · rw [hr1.1]
      simp [hi]
    refine ⟨_, rfl, p, CT, dx, _, _, rfl, hp, Z.cl, Z.rows, rfl, _, rfl, _, rfl, t, xs, rfl, ht, fun q1 H1 s1 h1 => ?_⟩
    refine ⟨_, rfl, p, CT, dx, _, _, rfl, s1 _ _ hp, Z.cl, Z.rows, rfl, _, rfl, _, _, rfl, rfl, _, rfl, t, xs, rfl, ht.same s1, fun q2 H2 s2 h2 => ?_⟩
    have s12 := s1.trans s2
    rw [take_none] at h1
    rw [show ((i : Int) + 1) = ((i + 1 : Nat) : Int) from rfl, drop_none] at h2
    have rr := ((hr1.take i).append (hr1.drop (i + 1))).same s12
    have ll : (xs.take i ++ xs.drop (i + 1)).length ≤ 100 := by
      rw [List.length_append, List.length_take, List.length_drop, hr1.1]
      omega
    refine ⟨q1, q2, _, _, rfl, rfl, h1.same s2, h2, by rw [← List.length_append]; omega, fun u H3 s3 hu => ⟨_, rfl, p, CT, dx, _, _, rfl, s3 _ _ (s12 _ _ hp), Z.cl, Z.sorts, rfl, fun x dx2 nx nd ne => ?_⟩⟩
    have zz := (Same.new nd (o := .own x)).trans (Same.new (fresh_own (o := .own x) nx ne) (o := .ins CT dx2 []))
    refine ⟨x, dx2, u, _, b, rfl, upd_same, .inr (hu.same zz), by omega, ((rr.same s3).same zz).isP c0, fun H4 t4 ht4 kp hx => ⟨rfl, ?_⟩⟩
    have s4 := made_same nx nd kp
    exact k x H4 ((s12.trans s3).trans s4) ((s12.trans s3).free nx) ⟨dx2, t4, _, hx, ht4, (rr.same s3).same s4, by rw [← rr.1]; exact ll⟩
end
end Lay
set_option Elab.async false
set_option linter.all false
set_option maxRecDepth 100000
set_option maxHeartbeats 4000000
/-! x += y by __add__; sequences of the same objects compared. -/
namespace Lay
open PySem PySem.Spec PyProof.Rows L2
theorem refs_eq : ∀ {xs : List V} {as bs : List Value}, (∀ v ∈ xs, ∃ p, v = V.ref p) → Vals xs as → Vals xs bs → as = bs
  | [], _, _, _, ra, rb => by
    cases ra
    cases rb
    rfl
  | x :: xs, _, _, h, ra, rb => by
    obtain ⟨p, rfl⟩ := h x List.mem_cons_self
    cases ra with
    | cons r1 ra =>
      cases rb with
      | cons r2 rb =>
        cases r1
        cases r2
        rw [refs_eq (fun v hv => h v (List.mem_cons_of_mem _ hv)) ra rb]
section
variable {X : Cx}
theorem op_neSameT (hu : X.A.units + 64 < cLine) : OpR X (compareOp .NotEq) (fun x y H Q => ∃ a b xs, x = .ref a ∧ y = .ref b ∧ SqT X.K H a xs ∧ SqT X.K H b xs ∧ (∀ v ∈ xs, ∃ p, v = V.ref p) ∧ Q (.bl false) H) := by
  intro pins s σ H x y v u Q I rx ry h
  obtain ⟨a, b, xs, rfl, rfl, ha, hb, hr, q⟩ := h
  cases rx
  cases ry
  obtain ⟨its, r, p1, _⟩ := I.tuple ha
  obtain ⟨its2, r2, p2, _⟩ := I.tuple hb
  obtain rfl := refs_eq hr r r2
  refine SeqAt.RcNeAt.tuples (A := X.A) (e := fun _ => true) p1 p2 (by omega) (fun j h1 h2 => SeqAt.EqAt.same _) X.prog X.w X.xe (EP X pins σ Q) ?_
  have : (!((List.range (min its.toArray.size its.toArray.size)).all (fun _ => true) && its.toArray.size == its.toArray.size)) = false := by simp
  rw [this]
  exact ⟨.bl false, H, I, rfl, q⟩
theorem op_eqSameT (hu : X.A.units + 64 < cLine) : OpR X (compareOp .Eq) (fun x y H Q => ∃ a b xs, x = .ref a ∧ y = .ref b ∧ SqT X.K H a xs ∧ SqT X.K H b xs ∧ (∀ v ∈ xs, ∃ p, v = V.ref p) ∧ Q (.bl true) H) := by
  intro pins s σ H x y v u Q I rx ry h
  obtain ⟨a, b, xs, rfl, rfl, ha, hb, hr, q⟩ := h
  cases rx
  cases ry
  obtain ⟨its, r, p1, _⟩ := I.tuple ha
  obtain ⟨its2, r2, p2, _⟩ := I.tuple hb
  obtain rfl := refs_eq hr r r2
  refine SeqAt.RcAt.tuples (A := X.A) (e := fun _ => true) p1 p2 (by omega) (fun j h1 h2 => SeqAt.EqAt.same _) X.prog X.w X.xe (EP X pins σ Q) ?_
  have : ((List.range (min its.toArray.size its.toArray.size)).all (fun _ => true) && its.toArray.size == its.toArray.size) = true := by simp
  rw [this]
  exact ⟨.bl true, H, I, rfl, q⟩
theorem op_neSameL (hu : X.A.units + 64 < cLine) : OpR X (compareOp .NotEq) (fun x y H Q => ∃ a b xs, x = .ref a ∧ y = .ref b ∧ SqL X.K H a xs ∧ SqL X.K H b xs ∧ (∀ v ∈ xs, ∃ p, v = V.ref p) ∧ Q (.bl false) H) := by
  intro pins s σ H x y v u Q I rx ry h
  obtain ⟨a, b, xs, rfl, rfl, ha, hb, hr, q⟩ := h
  cases rx
  cases ry
  obtain ⟨its, r, p1, _⟩ := I.list ha
  obtain ⟨its2, r2, p2, _⟩ := I.list hb
  obtain rfl := refs_eq hr r r2
  refine SeqAt.RcNeAt.lists (A := X.A) (e := fun _ => true) p1.isList p2.isList rfl (by omega) (fun j h1 h2 => SeqAt.EqAt.same _) X.prog X.w X.xe (EP X pins σ Q) ?_
  have : (!((List.range its.toArray.size).all (fun _ => true))) = false := by simp
  rw [this]
  exact ⟨.bl false, H, I, rfl, q⟩
end
section
variable {prog : Program} {w : World} {A : Around} {E : Value → Shared → Prop} {s : Shared} {K : PySem.W.Frag} {x C L f : Addr} {h₀ : Heap} {m : Str → Option Value} {ox : Obj} {od : Option Obj}
theorem fillsI_K {M : Model} {h : Heap} {cd : ClassData} {nm : String} {b : Bool} (X : K.In h) (hc : PySem.W.clsIn K C = some cd) (hm : cd.mro = [.ref C, .type "object"]) (h1 : PySem.W.findIn K (.ref C) (PySem.dunderI nm) = some none)
    (h2 : PySem.W.findIn K (.type "object") (PySem.dunderI nm) = some none) : PySem.W.Looks M h (fillsInplaceSlot (.ref C) nm b) false := by
  intro A Q E s k q
  unfold fillsInplaceSlot
  refine wpAny_bind ((PySem.W.looks_clsIn X hc).andThen (f := fun cd => pure cd.mro) .now A _ E s k ?_)
  rw [hm, List.anyM_cons]
  refine wpAny_bind (wpAny_bind (PySem.W.looks_findIn X h1 A _ E s k ?_))
  refine wpAny_pure ?_
  rw [if_neg Bool.false_ne_true, List.anyM_cons]
  refine wpAny_bind (wpAny_bind (PySem.W.looks_findIn X h2 A _ E s k ?_))
  refine wpAny_pure ?_
  rw [if_neg Bool.false_ne_true]
  exact wpAny_pure q
theorem iop_K {op : Operator} {b : Value} {cd : ClassData} {Q : Value → Shared → Prop} (F : PyProof.Rows.Fr h₀ L s.heap m) (X₀ : K.In h₀) (I : PySem.W.InstAt s.heap x ox C od) (hb : PySem.W.Looks (model prog w) s.heap (typeOf b) (.ref C)) (hcd : PySem.W.clsIn K C = some cd) (hm : cd.mro = [.ref C, .type "object"])
    (h1 : PySem.W.findIn K (.ref C) (PySem.dunderI op.info.2) = some none) (h2 : PySem.W.findIn K (.type "object") (PySem.dunderI op.info.2) = some none)
    (hs : PySem.W.findIn K (.ref C) (PySem.dunder op.info.2) = some (some (.ref f))) (hf : PySem.W.isFn K (.ref f) = true)
    (h : wpAny (model prog w) A (call (.ref f) [.ref x, b]) (PySem.W.CmpBack Q) E s) : wpAny (model prog w) A (inplaceOp op (.ref x) b) Q E s := by
  have X := X₀.keeps F.keep
  unfold inplaceOp
  refine wpAny_holding (wpAny_bind (I.type.here (wpAny_bind ((fillsI_K X hcd hm h1 h2).here ?_))))
  simp only [Bool.false_eq_true, if_false]
  refine wpAny_bind ?_
  unfold binaryOp1
  refine wpAny_bind (I.type.here (wpAny_bind (hb.here (wpAny_bind ((PySem.W.fills_K X hcd hm hs).here ?_)))))
  simp only [beq_self_eq_true, if_true]
  refine wpAny_bind (wpAny_pure ?_)
  simp only [Bool.and_false, Bool.false_eq_true, if_false, Bool.false_and]
  refine wpAny_bind (wpAny_pure ?_)
  simp only [Bool.false_eq_true, if_false]
  refine wpAny_bind (m := tryMethod (.ref x) _ b) ?_
  unfold tryMethod
  refine wpAny_bind (PySem.W.special_fn X I hs (beq_iff_eq.mp hf) (wpAny_mono h (fun v s' hv => ?_) fun _ _ e => e))
  cases v <;> first | exact hv.elim | exact wpAny_pure (wpAny_pure (wpAny_pure hv))
end
section
variable {X : Cx} {CX : CXT} {C f : Addr} {n : Nat} {fd : FuncData} {ps : List Str} {sp : Sp}
/-- x += y, two instances of the class, by its __add__ -/
theorem ip_addOwn {cd : ClassData} (F : FnOk X.prog X.w X.K X.mg X.base CX n f fd ps sp) (hs : PySem.W.findIn X.K (.ref C) "__add__" = some (some (.ref f))) (hcd : PySem.W.clsIn X.K C = some cd) (hm : cd.mro = [.ref C, .type "object"]) (h1 : PySem.W.findIn X.K (.ref C) "__iadd__" = some none)
    (h2 : PySem.W.findIn X.K (.type "object") "__iadd__" = some none) (hf : PySem.W.isFn X.K (.ref f) = true) (hr : Room n X.A) (hb : Binds X.K fd ps []) (hx : Passes CX X E0) :
    PIp X .Add (fun x y H Q => ∃ (a b dx dy : Addr) (fs gs : List (Str × V)), x = .ref a ∧ y = .ref b ∧ H a = some (.ins C dx fs) ∧ H b = some (.ins C dy gs) ∧ sp [.ref a, .ref b] H (fun v H' => ∃ c, v = .ref c ∧ Q (.ref c) H') E0) := by
  intro pins s σ H x y v u Q I rx ry h
  obtain ⟨a, b, dx, dy, fs, gs, rfl, rfl, ha, hb2, q⟩ := h
  cases rx
  cases ry
  obtain ⟨mA, J, _⟩ := ins_get I.hok ha
  obtain ⟨mB, J', _⟩ := ins_get I.hok hb2
  obtain ⟨od, J, _⟩ := J.look
  obtain ⟨od', J', _⟩ := J'.look
  obtain ⟨m, hF⟩ := I.fr
  have sb : Sub X n X.A := ⟨hr, rfl⟩
  refine iop_K (op := .Add) hF I.ok.mod.kin J J'.type hcd hm h1 h2 hs hf (run_sub (vs := [V.ref a, V.ref b]) F sb hb hx I (.cons rfl (.cons rfl .nil)) q fun v u H' s' I' rv hq => ?_)
  obtain ⟨c, rfl, hq⟩ := hq
  cases rv
  exact ⟨.ref c, H', I', rfl, hq⟩
end
end Lay
set_option Elab.async false
set_option linter.all false
set_option maxRecDepth 100000
set_option maxHeartbeats 4000000
/-! Tools, by rules: +, !=, ==, str, len, .rows, .sorts, without, Tool(..). -/
namespace Lay
open PySem PySem.Spec PyProof.Rows L2
/-- a reading with a weaker wish -/
def clo (t : TE) : TE := fun σ H Q => ∃ R : VK, t σ H R ∧ ∀ v H1, R v H1 → Q v H1
def cloA (t : TA) : TA := fun σ H Q => ∃ R : List V → Hp → Prop, t σ H R ∧ ∀ v H1, R v H1 → Q v H1
section
variable {X : Cx} {e : Expr} {es : List Expr} {ta : TE} {t : TA}
theorem pe_clo (he : PE X e ta) : PE X e (clo ta) := ⟨fun pins s σ H Q I h => by
  obtain ⟨R, hR, m⟩ := h
  refine thn (he.run pins s σ H R I hR) fun v s' hv => ?_
  obtain ⟨x, H', I', r, q⟩ := hv
  exact ⟨x, H', I', r, m _ _ q⟩⟩
theorem pa_clo (ha : PA X es t) : PA X es (cloA t) := ⟨fun pos pins s σ H Q I h => by
  obtain ⟨R, hR, m⟩ := h
  refine thn (ha.run pos pins s σ H R I hR) fun v s' hv => ?_
  obtain ⟨x, H', I', r, q⟩ := hv
  exact ⟨x, H', I', r, m _ _ q⟩⟩
end
/-- what is had of the class Tool -/
structure TlF (P : Program) (w : World) (K : PySem.W.Frag) (mg : Str → Option Value) (base : Heap) (C CT : Addr) : Prop where
  c0 : ClsI K C
  Z : ToolC K CT
  g : mg "Tool" = some (.ref CT)
  str : ∃ f fd, FnOk P w K mg base CX0 5 f fd ["self"] (spStrTool K C CT) ∧ PySem.W.findIn K (.ref CT) "__str__" = some (some (.ref f)) ∧ PySem.W.isFn K (.ref f) = true ∧ Binds K fd ["self"] []
  len : ∃ f fd, FnOk P w K mg base CX0 1 f fd ["self"] (spLenT K C CT) ∧ PySem.W.findIn K (.ref CT) "__len__" = some (some (.ref f)) ∧ PySem.W.isFn K (.ref f) = true ∧ Binds K fd ["self"] []
  eq : ∃ f fd, FnOk P w K mg base CX0 8 f fd ["self", "other"] (spEqT K C CT) ∧ PySem.W.findIn K (.ref CT) "__eq__" = some (some (.ref f)) ∧ PySem.W.isFn K (.ref f) = true ∧ Binds K fd ["self", "other"] []
  ne : PySem.W.findIn K (.ref CT) "__ne__" = some (some (.builtin "object.__ne__"))
  mo : PySem.W.mroIn K CT (.type "object") = some true
  made : ∃ f fd, Mk K CT f ∧ FnOk P w K mg base CX0 3 f fd ["self", "rows", "sorts"] (spToolG K C CT) ∧ Binds K fd ["self", "rows", "sorts"] [] ∧ (∃ ds, Vals [V.bl false] ds ∧ Binds K fd ["self", "rows", "sorts"] ds) ∧
    ∃ e ds, Vals [V.ref e, V.bl false] ds ∧ Binds K fd ["self", "rows", "sorts"] ds ∧ ∀ H : Hp, TupG K H e []
/-- .. and of + -/
structure TlA (P : Program) (w : World) (K : PySem.W.Frag) (mg : Str → Option Value) (base : Heap) (C CT : Addr) : Prop where
  add : ∃ f fd, FnOk P w K mg base CX0 5 f fd ["self", "other"] (spAddT K C CT) ∧ PySem.W.findIn K (.ref CT) "__add__" = some (some (.ref f)) ∧ PySem.W.isFn K (.ref f) = true ∧ Binds K fd ["self", "other"] []
  sf : PySem.W.selfFirst K CT = true
  mro : ∃ cd, PySem.W.clsIn K CT = some cd ∧ cd.mro = [.ref CT, .type "object"]
  ia : PySem.W.findIn K (.ref CT) "__iadd__" = some none
  io : PySem.W.findIn K (.type "object") "__iadd__" = some none
section
variable {X : Cx} {C CT : Addr}
theorem op_addT (T : TlA X.prog X.w X.K X.mg X.base C CT) (hr : Room 5 X.A) : OpR X (binaryOp .Add) (fun x y H Q => ∃ p q tp tq xs ys rs qs s t, x = .ref p ∧ y = .ref q ∧ ToolX X.K C CT H p tp xs rs s ∧ ToolX X.K C CT H q tq ys qs t ∧ rs.length + qs.length ≤ 100 ∧
    ∀ c u H', Same H H' → H c = none → ToolX X.K C CT H' c u (xs ++ ys) (rs ++ qs) s → Q (.ref c) H') := by
  obtain ⟨f, fd, ok, hs, fn, b⟩ := T.add
  intro pins s σ H x y v u Q I rx ry h
  obtain ⟨p, q, tp, tq, xs, ys, rs, qs, sp, sq, rfl, rfl, hp, hq, hl, k⟩ := h
  obtain ⟨d1, h1, _⟩ := id hp
  obtain ⟨d2, h2, _⟩ := id hq
  exact op_addOwn ok hs T.sf fn hr b pass0 pins s σ H _ _ v u Q I rx ry ⟨p, q, d1, d2, _, _, rfl, rfl, h1, h2, p, q, tp, tq, xs, ys, rs, qs, sp, sq, rfl, hp, hq, hl, fun c u H' s' n' h' => ⟨c, rfl, k c u H' s' n' h'⟩⟩
theorem ip_addT (T : TlA X.prog X.w X.K X.mg X.base C CT) (hr : Room 5 X.A) : PIp X .Add (fun x y H Q => ∃ p q tp tq xs ys rs qs s t, x = .ref p ∧ y = .ref q ∧ ToolX X.K C CT H p tp xs rs s ∧ ToolX X.K C CT H q tq ys qs t ∧ rs.length + qs.length ≤ 100 ∧
    ∀ c u H', Same H H' → H c = none → ToolX X.K C CT H' c u (xs ++ ys) (rs ++ qs) s → Q (.ref c) H') := by
  obtain ⟨f, fd, ok, hs, fn, b⟩ := T.add
  obtain ⟨cd, m1, m2⟩ := T.mro
  intro pins s σ H x y v u Q I rx ry h
  obtain ⟨p, q, tp, tq, xs, ys, rs, qs, sp, sq, rfl, rfl, hp, hq, hl, k⟩ := h
  obtain ⟨d1, h1, _⟩ := id hp
  obtain ⟨d2, h2, _⟩ := id hq
  exact ip_addOwn ok hs m1 m2 T.ia T.io fn hr b pass0 pins s σ H _ _ v u Q I rx ry ⟨p, q, d1, d2, _, _, rfl, rfl, h1, h2, p, q, tp, tq, xs, ys, rs, qs, sp, sq, rfl, hp, hq, hl, fun c u H' s' n' h' => ⟨c, rfl, k c u H' s' n' h'⟩⟩
variable (T : TlF X.prog X.w X.K X.mg X.base C CT)
include T
theorem op_eqTl (hr : Room 8 X.A) : OpR X (compareOp .Eq) (fun x y H Q => ∃ p q rs qs s t, x = .ref p ∧ y = .ref q ∧ ToolAt X.K C CT H p rs s ∧ ToolAt X.K C CT H q qs t ∧ ∀ H', Same H H' → Q (.bl (decide (V.str (toolText rs s) = V.str (toolText qs t)))) H') := by
  obtain ⟨f, fd, ok, hs, fn, b⟩ := T.eq
  intro pins s σ H x y v u Q I rx ry h
  obtain ⟨p, q, rs, qs, sp, sq, rfl, rfl, hp, hq, k⟩ := h
  obtain ⟨d1, _, _, h1, _⟩ := id hp
  obtain ⟨d2, _, _, h2, _⟩ := id hq
  exact op_eqOwn ok hs fn hr b pass0 pins s σ H _ _ v u Q I rx ry ⟨p, q, d1, d2, _, _, rfl, rfl, h1, h2, p, q, rs, qs, sp, sq, rfl, hp, hq, fun H' s' => ⟨_, rfl, k H' s'⟩⟩
theorem op_neTl (hr : Room 9 X.A) : OpR X (compareOp .NotEq) (fun x y H Q => ∃ p q rs qs s t, x = .ref p ∧ y = .ref q ∧ ToolAt X.K C CT H p rs s ∧ ToolAt X.K C CT H q qs t ∧ ∀ H', Same H H' → Q (.bl (!decide (V.str (toolText rs s) = V.str (toolText qs t)))) H') := by
  obtain ⟨f, fd, ok, hs, fn, b⟩ := T.eq
  intro pins s σ H x y v u Q I rx ry h
  obtain ⟨p, q, rs, qs, sp, sq, rfl, rfl, hp, hq, k⟩ := h
  obtain ⟨d1, _, _, h1, _⟩ := id hp
  obtain ⟨d2, _, _, h2, _⟩ := id hq
  exact op_neOwn ok hs T.ne T.mo fn hr b pass0 pins s σ H _ _ v u Q I rx ry ⟨p, q, d1, d2, _, _, rfl, rfl, h1, h2, p, q, rs, qs, sp, sq, rfl, hp, hq, fun H' s' => ⟨_, rfl, k H' s'⟩⟩
theorem call_strTl (hr : Room 7 X.A) : CallR X (.type "str") (fun xs H Q => ∃ p rs s, xs = [.ref p] ∧ ToolAt X.K C CT H p rs s ∧ ∀ H', Same H H' → Q (.str (toolText rs s)) H') := by
  obtain ⟨f, fd, ok, hs, fn, b⟩ := T.str
  intro pins s σ H xs us Q I r h
  obtain ⟨p, rs, sp, rfl, hp, k⟩ := h
  obtain ⟨d1, _, _, h1, _⟩ := id hp
  exact call_strOwn ok hs fn hr b pass0 pins s σ H _ us Q I r ⟨p, d1, _, rfl, h1, p, rs, sp, rfl, hp, fun H' s' => ⟨_, rfl, k H' s'⟩⟩
theorem call_lenTl (hr : Room 2 X.A) : CallR X (.builtin "len") (fun xs H Q => ∃ p rs s, xs = [.ref p] ∧ ToolAt X.K C CT H p rs s ∧ Q (.int rs.length) H) := by
  obtain ⟨f, fd, ok, hs, fn, b⟩ := T.len
  intro pins s σ H xs us Q I r h
  obtain ⟨p, rs, sp, rfl, hp, k⟩ := h
  obtain ⟨d1, _, _, h1, _, _, hl⟩ := id hp
  exact call_lenOwn ok hs fn hr b pass0 pins s σ H _ us Q I r ⟨p, d1, _, rfl, h1, p, rs, sp, rfl, hp, rs.length, rfl, by omega, by omega, k⟩
omit T in
theorem pe_fldX {e : Expr} {ta : TE} {f : Str} {pos : Pos} (he : PE X e ta) (c : Cls X.K CT) (nf : NoAttr X.K CT f) (hb : attributeBase e f X.env (eval e X.env) = eval e X.env := by rfl) :
    PE X (.Attribute e f pos) (fun σ H Q => ta σ H fun x H1 => ∃ p dx fs v, x = .ref p ∧ H1 p = some (.ins CT dx fs) ∧ fs.lookup f = some v ∧ Q v H1) := by
  refine pe_mono (pe_fld (pe_clo he) hb) fun σ H Q h => ⟨_, h, fun v H1 q => ?_⟩
  obtain ⟨p, dx, fs, y, rfl, hp, hl, q⟩ := q
  exact ⟨p, CT, dx, fs, y, rfl, hp, c, nf, hl, q⟩
theorem pe_rowsT {e : Expr} {ta : TE} {pos : Pos} (he : PE X e ta) (hb : attributeBase e "rows" X.env (eval e X.env) = eval e X.env := by rfl) :
    PE X (.Attribute e "rows" pos) (fun σ H Q => ta σ H fun x H1 => ∃ p t xs rs s, x = .ref p ∧ ToolX X.K C CT H1 p t xs rs s ∧ Q (.ref t) H1) := by
  refine pe_mono (pe_fldX (pe_clo he) T.Z.cl T.Z.rows hb) fun σ H Q h => ⟨_, h, fun v H1 q => ?_⟩
  obtain ⟨p, t, xs, rs, s, rfl, ⟨dx, hp, _⟩, q⟩ := q
  exact ⟨p, dx, _, _, rfl, hp, rfl, q⟩
theorem pe_sortsT {e : Expr} {ta : TE} {pos : Pos} (he : PE X e ta) (hb : attributeBase e "sorts" X.env (eval e X.env) = eval e X.env := by rfl) :
    PE X (.Attribute e "sorts" pos) (fun σ H Q => ta σ H fun x H1 => ∃ p rs s, x = .ref p ∧ ToolAt X.K C CT H1 p rs s ∧ Q (.bl s) H1) := by
  refine pe_mono (pe_fldX (pe_clo he) T.Z.cl T.Z.sorts hb) fun σ H Q h => ⟨_, h, fun v H1 q => ?_⟩
  obtain ⟨p, rs, s, rfl, ⟨dx, t, xs, hp, _⟩, q⟩ := q
  exact ⟨p, dx, _, _, rfl, hp, rfl, q⟩
/-- Tool(rows, sorts) -/
theorem pe_mkT {e : Expr} {es : List Expr} {t : TA} {x : Str} {p pos : Pos} (hx : x = "Tool") (hr : Room 4 X.A) (hg : Gl X x) (ha : PA X (e :: es) t) (he : starEach (e :: es) X.env = (false, eval e X.env) :: starEach es X.env := by rfl) (hpl : (backTo pos (starEach es X.env)).any (·.1) = false := by rfl) :
    PE X (.Call (.Name x p) (e :: es) [] pos) (fun σ H Q => t σ H fun vs H1 => ∃ a xs rs s, vs = [.ref a, .bl s] ∧ SqG X.K H1 a xs ∧ RowsAt C H1 xs rs ∧ rs.length ≤ 100 ∧ ∀ c u H', Same H1 H' → H1 c = none → ToolX X.K C CT H' c u xs rs s → Q (.ref c) H') := by
  subst hx
  obtain ⟨f, fd, M, ok, b, _⟩ := T.made
  refine pe_mono (pe_make M ok hr hg T.g b .nil pass0 (pa_clo ha) (by decide) he hpl) fun σ H Q h => ⟨_, h, fun vs H1 q => ?_⟩
  obtain ⟨a, xs, rs, sb, rfl, hs, hR, hl, k⟩ := q
  intro y dx nx nd ne
  have zz := (Same.new nd (o := .own y)).trans (Same.new (fresh_own (o := .own y) nx ne) (o := .ins CT dx []))
  refine ⟨y, dx, a, xs, sb, rfl, upd_same, hs.same zz, by rw [hR.1]; omega, (hR.same zz).isP T.c0, fun H2 u hu kp hx => ⟨rfl, ?_⟩⟩
  have s2 := made_same nx nd kp
  exact k y u H2 s2 nx ⟨dx, hx, hu, hR.same s2, hl⟩
/-- Tool(rows) -/
theorem pe_mkT1 {e : Expr} {t : TA} {x : Str} {p pos : Pos} (hx : x = "Tool") (hr : Room 4 X.A) (hg : Gl X x) (ha : PA X [e] t) (he : starEach [e] X.env = (false, eval e X.env) :: starEach [] X.env := by rfl) (hpl : (backTo pos (starEach [] X.env)).any (·.1) = false := by rfl) :
    PE X (.Call (.Name x p) [e] [] pos) (fun σ H Q => t σ H fun vs H1 => ∃ a xs rs, vs = [.ref a] ∧ SqG X.K H1 a xs ∧ RowsAt C H1 xs rs ∧ rs.length ≤ 100 ∧ ∀ c u H', Same H1 H' → H1 c = none → ToolX X.K C CT H' c u xs rs false → Q (.ref c) H') := by
  subst hx
  obtain ⟨f, fd, M, ok, _, ⟨ds, hd, b⟩, _⟩ := T.made
  refine pe_mono (pe_make M ok hr hg T.g b hd pass0 (pa_clo ha) (by decide) he hpl) fun σ H Q h => ⟨_, h, fun vs H1 q => ?_⟩
  obtain ⟨a, xs, rs, rfl, hs, hR, hl, k⟩ := q
  intro y dx nx nd ne
  have zz := (Same.new nd (o := .own y)).trans (Same.new (fresh_own (o := .own y) nx ne) (o := .ins CT dx []))
  refine ⟨y, dx, a, xs, false, rfl, upd_same, hs.same zz, by rw [hR.1]; omega, (hR.same zz).isP T.c0, fun H2 u hu kp hx => ⟨rfl, ?_⟩⟩
  have s2 := made_same nx nd kp
  exact k y u H2 s2 nx ⟨dx, hx, hu, hR.same s2, hl⟩
/-- Tool() -/
theorem pe_mkT0 {x : Str} {p pos : Pos} (hx : x = "Tool") (hr : Room 4 X.A) (hg : Gl X x) :
    PE X (.Call (.Name x p) [] [] pos) (fun σ H Q => ∀ c u H', Same H H' → H c = none → ToolX X.K C CT H' c u [] [] false → Q (.ref c) H') := by
  subst hx
  obtain ⟨f, fd, M, ok, _, _, e, ds, hd, b, he⟩ := T.made
  refine pe_mono (pe_make0 M ok hr hg T.g b hd pass0 (by decide)) fun σ H Q k => ?_
  intro y dx nx nd ne
  have zz := (Same.new nd (o := .own y)).trans (Same.new (fresh_own (o := .own y) nx ne) (o := .ins CT dx []))
  refine ⟨y, dx, e, [], false, rfl, upd_same, .inr (he _), Nat.zero_le _, fun v h => (List.not_mem_nil h).elim, fun H2 u hu kp hx => ⟨rfl, ?_⟩⟩
  have s2 := made_same nx nd kp
  exact k y u H2 s2 nx ⟨dx, hx, hu, ⟨rfl, fun r h => (List.not_mem_nil h).elim, fun i x r h _ => by cases h⟩, Nat.zero_le _⟩
end
section
variable {X : Cx}
/-- t + u, tracked tuples -/
theorem op_catH : OpR X (binaryOp .Add) (fun x y H Q => ∃ a b xs ys, x = .ref a ∧ y = .ref b ∧ H a = some (.tup xs) ∧ H b = some (.tup ys) ∧ xs.length + ys.length ≤ 1000 ∧ ∀ p H', Same H H' → H' p = some (.tup (xs ++ ys)) → Q (.ref p) H') := by
  intro pins s σ H x y v u Q I rx ry h
  obtain ⟨a, b, xs, ys, rfl, rfl, ha, hb, hl, q⟩ := h
  refine op_catA pins s σ H _ _ v u Q I rx ry ⟨a, b, xs, ys, rfl, rfl, SqT.of ha, SqT.of hb, fits hl, fun e => ?_, fun _ e => ?_, fun _ _ p np => q p _ (Same.new np) upd_same⟩
  · subst e
    exact q b H (Same.refl H) hb
  · subst e
    exact q a H (Same.refl H) (by rw [List.append_nil]; exact ha)
end
end Lay
set_option Elab.async false
set_option linter.all false
set_option maxRecDepth 100000
set_option maxHeartbeats 4000000
/-! x in (a, b, ..) where x is an own instance whose __eq__ says no to each. -/
namespace PySem.SeqAt
open AutoSeq1 (wpAny_loadPart')
open MeetsSeq MeetsSeq2 MeetsSeq3
def ItemNo (prog : Program) (w : World) (A : Around) (R : Result → Shared → Prop) (Pv : Shared → Prop) (y x : Value) : Prop :=
  ∀ s', Pv s' → wpAny (model prog w) A (eqBool y x) (fun b s'' => b = false ∧ Pv s'') (fun e s'' => R (.error e) s'') s'
theorem tuple_containsNo {prog : Program} {w : World} (l : Addr) (items : Array Value) (n : Nat) (dd : Option Addr) (sl : Array (Option Value)) (x : Value) (Pv : Shared → Prop) :
    MeetsIn prog w (Builtin.«tuple.__contains__» ⟨[.ref l, x], []⟩)
      (fun A R s => s.heap.get? l = some { cls := .type "tuple", dict := dd, data := .seq items n, slots := sl } ∧ Pv s ∧ (∀ y, y ∈ items → ItemNo prog w A.in1 R Pv y x) ∧ ∀ s', Pv s' → R (.ok (.ret (.bool false))) s') := by
  intro A R s h
  obtain ⟨hl, hP, he, h⟩ := h
  wp_walk using wpAny_loadPart' hl, wpAny_forIn_array _ (fun rest b s' => b.1 = none ∧ Pv s' ∧ (∀ y, y ∈ rest → y ∈ items)) _
  case turn =>
    rintro y rest b s' ⟨hb, hP', hmem⟩
    refine wpAny_bind (wpAny_mono (he y (hmem y (List.mem_cons_self ..)) s' hP') (fun c s'' hc => ?_) fun _ _ e => e)
    obtain ⟨rfl, hP2⟩ := hc
    wp_walk
    exact ⟨rfl, hP2, fun z hz => hmem z (List.mem_cons_of_mem _ hz)⟩
  case fin =>
    rintro ⟨b1, b2⟩ s' ⟨hb, hP', -⟩
    simp only at hb
    subst hb
    wp_walk
    exact h s' hP'
  case h =>
    exact ⟨rfl, hP, fun y hy => by simpa using hy⟩
theorem in_meetsIn {prog : Program} {w : World} {A : Around} {E : Value → Shared → Prop} {s : Shared} {T id : String} {B : Builtin} {c x : Value} {S : Spec} {Q : Value → Shared → Prop} (hT : s.TypeIs c T) (slot : Slot T "__contains__" id)
    (entry : entryFor table id = some B) (args : argsOk id ⟨[c, x], []⟩) (g : MeetsIn prog w (B ⟨[c, x], []⟩) S)
    (h : S A (wants (fun v s' => ∃ b, v = .bool b ∧ Q (.bool b) s') E) s) : wpAny (model prog w) A (compareOp .In x c) Q E s := by
  show wpAny _ A (do return .bool (← contains c x)) Q E s
  refine wpAny_bind (wpAny_contains_slot hT slot (wpAny_mono (call_meetsIn slot hT entry args g h) (fun v s' hv => ?_) fun _ _ e => e))
  obtain ⟨b, rfl, hq⟩ := hv
  exact wpAny_truthy_bool (wpAny_pure hq)
end PySem.SeqAt
namespace Lay
open PySem PySem.Spec PyProof.Rows L2
section
variable {prog : Program} {w : World} {A : Around} {E : Value → Shared → Prop} {s : Shared} {K : PySem.W.Frag} {x C L f : Addr} {h₀ : Heap} {m : Str → Option Value} {ox : Obj} {od : Option Obj}
/-- y == x, y of a built-in type that declines, x an own instance -/
theorem rc_right {y : Value} {T id : String} {Q : Value → Shared → Prop} (hu : A.units < cLine) (F : PyProof.Rows.Fr h₀ L s.heap m) (X₀ : K.In h₀) (I : PySem.W.InstAt s.heap x ox C od) (ha : s.TypeIs y T) (hm : PySem.W.mroIn K C (.type T) = some false)
    (h1 : Slot T (cmpInfo .Eq).2.1 id) (hc : wpAny (model prog w) A (call (.builtin id) [y, .ref x]) (fun v s' => v = .notImplemented ∧ s' = s) E s)
    (hs : PySem.W.findIn K (.ref C) "__eq__" = some (some (.ref f))) (hf : PySem.W.isFn K (.ref f) = true)
    (h : wpAny (model prog w) A (call (.ref f) [.ref x, y]) (PySem.W.CmpBack Q) E s) : wpAny (model prog w) A (richCompare .Eq y (.ref x)) Q E s := by
  have X := X₀.keeps F.keep
  have one : wpAny (model prog w) A (tryCompare (.ref x) "__eq__" y) (fun r s' => ∃ v, r = some v ∧ Q v s') E s := by
    unfold tryCompare
    refine wpAny_bind (PySem.W.ifBound_K X I hs hf (wpAny_mono h (fun v s' hv => ?_) fun _ _ e => e))
    cases v <;> first | exact hv.elim | exact wpAny_pure ⟨_, rfl, hv⟩
  unfold richCompare
  simp only [ha.oneThing_none]
  refine wpAny_holding (wpAny_bind (wpAny_cRoomFor hu ?_))
  refine wpAny_bind (wpAny_typeOf ha (wpAny_bind (I.type.here ?_)))
  rw [if_pos (by simp)]
  refine wpAny_bind ((PySem.W.looks_mroIn X hm).here ?_)
  simp only [Bool.false_eq_true, if_false, Bool.not_false, if_true]
  refine wpAny_bind (m := tryCompare y _ (.ref x)) (wpAny_tryCompare_declines ha h1 (wpAny_mono hc (fun v s' hv => ?_) fun _ _ e => e))
  obtain ⟨rfl, rfl⟩ := hv
  refine ⟨rfl, ?_⟩
  refine wpAny_bind (wpAny_mono one (fun r s' z => ?_) fun _ _ e => e)
  obtain ⟨v, rfl, hq⟩ := z
  exact wpAny_pure hq
theorem eq_right {y : Value} {T id : String} {Q : Bool → Shared → Prop} (hu : A.units < cLine) (F : PyProof.Rows.Fr h₀ L s.heap m) (X₀ : K.In h₀) (I : PySem.W.InstAt s.heap x ox C od) (ha : s.TypeIs y T) (hm : PySem.W.mroIn K C (.type T) = some false) (hne : y ≠ .ref x)
    (h1 : Slot T (cmpInfo .Eq).2.1 id) (hc : wpAny (model prog w) A (call (.builtin id) [y, .ref x]) (fun v s' => v = .notImplemented ∧ s' = s) E s)
    (hs : PySem.W.findIn K (.ref C) "__eq__" = some (some (.ref f))) (hf : PySem.W.isFn K (.ref f) = true)
    (h : wpAny (model prog w) A (call (.ref f) [.ref x, y]) (fun v s' => v = .bool false ∧ Q false s') E s) : wpAny (model prog w) A (eqBool y (.ref x)) Q E s := by
  unfold eqBool
  refine wpAny_holding ?_
  refine wpAny_ite_split (fun hab => absurd (eq_of_beq hab) hne) (fun _ => ?_)
  have core : wpAny (model prog w) A (richCompare .Eq y (.ref x)) (fun v s' => v = .bool false ∧ Q false s') E s := rc_right hu F X₀ I ha hm h1 hc hs hf (wpAny_mono h (fun v s' hv => by
    obtain ⟨rfl, q⟩ := hv
    exact ⟨rfl, q⟩) fun _ _ e => e)
  have fin : wpAny (model prog w) A (richCompare .Eq y (.ref x) >>= truthOfDropped) Q E s := wpAny_bind (wpAny_mono core (fun v s' hv => by
    obtain ⟨rfl, q⟩ := hv
    exact wpAny_truthy_bool q) fun _ _ e => e)
  cases y <;> exact fin
theorem str_declines {z : Str} {t : Tok} {dx : Addr} (h : s.heap.get? x = some (PySem.W.instObj C dx)) : wpAny (model prog w) A (call (.builtin "str.__eq__") [.str z t, .ref x]) (fun v s' => v = .notImplemented ∧ s' = s) E s := by
  refine call_meets (S := fun _ R s => s.heap.get? x = some (PySem.W.instObj C dx) ∧ R (.ok (.ret .notImplemented)) s) F.slot_str_eq (typeIs_str s z t) F.entry_str_eq (F.args_str_eq_2 _ _) ?_ ⟨h, rfl, rfl⟩
  intro prog w A R s h
  obtain ⟨hp, g, d, tk, os⟩ := s
  obtain ⟨hl, h⟩ := h
  wp_walk using wpAny_load hl
  exact h
theorem none_declines : wpAny (model prog w) A (call (.builtin "NoneType.__eq__") [.none, .ref x]) (fun v s' => v = .notImplemented ∧ s' = s) E s :=
  call_gives F.slot_NoneType_eq rfl F.entry_NoneType_eq (F.args_NoneType_eq_2 _ _) (SeqAt.NoneType___eq___none_ref_0 x) ⟨rfl, rfl⟩
theorem isInst_own {base : String} {b : Bool} {Q : Bool → Shared → Prop} (X : K.In s.heap) (I : PySem.W.InstAt s.heap x ox C od) (hm : PySem.W.mroIn K C (.type base) = some b) (h : Q b s) : wpAny (model prog w) A (isInstance (.ref x) (.type base)) Q E s := by
  unfold isInstance
  exact wpAny_bind (I.type.here ((PySem.W.looks_mroIn X hm).here h))
theorem tup_declines {l : Addr} (X : K.In s.heap) (I : PySem.W.InstAt s.heap x ox C od) (hm : PySem.W.mroIn K C (.type "tuple") = some false) (hl : s.TypeIs (.ref l) "tuple") : wpAny (model prog w) A (call (.builtin "tuple.__eq__") [.ref l, .ref x]) (fun v s' => v = .notImplemented ∧ s' = s) E s := by
  refine call_meetsIn (S := fun _ R s => (K.In s.heap ∧ PySem.W.InstAt s.heap x ox C od) ∧ R (.ok (.ret .notImplemented)) s) F.slot_tuple_eq hl F.entry_tuple_eq (F.args_tuple_eq_2 _ _) ?_ ⟨⟨X, I⟩, rfl, rfl⟩
  intro A R s h
  obtain ⟨⟨X, I⟩, h⟩ := h
  show wpAny _ _ (isInstance (.ref x) (.type "tuple") >>= _) _ _ s
  refine wpAny_bind (isInst_own X I hm ?_)
  exact wpAny_pure h
theorem lst_declines {l : Addr} (X : K.In s.heap) (I : PySem.W.InstAt s.heap x ox C od) (hm : PySem.W.mroIn K C (.type "list") = some false) (hl : s.TypeIs (.ref l) "list") : wpAny (model prog w) A (call (.builtin "list.__eq__") [.ref l, .ref x]) (fun v s' => v = .notImplemented ∧ s' = s) E s := by
  refine call_meetsIn (S := fun _ R s => (K.In s.heap ∧ PySem.W.InstAt s.heap x ox C od) ∧ R (.ok (.ret .notImplemented)) s) F.slot_list_eq hl F.entry_list_eq (F.args_list_eq_2 _ _) ?_ ⟨⟨X, I⟩, rfl, rfl⟩
  intro A R s h
  obtain ⟨⟨X, I⟩, h⟩ := h
  show wpAny _ _ (isInstance (.ref x) (.type "list") >>= _) _ _ s
  refine wpAny_bind (isInst_own X I hm ?_)
  exact wpAny_pure h
end
theorem vals_at : ∀ {xs : List V} {us : List Value} {i : Nat} {u : Value}, Vals xs us → us[i]? = some u → ∃ x, xs[i]? = some x ∧ RelV x u
  | _, _, _, _, .nil, e => by simp at e
  | _, _, 0, _, .cons r _, e => by simp at e; subst e; exact ⟨_, rfl, r⟩
  | _, _, i + 1, u, .cons _ t, e => by
    obtain ⟨x, h, r⟩ := vals_at (i := i) t (by simpa using e)
    exact ⟨x, by simpa using h, r⟩
/-- a value that is no instance: text, None, tuple, list -/
def Oth (K : PySem.W.Frag) (H : Hp) (v : V) : Prop := (∃ z, v = .str z) ∨ v = .non ∨ (∃ a xs, v = .ref a ∧ SqT K H a xs) ∨ (∃ a xs, v = .ref a ∧ SqL K H a xs)
/-- that an own class is none of these -/
structure NoBase (K : PySem.W.Frag) (C : Addr) : Prop where
  str : PySem.W.mroIn K C (.type "str") = some false
  tup : PySem.W.mroIn K C (.type "tuple") = some false
  lst : PySem.W.mroIn K C (.type "list") = some false
  non : PySem.W.mroIn K C (.type "NoneType") = some false
section
variable {X : Cx} {CX : CXT} {C f : Addr} {n : Nat} {fd : FuncData} {ps : List Str} {sp : Sp}
/-- x in t: x an instance, all in t other things to which its __eq__ says no -/
theorem op_inNo (G : FnOk X.prog X.w X.K X.mg X.base CX n f fd ps sp) (hs : PySem.W.findIn X.K (.ref C) "__eq__" = some (some (.ref f))) (hf : PySem.W.isFn X.K (.ref f) = true) (nb : NoBase X.K C) (hr : Room (n + 1) X.A) (hb : Binds X.K fd ps []) (hx : Passes CX X E0) :
    OpR X (compareOp .In) (fun x y H Q => ∃ (p dx a : Addr) (fs : List (Str × V)) (ys : List V), x = .ref p ∧ y = .ref a ∧ H p = some (.ins C dx fs) ∧ SqT X.K H a ys ∧ (∀ v ∈ ys, Oth X.K H v) ∧
      (∀ v ∈ ys, ∀ H1, Same H H1 → sp [.ref p, v] H1 (fun r H' => r = .bl false ∧ Same H1 H') E0) ∧ ∀ H', Same H H' → Q (.bl false) H') := by
  intro pins s σ H x y v u Q I rx ry h
  obtain ⟨p, dx, a, fs, ys, rfl, rfl, hp, hy, ho, hq, k⟩ := h
  cases rx
  cases ry
  obtain ⟨its, r, ⟨⟨cls, dd, data, sl⟩, e1, e2, n1, e3⟩, _⟩ := I.tuple hy
  simp only at e2 e3
  subst e2 e3
  refine SeqAt.in_meetsIn ⟨_, e1, rfl⟩ PySem.F.slot_tuple_contains PySem.F.entry_tuple_contains (PySem.F.args_tuple_contains_2 _ _) (SeqAt.tuple_containsNo a its.toArray n1 dd sl (.ref p) (fun s' => ∃ H', Same H H' ∧ Inv X pins σ H' s')) ⟨e1, ⟨H, Same.refl H, I⟩, ?_, fun s' hs' => ?_⟩
  · intro y0 hy0 s' hP
    obtain ⟨H1, s1, I1⟩ := hP
    obtain ⟨i, hi⟩ := List.mem_iff_getElem?.mp (by simpa using hy0 : y0 ∈ its)
    obtain ⟨v0, hv0, rv⟩ := vals_at r hi
    have hm := List.mem_of_getElem? hv0
    obtain ⟨mA, J, _⟩ := ins_get I1.hok (s1 _ _ hp)
    have ob := J.1
    obtain ⟨od, J, _⟩ := J.look
    obtain ⟨m, hF⟩ := I1.fr
    have sb : Sub X n X.A.in1 := ⟨hr.in1, rfl⟩
    have hu : X.A.in1.units < cLine := hr.in1.units0
    have own : wpAny (model X.prog X.w) X.A.in1 (call (.ref f) [.ref p, y0]) (fun r s'' => r = .bool false ∧ (false = false ∧ ∃ H', Same H H' ∧ Inv X pins σ H' s'')) X.xe s' := by
      refine run_sub (vs := [V.ref p, v0]) G sb hb hx I1 (.cons rfl (.cons rv .nil)) (hq v0 hm H1 s1) fun v u H' s'' I' rv' hq' => ?_
      obtain ⟨rfl, s2⟩ := hq'
      cases rv'
      exact ⟨rfl, rfl, H', s1.trans s2, I'⟩
    have nep : ∀ {l : Addr} {T : String}, s'.TypeIs (.ref l) T → (Value.ref l ≠ Value.ref p) := fun ht e => by
      cases e
      obtain ⟨o, ho, hc⟩ := ht
      rw [J.at_] at ho
      cases ho
      rw [J.cls] at hc
      cases hc
    rcases ho v0 hm with ⟨z, rfl⟩ | rfl | ⟨a2, xs2, rfl, h2⟩ | ⟨a2, xs2, rfl, h2⟩
    · obtain ⟨t, rfl⟩ := rv
      exact eq_right hu hF I1.ok.mod.kin J (typeIs_str s' z t) nb.str (fun e => nomatch e) PySem.F.slot_str_eq (str_declines ob) hs hf own
    · cases rv
      exact eq_right hu hF I1.ok.mod.kin J (T := "NoneType") rfl nb.non (fun e => nomatch e) PySem.F.slot_NoneType_eq none_declines hs hf own
    · cases rv
      obtain ⟨its2, r2, ht, _⟩ := I1.tuple (show SqT X.K H1 a2 xs2 from by
        rcases h2 with (h | ⟨o, h⟩) | h
        · exact .inl (.inl (s1 _ _ h))
        · exact .inl (.inr ⟨o, s1 _ _ h⟩)
        · exact .inr h)
      exact eq_right hu hF I1.ok.mod.kin J ht.typeIs nb.tup (nep ht.typeIs) PySem.F.slot_tuple_eq (tup_declines I1.kIn J nb.tup ht.typeIs) hs hf own
    · cases rv
      obtain ⟨its2, r2, ht, _⟩ := I1.list (show SqL X.K H1 a2 xs2 from by
        rcases h2 with (h | ⟨o, h⟩) | h
        · exact .inl (.inl (s1 _ _ h))
        · exact .inl (.inr ⟨o, s1 _ _ h⟩)
        · exact .inr h)
      exact eq_right hu hF I1.ok.mod.kin J ht.isList.typeIs nb.lst (nep ht.isList.typeIs) PySem.F.slot_list_eq (lst_declines I1.kIn J nb.lst ht.isList.typeIs) hs hf own
  · obtain ⟨H', s2, I'⟩ := hs'
    exact ⟨false, rfl, .bl false, H', I', rfl, k H' s2⟩
end
end Lay
set_option Elab.async false
set_option linter.all false
set_option maxRecDepth 100000
set_option maxHeartbeats 4000000
/-! x[i] by an own __getitem__; o.m(..) where what is let out depends on the slots; NoRow; rows compared. -/
namespace Lay
open PySem PySem.Spec PyProof.Rows L2
section
variable {X : Cx} {CX : CXT} {C f : Addr} {n : Nat} {fd : FuncData} {ps : List Str} {sp : Sp} {E : L2.St → XK}
theorem run_subS {A : Around} {pins : List (Addr × Obj)} {σ : L2.St} {H : Hp} {s : Shared} {Q : VK} {us : List Value} {vs : List V} (F : FnOk X.prog X.w X.K X.mg X.base CX n f fd ps sp) (hr : Sub X n A) (hb : Binds X.K fd ps []) (hx : PassesAt CX X σ (E σ))
    (I : Inv X pins σ H s) (r : Vals vs us) (h : sp vs H Q (E σ)) : wpAny (model X.prog X.w) A (call (.ref f) us) (EP X pins σ Q) X.xe s := by
  have hl : us.length = ps.length := by rw [← r.length]; exact F.len _ _ _ _ h
  have b := hb s us I.kIn (by rw [List.append_nil]; exact hl)
  rw [List.append_nil] at b
  have e := I.env0
  have e0 : Env0 X.prog X.w X.K X.mg X.base A X.stack s H := ⟨by rw [hr.fr]; exact e.frames, e.mod, e.bs, e.bsz, e.funs, e.frf, e.hok, e.bare⟩
  refine wpAny_call (codeAny_mono (F.run A X.stack s H ⟨us, []⟩ us vs Q (E σ) hr.room e0 b r h) fun r s' hq => ?_)
  cases r with
  | error er => exact hx pins H s er s' I hq
  | ok fl =>
    cases fl with
    | ret u => exact I.after hq
    | next => exact False.elim hq
    | brk => exact False.elim hq
    | cont => exact False.elim hq
def tIxO (C : Addr) (sp : Sp) (E : L2.St → XK) (ta tb : TE) : TE := fun σ H Q => ta σ H fun x H1 => tb σ H1 fun y H2 => ∃ a dx fs, x = .ref a ∧ H2 a = some (.ins C dx fs) ∧ sp [.ref a, y] H2 Q (E σ)
/-- a[b] by its __getitem__ -/
theorem pe_ixO {a b : Expr} {ta tb : TE} {pos : Pos} (F : FnOk X.prog X.w X.K X.mg X.base CX n f fd ps sp) (hs : PySem.W.findIn X.K (.ref C) "__getitem__" = some (some (.ref f))) (hfi : PySem.W.fnIn X.K f = true) (hf : PySem.W.isFn X.K (.ref f) = true) (hr : Room (n + 1) X.A) (hb : Binds X.K fd ps [])
    (hx : ∀ σ, PassesAt CX X σ (E σ)) (ha : PE X a ta) (hbx : PE X b tb) (hsl : ∀ x i, subscripted b true (.ref x) i = runValue (.builtin "lifetime.subscript" ⟨[.ref x, i], []⟩) := by intros; with_unfolding_all rfl) : PE X (.Subscript a b pos) (tIxO C sp E ta tb) := by
  refine ⟨fun pins s σ H Q I h => ?_⟩
  refine Subscript_ (binT ha hbx I (R := fun x y H2 => ∃ a dx fs, x = .ref a ∧ H2 a = some (.ins C dx fs) ∧ sp [.ref a, y] H2 Q (E σ)) h fun v u s2 x y H2 I2 rx ry q => ?_)
  obtain ⟨p, dx, fs, rfl, hp, q⟩ := q
  cases rx
  obtain ⟨mA, J, _⟩ := ins_get I2.hok hp
  obtain ⟨od, J, _⟩ := J.look
  obtain ⟨m, hF⟩ := I2.fr
  exact PySem.W.sub_K hF I2.ok.mod.kin J hs hfi hf (run_subS (vs := [V.ref p, y]) F ⟨hr.in1, rfl⟩ hb (hx σ) I2 (.cons rfl (.cons ry .nil)) q) (hsl _ _)
def tMethE (C : Addr) (m : Str) (sp : Sp) (E : L2.St → XK) (ta : TE) (t : TA) : TE := fun σ H Q => ta σ H fun x H1 => ∃ a dx fs, x = .ref a ∧ H1 a = some (.ins C dx fs) ∧ fs.lookup m = none ∧ t σ H1 fun vs H2 => sp (x :: vs) H2 Q (E σ)
theorem pe_methE {o e : Expr} {es : List Expr} {m : Str} {apos pos : Pos} {ta : TE} {t : TA} {pl : Sem Bool} (he : PE X o ta) (c : Cls X.K C) (hm : Meth X.K C m f) (F : FnOk X.prog X.w X.K X.mg X.base CX n f fd ps sp) (hr : Room n X.A) (hb : Binds X.K fd ps []) (hx : ∀ σ, PassesAt CX X σ (E σ)) (ha : PA X (e :: es) t)
    (hst : starEach (e :: es) X.env = (false, eval e X.env) :: starEach es X.env := by rfl) (hpl : (backTo pos (starEach es X.env)).any (·.1) = false := by rfl)
    (ht : eval (.Call (.Attribute o m apos) (e :: es) [] pos) X.env = (do
      let ov ← eval o X.env
      standAt apos.atName
      let (f, first) ← holding [ov] (getMethod ov m pl)
      callWith pos f first (backTo pos (starEach (e :: es) X.env)) (backToKw pos (keywordEach [] X.env))) := by rfl) :
    PE X (.Call (.Attribute o m apos) (e :: es) [] pos) (tMethE C m sp E ta t) := by
  refine ⟨fun pins s σ H Q I h => ?_⟩
  refine PySem.W.methodCall_KW (pl := pl) (thn (he.run pins s σ H _ I h) fun u s1 ⟨x, H1, I1, rx, a, dx, fs, ex, ea, l, q⟩ => ?_) ht
  subst ex
  obtain rfl : u = Value.ref a := rx
  refine getmeth_ok I1 ea c hm l ?_
  refine PySem.W.callWith_K (first := [.ref a]) (h₀ := X.base) I.ok.mod.kin hm.kp (thn (ha.run pos pins s1 σ H1 _ I1 q) fun us s2 ⟨vs, H2, I2, r, q2⟩ => ⟨I2.kIn, ?_⟩) hst hpl
  exact run_fnS (us := .ref a :: us) (vs := .ref a :: vs) F hr hb (hx σ) I2 (.cons rfl r) q2
theorem passE0 {σ : L2.St} : PassesAt CX0 X σ ((fun _ => E0) σ) := fun _ _ _ _ _ _ h => h.elim
end
/-! ### NoRow -/
def RaisedA (D : Addr) (H : Hp) (v : V) (E : XK) : Prop := ∀ H' d, Same H H' → H d = none → H' d = some (.xd [("at", v)]) → E (.ref D) (some d) H'
theorem RaisedA.same {D : Addr} {H H' : Hp} {v : V} {E : XK} (s : Same H H') (h : RaisedA D H v E) : RaisedA D H' v E := fun G d s2 n e => h G d (s.trans s2) (s.free n) e
abbrev sNR : Stmt := inClass (top 4) 0
abbrev sGetT : Stmt := inClass (top 21) 4
abbrev sEqR : Stmt := inClass (top 20) 1
abbrev sLacks : Stmt := top 33
def spGetG (K : PySem.W.Frag) (C CT : Addr) : Sp := fun vs H Q _ => ∃ (p t : Addr) (i : Nat) (xs : List V) (rs : List RD) (s : Bool) (v : V), vs = [.ref p, .int i] ∧ ToolX K C CT H p t xs rs s ∧ xs[i]? = some v ∧ Q v H
def spBad (K : PySem.W.Frag) (C CT D : Addr) : Sp := fun vs H _ E => ∃ (p : Addr) (i : Int) (rs : List RD) (s : Bool), vs = [.ref p, .int i] ∧ ToolAt K C CT H p rs s ∧ (i < 0 ∨ (rs.length : Int) ≤ i) ∧ RaisedA D H (.int i) E
/-- a row against a row -/
def spEqR (C : Addr) : Sp := fun vs H Q _ => ∃ (p q : Addr) (r r' : RD), vs = [.ref p, .ref q] ∧ RowAt C H p r ∧ RowAt C H q r' ∧ r.Ok ∧ r'.Ok ∧ ∀ H', Same H H' → Q (.bl (decide (V.str (rowText r) = V.str (rowText r')))) H'
/-- a tool (or a row) against what is none -/
def spEqN (K : PySem.W.Frag) (CT : Addr) : Sp := fun vs H Q _ => ∃ (p : Addr) (y : V), vs = [.ref p, y] ∧ IsP K CT H y false ∧ Q (.bl false) H
def spLacks (K : PySem.W.Frag) (C CT : Addr) : Sp := fun vs H Q _ => ∃ (p : Addr) (i : Int) (wt : Bool) (rs : List RD) (s : Bool), vs = [.ref p, .int i, .bl wt] ∧ ToolAt K C CT H p rs s ∧ (i < 0 ∨ (rs.length : Int) ≤ i) ∧ i.natAbs < 2 ^ 40 ∧ ∀ H', Same H H' → Q (.bl true) H'
/-- NoRow is a LayError -/
structure KinA (K : PySem.W.Frag) (mg : Str → Option Value) (D L : Addr) : Prop where
  gL : mg "LayError" = some (.ref L)
  kL : PySem.W.kitOne K (.ref D) (.ref L) = some true
  ex : PySem.W.exmOne K (.ref D) (.ref D) = some true
section
variable {P : Program} {w : World} {K : PySem.W.Frag} {mg : Str → Option Value} {base : Heap}
theorem scNR : FnScope ["self", "at"] ["self", "at"] (defScope sNR) := ⟨rfl, rfl, rfl, by decide +kernel, rfl, by decide +kernel, by decide +kernel⟩
theorem ok_nR {f C : Addr} {fd : FuncData} (F : Fun K "__init__" "NoRow.__init__" sNR f fd) : FnOk P w K mg base CX0 1 f fd ["self", "at"] (spInit K C "at") := by
  refine F.ok scNR (fun vs H Q E h => ?_) (fun cdv A outer s H vs Q E hr h => ?_)
  · obtain ⟨a, v, rfl, _⟩ := h
    rfl
  · obtain ⟨a, v, rfl, T, no, ha, k⟩ := h
    exact ⟨_, pss_one (ps_ost (pv 0) (pv 1)), _, rfl, _, rfl, a, C, rfl, T, no, .inl ⟨ha, fun dx h1 h2 => k dx h1 h2⟩⟩
theorem scGetT : FnScope ["self", "at"] ["self", "at"] (defScope sGetT) := ⟨rfl, rfl, rfl, by decide +kernel, rfl, by decide +kernel, by decide +kernel⟩
theorem ok_getG {f fN C CT : Addr} {fd fdN : FuncData} (F : Fun K "__getitem__" "Tool.__getitem__" sGetT f fd) (hlen : mg "len" = none) (Z : ToolC K CT)
    (GN : FnOk P w K mg base CX0 2 fN fdN ["value", "many"] spNumI) (gN : mg "is_number" = some (.ref fN)) (kN : PySem.W.keepIn K (.ref fN) = true) (bN : Binds K fdN ["value", "many"] []) : FnOk P w K mg base CX0 3 f fd ["self", "at"] (spGetG K C CT) := by
  refine F.ok scGetT (fun vs H Q E h => ?_) (fun cdv A outer s H vs Q E hr h => ?_)
  · obtain ⟨p, t, i, xs, rs, b, v, rfl, _⟩ := h
    rfl
  · obtain ⟨p, t, i, xs, rs, b, v, rfl, ⟨dx, hp, ht, hr1, hl⟩, hi, k⟩ := h
    refine ⟨_, (pss_cons (ps_if (pt_not (pt_val (pe_call GN hr (by rfl) gN kN bN .nil pass0 (pa_cons (pv 1) (pa_cons (pe_callB call_len_seq (by rfl) hlen PySem.boot_len (pa_cons (pe_fld (pv 0) rfl) pa_nil)) pa_nil))))) pss_never pss_nil)
      (pss_one (ps_ret (pe_ix ix_tup (pe_fld (pv 0) rfl) (pv 1) (fun _ _ => rfl))))), ?_⟩
    have li := (List.getElem?_eq_some_iff.mp hi).1
    refine ⟨_, rfl, _, rfl, p, CT, dx, _, _, rfl, hp, Z.cl, Z.rows, rfl, t, xs, rfl, .inr ht.sqT, _, _, rfl, _, rfl, iteN (by simp [li]) ?_⟩
    exact ⟨_, rfl, p, CT, dx, _, _, rfl, hp, Z.cl, Z.rows, rfl, _, rfl, t, xs, _, v, rfl, rfl, ht.sqT, atI_nat hi, k⟩
theorem ok_getB {f fN fI C CT D : Addr} {fd fdN fdI : FuncData} (F : Fun K "__getitem__" "Tool.__getitem__" sGetT f fd) (hlen : mg "len" = none) (Z : ToolC K CT)
    (GN : FnOk P w K mg base CX0 2 fN fdN ["value", "many"] spNumI) (gN : mg "is_number" = some (.ref fN)) (kN : PySem.W.keepIn K (.ref fN) = true) (bN : Binds K fdN ["value", "many"] [])
    (Y : XC K mg D fI "NoRow" "at") (GI : FnOk P w K mg base CX0 1 fI fdI ["self", "at"] (spInit K D "at")) (bI : Binds K fdI ["self", "at"] []) : FnOk P w K mg base (L2.CX P w) 3 f fd ["self", "at"] (spBad K C CT D) := by
  refine F.okX scGetT (fun vs H Q E h => ?_) (fun cdv A outer s H vs Q E hr h => ?_)
  · obtain ⟨p, i, rs, b, rfl, _⟩ := h
    rfl
  · obtain ⟨p, i, rs, b, rfl, ⟨dx, t, xs, hp, ht, hr1, hl⟩, hi, k⟩ := h
    refine ⟨_, (pss_cons (ps_if (pt_not (pt_val (pe_call GN hr (by rfl) gN kN bN .nil pass0 (pa_cons (pv 1) (pa_cons (pe_callB call_len_seq (by rfl) hlen PySem.boot_len (pa_cons (pe_fld (pv 0) rfl) pa_nil)) pa_nil)))))
      (pss_one (ps_raise rfl (takes_of rfl rfl rfl rfl) (pmk_oex Y.oex Y.init Y.tI GI (hr.mono (by decide)) bI .nil pass0 (by rfl) Y.gC (pa_cons (pv 1) pa_nil)))) pss_nil)
      (pss_one ps_never)), ?_⟩
    refine ⟨_, rfl, _, rfl, p, CT, dx, _, _, rfl, hp, Z.cl, Z.rows, rfl, t, xs, rfl, .inr ht.sqT, _, _, rfl, _, rfl, iteY ?_ ?_⟩
    · rw [hr1.1]
      rcases hi with hi | hi
      · simp only [Bool.not_eq_true', Bool.and_eq_false_iff, decide_eq_false_iff_not]
        exact .inl (by omega)
      · simp only [Bool.not_eq_true', Bool.and_eq_false_iff, decide_eq_false_iff_not]
        exact .inr (by omega)
    · exact ⟨_, rfl, by show 1 ≤ 1000; decide, fun a ha => raised_at Y.oex Y.no ha k⟩
theorem ok_withoutB {f fN fI C CT D : Addr} {fd fdN fdI : FuncData} (F : Fun K "without" "Tool.without" sWithout f fd) (hlen : mg "len" = none) (Z : ToolC K CT)
    (GN : FnOk P w K mg base CX0 2 fN fdN ["value", "many"] spNumI) (gN : mg "is_number" = some (.ref fN)) (kN : PySem.W.keepIn K (.ref fN) = true) (bN : Binds K fdN ["value", "many"] [])
    (Y : XC K mg D fI "NoRow" "at") (GI : FnOk P w K mg base CX0 1 fI fdI ["self", "at"] (spInit K D "at")) (bI : Binds K fdI ["self", "at"] []) : FnOk P w K mg base (L2.CX P w) 3 f fd ["self", "at"] (spBad K C CT D) := by
  refine F.okX scWithout (fun vs H Q E h => ?_) (fun cdv A outer s H vs Q E hr h => ?_)
  · obtain ⟨p, i, rs, b, rfl, _⟩ := h
    rfl
  · obtain ⟨p, i, rs, b, rfl, ⟨dx, t, xs, hp, ht, hr1, hl⟩, hi, k⟩ := h
    refine ⟨_, (pss_cons (ps_if (pt_not (pt_val (pe_call GN hr (by rfl) gN kN bN .nil pass0 (pa_cons (pv 1) (pa_cons (pe_callB call_len_seq (by rfl) hlen PySem.boot_len (pa_cons (pe_fld (pv 0) rfl) pa_nil)) pa_nil)))))
      (pss_one (ps_raise rfl (takes_of rfl rfl rfl rfl) (pmk_oex Y.oex Y.init Y.tI GI (hr.mono (by decide)) bI .nil pass0 (by rfl) Y.gC (pa_cons (pv 1) pa_nil)))) pss_nil)
      (pss_one ps_never)), ?_⟩
    refine ⟨_, rfl, _, rfl, p, CT, dx, _, _, rfl, hp, Z.cl, Z.rows, rfl, t, xs, rfl, .inr ht.sqT, _, _, rfl, _, rfl, iteY ?_ ?_⟩
    · rw [hr1.1]
      rcases hi with hi | hi
      · simp only [Bool.not_eq_true', Bool.and_eq_false_iff, decide_eq_false_iff_not]
        exact .inl (by omega)
      · simp only [Bool.not_eq_true', Bool.and_eq_false_iff, decide_eq_false_iff_not]
        exact .inr (by omega)
    · exact ⟨_, rfl, by show 1 ≤ 1000; decide, fun a ha => raised_at Y.oex Y.no ha k⟩
theorem scEqR : FnScope ["self", "other"] ["self", "other"] (defScope sEqR) := ⟨rfl, rfl, rfl, by decide +kernel, rfl, by decide +kernel, by decide +kernel⟩
theorem ok_eqR {f fS C : Addr} {fd fdS : FuncData} (F : Fun K "__eq__" "Row.__eq__" sEqR f fd) (T : TxtK mg) (c : ClsI K C) (gC : mg "Row" = some (.ref C))
    (GS : FnOk P w K mg base CX0 2 fS fdS ["self"] (spStrRow C)) (hs : PySem.W.findIn K (.ref C) "__str__" = some (some (.ref fS))) (hf : PySem.W.isFn K (.ref fS) = true) (bS : Binds K fdS ["self"] []) : FnOk P w K mg base CX0 5 f fd ["self", "other"] (spEqR C) := by
  refine F.ok scEqR (fun vs H Q E h => ?_) (fun cdv A outer s H vs Q E hr h => ?_)
  · obtain ⟨p, q, r, r', rfl, _⟩ := h
    rfl
  · obtain ⟨p, q, r, r', rfl, hp, hq, o, o', k⟩ := h
    refine ⟨_, pss_one (ps_ret (pe_and (pe_callB call_isi (by rfl) T.isinstance (by decide +kernel) (pa_cons (pv 1) (pa_cons (pe_glob (v := .ref C) (by rfl) gC rfl) pa_nil)))
      (pe_one (pe_cmpR op_eq (pe_callTy (call_strOwn GS hs hf hr bS pass0) (by rfl) T.str (by decide +kernel) (pa_cons (pv 0) pa_nil)) (pe_callTy (call_strOwn GS hs hf hr bS pass0) (by rfl) T.str (by decide +kernel) (pa_cons (pv 1) pa_nil)) (nomark _))))), ?_⟩
    obtain ⟨dx2, t2, d2, hq2, _⟩ := id hq
    obtain ⟨dx1, t1, d1, hp1, _⟩ := id hp
    refine ⟨_, rfl, _, _, _, _, true, rfl, .own _, c.at hq2, kit_same, _, rfl, iteY rfl ?_⟩
    exact ⟨_, rfl, p, dx1, _, rfl, hp1, p, r, rfl, hp, o, fun H1 s1 => ⟨_, rfl, _, rfl, q, dx2, _, rfl, s1 _ _ hq2, q, r', rfl, hq.same s1, o', fun H2 s2 => ⟨_, rfl, rfl, k H2 (s1.trans s2)⟩⟩⟩
theorem ok_eqN {f fS C CT : Addr} {fd fdS : FuncData} (F : Fun K "__eq__" "Tool.__eq__" sEqT f fd) (T : TxtK mg) (gT : mg "Tool" = some (.ref CT))
    (GS : FnOk P w K mg base CX0 5 fS fdS ["self"] (spStrTool K C CT)) (hs : PySem.W.findIn K (.ref CT) "__str__" = some (some (.ref fS))) (hf : PySem.W.isFn K (.ref fS) = true) (bS : Binds K fdS ["self"] []) : FnOk P w K mg base CX0 8 f fd ["self", "other"] (spEqN K CT) := by
  refine F.ok scEqT (fun vs H Q E h => ?_) (fun cdv A outer s H vs Q E hr h => ?_)
  · obtain ⟨p, y, rfl, _⟩ := h
    rfl
  · obtain ⟨p, y, rfl, ⟨t, ty, e⟩, k⟩ := h
    refine ⟨_, pss_one (ps_ret (pe_and (pe_callB call_isi (by rfl) T.isinstance (by decide +kernel) (pa_cons (pv 1) (pa_cons (pe_glob (v := .ref CT) (by rfl) gT rfl) pa_nil)))
      (pe_one (pe_cmpR op_eq (pe_callTy (call_strOwn GS hs hf hr bS pass0) (by rfl) T.str (by decide +kernel) (pa_cons (pv 0) pa_nil)) (pe_callTy (call_strOwn GS hs hf hr bS pass0) (by rfl) T.str (by decide +kernel) (pa_cons (pv 1) pa_nil)) (nomark _))))), ?_⟩
    exact ⟨_, rfl, _, _, t, _, false, rfl, .own _, ty, e, _, rfl, iteN rfl k⟩
end
end Lay
set_option Elab.async false
set_option linter.all false
set_option maxRecDepth 100000
set_option maxHeartbeats 4000000
namespace Lay
open PySem PySem.Spec PyProof.Rows L2
section
variable {P : Program} {w : World} {K : PySem.W.Frag} {mg : Str → Option Value} {base : Heap}
theorem scLacks : FnScope ["_law_tool_here", "_law_at", "_law_is_without", "_law_found", "e"] ["_law_tool_here", "_law_at", "_law_is_without"] (defScope sLacks) := ⟨rfl, rfl, rfl, by decide +kernel, rfl, by decide +kernel, by decide +kernel⟩
theorem nat_log {n : Nat} (h : n < 2 ^ 40) : n.log2 < 1920 := by
  by_cases e : n = 0
  · subst e
    decide
  · have := (Nat.log2_lt e).mpr h
    omega
theorem ok_lacks {f fG fW fI C CT D Lc : Addr} {fd fdG fdW : FuncData} (F : Fun K "_law_lacks" "_law_lacks" sLacks f fd) (T : TxtK mg) (hrepr : mg "repr" = none) (Z : ToolC K CT) (Y : XC K mg D fI "NoRow" "at") (N : KinA K mg D Lc)
    (GG : FnOk P w K mg base (L2.CX P w) 3 fG fdG ["self", "at"] (spBad K C CT D)) (hg : PySem.W.findIn K (.ref CT) "__getitem__" = some (some (.ref fG))) (hgi : PySem.W.fnIn K fG = true) (hgf : PySem.W.isFn K (.ref fG) = true) (bG : Binds K fdG ["self", "at"] [])
    (GW : FnOk P w K mg base (L2.CX P w) 3 fW fdW ["self", "at"] (spBad K C CT D)) (mW : Meth K CT "without" fW) (bW : Binds K fdW ["self", "at"] []) : FnOk P w K mg base CX0 5 f fd ["_law_tool_here", "_law_at", "_law_is_without"] (spLacks K C CT) := by
  refine F.ok scLacks (fun vs H Q E h => ?_) (fun cdv A outer s H vs Q E hr h => ?_)
  · obtain ⟨p, i, wt, rs, b, rfl, _⟩ := h
    rfl
  · obtain ⟨p, i, wt, rs, b, rfl, hT, hi, hn, k⟩ := h
    obtain ⟨dx, t, xs, hp, _⟩ := id hT
    refine ⟨_, (pss_cons (ps_set (i := 3) scLacks.nd rfl (.inl rfl) pe_bl)
      (pss_cons (ps_try_as (i := 4) rfl rfl scLacks.nd rfl (by rfl) ⟨by rfl, by decide, .inl Y.gC⟩ takes0
        (fun W pn xe tk hp => pss_one (ps_set (i := 3) scLacks.nd rfl (.inl rfl) (pe_cmpR op_isN (pe_ifExp (pt_val (pv 2)) (pe_methE (C := CT) (E := WE W) (pv 0) Z.cl mW GW (hr.mono (by decide)) bW (fun σ => passAt tk σ) (pa_cons (pv 1) pa_nil)) (pe_ixO (C := CT) (E := WE W) GG hg hgi hgf (hr.mono (by decide)) bG (fun σ => passAt tk σ) (pv 0) (pv 1))) pe_non (nomark _))))
        (fun a oe cls d pn hz hf => pss_one (ps_set (i := 3) scLacks.nd rfl (.inl rfl) (pe_and (pe_cmpR op_eq (pe_callB SkE.call_repr_int (by rfl) hrepr (by decide +kernel) (pa_cons (pe_xf Y.xf Y.no hz hf (pv 4)) pa_nil)) (pe_callB SkE.call_repr_int (by rfl) hrepr (by decide +kernel) (pa_cons (pv 1) pa_nil)) (nomark _))
          (pe_one (pe_callB (call_isEX hz hf) (by rfl) T.isinstance (by decide +kernel) (pa_cons (pv 4) (pa_cons (pe_glob (v := .ref Lc) (by rfl) N.gL rfl) pa_nil))))))))
      (pss_one (ps_ret (pv 3))))), ?_⟩
    have lg := nat_log hn
    refine ⟨_, rfl, ?_⟩
    cases wt with
    | true =>
      refine ⟨_, rfl, iteY rfl ⟨_, rfl, p, dx, _, rfl, hp, rfl, _, rfl, p, i, rs, b, rfl, hT, hi, ?_⟩⟩
      refine fun G d s2 n e => ⟨true, N.ex, fun _ a ha => ?_, fun z => nomatch z⟩
      refine ⟨_, rfl, rfl, rfl, d, _, _, rfl, e, rfl, i, rfl, lg, _, rfl, i, rfl, lg, rfl, _, rfl, iteY (by simp) ?_⟩
      exact ⟨_, rfl, D, d, _, _, _, _, rfl, rfl, rfl, e, Y.isC, .own _, N.kL, _, rfl, k G s2⟩
    | false =>
      refine ⟨_, rfl, iteN rfl ⟨_, rfl, _, rfl, p, dx, _, rfl, hp, p, i, rs, b, rfl, hT, hi, ?_⟩⟩
      refine fun G d s2 n e => ⟨true, N.ex, fun _ a ha => ?_, fun z => nomatch z⟩
      refine ⟨_, rfl, rfl, rfl, d, _, _, rfl, e, rfl, i, rfl, lg, _, rfl, i, rfl, lg, rfl, _, rfl, iteY (by simp) ?_⟩
      exact ⟨_, rfl, D, d, _, _, _, _, rfl, rfl, rfl, e, Y.isC, .own _, N.kL, _, rfl, k G s2⟩
end
end Lay
set_option Elab.async false
set_option linter.all false
set_option maxRecDepth 100000
set_option maxHeartbeats 4000000
namespace Lay
open PySem PySem.Spec PyProof.Rows L2
theorem jlen (x : Str) : ∀ xs : List Str, (Txt.join "\n" (x :: xs)).length = x.length + (xs.map fun z => z.length + 1).sum := by
  have j : (Str.ofString "\n").length = 1 := by decide
  intro xs
  rw [TL.join_eq]
  induction xs generalizing x with
  | nil => simp [Str.join]
  | cons y ys ih =>
    show (x ++ Str.ofString "\n" ++ Str.join (Str.ofString "\n") (y :: ys)).length = _
    rw [Str.length_append, Str.length_append, j, ih, List.map_cons, List.sum_cons]
    omega
theorem text_len (rs : List RD) (s : Bool) : (toolText rs s).length = (firstS s).length + (rs.map fun r => (rowText r).length + 1).sum := by
  unfold toolText
  rw [jlen, List.map_map]
  rfl
theorem text_less {rs : List RD} {s : Bool} {i : Nat} (h : i < rs.length) : toolText (rs.take i ++ rs.drop (i + 1)) s ≠ toolText rs s := fun e => by
  have e1 := congrArg Str.length e
  rw [text_len, text_len, List.map_append, List.sum_append] at e1
  have e2 : (rs.map fun r => (rowText r).length + 1).sum = ((rs.take i).map fun r => (rowText r).length + 1).sum + (((rowText rs[i]).length + 1) + ((rs.drop (i + 1)).map fun r => (rowText r).length + 1).sum) := by
    conv => lhs; rw [← List.take_append_drop i rs, List.map_append, List.sum_append, List.drop_eq_getElem_cons h, List.map_cons, List.sum_cons]
  omega
theorem text_sorts (rs : List RD) (s : Bool) : toolText rs s ≠ toolText rs (!s) := fun e => by
  have e1 := congrArg Str.length e
  rw [text_len, text_len] at e1
  have f1 : (firstS true).length = 10 := by decide
  have f2 : (firstS false).length = 4 := by decide
  cases s
  · rw [show (!false) = true from rfl] at e1
    omega
  · rw [show (!true) = false from rfl] at e1
    omega
/-- what is had of the class Row -/
structure RwF (P : Program) (w : World) (K : PySem.W.Frag) (mg : Str → Option Value) (base : Heap) (C : Addr) : Prop where
  g : mg "Row" = some (.ref C)
  made : ∃ f fd, Mk K C f ∧ FnOk P w K mg base CX0 3 f fd ["self", "tests", "deeds"] (spRowG K C) ∧ Binds K fd ["self", "tests", "deeds"] []
  eq : ∃ f fd, FnOk P w K mg base CX0 5 f fd ["self", "other"] (spEqR C) ∧ PySem.W.findIn K (.ref C) "__eq__" = some (some (.ref f)) ∧ PySem.W.isFn K (.ref f) = true ∧ Binds K fd ["self", "other"] []
  ne : PySem.W.findIn K (.ref C) "__ne__" = some (some (.builtin "object.__ne__"))
  mo : PySem.W.mroIn K C (.type "object") = some true
section
variable {X : Cx} {C CT : Addr} {K : PySem.W.Frag}
def tMkR (C : Addr) (t : TA) : TE := fun σ H Q => t σ H fun vs H1 => ∃ a c r, vs = [.ref a, .ref c] ∧ SqX H1 a (r.ws.map V.str) ∧ SqX H1 c (r.us.map V.str) ∧ r.Ok ∧ (∀ z ∈ r.ws, progT z = true) ∧ (∀ z ∈ r.us, progD z = true) ∧
      ∀ y H', Same H1 H' → H1 y = none → RowAt C H' y r → Q (.ref y) H'
/-- Row(tests, deeds) -/
theorem pe_mkR (T : RwF X.prog X.w X.K X.mg X.base C) {e : Expr} {es : List Expr} {t : TA} {x : Str} {p pos : Pos} (hx : x = "Row") (hr : Room 4 X.A) (hg : Gl X x) (ha : PA X (e :: es) t) (he : starEach (e :: es) X.env = (false, eval e X.env) :: starEach es X.env := by rfl) (hpl : (backTo pos (starEach es X.env)).any (·.1) = false := by rfl) :
    PE X (.Call (.Name x p) (e :: es) [] pos) (tMkR C t) := by
  subst hx
  obtain ⟨f, fd, M, ok, b⟩ := T.made
  refine pe_mono (pe_make M ok hr hg T.g b .nil pass0 (pa_clo ha) (by decide) he hpl) fun σ H Q h => ⟨_, h, fun vs H1 q => ?_⟩
  obtain ⟨a, c, r, rfl, ha, hc, o, gt, gd, k⟩ := q
  intro y dx nx nd ne
  have zz := (Same.new nd (o := .own y)).trans (Same.new (fresh_own (o := .own y) nx ne) (o := .ins C dx []))
  refine ⟨y, dx, a, c, r, rfl, upd_same, ha.imp (zz _ _) (zz _ _), hc.imp (zz _ _) (zz _ _), o, gt, gd, fun H2 kp hx => ⟨rfl, ?_⟩⟩
  exact k y H2 (made_same nx nd kp) nx hx
theorem op_neRw (T : RwF X.prog X.w X.K X.mg X.base C) (hr : Room 6 X.A) : OpR X (compareOp .NotEq) (fun x y H Q => ∃ p q r r', x = .ref p ∧ y = .ref q ∧ RowAt C H p r ∧ RowAt C H q r' ∧ r.Ok ∧ r'.Ok ∧ ∀ H', Same H H' → Q (.bl (!decide (V.str (rowText r) = V.str (rowText r')))) H') := by
  obtain ⟨f, fd, ok, hs, fn, b⟩ := T.eq
  intro pins s σ H x y v u Q I rx ry h
  obtain ⟨p, q, r, r', rfl, rfl, hp, hq, o, o', k⟩ := h
  obtain ⟨d1, _, _, h1, _⟩ := id hp
  obtain ⟨d2, _, _, h2, _⟩ := id hq
  exact op_neOwn ok hs T.ne T.mo fn hr b pass0 pins s σ H _ _ v u Q I rx ry ⟨p, q, d1, d2, _, _, rfl, rfl, h1, h2, p, q, r, r', rfl, hp, hq, o, o', fun H' s' => ⟨_, rfl, k H' s'⟩⟩
theorem call_repr_bl : CallR X (.builtin "repr") (fun xs H Q => ∃ b : Bool, xs = [.bl b] ∧ Q (.str (if b then "True" else "False")) H) := by
  intro pins s σ H xs us Q I r h
  obtain ⟨b, rfl, q⟩ := h
  obtain ⟨u, rfl, rv⟩ := vals1 r
  cases rv
  exact PySem.P.repr_of_bool ⟨.str _, H, I.tok _, ⟨_, rfl⟩, q⟩
/-- tool[at], a good number -/
theorem pe_getT {n : Nat} {f : Addr} {fd : FuncData} (F : FnOk X.prog X.w X.K X.mg X.base CX0 3 f fd ["self", "at"] (spGetG X.K C CT)) (hs : PySem.W.findIn X.K (.ref CT) "__getitem__" = some (some (.ref f))) (hfi : PySem.W.fnIn X.K f = true) (hf : PySem.W.isFn X.K (.ref f) = true) (hr : Room 4 X.A) (hb : Binds X.K fd ["self", "at"] [])
    {a b : Expr} {ta tb : TE} {pos : Pos} (ha : PE X a ta) (hbx : PE X b tb) (hsl : ∀ x i, subscripted b true (.ref x) i = runValue (.builtin "lifetime.subscript" ⟨[.ref x, i], []⟩) := by intros; with_unfolding_all rfl) :
    PE X (.Subscript a b pos) (fun σ H Q => ta σ H fun x H1 => clo tb σ H1 fun y H2 => ∃ (p t : Addr) (i : Nat) (xs : List V) (rs : List RD) (s : Bool) (v : V), x = .ref p ∧ y = .int i ∧ ToolX X.K C CT H2 p t xs rs s ∧ xs[i]? = some v ∧ Q v H2) := by
  refine pe_mono (pe_ixO (C := CT) (E := fun _ => E0) F hs hfi hf hr hb (fun σ => passE0) (pe_clo ha) (pe_clo hbx) hsl) fun σ H Q h => ⟨_, h, fun x H1 q => ?_⟩
  obtain ⟨R, h1, h2⟩ := q
  refine ⟨R, h1, fun y H2 hy => ?_⟩
  obtain ⟨p, t, i, xs, rs, s, v, rfl, rfl, hT, hv, k⟩ := h2 y H2 hy
  obtain ⟨dx, hp, _⟩ := id hT
  exact ⟨p, dx, _, rfl, hp, p, t, i, xs, rs, s, v, rfl, hT, hv, k⟩
/-- tool in (.., ..), none of which is a tool -/
theorem op_inTl {n : Nat} {f : Addr} {fd : FuncData} (F : FnOk X.prog X.w X.K X.mg X.base CX0 8 f fd ["self", "other"] (spEqN X.K CT)) (hs : PySem.W.findIn X.K (.ref CT) "__eq__" = some (some (.ref f))) (hf : PySem.W.isFn X.K (.ref f) = true) (nb : NoBase X.K CT) (hr : Room 9 X.A) (hb : Binds X.K fd ["self", "other"] []) :
    OpR X (compareOp .In) (fun x y H Q => ∃ (p a : Addr) (rs : List RD) (s : Bool) (ys : List V), x = .ref p ∧ y = .ref a ∧ ToolAt X.K C CT H p rs s ∧ SqT X.K H a ys ∧ (∀ v ∈ ys, Oth X.K H v) ∧ (∀ v ∈ ys, IsP X.K CT H v false) ∧ ∀ H', Same H H' → Q (.bl false) H') := by
  intro pins s σ H x y v u Q I rx ry h
  obtain ⟨p, a, rs, sb, ys, rfl, rfl, ⟨dx, t, xs, hp, _⟩, hy, ho, hn, k⟩ := h
  exact op_inNo F hs hf nb hr hb pass0 pins s σ H _ _ v u Q I rx ry ⟨p, dx, a, _, ys, rfl, rfl, hp, hy, ho, fun w hw H1 s1 => ⟨p, w, rfl, (hn w hw).same s1, rfl, Same.refl _⟩, k⟩
end
/-! ### what stays -/
theorem TupG.lset {K : PySem.W.Frag} {D : Addr} {G : Hp} {t : Addr} {xs zs : List V} {o : HO} (hD : G D = some (.lst zs)) (h : TupG K G t xs) : TupG K (upd G D o) t xs := by
  rcases h with h | h
  · exact .inl (by rw [upd_ne (ne_of h hD (fun z => nomatch z))]; exact h)
  · exact .inr h
theorem RowsAt.lset {C D : Addr} {G : Hp} {xs zs : List V} {rs : List RD} {o : HO} (hD : G D = some (.lst zs)) (h : RowsAt C G xs rs) : RowsAt C (upd G D o) xs rs := ⟨h.1, h.2.1, fun i x r hx hr => by
  obtain ⟨q2, e2, dx2, t2, d2, g1, g2, g3⟩ := h.2.2 i x r hx hr
  exact ⟨q2, e2, dx2, t2, d2, by rw [upd_ne (ne_of g1 hD (fun z => nomatch z))]; exact g1, by rw [upd_ne (ne_of g2 hD (fun z => nomatch z))]; exact g2, by rw [upd_ne (ne_of g3 hD (fun z => nomatch z))]; exact g3⟩⟩
theorem ToolX.lset {K : PySem.W.Frag} {C CT D : Addr} {G : Hp} {p t : Addr} {xs zs : List V} {rs : List RD} {s : Bool} {o : HO} (hD : G D = some (.lst zs)) (h : ToolX K C CT G p t xs rs s) : ToolX K C CT (upd G D o) p t xs rs s := by
  obtain ⟨dx, h1, h2, h3, h4⟩ := h
  exact ⟨dx, by rw [upd_ne (ne_of h1 hD (fun z => nomatch z))]; exact h1, h2.lset hD, h3.lset hD, h4⟩
theorem BoxD.ins_ne {b gr t C dx : Addr} {H : Hp} {fs : List (Str × V)} (x : BoxD H b gr) (h : H t = some (.ins C dx fs)) : t ≠ b ∧ t ≠ gr := by
  obtain ⟨⟨m, h1⟩, ns, h2, h3⟩ := x
  exact ⟨ne_of h h1 (fun z => nomatch z), ne_of h h2 (fun z => nomatch z)⟩
theorem RowsAt.k2 {C b gr : Addr} {G G' : Hp} {xs : List V} {rs : List RD} (x : BoxD G b gr) (k : K2 b gr G G') (h : RowsAt C G xs rs) : RowsAt C G' xs rs := ⟨h.1, h.2.1, fun i y r hx hr => by
  obtain ⟨q2, e2, dx2, t2, d2, g1, g2, g3⟩ := h.2.2 i y r hx hr
  exact ⟨q2, e2, dx2, t2, d2, k _ _ (x.ins_ne g1).1 (x.ins_ne g1).2 g1, k _ _ (x.tup_ne g2).1 (x.tup_ne g2).2 g2, k _ _ (x.tup_ne g3).1 (x.tup_ne g3).2 g3⟩⟩
theorem ToolX.k2 {K : PySem.W.Frag} {C CT b gr : Addr} {G G' : Hp} {p t : Addr} {xs : List V} {rs : List RD} {s : Bool} (x : BoxD G b gr) (k : K2 b gr G G') (h : ToolX K C CT G p t xs rs s) : ToolX K C CT G' p t xs rs s := by
  obtain ⟨dx, h1, h2, h3, h4⟩ := h
  refine ⟨dx, k _ _ (x.ins_ne h1).1 (x.ins_ne h1).2 h1, ?_, h3.k2 x k, h4⟩
  rcases h2 with h2 | h2
  · exact .inl (k _ _ (x.tup_ne h2).1 (x.tup_ne h2).2 h2)
  · exact .inr h2
end Lay
set_option Elab.async false
set_option linter.all false
set_option maxRecDepth 100000
set_option maxHeartbeats 8000000
namespace Lay
open PySem L2
abbrev sLaw : Stmt := top 34
def lawN : List Str := ["_law_script", "_law_base", "_law_box", "_law_told", "_law_given", "_law_kept", "_law_tool_here", "_law_at", "_law_rest", "_law_tests_here", "_law_deeds_here"]
/-- what the law wants -/
structure TxtL (mg : Str → Option Value) : Prop where
  range : mg "range" = none
  max : mg "max" = none
  min : mg "min" = none
  len : mg "len" = none
  str : mg "str" = none
  list : mg "list" = none
  tuple : mg "tuple" = none
  repr : mg "repr" = none
  isinstance : mg "isinstance" = none
theorem prs_of {H : Hp} : ∀ {ys : List V}, (∀ y ∈ ys, PairAt H y) → ∃ rs, PrsAt H ys rs
  | [], _ => ⟨[], rfl, fun r h => (List.not_mem_nil h).elim, fun i x r h _ => by cases h⟩
  | y :: ys, h => by
    obtain ⟨rs, h1, h2, h3⟩ := prs_of fun z hz => h z (List.mem_cons_of_mem _ hz)
    obtain ⟨p, t, d, ws, us, rfl, hp, ht, hd, gw, gu, lw, lu, nu⟩ := h y List.mem_cons_self
    refine ⟨⟨ws, us⟩ :: rs, by rw [List.length_cons, List.length_cons, h1], fun r hr => ?_, fun i x r hx hr => ?_⟩
    · rcases List.mem_cons.mp hr with rfl | hr
      · refine ⟨⟨fun z hz => ?_, fun z hz => ?_, lw, lu, nu, fun z hz => ?_⟩, fun z hz => ?_, fun z hz => ?_⟩
        · exact of_decide_eq_true (Bool.and_eq_true_iff.mp (Bool.and_eq_true_iff.mp (gw z hz)).2).2
        · exact of_decide_eq_true (Bool.and_eq_true_iff.mp (gu z hz)).2
        · exact (Bool.and_eq_true_iff.mp (Bool.and_eq_true_iff.mp (gw z hz)).2).1
        · exact (Bool.and_eq_true_iff.mp (gw z hz)).1
        · exact (Bool.and_eq_true_iff.mp (gu z hz)).1
      · exact h2 r hr
    · cases i with
      | zero =>
        cases hx
        cases hr
        exact ⟨p, rfl, t, d, hp, ht, hd⟩
      | succ i => exact h3 i x r hx hr
theorem PrsAt.k2 {b gr : Addr} {G G' : Hp} {ys : List V} {rs : List RD} (x : BoxD G b gr) (k : K2 b gr G G') (h : PrsAt G ys rs) : PrsAt G' ys rs := ⟨h.1, h.2.1, fun i y r h1 h2 => by
  obtain ⟨q, e, t, d, p1, p2, p3⟩ := h.2.2 i y r h1 h2
  exact ⟨q, e, t, d, k _ _ (x.tup_ne p1).1 (x.tup_ne p1).2 p1, k _ _ (x.tup_ne p2).1 (x.tup_ne p2).2 p2, k _ _ (x.tup_ne p3).1 (x.tup_ne p3).2 p3⟩⟩
theorem LawAt.k2 {b gr : Addr} {G G' : Hp} {p : Addr} {rs : List RD} {s : Bool} (x : BoxD G b gr) (k : K2 b gr G G') (h : LawAt G p rs s) : LawAt G' p rs s := by
  obtain ⟨t, xs, h1, h2, h3, h4⟩ := h
  exact ⟨t, xs, k _ _ (x.tup_ne h1).1 (x.tup_ne h1).2 h1, k _ _ (x.tup_ne h2).1 (x.tup_ne h2).2 h2, h3.k2 x k, h4⟩
theorem PrsAt.lset {D : Addr} {G : Hp} {xs zs : List V} {o : HO} {rs : List RD} (hD : G D = some (.lst zs)) (h : PrsAt G xs rs) : PrsAt (upd G D o) xs rs := ⟨h.1, h.2.1, fun i y r h1 h2 => by
  obtain ⟨q, e, t, d, p1, p2, p3⟩ := h.2.2 i y r h1 h2
  exact ⟨q, e, t, d, by rw [upd_ne (ne_of p1 hD (fun z => nomatch z))]; exact p1, by rw [upd_ne (ne_of p2 hD (fun z => nomatch z))]; exact p2, by rw [upd_ne (ne_of p3 hD (fun z => nomatch z))]; exact p3⟩⟩
theorem LawAt.lset {D : Addr} {G : Hp} {p : Addr} {rs : List RD} {s : Bool} {zs : List V} {o : HO} (hD : G D = some (.lst zs)) (h : LawAt G p rs s) : LawAt (upd G D o) p rs s := by
  obtain ⟨t, xs, h1, h2, h3, h4⟩ := h
  exact ⟨t, xs, by rw [upd_ne (ne_of h1 hD (fun z => nomatch z))]; exact h1, by rw [upd_ne (ne_of h2 hD (fun z => nomatch z))]; exact h2, h3.lset hD, h4⟩
theorem PrsAt.append {H : Hp} {xs ys : List V} {rs qs : List RD} (h : PrsAt H xs rs) (g : PrsAt H ys qs) : PrsAt H (xs ++ ys) (rs ++ qs) := by
  refine ⟨by rw [List.length_append, List.length_append, h.1, g.1], fun r hr => ?_, fun i x r hx hr => ?_⟩
  · rcases List.mem_append.mp hr with hr | hr
    · exact h.2.1 r hr
    · exact g.2.1 r hr
  · by_cases hi : i < xs.length
    · rw [List.getElem?_append_left hi] at hx
      rw [List.getElem?_append_left (by rw [← h.1]; exact hi)] at hr
      exact h.2.2 i x r hx hr
    · rw [List.getElem?_append_right (by omega)] at hx
      rw [List.getElem?_append_right (by rw [← h.1]; omega), ← h.1] at hr
      exact g.2.2 _ x r hx hr
theorem RowsAt.refs {C : Addr} {H : Hp} {xs : List V} {rs : List RD} (h : RowsAt C H xs rs) : ∀ v ∈ xs, ∃ p, v = V.ref p := fun v hv => by
  obtain ⟨i, hi⟩ := List.mem_iff_getElem?.mp hv
  have li := (List.getElem?_eq_some_iff.mp hi).1
  rw [h.1] at li
  obtain ⟨q, rfl, _⟩ := h.2.2 i v rs[i] hi (by simp [li])
  exact ⟨q, rfl⟩
theorem same_k2 {b gr : Addr} {G0 G G' : Hp} (s : Same G0 G) (k : K2 b gr G G') (nb : G0 b = none) (ng : G0 gr = none) : Same G0 G' := fun a o e => k a o (ne_of_none e nb) (ne_of_none e ng) (s a o e)
section
variable {X : Cx}
theorem sl_tupH : SlR X (fun x lo hi H Q => ∃ a xs, x = .ref a ∧ H a = some (.tup xs) ∧ ∀ p H', Same H H' → H' p = some (.tup (cutV xs lo hi)) → Q (.ref p) H') := by
  intro pins s σ H x v vl vu lo hi sl Q I rx hs pl pu h
  obtain ⟨a, xs, rfl, hx, q⟩ := h
  refine sl_tupA pins s σ H _ v vl vu lo hi sl Q I rx hs pl pu ⟨a, xs, rfl, SqT.of hx, fun w => ?_, fun _ p np => q p _ (Same.new np) upd_same⟩
  refine q a H (Same.refl H) ?_
  unfold cutV
  rw [w.1, w.2, List.drop_zero, Nat.sub_zero, List.take_length]
  exact hx
end
theorem PrsAt.take {H : Hp} {xs : List V} {rs : List RD} (n : Nat) (h : PrsAt H xs rs) : PrsAt H (xs.take n) (rs.take n) := by
  refine ⟨by rw [List.length_take, List.length_take, h.1], fun r hr => h.2.1 r (List.mem_of_mem_take hr), fun i x r hx hr => ?_⟩
  rw [List.getElem?_take] at hx hr
  split at hx
  · rename_i hi
    rw [if_pos hi] at hr
    exact h.2.2 i x r hx hr
  · cases hx
theorem PrsAt.drop {H : Hp} {xs : List V} {rs : List RD} (n : Nat) (h : PrsAt H xs rs) : PrsAt H (xs.drop n) (rs.drop n) := by
  refine ⟨by rw [List.length_drop, List.length_drop, h.1], fun r hr => h.2.1 r (List.mem_of_mem_drop hr), fun i x r hx hr => ?_⟩
  rw [List.getElem?_drop] at hx hr
  exact h.2.2 _ x r hx hr
theorem TupG.isT {K : PySem.W.Frag} {H : Hp} {a : Addr} {xs : List V} (h : TupG K H a xs) : ∃ t, TyX K H (.ref a) t ∧ PySem.W.kitOne K t (.type "tuple") = some true := by
  rcases h with h | ⟨o, its, n, h1, h2, _⟩
  · exact ⟨_, .base (.tup h), kit_ty (by decide +kernel)⟩
  · exact ⟨_, .kTuple h1 h2, kit_ty (by decide +kernel)⟩
theorem TupG.noP {K : PySem.W.Frag} {H : Hp} {a CT : Addr} {xs : List V} (h : TupG K H a xs) (e : PySem.W.kitOne K (.type "tuple") (.ref CT) = some false) : IsP K CT H (.ref a) false := by
  rcases h with h | ⟨o, its, n, h1, h2, _⟩
  · exact ⟨_, .base (.tup h), e⟩
  · exact ⟨_, .kTuple h1 h2, e⟩
theorem nilRows {C : Addr} {H : Hp} : RowsAt C H [] [] := ⟨rfl, fun r h => (List.not_mem_nil h).elim, fun i x r h _ => by cases h⟩
theorem row_one {C q : Addr} {H : Hp} {r : RD} (o : r.Ok) (h : RowAt C H q r) : RowsAt C H [.ref q] [r] := ⟨rfl, fun x hx => by
  rw [List.mem_singleton] at hx
  rw [hx]
  exact o, fun n x r' hx hr => by
  cases n with
  | zero =>
    cases hx
    cases hr
    exact ⟨q, rfl, h⟩
  | succ n => cases hx⟩
/-- what stands within a turn -/
structure F13 (K : PySem.W.Frag) (C CT b gr l q c u : Addr) (acc : List V) (rs : List RD) (sb : Bool) (G : Hp) : Prop where
  bx : BoxD G b gr
  lb : l ≠ b
  lg : l ≠ gr
  kl : G l = some (.lst acc)
  law : LawAt G q rs sb
  tl : ToolX K C CT G c u acc rs sb
theorem F13.same {K : PySem.W.Frag} {C CT b gr l q c u : Addr} {acc : List V} {rs : List RD} {sb : Bool} {G G' : Hp} (s : Same G G') (h : F13 K C CT b gr l q c u acc rs sb G) : F13 K C CT b gr l q c u acc rs sb G' :=
  ⟨h.bx.same s, h.lb, h.lg, s _ _ h.kl, h.law.same s, h.tl.same s⟩
theorem F13.k2 {K : PySem.W.Frag} {C CT b gr l q c u : Addr} {acc : List V} {rs : List RD} {sb : Bool} {G G' : Hp} (b' : BoxD G' b gr) (k : K2 b gr G G') (h : F13 K C CT b gr l q c u acc rs sb G) : F13 K C CT b gr l q c u acc rs sb G' :=
  ⟨b', h.lb, h.lg, k _ _ h.lb h.lg h.kl, h.law.k2 h.bx k, h.tl.k2 h.bx k⟩
theorem F13.lset {K : PySem.W.Frag} {C CT b gr l q c u D : Addr} {acc zs : List V} {rs : List RD} {sb : Bool} {G : Hp} {o : HO} (hD : G D = some (.lst zs)) (d1 : D ≠ b) (d2 : D ≠ gr) (dl : l ≠ D) (h : F13 K C CT b gr l q c u acc rs sb G) : F13 K C CT b gr l q c u acc rs sb (upd G D o) :=
  ⟨h.bx.put d1 d2, h.lb, h.lg, by rw [upd_ne dl]; exact h.kl, h.law.lset hD, h.tl.lset hD⟩
def spLaw (K : PySem.W.Frag) : Sp := fun vs H Q _ => ∃ (a : Addr) (ns : List Int), vs = [.ref a] ∧ SqL K H a (ns.map V.int) ∧ ns.length ≤ 63 ∧ ∀ H', Q (.bl true) H'
theorem scLaw : FnScope lawN ["_law_script"] (defScope sLaw) := ⟨rfl, rfl, rfl, by decide +kernel, rfl, by decide +kernel, by decide +kernel⟩
section
variable {P : Program} {w : World} {K : PySem.W.Frag} {mg : Str → Option Value} {base : Heap} {C CT : Addr}
theorem ok_law {f fF fT fX fK fL fW fG fE : Addr} {fx dF dT dX dK dL dW dG dE : FuncData} (F : Fun K "law" "law" sLaw f fx) (L : TxtL mg) (T : TlF P w K mg base C CT) (R : RwF P w K mg base C)
    (ok_feed : FnOk P w K mg base CX0 1 fF dF ["_law_script", "_law_base"] (spFeed K)) (g_feed : mg "_law_feed" = some (.ref fF)) (k_feed : PySem.W.keepIn K (.ref fF) = true) (b_feed : Binds K dF ["_law_script", "_law_base"] [])
    (ok_tool : FnOk P w K mg base CX0 4 fT dT ["_law_box", "_law_most"] spTool) (g_tool : mg "_law_tool" = some (.ref fT)) (k_tool : PySem.W.keepIn K (.ref fT) = true) (b_tool : Binds K dT ["_law_box", "_law_most"] [])
    (ok_take : FnOk P w K mg base CX0 1 fK dK ["_law_box", "_law_wide"] spTake) (g_take : mg "_law_take" = some (.ref fK)) (k_take : PySem.W.keepIn K (.ref fK) = true) (b_take : Binds K dK ["_law_box", "_law_wide"] [])
    (ok_tool_text : FnOk P w K mg base CX0 2 fX dX ["_law_tool_here"] spToolText) (g_tool_text : mg "_law_tool_text" = some (.ref fX)) (k_tool_text : PySem.W.keepIn K (.ref fX) = true) (b_tool_text : Binds K dX ["_law_tool_here"] [])
    (ok_lacks : FnOk P w K mg base CX0 5 fL dL ["_law_tool_here", "_law_at", "_law_is_without"] (spLacks K C CT)) (g_lacks : mg "_law_lacks" = some (.ref fL)) (k_lacks : PySem.W.keepIn K (.ref fL) = true) (b_lacks : Binds K dL ["_law_tool_here", "_law_at", "_law_is_without"] [])
    (mW : Meth K CT "without" fW) (okW : FnOk P w K mg base CX0 5 fW dW ["self", "at"] (spWithout K C CT)) (bW : Binds K dW ["self", "at"] [])
    (okG : FnOk P w K mg base CX0 3 fG dG ["self", "at"] (spGetG K C CT)) (sG : PySem.W.findIn K (.ref CT) "__getitem__" = some (some (.ref fG))) (fiG : PySem.W.fnIn K fG = true) (fG' : PySem.W.isFn K (.ref fG) = true) (bG : Binds K dG ["self", "at"] [])
    (okN : FnOk P w K mg base CX0 8 fE dE ["self", "other"] (spEqN K CT)) (sE : PySem.W.findIn K (.ref CT) "__eq__" = some (some (.ref fE))) (fE' : PySem.W.isFn K (.ref fE) = true) (nbT : NoBase K CT) (bE : Binds K dE ["self", "other"] [])
    (kits : ∀ n, n = "str" ∨ n = "tuple" ∨ n = "list" ∨ n = "NoneType" → PySem.W.kitOne K (.type n) (.ref CT) = some false) : FnOk P w K mg base CX0 10 f fx ["_law_script"] (spLaw K) := by
  refine F.ok scLaw (fun vs H Q E h => ?_) (fun cdv A outer s H vs Q E hr h => ?_)
  · obtain ⟨a, ns, rfl, _⟩ := h
    rfl
  · obtain ⟨a, ns, rfl, hs, hl, k⟩ := h
    have hr1 := hr.mono (show 1 ≤ 9 by decide)
    have hr2 := hr.mono (show 2 ≤ 9 by decide)
    have hr4 := hr.mono (show 4 ≤ 9 by decide)
    have hr5 := hr.mono (show 5 ≤ 9 by decide)
    have hr6 := hr.mono (show 6 ≤ 9 by decide)
    have hr7 := hr.mono (show 7 ≤ 9 by decide)
    have hr8 := hr.mono (show 8 ≤ 9 by decide)
    have hr9 := hr
    refine ⟨_, (pss_cons (ps_for PassesOwn.never rfl (pi_range1 (by rfl) L.range (pa_cons (pe_callB (call_max2 rfl) (by rfl) L.max (by decide +kernel) (pa_cons pe_int (pa_cons (pe_callB (call_min2 rfl) (by rfl) L.min (by decide +kernel) (pa_cons pe_int (pa_cons (pe_callB call_len_seq (by rfl) L.len (by decide +kernel) (pa_cons (pv 0) pa_nil)) pa_nil))) pa_nil))) pa_nil)) (pg_name (i := 1) scLaw.nd rfl (.inl rfl))
      (pss_cons (ps_set (i := 2) scLaw.nd rfl (.inl rfl) (pe_call ok_feed hr1 (by rfl) g_feed k_feed b_feed .nil pass0 (pa_cons (pv 0) (pa_cons (pv 1) pa_nil))))
      (pss_cons (ps_set (i := 3) scLaw.nd rfl (.inl rfl) (pe_call ok_tool hr4 (by rfl) g_tool k_tool b_tool .nil pass0 (pa_cons (pv 2) (pa_cons pe_int pa_nil))))
      (pss_cons (ps_setLc (i := 4) (own := [("_law_tests_here", 9), ("_law_deeds_here", 10)]) (tt := tYes) rfl scLaw.nd rfl rfl (sw_true rfl rfl rfl (by decide +kernel)) (pi_tup (pe_ix ix_tup (pv 3) pe_int (fun _ _ => rfl))) (blkOk_by (N := lawN) (sc := defScope sLaw) (by decide +kernel))
          (fun _ _ _ _ _ => pg_tupK (K := K) (n := 2) rfl rfl (pgs_cons (pg_name (i := 9) scLaw.nd rfl (Or.inl rfl)) (pgs_cons (pg_name (i := 10) scLaw.nd rfl (Or.inl rfl)) pgs_nil))) (fun _ _ _ _ _ => pts_nil) (fun _ _ _ _ _ => (pe_mkR R rfl hr4 (by rfl) (pa_cons (pv 9) (pa_cons (pv 10) pa_nil)))))
      (pss_cons (ps_set (i := 5) scLaw.nd rfl (.inl rfl) (pe_callTy call_list_of (by rfl) L.list (by decide +kernel) (pa_cons (pv 4) pa_nil)))
      (C8.pss_cut (ps_set (i := 6) scLaw.nd rfl (.inl rfl) (pe_mkT T rfl hr4 (by rfl) (pa_cons (pe_ifExp (pt_cmpR op_eq (pe_call ok_take hr1 (by rfl) g_take k_take b_take .nil pass0 (pa_cons (pv 2) (pa_cons pe_int pa_nil))) pe_int (nomark _)) (pv 4) (pe_callTy call_tupleX (by rfl) L.tuple (by decide +kernel) (pa_cons (pv 4) pa_nil))) (pa_cons (pe_ix ix_tup (pv 3) pe_int (fun _ _ => rfl)) pa_nil))))
      (pss_cons (ps_if (pt_cmpR (op_neSameL hr.units) (pv 4) (pv 5) (nomark _))
        (pss_one (ps_ret pe_bl))
        pss_nil)
      (pss_cons (ps_expr (pe_bm PySem.F.plainAttrs_list PySem.F.slot_list_append PySem.F.type_list_append mt_append (pv 4) (pa_cons (pe_mkR R rfl hr4 (by rfl) (pa_cons (pe_tup pa_nil) (pa_cons (pe_lst (pa_cons pe_str pa_nil)) pa_nil))) pa_nil)))
      (pss_cons (ps_if (PW.pt (pw_or (pt_not (pt_val (pe_callB call_isi (by rfl) L.isinstance (by decide +kernel) (pa_cons (pe_rowsT T (pv 6)) (pa_cons (pe_bltn (v := .ty "tuple") (by rfl) L.tuple (by decide +kernel) rfl) pa_nil))))) (pw_or (pt_cmpR (op_neSameL hr.units) (pe_callTy call_list_of (by rfl) L.list (by decide +kernel) (pa_cons (pe_rowsT T (pv 6)) pa_nil)) (pv 5) (nomark _)) (pw_or1 (pt_cmpR op_ne (pe_callB call_repr_bl (by rfl) L.repr (by decide +kernel) (pa_cons (pe_sortsT T (pv 6)) pa_nil)) (pe_callB call_repr_bl (by rfl) L.repr (by decide +kernel) (pa_cons (pe_ix ix_tup (pv 3) pe_int (fun _ _ => rfl)) pa_nil)) (nomark _))))))
        (pss_one (ps_ret pe_bl))
        pss_nil)
      (pss_cons (ps_if (PW.pt (pw_or (pt_cmpR op_ne (pe_callB (call_lenTl T hr2) (by rfl) L.len PySem.boot_len (pa_cons (pv 6) pa_nil)) (pe_callB call_len_seq (by rfl) L.len (by decide +kernel) (pa_cons (pe_ix ix_tup (pv 3) pe_int (fun _ _ => rfl)) pa_nil)) (nomark _)) (pw_or (pt_cmpR op_ne (pe_callTy (call_strTl T hr7) (by rfl) L.str (by decide +kernel) (pa_cons (pv 6) pa_nil)) (pe_call ok_tool_text hr2 (by rfl) g_tool_text k_tool_text b_tool_text .nil pass0 (pa_cons (pv 3) pa_nil)) (nomark _)) (pw_or1 (pt_cmpR (op_neTl T hr9) (pv 6) (pe_mkT T rfl hr4 (by rfl) (pa_cons (pv 5) (pa_cons (pe_ix ix_tup (pv 3) pe_int (fun _ _ => rfl)) pa_nil))) (nomark _))))))
        (pss_one (ps_ret pe_bl))
        pss_nil)
      (pss_cons (ps_for PassesOwn.never rfl (pi_range1 (by rfl) L.range (pa_cons (pe_callB call_len_seq (by rfl) L.len (by decide +kernel) (pa_cons (pv 5) pa_nil)) pa_nil)) (pg_name (i := 7) scLaw.nd rfl (.inl rfl))
        (pss_cons (ps_set (i := 8) scLaw.nd rfl (.inl rfl) (pe_tup (pa_cons (pe_op op_catH (pe_slice sl_tupH (pe_ix ix_tup (pv 3) pe_int (fun _ _ => rfl)) po_none (po_some (pv 7))) (pe_slice sl_tupH (pe_ix ix_tup (pv 3) pe_int (fun _ _ => rfl)) (po_some (pe_op op_add (pv 7) pe_int)) po_none)) (pa_cons (pe_ix ix_tup (pv 3) pe_int (fun _ _ => rfl)) pa_nil))))
        (pss_one (ps_if (PW.pt (pw_or (pt_cmpR (op_neRw R hr6) (pe_getT (n := 0) okG sG fiG fG' hr4 bG (pv 6) (pv 7)) (pe_ix ix_list (pv 5) (pv 7) (fun _ _ => rfl)) (nomark _)) (pw_or (pt_cmpR op_ne (pe_callTy (call_strTl T hr7) (by rfl) L.str (by decide +kernel) (pa_cons (pe_meth (pv 6) T.Z.cl mW okW hr5 bW .nil pass0 (pa_cons (pv 7) pa_nil)) pa_nil)) (pe_call ok_tool_text hr2 (by rfl) g_tool_text k_tool_text b_tool_text .nil pass0 (pa_cons (pv 8) pa_nil)) (nomark _)) (pw_or1 (pt_cmpR (op_eqTl T hr8) (pe_meth (pv 6) T.Z.cl mW okW hr5 bW .nil pass0 (pa_cons (pv 7) pa_nil)) (pv 6) (nomark _))))))
          (pss_one (ps_ret pe_bl))
          pss_nil))))
      (pss_cons (ps_for PassesOwn.never rfl (pi_tup (pe_tup (pa_cons (pe_callB call_len_seq (by rfl) L.len (by decide +kernel) (pa_cons (pv 5) pa_nil)) (pa_cons (pe_op op_sub pe_int pe_int) (pa_cons (pe_op op_add (pe_callB call_len_seq (by rfl) L.len (by decide +kernel) (pa_cons (pv 5) pa_nil)) (pe_call ok_take hr1 (by rfl) g_take k_take b_take .nil pass0 (pa_cons (pv 2) (pa_cons (pe_op op_pow pe_int pe_int) pa_nil)))) (pa_cons (pe_op op_sub (pe_op op_sub pe_int (pe_callB call_len_seq (by rfl) L.len (by decide +kernel) (pa_cons (pv 5) pa_nil))) pe_int) pa_nil)))))) (pg_name (i := 7) scLaw.nd rfl (.inl rfl))
        (pss_one (ps_if (PW.pt (pw_or (pt_not (pt_val (pe_call ok_lacks hr5 (by rfl) g_lacks k_lacks b_lacks .nil pass0 (pa_cons (pv 6) (pa_cons (pv 7) (pa_cons pe_bl pa_nil)))))) (pw_or1 (pt_not (pt_val (pe_call ok_lacks hr5 (by rfl) g_lacks k_lacks b_lacks .nil pass0 (pa_cons (pv 6) (pa_cons (pv 7) (pa_cons pe_bl pa_nil)))))))))
          (pss_one (ps_ret pe_bl))
          pss_nil)))
      (pss_cons (ps_if (PW.pt (pw_or (pt_cmpR (op_inTl (C := C) (n := 0) okN sE fE' nbT hr9 bE) (pv 6) (pe_tup (pa_cons (pe_callTy (call_strTl T hr7) (by rfl) L.str (by decide +kernel) (pa_cons (pv 6) pa_nil)) (pa_cons (pe_rowsT T (pv 6)) (pa_cons pe_non (pa_cons (pv 5) pa_nil))))) (by rfl)) (pw_or1 (pt_cmpR (op_eqTl T hr8) (pv 6) (pe_mkT T rfl hr4 (by rfl) (pa_cons (pv 5) (pa_cons (pe_not (pe_ix ix_tup (pv 3) pe_int (fun _ _ => rfl))) pa_nil))) (nomark _)))))
        (pss_one (ps_ret pe_bl))
        pss_nil)
      (pss_one (ps_if (PW.pt (pw_and (pt_not (pt_val (pe_sortsT T (pv 6)))) (pw_and1 (pt_cmpR (op_neTl T hr9) (pe_mkT1 T rfl hr4 (by rfl) (pa_cons (pv 5) pa_nil)) (pv 6) (nomark _)))))
        (pss_one (ps_ret pe_bl))
        pss_nil)))))))))))))))
    (pss_one (ps_ret (pe_and (pe_cmpR op_eq (pe_callTy (call_strTl T hr7) (by rfl) L.str (by decide +kernel) (pa_cons (pe_mkT0 T rfl hr4 (by rfl)) pa_nil)) pe_str (nomark _)) (pe_and (pe_cmpR (op_eqD hr.units) (pe_rowsT T (pe_mkT0 T rfl hr4 (by rfl))) (pe_tup pa_nil) (nomark _)) (pe_and (pe_cmpR op_isBl (pe_sortsT T (pe_mkT0 T rfl hr4 (by rfl))) pe_bl (nomark _)) (pe_one (pe_cmpR (op_neTl T hr9) (pe_mkT T rfl hr4 (by rfl) (pa_cons (pe_lst pa_nil) (pa_cons pe_bl pa_nil))) (pe_mkT1 T rfl hr4 (by rfl) (pa_cons (pe_tup pa_nil) pa_nil)) (nomark _))))))))), ?_⟩
    have hmap : (ns.map V.int).length = ns.length := List.length_map ..
    refine ⟨_, rfl, a, _, rfl, .inl hs, _, _, rfl, _, _, rfl, _, rfl, ?_, ?_, for_range (lo := 0) (n := Int.toNat _) (fun i σ G => ∃ x1 x2 x3 x4 x5 x6 x7 x8 x9 x10 : Option V, σ = [some (.ref a), x1, x2, x3, x4, x5, x6, x7, x8, x9, x10] ∧ Same H G)
      ⟨none, none, none, none, none, none, none, none, none, none, rfl, Same.refl H⟩ ?_ ?_⟩
    · split <;> split <;> omega
    · split <;> split <;> omega
    · rintro i σ G0 hi ⟨x1, x2, x3, x4, x5, x6, x7, x8, x9, x10, rfl, sG⟩
      have hi3 : i ≤ 2 := by
        revert hi
        split <;> split <;> omega
      refine ⟨_, rfl, _, rfl, a, ns, 0 + (i : Int), rfl, sG.seq hs, by omega, by omega, by omega, fun b gr G1 s1 nb ng b1 => ?_⟩
      refine ⟨_, rfl, b, gr, 10, rfl, b1, by decide, by decide, fun q r0 sb ys G2 k2 b2 hq hr0 ly hy => ?_⟩
      have s2 : Same G0 G2 := same_k2 s1 k2 nb ng
      obtain ⟨rs, hrs⟩ := prs_of hy
      have lr : rs.length ≤ 10 := by rw [← hrs.1]; omega
      have lw : LawAt G2 q rs sb := ⟨r0, ys, hq, hr0, hrs, by omega⟩
      -- the rows
      refine ⟨_, rfl, q, _, 0, .ref r0, rfl, rfl, SqT.of hq, rfl, r0, rfl, ⟨_, SqT.of hr0⟩, fun D nD => lc_tup (K := K) (a := r0) (xs := ys) (fun n G' => ∃ acc, Same G2 G' ∧ G' D = some (.lst acc) ∧ RowsAt C G' acc (rs.take n))
        ⟨[], Same.new nD, upd_same, rfl, fun r h => by rw [List.take_zero] at h; exact (List.not_mem_nil h).elim, fun i x r h _ => by cases h⟩ (fun n G' _ z => by
          obtain ⟨acc, z, _⟩ := z
          exact SqT.of (z _ _ hr0)) ?_ ?_⟩
      · rintro n x G' hx ⟨acc, sG', hD, ra⟩
        have ln := (List.getElem?_eq_some_iff.mp hx).1
        rw [hrs.1] at ln
        have er : rs[n]? = some rs[n] := by simp [ln]
        obtain ⟨p, rfl, t, d, hp, ht, hd⟩ := (hrs.same sG').2.2 n x _ hx er
        obtain ⟨o, gt, gd⟩ := hrs.2.1 _ (List.getElem_mem ln)
        have la : acc.length = n := by rw [ra.1, List.length_take]; omega
        refine ⟨p, _, rfl, SqT.of hp, rfl, _, _, rfl, _, _, rfl, rfl, rfl, _, rfl, _, rfl, t, d, rs[n], rfl, .inr ht, .inr hd, o, gt, gd, fun y G4 s4 n4 hy4 => ⟨acc, s4 _ _ hD, by rw [la]; exact small1000 (by omega), acc ++ [.ref y], fun z u e => ?_, upd_same, ?_⟩⟩
        · rw [upd_ne (ne_of_none e nD)]
          exact s4 _ _ (sG' _ _ e)
        · rw [List.take_succ, er]
          exact ((ra.same s4).append (row_one o hy4)).lset (s4 _ _ hD)
      · rintro G3 ⟨acc, s3, hD, ra⟩
        rw [hrs.1, List.take_length] at ra
        have lacc : acc.length ≤ 10 := by rw [ra.1]; exact lr
        have b3 := b2.same s3
        have Db := b2.fresh nD
        refine ⟨_, rfl, D, acc, rfl, .inl (SqL.of hD), fun l nl => ?_⟩
        have sl := Same.new nl (o := .lst acc)
        have lb := b3.fresh nl
        have lD : l ≠ D := fun e => by rw [e, hD] at nl; cases nl
        have hl4 : upd G3 l (.lst acc) l = some (.lst acc) := upd_same
        have hD4 := sl _ _ hD
        have b4 := b3.same sl
        have lw4 := (lw.same s3).same sl
        have ra4 := ra.same sl
        have s04 : Same G0 (upd G3 l (.lst acc)) := (s2.trans s3).trans sl
        generalize upd G3 l (.lst acc) = G4 at *
        -- the tool
        refine ⟨fun σ' G' => ∃ c u, σ' = [some (.ref a), some (.int (0 + (i : Int))), some (.ref b), some (.ref q), some (.ref D), some (.ref l), some (.ref c), x7, x8, x9, x10] ∧ Same G0 G' ∧ G' D = some (.lst acc) ∧ F13 K C CT b gr l q c u acc rs sb G', ?_, ?_⟩
        · refine ⟨_, rfl, b, gr, 2, rfl, b4, by decide, by decide, fun r G5 r1 r2 b5 k5 => ⟨rfl, _, rfl, ?_⟩⟩
          have s05 : Same G0 G5 := same_k2 s04 k5 nb ng
          have hD5 := k5 _ _ Db.1 Db.2 hD4
          have hl5 := k5 _ _ lb.1 lb.2 hl4
          have lw5 := lw4.k2 b4 k5
          have ra5 := ra4.k2 b4 k5
          obtain ⟨r9, y9, hq5, hr5', _⟩ := id lw5
          refine ite2 (fun _ => ?_) (fun _ => ?_)
          · refine ⟨_, rfl, _, rfl, q, _, 1, .bl sb, rfl, rfl, SqT.of hq5, rfl, D, acc, rs, sb, rfl, .inl hD5, ra5, by omega, fun c u G6 s6 n6 h6 => ⟨c, u, rfl, s05.trans s6, s6 _ _ hD5, b5.same s6, lb.1, lb.2, s6 _ _ hl5, lw5.same s6, h6⟩⟩
          · refine ⟨_, rfl, D, acc, rfl, .inl hD5, fun t G6 s6 h6 => ⟨_, rfl, q, _, 1, .bl sb, rfl, rfl, SqT.of (s6 _ _ hq5), rfl, t, acc, rs, sb, rfl, .inr (.inl h6), ra5.same s6, by omega, fun c u G7 s7 n7 h7 => ⟨c, u, rfl, (s05.trans s6).trans s7, s7 _ _ (s6 _ _ hD5), (b5.same s6).same s7, lb.1, lb.2, s7 _ _ (s6 _ _ hl5), (lw5.same s6).same s7, h7⟩⟩⟩
        · rintro σ' G5 ⟨c, u, rfl, s05, hD5, f5⟩
          have refs : ∀ v ∈ acc, ∃ p, v = V.ref p := ra.refs
          clear hD hD4 lw lw4 ra4 hl4 b4 b3 s3 sl hq hr0 hy hrs
          refine ⟨_, rfl, _, rfl, D, l, acc, rfl, rfl, SqL.of hD5, SqL.of f5.kl, refs, _, rfl, iteN rfl ?_⟩
          -- one more row
          refine ⟨_, rfl, .inl ⟨rfl, _, SqL.of hD5⟩, (by show 0 ≤ sizeLine; exact Nat.zero_le _), fun e1 n1 => ⟨(by show 1 ≤ sizeLine; decide), fun e2 n2 => ?_⟩⟩
          have u1 := Same.new n1 (o := .tup [])
          have u2 := Same.new n2 (o := .lst [.str "close"])
          refine ⟨e1, e2, ⟨[], ["close"]⟩, rfl, .inr (u2 _ _ upd_same), .inl upd_same, ⟨fun z h => (List.not_mem_nil h).elim, fun z h => ?_, Nat.zero_le _, by decide, by decide, fun z h => (List.not_mem_nil h).elim⟩, fun z h => (List.not_mem_nil h).elim, fun z h => ?_, fun y6 G6 s6 n6 h6 => ?_⟩
          · rw [List.mem_singleton] at h
            rw [h]
            decide
          · rw [List.mem_singleton] at h
            rw [h]
            decide +kernel
          have s56 := (u1.trans u2).trans s6
          have hD6 := s56 _ _ hD5
          refine ⟨D, _, _, rfl, rfl, hD6, small1000 (by omega), ?_⟩
          have f7 := (f5.same s56).lset (o := .lst (acc ++ [.ref y6])) hD6 Db.1 Db.2 lD
          have s07 : Same G0 (upd G6 D (.lst (acc ++ [.ref y6]))) := fun z o e => by
            rw [upd_ne (fun q => by
              rw [q] at e
              have := s2 _ _ e
              rw [nD] at this
              cases this)]
            exact s56 _ _ (s05 _ _ e)
          generalize upd G6 D (.lst (acc ++ [.ref y6])) = G7 at *
          clear hD6 u1 u2 n1 n2 s6 n6 h6 s56
          have tl := f7.tl
          have kl := f7.kl
          obtain ⟨R7a, R7b⟩ : TupG K G7 u acc ∧ RowsAt C G7 acc rs := by
            obtain ⟨_, _, q1, q2, _⟩ := id tl
            exact ⟨q1, q2⟩
          obtain ⟨r7, ys7, hq7, hr7, hrs7, _⟩ := id f7.law
          obtain ⟨tt, ty, et⟩ := R7a.isT
          -- what it holds
          refine ⟨_, rfl, c, u, acc, rs, sb, rfl, tl, _, _, tt, _, true, rfl, .ty _, ty, et, _, rfl, iteN rfl ?_⟩
          refine ⟨_, rfl, c, u, acc, rs, sb, rfl, tl, u, acc, rfl, .inr R7a.sqT, fun l8 n8 => ?_⟩
          have s8 := Same.new n8 (o := .lst acc)
          refine ⟨_, rfl, l8, l, acc, rfl, rfl, SqL.of upd_same, SqL.of (s8 _ _ kl), refs, _, rfl, iteN rfl ?_⟩
          refine ⟨_, rfl, c, rs, sb, rfl, (tl.same s8).at, sb, rfl, _, rfl, q, _, 1, .bl sb, rfl, rfl, SqT.of (s8 _ _ hq7), rfl, sb, rfl, rfl, _, rfl, iteN (by simp) ?_⟩
          -- length, text, made again
          refine ⟨_, rfl, c, rs, sb, rfl, (tl.same s8).at, _, rfl, q, _, 0, .ref r7, rfl, rfl, SqT.of (s8 _ _ hq7), rfl, r7, _, rfl, .inr (SqT.of (s8 _ _ hr7)), rfl, _, rfl, iteN (by rw [hrs7.1]; simp) ?_⟩
          refine ⟨_, rfl, c, rs, sb, rfl, (tl.same s8).at, fun G9 s9 => ⟨_, rfl, q, _, _, rfl, (f7.law.same s8).same s9, fun G10 s10 => ⟨rfl, _, rfl, iteN (by simp) ?_⟩⟩⟩
          have s710 := (s8.trans s9).trans s10
          refine ⟨_, rfl, _, rfl, _, rfl, q, _, 1, .bl sb, rfl, rfl, SqT.of (s710 _ _ hq7), rfl, l, acc, rs, sb, rfl, .inl (s710 _ _ kl), R7b.same s710, by omega, fun c11 u11 G11 s11 n11 h11 => ⟨c, c11, _, _, _, _, rfl, rfl, ((tl.same s710).same s11).at, h11.at, fun G12 s12 => ⟨_, rfl, iteN (by simp) ?_⟩⟩⟩
          have s712 := (s710.trans s11).trans s12
          have f12 := f7.same s712
          have s012 := s07.trans s712
          have R12 := R7b.same s712
          have hq12 := s712 _ _ hq7
          have hr12 := s712 _ _ hr7
          have hrs12 := hrs7.same s712
          clear h11 ty et R7b hq7 hr7 hrs7
          have la : acc.length = rs.length := R12.1
          -- each row
          refine ⟨_, rfl, l, acc, rfl, .inl (SqL.of f12.kl), acc.length, rfl, by omega, by omega, for_range (lo := 0) (n := acc.length) (fun j σ G' => ∃ x7 x8 : Option V, σ = [some (.ref a), some (.int (0 + (i : Int))), some (.ref b), some (.ref q), some (.ref D), some (.ref l), some (.ref c), x7, x8, x9, x10] ∧ Same G12 G')
            ⟨_, _, rfl, Same.refl _⟩ ?_ ?_⟩
          · rintro j σ G' hj ⟨x7, x8, rfl, sG'⟩
            have f' := f12.same sG'
            have hq' := sG' _ _ hq12
            have hr' := sG' _ _ hr12
            have e0 : (0 : Int) + (j : Int) = j := by omega
            refine ⟨_, rfl, q, _, 0, .ref r7, rfl, rfl, SqT.of hq', rfl, _, rfl, _, rfl, r7, ys7, rfl, hr', fun p1 G1' s1' h1' => ?_⟩
            refine ⟨_, rfl, q, _, 0, .ref r7, rfl, rfl, SqT.of (s1' _ _ hq'), rfl, _, rfl, _, _, rfl, rfl, _, rfl, r7, ys7, rfl, s1' _ _ hr', fun p2 G2' s2' h2' => ?_⟩
            rw [e0, take_none] at h1'
            rw [e0, show ((j : Int) + 1) = ((j + 1 : Nat) : Int) from rfl, drop_none] at h2'
            have s12' := s1'.trans s2'
            refine ⟨p1, p2, _, _, rfl, rfl, s2' _ _ h1', h2', by rw [List.length_take, List.length_drop, hrs12.1]; omega, fun p3 G3' s3' h3' => ?_⟩
            have s13' := s12'.trans s3'
            refine ⟨_, rfl, q, _, 1, .bl sb, rfl, rfl, SqT.of (s13' _ _ hq'), rfl, (by show 2 ≤ sizeLine; decide), fun z nz => ?_⟩
            have s4' := Same.new nz (o := .tup [.ref p3, .bl sb])
            have due : LawAt (upd G3' z (.tup [.ref p3, .bl sb])) z (rs.take j ++ rs.drop (j + 1)) sb := ⟨p3, _, upd_same, s4' _ _ h3', ((((hrs12.same sG').take j).append ((hrs12.same sG').drop (j + 1))).same s13').same s4', by rw [List.length_append, List.length_take, List.length_drop]; omega⟩
            have s14' := s13'.trans s4'
            generalize upd G3' z (.tup [.ref p3, .bl sb]) = G4' at *
            have f4 := f'.same s14'
            have hjr : j < rs.length := by omega
            obtain ⟨y, hy, hrow⟩ := (R12.same (sG'.trans s14')).2.2 j acc[j] rs[j] (by simp [hj]) (by simp [hjr])
            have hv : acc[j]? = some (V.ref y) := by rw [← hy]; simp [hj]
            have ok' := R12.2.1 _ (List.getElem_mem hjr)
            refine ⟨_, rfl, _, ⟨_, rfl, c, u, j, acc, rs, sb, .ref y, rfl, by rw [e0], f4.tl, hv, ?_⟩, fun _ _ q => q⟩
            refine ⟨_, rfl, _, rfl, l, acc, _, .ref y, rfl, rfl, SqL.of f4.kl, by rw [e0]; exact atI_nat hv, y, y, _, _, rfl, rfl, hrow, hrow, ok', ok', fun G5' s5' => ⟨_, rfl, iteN (by simp) ?_⟩⟩
            have f5' := f4.same s5'
            obtain ⟨dxc, hcc, _⟩ := id f5'.tl
            refine ⟨_, rfl, c, dxc, _, rfl, hcc, rfl, _, rfl, c, j, rs, sb, by rw [e0]; rfl, f5'.tl.at, hjr, fun c6 G6' s6' n6' h6' => ⟨c6, _, _, rfl, h6', fun G7' s7' => ⟨_, rfl, z, _, _, rfl, ((due.same s5').same s6').same s7', fun G8' s8' => ⟨rfl, _, rfl, iteN (by simp) ?_⟩⟩⟩⟩
            have s58 := (s6'.trans s7').trans s8'
            have f8 := f5'.same s58
            obtain ⟨dxc, hcc, _⟩ := id f8.tl
            refine ⟨_, rfl, c, dxc, _, rfl, hcc, rfl, _, rfl, c, j, rs, sb, by rw [e0]; rfl, f8.tl.at, hjr, fun c9 G9' s9' n9' h9' => ⟨_, rfl, c9, c, _, _, _, _, rfl, rfl, h9', (f8.tl.same s9').at, fun G10' s10' => ⟨_, rfl, iteN (decide_eq_false fun e => text_less hjr (V.str.inj e)) ?_⟩⟩⟩
            exact ⟨_, _, rfl, sG'.trans (s14'.trans (s5'.trans (s58.trans (s9'.trans s10'))))⟩
          · rintro σ G13 ⟨x7, x8, rfl, s13⟩
            have f13 := f12.same s13
            have s013 := s012.trans s13
            have tl13 := f13.tl
            obtain ⟨R13a, R13b⟩ : TupG K G13 u acc ∧ RowsAt C G13 acc rs := by
              obtain ⟨_, _, q1, q2, _⟩ := id tl13
              exact ⟨q1, q2⟩
            -- numbers of no row
            refine ⟨_, rfl, l, acc, rfl, .inl (SqL.of f13.kl), _, _, rfl, rfl, _, rfl, l, acc, rfl, .inl (SqL.of f13.kl), _, rfl, _, _, rfl, rfl, ⟨by decide, by decide, by decide⟩, b, gr, _, rfl, f13.bx, by decide, by decide, fun r14 G14 r14a r14b b14 k14 => ⟨_, _, rfl, rfl, _, rfl, l, acc, rfl, .inl (SqL.of (k14 _ _ f13.lb f13.lg f13.kl)), _, _, rfl, rfl, _, _, rfl, rfl, (by show 4 ≤ sizeLine; decide), fun t14 nt14 => ?_⟩⟩
            have f14 := (f13.k2 b14 k14)
            have s014 : Same G0 G14 := same_k2 s013 k14 nb ng
            have st14 := Same.new nt14 (o := .tup [.int acc.length, .int (0 - 1), .int (acc.length + r14), .int (0 - acc.length - 1)])
            have r14c : r14 < 1000000000 := r14b
            refine ⟨t14, rfl, ⟨_, SqT.of upd_same⟩, for_tup (xs := [.int acc.length, .int (0 - 1), .int (acc.length + r14), .int (0 - acc.length - 1)]) (fun j σ G' => ∃ x7 : Option V, σ = [some (.ref a), some (.int (0 + (i : Int))), some (.ref b), some (.ref q), some (.ref D), some (.ref l), some (.ref c), x7, x8, x9, x10] ∧ Same (upd G14 t14 (.tup [.int acc.length, .int (0 - 1), .int (acc.length + r14), .int (0 - acc.length - 1)])) G')
              ⟨_, rfl, Same.refl _⟩ (fun j σ G' _ z => by
                obtain ⟨_, _, z⟩ := z
                exact SqT.of (z _ _ upd_same)) ?_ ?_⟩
            · rintro j x σ G' hj ⟨x7, rfl, sG'⟩
              obtain ⟨m, rfl, hm, hb⟩ : ∃ m : Int, x = .int m ∧ (m < 0 ∨ (rs.length : Int) ≤ m) ∧ m.natAbs < 2 ^ 40 := by
                have hmem := List.mem_of_getElem? hj
                simp only [List.mem_cons, List.not_mem_nil, or_false] at hmem
                rcases hmem with rfl | rfl | rfl | rfl
                · exact ⟨_, rfl, by omega, by omega⟩
                · exact ⟨_, rfl, by omega, by omega⟩
                · exact ⟨_, rfl, by omega, by omega⟩
                · exact ⟨_, rfl, by omega, by omega⟩
              have fG := (f14.same st14).same sG'
              refine ⟨_, rfl, _, rfl, c, m, true, rs, sb, rfl, fG.tl.at, hm, hb, fun G1' s1' => ⟨_, rfl, iteN rfl ?_⟩⟩
              refine ⟨_, rfl, _, rfl, c, m, false, rs, sb, rfl, (fG.tl.same s1').at, hm, hb, fun G2' s2' => ⟨_, rfl, iteN rfl ?_⟩⟩
              exact ⟨_, rfl, (sG'.trans s1').trans s2'⟩
            · rintro σ G15 ⟨x7, rfl, s15⟩
              have f15 := (f14.same st14).same s15
              have s015 := (s014.trans st14).trans s15
              have tl15 := f15.tl
              obtain ⟨R15a, R15b⟩ : TupG K G15 u acc ∧ RowsAt C G15 acc rs := by
                obtain ⟨_, _, q1, q2, _⟩ := id tl15
                exact ⟨q1, q2⟩
              obtain ⟨r15, ys15, hq15, hr15, hrs15, _⟩ := id f15.law
              -- in none of these
              refine ⟨_, rfl, _, rfl, c, _, _, rfl, tl15.at, fun G16 s16 => ⟨_, rfl, c, u, acc, rs, sb, rfl, tl15.same s16, _, rfl, (by show 4 ≤ sizeLine; decide), fun t16 nt16 => ?_⟩⟩
              have s17 := Same.new nt16 (o := .tup [.str (toolText rs sb), .ref u, .non, .ref l])
              have s1517 := s16.trans s17
              refine ⟨c, t16, rs, sb, _, rfl, rfl, (tl15.same s1517).at, SqT.of upd_same, fun v hv => ?_, fun v hv => ?_, fun G18 s18 => ⟨_, rfl, iteN rfl ?_⟩⟩
              · simp only [List.mem_cons, List.not_mem_nil, or_false] at hv
                rcases hv with rfl | rfl | rfl | rfl
                · exact .inl ⟨_, rfl⟩
                · exact .inr (.inr (.inl ⟨_, _, rfl, (R15a.same s1517).sqT⟩))
                · exact .inr (.inl rfl)
                · exact .inr (.inr (.inr ⟨_, _, rfl, SqL.of (s1517 _ _ f15.kl)⟩))
              · simp only [List.mem_cons, List.not_mem_nil, or_false] at hv
                rcases hv with rfl | rfl | rfl | rfl
                · exact ⟨_, .base (.str _), kits _ (.inl rfl)⟩
                · exact (R15a.same s1517).noP (kits _ (.inr (.inl rfl)))
                · exact ⟨_, .base .non, kits _ (.inr (.inr (.inr rfl)))⟩
                · exact ⟨_, .base (.lst (s1517 _ _ f15.kl)), kits _ (.inr (.inr (.inl rfl)))⟩
              have s1518 := s1517.trans s18
              refine ⟨_, rfl, _, rfl, _, rfl, q, _, 1, .bl sb, rfl, rfl, SqT.of (s1518 _ _ hq15), rfl, _, rfl, l, acc, rs, !sb, rfl, .inl (s1518 _ _ f15.kl), R15b.same s1518, by omega, fun c19 u19 G19 s19 n19 h19 => ⟨c, c19, _, _, _, _, rfl, rfl, ((tl15.same s1518).same s19).at, h19.at, fun G20 s20 => ⟨_, rfl, iteN (decide_eq_false fun e => text_sorts rs sb (V.str.inj e)) ?_⟩⟩⟩
              have s1520 := (s1518.trans s19).trans s20
              refine ⟨_, rfl, c, rs, sb, rfl, (tl15.same s1520).at, _, rfl, ?_⟩
              have last : ∀ G21, Same G15 G21 → ∃ x1 x2 x3 x4 x5 x6 x7' x8' x9' x10' : Option V, [some (V.ref a), some (V.int (0 + (i : Int))), some (V.ref b), some (V.ref q), some (V.ref D), some (V.ref l), some (V.ref c), x7, x8, x9, x10] = [some (V.ref a), x1, x2, x3, x4, x5, x6, x7', x8', x9', x10'] ∧ Same H G21 := fun G21 s21 => ⟨_, _, _, _, _, _, _, _, _, _, rfl, sG.trans (s015.trans s21)⟩
              cases sb with
              | true => exact iteN rfl (last _ s1520)
              | false =>
                refine iteY rfl ⟨_, rfl, l, acc, rs, rfl, .inl (s1520 _ _ f15.kl), R15b.same s1520, by omega, fun c21 u21 G21 s21 n21 h21 => ⟨_, rfl, c21, c, _, _, _, _, rfl, rfl, h21.at, ((tl15.same s1520).same s21).at, fun G22 s22 => ⟨_, rfl, iteN (by simp) ?_⟩⟩⟩
                exact last _ ((s1520.trans s21).trans s22)
    · rintro σ G ⟨x1, x2, x3, x4, x5, x6, x7, x8, x9, x10, rfl, sG⟩
      refine fun c1 u1 G1 s1 n1 h1 => ⟨c1, _, _, rfl, h1.at, fun G2 s2 => ⟨rfl, _, rfl, iteY (by decide +kernel) ?_⟩⟩
      refine fun c2 u2 G3 s3 n3 h3 => ⟨c2, u2, [], [], false, rfl, h3, (by show 0 ≤ sizeLine; exact Nat.zero_le _), fun e4 n4 => ?_⟩
      have s4 := Same.new n4 (o := .tup [])
      have R3 : TupG K G3 u2 [] := by
        obtain ⟨_, _, q, _⟩ := h3
        exact q
      refine ⟨.tuple [], .tuple [], .tup (R3.same s4).sqT .nil, .tup (SqT.of upd_same) .nil, rfl, rfl, _, rfl, iteY rfl ?_⟩
      refine fun c5 u5 G5 s5 n5 h5 => ⟨c5, _, _, rfl, h5.at, false, false, rfl, rfl, _, rfl, iteY rfl ?_⟩
      refine ⟨(by show 0 ≤ sizeLine; exact Nat.zero_le _), fun e6 n6 => ⟨e6, [], [], true, rfl, .inl upd_same, nilRows, Nat.zero_le _, fun c7 u7 G7 s7 n7 h7 => ⟨(by show 0 ≤ sizeLine; exact Nat.zero_le _), fun e8 n8 => ?_⟩⟩⟩
      have s8 := Same.new n8 (o := .tup [])
      refine ⟨e8, [], [], rfl, .inr (.inl upd_same), nilRows, Nat.zero_le _, fun c9 u9 G9 s9 n9 h9 => ⟨c7, c9, _, _, _, _, rfl, rfl, ((h7.same s8).same s9).at, h9.at, fun G10 s10 => ?_⟩⟩
      have ne : V.str (toolText [] true) ≠ V.str (toolText [] false) := fun e => text_sorts [] true (V.str.inj e)
      rw [decide_eq_false ne]
      exact k _
end
end Lay
set_option Elab.async false
set_option linter.all false
set_option maxRecDepth 100000
set_option maxHeartbeats 8000000
namespace Lay
open PySem L2

theorem kit_cls {K : PySem.W.Frag} {C : Addr} {t : Value} {b : Bool} (hd : PySem.W.hasDictIn K C = true) (ty : PySem.W.typeIn K (.ref C) = some (.type "type")) (s : PySem.W.subIn K t (.ref C) = some b) (e : t = .ref C → b = true) : PySem.W.kitOne K t (.ref C) = some b := by
  unfold PySem.W.kitOne
  by_cases h : (t == Value.ref C) = true
  · rw [if_pos h, e (beq_iff_eq.mp h)]
  · rw [if_neg h]
    obtain ⟨cd, hc, _⟩ := PySem.W.any_some hd
    unfold PySem.W.kitCls
    dsimp only
    rw [if_pos (by rw [hc, ty]; rfl)]
    exact s
theorem kit_type {K : PySem.W.Frag} {C : Addr} {n : String} {b : Bool} (hm : PySem.W.kitMeta n = true) (s : PySem.W.subIn K (.ref C) (.type n) = some b) : PySem.W.kitOne K (.ref C) (.type n) = some b := by
  unfold PySem.W.kitOne
  rw [if_neg (fun h => by have q := beq_iff_eq.mp h; cases q)]
  unfold PySem.W.kitCls
  dsimp only
  rw [if_pos hm]
  exact s
theorem np_none {C : Addr} : (PySem.fastBuiltinMro "NoneType").map (·.contains (Value.ref C)) = some false := by
  have e : PySem.fastBuiltinMro "NoneType" = some [.type "NoneType", .type "object"] := by decide +kernel
  rw [e]
  rfl
theorem np_int {C : Addr} : (PySem.fastBuiltinMro "int").map (·.contains (Value.ref C)) = some false := by
  have e : PySem.fastBuiltinMro "int" = some [.type "int", .type "object"] := by decide +kernel
  rw [e]
  rfl
theorem np_bool {C : Addr} : (PySem.fastBuiltinMro "bool").map (·.contains (Value.ref C)) = some false := by
  have e : PySem.fastBuiltinMro "bool" = some [.type "bool", .type "int", .type "object"] := by decide +kernel
  rw [e]
  rfl
theorem np_str {C : Addr} : (PySem.fastBuiltinMro "str").map (·.contains (Value.ref C)) = some false := by
  have e : PySem.fastBuiltinMro "str" = some [.type "str", .type "object"] := by decide +kernel
  rw [e]
  rfl
theorem np_list {C : Addr} : (PySem.fastBuiltinMro "list").map (·.contains (Value.ref C)) = some false := by
  have e : PySem.fastBuiltinMro "list" = some [.type "list", .type "object"] := by decide +kernel
  rw [e]
  rfl
theorem np_tuple {C : Addr} : (PySem.fastBuiltinMro "tuple").map (·.contains (Value.ref C)) = some false := by
  have e : PySem.fastBuiltinMro "tuple" = some [.type "tuple", .type "object"] := by decide +kernel
  rw [e]
  rfl

theorem refs_ok (L : Addr) : PySem.HandSPX.refsVE [.ref L, .type "ValueError", .type "Exception", .type "BaseException", .type "object"] = true := by
  show PySem.HandSPX.refsVE [.type "ValueError", .type "Exception", .type "BaseException", .type "object"] = true
  decide +kernel

theorem binds_row {K : PySem.W.Frag} {f e1 e2 : Addr} {fd : FuncData} (F : FunD K "__init__" "Row.__init__" (defArgs sRowI) (defBody sRowI) (defScope sRowI) [.ref e1, .ref e2] [] f fd) : Binds K fd ["self", "tests", "deeds"] [] := by
  obtain ⟨ds, h1, h2⟩ := F.binds1 (ps := ["self", "tests", "deeds"]) 3 2 (fun z => nomatch z) rfl fun T kV doc pm an cdv ct us its h1 h2 => match us, its, h1, h2 with
    | [_, _, _], [_, _], _, _ => ⟨_, rfl, rfl⟩
  cases h1
  exact h2
theorem binds_tool {K : PySem.W.Frag} {f e1 : Addr} {fd : FuncData} (F : FunD K "__init__" "Tool.__init__" (defArgs sToolI) (defBody sToolI) (defScope sToolI) [.ref e1, .bl false] [] f fd) : Binds K fd ["self", "rows", "sorts"] [] := by
  obtain ⟨ds, h1, h2⟩ := F.binds1 (ps := ["self", "rows", "sorts"]) 3 2 (fun z => nomatch z) rfl fun T kV doc pm an cdv ct us its h1 h2 => match us, its, h1, h2 with
    | [_, _, _], [_, _], _, _ => ⟨_, rfl, rfl⟩
  cases h1
  exact h2
theorem binds_tool1 {K : PySem.W.Frag} {f e1 : Addr} {fd : FuncData} (F : FunD K "__init__" "Tool.__init__" (defArgs sToolI) (defBody sToolI) (defScope sToolI) [.ref e1, .bl false] [] f fd) : ∃ ds, Vals [V.bl false] ds ∧ Binds K fd ["self", "rows", "sorts"] ds :=
  F.binds1 (ps := ["self", "rows", "sorts"]) 2 1 (fun z => nomatch z) rfl fun T kV doc pm an cdv ct us its h1 h2 => match us, its, h1, h2 with
    | [_, _], [_, _], _, _ => ⟨_, rfl, rfl⟩
theorem binds_tool0 {K : PySem.W.Frag} {f e1 : Addr} {fd : FuncData} (F : FunD K "__init__" "Tool.__init__" (defArgs sToolI) (defBody sToolI) (defScope sToolI) [.ref e1, .bl false] [] f fd) : ∃ ds, Vals [V.ref e1, V.bl false] ds ∧ Binds K fd ["self", "rows", "sorts"] ds :=
  F.binds1 (ps := ["self", "rows", "sorts"]) 1 0 (fun z => nomatch z) rfl fun T kV doc pm an cdv ct us its h1 h2 => match us, its, h1, h2 with
    | [_], [_, _], _, _ => ⟨_, rfl, rfl⟩

theorem all_mk {l : PySem.W.OpenLaw} {w : World} {K : PySem.W.Frag} {h : Heap} {mg : Str → Option Value} {fa L C TC eP eQ fR CT TCT eR fT tT tD fsR fsT flT feT fwT NR fNI feR fgT g_seq g_test g_deed g_areT g_areD g_areR g_rw g_first g_int g_num g_feed g_take g_pick g_mixed g_tests g_deeds g_usual g_tool g_rt g_tt g_la g_law : Addr} (X : K.In h) (G : h.Ns mainGlobals mg) (hfa : mg "law" = some (.ref fa))
    {od_Ci an_Ci : Option Addr} {sl_Ci : Array (Option Value)} {oc_Ci kV_Ci dc_Ci pm_Ci cd_Ci ct_Ci : Value}
    {oc_TC : Value} {od_TC : Option Addr} {n_TC : Nat} {sl_TC : Array (Option Value)}
    {od_CTi an_CTi : Option Addr} {sl_CTi : Array (Option Value)} {oc_CTi kV_CTi dc_CTi pm_CTi cd_CTi ct_CTi : Value}
    {oc_TCT : Value} {od_TCT : Option Addr} {n_TCT : Nat} {sl_TCT : Array (Option Value)}
    {od_eR : Option Addr} {n_eR : Nat} {sl_eR : Array (Option Value)}
    {od_tT : Option Addr} {n_tT tT0 tT1 tT2 tT3 tT4 tT5 tT6 tT7 tT8 tT9 : Nat} {sl_tT : Array (Option Value)}
    {od_tD : Option Addr} {n_tD tD0 tD1 tD2 tD3 tD4 tD5 tD6 tD7 : Nat} {sl_tD : Array (Option Value)}
    {od_sR an_sR : Option Addr} {sl_sR : Array (Option Value)} {oc_sR kV_sR dc_sR pm_sR cd_sR ct_sR : Value}
    {od_sT an_sT : Option Addr} {sl_sT : Array (Option Value)} {oc_sT kV_sT dc_sT pm_sT cd_sT ct_sT : Value}
    {od_lT an_lT : Option Addr} {sl_lT : Array (Option Value)} {oc_lT kV_lT dc_lT pm_lT cd_lT ct_lT : Value}
    {od_eT an_eT : Option Addr} {sl_eT : Array (Option Value)} {oc_eT kV_eT dc_eT pm_eT cd_eT ct_eT : Value}
    {od_wT an_wT : Option Addr} {sl_wT : Array (Option Value)} {oc_wT kV_wT dc_wT pm_wT cd_wT ct_wT : Value}
    {nm_N qn_N : Str} {N0_N : Addr} {bs_N : List Value} {sn_N : List Str} {sub0_N : List Value} {ab_N : Bool} {col_N : Option Bool} {dd_N : Option Addr} {m0_N m1_N m2_N m3_N m5_N : Option Value}
    {od_N an_N : Option Addr} {sl_N : Array (Option Value)} {oc_N kV_N dc_N pm_N cd_N ct_N : Value}
    {od_qR an_qR : Option Addr} {sl_qR : Array (Option Value)} {oc_qR kV_qR dc_qR pm_qR cd_qR ct_qR : Value}
    {od_gT an_gT : Option Addr} {sl_gT : Array (Option Value)} {oc_gT kV_gT dc_gT pm_gT cd_gT ct_gT : Value}
    {od_seq an_seq : Option Addr} {sl_seq : Array (Option Value)} {oc_seq kV_seq dc_seq pm_seq cd_seq ct_seq : Value}
    {od_test an_test : Option Addr} {sl_test : Array (Option Value)} {oc_test kV_test dc_test pm_test cd_test ct_test : Value}
    {od_deed an_deed : Option Addr} {sl_deed : Array (Option Value)} {oc_deed kV_deed dc_deed pm_deed cd_deed ct_deed : Value}
    {od_areT an_areT : Option Addr} {sl_areT : Array (Option Value)} {oc_areT kV_areT dc_areT pm_areT cd_areT ct_areT : Value}
    {od_areD an_areD : Option Addr} {sl_areD : Array (Option Value)} {oc_areD kV_areD dc_areD pm_areD cd_areD ct_areD : Value}
    {od_areR an_areR : Option Addr} {sl_areR : Array (Option Value)} {oc_areR kV_areR dc_areR pm_areR cd_areR ct_areR : Value}
    {od_rw an_rw : Option Addr} {sl_rw : Array (Option Value)} {oc_rw kV_rw dc_rw pm_rw cd_rw ct_rw : Value}
    {od_first an_first : Option Addr} {sl_first : Array (Option Value)} {oc_first kV_first dc_first pm_first cd_first ct_first : Value}
    {od_int an_int : Option Addr} {sl_int : Array (Option Value)} {oc_int kV_int dc_int pm_int cd_int ct_int : Value}
    {od_num an_num : Option Addr} {sl_num : Array (Option Value)} {oc_num kV_num dc_num pm_num cd_num ct_num : Value}
    {od_feed an_feed : Option Addr} {sl_feed : Array (Option Value)} {oc_feed kV_feed dc_feed pm_feed cd_feed ct_feed : Value}
    {od_take an_take : Option Addr} {sl_take : Array (Option Value)} {oc_take kV_take dc_take pm_take cd_take ct_take : Value}
    {od_pick an_pick : Option Addr} {sl_pick : Array (Option Value)} {oc_pick kV_pick dc_pick pm_pick cd_pick ct_pick : Value}
    {od_mixed an_mixed : Option Addr} {sl_mixed : Array (Option Value)} {oc_mixed kV_mixed dc_mixed pm_mixed cd_mixed ct_mixed : Value}
    {od_tests an_tests : Option Addr} {sl_tests : Array (Option Value)} {oc_tests kV_tests dc_tests pm_tests cd_tests ct_tests : Value}
    {od_deeds an_deeds : Option Addr} {sl_deeds : Array (Option Value)} {oc_deeds kV_deeds dc_deeds pm_deeds cd_deeds ct_deeds : Value}
    {od_usual an_usual : Option Addr} {sl_usual : Array (Option Value)} {oc_usual kV_usual dc_usual pm_usual cd_usual ct_usual : Value}
    {od_tool an_tool : Option Addr} {sl_tool : Array (Option Value)} {oc_tool kV_tool dc_tool pm_tool cd_tool ct_tool : Value}
    {od_rt an_rt : Option Addr} {sl_rt : Array (Option Value)} {oc_rt kV_rt dc_rt pm_rt cd_rt ct_rt : Value}
    {od_tt an_tt : Option Addr} {sl_tt : Array (Option Value)} {oc_tt kV_tt dc_tt pm_tt cd_tt ct_tt : Value}
    {od_la an_la : Option Addr} {sl_la : Array (Option Value)} {oc_la kV_la dc_la pm_la cd_la ct_la : Value}
    {od_law an_law : Option Addr} {sl_law : Array (Option Value)} {oc_law kV_law dc_law pm_law cd_law ct_law : Value}
    (aL : PySem.W.nsIn K mainGlobals "LayError" = some (some (.ref L)))
    (tL : PySem.W.typeIn K (.ref L) = some (.type "type"))
    (hL : PySem.W.hasDictIn K L = true)
    (hn : PySem.W.specialIn K (.builtin "object.__class__") "__get__" = some (some (.builtin "getset_descriptor.__get__")))
    (ht : PySem.W.takesIn K (.builtin "object.__class__") = some true)
    (aC : PySem.W.nsIn K mainGlobals "Row" = some (some (.ref C)))
    (pgC : PySem.W.plainGet K C Str.empty = true)
    (hdC : PySem.W.hasDictIn K C = true)
    (poC : PySem.W.plainOver K C = true)
    (saC : PySem.W.findIn K (.ref C) "__setattr__" = some (some (.builtin "object.__setattr__")))
    (caC : PySem.W.findIn K (.ref C) "__class__" = some (some (.builtin "object.__class__")))
    (moC : PySem.W.mroIn K C (.type "object") = some true)
    (nlC : PySem.W.subIn K (.ref C) (.type "list") = some false)
    (ntC : PySem.W.subIn K (.ref C) (.type "tuple") = some false)
    (nbC : PySem.W.subIn K (.ref C) (.type "bool") = some false)
    (tyC : PySem.W.typeIn K (.ref C) = some (.type "type"))
    (noC_tests : PySem.W.findIn K (.ref C) "tests" = some none)
    (noC_deeds : PySem.W.findIn K (.ref C) "deeds" = some none)
    (mkC : PySem.W.makesIn K C = true)
    (inC : PySem.W.findIn K (.ref C) "__init__" = some (some (.ref fR)))
    (fiC : PySem.W.isFn K (.ref fR) = true)
    (kpC : PySem.W.keepIn K (.ref C) = true)
    (l_Ci : K.lookup fR = some ⟨oc_Ci, od_Ci, .func (PySem.W.fnOf "__init__" "Row.__init__" (defArgs sRowI) (defBody sRowI) (defScope sRowI) (.ref TC) kV_Ci dc_Ci pm_Ci an_Ci cd_Ci ct_Ci), sl_Ci⟩)
    (c_Ci : PySem.W.codeIn K cd_Ci "Row.__init__" = true)
    (k_Ci : PySem.W.keepIn K (.ref fR) = true)
    (l_TC : K.lookup TC = some ⟨oc_TC, od_TC, .seq [.ref eP, .ref eQ].toArray n_TC, sl_TC⟩)
    (aCT : PySem.W.nsIn K mainGlobals "Tool" = some (some (.ref CT)))
    (pgCT : PySem.W.plainGet K CT Str.empty = true)
    (hdCT : PySem.W.hasDictIn K CT = true)
    (poCT : PySem.W.plainOver K CT = true)
    (saCT : PySem.W.findIn K (.ref CT) "__setattr__" = some (some (.builtin "object.__setattr__")))
    (caCT : PySem.W.findIn K (.ref CT) "__class__" = some (some (.builtin "object.__class__")))
    (moCT : PySem.W.mroIn K CT (.type "object") = some true)
    (nlCT : PySem.W.subIn K (.ref CT) (.type "list") = some false)
    (ntCT : PySem.W.subIn K (.ref CT) (.type "tuple") = some false)
    (nbCT : PySem.W.subIn K (.ref CT) (.type "bool") = some false)
    (tyCT : PySem.W.typeIn K (.ref CT) = some (.type "type"))
    (noCT_rows : PySem.W.findIn K (.ref CT) "rows" = some none)
    (noCT_sorts : PySem.W.findIn K (.ref CT) "sorts" = some none)
    (mkCT : PySem.W.makesIn K CT = true)
    (inCT : PySem.W.findIn K (.ref CT) "__init__" = some (some (.ref fT)))
    (fiCT : PySem.W.isFn K (.ref fT) = true)
    (kpCT : PySem.W.keepIn K (.ref CT) = true)
    (l_CTi : K.lookup fT = some ⟨oc_CTi, od_CTi, .func (PySem.W.fnOf "__init__" "Tool.__init__" (defArgs sToolI) (defBody sToolI) (defScope sToolI) (.ref TCT) kV_CTi dc_CTi pm_CTi an_CTi cd_CTi ct_CTi), sl_CTi⟩)
    (c_CTi : PySem.W.codeIn K cd_CTi "Tool.__init__" = true)
    (k_CTi : PySem.W.keepIn K (.ref fT) = true)
    (l_TCT : K.lookup TCT = some ⟨oc_TCT, od_TCT, .seq [.ref eR, .bool false].toArray n_TCT, sl_TCT⟩)
    (l_eR : K.lookup eR = some ⟨.type "tuple", od_eR, .seq [].toArray n_eR, sl_eR⟩)
    (a_tT : PySem.W.nsIn K mainGlobals "TESTS" = some (some (.ref tT)))
    (l_tT : K.lookup tT = some ⟨.type "tuple", od_tT, .seq [.str "broken" tT0, .str "marked" tT1, .str "left" tT2, .str "ahead" tT3, .str "behind" tT4, .str "blank" tT5, .str "long" tT6, .str "first" tT7, .str "afterbroken" tT8, .str "afterbehind" tT9].toArray n_tT, sl_tT⟩)
    (a_tD : PySem.W.nsIn K mainGlobals "DEEDS" = some (some (.ref tD)))
    (l_tD : K.lookup tD = some ⟨.type "tuple", od_tD, .seq [.str "break" tD0, .str "join" tD1, .str "mark" tD2, .str "unmark" tD3, .str "lift" tD4, .str "lower" tD5, .str "space" tD6, .str "close" tD7].toArray n_tD, sl_tD⟩)
    (s_sR : PySem.W.findIn K (.ref C) "__str__" = some (some (.ref fsR)))
    (f_sR : PySem.W.isFn K (.ref fsR) = true)
    (l_sR : K.lookup fsR = some ⟨oc_sR, od_sR, .func (PySem.W.fnOf "__str__" "Row.__str__" (defArgs sStrRow) (defBody sStrRow) (defScope sStrRow) .none kV_sR dc_sR pm_sR an_sR cd_sR ct_sR), sl_sR⟩)
    (c_sR : PySem.W.codeIn K cd_sR "Row.__str__" = true)
    (k_sR : PySem.W.keepIn K (.ref fsR) = true)
    (s_sT : PySem.W.findIn K (.ref CT) "__str__" = some (some (.ref fsT)))
    (f_sT : PySem.W.isFn K (.ref fsT) = true)
    (l_sT : K.lookup fsT = some ⟨oc_sT, od_sT, .func (PySem.W.fnOf "__str__" "Tool.__str__" (defArgs sStrTool) (defBody sStrTool) (defScope sStrTool) .none kV_sT dc_sT pm_sT an_sT cd_sT ct_sT), sl_sT⟩)
    (c_sT : PySem.W.codeIn K cd_sT "Tool.__str__" = true)
    (k_sT : PySem.W.keepIn K (.ref fsT) = true)
    (s_lT : PySem.W.findIn K (.ref CT) "__len__" = some (some (.ref flT)))
    (f_lT : PySem.W.isFn K (.ref flT) = true)
    (l_lT : K.lookup flT = some ⟨oc_lT, od_lT, .func (PySem.W.fnOf "__len__" "Tool.__len__" (defArgs sLenT) (defBody sLenT) (defScope sLenT) .none kV_lT dc_lT pm_lT an_lT cd_lT ct_lT), sl_lT⟩)
    (c_lT : PySem.W.codeIn K cd_lT "Tool.__len__" = true)
    (k_lT : PySem.W.keepIn K (.ref flT) = true)
    (s_eT : PySem.W.findIn K (.ref CT) "__eq__" = some (some (.ref feT)))
    (f_eT : PySem.W.isFn K (.ref feT) = true)
    (l_eT : K.lookup feT = some ⟨oc_eT, od_eT, .func (PySem.W.fnOf "__eq__" "Tool.__eq__" (defArgs sEqT) (defBody sEqT) (defScope sEqT) .none kV_eT dc_eT pm_eT an_eT cd_eT ct_eT), sl_eT⟩)
    (c_eT : PySem.W.codeIn K cd_eT "Tool.__eq__" = true)
    (k_eT : PySem.W.keepIn K (.ref feT) = true)
    (neT : PySem.W.findIn K (.ref CT) "__ne__" = some (some (.builtin "object.__ne__")))
    (s_wT : PySem.W.findIn K (.ref CT) "without" = some (some (.ref fwT)))
    (f_wT : PySem.W.isFn K (.ref fwT) = true)
    (l_wT : K.lookup fwT = some ⟨oc_wT, od_wT, .func (PySem.W.fnOf "without" "Tool.without" (defArgs sWithout) (defBody sWithout) (defScope sWithout) .none kV_wT dc_wT pm_wT an_wT cd_wT ct_wT), sl_wT⟩)
    (c_wT : PySem.W.codeIn K cd_wT "Tool.without" = true)
    (k_wT : PySem.W.keepIn K (.ref fwT) = true)
    (aNR : PySem.W.nsIn K mainGlobals "NoRow" = some (some (.ref NR)))
    (tyN : PySem.W.typeIn K (.ref NR) = some (.type "type"))
    (kNR : PySem.W.keepIn K (.ref NR) = true)
    (exN : PySem.W.subIn K (.ref NR) (.type "BaseException") = some true)
    (sLN : PySem.W.subIn K (.ref NR) (.ref L) = some true)
    (sSN : PySem.W.subIn K (.ref NR) (.ref NR) = some true)
    (gaN : PySem.W.findIn K (.ref NR) "__getattribute__" = some (some (.builtin "BaseException.__getattribute__")))
    (ggN : PySem.W.findIn K (.ref NR) "__getattr__" = some none)
    (hdN : PySem.W.hasDictIn K NR = true)
    (caN : PySem.W.findIn K (.ref NR) "__class__" = some (some (.builtin "object.__class__")))
    (moN : PySem.W.mroIn K NR (.type "object") = some true)
    (xLN : K.lookup NR = some (excClassObj nm_N qn_N NR N0_N bs_N [.ref L, .type "ValueError", .type "Exception", .type "BaseException", .type "object"] true sn_N sub0_N ab_N col_N dd_N m0_N m1_N m2_N m3_N m5_N "ValueError.__new__"))
    (saN : PySem.W.findIn K (.ref NR) "__setattr__" = some (some (.builtin "object.__setattr__")))
    (iniN : PySem.W.findIn K (.ref NR) "__init__" = some (some (.ref fNI)))
    (tiN : PySem.W.typeIn K (.ref fNI) = some (.type "function"))
    (noN : PySem.W.findIn K (.ref NR) "at" = some none)
    (l_N : K.lookup fNI = some ⟨oc_N, od_N, .func (PySem.W.fnOf "__init__" "NoRow.__init__" (defArgs sNR) (defBody sNR) (defScope sNR) .none kV_N dc_N pm_N an_N cd_N ct_N), sl_N⟩)
    (c_N : PySem.W.codeIn K cd_N "NoRow.__init__" = true)
    (k_N : PySem.W.keepIn K (.ref fNI) = true)
    (s_qR : PySem.W.findIn K (.ref C) "__eq__" = some (some (.ref feR)))
    (f_qR : PySem.W.isFn K (.ref feR) = true)
    (l_qR : K.lookup feR = some ⟨oc_qR, od_qR, .func (PySem.W.fnOf "__eq__" "Row.__eq__" (defArgs sEqR) (defBody sEqR) (defScope sEqR) .none kV_qR dc_qR pm_qR an_qR cd_qR ct_qR), sl_qR⟩)
    (c_qR : PySem.W.codeIn K cd_qR "Row.__eq__" = true)
    (k_qR : PySem.W.keepIn K (.ref feR) = true)
    (neR : PySem.W.findIn K (.ref C) "__ne__" = some (some (.builtin "object.__ne__")))
    (s_gT : PySem.W.findIn K (.ref CT) "__getitem__" = some (some (.ref fgT)))
    (f_gT : PySem.W.isFn K (.ref fgT) = true)
    (l_gT : K.lookup fgT = some ⟨oc_gT, od_gT, .func (PySem.W.fnOf "__getitem__" "Tool.__getitem__" (defArgs sGetT) (defBody sGetT) (defScope sGetT) .none kV_gT dc_gT pm_gT an_gT cd_gT ct_gT), sl_gT⟩)
    (c_gT : PySem.W.codeIn K cd_gT "Tool.__getitem__" = true)
    (k_gT : PySem.W.keepIn K (.ref fgT) = true)
    (fiT : PySem.W.fnIn K fgT = true)
    (nbs : PySem.W.mroIn K CT (.type "str") = some false)
    (nbt : PySem.W.mroIn K CT (.type "tuple") = some false)
    (nbl : PySem.W.mroIn K CT (.type "list") = some false)
    (nbn : PySem.W.mroIn K CT (.type "NoneType") = some false)
    (a_seq : PySem.W.nsIn K mainGlobals "is_sequence" = some (some (.ref g_seq)))
    (l_seq : K.lookup g_seq = some ⟨oc_seq, od_seq, .func (PySem.W.fnOf "is_sequence" "is_sequence" (defArgs sSeq) (defBody sSeq) (defScope sSeq) .none kV_seq dc_seq pm_seq an_seq cd_seq ct_seq), sl_seq⟩)
    (c_seq : PySem.W.codeIn K cd_seq "is_sequence" = true)
    (k_seq : PySem.W.keepIn K (.ref g_seq) = true)
    (a_test : PySem.W.nsIn K mainGlobals "is_test" = some (some (.ref g_test)))
    (l_test : K.lookup g_test = some ⟨oc_test, od_test, .func (PySem.W.fnOf "is_test" "is_test" (defArgs sTest) (defBody sTest) (defScope sTest) .none kV_test dc_test pm_test an_test cd_test ct_test), sl_test⟩)
    (c_test : PySem.W.codeIn K cd_test "is_test" = true)
    (k_test : PySem.W.keepIn K (.ref g_test) = true)
    (a_deed : PySem.W.nsIn K mainGlobals "is_deed" = some (some (.ref g_deed)))
    (l_deed : K.lookup g_deed = some ⟨oc_deed, od_deed, .func (PySem.W.fnOf "is_deed" "is_deed" (defArgs sDeed) (defBody sDeed) (defScope sDeed) .none kV_deed dc_deed pm_deed an_deed cd_deed ct_deed), sl_deed⟩)
    (c_deed : PySem.W.codeIn K cd_deed "is_deed" = true)
    (k_deed : PySem.W.keepIn K (.ref g_deed) = true)
    (a_areT : PySem.W.nsIn K mainGlobals "are_tests" = some (some (.ref g_areT)))
    (l_areT : K.lookup g_areT = some ⟨oc_areT, od_areT, .func (PySem.W.fnOf "are_tests" "are_tests" (defArgs sAreT) (defBody sAreT) (defScope sAreT) .none kV_areT dc_areT pm_areT an_areT cd_areT ct_areT), sl_areT⟩)
    (c_areT : PySem.W.codeIn K cd_areT "are_tests" = true)
    (k_areT : PySem.W.keepIn K (.ref g_areT) = true)
    (a_areD : PySem.W.nsIn K mainGlobals "are_deeds" = some (some (.ref g_areD)))
    (l_areD : K.lookup g_areD = some ⟨oc_areD, od_areD, .func (PySem.W.fnOf "are_deeds" "are_deeds" (defArgs sAreD) (defBody sAreD) (defScope sAreD) .none kV_areD dc_areD pm_areD an_areD cd_areD ct_areD), sl_areD⟩)
    (c_areD : PySem.W.codeIn K cd_areD "are_deeds" = true)
    (k_areD : PySem.W.keepIn K (.ref g_areD) = true)
    (a_areR : PySem.W.nsIn K mainGlobals "are_rows" = some (some (.ref g_areR)))
    (l_areR : K.lookup g_areR = some ⟨oc_areR, od_areR, .func (PySem.W.fnOf "are_rows" "are_rows" (defArgs sAreR) (defBody sAreR) (defScope sAreR) .none kV_areR dc_areR pm_areR an_areR cd_areR ct_areR), sl_areR⟩)
    (c_areR : PySem.W.codeIn K cd_areR "are_rows" = true)
    (k_areR : PySem.W.keepIn K (.ref g_areR) = true)
    (a_rw : PySem.W.nsIn K mainGlobals "row_words" = some (some (.ref g_rw)))
    (l_rw : K.lookup g_rw = some ⟨oc_rw, od_rw, .func (PySem.W.fnOf "row_words" "row_words" (defArgs sRW) (defBody sRW) (defScope sRW) .none kV_rw dc_rw pm_rw an_rw cd_rw ct_rw), sl_rw⟩)
    (c_rw : PySem.W.codeIn K cd_rw "row_words" = true)
    (k_rw : PySem.W.keepIn K (.ref g_rw) = true)
    (a_first : PySem.W.nsIn K mainGlobals "first_line" = some (some (.ref g_first)))
    (l_first : K.lookup g_first = some ⟨oc_first, od_first, .func (PySem.W.fnOf "first_line" "first_line" (defArgs sFirst) (defBody sFirst) (defScope sFirst) .none kV_first dc_first pm_first an_first cd_first ct_first), sl_first⟩)
    (c_first : PySem.W.codeIn K cd_first "first_line" = true)
    (k_first : PySem.W.keepIn K (.ref g_first) = true)
    (a_int : PySem.W.nsIn K mainGlobals "is_integer" = some (some (.ref g_int)))
    (l_int : K.lookup g_int = some ⟨oc_int, od_int, .func (PySem.W.fnOf "is_integer" "is_integer" (defArgs sInt) (defBody sInt) (defScope sInt) .none kV_int dc_int pm_int an_int cd_int ct_int), sl_int⟩)
    (c_int : PySem.W.codeIn K cd_int "is_integer" = true)
    (k_int : PySem.W.keepIn K (.ref g_int) = true)
    (a_num : PySem.W.nsIn K mainGlobals "is_number" = some (some (.ref g_num)))
    (l_num : K.lookup g_num = some ⟨oc_num, od_num, .func (PySem.W.fnOf "is_number" "is_number" (defArgs sNum) (defBody sNum) (defScope sNum) .none kV_num dc_num pm_num an_num cd_num ct_num), sl_num⟩)
    (c_num : PySem.W.codeIn K cd_num "is_number" = true)
    (k_num : PySem.W.keepIn K (.ref g_num) = true)
    (a_feed : PySem.W.nsIn K mainGlobals "_law_feed" = some (some (.ref g_feed)))
    (l_feed : K.lookup g_feed = some ⟨oc_feed, od_feed, .func (PySem.W.fnOf "_law_feed" "_law_feed" (defArgs sFeed) (defBody sFeed) (defScope sFeed) .none kV_feed dc_feed pm_feed an_feed cd_feed ct_feed), sl_feed⟩)
    (c_feed : PySem.W.codeIn K cd_feed "_law_feed" = true)
    (k_feed : PySem.W.keepIn K (.ref g_feed) = true)
    (a_take : PySem.W.nsIn K mainGlobals "_law_take" = some (some (.ref g_take)))
    (l_take : K.lookup g_take = some ⟨oc_take, od_take, .func (PySem.W.fnOf "_law_take" "_law_take" (defArgs sTake) (defBody sTake) (defScope sTake) .none kV_take dc_take pm_take an_take cd_take ct_take), sl_take⟩)
    (c_take : PySem.W.codeIn K cd_take "_law_take" = true)
    (k_take : PySem.W.keepIn K (.ref g_take) = true)
    (a_pick : PySem.W.nsIn K mainGlobals "_law_pick" = some (some (.ref g_pick)))
    (l_pick : K.lookup g_pick = some ⟨oc_pick, od_pick, .func (PySem.W.fnOf "_law_pick" "_law_pick" (defArgs sPick) (defBody sPick) (defScope sPick) .none kV_pick dc_pick pm_pick an_pick cd_pick ct_pick), sl_pick⟩)
    (c_pick : PySem.W.codeIn K cd_pick "_law_pick" = true)
    (k_pick : PySem.W.keepIn K (.ref g_pick) = true)
    (a_mixed : PySem.W.nsIn K mainGlobals "_law_mixed" = some (some (.ref g_mixed)))
    (l_mixed : K.lookup g_mixed = some ⟨oc_mixed, od_mixed, .func (PySem.W.fnOf "_law_mixed" "_law_mixed" (defArgs sMixed) (defBody sMixed) (defScope sMixed) .none kV_mixed dc_mixed pm_mixed an_mixed cd_mixed ct_mixed), sl_mixed⟩)
    (c_mixed : PySem.W.codeIn K cd_mixed "_law_mixed" = true)
    (k_mixed : PySem.W.keepIn K (.ref g_mixed) = true)
    (a_tests : PySem.W.nsIn K mainGlobals "_law_tests" = some (some (.ref g_tests)))
    (l_tests : K.lookup g_tests = some ⟨oc_tests, od_tests, .func (PySem.W.fnOf "_law_tests" "_law_tests" (defArgs sTests) (defBody sTests) (defScope sTests) .none kV_tests dc_tests pm_tests an_tests cd_tests ct_tests), sl_tests⟩)
    (c_tests : PySem.W.codeIn K cd_tests "_law_tests" = true)
    (k_tests : PySem.W.keepIn K (.ref g_tests) = true)
    (a_deeds : PySem.W.nsIn K mainGlobals "_law_deeds" = some (some (.ref g_deeds)))
    (l_deeds : K.lookup g_deeds = some ⟨oc_deeds, od_deeds, .func (PySem.W.fnOf "_law_deeds" "_law_deeds" (defArgs sDeeds) (defBody sDeeds) (defScope sDeeds) .none kV_deeds dc_deeds pm_deeds an_deeds cd_deeds ct_deeds), sl_deeds⟩)
    (c_deeds : PySem.W.codeIn K cd_deeds "_law_deeds" = true)
    (k_deeds : PySem.W.keepIn K (.ref g_deeds) = true)
    (a_usual : PySem.W.nsIn K mainGlobals "_law_usual" = some (some (.ref g_usual)))
    (l_usual : K.lookup g_usual = some ⟨oc_usual, od_usual, .func (PySem.W.fnOf "_law_usual" "_law_usual" (defArgs sUsual) (defBody sUsual) (defScope sUsual) .none kV_usual dc_usual pm_usual an_usual cd_usual ct_usual), sl_usual⟩)
    (c_usual : PySem.W.codeIn K cd_usual "_law_usual" = true)
    (k_usual : PySem.W.keepIn K (.ref g_usual) = true)
    (a_tool : PySem.W.nsIn K mainGlobals "_law_tool" = some (some (.ref g_tool)))
    (l_tool : K.lookup g_tool = some ⟨oc_tool, od_tool, .func (PySem.W.fnOf "_law_tool" "_law_tool" (defArgs sTool) (defBody sTool) (defScope sTool) .none kV_tool dc_tool pm_tool an_tool cd_tool ct_tool), sl_tool⟩)
    (c_tool : PySem.W.codeIn K cd_tool "_law_tool" = true)
    (k_tool : PySem.W.keepIn K (.ref g_tool) = true)
    (a_rt : PySem.W.nsIn K mainGlobals "_law_row_text" = some (some (.ref g_rt)))
    (l_rt : K.lookup g_rt = some ⟨oc_rt, od_rt, .func (PySem.W.fnOf "_law_row_text" "_law_row_text" (defArgs sRowText) (defBody sRowText) (defScope sRowText) .none kV_rt dc_rt pm_rt an_rt cd_rt ct_rt), sl_rt⟩)
    (c_rt : PySem.W.codeIn K cd_rt "_law_row_text" = true)
    (k_rt : PySem.W.keepIn K (.ref g_rt) = true)
    (a_tt : PySem.W.nsIn K mainGlobals "_law_tool_text" = some (some (.ref g_tt)))
    (l_tt : K.lookup g_tt = some ⟨oc_tt, od_tt, .func (PySem.W.fnOf "_law_tool_text" "_law_tool_text" (defArgs sToolText) (defBody sToolText) (defScope sToolText) .none kV_tt dc_tt pm_tt an_tt cd_tt ct_tt), sl_tt⟩)
    (c_tt : PySem.W.codeIn K cd_tt "_law_tool_text" = true)
    (k_tt : PySem.W.keepIn K (.ref g_tt) = true)
    (a_la : PySem.W.nsIn K mainGlobals "_law_lacks" = some (some (.ref g_la)))
    (l_la : K.lookup g_la = some ⟨oc_la, od_la, .func (PySem.W.fnOf "_law_lacks" "_law_lacks" (defArgs sLacks) (defBody sLacks) (defScope sLacks) .none kV_la dc_la pm_la an_la cd_la ct_la), sl_la⟩)
    (c_la : PySem.W.codeIn K cd_la "_law_lacks" = true)
    (k_la : PySem.W.keepIn K (.ref g_la) = true)
    (a_law : PySem.W.nsIn K mainGlobals "law" = some (some (.ref g_law)))
    (l_law : K.lookup g_law = some ⟨oc_law, od_law, .func (PySem.W.fnOf "law" "law" (defArgs sLaw) (defBody sLaw) (defScope sLaw) .none kV_law dc_law pm_law an_law cd_law ct_law), sl_law⟩)
    (c_law : PySem.W.codeIn K cd_law "law" = true)
    (k_law : PySem.W.keepIn K (.ref g_law) = true)
    (z_int : PySem.W.nsIn K mainGlobals "int" = some none)
    (z_str : PySem.W.nsIn K mainGlobals "str" = some none)
    (z_list : PySem.W.nsIn K mainGlobals "list" = some none)
    (z_tuple : PySem.W.nsIn K mainGlobals "tuple" = some none)
    (z_isinstance : PySem.W.nsIn K mainGlobals "isinstance" = some none)
    (z_len : PySem.W.nsIn K mainGlobals "len" = some none)
    (z_all : PySem.W.nsIn K mainGlobals "all" = some none)
    (z_abs : PySem.W.nsIn K mainGlobals "abs" = some none)
    (z_range : PySem.W.nsIn K mainGlobals "range" = some none)
    (z_max : PySem.W.nsIn K mainGlobals "max" = some none)
    (z_min : PySem.W.nsIn K mainGlobals "min" = some none)
    (z_bool : PySem.W.nsIn K mainGlobals "bool" = some none)
    (z_repr : PySem.W.nsIn K mainGlobals "repr" = some none)
    : ∃ fd : FuncData, (∀ (s : Shared) (v : Value), BindsTo s fd ⟨[v], []⟩ [("_law_script", v)]) ∧ ∀ base : Heap, K.In base → base.Ns mainGlobals mg → FnOk l.prog w K mg base CX0 10 fa fd ["_law_script"] (spLaw K) := by
  have e := hfa.symm.trans (PySem.W.mg_of X G a_law)
  cases e
  have M : ∀ {x : Str} {a : Addr}, PySem.W.nsIn K mainGlobals x = some (some (.ref a)) → mg x = some (.ref a) := fun h => PySem.W.mg_of X G h
  have N : ∀ {x : Str}, PySem.W.nsIn K mainGlobals x = some none → mg x = none := fun h => PySem.W.mg_none_of X G h
  have F_seq := fun_mk (st := sSeq) l_seq c_seq k_seq
  have b_seq := F_seq.binds (ps := ["value"]) fun _ _ _ _ _ _ us hl => match us, hl with | [_], _ => rfl
  have F_test := fun_mk (st := sTest) l_test c_test k_test
  have b_test := F_test.binds (ps := ["value"]) fun _ _ _ _ _ _ us hl => match us, hl with | [_], _ => rfl
  have F_deed := fun_mk (st := sDeed) l_deed c_deed k_deed
  have b_deed := F_deed.binds (ps := ["value"]) fun _ _ _ _ _ _ us hl => match us, hl with | [_], _ => rfl
  have F_areT := fun_mk (st := sAreT) l_areT c_areT k_areT
  have b_areT := F_areT.binds (ps := ["value"]) fun _ _ _ _ _ _ us hl => match us, hl with | [_], _ => rfl
  have F_areD := fun_mk (st := sAreD) l_areD c_areD k_areD
  have b_areD := F_areD.binds (ps := ["value"]) fun _ _ _ _ _ _ us hl => match us, hl with | [_], _ => rfl
  have F_areR := fun_mk (st := sAreR) l_areR c_areR k_areR
  have b_areR := F_areR.binds (ps := ["value"]) fun _ _ _ _ _ _ us hl => match us, hl with | [_], _ => rfl
  have F_rw := fun_mk (st := sRW) l_rw c_rw k_rw
  have b_rw := F_rw.binds (ps := ["row"]) fun _ _ _ _ _ _ us hl => match us, hl with | [_], _ => rfl
  have F_first := fun_mk (st := sFirst) l_first c_first k_first
  have b_first := F_first.binds (ps := ["tool"]) fun _ _ _ _ _ _ us hl => match us, hl with | [_], _ => rfl
  have F_int := fun_mk (st := sInt) l_int c_int k_int
  have b_int := F_int.binds (ps := ["value"]) fun _ _ _ _ _ _ us hl => match us, hl with | [_], _ => rfl
  have F_num := fun_mk (st := sNum) l_num c_num k_num
  have b_num := F_num.binds (ps := ["value", "many"]) fun _ _ _ _ _ _ us hl => match us, hl with | [_, _], _ => rfl
  have F_feed := fun_mk (st := sFeed) l_feed c_feed k_feed
  have b_feed := F_feed.binds (ps := ["_law_script", "_law_base"]) fun _ _ _ _ _ _ us hl => match us, hl with | [_, _], _ => rfl
  have F_take := fun_mk (st := sTake) l_take c_take k_take
  have b_take := F_take.binds (ps := ["_law_box", "_law_wide"]) fun _ _ _ _ _ _ us hl => match us, hl with | [_, _], _ => rfl
  have F_pick := fun_mk (st := sPick) l_pick c_pick k_pick
  have b_pick := F_pick.binds (ps := ["_law_box", "_law_some"]) fun _ _ _ _ _ _ us hl => match us, hl with | [_, _], _ => rfl
  have F_mixed := fun_mk (st := sMixed) l_mixed c_mixed k_mixed
  have b_mixed := F_mixed.binds (ps := ["_law_box", "_law_some"]) fun _ _ _ _ _ _ us hl => match us, hl with | [_, _], _ => rfl
  have F_tests := fun_mk (st := sTests) l_tests c_tests k_tests
  have b_tests := F_tests.binds (ps := ["_law_box", "_law_most"]) fun _ _ _ _ _ _ us hl => match us, hl with | [_, _], _ => rfl
  have F_deeds := fun_mk (st := sDeeds) l_deeds c_deeds k_deeds
  have b_deeds := F_deeds.binds (ps := ["_law_box", "_law_most"]) fun _ _ _ _ _ _ us hl => match us, hl with | [_, _], _ => rfl
  have F_usual := fun_mk (st := sUsual) l_usual c_usual k_usual
  have b_usual := F_usual.binds (ps := ["_law_box"]) fun _ _ _ _ _ _ us hl => match us, hl with | [_], _ => rfl
  have F_tool := fun_mk (st := sTool) l_tool c_tool k_tool
  have b_tool := F_tool.binds (ps := ["_law_box", "_law_most"]) fun _ _ _ _ _ _ us hl => match us, hl with | [_, _], _ => rfl
  have F_rt := fun_mk (st := sRowText) l_rt c_rt k_rt
  have b_rt := F_rt.binds (ps := ["_law_row"]) fun _ _ _ _ _ _ us hl => match us, hl with | [_], _ => rfl
  have F_tt := fun_mk (st := sToolText) l_tt c_tt k_tt
  have b_tt := F_tt.binds (ps := ["_law_tool_here"]) fun _ _ _ _ _ _ us hl => match us, hl with | [_], _ => rfl
  have F_la := fun_mk (st := sLacks) l_la c_la k_la
  have b_la := F_la.binds (ps := ["_law_tool_here", "_law_at", "_law_is_without"]) fun _ _ _ _ _ _ us hl => match us, hl with | [_, _, _], _ => rfl
  have F_law := fun_mk (st := sLaw) l_law c_law k_law
  have b_law := F_law.binds (ps := ["_law_script"]) fun _ _ _ _ _ _ us hl => match us, hl with | [_], _ => rfl
  have F_wT := fun_mk (st := sWithout) l_wT c_wT k_wT
  have b_wT := F_wT.binds (ps := ["self", "at"]) fun _ _ _ _ _ _ us hl => match us, hl with | [_, _], _ => rfl
  have F_gT := fun_mk (st := sGetT) l_gT c_gT k_gT
  have b_gT := F_gT.binds (ps := ["self", "at"]) fun _ _ _ _ _ _ us hl => match us, hl with | [_, _], _ => rfl
  have F_qR := fun_mk (st := sEqR) l_qR c_qR k_qR
  have b_qR := F_qR.binds (ps := ["self", "other"]) fun _ _ _ _ _ _ us hl => match us, hl with | [_, _], _ => rfl
  have isCN : ExcC K NR := ⟨gaN, ggN, exN, hdN, caN, hn, ht, moN⟩
  have XN : XC K mg NR fNI "NoRow" "at" := ⟨⟨⟨_, _, _, _, _, _, _, _, _, _, _, _, _, _, _, xLN, refs_ok L⟩, saN, exN, tyN, kNR⟩, iniN, tiN, M aNR, noN, isCN, ⟨gaN, ggN, exN, hdN⟩⟩
  have F_N := fun_mk (st := sNR) l_N c_N k_N
  have b_N := F_N.binds (ps := ["self", "at"]) fun _ _ _ _ _ _ us hl => match us, hl with | [_, _], _ => rfl
  have FR : FunD K "__init__" "Row.__init__" (defArgs sRowI) (defBody sRowI) (defScope sRowI) [.ref eP, .ref eQ] [] fR _ :=
    ⟨⟨_, _, _, _, _, _, _, _, _, _, rfl, l_Ci, c_Ci, .inr ⟨(fun z => nomatch z), TC, _, _, _, rfl, l_TC, rfl, .cons rfl (.cons rfl .nil)⟩, .inl rfl⟩, k_Ci⟩
  have FT : FunD K "__init__" "Tool.__init__" (defArgs sToolI) (defBody sToolI) (defScope sToolI) [.ref eR, .bl false] [] fT _ :=
    ⟨⟨_, _, _, _, _, _, _, _, _, _, rfl, l_CTi, c_CTi, .inr ⟨(fun z => nomatch z), TCT, _, _, _, rfl, l_TCT, rfl, .cons rfl (.cons rfl .nil)⟩, .inl rfl⟩, k_CTi⟩
  have F_sR := fun_mk (st := sStrRow) l_sR c_sR k_sR
  have b_sR := F_sR.binds (ps := ["self"]) fun _ _ _ _ _ _ us hl => match us, hl with | [_], _ => rfl
  have F_sT := fun_mk (st := sStrTool) l_sT c_sT k_sT
  have b_sT := F_sT.binds (ps := ["self"]) fun _ _ _ _ _ _ us hl => match us, hl with | [_], _ => rfl
  have F_lT := fun_mk (st := sLenT) l_lT c_lT k_lT
  have b_lT := F_lT.binds (ps := ["self"]) fun _ _ _ _ _ _ us hl => match us, hl with | [_], _ => rfl
  have F_eT := fun_mk (st := sEqT) l_eT c_eT k_eT
  have b_eT := F_eT.binds (ps := ["self", "other"]) fun _ _ _ _ _ _ us hl => match us, hl with | [_, _], _ => rfl
  have D : TxtD mg := ⟨N z_int, N z_len, N z_abs, N z_range⟩
  have T : TxtK mg := ⟨N z_str, N z_list, N z_tuple, N z_isinstance, N z_len, N z_all⟩
  have c : ClsI K C := ⟨⟨pgC, hdC, poC, saC⟩, caC, hn, ht, moC⟩
  have ct : ClsI K CT := ⟨⟨pgCT, hdCT, poCT, saCT⟩, caCT, hn, ht, moCT⟩
  have mkR : Mk K C fR := ⟨mkC, inC, fiC, kpC⟩
  have bR := binds_row FR
  have mkT : Mk K CT fT := ⟨mkCT, inCT, fiCT, kpCT⟩
  have bT := binds_tool FT
  have bT1 := binds_tool1 FT
  have bT0 := binds_tool0 FT
  have emp : ∀ H : Hp, TupG K H eR [] := fun H => .inr ⟨_, _, _, l_eR, rfl, rfl, (by show 0 ≤ sizeLine; exact Nat.zero_le _), .nil⟩
  have hTests : ∀ H : Hp, SqT K H tT (testL.map V.str) := fun H => .inr ⟨_, _, _, l_tT, rfl, rfl, (by show 10 ≤ sizeLine; decide), (.cons ⟨_, rfl⟩ (.cons ⟨_, rfl⟩ (.cons ⟨_, rfl⟩ (.cons ⟨_, rfl⟩ (.cons ⟨_, rfl⟩ (.cons ⟨_, rfl⟩ (.cons ⟨_, rfl⟩ (.cons ⟨_, rfl⟩ (.cons ⟨_, rfl⟩ (.cons ⟨_, rfl⟩ .nil))))))))))⟩
  have hDeeds : ∀ H : Hp, SqT K H tD (deedL.map V.str) := fun H => .inr ⟨_, _, _, l_tD, rfl, rfl, (by show 8 ≤ sizeLine; decide), (.cons ⟨_, rfl⟩ (.cons ⟨_, rfl⟩ (.cons ⟨_, rfl⟩ (.cons ⟨_, rfl⟩ (.cons ⟨_, rfl⟩ (.cons ⟨_, rfl⟩ (.cons ⟨_, rfl⟩ (.cons ⟨_, rfl⟩ .nil))))))))⟩
  refine ⟨PySem.W.fnOf "law" "law" (defArgs sLaw) (defBody sLaw) (defScope sLaw) .none kV_law dc_law pm_law an_law cd_law ct_law, fun s v => .of_eq rfl, fun base _ _ => ?_⟩
  have okSeq : FnOk l.prog w K mg base CX0 1 g_seq _ ["value"] (spSeq K) := ok_seq F_seq T
  have okTest : FnOk l.prog w K mg base CX0 1 g_test _ ["value"] (spOne progT K) := ok_test F_test T (M a_tT) hTests
  have okDeed : FnOk l.prog w K mg base CX0 1 g_deed _ ["value"] (spOne progD K) := ok_deed F_deed T (M a_tD) hDeeds
  have okAT := ok_areT F_areT T okSeq (M a_seq) k_seq b_seq okTest (M a_test) k_test b_test
  have okAD := ok_areD F_areD T okSeq (M a_seq) k_seq b_seq okDeed (M a_deed) k_deed b_deed
  have RC : RowC K C := ⟨c.cl, noC_tests, noC_deeds⟩
  have okRG := ok_rowG FR T RC okAT (M a_areT) k_areT b_areT okAD (M a_areD) k_areD b_areD
  have okAR := ok_areR (C := C) F_areR T okSeq (M a_seq) k_seq b_seq (M aC)
  have TCc : ToolC K CT := ⟨ct.cl, noCT_rows, noCT_sorts⟩
  have okTG := ok_toolG FT T (N z_bool) TCc okAR (M a_areR) k_areR b_areR
  have okRW := ok_rowWords (P := l.prog) (w := w) (base := base) F_rw (N z_len) RC
  have okSR := ok_strRow F_sR okRW (M a_rw) k_rw b_rw
  have okFi := ok_first (P := l.prog) (w := w) (mg := mg) (base := base) (C := C) F_first TCc
  have okST := ok_strTool F_sT TCc (N z_str) okFi (M a_first) k_first b_first okSR s_sR f_sR b_sR
  have okLT := ok_lenT (P := l.prog) (w := w) (base := base) (C := C) F_lT (N z_len) TCc
  have okET := ok_eqT F_eT T ct (M aCT) okST s_sT f_sT b_sT
  have TF : TlF l.prog w K mg base C CT := ⟨c, TCc, M aCT, ⟨_, _, okST, s_sT, f_sT, b_sT⟩, ⟨_, _, okLT, s_lT, f_lT, b_lT⟩, ⟨_, _, okET, s_eT, f_eT, b_eT⟩, neT, moCT, ⟨_, _, mkT, okTG, bT, bT1, _, by
    obtain ⟨ds, h1, h2⟩ := bT0
    exact ⟨ds, h1, h2, emp⟩⟩⟩
  have okInt := ok_int (P := l.prog) (w := w) (base := base) F_int T (N z_int) (N z_bool)
  have okNum := ok_num F_num okInt (M a_int) k_int b_int
  have okWo := ok_without F_wT (N z_len) c TCc (M aCT) mkT okTG bT okNum (M a_num) k_num b_num
  have okNI := ok_nR (P := l.prog) (w := w) (mg := mg) (base := base) (C := NR) F_N
  have okWB := ok_withoutB (C := C) F_wT (N z_len) TCc okNum (M a_num) k_num b_num XN okNI b_N
  have okGB := ok_getB (C := C) F_gT (N z_len) TCc okNum (M a_num) k_num b_num XN okNI b_N
  have okGG := ok_getG (C := C) F_gT (N z_len) TCc okNum (M a_num) k_num b_num
  have okER := ok_eqR F_qR T c (M aC) okSR s_sR f_sR b_sR
  have okEN := ok_eqN F_eT T (M aCT) okST s_sT f_sT b_sT
  have Rf : RwF l.prog w K mg base C := ⟨M aC, ⟨_, _, mkR, okRG, bR⟩, ⟨_, _, okER, s_qR, f_qR, b_qR⟩, neR, moC⟩
  have Kn : KinA K mg NR L := ⟨M aL, kit_cls hL tL sLN (fun _ => rfl), PySem.W.exm_ref exN hdN tyN sSN⟩
  have okTake : FnOk l.prog w K mg base CX0 1 g_take _ ["_law_box", "_law_wide"] spTake := ok_take F_take D
  have okPick := ok_pick F_pick D okTake (M a_take) k_take b_take
  have DR : Draws l.prog w K mg base g_take g_pick _ _ := ⟨N z_range, N z_tuple, okTake, M a_take, k_take, b_take, okPick, M a_pick, k_pick, b_pick⟩
  have okMixed := ok_mixed F_mixed DR (N z_list) (N z_len)
  have okUsual := ok_usual F_usual DR okMixed (M a_mixed) k_mixed b_mixed
  have okTool := ok_tool F_tool DR (N z_len) okUsual (M a_usual) k_usual b_usual (ok_tests F_tests DR) (M a_tests) k_tests b_tests (ok_deeds F_deeds DR) (M a_deeds) k_deeds b_deeds
  have okRT := ok_rowText (P := l.prog) (w := w) (mg := mg) (base := base) F_rt
  have okTT := ok_toolText F_tt okRT (M a_rt) k_rt b_rt
  have okLa := ok_lacks F_la T (N z_repr) TCc XN Kn okGB s_gT fiT f_gT b_gT okWB ⟨s_wT, f_wT, k_wT⟩ b_wT
  have nb : NoBase K CT := ⟨nbs, nbt, nbl, nbn⟩
  refine ok_law F_law ⟨N z_range, N z_max, N z_min, N z_len, N z_str, N z_list, N z_tuple, N z_repr, N z_isinstance⟩ TF Rf (ok_feed F_feed D) (M a_feed) k_feed b_feed okTool (M a_tool) k_tool b_tool okTake (M a_take) k_take b_take okTT (M a_tt) k_tt b_tt okLa (M a_la) k_la b_la ⟨s_wT, f_wT, k_wT⟩ okWo b_wT okGG s_gT fiT f_gT b_gT okEN s_eT f_eT nb b_eT fun n hn => ?_
  rcases hn with rfl | rfl | rfl | rfl
  · exact kit_cls hdCT tyCT np_str (fun z => nomatch z)
  · exact kit_cls hdCT tyCT np_tuple (fun z => nomatch z)
  · exact kit_cls hdCT tyCT np_list (fun z => nomatch z)
  · exact kit_cls hdCT tyCT np_none (fun z => nomatch z)
end Lay
open PySem PySem.W PyProof.Rows
set_option Elab.async false
set_option maxRecDepth 100000 in
set_option maxHeartbeats 0 in
theorem PySem.Challenge.cw_laytwice_k13_tools_made_holds : PySem.Challenge.rw_laytwice_k13_tools_made.Holds := by
  w_on; o_law; k_head; (case hw => w_witness2)
  k_fill
  refine L2.walk_of (l := PySem.Challenge.rw_laytwice_k13_tools_made) (n := 63) (k := 10) (x := "_law_script") (CX := fun _ => L2.CX0) (sp := fun w => Lay.spLaw _) rfl (by decide) rfl ⟨rfl, by decide, by decide⟩ (fun w h Y => PySem.W.kIn_of Y) ?F (fun _ _ a ns hl _ hS => ⟨a, ns, rfl, hS, hl, fun _ => rfl⟩) (fun _ _ _ _ _ z => z.elim)
  case F =>
    intro w mg fa h KX G hmg
    refine' Lay.all_mk KX G hmg ?aL ?tL ?hL ?hn ?ht ?aC ?pgC ?hdC ?poC ?saC ?caC ?moC ?nlC ?ntC ?nbC ?tyC ?noC_tests ?noC_deeds ?mkC ?inC ?fiC ?kpC ?l_Ci ?c_Ci ?k_Ci ?l_TC ?aCT ?pgCT ?hdCT ?poCT ?saCT ?caCT ?moCT ?nlCT ?ntCT ?nbCT ?tyCT ?noCT_rows ?noCT_sorts ?mkCT ?inCT ?fiCT ?kpCT ?l_CTi ?c_CTi ?k_CTi ?l_TCT ?l_eR ?a_tT ?l_tT ?a_tD ?l_tD ?s_sR ?f_sR ?l_sR ?c_sR ?k_sR ?s_sT ?f_sT ?l_sT ?c_sT ?k_sT ?s_lT ?f_lT ?l_lT ?c_lT ?k_lT ?s_eT ?f_eT ?l_eT ?c_eT ?k_eT ?neT ?s_wT ?f_wT ?l_wT ?c_wT ?k_wT ?aNR ?tyN ?kNR ?exN ?sLN ?sSN ?gaN ?ggN ?hdN ?caN ?moN ?xLN ?saN ?iniN ?tiN ?noN ?l_N ?c_N ?k_N ?s_qR ?f_qR ?l_qR ?c_qR ?k_qR ?neR ?s_gT ?f_gT ?l_gT ?c_gT ?k_gT ?fiT ?nbs ?nbt ?nbl ?nbn ?a_seq ?l_seq ?c_seq ?k_seq ?a_test ?l_test ?c_test ?k_test ?a_deed ?l_deed ?c_deed ?k_deed ?a_areT ?l_areT ?c_areT ?k_areT ?a_areD ?l_areD ?c_areD ?k_areD ?a_areR ?l_areR ?c_areR ?k_areR ?a_rw ?l_rw ?c_rw ?k_rw ?a_first ?l_first ?c_first ?k_first ?a_int ?l_int ?c_int ?k_int ?a_num ?l_num ?c_num ?k_num ?a_feed ?l_feed ?c_feed ?k_feed ?a_take ?l_take ?c_take ?k_take ?a_pick ?l_pick ?c_pick ?k_pick ?a_mixed ?l_mixed ?c_mixed ?k_mixed ?a_tests ?l_tests ?c_tests ?k_tests ?a_deeds ?l_deeds ?c_deeds ?k_deeds ?a_usual ?l_usual ?c_usual ?k_usual ?a_tool ?l_tool ?c_tool ?k_tool ?a_rt ?l_rt ?c_rt ?k_rt ?a_tt ?l_tt ?c_tt ?k_tt ?a_la ?l_la ?c_la ?k_la ?a_law ?l_law ?c_law ?k_law ?z_int ?z_str ?z_list ?z_tuple ?z_isinstance ?z_len ?z_all ?z_abs ?z_range ?z_max ?z_min ?z_bool ?z_repr
    (case aL => k_is)
    (case tL => k_is)
    (case hL => k_is)
    (case hn => k_is)
    (case ht => k_is)
    (case aC => k_is)
    (case pgC => k_is)
    (case hdC => k_is)
    (case poC => k_is)
    (case saC => k_is)
    (case caC => k_is)
    (case moC => k_is)
    (case nlC => k_is)
    (case ntC => k_is)
    (case nbC => k_is)
    (case tyC => k_is)
    (case noC_tests => k_is)
    (case noC_deeds => k_is)
    (case mkC => k_is)
    (case inC => k_is)
    (case fiC => k_is)
    (case kpC => k_is)
    (case l_Ci => k_is)
    (case c_Ci => k_is)
    (case k_Ci => k_is)
    (case l_TC => k_is)
    (case aCT => k_is)
    (case pgCT => k_is)
    (case hdCT => k_is)
    (case poCT => k_is)
    (case saCT => k_is)
    (case caCT => k_is)
    (case moCT => k_is)
    (case nlCT => k_is)
    (case ntCT => k_is)
    (case nbCT => k_is)
    (case tyCT => k_is)
    (case noCT_rows => k_is)
    (case noCT_sorts => k_is)
    (case mkCT => k_is)
    (case inCT => k_is)
    (case fiCT => k_is)
    (case kpCT => k_is)
    (case l_CTi => k_is)
    (case c_CTi => k_is)
    (case k_CTi => k_is)
    (case l_TCT => k_is)
    (case l_eR => k_is)
    (case a_tT => k_is)
    (case l_tT => k_is)
    (case a_tD => k_is)
    (case l_tD => k_is)
    (case s_sR => k_is)
    (case f_sR => k_is)
    (case l_sR => k_is)
    (case c_sR => k_is)
    (case k_sR => k_is)
    (case s_sT => k_is)
    (case f_sT => k_is)
    (case l_sT => k_is)
    (case c_sT => k_is)
    (case k_sT => k_is)
    (case s_lT => k_is)
    (case f_lT => k_is)
    (case l_lT => k_is)
    (case c_lT => k_is)
    (case k_lT => k_is)
    (case s_eT => k_is)
    (case f_eT => k_is)
    (case l_eT => k_is)
    (case c_eT => k_is)
    (case k_eT => k_is)
    (case neT => k_is)
    (case s_wT => k_is)
    (case f_wT => k_is)
    (case l_wT => k_is)
    (case c_wT => k_is)
    (case k_wT => k_is)
    (case aNR => k_is)
    (case tyN => k_is)
    (case kNR => k_is)
    (case exN => k_is)
    (case sLN => k_is)
    (case sSN => k_is)
    (case gaN => k_is)
    (case ggN => k_is)
    (case hdN => k_is)
    (case caN => k_is)
    (case moN => k_is)
    (case xLN => k_is)
    (case saN => k_is)
    (case iniN => k_is)
    (case tiN => k_is)
    (case noN => k_is)
    (case l_N => k_is)
    (case c_N => k_is)
    (case k_N => k_is)
    (case s_qR => k_is)
    (case f_qR => k_is)
    (case l_qR => k_is)
    (case c_qR => k_is)
    (case k_qR => k_is)
    (case neR => k_is)
    (case s_gT => k_is)
    (case f_gT => k_is)
    (case l_gT => k_is)
    (case c_gT => k_is)
    (case k_gT => k_is)
    (case fiT => k_is)
    (case nbs => k_is)
    (case nbt => k_is)
    (case nbl => k_is)
    (case nbn => k_is)
    (case a_seq => k_is)
    (case l_seq => k_is)
    (case c_seq => k_is)
    (case k_seq => k_is)
    (case a_test => k_is)
    (case l_test => k_is)
    (case c_test => k_is)
    (case k_test => k_is)
    (case a_deed => k_is)
    (case l_deed => k_is)
    (case c_deed => k_is)
    (case k_deed => k_is)
    (case a_areT => k_is)
    (case l_areT => k_is)
    (case c_areT => k_is)
    (case k_areT => k_is)
    (case a_areD => k_is)
    (case l_areD => k_is)
    (case c_areD => k_is)
    (case k_areD => k_is)
    (case a_areR => k_is)
    (case l_areR => k_is)
    (case c_areR => k_is)
    (case k_areR => k_is)
    (case a_rw => k_is)
    (case l_rw => k_is)
    (case c_rw => k_is)
    (case k_rw => k_is)
    (case a_first => k_is)
    (case l_first => k_is)
    (case c_first => k_is)
    (case k_first => k_is)
    (case a_int => k_is)
    (case l_int => k_is)
    (case c_int => k_is)
    (case k_int => k_is)
    (case a_num => k_is)
    (case l_num => k_is)
    (case c_num => k_is)
    (case k_num => k_is)
    (case a_feed => k_is)
    (case l_feed => k_is)
    (case c_feed => k_is)
    (case k_feed => k_is)
    (case a_take => k_is)
    (case l_take => k_is)
    (case c_take => k_is)
    (case k_take => k_is)
    (case a_pick => k_is)
    (case l_pick => k_is)
    (case c_pick => k_is)
    (case k_pick => k_is)
    (case a_mixed => k_is)
    (case l_mixed => k_is)
    (case c_mixed => k_is)
    (case k_mixed => k_is)
    (case a_tests => k_is)
    (case l_tests => k_is)
    (case c_tests => k_is)
    (case k_tests => k_is)
    (case a_deeds => k_is)
    (case l_deeds => k_is)
    (case c_deeds => k_is)
    (case k_deeds => k_is)
    (case a_usual => k_is)
    (case l_usual => k_is)
    (case c_usual => k_is)
    (case k_usual => k_is)
    (case a_tool => k_is)
    (case l_tool => k_is)
    (case c_tool => k_is)
    (case k_tool => k_is)
    (case a_rt => k_is)
    (case l_rt => k_is)
    (case c_rt => k_is)
    (case k_rt => k_is)
    (case a_tt => k_is)
    (case l_tt => k_is)
    (case c_tt => k_is)
    (case k_tt => k_is)
    (case a_la => k_is)
    (case l_la => k_is)
    (case c_la => k_is)
    (case k_la => k_is)
    (case a_law => k_is)
    (case l_law => k_is)
    (case c_law => k_is)
    (case k_law => k_is)
    (case z_int => k_is)
    (case z_str => k_is)
    (case z_list => k_is)
    (case z_tuple => k_is)
    (case z_isinstance => k_is)
    (case z_len => k_is)
    (case z_all => k_is)
    (case z_abs => k_is)
    (case z_range => k_is)
    (case z_max => k_is)
    (case z_min => k_is)
    (case z_bool => k_is)
    (case z_repr => k_is)
