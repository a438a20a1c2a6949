import PyProof.Rows.All
import Wide.All
import OpenK.AllK
import Wide.FinOn
import HandS.ForMost
import HandS.Codes
import KE.GoesMore
import HandS.Walk
import HandS.Dict
import HandS.Style
import OpenK.KEqL
import HandS.IsInst
import HandS.StrMore
import HandS.TupAny
import HandS.Defaults
import HandS.ExcInit
import HandS.ExcField
import HandS.ExcIs
import HandS.WordsExc
import HandS.ExcOwn
import KE.KExcIs
import PySem.Challenge.RW_laytwice_k12_rows_refused
set_option Elab.async false
set_option linter.all false
set_option maxRecDepth 100000
set_option maxHeartbeats 4000000
namespace Lay
open PySem L2
def top (i : Nat) : Stmt := PySem.Challenge.pw_laytwice_k12_rows_refused.main.body.getD i (.Pass ⟨0, 0, 0, 0⟩)
abbrev sFeed : Stmt := top 16
abbrev sTake : Stmt := top 17
abbrev sPick : Stmt := top 18
theorem Same.new {a : Addr} {H : Hp} {o : HO} (h : H a = none) : Same H (upd H a o) := fun c u e => by
  rw [upd_ne (ne_of_none e h)]
  exact e
theorem iteN {c : Bool} {A B : Prop} (h : c = false) (x : B) : if c = true then A else B := by
  rw [if_neg (by rw [h]; exact Bool.false_ne_true)]
  exact x
theorem iteY {c : Bool} {A B : Prop} (h : c = true) (x : A) : if c = true then A else B := by
  rw [if_pos h]
  exact x
theorem fits {n : Nat} (h : n ≤ 1000) : n ≤ sizeLine := by
  rw [sizeLine_eq]
  omega
/-! ### the box of draws: a dict and its list -/
def kvBox (gr : Addr) (m : Int) : List (Key × V) := [(.inr "great", .ref gr), (.inr "mixed", .int m)]
structure BoxD (H : Hp) (b gr : Addr) : Prop where
  d : ∃ m, H b = some (.dK (kvBox gr m))
  l : ∃ ns : List Int, H gr = some (.lst (ns.map V.int)) ∧ ns.length ≤ 1000
/-- all that is tracked beside the box is as it was -/
def K2 (b gr : Addr) (H H' : Hp) : Prop := ∀ a o, a ≠ b → a ≠ gr → H a = some o → H' a = some o
theorem K2.refl (b gr : Addr) (H : Hp) : K2 b gr H H := fun _ _ _ _ h => h
theorem K2.trans {b gr : Addr} {H H1 H2 : Hp} (x : K2 b gr H H1) (y : K2 b gr H1 H2) : K2 b gr H H2 := fun a o n1 n2 h => y a o n1 n2 (x a o n1 n2 h)
theorem K2.of_same {b gr : Addr} {H H' : Hp} (x : Same H H') : K2 b gr H H' := fun a o _ _ h => x a o h
theorem K2.b {b gr : Addr} {H : Hp} {o : HO} : K2 b gr H (upd H b o) := fun a u n _ h => by rw [upd_ne n]; exact h
theorem K2.g {b gr : Addr} {H : Hp} {o : HO} : K2 b gr H (upd H gr o) := fun a u _ n h => by rw [upd_ne n]; exact h
theorem BoxD.ne {H : Hp} {b gr : Addr} (x : BoxD H b gr) : gr ≠ b := fun z => by
  obtain ⟨⟨m, h1⟩, ns, h2, _⟩ := x
  rw [z, h1] at h2
  cases h2
theorem BoxD.same {H H' : Hp} {b gr : Addr} (s : Same H H') (x : BoxD H b gr) : BoxD H' b gr := by
  obtain ⟨⟨m, h1⟩, ns, h2, h3⟩ := x
  exact ⟨⟨m, s _ _ h1⟩, ns, s _ _ h2, h3⟩
theorem BoxD.fresh {H : Hp} {a b gr : Addr} (x : BoxD H b gr) (h : H a = none) : a ≠ b ∧ a ≠ gr := by
  obtain ⟨⟨m, h1⟩, ns, h2, h3⟩ := x
  exact ⟨(ne_of_none h1 h).symm, (ne_of_none h2 h).symm⟩
theorem snocs (ms : List Int) : ms = [] ∨ ∃ (i : List Int) (z : Int), ms = i ++ [z] := by
  rcases List.eq_nil_or_concat ms with h | ⟨i, z, h⟩
  · exact .inl h
  · exact .inr ⟨i, z, by rw [h, List.concat_eq_append]⟩
theorem kv_ne : ¬ (Sum.inr (Str.ofString "great") : Key) = Sum.inr (Str.ofString "mixed") := by decide
theorem kv_great {gr : Addr} {m : Int} : valV (kvBox gr m) (.inr "great") = some (.ref gr) := valV_pos rfl
theorem kv_mixed {gr : Addr} {m : Int} : valV (kvBox gr m) (.inr "mixed") = some (.int m) := by
  unfold kvBox
  rw [valV_neg kv_ne]
  exact valV_pos rfl
theorem kv_put {gr : Addr} {m i : Int} : putK (kvBox gr m) (.inr "mixed") (.int i) = kvBox gr i := by
  have e := kv_ne
  simp [putK, kvBox, e]
/-- what the draws want of the module's names -/
structure TxtD (mg : Str → Option Value) : Prop where
  int : mg "int" = none
  len : mg "len" = none
  abs : mg "abs" = none
  range : mg "range" = none
def spTake : Sp := fun vs H Q _ => ∃ (b gr : Addr) (m : Int), vs = [.ref b, .int m] ∧ BoxD H b gr ∧ 0 < m ∧ m < 1073741824 ∧ ∀ (r : Int) (H' : Hp), 0 ≤ r → r < m → BoxD H' b gr → K2 b gr H H' → Q (.int r) H'
theorem ints_dp {K : PySem.W.Frag} {H : Hp} {p : Addr} {ns : List Int} (h : SqL K H p (ns.map V.int)) : Dp K H (.ref p) (.list (ns.map .int)) := .lst h (by
  clear h
  induction ns with
  | nil => exact .nil
  | cons n ns ih => exact .cons (.int n) ih)
theorem eqv_nil (ns : List Int) : PyData.eqv (.list (ns.map .int)) (.list []) = ns.isEmpty := by
  cases ns <;> rfl
theorem get_great {b gr : Addr} {m : Int} {H : Hp} (h : H b = some (.dK (kvBox gr m))) : DGet H b (.str "great") (some (.ref gr)) := by
  have q := DGet.k (k := .inr "great") h
  rw [kv_great] at q
  exact q
theorem get_mixed {b gr : Addr} {m : Int} {H : Hp} (h : H b = some (.dK (kvBox gr m))) : DGet H b (.str "mixed") (some (.int m)) := by
  have q := DGet.k (k := .inr "mixed") h
  rw [kv_mixed] at q
  exact q
theorem put_mixed {b gr : Addr} {m i : Int} {H : Hp} (h : H b = some (.dK (kvBox gr m))) : DPut H b (.str "mixed") (.int i) (upd H b (.dK (kvBox gr i))) := by
  have q := DPut.k (k := .inr "mixed") (v := .int i) h (by rw [sizeLine_eq]; show 2 < _; omega)
  rw [kv_put] at q
  exact q
section
variable {P : Program} {w : World} {K : PySem.W.Frag} {mg : Str → Option Value} {base : Heap}
theorem scTake : FnScope ["_law_box", "_law_wide", "_law_great", "_law_cell"] ["_law_box", "_law_wide"] (defScope sTake) := ⟨rfl, rfl, rfl, by decide +kernel, rfl, by decide +kernel, by decide +kernel⟩
theorem ok_take {f : Addr} {fd : FuncData} (F : Fun K "_law_take" "_law_take" sTake f fd) (T : TxtD mg) : FnOk P w K mg base CX0 1 f fd ["_law_box", "_law_wide"] spTake := by
  refine F.ok scTake (fun vs H Q E h => ?_) (fun cdv A outer s H vs Q E hr h => ?_)
  · obtain ⟨b, gr, m, rfl, _⟩ := h
    rfl
  · obtain ⟨b, gr, m, rfl, bx, hm, hm2, k⟩ := h
    refine ⟨_, (pss_cons (ps_set (i := 2) scTake.nd rfl (.inl rfl) (pe_dget (hu_of hr) (pv 0) pe_str (fun _ _ => rfl)))
    (C8.pss_cut (ps_while PassesOwn.never (PW.pt (pw_and (pt_cmpR (op_neD hr.units) (pv 2) (pe_lst pa_nil) (nomark _)) (pw_and1 (pt_cmpR op_eq (pe_ix ix_list (pv 2) (pe_un un_neg pe_int) (fun _ _ => rfl)) pe_int (nomark _)))))
      (pss_one (ps_expr (pe_bm0 PySem.F.plainAttrs_list PySem.F.slot_list_pop PySem.F.type_list_pop mt_pop (pv 2)))))
    (pss_cons (ps_if (pt_cmpR (op_neD hr.units) (pv 2) (pe_lst pa_nil) (nomark _))
      (pss_cons (ps_set (i := 3) scTake.nd rfl (.inl rfl) (pe_bm0 PySem.F.plainAttrs_list PySem.F.slot_list_pop PySem.F.type_list_pop mt_pop (pv 2)))
      (pss_cons (ps_expr (pe_bm PySem.F.plainAttrs_list PySem.F.slot_list_append PySem.F.type_list_append mt_append (pv 2) (pa_cons (pe_op op_fdiv (pv 3) (pv 1)) pa_nil)))
      (pss_one (ps_ret (pe_op op_mod (pe_callTy call_int1 (by rfl) T.int (by decide +kernel) (pa_cons (pv 3) pa_nil)) (pv 1))))))
      pss_nil)
    (pss_cons (ps_dput (hu_of hr) (pv 0) pe_str (pe_op op_mod (pe_callTy call_int1 (by rfl) T.int (by decide +kernel) (pa_cons (pe_op op_add (pe_op op_mul (pe_dget (hu_of hr) (pv 0) pe_str (fun _ _ => rfl)) pe_int) pe_int) pa_nil)) pe_int) (by rfl))
    (pss_one (ps_ret (pe_op op_mod (pe_callTy call_int1 (by rfl) T.int (by decide +kernel) (pa_cons (pe_op op_fdiv (pe_dget (hu_of hr) (pv 0) pe_str (fun _ _ => rfl)) pe_int) pa_nil)) (pv 1)))))))), ?_⟩
    obtain ⟨⟨x, hb⟩, ns, hg, hl⟩ := bx
    have ngb : gr ≠ b := fun z => by
      rw [z, hb] at hg
      cases hg
    refine ⟨_, rfl, b, _, rfl, get_great hb, ?_⟩
    refine ⟨fun σ G => ∃ ms : List Int, σ = [some (.ref b), some (.int m), some (.ref gr), none] ∧ G gr = some (.lst (ms.map V.int)) ∧ ms.length ≤ 1000 ∧ G b = some (.dK (kvBox gr x)) ∧ K2 b gr H G, ?_, ?_⟩
    · refine ⟨fun n σ G => ∃ ms : List Int, n = ms.length ∧ σ = [some (.ref b), some (.int m), some (.ref gr), none] ∧ G gr = some (.lst (ms.map V.int)) ∧ ms.length ≤ 1000 ∧ G b = some (.dK (kvBox gr x)) ∧ K2 b gr H G, ⟨_, ns, rfl, rfl, hg, hl, hb, K2.refl _ _ _⟩, ?_⟩
      rintro n σ G ⟨ms, rfl, rfl, hg1, hl1, hb1, k1⟩
      refine ⟨_, rfl, (by show 0 ≤ sizeLine; exact Nat.zero_le _), fun q nq => ⟨.list (ms.map .int), .list [], ints_dp (SqL.of (Same.new nq _ _ hg1)), .lst (SqL.of upd_same) .nil, PySem.W.shaped_ints ms, rfl, _, rfl, ?_⟩⟩
      have s1 := Same.new nq (o := .lst [])
      rw [eqv_nil]
      rcases snocs ms with rfl | ⟨init, z, rfl⟩
      · exact iteN rfl (iteN rfl ⟨[], rfl, s1 _ _ hg1, hl1, s1 _ _ hb1, k1.trans (K2.of_same s1)⟩)
      · have hg2 : upd G q (.lst []) gr = some (.lst (init.map V.int ++ [.int z])) := by
          have := s1 _ _ hg1
          rw [List.map_append] at this
          exact this
        refine iteY (by cases init <;> rfl) ⟨_, rfl, _, rfl, gr, _, _, _, rfl, rfl, SqL.of hg2, atI_last _ _, rfl, _, rfl, ?_⟩
        refine ite2 (fun hz => ?_) (fun hz => ?_)
        · have li : init.length < (init ++ [z]).length := by rw [List.length_append]; show _ < _ + 1; omega
          refine ⟨fun σ' G' => σ' = [some (.ref b), some (.int m), some (.ref gr), none] ∧ G' gr = some (.lst (init.map V.int)) ∧ G' b = some (.dK (kvBox gr x)) ∧ K2 b gr H G', fun σ' G' ⟨e1, e2, e3, e4⟩ => ⟨_, li, init, rfl, e1, e2, by omega, e3, e4⟩, ?_⟩
          refine ⟨_, rfl, .inl ⟨rfl, _, SqL.of hg2⟩, gr, _, .int z, rfl, rfl, hg2, by simp, rfl, ?_, ?_, ?_⟩
          · rw [upd_same, List.dropLast_concat]
          · rw [upd_ne (Ne.symm ngb)]
            exact s1 _ _ hb1
          · exact (k1.trans (K2.of_same s1)).trans K2.g
        · refine ⟨init ++ [z], rfl, ?_, hl1, s1 _ _ hb1, k1.trans (K2.of_same s1)⟩
          rw [List.map_append]
          exact hg2
    · rintro σ G ⟨ms, rfl, hg1, hl1, hb1, k1⟩
      refine ⟨_, rfl, (by show 0 ≤ sizeLine; exact Nat.zero_le _), fun q nq => ⟨.list (ms.map .int), .list [], ints_dp (SqL.of (Same.new nq _ _ hg1)), .lst (SqL.of upd_same) .nil, PySem.W.shaped_ints ms, rfl, _, rfl, ?_⟩⟩
      have s1 := Same.new nq (o := .lst [])
      have k2 := k1.trans (K2.of_same s1)
      rw [eqv_nil]
      rcases snocs ms with rfl | ⟨init, z, rfl⟩
      · refine iteN rfl ?_
        have hb2 := s1 _ _ hb1
        have hg2 := s1 _ _ hg1
        refine ⟨_, rfl, b, _, rfl, get_mixed hb2, _, _, rfl, rfl, .inr ⟨by decide, by decide⟩, _, _, rfl, rfl, .inl ⟨_, rfl, _, _, rfl, rfl, (by show (0 : Int) < 2147483647; decide), _, rfl, b, _, rfl, put_mixed hb2, ?_⟩⟩
        refine ⟨_, rfl, b, _, rfl, get_mixed upd_same, _, _, rfl, rfl, ⟨by decide, by decide⟩, .inl ⟨_, rfl, _, rfl, _, _, rfl, rfl, hm, ?_⟩⟩
        refine k _ _ (Int.emod_nonneg _ (by omega)) (Int.emod_lt_of_pos _ hm) ⟨⟨_, upd_same⟩, [], by rw [upd_ne ngb]; exact hg2, hl1⟩ (k2.trans K2.b)
      · have hg2 : upd G q (.lst []) gr = some (.lst (init.map V.int ++ [.int z])) := by
          have := s1 _ _ hg1
          rw [List.map_append] at this
          exact this
        refine iteY (by cases init <;> rfl) ?_
        refine ⟨_, rfl, .inl ⟨rfl, _, SqL.of hg2⟩, gr, _, .int z, rfl, rfl, hg2, by simp, ?_⟩
        rw [List.dropLast_concat]
        refine ⟨_, rfl, .inl ⟨rfl, _, SqL.of upd_same⟩, _, rfl, _, rfl, _, _, rfl, rfl, ⟨hm, hm2⟩, gr, _, _, rfl, rfl, upd_same, ?_, ?_⟩
        · rw [List.length_map]
          rw [List.length_append] at hl1
          exact small1000 (by omega)
        · refine ⟨_, rfl, .inl ⟨_, rfl, _, rfl, _, _, rfl, rfl, hm, ?_⟩⟩
          refine k _ _ (Int.emod_nonneg _ (by omega)) (Int.emod_lt_of_pos _ hm) ⟨⟨x, ?_⟩, init ++ [z / m], ?_, ?_⟩ ?_
          · rw [upd_ne (Ne.symm ngb), upd_ne (Ne.symm ngb)]
            exact s1 _ _ hb1
          · rw [upd_same, List.map_append]
            rfl
          · rw [List.length_append] at hl1 ⊢
            exact hl1
          · exact (k2.trans K2.g).trans K2.g
end
end Lay
set_option Elab.async false
set_option linter.all false
set_option maxRecDepth 100000
set_option maxHeartbeats 4000000
namespace Lay
open PySem L2
def spPick (K : PySem.W.Frag) : Sp := fun vs H Q _ => ∃ (b gr l : Addr) (xs : List V), vs = [.ref b, .ref l] ∧ BoxD H b gr ∧ l ≠ b ∧ l ≠ gr ∧ (H l = some (.lst xs) ∨ H l = some (.tup xs)) ∧ 0 < xs.length ∧ xs.length ≤ 1000 ∧ ∀ (v : V) (H' : Hp), v ∈ xs → BoxD H' b gr → K2 b gr H H' → Q v H'
def spFeed (K : PySem.W.Frag) : Sp := fun vs H Q _ => ∃ (a : Addr) (ns : List Int) (i : Int), vs = [.ref a, .int i] ∧ SqL K H a (ns.map V.int) ∧ 0 ≤ i ∧ i ≤ 1000 ∧ ns.length ≤ 1000 ∧ ∀ (b gr : Addr) (H' : Hp), Same H H' → H b = none → H gr = none → BoxD H' b gr → Q (.ref b) H'
theorem sIx_le' {α : Type} (xs : List α) (lo hi : Option Int) : ((xs.drop (HT.sIx xs.length 0 lo)).take (HT.sIx xs.length xs.length hi - HT.sIx xs.length 0 lo)).length ≤ xs.length := by
  rw [List.length_take, List.length_drop]
  omega
theorem cut_ints (ns : List Int) (lo hi : Option Int) : ∃ ms : List Int, cutV (ns.map V.int) lo hi = ms.map V.int ∧ ms.length ≤ ns.length := by
  refine ⟨(ns.drop (HT.sIx ns.length 0 lo)).take (HT.sIx ns.length ns.length hi - HT.sIx ns.length 0 lo), ?_, sIx_le' ns lo hi⟩
  unfold cutV
  rw [List.length_map, List.map_take, List.map_drop]
theorem merge_box {gr : Addr} {m : Int} : mergeK [] [((.inr "great" : Key), V.ref gr), (.inr "mixed", .int m)] = kvBox gr m := by
  have e := kv_ne
  simp [mergeK, putK, kvBox, e]
section
variable {P : Program} {w : World} {K : PySem.W.Frag} {mg : Str → Option Value} {base : Heap}
theorem scPick : FnScope ["_law_box", "_law_some"] ["_law_box", "_law_some"] (defScope sPick) := ⟨rfl, rfl, rfl, by decide +kernel, rfl, by decide +kernel, by decide +kernel⟩
theorem ok_pick {f fT : Addr} {fd fdT : FuncData} (F : Fun K "_law_pick" "_law_pick" sPick f fd) (T : TxtD mg) (GT : FnOk P w K mg base CX0 1 fT fdT ["_law_box", "_law_wide"] spTake) (gT : mg "_law_take" = some (.ref fT)) (kT : PySem.W.keepIn K (.ref fT) = true) (bT : Binds K fdT ["_law_box", "_law_wide"] []) :
    FnOk P w K mg base CX0 2 f fd ["_law_box", "_law_some"] (spPick K) := by
  refine F.ok scPick (fun vs H Q E h => ?_) (fun cdv A outer s H vs Q E hr h => ?_)
  · obtain ⟨b, gr, l, xs, rfl, _⟩ := h
    rfl
  · obtain ⟨b, gr, l, xs, rfl, bx, n1, n2, hs, h0, h1, k⟩ := h
    rcases hs with hs | hs
    · refine ⟨_, (pss_one (ps_ret (pe_ix ix_list (pv 1) (pe_call GT hr (by rfl) gT kT bT .nil pass0 (pa_cons (pv 0) (pa_cons (pe_callB call_len_seq (by rfl) T.len (by decide +kernel) (pa_cons (pv 1) pa_nil)) pa_nil))) (fun _ _ => rfl)))), ?_⟩
      refine ⟨_, rfl, _, rfl, _, rfl, l, xs, rfl, .inl (SqL.of hs), b, gr, _, rfl, bx, by omega, by omega, fun r H' r0 r1 bx' k2 => ?_⟩
      have hr' : r.toNat < xs.length := by omega
      have er : r = ((r.toNat : Nat) : Int) := by omega
      exact ⟨l, xs, r, xs[r.toNat], rfl, rfl, SqL.of (k2 _ _ n1 n2 hs), at_of er (by simp [hr']), k _ _ (List.getElem_mem hr') bx' k2⟩
    · refine ⟨_, (pss_one (ps_ret (pe_ix ix_tup (pv 1) (pe_call GT hr (by rfl) gT kT bT .nil pass0 (pa_cons (pv 0) (pa_cons (pe_callB call_len_seq (by rfl) T.len (by decide +kernel) (pa_cons (pv 1) pa_nil)) pa_nil))) (fun _ _ => rfl)))), ?_⟩
      refine ⟨_, rfl, _, rfl, _, rfl, l, xs, rfl, .inr (SqT.of hs), b, gr, _, rfl, bx, by omega, by omega, fun r H' r0 r1 bx' k2 => ?_⟩
      have hr' : r.toNat < xs.length := by omega
      have er : r = ((r.toNat : Nat) : Int) := by omega
      exact ⟨l, xs, r, xs[r.toNat], rfl, rfl, SqT.of (k2 _ _ n1 n2 hs), at_of er (by simp [hr']), k _ _ (List.getElem_mem hr') bx' k2⟩
def feedN : List Str := ["_law_script", "_law_base", "_law_cell", "_law_cells", "_law_mixed"]
theorem scFeed : FnScope feedN ["_law_script", "_law_base"] (defScope sFeed) := ⟨rfl, rfl, rfl, by decide +kernel, rfl, by decide +kernel, by decide +kernel⟩
theorem ok_feed {f : Addr} {fd : FuncData} (F : Fun K "_law_feed" "_law_feed" sFeed f fd) (T : TxtD mg) : FnOk P w K mg base CX0 1 f fd ["_law_script", "_law_base"] (spFeed K) := by
  refine F.ok scFeed (fun vs H Q E h => ?_) (fun cdv A outer s H vs Q E hr h => ?_)
  · obtain ⟨a, ns, i, rfl, _⟩ := h
    rfl
  · obtain ⟨a, ns, i, rfl, hs, i0, i1, hn, k⟩ := h
    refine ⟨_, (C8.pss_cut (ps_setLc (i := 3) (own := [("_law_cell", 2)]) (g := gName 2) (tt := tYes) rfl scFeed.nd rfl rfl (sw_true rfl rfl rfl (by decide +kernel)) (pi_list (pe_slice sl_list (pv 0) (po_some (pv 1)) (po_some (pe_op op_add (pv 1) pe_int)))) (blkOk_by (N := feedN) (sc := defScope sFeed) (by decide +kernel)) (fun _ _ _ _ _ => pg_name (i := 2) scFeed.nd rfl (Or.inl rfl)) (fun _ _ _ _ _ => pts_nil)
        (fun _ _ _ _ _ => pe_callB call_abs (by rfl) T.abs (by decide +kernel) (pa_cons (pe_callTy call_int1 (by rfl) T.int (by decide +kernel) (pa_cons (pv 2) pa_nil)) pa_nil)))
      (pss_cons (ps_set (i := 4) scFeed.nd rfl (.inl rfl) (pe_op op_add pe_int (pe_op op_mul pe_int (pv 1))))
      (C8.pss_cut (ps_for PassesOwn.never rfl (pi_list (pv 3)) (pg_name (i := 2) scFeed.nd rfl (.inl rfl))
        (pss_one (ps_set (i := 4) scFeed.nd rfl (.inl rfl) (pe_op op_mod (pe_callTy call_int1 (by rfl) T.int (by decide +kernel) (pa_cons (pe_op op_add (pe_op op_add (pe_callTy call_int1 (by rfl) T.int (by decide +kernel) (pa_cons (pe_op op_mul (pv 4) pe_int) pa_nil)) (pe_op op_mod (pe_callTy call_int1 (by rfl) T.int (by decide +kernel) (pa_cons (pv 2) pa_nil)) pe_int)) pe_int) pa_nil)) pe_int))))
      (pss_one (ps_ret (pe_disp (pps_cons pe_str (pe_revL (pe_lc (own := [("_law_cell", 2)]) (g := gName 2) (by rfl) scFeed.nd (pi_list (pv 3)) (blkOk_by (N := feedN) (sc := defScope sFeed) (by decide +kernel)) (fun _ _ _ _ _ => pg_name (i := 2) scFeed.nd rfl (Or.inl rfl))
          (fun _ _ _ _ _ => pts_one (pt_cmpR op_ge (pv 2) (pe_op op_pow pe_int pe_int) (nomark _))) (fun _ _ _ _ _ => pv 2))) (pps_cons pe_str (pv 4) pps_nil)) rfl rfl (by decide) (by decide))))))), ?_⟩
    refine ⟨fun σ G => ∃ (x2 x4 : Option V) (C1 : Addr) (ms : List Int), σ = [some (.ref a), some (.int i), x2, some (.ref C1), x4] ∧ Same H G ∧ G C1 = some (.lst (ms.map V.int)) ∧ ms.length ≤ 1000, ?_, ?_⟩
    · refine ⟨_, rfl, _, rfl, i, rfl, _, rfl, _, _, rfl, rfl, _, rfl, a, _, rfl, hs, fun p np => ?_⟩
      obtain ⟨ms, em, lm⟩ := cut_ints ns (some i) (some (i + 60))
      have hp : upd H p (.lst (cutV (ns.map V.int) (some i) (some (i + 60)))) p = some (.lst (ms.map V.int)) := by rw [upd_same, em]
      have s1 := Same.new np (o := .lst (cutV (ns.map V.int) (some i) (some (i + 60))))
      refine ⟨p, rfl, ⟨_, SqL.of hp⟩, fun D nD => lc_list (xs := ms.map V.int) (fun j G => ∃ acc : List Int, Same H G ∧ G p = some (.lst (ms.map V.int)) ∧ G D = some (.lst (acc.map V.int)) ∧ acc.length = j) ⟨[], s1.trans (Same.new nD), Same.new nD _ _ hp, upd_same, rfl⟩ (fun j G _ q => SqL.of (by obtain ⟨acc, _, q, _⟩ := q; exact q)) ?_ ?_⟩
      · rintro j x G hx ⟨acc, sG, hp', hD, hl⟩
        obtain ⟨z, rfl⟩ : ∃ z, x = V.int z := by
          rw [List.getElem?_map] at hx
          cases q : ms[j]? with
          | none => rw [q] at hx; cases hx
          | some z => rw [q] at hx; exact ⟨z, (Option.some.inj hx).symm⟩
        have hj : j < ms.length := by
          have := (List.getElem?_eq_some_iff.mp hx).1
          rw [List.length_map] at this
          exact this
        have nDp : D ≠ p := fun z => by
          rw [z] at nD
          rw [hp] at nD
          cases nD
        refine ⟨rfl, _, rfl, .inl ⟨_, rfl, _, rfl, _, hD, ?_, acc ++ [if z < 0 then -z else z], fun c u e => ?_, ?_, ?_, ?_⟩⟩
        · rw [List.length_map, hl]
          exact small1000 (by omega)
        · rw [upd_ne (ne_of_none (s1 _ _ e) nD)]
          exact sG _ _ e
        · rw [upd_ne (Ne.symm nDp)]
          exact hp'
        · rw [upd_same, List.map_append]
          rfl
        · rw [List.length_append, hl]
          rfl
      · rintro G ⟨acc, sG, hp', hD, hl⟩
        rw [List.length_map] at hl
        exact ⟨_, _, D, acc, rfl, sG, hD, by omega⟩
    · rintro σ G ⟨x2, x4, C1, ms, rfl, sG, hC, hl⟩
      refine ⟨_, rfl, _, _, rfl, rfl, .inl ⟨by decide, by decide⟩, _, _, rfl, rfl, ?_⟩
      refine ⟨fun σ G' => ∃ (x2 : Option V) (m : Int), σ = [some (.ref a), some (.int i), x2, some (.ref C1), some (.int m)] ∧ G' = G, ?_, ?_⟩
      · refine ⟨_, rfl, C1, rfl, ⟨_, SqL.of hC⟩, for_list (xs := ms.map V.int) (fun j σ G' => ∃ (x2 : Option V) (m : Int), σ = [some (.ref a), some (.int i), x2, some (.ref C1), some (.int m)] ∧ G' = G) ⟨_, _, rfl, rfl⟩ (fun j σ G' _ q => SqL.of (by obtain ⟨_, _, _, q⟩ := q; rw [q]; exact hC)) ?_ (fun σ G' q => q)⟩
        rintro j x σ G' hx ⟨x2, m, rfl, rfl⟩
        obtain ⟨z, rfl⟩ : ∃ z, x = V.int z := by
          rw [List.getElem?_map] at hx
          cases q : ms[j]? with
          | none => rw [q] at hx; cases hx
          | some z => rw [q] at hx; exact ⟨z, (Option.some.inj hx).symm⟩
        exact ⟨_, rfl, _, _, rfl, rfl, .inr ⟨by decide, by decide⟩, .inl ⟨_, rfl, _, rfl, .inl ⟨_, rfl, _, _, rfl, rfl, (by show (0 : Int) < 2147483587; decide), _, _, rfl, rfl, _, _, rfl, rfl, .inl ⟨_, rfl, _, _, rfl, rfl, (by show (0 : Int) < 2147483647; decide), _, _, rfl, rfl⟩⟩⟩⟩
      · rintro σ G' ⟨x2, m, rfl, rfl⟩
        refine fun p np => ⟨_, rfl, C1, rfl, ⟨_, SqL.of (Same.new np _ _ hC)⟩, fun D nD => lc_list (xs := ms.map V.int) (fun j H' => ∃ acc : List Int, Same G' H' ∧ H' C1 = some (.lst (ms.map V.int)) ∧ H' p = some (.dK []) ∧ H' D = some (.lst (acc.map V.int)) ∧ acc.length ≤ j)
          ⟨[], (Same.new np).trans (Same.new nD), Same.new nD _ _ (Same.new np _ _ hC), Same.new nD _ _ upd_same, upd_same, Nat.le_refl _⟩ (fun j G _ q => SqL.of (by obtain ⟨acc, _, q, _⟩ := q; exact q)) ?_ ?_⟩
        · rintro j x H' hx ⟨acc, sH, hC', hp', hD, hl'⟩
          obtain ⟨z, rfl⟩ : ∃ z, x = V.int z := by
            rw [List.getElem?_map] at hx
            cases q : ms[j]? with
            | none => rw [q] at hx; cases hx
            | some z => rw [q] at hx; exact ⟨z, (Option.some.inj hx).symm⟩
          have hj : j < ms.length := by
            have := (List.getElem?_eq_some_iff.mp hx).1
            rw [List.length_map] at this
            exact this
          have nDC : C1 ≠ D := ne_of_none (Same.new np _ _ hC) nD
          have nDp : p ≠ D := ne_of_none (upd_same (H := G') (a := p) (o := .dK [])) nD
          refine ⟨rfl, _, rfl, _, _, rfl, rfl, ⟨by decide, by decide, by decide⟩, _, _, rfl, rfl, _, rfl, ?_⟩
          refine ite2 (fun _ => ?_) (fun _ => ⟨acc, sH, hC', hp', hD, by omega⟩)
          refine ⟨_, rfl, _, hD, ?_, acc ++ [z], fun c u e => ?_, ?_, ?_, ?_, ?_⟩
          · rw [List.length_map]
            exact small1000 (by omega)
          · rw [upd_ne (ne_of_none ((Same.new np) _ _ e) nD)]
            exact sH _ _ e
          · rw [upd_ne nDC]
            exact hC'
          · rw [upd_ne nDp]
            exact hp'
          · rw [upd_same, List.map_append]
            rfl
          · rw [List.length_append]
            show acc.length + 1 ≤ j + 1
            omega
        · rintro H' ⟨acc, sH, hC', hp', hD, hl'⟩
          rw [List.length_map] at hl'
          refine ⟨D, _, rfl, SqL.of hD, fun gr ng => ⟨_, rfl, Same.new ng _ _ hp', [(.inr "great", .ref gr), (.inr "mixed", .int m)], rfl, (by show 2 ≤ 15; decide), ?_⟩⟩
          rw [merge_box]
          have ngp : gr ≠ p := (ne_of_none hp' ng).symm
          refine k p gr _ (fun c u e => ?_) (sG.free np) (((sG.trans sH)).free ng) ⟨⟨m, upd_same⟩, acc.reverse, ?_, ?_⟩
          · have e1 := sG _ _ e
            rw [upd_ne (ne_of_none e1 np)]
            exact Same.new ng _ _ (sH _ _ e1)
          · rw [upd_ne ngp, upd_same, List.map_reverse]
          · rw [List.length_reverse]
            omega
end
end Lay
set_option Elab.async false
set_option linter.all false
set_option maxRecDepth 100000
set_option maxHeartbeats 4000000
namespace Lay
open PySem L2
/-- the names of the module that must be Python's own -/
structure TxtK (mg : Str → Option Value) : Prop where
  str : mg "str" = none
  list : mg "list" = none
  tuple : mg "tuple" = none
  isinstance : mg "isinstance" = none
  len : mg "len" = none
  all : mg "all" = none
theorem TyOf.same {K : PySem.W.Frag} {H H' : Hp} {x : V} {t : Value} (s : Same H H') (h : TyOf K H x t) : TyOf K H' x t := by
  cases h with
  | non => exact .non
  | bl b => exact .bl b
  | int i => exact .int i
  | str z => exact .str z
  | flt z => exact .flt z
  | lst e => exact .lst (s _ _ e)
  | frz e => exact .frz (s _ _ e)
  | tup e => exact .tup (s _ _ e)
  | dK e => exact .dK (s _ _ e)
  | dT e => exact .dT (s _ _ e)
  | ins e cl ha hn htk hm => exact .ins (s _ _ e) cl ha hn htk hm
theorem TyX.same {K : PySem.W.Frag} {H H' : Hp} {x : V} {t : Value} (s : Same H H') (h : TyX K H x t) : TyX K H' x t := by
  cases h with
  | base h => exact .base (TyOf.same s h)
  | byt b => exact .byt b
  | set e => exact .set (s _ _ e)
  | kList e c => exact .kList e c
  | kTuple e c => exact .kTuple e c
  | kDict e c => exact .kDict e c
  | fTuple e => exact .fTuple (s _ _ e)
  | fDict e => exact .fDict (s _ _ e)
/-- isinstance of the built-in class n -/
def IsT (K : PySem.W.Frag) (H : Hp) (x : V) (n : String) (b : Bool) : Prop := ∃ t, TyX K H x t ∧ PySem.W.kitOne K t (.type n) = some b
theorem IsT.same {K : PySem.W.Frag} {H H' : Hp} {x : V} {n : String} {b : Bool} (s : Same H H') (h : IsT K H x n b) : IsT K H' x n b := by
  obtain ⟨t, h1, h2⟩ := h
  exact ⟨t, TyX.same s h1, h2⟩
theorem isT_str {K : PySem.W.Frag} {H : Hp} {z : Str} : IsT K H (.str z) "str" true := ⟨_, .base (.str z), kit_ty (by decide +kernel)⟩
/-- is it a list or a tuple -/
def IsSeq (K : PySem.W.Frag) (H : Hp) (x : V) (b : Bool) : Prop := ∃ t, TyX K H x t ∧ PySem.W.kitAny K t [.type "list", .type "tuple"] = some b
theorem IsSeq.same {K : PySem.W.Frag} {H H' : Hp} {x : V} {b : Bool} (s : Same H H') (h : IsSeq K H x b) : IsSeq K H' x b := by
  obtain ⟨t, h1, h2⟩ := h
  exact ⟨t, TyX.same s h1, h2⟩
theorem kitAny_lt {K : PySem.W.Frag} {t : Value} {b c : Bool} (h1 : PySem.W.kitOne K t (.type "list") = some b) (h2 : PySem.W.kitOne K t (.type "tuple") = some c) : PySem.W.kitAny K t [.type "list", .type "tuple"] = some (b || c) := by
  refine kitAny_cons h1 (fun hb => ?_) (fun hb => by rw [hb]; rfl)
  subst hb
  exact kitAny_cons h2 (fun hc => by subst hc; exact kitAny_nil) (fun hc => by rw [hc]; rfl)
/-- what is a list or a tuple of xs -/
def SqX (H : Hp) (a : Addr) (xs : List V) : Prop := H a = some (.lst xs) ∨ H a = some (.tup xs)
theorem SqX.same {H H' : Hp} {a : Addr} {xs : List V} (s : Same H H') (h : SqX H a xs) : SqX H' a xs := h.imp (s _ _) (s _ _)
theorem SqX.seq {K : PySem.W.Frag} {H : Hp} {a : Addr} {xs : List V} (h : SqX H a xs) : IsSeq K H (.ref a) true := by
  rcases h with h | h
  · exact ⟨_, .base (.lst h), kitAny_lt (b := true) (c := false) (kit_ty (by decide +kernel)) (kit_ty (by decide +kernel))⟩
  · exact ⟨_, .base (.tup h), kitAny_lt (b := false) (c := true) (kit_ty (by decide +kernel)) (kit_ty (by decide +kernel))⟩
/-! ### words -/
def testL : List Str := ["broken", "marked", "left", "ahead", "behind", "blank", "long", "first", "afterbroken", "afterbehind"]
def deedL : List Str := ["break", "join", "mark", "unmark", "lift", "lower", "space", "close"]
def progT (z : Str) : Bool := inV (.str (Txt.removeprefix z "not ")) (testL.map V.str)
def progD (z : Str) : Bool := inV (.str z) (deedL.map V.str)
theorem flat_strs (zs : List Str) : (zs.map V.str).all flatV = true := by
  induction zs with
  | nil => rfl
  | cons z zs ih => exact (Bool.and_eq_true_iff.mpr ⟨rfl, ih⟩)
/-- what one thing's test answers: f of a text, no otherwise -/
def ItB (f : Str → Bool) (K : PySem.W.Frag) (H : Hp) (x : V) (b : Bool) : Prop := (∃ z, x = .str z ∧ z.length ≤ 1000 ∧ b = f z) ∨ (b = false ∧ IsT K H x "str" false)
theorem ItB.same {f : Str → Bool} {K : PySem.W.Frag} {H H' : Hp} {x : V} {b : Bool} (s : Same H H') (h : ItB f K H x b) : ItB f K H' x b := h.imp id fun ⟨e, t⟩ => ⟨e, t.same s⟩
def ItBs (f : Str → Bool) (K : PySem.W.Frag) (H : Hp) (xs : List V) (bs : List Bool) : Prop := bs.length = xs.length ∧ ∀ (i : Nat) (x : V) (b : Bool), xs[i]? = some x → bs[i]? = some b → ItB f K H x b
theorem ItBs.same {f : Str → Bool} {K : PySem.W.Frag} {H H' : Hp} {xs : List V} {bs : List Bool} (s : Same H H') (h : ItBs f K H xs bs) : ItBs f K H' xs bs := ⟨h.1, fun i x b h1 h2 => (h.2 i x b h1 h2).same s⟩
/-- what is said of a value: r, where more is what must hold of a sequence besides -/
def AnsV (f : Str → Bool) (more : List V → Bool) (K : PySem.W.Frag) (H : Hp) (x : V) (r : Bool) : Prop := (IsSeq K H x false ∧ r = false) ∨ ∃ a xs bs, x = .ref a ∧ SqX H a xs ∧ xs.length ≤ 1000 ∧ ItBs f K H xs bs ∧ r = (more xs && bs.all id)
theorem AnsV.same {f : Str → Bool} {more : List V → Bool} {K : PySem.W.Frag} {H H' : Hp} {x : V} {r : Bool} (s : Same H H') (h : AnsV f more K H x r) : AnsV f more K H' x r := by
  rcases h with ⟨h, e⟩ | ⟨a, xs, bs, e, h1, h2, h3, h4⟩
  · exact .inl ⟨h.same s, e⟩
  · exact .inr ⟨a, xs, bs, e, h1.same s, h2, h3.same s, h4⟩
def yes (_ : List V) : Bool := true
def full (xs : List V) : Bool := decide (0 < xs.length)
def spSeq (K : PySem.W.Frag) : Sp := fun vs H Q _ => ∃ x b, vs = [x] ∧ IsSeq K H x b ∧ ∀ H', Same H H' → Q (.bl b) H'
def spOne (f : Str → Bool) (K : PySem.W.Frag) : Sp := fun vs H Q _ => ∃ x b, vs = [x] ∧ ItB f K H x b ∧ Q (.bl b) H
def spAre (f : Str → Bool) (more : List V → Bool) (K : PySem.W.Frag) : Sp := fun vs H Q _ => ∃ x r, vs = [x] ∧ AnsV f more K H x r ∧ ∀ H', Same H H' → Q (.bl r) H'
abbrev sSeq : Stmt := top 5
abbrev sTest : Stmt := top 9
abbrev sDeed : Stmt := top 10
abbrev sAreT : Stmt := top 11
abbrev sAreD : Stmt := top 12
section
variable {P : Program} {w : World} {K : PySem.W.Frag} {mg : Str → Option Value} {base : Heap}
theorem scSeq : FnScope ["value"] ["value"] (defScope sSeq) := ⟨rfl, rfl, rfl, by decide +kernel, rfl, by decide +kernel, by decide +kernel⟩
theorem ok_seq {f : Addr} {fd : FuncData} (F : Fun K "is_sequence" "is_sequence" sSeq f fd) (T : TxtK mg) : FnOk P w K mg base CX0 1 f fd ["value"] (spSeq K) := by
  refine F.ok scSeq (fun vs H Q E h => ?_) (fun cdv A outer s H vs Q E hr h => ?_)
  · obtain ⟨x, b, rfl, _⟩ := h
    rfl
  · obtain ⟨x, b, rfl, ⟨t, ty, e⟩, k⟩ := h
    refine ⟨_, (pss_one (ps_ret (pe_callB call_isiT (by rfl) T.isinstance (by decide +kernel) (pa_cons (pv 0) (pa_cons (pe_tup (pa_cons (pe_bltn (v := .ty "list") (by rfl) T.list (by decide +kernel) rfl) (pa_cons (pe_bltn (v := .ty "tuple") (by rfl) T.tuple (by decide +kernel) rfl) pa_nil))) pa_nil))))), ?_⟩
    refine ⟨_, rfl, (by show 2 ≤ sizeLine; decide), fun p hp => ?_⟩
    exact ⟨x, p, _, t, _, b, rfl, upd_same, .cons (.ty _) (.cons (.ty _) .nil), TyX.same (Same.new hp) ty, e, k _ (Same.new hp)⟩
theorem scTest : FnScope ["value"] ["value"] (defScope sTest) := ⟨rfl, rfl, rfl, by decide +kernel, rfl, by decide +kernel, by decide +kernel⟩
theorem ok_test {f tT : Addr} {fd : FuncData} (F : Fun K "is_test" "is_test" sTest f fd) (T : TxtK mg) (gT : mg "TESTS" = some (.ref tT)) (hT : ∀ H : Hp, SqT K H tT (testL.map V.str)) : FnOk P w K mg base CX0 1 f fd ["value"] (spOne progT K) := by
  refine F.ok scTest (fun vs H Q E h => ?_) (fun cdv A outer s H vs Q E hr h => ?_)
  · obtain ⟨x, b, rfl, _⟩ := h
    rfl
  · obtain ⟨x, b, rfl, h, k⟩ := h
    refine ⟨_, (pss_one (ps_ret (pe_and (pe_callB call_isi (by rfl) T.isinstance (by decide +kernel) (pa_cons (pv 0) (pa_cons (pe_bltn (v := .ty "str") (by rfl) T.str (by decide +kernel) rfl) pa_nil)))
      (pe_one (pe_cmpR op_in_seq (pe_bm PySem.F.plainAttrs_str PySem.F.slot_str_removeprefix PySem.F.type_str_removeprefix mt_removeprefix (pv 0) (pa_cons pe_str pa_nil)) (pe_glob (v := .ref tT) (by rfl) gT rfl) (by rfl)))))), ?_⟩
    rcases h with ⟨z, rfl, hz, rfl⟩ | ⟨rfl, t, ty, e⟩
    · obtain ⟨t, ty, e⟩ := isT_str (K := K) (H := H) (z := z)
      refine ⟨_, rfl, _, _, _, _, _, rfl, .ty _, ty, e, _, rfl, ?_⟩
      exact iteY rfl ⟨_, rfl, rfl, z, "not ", rfl, rfl, fits hz, tT, _, rfl, .inr (hT _), rfl, flat_strs _, k⟩
    · exact ⟨_, rfl, _, _, _, _, _, rfl, .ty _, ty, e, _, rfl, iteN rfl k⟩
theorem scDeed : FnScope ["value"] ["value"] (defScope sDeed) := ⟨rfl, rfl, rfl, by decide +kernel, rfl, by decide +kernel, by decide +kernel⟩
theorem ok_deed {f tD : Addr} {fd : FuncData} (F : Fun K "is_deed" "is_deed" sDeed f fd) (T : TxtK mg) (gT : mg "DEEDS" = some (.ref tD)) (hT : ∀ H : Hp, SqT K H tD (deedL.map V.str)) : FnOk P w K mg base CX0 1 f fd ["value"] (spOne progD K) := by
  refine F.ok scDeed (fun vs H Q E h => ?_) (fun cdv A outer s H vs Q E hr h => ?_)
  · obtain ⟨x, b, rfl, _⟩ := h
    rfl
  · obtain ⟨x, b, rfl, h, k⟩ := h
    refine ⟨_, (pss_one (ps_ret (pe_and (pe_callB call_isi (by rfl) T.isinstance (by decide +kernel) (pa_cons (pv 0) (pa_cons (pe_bltn (v := .ty "str") (by rfl) T.str (by decide +kernel) rfl) pa_nil)))
      (pe_one (pe_cmpR op_in_seq (pv 0) (pe_glob (v := .ref tD) (by rfl) gT rfl) (by rfl)))))), ?_⟩
    rcases h with ⟨z, rfl, hz, rfl⟩ | ⟨rfl, t, ty, e⟩
    · obtain ⟨t, ty, e⟩ := isT_str (K := K) (H := H) (z := z)
      refine ⟨_, rfl, _, _, _, _, _, rfl, .ty _, ty, e, _, rfl, ?_⟩
      exact iteY rfl ⟨_, rfl, tD, _, rfl, .inr (hT _), rfl, flat_strs _, k⟩
    · exact ⟨_, rfl, _, _, _, _, _, rfl, .ty _, ty, e, _, rfl, iteN rfl k⟩
theorem scAreT : FnScope ["value", "one"] ["value"] (defScope sAreT) := ⟨rfl, rfl, rfl, by decide +kernel, rfl, by decide +kernel, by decide +kernel⟩
theorem ok_areT {f fS fO : Addr} {fd fdS fdO : FuncData} (F : Fun K "are_tests" "are_tests" sAreT f fd) (T : TxtK mg) (GS : FnOk P w K mg base CX0 1 fS fdS ["value"] (spSeq K)) (gS : mg "is_sequence" = some (.ref fS)) (kS : PySem.W.keepIn K (.ref fS) = true) (bS : Binds K fdS ["value"] [])
    (GO : FnOk P w K mg base CX0 1 fO fdO ["value"] (spOne progT K)) (gO : mg "is_test" = some (.ref fO)) (kO : PySem.W.keepIn K (.ref fO) = true) (bO : Binds K fdO ["value"] []) : FnOk P w K mg base CX0 2 f fd ["value"] (spAre progT yes K) := by
  refine F.ok scAreT (fun vs H Q E h => ?_) (fun cdv A outer s H vs Q E hr h => ?_)
  · obtain ⟨x, r, rfl, _⟩ := h
    rfl
  · obtain ⟨x, r, rfl, h, k⟩ := h
    rcases h with ⟨h, rfl⟩ | ⟨a, xs, bs, rfl, hx, hl, hb, rfl⟩
    · refine ⟨_, (pss_one (ps_ret (pe_and (pe_call GS hr (by rfl) gS kS bS .nil pass0 (pa_cons (pv 0) pa_nil)) (pe_one (pe_callB (cr_all rfl) (by rfl) T.all (by decide +kernel) (pa_cons
            (pe_lc (own := [("one", 1)]) (g := gName 1) (tt := tYes) (by rfl) scAreT.nd (pi_list (pv 0)) (blkOk_by (N := ["value", "one"]) (sc := defScope sAreT) (by decide +kernel)) (fun _ _ _ _ _ => pg_name (i := 1) scAreT.nd rfl (Or.inl rfl)) (fun _ _ _ _ _ => pts_nil) (fun _ _ _ _ _ => pe_call GO hr (by rfl) gO kO bO .nil pass0 (pa_cons (pv 1) pa_nil))) pa_nil)))))), ?_⟩
      exact ⟨_, rfl, _, false, rfl, h, fun H' s => ⟨_, rfl, iteN rfl (k H' s)⟩⟩
    · have lb : bs.length ≤ 1000 := by rw [hb.1]; exact hl
      rcases hx with hx | hx
      · refine ⟨_, (pss_one (ps_ret (pe_and (pe_call GS hr (by rfl) gS kS bS .nil pass0 (pa_cons (pv 0) pa_nil)) (pe_one (pe_callB (cr_all rfl) (by rfl) T.all (by decide +kernel) (pa_cons
            (pe_lc (own := [("one", 1)]) (g := gName 1) (tt := tYes) (by rfl) scAreT.nd (pi_list (pv 0)) (blkOk_by (N := ["value", "one"]) (sc := defScope sAreT) (by decide +kernel)) (fun _ _ _ _ _ => pg_name (i := 1) scAreT.nd rfl (Or.inl rfl)) (fun _ _ _ _ _ => pts_nil) (fun _ _ _ _ _ => pe_call GO hr (by rfl) gO kO bO .nil pass0 (pa_cons (pv 1) pa_nil))) pa_nil)))))), ?_⟩
        refine ⟨_, rfl, _, true, rfl, SqX.seq (.inl hx), fun H1 s1 => ⟨_, rfl, ?_⟩⟩
        refine iteY rfl ?_
        refine ⟨_, rfl, a, rfl, ⟨_, SqL.of (s1 _ _ hx)⟩, fun D nD => lc_list (K := K) (a := a) (xs := xs) (fun i G => Same H1 G ∧ G D = some (.lst ((bs.take i).map V.bl))) ⟨Same.new nD, upd_same⟩ (fun i G _ q => SqL.of (q.1 _ _ (s1 _ _ hx))) ?_ ?_⟩
        · rintro i x G hi ⟨sG, hD⟩
          have li := (List.getElem?_eq_some_iff.mp hi).1
          rw [← hb.1] at li
          have eb : bs[i]? = some bs[i] := by simp [li]
          refine ⟨rfl, _, rfl, x, bs[i], rfl, (hb.2 i x _ hi eb).same (s1.trans sG), _, hD, ?_, fun c u e => by rw [upd_ne (ne_of_none e nD)]; exact sG _ _ e, ?_⟩
          · rw [List.length_map, List.length_take]
            exact small1000 (by omega)
          · rw [upd_same, List.take_succ, eb, List.map_append]
            rfl
        · rintro G ⟨sG, hD⟩
          rw [← hb.1, List.take_length] at hD
          exact ⟨D, bs, rfl, SqL.of hD, k G (s1.trans sG)⟩
      · refine ⟨_, (pss_one (ps_ret (pe_and (pe_call GS hr (by rfl) gS kS bS .nil pass0 (pa_cons (pv 0) pa_nil)) (pe_one (pe_callB (cr_all rfl) (by rfl) T.all (by decide +kernel) (pa_cons
            (pe_lc (own := [("one", 1)]) (g := gName 1) (tt := tYes) (by rfl) scAreT.nd (pi_tup (pv 0)) (blkOk_by (N := ["value", "one"]) (sc := defScope sAreT) (by decide +kernel)) (fun _ _ _ _ _ => pg_name (i := 1) scAreT.nd rfl (Or.inl rfl)) (fun _ _ _ _ _ => pts_nil) (fun _ _ _ _ _ => pe_call GO hr (by rfl) gO kO bO .nil pass0 (pa_cons (pv 1) pa_nil))) pa_nil)))))), ?_⟩
        refine ⟨_, rfl, _, true, rfl, SqX.seq (.inr hx), fun H1 s1 => ⟨_, rfl, ?_⟩⟩
        refine iteY rfl ?_
        refine ⟨_, rfl, a, rfl, ⟨_, SqT.of (s1 _ _ hx)⟩, fun D nD => lc_tup (K := K) (a := a) (xs := xs) (fun i G => Same H1 G ∧ G D = some (.lst ((bs.take i).map V.bl))) ⟨Same.new nD, upd_same⟩ (fun i G _ q => SqT.of (q.1 _ _ (s1 _ _ hx))) ?_ ?_⟩
        · rintro i x G hi ⟨sG, hD⟩
          have li := (List.getElem?_eq_some_iff.mp hi).1
          rw [← hb.1] at li
          have eb : bs[i]? = some bs[i] := by simp [li]
          refine ⟨rfl, _, rfl, x, bs[i], rfl, (hb.2 i x _ hi eb).same (s1.trans sG), _, hD, ?_, fun c u e => by rw [upd_ne (ne_of_none e nD)]; exact sG _ _ e, ?_⟩
          · rw [List.length_map, List.length_take]
            exact small1000 (by omega)
          · rw [upd_same, List.take_succ, eb, List.map_append]
            rfl
        · rintro G ⟨sG, hD⟩
          rw [← hb.1, List.take_length] at hD
          exact ⟨D, bs, rfl, SqL.of hD, k G (s1.trans sG)⟩
theorem scAreD : FnScope ["value", "one"] ["value"] (defScope sAreD) := ⟨rfl, rfl, rfl, by decide +kernel, rfl, by decide +kernel, by decide +kernel⟩
theorem ok_areD {f fS fO : Addr} {fd fdS fdO : FuncData} (F : Fun K "are_deeds" "are_deeds" sAreD f fd) (T : TxtK mg) (GS : FnOk P w K mg base CX0 1 fS fdS ["value"] (spSeq K)) (gS : mg "is_sequence" = some (.ref fS)) (kS : PySem.W.keepIn K (.ref fS) = true) (bS : Binds K fdS ["value"] [])
    (GO : FnOk P w K mg base CX0 1 fO fdO ["value"] (spOne progD K)) (gO : mg "is_deed" = some (.ref fO)) (kO : PySem.W.keepIn K (.ref fO) = true) (bO : Binds K fdO ["value"] []) : FnOk P w K mg base CX0 2 f fd ["value"] (spAre progD full K) := by
  refine F.ok scAreD (fun vs H Q E h => ?_) (fun cdv A outer s H vs Q E hr h => ?_)
  · obtain ⟨x, r, rfl, _⟩ := h
    rfl
  · obtain ⟨x, r, rfl, h, k⟩ := h
    rcases h with ⟨h, rfl⟩ | ⟨a, xs, bs, rfl, hx, hl, hb, rfl⟩
    · refine ⟨_, (pss_one (ps_ret (pe_and (pe_call GS hr (by rfl) gS kS bS .nil pass0 (pa_cons (pv 0) pa_nil)) (pe_and (pe_cmpR op_gt (pe_callB call_len_seq (by rfl) T.len PySem.boot_len (pa_cons (pv 0) pa_nil)) pe_int (nomark _)) (pe_one (pe_callB (cr_all rfl) (by rfl) T.all (by decide +kernel) (pa_cons
            (pe_lc (own := [("one", 1)]) (g := gName 1) (tt := tYes) (by rfl) scAreD.nd (pi_list (pv 0)) (blkOk_by (N := ["value", "one"]) (sc := defScope sAreD) (by decide +kernel)) (fun _ _ _ _ _ => pg_name (i := 1) scAreD.nd rfl (Or.inl rfl)) (fun _ _ _ _ _ => pts_nil) (fun _ _ _ _ _ => pe_call GO hr (by rfl) gO kO bO .nil pass0 (pa_cons (pv 1) pa_nil))) pa_nil))))))), ?_⟩
      exact ⟨_, rfl, _, false, rfl, h, fun H' s => ⟨_, rfl, iteN rfl (k H' s)⟩⟩
    · have lb : bs.length ≤ 1000 := by rw [hb.1]; exact hl
      rcases hx with hx | hx
      · refine ⟨_, (pss_one (ps_ret (pe_and (pe_call GS hr (by rfl) gS kS bS .nil pass0 (pa_cons (pv 0) pa_nil)) (pe_and (pe_cmpR op_gt (pe_callB call_len_seq (by rfl) T.len PySem.boot_len (pa_cons (pv 0) pa_nil)) pe_int (nomark _)) (pe_one (pe_callB (cr_all rfl) (by rfl) T.all (by decide +kernel) (pa_cons
            (pe_lc (own := [("one", 1)]) (g := gName 1) (tt := tYes) (by rfl) scAreD.nd (pi_list (pv 0)) (blkOk_by (N := ["value", "one"]) (sc := defScope sAreD) (by decide +kernel)) (fun _ _ _ _ _ => pg_name (i := 1) scAreD.nd rfl (Or.inl rfl)) (fun _ _ _ _ _ => pts_nil) (fun _ _ _ _ _ => pe_call GO hr (by rfl) gO kO bO .nil pass0 (pa_cons (pv 1) pa_nil))) pa_nil))))))), ?_⟩
        refine ⟨_, rfl, _, true, rfl, SqX.seq (.inl hx), fun H1 s1 => ⟨_, rfl, ?_⟩⟩
        refine iteY rfl ?_
        refine ⟨_, rfl, a, xs, rfl, .inl (SqL.of (s1 _ _ hx)), _, _, rfl, rfl, _, rfl, ?_⟩
        have e0 : decide (((xs.length : Nat) : Int) > 0) = full xs := by
          unfold full
          by_cases q : 0 < xs.length
          · rw [decide_eq_true q, decide_eq_true (by omega)]
          · rw [decide_eq_false q, decide_eq_false (by omega)]
        refine ite2 (fun h1 => ?_) (fun h1 => ?_)
        · have h2 : full xs = true := by rw [← e0]; exact h1
          rw [h2] at k
          refine ⟨_, rfl, a, rfl, ⟨_, SqL.of (s1 _ _ hx)⟩, fun D nD => lc_list (K := K) (a := a) (xs := xs) (fun i G => Same H1 G ∧ G D = some (.lst ((bs.take i).map V.bl))) ⟨Same.new nD, upd_same⟩ (fun i G _ q => SqL.of (q.1 _ _ (s1 _ _ hx))) ?_ ?_⟩
          · rintro i x G hi ⟨sG, hD⟩
            have li := (List.getElem?_eq_some_iff.mp hi).1
            rw [← hb.1] at li
            have eb : bs[i]? = some bs[i] := by simp [li]
            refine ⟨rfl, _, rfl, x, bs[i], rfl, (hb.2 i x _ hi eb).same (s1.trans sG), _, hD, ?_, fun c u e => by rw [upd_ne (ne_of_none e nD)]; exact sG _ _ e, ?_⟩
            · rw [List.length_map, List.length_take]
              exact small1000 (by omega)
            · rw [upd_same, List.take_succ, eb, List.map_append]
              rfl
          · rintro G ⟨sG, hD⟩
            rw [← hb.1, List.take_length] at hD
            exact ⟨D, bs, rfl, SqL.of hD, k G (s1.trans sG)⟩
        · have h2 : full xs = false := by rw [← e0]; simpa using h1
          rw [h2] at k
          exact k H1 s1
      · refine ⟨_, (pss_one (ps_ret (pe_and (pe_call GS hr (by rfl) gS kS bS .nil pass0 (pa_cons (pv 0) pa_nil)) (pe_and (pe_cmpR op_gt (pe_callB call_len_seq (by rfl) T.len PySem.boot_len (pa_cons (pv 0) pa_nil)) pe_int (nomark _)) (pe_one (pe_callB (cr_all rfl) (by rfl) T.all (by decide +kernel) (pa_cons
            (pe_lc (own := [("one", 1)]) (g := gName 1) (tt := tYes) (by rfl) scAreD.nd (pi_tup (pv 0)) (blkOk_by (N := ["value", "one"]) (sc := defScope sAreD) (by decide +kernel)) (fun _ _ _ _ _ => pg_name (i := 1) scAreD.nd rfl (Or.inl rfl)) (fun _ _ _ _ _ => pts_nil) (fun _ _ _ _ _ => pe_call GO hr (by rfl) gO kO bO .nil pass0 (pa_cons (pv 1) pa_nil))) pa_nil))))))), ?_⟩
        refine ⟨_, rfl, _, true, rfl, SqX.seq (.inr hx), fun H1 s1 => ⟨_, rfl, ?_⟩⟩
        refine iteY rfl ?_
        refine ⟨_, rfl, a, xs, rfl, .inr (SqT.of (s1 _ _ hx)), _, _, rfl, rfl, _, rfl, ?_⟩
        have e0 : decide (((xs.length : Nat) : Int) > 0) = full xs := by
          unfold full
          by_cases q : 0 < xs.length
          · rw [decide_eq_true q, decide_eq_true (by omega)]
          · rw [decide_eq_false q, decide_eq_false (by omega)]
        refine ite2 (fun h1 => ?_) (fun h1 => ?_)
        · have h2 : full xs = true := by rw [← e0]; exact h1
          rw [h2] at k
          refine ⟨_, rfl, a, rfl, ⟨_, SqT.of (s1 _ _ hx)⟩, fun D nD => lc_tup (K := K) (a := a) (xs := xs) (fun i G => Same H1 G ∧ G D = some (.lst ((bs.take i).map V.bl))) ⟨Same.new nD, upd_same⟩ (fun i G _ q => SqT.of (q.1 _ _ (s1 _ _ hx))) ?_ ?_⟩
          · rintro i x G hi ⟨sG, hD⟩
            have li := (List.getElem?_eq_some_iff.mp hi).1
            rw [← hb.1] at li
            have eb : bs[i]? = some bs[i] := by simp [li]
            refine ⟨rfl, _, rfl, x, bs[i], rfl, (hb.2 i x _ hi eb).same (s1.trans sG), _, hD, ?_, fun c u e => by rw [upd_ne (ne_of_none e nD)]; exact sG _ _ e, ?_⟩
            · rw [List.length_map, List.length_take]
              exact small1000 (by omega)
            · rw [upd_same, List.take_succ, eb, List.map_append]
              rfl
          · rintro G ⟨sG, hD⟩
            rw [← hb.1, List.take_length] at hD
            exact ⟨D, bs, rfl, SqL.of hD, k G (s1.trans sG)⟩
        · have h2 : full xs = false := by rw [← e0]; simpa using h1
          rw [h2] at k
          exact k H1 s1
end
end Lay
set_option Elab.async false
set_option linter.all false
set_option maxRecDepth 100000
set_option maxHeartbeats 4000000
namespace Lay
open PySem PySem.Spec PyProof.Rows L2
/-! C(e, ..) where what is let out depends on the slots; isinstance of an exception that the suite holds, with a dict. -/
section
variable {X : Cx} {CX : CXT} {k : Nat} {f C : Addr} {fd : FuncData} {ps : List Str} {sp : Sp} {E : L2.St → XK} {x m : Str} {p pos : Pos} {e : Expr} {es : List Expr} {t : TA} {ds : List Value} {dvs : List V}
theorem run_makeS {pins : List (Addr × Obj)} {σ : L2.St} {H : Hp} {s : Shared} {Q : VK} {us : List Value} {vs : List V} (M : Mk X.K C f) (F : FnOk X.prog X.w X.K X.mg X.base CX k f fd ps sp) (hr : Room (k + 1) X.A) (hb : Binds X.K fd ps ds) (hd : Vals dvs ds)
    (hx : PassesAt CX X σ (E σ)) (I : Inv X pins σ H s) (r : Vals vs us)
    (h : ∀ x dx, H x = none → H dx = none → dx ≠ x → sp (.ref x :: (vs ++ dvs)) (upd (upd H dx (.own x)) x (.ins C dx [])) (fun v H2 => v = .non ∧ Q (.ref x) H2) (E σ)) :
    wpAny (model X.prog X.w) X.A (call (.ref C) us) (EP X pins σ Q) X.xe s := by
  have hq := h (s.heap.objs.size + 1) s.heap.objs.size (I.hok.fresh (Nat.le_succ _)) (I.hok.fresh (Nat.le_refl _)) (Nat.ne_of_lt (Nat.lt_succ_self _))
  have I2 := Inv.made (C := C) I
  have r2 : Vals (V.ref (s.heap.objs.size + 1) :: (vs ++ dvs)) (Value.ref (s.heap.objs.size + 1) :: (us ++ ds)) := .cons rfl (r.append hd)
  have hl : (Value.ref (s.heap.objs.size + 1) :: us ++ ds).length = ps.length := by
    have e := r2.length
    rw [F.len _ _ _ _ hq] at e
    exact e.symm
  refine wpAny_call (make_map (f := f) I.kIn M.makes M.init (beq_iff_eq.mp M.fn) (codeAny_mono (F.run _ X.stack _ _ ⟨Value.ref (s.heap.objs.size + 1) :: us, []⟩ (Value.ref (s.heap.objs.size + 1) :: (us ++ ds)) _ _ (E σ) (hr.make C us [])
    (I2.env0.make C us []) (hb _ (Value.ref (s.heap.objs.size + 1) :: us) I2.kIn hl) r2 hq) fun r s' hq' => ?_))
  cases r with
  | error e => exact hx pins _ _ e s' I2 hq'
  | ok fl =>
    cases fl with
    | ret u =>
      obtain ⟨v, H', I3, rv, ev, q3⟩ := I2.after hq'
      subst ev
      exact ⟨rv, ⟨V.ref (s.heap.objs.size + 1), H', I3, rfl, q3⟩⟩
    | next => exact False.elim hq'
    | brk => exact False.elim hq'
    | cont => exact False.elim hq'
def tMakeS (C : Addr) (sp : Sp) (dvs : List V) (E : L2.St → XK) (t : TA) : TE := fun σ H Q => t σ H fun vs H1 => ∀ x dx, H1 x = none → H1 dx = none → dx ≠ x → sp (.ref x :: (vs ++ dvs)) (upd (upd H1 dx (.own x)) x (.ins C dx [])) (fun v H2 => v = .non ∧ Q (.ref x) H2) (E σ)
theorem pe_makeS (M : Mk X.K C f) (F : FnOk X.prog X.w X.K X.mg X.base CX k f fd ps sp) (hr : Room (k + 1) X.A) (hg : Gl X x) (hm : X.mg x = some (.ref C)) (hb : Binds X.K fd ps ds) (hd : Vals dvs ds) (hx : ∀ σ, PassesAt CX X σ (E σ))
    (ha : PA X (e :: es) t) (hdb : (x == ("__debug__" : Str)) = false := by decide) (he : starEach (e :: es) X.env = (false, eval e X.env) :: starEach es X.env := by rfl) (hpl : (backTo pos (starEach es X.env)).any (·.1) = false := by rfl) :
    PE X (.Call (.Name x p) (e :: es) [] pos) (tMakeS C sp dvs E t) := by
  refine ⟨fun pins s σ H Q I h => ?_⟩
  refine wpAny_Call_Name_kw (ld_glob I hg hm ?_ hdb)
  refine PySem.W.callWith_K (h₀ := X.base) I.ok.mod.kin M.kp (thn (ha.run pos pins s σ H _ I h) fun us s1 ⟨vs, H1, I1, r, q⟩ => ⟨I1.kIn, ?_⟩) he hpl
  exact run_makeS M F hr hb hd (hx σ) I1 r q
/-- isinstance(e, c), e the exception that the suite holds, a dict with it -/
def rIsEX (K : PySem.W.Frag) (a : Addr) (cls : Value) (d : Option Addr) : List V → Hp → VK → Prop := fun xs H Q => ∃ (D dd : Addr) (fs : List (Str × V)) (c : V) (cv : Value) (b : Bool), xs = [.ref a, c] ∧ cls = .ref D ∧ d = some dd ∧ H dd = some (.xd fs) ∧ ExcC K D ∧ ClsV c cv ∧
  PySem.W.kitOne K (.ref D) cv = some b ∧ Q (.bl b) H
theorem call_isEX {a : Addr} {cls : Value} {d : Option Addr} {oe : Obj} {pn : List (Addr × Obj)} (hz : Zc cls d oe) (hf : ∃ vs, oe.data = .fields vs) : CallR (X.suite a ((a, oe) :: pn)) (.builtin "isinstance") (rIsEX X.K a cls d) := by
  intro pins s σ H xs us Q I r h
  obtain ⟨D, dd, fs, c, cv, b, rfl, ec, ed, hdd, C, k, e, q⟩ := h
  obtain ⟨u1, u2, rfl, r1, r2⟩ := vals2 r
  cases r1
  have e2 := k.eq r2
  subst e2 ec ed
  have hcl : (PySem.W.clsIn X.K D).isSome = true := by
    obtain ⟨cd, hc, _⟩ := PySem.W.any_some C.hd
    rw [hc]
    rfl
  obtain ⟨hget, _⟩ := I.pin (a, oe) (List.mem_append_left _ List.mem_cons_self)
  obtain ⟨vs, hv⟩ := hf
  have hx : ObjOk X.prog X.w H s.heap dd (.xd fs) := I.hok dd _ hdd
  obtain ⟨mA, hns, hrel⟩ := hx
  obtain ⟨od, ho, hl⟩ := lookIn_ns hns
  have J : PySem.W.InstAt s.heap a oe D (some od) := ⟨hget, hz.1, by unfold PySem.W.notCls; rw [hv] <;> rfl, by rw [hz.2]; exact ho⟩
  exact PySem.W.kia_one (PySem.W.kitx_exc hcl C.hg C.hk C.hs C.ha C.hn C.ht C.hm) I.kIn J e (fun z => nomatch z) fun tk => ⟨.bl b, H, I.kept (t' := tk) fun _ _ z => z, rfl, q⟩
end
section
variable {X : Cx}
/-- tuple(a list or a tuple) -/
theorem call_tupleX : CallR X (.type "tuple") (fun xs H Q => ∃ a ys, xs = [.ref a] ∧ SqX H a ys ∧ ∀ l H', Same H H' → H' l = some (.tup ys) → Q (.ref l) H') := by
  intro pins s σ H xs us Q I r h
  obtain ⟨a, ys, rfl, hs, q⟩ := h
  refine call_tuple_of pins s σ H _ us Q I r ⟨a, ys, rfl, ?_⟩
  rcases hs with hs | hs
  · exact .inl ⟨SqL.of hs, fun l nl => q l _ (Same.new nl) upd_same⟩
  · exact .inr ⟨SqT.of hs, q a H (Same.refl H) hs⟩
theorem call_listX : CallR X (.type "list") (fun xs H Q => ∃ a ys, xs = [.ref a] ∧ SqX H a ys ∧ ∀ l H', Same H H' → H l = none → H' l = some (.lst ys) → Q (.ref l) H') := by
  intro pins s σ H xs us Q I r h
  obtain ⟨a, ys, rfl, hs, q⟩ := h
  refine call_list_of pins s σ H _ us Q I r ⟨a, ys, rfl, ?_, fun l nl => q l _ (Same.new nl) nl upd_same⟩
  rcases hs with hs | hs
  · exact .inl (SqL.of hs)
  · exact .inr (SqT.of hs)
theorem op_catX : OpR X (binaryOp .Add) (fun x y H Q => ∃ a b xs ys, x = .ref a ∧ y = .ref b ∧ H a = some (.tup xs) ∧ H b = some (.tup ys) ∧ xs.length + ys.length ≤ 1000 ∧ ∀ p H', Same H H' → H' p = some (.tup (xs ++ ys)) → Q (.ref p) H') := by
  intro pins s σ H x y v u Q I rx ry h
  obtain ⟨a, b, xs, ys, rfl, rfl, ha, hb, hl, q⟩ := h
  refine op_catA pins s σ H _ _ v u Q I rx ry ⟨a, b, xs, ys, rfl, rfl, SqT.of ha, SqT.of hb, fits hl, fun e => ?_, fun _ e => ?_, fun _ _ p np => q p _ (Same.new np) upd_same⟩
  · subst e
    exact q b H (Same.refl H) hb
  · subst e
    exact q a H (Same.refl H) (by rw [List.append_nil]; exact ha)
theorem sl_tupX : SlR X (fun x lo hi H Q => ∃ a xs, x = .ref a ∧ H a = some (.tup xs) ∧ ∀ p H', Same H H' → H' p = some (.tup (cutV xs lo hi)) → Q (.ref p) H') := by
  intro pins s σ H x v vl vu lo hi sl Q I rx hs pl pu h
  obtain ⟨a, xs, rfl, ha, q⟩ := h
  refine sl_tupA pins s σ H _ v vl vu lo hi sl Q I rx hs pl pu ⟨a, xs, rfl, SqT.of ha, fun w => ?_, fun _ p np => q p _ (Same.new np) upd_same⟩
  refine q a H (Same.refl H) ?_
  unfold cutV
  rw [w.1, w.2]
  simpa using ha
end
/-- an error class with an __init__ of its own that keeps f -/
structure XC (K : PySem.W.Frag) (mg : Str → Option Value) (C fI : Addr) (x f : Str) : Prop where
  oex : OexC K C
  init : PySem.W.findIn K (.ref C) "__init__" = some (some (.ref fI))
  tI : PySem.W.typeIn K (.ref fI) = some (.type "function")
  gC : mg x = some (.ref C)
  no : PySem.W.findIn K (.ref C) f = some none
  isC : ExcC K C
  xf : XfC K C
def spInit (K : PySem.W.Frag) (C : Addr) (f : Str) : Sp := fun vs H Q _ => ∃ (a : Addr) (v : V), vs = [.ref a, v] ∧ OexC K C ∧ PySem.W.findIn K (.ref C) f = some none ∧ H a = some (exo a C none) ∧
  ∀ dx, H dx = none → dx ≠ a → Q .non (upd (upd H dx (exd dx [(f, v)])) a (exo a C (some dx)))
/-- what raising such a class comes to -/
theorem raised_at {K : PySem.W.Frag} {C a : Addr} {f : Str} {H : Hp} {v : V} {Q : XK} (T : OexC K C) (no : PySem.W.findIn K (.ref C) f = some none) (ha : H a = none)
    (k : ∀ H' d, Same H H' → H d = none → H' d = some (.xd [(f, v)]) → Q (.ref C) (some d) H') :
    spInit K C f [.ref a, v] (upd H a (exo a C none)) (fun u H2 => u = .non ∧ ∃ (d : Addr) (fs : List (Str × V)), H2 a = some (exo a C (some d)) ∧ H2 d = some (exd d fs) ∧ H d = none ∧ Q (.ref C) (some d) (upd (del H2 a) d (.xd fs))) (fun _ _ _ => False) := by
  refine ⟨a, v, rfl, T, no, upd_same, fun dx hd ne => ?_⟩
  have hd' : H dx = none := by
    rw [upd_ne ne] at hd
    exact hd
  refine ⟨rfl, dx, _, upd_same, by rw [upd_ne ne, upd_same], hd', k _ dx (fun b o e => ?_) hd' upd_same⟩
  have nb : b ≠ a := ne_of_none e ha
  have nd : b ≠ dx := ne_of_none e hd'
  rw [upd_ne nd, del_ne nb, upd_ne nb, upd_ne nd, upd_ne nb]
  exact e
/-- what is raised -/
def Raised (D : Addr) (H : Hp) (v : V) (E : XK) : Prop := ∀ H' d, Same H H' → H d = none → H' d = some (.xd [("part", v)]) → E (.ref D) (some d) H'
theorem Raised.same {D : Addr} {H H' : Hp} {v : V} {E : XK} (s : Same H H') (h : Raised D H v E) : Raised D H' v E := fun G d s2 n e => h G d (s.trans s2) (s.free n) e
/-- all that is tracked beside b is as it was -/
def Kept (b : Addr) (H H' : Hp) : Prop := ∀ a o, a ≠ b → H a = some o → H' a = some o
theorem Kept.of_same {b : Addr} {H H' : Hp} (x : Same H H') : Kept b H H' := fun a o _ h => x a o h
theorem Kept.trans {b : Addr} {H H1 H2 : Hp} (x : Kept b H H1) (y : Kept b H1 H2) : Kept b H H2 := fun a o n h => y a o n (x a o n h)
theorem Kept.box {b : Addr} {H : Hp} {o : HO} : Kept b H (upd H b o) := fun a u n h => by rw [upd_ne n]; exact h
/-- what the class Row says of itself -/
structure RowC (K : PySem.W.Frag) (C : Addr) : Prop where
  cl : Cls K C
  tests : NoAttr K C "tests"
  deeds : NoAttr K C "deeds"
def rowF (t d : Addr) : List (Str × V) := putF "deeds" (.ref d) (putF "tests" (.ref t) [])
def spRowI (K : PySem.W.Frag) (C D : Addr) : Sp := fun vs H Q E => ∃ (p dx : Addr) (x y : V) (rt rd : Bool), vs = [.ref p, x, y] ∧ H p = some (.ins C dx []) ∧ AnsV progT yes K H x rt ∧ AnsV progD full K H y rd ∧
  (rt = true → rd = true → ∀ H' t d ys, Kept p H H' → H' p = some (.ins C dx (rowF t d)) → H' d = some (.tup ys) → 0 < ys.length → Q .non H') ∧ (rt = false → Raised D H (.str "tests") E) ∧ (rt = true → rd = false → Raised D H (.str "deeds") E)
abbrev sIR : Stmt := inClass (top 2) 0
abbrev sRowI : Stmt := inClass (top 14) 0
section
variable {P : Program} {w : World} {K : PySem.W.Frag} {mg : Str → Option Value} {base : Heap}
theorem scIR : FnScope ["self", "part"] ["self", "part"] (defScope sIR) := ⟨rfl, rfl, rfl, by decide +kernel, rfl, by decide +kernel, by decide +kernel⟩
theorem ok_iR {f C : Addr} {fd : FuncData} (F : Fun K "__init__" "InvalidRow.__init__" sIR f fd) : FnOk P w K mg base CX0 1 f fd ["self", "part"] (spInit K C "part") := by
  refine F.ok scIR (fun vs H Q E h => ?_) (fun cdv A outer s H vs Q E hr h => ?_)
  · obtain ⟨a, v, rfl, _⟩ := h
    rfl
  · obtain ⟨a, v, rfl, T, no, ha, k⟩ := h
    exact ⟨_, pss_one (ps_ost (pv 0) (pv 1)), _, rfl, _, rfl, a, C, rfl, T, no, .inl ⟨ha, fun dx h1 h2 => k dx h1 h2⟩⟩
theorem scRowI : FnScope ["self", "tests", "deeds"] ["self", "tests", "deeds"] (defScope sRowI) := ⟨rfl, rfl, rfl, by decide +kernel, rfl, by decide +kernel, by decide +kernel⟩
theorem ok_rowI {f fT fD fI C D : Addr} {fd fdT fdD fdI : FuncData} {dvs : List V} (F : FunD K "__init__" "Row.__init__" (defArgs sRowI) (defBody sRowI) (defScope sRowI) dvs [] f fd) (T : TxtK mg) (Z : RowC K C)
    (GT : FnOk P w K mg base CX0 2 fT fdT ["value"] (spAre progT yes K)) (gT : mg "are_tests" = some (.ref fT)) (kT : PySem.W.keepIn K (.ref fT) = true) (bT : Binds K fdT ["value"] [])
    (GD : FnOk P w K mg base CX0 2 fD fdD ["value"] (spAre progD full K)) (gD : mg "are_deeds" = some (.ref fD)) (kD : PySem.W.keepIn K (.ref fD) = true) (bD : Binds K fdD ["value"] [])
    (Y : XC K mg D fI "InvalidRow" "part") (GI : FnOk P w K mg base CX0 1 fI fdI ["self", "part"] (spInit K D "part")) (bI : Binds K fdI ["self", "part"] []) : FnOk P w K mg base (L2.CX P w) 3 f fd ["self", "tests", "deeds"] (spRowI K C D) := by
  refine F.ok scRowI (fun vs H Q E h => ?_) (fun cdv A outer s H vs Q E hr h => ?_)
  · obtain ⟨p, dx, x, y, rt, rd, rfl, _⟩ := h
    rfl
  · obtain ⟨p, dx, x, y, rt, rd, rfl, hp, ht, hd, k1, k2, k3⟩ := h
    refine ⟨_, (pss_cons (ps_if (pt_not (pt_val (pe_call GT hr (by rfl) gT kT bT .nil pass0 (pa_cons (pv 1) pa_nil))))
      (pss_one (ps_raise rfl (takes_of rfl rfl rfl rfl) (pmk_oex Y.oex Y.init Y.tI GI hr bI .nil pass0 (by rfl) Y.gC (pa_cons pe_str pa_nil))))
      pss_nil)
    (pss_cons (ps_if (pt_not (pt_val (pe_call GD hr (by rfl) gD kD bD .nil pass0 (pa_cons (pv 2) pa_nil))))
      (pss_one (ps_raise rfl (takes_of rfl rfl rfl rfl) (pmk_oex Y.oex Y.init Y.tI GI hr bI .nil pass0 (by rfl) Y.gC (pa_cons pe_str pa_nil))))
      pss_nil)
    (pss_cons (ps_fld (pv 0) (pe_callTy call_tupleX (by rfl) T.tuple (by decide +kernel) (pa_cons (pv 1) pa_nil)) rfl)
    (pss_one (ps_fld (pv 0) (pe_callTy call_tupleX (by rfl) T.tuple (by decide +kernel) (pa_cons (pv 2) pa_nil)) rfl))))), ?_⟩
    refine ⟨_, rfl, x, rt, rfl, ht, fun H1 s1 => ⟨_, rfl, ?_⟩⟩
    cases rt with
    | false =>
      exact iteY rfl ⟨by show 1 ≤ 1000; decide, fun a ha => raised_at Y.oex Y.no ha (k2 rfl |>.same s1)⟩
    | true =>
      refine iteN rfl ⟨_, rfl, y, rd, rfl, hd.same s1, fun H2 s2 => ⟨_, rfl, ?_⟩⟩
      cases rd with
      | false =>
        exact iteY rfl ⟨by show 1 ≤ 1000; decide, fun a ha => raised_at Y.oex Y.no ha (k3 rfl rfl |>.same (s1.trans s2))⟩
      | true =>
        refine iteN rfl ?_
        have s12 := s1.trans s2
        rcases ht with ⟨_, z⟩ | ⟨a, xs, bs, rfl, hx, _⟩
        · cases z
        rcases hd with ⟨_, z⟩ | ⟨c, ys, ds, rfl, hy, _, _, ey⟩
        · cases z
        have n0 : 0 < ys.length := of_decide_eq_true (Bool.and_eq_true_iff.mp ey.symm).1
        refine ⟨_, rfl, a, xs, rfl, hx.same s12, fun t H3 s3 h3 => ⟨_, rfl, p, C, dx, _, rfl, s3 _ _ (s12 _ _ hp), Z.cl, Z.tests, (by show 0 < 1000; decide), ?_⟩⟩
        have ncp : c ≠ p := by
          rcases hy with hy | hy
          · exact ne_of hy hp (fun z => nomatch z)
          · exact ne_of hy hp (fun z => nomatch z)
        have k4 : Kept p H (upd H3 p (.ins C dx (putF "tests" (.ref t) []))) := (Kept.of_same (s12.trans s3)).trans Kept.box
        have hy4 : SqX (upd H3 p (.ins C dx (putF "tests" (.ref t) []))) c ys := by
          rcases hy with hy | hy
          · exact .inl (k4 _ _ ncp hy)
          · exact .inr (k4 _ _ ncp hy)
        refine ⟨_, rfl, c, ys, rfl, hy4, fun d H5 s5 h5 => ⟨_, rfl, p, C, dx, _, rfl, s5 _ _ upd_same, Z.cl, Z.deeds, ?_, ?_⟩⟩
        · exact Nat.lt_of_le_of_lt (length_putF _ _ []) (by show 0 + 1 < 1000; decide)
        · have ndp : d ≠ p := ne_of h5 (s5 _ _ upd_same) (fun z => nomatch z)
          exact k1 rfl rfl _ t d ys ((k4.trans (Kept.of_same s5)).trans Kept.box) upd_same (by rw [upd_ne ndp]; exact h5) n0
end
end Lay
set_option Elab.async false
set_option linter.all false
set_option maxRecDepth 100000
set_option maxHeartbeats 4000000
namespace Lay
open PySem PySem.Spec PyProof.Rows L2
section
variable {X : Cx}
/-- xs == [], any xs -/
theorem op_eqNil (hu : X.A.units + 64 < cLine) : OpR X (compareOp .Eq) (fun x y H Q => ∃ a b xs, x = .ref a ∧ y = .ref b ∧ SqL X.K H a xs ∧ H b = some (.lst []) ∧ Q (.bl xs.isEmpty) H) := by
  intro pins s σ H x y v u Q I rx ry h
  obtain ⟨a, b, xs, rfl, rfl, ha, hb, q⟩ := h
  cases xs with
  | nil => exact op_eqD hu pins s σ H _ _ v u Q I rx ry ⟨.list [], .list [], .lst ha .nil, .lst (SqL.of hb) .nil, rfl, rfl, q⟩
  | cons z zs =>
    cases rx
    cases ry
    obtain ⟨its, r, p1, _⟩ := I.list ha
    obtain ⟨its2, r2, p2, _⟩ := I.list (SqL.of hb)
    cases r2
    refine SeqAt.eq_list_lengthsAt p1.isList p2.isList ?_ (by omega) ⟨.bl false, H, I, rfl, q⟩
    cases r
    rfl
end
section
variable {X : Cx} {K : PySem.W.Frag} {e : Expr} {ta : TE} {f : Str} {pos : Pos}
theorem pe_fldK (hK : X.K = K) (he : PE X e ta) (hb : attributeBase e f X.env (eval e X.env) = eval e X.env) : PE X (.Attribute e f pos) (tFld K ta f) := by
  subst hK
  exact pe_fld he hb
theorem call_lenK (hK : X.K = K) : CallR X (.builtin "len") (fun xs H Q => ∃ p ys, xs = [.ref p] ∧ (SqL K H p ys ∨ SqT K H p ys) ∧ Q (.int ys.length) H) := by
  subst hK
  exact call_len_seq
end
/-- what the law hears of a row -/
def partS (rt rd : Bool) : Str := if rt then (if rd then "made" else "deeds") else "tests"
def spPart (K : PySem.W.Frag) : Sp := fun vs H Q _ => ∃ (x y : V) (rt rd : Bool), vs = [x, y] ∧ AnsV progT yes K H x rt ∧ AnsV progD full K H y rd ∧ ∀ H', Same H H' → Q (.str (partS rt rd)) H'
abbrev sPart : Stmt := top 21
/-- the class D is no InvalidTool, and a LayError -/
structure Kin (K : PySem.W.Frag) (mg : Str → Option Value) (D L DT : Addr) : Prop where
  gL : mg "LayError" = some (.ref L)
  gDT : mg "InvalidTool" = some (.ref DT)
  kL : PySem.W.kitOne K (.ref D) (.ref L) = some true
  kT : PySem.W.kitOne K (.ref D) (.ref DT) = some false
  ex : PySem.W.exmOne K (.ref D) (.ref D) = some true
section
variable {P : Program} {w : World} {K : PySem.W.Frag} {mg : Str → Option Value} {base : Heap}
theorem scPart : FnScope ["_law_tests_here", "_law_deeds_here", "_law_found", "e"] ["_law_tests_here", "_law_deeds_here"] (defScope sPart) := ⟨rfl, rfl, rfl, by decide +kernel, rfl, by decide +kernel, by decide +kernel⟩
theorem ok_part {f fR fI C D L DT : Addr} {fd fdR : FuncData} (F : Fun K "_law_part" "_law_part" sPart f fd) (T : TxtK mg) (Y : XC K mg D fI "InvalidRow" "part") (N : Kin K mg D L DT) (M : Mk K C fR) (Z : RowC K C)
    (GR : FnOk P w K mg base (L2.CX P w) 3 fR fdR ["self", "tests", "deeds"] (spRowI K C D)) (gR : mg "Row" = some (.ref C)) (bR : Binds K fdR ["self", "tests", "deeds"] []) : FnOk P w K mg base CX0 5 f fd ["_law_tests_here", "_law_deeds_here"] (spPart K) := by
  refine F.ok scPart (fun vs H Q E h => ?_) (fun cdv A outer s H vs Q E hr h => ?_)
  · obtain ⟨x, y, rt, rd, rfl, _⟩ := h
    rfl
  · obtain ⟨x, y, rt, rd, rfl, ht, hd, k⟩ := h
    refine ⟨_, (pss_cons (ps_set (i := 2) scPart.nd rfl (.inl rfl) pe_str)
      (pss_cons (ps_try_as (i := 3) rfl rfl scPart.nd rfl (by rfl) ⟨by rfl, by decide, .inl Y.gC⟩ takes0
        (fun W pn xe tk hp => pss_one (ps_set (i := 2) scPart.nd rfl (.inl rfl) (pe_ifExp (pt_cmpR op_gt (pe_callB (call_lenK (K := K) rfl) (by rfl) T.len PySem.boot_len (pa_cons (pe_fldK (K := K) rfl (pe_makeS (E := WE W) M GR (hr.mono (by decide)) (by rfl) gR bR .nil (fun σ => passAt tk σ) (pa_cons (pv 0) (pa_cons (pv 1) pa_nil))) (by rfl)) pa_nil)) pe_int (nomark _)) pe_str pe_str)))
        (fun a oe cls d pn hz hf => pss_one (ps_set (i := 2) scPart.nd rfl (.inl rfl) (pe_ifExp (PW.pt (pw_and (pt_val (pe_callB (call_isEX hz hf) (by rfl) T.isinstance (by decide +kernel) (pa_cons (pv 3) (pa_cons (pe_glob (v := .ref L) (by rfl) N.gL rfl) pa_nil))))
          (pw_and1 (pt_not (pt_val (pe_callB (call_isEX hz hf) (by rfl) T.isinstance (by decide +kernel) (pa_cons (pv 3) (pa_cons (pe_glob (v := .ref DT) (by rfl) N.gDT rfl) pa_nil))))))))
          (pe_xf Y.xf Y.no hz hf (pv 3)) pe_str))))
      (pss_one (ps_ret (pv 2))))), ?_⟩
    refine ⟨_, rfl, _, rfl, fun p dx hp hd0 ne => ?_⟩
    have hp2 : upd H dx (.own p) p = none := by
      rw [upd_ne (Ne.symm ne)]
      exact hp
    have s1 : Same H (upd (upd H dx (.own p)) p (.ins C dx [])) := (Same.new hd0).trans (Same.new hp2)
    refine ⟨p, dx, x, y, rt, rd, rfl, upd_same, ht.same s1, hd.same s1, fun et ed H' t d ys kp hp' hd' hl => ⟨rfl, p, C, dx, _, .ref d, rfl, hp', Z.cl, Z.deeds, rfl, d, ys, rfl, .inr (SqT.of hd'), _, _, rfl, rfl, _, rfl, ?_⟩, fun et => ?_, fun et ed => ?_⟩
    · subst et ed
      refine iteY (decide_eq_true (by omega)) ?_
      exact ⟨_, rfl, k H' fun b o eb => kp b o (ne_of_none eb hp) (s1 _ _ eb)⟩
    · subst et
      refine fun G d s2 n e => ⟨true, N.ex, fun _ a ha => ?_, fun z => nomatch z⟩
      refine ⟨_, rfl, D, d, _, _, _, _, rfl, rfl, rfl, e, Y.isC, .own _, N.kL, _, rfl, ?_⟩
      refine ⟨_, rfl, D, d, _, _, _, _, rfl, rfl, rfl, e, Y.isC, .own _, N.kT, _, rfl, ?_⟩
      exact ⟨_, rfl, rfl, rfl, d, _, _, rfl, e, rfl, _, rfl, k G (s1.trans s2)⟩
    · subst et ed
      refine fun G d s2 n e => ⟨true, N.ex, fun _ a ha => ?_, fun z => nomatch z⟩
      refine ⟨_, rfl, D, d, _, _, _, _, rfl, rfl, rfl, e, Y.isC, .own _, N.kL, _, rfl, ?_⟩
      refine ⟨_, rfl, D, d, _, _, _, _, rfl, rfl, rfl, e, Y.isC, .own _, N.kT, _, rfl, ?_⟩
      exact ⟨_, rfl, rfl, rfl, d, _, _, rfl, e, rfl, _, rfl, k G (s1.trans s2)⟩
end
end Lay
set_option Elab.async false
set_option linter.all false
set_option maxRecDepth 100000
set_option maxHeartbeats 4000000
namespace Lay
open PySem L2
section
variable {X : Cx} {K : PySem.W.Frag}
theorem call_isiK (hK : X.K = K) : CallR X (.builtin "isinstance") (rIsi K) := by
  subst hK
  exact call_isi
theorem op_notInK (hK : X.K = K) : OpR X (compareOp .NotIn) (rIn K true) := by
  subst hK
  exact op_notIn_seq
end
def lawL : List Str := testL ++ testL.map fun w => Str.ofString "not " ++ w
def wordL (c : Bool) : List Str := if c then lawL else deedL
def lawW (c : Bool) (z : Str) : Bool := inV (.str z) ((wordL c).map V.str)
def spWords (K : PySem.W.Frag) : Sp := fun vs H Q _ => ∃ (x : V) (c r : Bool), vs = [x, .bl c] ∧ AnsV (lawW c) yes K H x r ∧ ∀ H', Same H H' → Q (.bl r) H'
abbrev sWords : Stmt := top 22
def wordsN : List Str := ["_law_value", "_law_of_tests", "_law_tests_here", "_law_every", "_law_word", "_law_one"]
theorem str_at {zs : List Str} {i : Nat} {x : V} (h : (zs.map V.str)[i]? = some x) : ∃ z, zs[i]? = some z ∧ x = V.str z := by
  rw [List.getElem?_map] at h
  cases q : zs[i]? with
  | none => rw [q] at h; cases h
  | some z => rw [q] at h; exact ⟨z, rfl, (Option.some.inj h).symm⟩
theorem short_tests : ∀ w ∈ testL, w.length ≤ 11 := by decide +kernel
section
variable {P : Program} {w : World} {K : PySem.W.Frag} {mg : Str → Option Value} {base : Heap}
theorem scWords : FnScope wordsN ["_law_value", "_law_of_tests"] (defScope sWords) := ⟨rfl, rfl, rfl, by decide +kernel, rfl, by decide +kernel, by decide +kernel⟩
theorem ok_words {f : Addr} {fd : FuncData} (F : Fun K "_law_are_words" "_law_are_words" sWords f fd) (T : TxtK mg) : FnOk P w K mg base CX0 1 f fd ["_law_value", "_law_of_tests"] (spWords K) := by
  refine F.ok scWords (fun vs H Q E h => ?_) (fun cdv A outer s H vs Q E hr h => ?_)
  · obtain ⟨x, c, r, rfl, _⟩ := h
    rfl
  · obtain ⟨x, c, r, rfl, h, k⟩ := h
    rcases h with ⟨h, rfl⟩ | ⟨a, xs, bs, rfl, hx, hl, hb, rfl⟩
    · refine ⟨_, (pss_cons (ps_set (i := 2) scWords.nd rfl (.inl rfl) (pe_lst (pa_cons pe_str (pa_cons pe_str (pa_cons pe_str (pa_cons pe_str (pa_cons pe_str (pa_cons pe_str (pa_cons pe_str (pa_cons pe_str (pa_cons pe_str (pa_cons pe_str pa_nil))))))))))))
          (pss_cons (ps_set (i := 3) scWords.nd rfl (.inr rfl) (pe_op op_cat (pv 2) (pe_lc (own := [("_law_word", 4)]) (g := gName 4) (tt := tYes) (by rfl) scWords.nd (pi_list (pv 2)) (blkOk_by (N := wordsN) (sc := defScope sWords) (by decide +kernel)) (fun _ _ _ _ _ => pg_name (i := 4) scWords.nd rfl (Or.inl rfl)) (fun _ _ _ _ _ => pts_nil) (fun _ _ _ _ _ => pe_op op_add_str pe_str (pv 4)))))
          (C8.pss_cut (ps_if (pt_not (pt_val (pv 1)))
            (pss_one (ps_set (i := 3) scWords.nd rfl (.inr rfl) (pe_lst (pa_cons pe_str (pa_cons pe_str (pa_cons pe_str (pa_cons pe_str (pa_cons pe_str (pa_cons pe_str (pa_cons pe_str (pa_cons pe_str pa_nil)))))))))))
            pss_nil)
          (pss_cons (ps_if (pt_not (pt_val (pe_callB call_isiT (by rfl) T.isinstance (by decide +kernel) (pa_cons (pv 0) (pa_cons (pe_tup (pa_cons (pe_bltn (v := .ty "list") (by rfl) T.list (by decide +kernel) rfl) (pa_cons (pe_bltn (v := .ty "tuple") (by rfl) T.tuple (by decide +kernel) rfl) pa_nil))) pa_nil)))))
            (pss_one (ps_ret pe_bl))
            pss_nil)
          pss_never)))), ?_⟩
      refine ⟨(by show 10 ≤ sizeLine; decide), fun t1 n1 => ?_⟩
      have h1 : upd H t1 (.lst (testL.map V.str)) t1 = some (.lst (testL.map V.str)) := upd_same
      have s1 := Same.new n1 (o := .lst (testL.map V.str))
      refine ⟨_, rfl, _, rfl, t1, rfl, ⟨_, SqL.of h1⟩, fun D nD => lc_list (xs := testL.map V.str) (fun i G => Same (upd H t1 (.lst (testL.map V.str))) G ∧ G D = some (.lst (((testL.take i).map fun w => Str.ofString "not " ++ w).map V.str))) ⟨Same.new nD, upd_same⟩ (fun i G _ q => SqL.of (q.1 _ _ h1)) ?_ ?_⟩
      · rintro i x G hi ⟨sG, hD⟩
        obtain ⟨z, hz, rfl⟩ := str_at hi
        have zl := short_tests z (List.mem_of_getElem? hz)
        refine ⟨rfl, _, rfl, _, _, rfl, rfl, fits (by show 4 + z.length ≤ 1000; omega), _, hD, ?_, fun c u e => ?_, ?_⟩
        · rw [List.length_map, List.length_map, List.length_take]
          exact small1000 (by show min i 10 ≤ 1000; omega)
        · rw [upd_ne (ne_of_none e nD)]
          exact sG _ _ e
        · rw [upd_same, List.take_succ, hz]
          simp only [List.map_append, Option.toList, List.map_cons, List.map_nil]
      · rintro G ⟨sG, hD⟩
        rw [List.length_map, List.take_length] at hD
        refine ⟨t1, D, _, _, rfl, rfl, sG _ _ h1, hD, (by show 20 ≤ sizeLine; decide), fun E1 nE => ?_⟩
        have sE := (s1.trans sG).trans (Same.new nE (o := .lst (testL.map V.str ++ (testL.map fun w => Str.ofString "not " ++ w).map V.str)))
        refine ⟨fun σ' G' => ∃ (x2 x4 x5 : Option V) (E1 : Addr), σ' = [some (x), some (.bl c), x2, some (.ref E1), x4, x5] ∧ Same H G' ∧ G' E1 = some (.lst ((wordL c).map V.str)), ?_, ?_⟩
        · refine ⟨_, rfl, _, rfl, ?_⟩
          cases c with
          | true => exact iteN rfl ⟨_, _, _, E1, rfl, sE, by rw [upd_same, show wordL true = testL ++ testL.map fun w => Str.ofString "not " ++ w from rfl, List.map_append]⟩
          | false => exact iteY rfl ⟨by show 8 ≤ sizeLine; decide, fun q nq => ⟨_, _, _, q, rfl, sE.trans (Same.new nq), upd_same⟩⟩
        · rintro σ' G2 ⟨x2, x4, x5, E2, rfl, s2, hE⟩
          refine ⟨_, rfl, (by show 2 ≤ sizeLine; decide), fun p np => ?_⟩
      
          have sp := Same.new np (o := .tup [.ty "list", .ty "tuple"])
          obtain ⟨t, ty, et⟩ := (h.same s2).same sp
          exact ⟨_, p, _, t, _, false, rfl, upd_same, .cons (.ty _) (.cons (.ty _) .nil), ty, et, _, rfl, iteY rfl (k _ (s2.trans sp))⟩
    · rcases hx with hx | hx
      · refine ⟨_, (pss_cons (ps_set (i := 2) scWords.nd rfl (.inl rfl) (pe_lst (pa_cons pe_str (pa_cons pe_str (pa_cons pe_str (pa_cons pe_str (pa_cons pe_str (pa_cons pe_str (pa_cons pe_str (pa_cons pe_str (pa_cons pe_str (pa_cons pe_str pa_nil))))))))))))
          (pss_cons (ps_set (i := 3) scWords.nd rfl (.inr rfl) (pe_op op_cat (pv 2) (pe_lc (own := [("_law_word", 4)]) (g := gName 4) (tt := tYes) (by rfl) scWords.nd (pi_list (pv 2)) (blkOk_by (N := wordsN) (sc := defScope sWords) (by decide +kernel)) (fun _ _ _ _ _ => pg_name (i := 4) scWords.nd rfl (Or.inl rfl)) (fun _ _ _ _ _ => pts_nil) (fun _ _ _ _ _ => pe_op op_add_str pe_str (pv 4)))))
          (C8.pss_cut (ps_if (pt_not (pt_val (pv 1)))
            (pss_one (ps_set (i := 3) scWords.nd rfl (.inr rfl) (pe_lst (pa_cons pe_str (pa_cons pe_str (pa_cons pe_str (pa_cons pe_str (pa_cons pe_str (pa_cons pe_str (pa_cons pe_str (pa_cons pe_str pa_nil)))))))))))
            pss_nil)
          (pss_cons (ps_if (pt_not (pt_val (pe_callB call_isiT (by rfl) T.isinstance (by decide +kernel) (pa_cons (pv 0) (pa_cons (pe_tup (pa_cons (pe_bltn (v := .ty "list") (by rfl) T.list (by decide +kernel) rfl) (pa_cons (pe_bltn (v := .ty "tuple") (by rfl) T.tuple (by decide +kernel) rfl) pa_nil))) pa_nil)))))
            (pss_one (ps_ret pe_bl))
            pss_nil)
          (pss_one (ps_ret (pe_cmpR (op_eqNil hr.units) (pe_lc (own := [("_law_one", 5)]) (g := gName 5) (by rfl) scWords.nd (pi_list (pv 0)) (blkOk_by (N := wordsN) (sc := defScope sWords) (by decide +kernel)) (fun _ _ _ _ _ => pg_name (i := 5) scWords.nd rfl (Or.inl rfl))
            (fun _ _ _ _ _ => pts_one (PW.pt (pw_or (pt_not (pt_val (pe_callB (call_isiK (K := K) rfl) (by rfl) T.isinstance (by decide +kernel) (pa_cons (pv 5) (pa_cons (pe_bltn (v := .ty "str") (by rfl) T.str (by decide +kernel) rfl) pa_nil))))) (pw_or1 (pt_cmpR (op_notInK (K := K) rfl) (pv 5) (pv 3) (by rfl))))))
            (fun _ _ _ _ _ => pv 5)) (pe_lst pa_nil) (nomark _)))))))), ?_⟩
        refine ⟨(by show 10 ≤ sizeLine; decide), fun t1 n1 => ?_⟩
        have h1 : upd H t1 (.lst (testL.map V.str)) t1 = some (.lst (testL.map V.str)) := upd_same
        have s1 := Same.new n1 (o := .lst (testL.map V.str))
        refine ⟨_, rfl, _, rfl, t1, rfl, ⟨_, SqL.of h1⟩, fun D nD => lc_list (xs := testL.map V.str) (fun i G => Same (upd H t1 (.lst (testL.map V.str))) G ∧ G D = some (.lst (((testL.take i).map fun w => Str.ofString "not " ++ w).map V.str))) ⟨Same.new nD, upd_same⟩ (fun i G _ q => SqL.of (q.1 _ _ h1)) ?_ ?_⟩
        · rintro i x G hi ⟨sG, hD⟩
          obtain ⟨z, hz, rfl⟩ := str_at hi
          have zl := short_tests z (List.mem_of_getElem? hz)
          refine ⟨rfl, _, rfl, _, _, rfl, rfl, fits (by show 4 + z.length ≤ 1000; omega), _, hD, ?_, fun c u e => ?_, ?_⟩
          · rw [List.length_map, List.length_map, List.length_take]
            exact small1000 (by show min i 10 ≤ 1000; omega)
          · rw [upd_ne (ne_of_none e nD)]
            exact sG _ _ e
          · rw [upd_same, List.take_succ, hz]
            simp only [List.map_append, Option.toList, List.map_cons, List.map_nil]
        · rintro G ⟨sG, hD⟩
          rw [List.length_map, List.take_length] at hD
          refine ⟨t1, D, _, _, rfl, rfl, sG _ _ h1, hD, (by show 20 ≤ sizeLine; decide), fun E1 nE => ?_⟩
          have sE := (s1.trans sG).trans (Same.new nE (o := .lst (testL.map V.str ++ (testL.map fun w => Str.ofString "not " ++ w).map V.str)))
          refine ⟨fun σ' G' => ∃ (x2 x4 x5 : Option V) (E1 : Addr), σ' = [some (.ref a), some (.bl c), x2, some (.ref E1), x4, x5] ∧ Same H G' ∧ G' E1 = some (.lst ((wordL c).map V.str)), ?_, ?_⟩
          · refine ⟨_, rfl, _, rfl, ?_⟩
            cases c with
            | true => exact iteN rfl ⟨_, _, _, E1, rfl, sE, by rw [upd_same, show wordL true = testL ++ testL.map fun w => Str.ofString "not " ++ w from rfl, List.map_append]⟩
            | false => exact iteY rfl ⟨by show 8 ≤ sizeLine; decide, fun q nq => ⟨_, _, _, q, rfl, sE.trans (Same.new nq), upd_same⟩⟩
          · rintro σ' G2 ⟨x2, x4, x5, E2, rfl, s2, hE⟩
            refine ⟨_, rfl, (by show 2 ≤ sizeLine; decide), fun p np => ?_⟩
        
            have sp := Same.new np (o := .tup [.ty "list", .ty "tuple"])
            obtain ⟨t, ty, et⟩ := ((SqX.seq (K := K) (.inl hx)).same s2).same sp
            refine ⟨_, p, _, t, _, true, rfl, upd_same, .cons (.ty _) (.cons (.ty _) .nil), ty, et, _, rfl, iteN rfl ?_⟩
            have s3 := s2.trans sp
            have hx3 := s3 _ _ hx
            have hE3 := sp _ _ hE
            refine ⟨_, rfl, a, rfl, ⟨_, SqL.of hx3⟩, fun D2 nD2 => lc_list (xs := xs) (fun i G => ∃ acc : List V, Same (upd G2 p (.tup [.ty "list", .ty "tuple"])) G ∧ G D2 = some (.lst acc) ∧ acc.length ≤ i ∧ acc.isEmpty = (bs.take i).all id) ⟨[], Same.new nD2, upd_same, Nat.le_refl _, rfl⟩ (fun i G _ q => SqL.of (by obtain ⟨acc, q, _⟩ := q; exact q _ _ hx3)) ?_ ?_⟩
            · rintro i y G hi ⟨acc, sG3, hD2, la, ea⟩
              have li := (List.getElem?_eq_some_iff.mp hi).1
              have li2 : i < bs.length := by rw [hb.1]; exact li
              have eb : bs[i]? = some bs[i] := by simp [li2]
              have iy := (hb.2 i y _ hi eb).same (s3.trans sG3)
              have et2 : (bs.take (i + 1)).all id = ((bs.take i).all id && bs[i]) := by
                rw [List.take_succ, eb, List.all_append]
                simp
              have more : bs[i] = false → ∃ acc', G D2 = some (.lst acc') ∧ acc'.length < sizeLine ∧ ∃ acc : List V, Same (upd G2 p (.tup [.ty "list", .ty "tuple"])) (upd G D2 (.lst (acc' ++ [y]))) ∧ upd G D2 (.lst (acc' ++ [y])) D2 = some (.lst acc) ∧ acc.length ≤ i + 1 ∧ acc.isEmpty = (bs.take (i + 1)).all id := fun hf => by
                refine ⟨acc, hD2, small1000 (by omega), acc ++ [y], fun c u e => ?_, upd_same, ?_, ?_⟩
                · rw [upd_ne (ne_of_none e nD2)]
                  exact sG3 _ _ e
                · rw [List.length_append]
                  show acc.length + 1 ≤ i + 1
                  omega
                · rw [et2, hf, Bool.and_false]
                  simp
              have less : bs[i] = true → ∃ acc : List V, Same (upd G2 p (.tup [.ty "list", .ty "tuple"])) G ∧ G D2 = some (.lst acc) ∧ acc.length ≤ i + 1 ∧ acc.isEmpty = (bs.take (i + 1)).all id := fun ht => ⟨acc, sG3, hD2, by omega, by rw [et2, ht, Bool.and_true]; exact ea⟩
              rcases iy with ⟨z, rfl, hz, ez⟩ | ⟨ez, t2, ty2, et2'⟩
              · obtain ⟨t2, ty2, e2⟩ := isT_str (K := K) (H := G) (z := z)
                refine ⟨rfl, _, rfl, _, _, _, _, _, rfl, .ty _, ty2, e2, _, rfl, iteN rfl ?_⟩
                refine ⟨_, rfl, _, rfl, E2, _, rfl, .inl (SqL.of (sG3 _ _ hE3)), rfl, flat_strs _, _, rfl, ?_⟩
                have ei : inV (.str z) ((wordL c).map V.str) = bs[i] := ez.symm
                rw [if_pos rfl, ei]
                refine ite2 (fun q => ?_) (fun q => ?_)
                · exact ⟨_, rfl, more (by simpa using q)⟩
                · exact less (by simpa using q)
              · refine ⟨rfl, _, rfl, _, _, _, _, _, rfl, .ty _, ty2, et2', _, rfl, iteY rfl (iteY rfl ⟨_, rfl, more ez⟩)⟩
            · rintro G ⟨acc, sG3, hD2, la, ea⟩
              rw [← hb.1, List.take_length] at ea
              refine ⟨(by show 0 ≤ sizeLine; exact Nat.zero_le _), fun q nq => ⟨D2, q, acc, rfl, rfl, SqL.of (Same.new nq _ _ hD2), upd_same, ?_⟩⟩
              rw [ea]
              exact k _ ((s3.trans sG3).trans (Same.new nq))
      · refine ⟨_, (pss_cons (ps_set (i := 2) scWords.nd rfl (.inl rfl) (pe_lst (pa_cons pe_str (pa_cons pe_str (pa_cons pe_str (pa_cons pe_str (pa_cons pe_str (pa_cons pe_str (pa_cons pe_str (pa_cons pe_str (pa_cons pe_str (pa_cons pe_str pa_nil))))))))))))
          (pss_cons (ps_set (i := 3) scWords.nd rfl (.inr rfl) (pe_op op_cat (pv 2) (pe_lc (own := [("_law_word", 4)]) (g := gName 4) (tt := tYes) (by rfl) scWords.nd (pi_list (pv 2)) (blkOk_by (N := wordsN) (sc := defScope sWords) (by decide +kernel)) (fun _ _ _ _ _ => pg_name (i := 4) scWords.nd rfl (Or.inl rfl)) (fun _ _ _ _ _ => pts_nil) (fun _ _ _ _ _ => pe_op op_add_str pe_str (pv 4)))))
          (C8.pss_cut (ps_if (pt_not (pt_val (pv 1)))
            (pss_one (ps_set (i := 3) scWords.nd rfl (.inr rfl) (pe_lst (pa_cons pe_str (pa_cons pe_str (pa_cons pe_str (pa_cons pe_str (pa_cons pe_str (pa_cons pe_str (pa_cons pe_str (pa_cons pe_str pa_nil)))))))))))
            pss_nil)
          (pss_cons (ps_if (pt_not (pt_val (pe_callB call_isiT (by rfl) T.isinstance (by decide +kernel) (pa_cons (pv 0) (pa_cons (pe_tup (pa_cons (pe_bltn (v := .ty "list") (by rfl) T.list (by decide +kernel) rfl) (pa_cons (pe_bltn (v := .ty "tuple") (by rfl) T.tuple (by decide +kernel) rfl) pa_nil))) pa_nil)))))
            (pss_one (ps_ret pe_bl))
            pss_nil)
          (pss_one (ps_ret (pe_cmpR (op_eqNil hr.units) (pe_lc (own := [("_law_one", 5)]) (g := gName 5) (by rfl) scWords.nd (pi_tup (pv 0)) (blkOk_by (N := wordsN) (sc := defScope sWords) (by decide +kernel)) (fun _ _ _ _ _ => pg_name (i := 5) scWords.nd rfl (Or.inl rfl))
            (fun _ _ _ _ _ => pts_one (PW.pt (pw_or (pt_not (pt_val (pe_callB (call_isiK (K := K) rfl) (by rfl) T.isinstance (by decide +kernel) (pa_cons (pv 5) (pa_cons (pe_bltn (v := .ty "str") (by rfl) T.str (by decide +kernel) rfl) pa_nil))))) (pw_or1 (pt_cmpR (op_notInK (K := K) rfl) (pv 5) (pv 3) (by rfl))))))
            (fun _ _ _ _ _ => pv 5)) (pe_lst pa_nil) (nomark _)))))))), ?_⟩
        refine ⟨(by show 10 ≤ sizeLine; decide), fun t1 n1 => ?_⟩
        have h1 : upd H t1 (.lst (testL.map V.str)) t1 = some (.lst (testL.map V.str)) := upd_same
        have s1 := Same.new n1 (o := .lst (testL.map V.str))
        refine ⟨_, rfl, _, rfl, t1, rfl, ⟨_, SqL.of h1⟩, fun D nD => lc_list (xs := testL.map V.str) (fun i G => Same (upd H t1 (.lst (testL.map V.str))) G ∧ G D = some (.lst (((testL.take i).map fun w => Str.ofString "not " ++ w).map V.str))) ⟨Same.new nD, upd_same⟩ (fun i G _ q => SqL.of (q.1 _ _ h1)) ?_ ?_⟩
        · rintro i x G hi ⟨sG, hD⟩
          obtain ⟨z, hz, rfl⟩ := str_at hi
          have zl := short_tests z (List.mem_of_getElem? hz)
          refine ⟨rfl, _, rfl, _, _, rfl, rfl, fits (by show 4 + z.length ≤ 1000; omega), _, hD, ?_, fun c u e => ?_, ?_⟩
          · rw [List.length_map, List.length_map, List.length_take]
            exact small1000 (by show min i 10 ≤ 1000; omega)
          · rw [upd_ne (ne_of_none e nD)]
            exact sG _ _ e
          · rw [upd_same, List.take_succ, hz]
            simp only [List.map_append, Option.toList, List.map_cons, List.map_nil]
        · rintro G ⟨sG, hD⟩
          rw [List.length_map, List.take_length] at hD
          refine ⟨t1, D, _, _, rfl, rfl, sG _ _ h1, hD, (by show 20 ≤ sizeLine; decide), fun E1 nE => ?_⟩
          have sE := (s1.trans sG).trans (Same.new nE (o := .lst (testL.map V.str ++ (testL.map fun w => Str.ofString "not " ++ w).map V.str)))
          refine ⟨fun σ' G' => ∃ (x2 x4 x5 : Option V) (E1 : Addr), σ' = [some (.ref a), some (.bl c), x2, some (.ref E1), x4, x5] ∧ Same H G' ∧ G' E1 = some (.lst ((wordL c).map V.str)), ?_, ?_⟩
          · refine ⟨_, rfl, _, rfl, ?_⟩
            cases c with
            | true => exact iteN rfl ⟨_, _, _, E1, rfl, sE, by rw [upd_same, show wordL true = testL ++ testL.map fun w => Str.ofString "not " ++ w from rfl, List.map_append]⟩
            | false => exact iteY rfl ⟨by show 8 ≤ sizeLine; decide, fun q nq => ⟨_, _, _, q, rfl, sE.trans (Same.new nq), upd_same⟩⟩
          · rintro σ' G2 ⟨x2, x4, x5, E2, rfl, s2, hE⟩
            refine ⟨_, rfl, (by show 2 ≤ sizeLine; decide), fun p np => ?_⟩
        
            have sp := Same.new np (o := .tup [.ty "list", .ty "tuple"])
            obtain ⟨t, ty, et⟩ := ((SqX.seq (K := K) (.inr hx)).same s2).same sp
            refine ⟨_, p, _, t, _, true, rfl, upd_same, .cons (.ty _) (.cons (.ty _) .nil), ty, et, _, rfl, iteN rfl ?_⟩
            have s3 := s2.trans sp
            have hx3 := s3 _ _ hx
            have hE3 := sp _ _ hE
            refine ⟨_, rfl, a, rfl, ⟨_, SqT.of hx3⟩, fun D2 nD2 => lc_tup (xs := xs) (fun i G => ∃ acc : List V, Same (upd G2 p (.tup [.ty "list", .ty "tuple"])) G ∧ G D2 = some (.lst acc) ∧ acc.length ≤ i ∧ acc.isEmpty = (bs.take i).all id) ⟨[], Same.new nD2, upd_same, Nat.le_refl _, rfl⟩ (fun i G _ q => SqT.of (by obtain ⟨acc, q, _⟩ := q; exact q _ _ hx3)) ?_ ?_⟩
            · rintro i y G hi ⟨acc, sG3, hD2, la, ea⟩
              have li := (List.getElem?_eq_some_iff.mp hi).1
              have li2 : i < bs.length := by rw [hb.1]; exact li
              have eb : bs[i]? = some bs[i] := by simp [li2]
              have iy := (hb.2 i y _ hi eb).same (s3.trans sG3)
              have et2 : (bs.take (i + 1)).all id = ((bs.take i).all id && bs[i]) := by
                rw [List.take_succ, eb, List.all_append]
                simp
              have more : bs[i] = false → ∃ acc', G D2 = some (.lst acc') ∧ acc'.length < sizeLine ∧ ∃ acc : List V, Same (upd G2 p (.tup [.ty "list", .ty "tuple"])) (upd G D2 (.lst (acc' ++ [y]))) ∧ upd G D2 (.lst (acc' ++ [y])) D2 = some (.lst acc) ∧ acc.length ≤ i + 1 ∧ acc.isEmpty = (bs.take (i + 1)).all id := fun hf => by
                refine ⟨acc, hD2, small1000 (by omega), acc ++ [y], fun c u e => ?_, upd_same, ?_, ?_⟩
                · rw [upd_ne (ne_of_none e nD2)]
                  exact sG3 _ _ e
                · rw [List.length_append]
                  show acc.length + 1 ≤ i + 1
                  omega
                · rw [et2, hf, Bool.and_false]
                  simp
              have less : bs[i] = true → ∃ acc : List V, Same (upd G2 p (.tup [.ty "list", .ty "tuple"])) G ∧ G D2 = some (.lst acc) ∧ acc.length ≤ i + 1 ∧ acc.isEmpty = (bs.take (i + 1)).all id := fun ht => ⟨acc, sG3, hD2, by omega, by rw [et2, ht, Bool.and_true]; exact ea⟩
              rcases iy with ⟨z, rfl, hz, ez⟩ | ⟨ez, t2, ty2, et2'⟩
              · obtain ⟨t2, ty2, e2⟩ := isT_str (K := K) (H := G) (z := z)
                refine ⟨rfl, _, rfl, _, _, _, _, _, rfl, .ty _, ty2, e2, _, rfl, iteN rfl ?_⟩
                refine ⟨_, rfl, _, rfl, E2, _, rfl, .inl (SqL.of (sG3 _ _ hE3)), rfl, flat_strs _, _, rfl, ?_⟩
                have ei : inV (.str z) ((wordL c).map V.str) = bs[i] := ez.symm
                rw [if_pos rfl, ei]
                refine ite2 (fun q => ?_) (fun q => ?_)
                · exact ⟨_, rfl, more (by simpa using q)⟩
                · exact less (by simpa using q)
              · refine ⟨rfl, _, rfl, _, _, _, _, _, rfl, .ty _, ty2, et2', _, rfl, iteY rfl (iteY rfl ⟨_, rfl, more ez⟩)⟩
            · rintro G ⟨acc, sG3, hD2, la, ea⟩
              rw [← hb.1, List.take_length] at ea
              refine ⟨(by show 0 ≤ sizeLine; exact Nat.zero_le _), fun q nq => ⟨D2, q, acc, rfl, rfl, SqL.of (Same.new nq _ _ hD2), upd_same, ?_⟩⟩
              rw [ea]
              exact k _ ((s3.trans sG3).trans (Same.new nq))
end
end Lay
set_option Elab.async false
set_option linter.all false
set_option maxRecDepth 100000
set_option maxHeartbeats 4000000
namespace Lay
open PySem L2
theorem K2.put {b gr p : Addr} {H G : Hp} {o : HO} (h : H p = none) (k : K2 b gr H G) : K2 b gr H (upd G p o) := fun a u n1 n2 e => by
  rw [upd_ne (ne_of_none e h)]
  exact k _ _ n1 n2 e
theorem BoxD.put {b gr p : Addr} {H : Hp} {o : HO} (n1 : p ≠ b) (n2 : p ≠ gr) (x : BoxD H b gr) : BoxD (upd H p o) b gr := by
  obtain ⟨⟨m, h1⟩, ns, h2, h3⟩ := x
  exact ⟨⟨m, by rw [upd_ne (Ne.symm n1)]; exact h1⟩, ns, by rw [upd_ne (Ne.symm n2)]; exact h2, h3⟩
theorem BoxD.tup_ne {b gr t : Addr} {H : Hp} {xs : List V} (x : BoxD H b gr) (h : H t = some (.tup xs)) : t ≠ b ∧ t ≠ gr := by
  obtain ⟨⟨m, h1⟩, ns, h2, _⟩ := x
  exact ⟨ne_of h h1 (fun z => nomatch z), ne_of h h2 (fun z => nomatch z)⟩
def drawT : List Str := ["broken", "marked", "left", "ahead", "behind", "blank", "long", "long", "first", "afterbroken", "afterbehind"]
def GoodT (z : Str) : Bool := progT z && (lawW true z && decide (z.length ≤ 1000))
def GoodD (z : Str) : Bool := progD z && decide (z.length ≤ 1000)
theorem goodT_drawn : ∀ z ∈ drawT, GoodT z = true ∧ GoodT (Str.ofString "not " ++ z) = true ∧ z.length ≤ 20 := by decide +kernel
theorem goodD_drawn : ∀ z ∈ deedL, GoodD z = true := by decide +kernel
theorem mem_strs {zs : List Str} {v : V} (h : v ∈ zs.map V.str) : ∃ z, z ∈ zs ∧ v = V.str z := by
  obtain ⟨z, h1, h2⟩ := List.mem_map.mp h
  exact ⟨z, h1, h2.symm⟩
/-- texts drawn: a new tuple of good ones -/
def spDrawn (good : Str → Bool) (lo : Int) : Sp := fun vs H Q _ => ∃ (b gr : Addr) (m : Int), vs = [.ref b, .int m] ∧ BoxD H b gr ∧ 0 < m ∧ m ≤ 100 ∧
  ∀ (t : Addr) (ws : List Str) (H' : Hp), K2 b gr H H' → BoxD H' b gr → t ≠ b → t ≠ gr → H' t = some (.tup (ws.map V.str)) → lo ≤ ws.length → ws.length ≤ m → (∀ z ∈ ws, good z = true) → Q (.ref t) H'
abbrev sTests : Stmt := top 19
abbrev sDeeds : Stmt := top 20
def testsN : List Str := ["_law_box", "_law_most", "_law_every", "_law_found", "_law_turn", "_law_word"]
def deedsN : List Str := ["_law_box", "_law_most", "_law_every", "_law_turn"]
/-- the draws -/
structure Draws (P : Program) (w : World) (K : PySem.W.Frag) (mg : Str → Option Value) (base : Heap) (fT fK : Addr) (dT dK : FuncData) : Prop where
  range : mg "range" = none
  tuple : mg "tuple" = none
  okT : FnOk P w K mg base CX0 1 fT dT ["_law_box", "_law_wide"] spTake
  gT : mg "_law_take" = some (.ref fT)
  kT : PySem.W.keepIn K (.ref fT) = true
  bT : Binds K dT ["_law_box", "_law_wide"] []
  okK : FnOk P w K mg base CX0 2 fK dK ["_law_box", "_law_some"] (spPick K)
  gK : mg "_law_pick" = some (.ref fK)
  kK : PySem.W.keepIn K (.ref fK) = true
  bK : Binds K dK ["_law_box", "_law_some"] []
section
variable {P : Program} {w : World} {K : PySem.W.Frag} {mg : Str → Option Value} {base : Heap} {fT fK : Addr} {dT dK : FuncData}
theorem scTests : FnScope testsN ["_law_box", "_law_most"] (defScope sTests) := ⟨rfl, rfl, rfl, by decide +kernel, rfl, by decide +kernel, by decide +kernel⟩
theorem ok_tests {f : Addr} {fd : FuncData} (F : Fun K "_law_tests" "_law_tests" sTests f fd) (D : Draws P w K mg base fT fK dT dK) : FnOk P w K mg base CX0 3 f fd ["_law_box", "_law_most"] (spDrawn GoodT 0) := by
  refine F.ok scTests (fun vs H Q E h => ?_) (fun cdv A outer s H vs Q E hr h => ?_)
  · obtain ⟨b, gr, m, rfl, _⟩ := h
    rfl
  · obtain ⟨b, gr, m, rfl, bx, m0, m1, k⟩ := h
    have hr1 := hr.mono (show 1 ≤ 2 by decide)
    refine ⟨_, (pss_cons (ps_set (i := 2) scTests.nd rfl (.inl rfl) (pe_lst (pa_cons pe_str (pa_cons pe_str (pa_cons pe_str (pa_cons pe_str (pa_cons pe_str (pa_cons pe_str (pa_cons pe_str (pa_cons pe_str (pa_cons pe_str (pa_cons pe_str pa_nil))))))))))))
      (pss_cons (ps_set (i := 3) scTests.nd rfl (.inl rfl) (pe_lst pa_nil))
      (pss_cons (ps_for PassesOwn.never rfl (pi_range1 (by rfl) D.range (pa_cons (pe_call D.okT hr1 (by rfl) D.gT D.kT D.bT .nil pass0 (pa_cons (pv 0) (pa_cons (pe_op op_add (pv 1) pe_int) pa_nil))) pa_nil)) (pg_name (i := 4) scTests.nd rfl (.inl rfl))
        (pss_cons (ps_set (i := 5) scTests.nd rfl (.inl rfl) (pe_call D.okK hr (by rfl) D.gK D.kK D.bK .nil pass0 (pa_cons (pv 0) (pa_cons (pe_op op_cat (pv 2) (pe_lst (pa_cons pe_str pa_nil))) pa_nil))))
        (pss_one (ps_expr (pe_bm PySem.F.plainAttrs_list PySem.F.slot_list_append PySem.F.type_list_append mt_append (pv 3) (pa_cons (pe_ifExp (pt_cmpR op_eq (pe_call D.okT hr1 (by rfl) D.gT D.kT D.bT .nil pass0 (pa_cons (pv 0) (pa_cons pe_int pa_nil))) pe_int (nomark _)) (pe_op op_add_str pe_str (pv 5)) (pv 5)) pa_nil))))))
      (pss_one (ps_ret (pe_callTy call_tupleX (by rfl) D.tuple (by decide +kernel) (pa_cons (pv 3) pa_nil))))))), ?_⟩
    refine ⟨(by show 10 ≤ sizeLine; decide), fun e1 n1 => ⟨(by show 0 ≤ sizeLine; exact Nat.zero_le _), fun f1 n2 => ?_⟩⟩
    have s1 := (Same.new n1 (o := .lst ((drawT.take 10).map V.str))).trans (Same.new n2 (o := .lst []))
    have e1b := bx.fresh n1
    have f1b := (bx.same (Same.new n1 (o := .lst ((drawT.take 10).map V.str)))).fresh n2
    have h1 : upd H e1 (.lst ((drawT.take 10).map V.str)) e1 = some (.lst ((drawT.take 10).map V.str)) := upd_same
    have ef : e1 ≠ f1 := ne_of_none h1 n2
    have nf : H f1 = none := (Same.new n1).free n2
    refine ⟨_, rfl, _, rfl, _, _, rfl, rfl, b, gr, m + 1, rfl, bx.same s1, by omega, by omega, fun r G r0 r1 bG kG => ?_⟩
    have kHG := (K2.of_same s1).trans kG
    refine ⟨r, rfl, by omega, by omega, for_range (lo := 0) (n := r.toNat) (fun i σ G' => ∃ (x4 x5 : Option V) (ws : List Str), σ = [some (.ref b), some (.int m), some (.ref e1), some (.ref f1), x4, x5] ∧ K2 b gr H G' ∧ BoxD G' b gr ∧ G' e1 = some (.lst ((drawT.take 10).map V.str)) ∧ G' f1 = some (.lst (ws.map V.str)) ∧ ws.length = i ∧ ∀ z ∈ ws, GoodT z = true)
      ⟨_, _, [], rfl, kHG, bG, kG _ _ e1b.1 e1b.2 (Same.new n2 _ _ h1), kG _ _ f1b.1 f1b.2 upd_same, rfl, fun z hz => (List.not_mem_nil hz).elim⟩ ?_ ?_⟩
    · rintro i σ G2 hi ⟨x4, x5, ws, rfl, k2, b2, he, hf, hl, hg⟩
      refine ⟨_, rfl, _, rfl, (by show 1 ≤ sizeLine; decide), fun q nq => ⟨e1, q, _, _, rfl, rfl, Same.new nq _ _ he, upd_same, (by show 11 ≤ sizeLine; decide), fun q2 nq2 => ?_⟩⟩
      have sq := (Same.new nq (o := .lst [.str "afterbehind"])).trans (Same.new nq2 (o := .lst ((drawT.take 10).map V.str ++ [.str "afterbehind"])))
      have bq := b2.same (Same.new nq (o := .lst [.str "afterbehind"]))
      have q2b := bq.fresh nq2
      refine ⟨b, gr, q2, drawT.map V.str, rfl, b2.same sq, q2b.1, q2b.2, .inl upd_same, (by show 0 < 11; decide), (by show 11 ≤ 1000; decide), fun v G3 hv b3 k3 => ?_⟩
      obtain ⟨z, hz, rfl⟩ := mem_strs hv
      obtain ⟨g1, g2, g3⟩ := goodT_drawn z hz
      have k23 := (k2.trans (K2.of_same sq)).trans k3
      have he3 := k3 _ _ e1b.1 e1b.2 (sq _ _ he)
      have hf3 := k3 _ _ f1b.1 f1b.2 (sq _ _ hf)
      refine ⟨_, rfl, .inl ⟨rfl, _, SqL.of hf3⟩, _, rfl, b, gr, 3, rfl, b3, by decide, by decide, fun r3 G4 r30 r31 b4 k4 => ⟨rfl, _, rfl, ?_⟩⟩
      have k24 := k23.trans k4
      have he4 := k4 _ _ e1b.1 e1b.2 he3
      have hf4 := k4 _ _ f1b.1 f1b.2 hf3
      have fin : ∀ y, GoodT y = true → K2 b gr H (upd G4 f1 (.lst (ws.map V.str ++ [.str y]))) ∧ BoxD (upd G4 f1 (.lst (ws.map V.str ++ [.str y]))) b gr ∧ (upd G4 f1 (.lst (ws.map V.str ++ [.str y]))) e1 = some (.lst ((drawT.take 10).map V.str)) ∧ (upd G4 f1 (.lst (ws.map V.str ++ [.str y]))) f1 = some (.lst ((ws ++ [y]).map V.str)) ∧ (ws ++ [y]).length = i + 1 ∧ ∀ z ∈ ws ++ [y], GoodT z = true := fun y hy =>
        ⟨k24.put nf, b4.put f1b.1 f1b.2, by rw [upd_ne ef]; exact he4, by rw [upd_same, List.map_append]; rfl, by rw [List.length_append, hl]; rfl, fun x hx => by
          rcases List.mem_append.mp hx with hx | hx
          · exact hg x hx
          · rw [List.mem_singleton] at hx
            rw [hx]
            exact hy⟩
      refine ite2 (fun _ => ?_) (fun _ => ?_)
      · refine ⟨_, rfl, _, _, rfl, rfl, fits (by show 4 + z.length ≤ 1000; omega), f1, _, _, rfl, rfl, hf4, by rw [List.length_map, hl]; exact small1000 (by omega), ?_⟩
        obtain ⟨a1, a2, a3, a4, a5, a6⟩ := fin _ g2
        exact ⟨_, _, ws ++ [_], rfl, a1, a2, a3, a4, a5, a6⟩
      · refine ⟨_, rfl, f1, _, _, rfl, rfl, hf4, by rw [List.length_map, hl]; exact small1000 (by omega), ?_⟩
        obtain ⟨a1, a2, a3, a4, a5, a6⟩ := fin _ g1
        exact ⟨_, _, ws ++ [_], rfl, a1, a2, a3, a4, a5, a6⟩
    · rintro σ G2 ⟨x4, x5, ws, rfl, k2, b2, he, hf, hl, hg⟩
      refine ⟨_, rfl, f1, _, rfl, .inl hf, fun t H' st ht => ?_⟩
      have bt := b2.same st
      exact k t ws H' (k2.trans (K2.of_same st)) bt (bt.tup_ne ht).1 (bt.tup_ne ht).2 ht (by omega) (by omega) hg
theorem scDeeds : FnScope deedsN ["_law_box", "_law_most"] (defScope sDeeds) := ⟨rfl, rfl, rfl, by decide +kernel, rfl, by decide +kernel, by decide +kernel⟩
theorem ok_deeds {f : Addr} {fd : FuncData} (F : Fun K "_law_deeds" "_law_deeds" sDeeds f fd) (D : Draws P w K mg base fT fK dT dK) : FnOk P w K mg base CX0 3 f fd ["_law_box", "_law_most"] (spDrawn GoodD 1) := by
  refine F.ok scDeeds (fun vs H Q E h => ?_) (fun cdv A outer s H vs Q E hr h => ?_)
  · obtain ⟨b, gr, m, rfl, _⟩ := h
    rfl
  · obtain ⟨b, gr, m, rfl, bx, m0, m1, k⟩ := h
    have hr1 := hr.mono (show 1 ≤ 2 by decide)
    refine ⟨_, (pss_cons (ps_set (i := 2) scDeeds.nd rfl (.inr rfl) (pe_lst (pa_cons pe_str (pa_cons pe_str (pa_cons pe_str (pa_cons pe_str (pa_cons pe_str (pa_cons pe_str (pa_cons pe_str (pa_cons pe_str pa_nil))))))))))
      (pss_one (ps_ret (pe_callTy call_tupleX (by rfl) D.tuple (by decide +kernel) (pa_cons (pe_lc (own := [("_law_turn", 3)]) (g := gName 3) (tt := tYes) (by rfl) scDeeds.nd (pi_range1 (by rfl) D.range (pa_cons (pe_op op_add pe_int (pe_call D.okT hr1 (by rfl) D.gT D.kT D.bT .nil pass0 (pa_cons (pv 0) (pa_cons (pv 1) pa_nil)))) pa_nil)) (blkOk_by (N := deedsN) (sc := defScope sDeeds) (by decide +kernel)) (fun _ _ _ _ _ => pg_name (i := 3) scDeeds.nd rfl (Or.inl rfl)) (fun _ _ _ _ _ => pts_nil)
        (fun _ _ _ _ _ => pe_call D.okK hr (by rfl) D.gK D.kK D.bK .nil pass0 (pa_cons (pv 0) (pa_cons (pv 2) pa_nil)))) pa_nil))))), ?_⟩
    refine ⟨(by show 8 ≤ sizeLine; decide), fun e1 n1 => ?_⟩
    have s1 := Same.new n1 (o := .lst (deedL.map V.str))
    have e1b := bx.fresh n1
    have h1 : upd H e1 (.lst (deedL.map V.str)) e1 = some (.lst (deedL.map V.str)) := upd_same
    refine ⟨_, rfl, _, rfl, b, gr, m, rfl, bx.same s1, m0, by omega, fun r G r0 r1 bG kG => ?_⟩
    have kHG := (K2.of_same s1).trans kG
    refine ⟨_, _, rfl, rfl, 1 + r, rfl, by omega, by omega, fun D1 nD => lc_range (lo := 0) (n := (1 + r).toNat) (fun i G' => ∃ ws : List Str, K2 b gr H G' ∧ BoxD G' b gr ∧ G' e1 = some (.lst (deedL.map V.str)) ∧ G' D1 = some (.lst (ws.map V.str)) ∧ ws.length = i ∧ ∀ z ∈ ws, GoodD z = true)
      ⟨[], kHG.trans (K2.of_same (Same.new nD)), bG.same (Same.new nD), Same.new nD _ _ (kG _ _ e1b.1 e1b.2 h1), upd_same, rfl, fun z hz => (List.not_mem_nil hz).elim⟩ ?_ ?_⟩
    · rintro i G2 hi ⟨ws, k2, b2, he, hD, hl, hg⟩
      have Db := bG.fresh nD
      have De : e1 ≠ D1 := ne_of_none (kG _ _ e1b.1 e1b.2 h1) nD
      refine ⟨rfl, _, rfl, _, rfl, b, gr, e1, deedL.map V.str, rfl, b2, e1b.1, e1b.2, .inl he, (by show 0 < 8; decide), (by show 8 ≤ 1000; decide), fun v G3 hv b3 k3 => ?_⟩
      obtain ⟨z, hz, rfl⟩ := mem_strs hv
      refine ⟨_, k3 _ _ Db.1 Db.2 hD, by rw [List.length_map, hl]; exact small1000 (by omega), ws ++ [z], ?_, b3.put Db.1 Db.2, by rw [upd_ne De]; exact k3 _ _ e1b.1 e1b.2 he, by rw [upd_same, List.map_append]; rfl, by rw [List.length_append, hl]; rfl, fun x hx => ?_⟩
      · have nDH : H D1 = none := by
          cases q : H D1 with
          | none => rfl
          | some o =>
            have := kHG _ _ Db.1 Db.2 q
            rw [this] at nD
            cases nD
        exact (k2.trans k3).put nDH
      · rcases List.mem_append.mp hx with hx | hx
        · exact hg x hx
        · rw [List.mem_singleton] at hx
          rw [hx]
          exact goodD_drawn z hz
    · rintro G2 ⟨ws, k2, b2, he, hD, hl, hg⟩
      refine ⟨D1, _, rfl, .inl hD, fun t H' st ht => ?_⟩
      have bt := b2.same st
      exact k t ws H' (k2.trans (K2.of_same st)) bt (bt.tup_ne ht).1 (bt.tup_ne ht).2 ht (by omega) (by omega) hg
end
end Lay
set_option Elab.async false
set_option linter.all false
set_option maxRecDepth 100000
set_option maxHeartbeats 4000000
namespace Lay
open PySem L2
/-! ### any values -/
structure ClsI (K : PySem.W.Frag) (C : Addr) : Prop where
  cl : Cls K C
  ha : PySem.W.findIn K (.ref C) "__class__" = some (some (.builtin "object.__class__"))
  hn : PySem.W.specialIn K (.builtin "object.__class__") "__get__" = some (some (.builtin "getset_descriptor.__get__"))
  htk : PySem.W.takesIn K (.builtin "object.__class__") = some true
  hm : PySem.W.mroIn K C (.type "object") = some true
  nl : PySem.W.subIn K (.ref C) (.type "list") = some false
  nt : PySem.W.subIn K (.ref C) (.type "tuple") = some false
  ns : PySem.W.subIn K (.ref C) (.type "str") = some false
theorem kit_type {K : PySem.W.Frag} {C : Addr} {n : String} {b : Bool} (hm : PySem.W.kitMeta n = true) (s : PySem.W.subIn K (.ref C) (.type n) = some b) : PySem.W.kitOne K (.ref C) (.type n) = some b := by
  unfold PySem.W.kitOne
  rw [if_neg (fun h => by have q := beq_iff_eq.mp h; cases q)]
  unfold PySem.W.kitCls
  dsimp only
  rw [if_pos hm]
  exact s
theorem ClsI.at {K : PySem.W.Frag} {C a dx : Addr} {H : Hp} {fs : List (Str × V)} (c : ClsI K C) (h : H a = some (.ins C dx fs)) : TyX K H (.ref a) (.ref C) := .base (.ins h c.cl c.ha c.hn c.htk c.hm)
theorem ClsI.noSeq {K : PySem.W.Frag} {C a dx : Addr} {H : Hp} {fs : List (Str × V)} (c : ClsI K C) (h : H a = some (.ins C dx fs)) : IsSeq K H (.ref a) false :=
  ⟨_, c.at h, kitAny_lt (b := false) (c := false) (kit_type (by decide +kernel) c.nl) (kit_type (by decide +kernel) c.nt)⟩
theorem ClsI.noStr {K : PySem.W.Frag} {C a dx : Addr} {H : Hp} {fs : List (Str × V)} (c : ClsI K C) (h : H a = some (.ins C dx fs)) : IsT K H (.ref a) "str" false := ⟨_, c.at h, kit_type (by decide +kernel) c.ns⟩
def knownB (z : Str) : Bool := decide (progT z = lawW true z) && decide (z.length ≤ 1000)
def Cst (v : V) : Prop := v = .non ∨ (∃ i, v = .int i) ∨ (∃ z, v = .bl z) ∨ ∃ z, v = .str z ∧ knownB z = true
def Itm (C b gr : Addr) (H : Hp) (v : V) : Prop := Cst v ∨ ∃ a, v = .ref a ∧ a ≠ b ∧ a ≠ gr ∧ ((∃ xs, H a = some (.lst xs)) ∨ (∃ xs, H a = some (.tup xs)) ∨ ∃ dx fs, H a = some (.ins C dx fs))
def Shp (C b gr : Addr) (H : Hp) (v : V) : Prop := Cst v ∨ ∃ a, v = .ref a ∧ a ≠ b ∧ a ≠ gr ∧ ((∃ dx fs, H a = some (.ins C dx fs)) ∨ ∃ xs, (H a = some (.lst xs) ∨ H a = some (.tup xs)) ∧ xs.length ≤ 1000 ∧ ∀ x ∈ xs, Itm C b gr H x)
theorem Itm.k2 {C b gr : Addr} {H H' : Hp} {v : V} (k : K2 b gr H H') (h : Itm C b gr H v) : Itm C b gr H' v := by
  rcases h with h | ⟨a, rfl, n1, n2, ⟨xs, h⟩ | ⟨xs, h⟩ | ⟨dx, fs, h⟩⟩
  · exact .inl h
  · exact .inr ⟨a, rfl, n1, n2, .inl ⟨xs, k _ _ n1 n2 h⟩⟩
  · exact .inr ⟨a, rfl, n1, n2, .inr (.inl ⟨xs, k _ _ n1 n2 h⟩)⟩
  · exact .inr ⟨a, rfl, n1, n2, .inr (.inr ⟨dx, fs, k _ _ n1 n2 h⟩)⟩
theorem Shp.k2 {C b gr : Addr} {H H' : Hp} {v : V} (k : K2 b gr H H') (h : Shp C b gr H v) : Shp C b gr H' v := by
  rcases h with h | ⟨a, rfl, n1, n2, ⟨dx, fs, h⟩ | ⟨xs, h, l, i⟩⟩
  · exact .inl h
  · exact .inr ⟨a, rfl, n1, n2, .inl ⟨dx, fs, k _ _ n1 n2 h⟩⟩
  · exact .inr ⟨a, rfl, n1, n2, .inr ⟨xs, h.imp (k _ _ n1 n2) (k _ _ n1 n2), l, fun x hx => (i x hx).k2 k⟩⟩
theorem Shp.itm {C b gr : Addr} {H : Hp} {v : V} (h : Shp C b gr H v) : Itm C b gr H v := by
  rcases h with h | ⟨a, rfl, n1, n2, ⟨dx, fs, h⟩ | ⟨xs, h | h, l, i⟩⟩
  · exact .inl h
  · exact .inr ⟨a, rfl, n1, n2, .inr (.inr ⟨dx, fs, h⟩)⟩
  · exact .inr ⟨a, rfl, n1, n2, .inl ⟨xs, h⟩⟩
  · exact .inr ⟨a, rfl, n1, n2, .inr (.inl ⟨xs, h⟩)⟩
/-- what a test by f says of a thing -/
def ansOf (f : Str → Bool) : V → Bool
  | .str z => f z
  | _ => false
theorem Itm.ans {K : PySem.W.Frag} {C b gr : Addr} {H : Hp} {v : V} (f : Str → Bool) (c : ClsI K C) (h : Itm C b gr H v) : ItB f K H v (ansOf f v) := by
  rcases h with (rfl | ⟨i, rfl⟩ | ⟨z, rfl⟩ | ⟨z, rfl, hz⟩) | ⟨a, rfl, _, _, ⟨xs, h⟩ | ⟨xs, h⟩ | ⟨dx, fs, h⟩⟩
  · exact .inr ⟨rfl, _, .base .non, kit_ty (by decide +kernel)⟩
  · exact .inr ⟨rfl, _, .base (.int i), kit_ty (by decide +kernel)⟩
  · exact .inr ⟨rfl, _, .base (.bl z), kit_ty (by decide +kernel)⟩
  · exact .inl ⟨z, rfl, of_decide_eq_true (Bool.and_eq_true_iff.mp hz).2, rfl⟩
  · exact .inr ⟨rfl, _, .base (.lst h), kit_ty (by decide +kernel)⟩
  · exact .inr ⟨rfl, _, .base (.tup h), kit_ty (by decide +kernel)⟩
  · exact .inr ⟨rfl, c.noStr h⟩
theorem Itm.same_ans {C b gr : Addr} {H : Hp} {v : V} (h : Itm C b gr H v) : ansOf progT v = ansOf (lawW true) v := by
  rcases h with (rfl | ⟨i, rfl⟩ | ⟨z, rfl⟩ | ⟨z, rfl, hz⟩) | ⟨a, rfl, _⟩
  · rfl
  · rfl
  · rfl
  · exact of_decide_eq_true (Bool.and_eq_true_iff.mp hz).1
  · rfl
theorem itms {K : PySem.W.Frag} {C b gr : Addr} {H : Hp} (f : Str → Bool) (c : ClsI K C) {xs : List V} (h : ∀ x ∈ xs, Itm C b gr H x) : ItBs f K H xs (xs.map (ansOf f)) := by
  refine ⟨List.length_map .., fun i x b hx hb => ?_⟩
  rw [List.getElem?_map, hx] at hb
  cases hb
  exact (h x (List.mem_of_getElem? hx)).ans f c
theorem Cst.noSeq {K : PySem.W.Frag} {H : Hp} {v : V} (h : Cst v) : IsSeq K H v false := by
  rcases h with rfl | ⟨i, rfl⟩ | ⟨z, rfl⟩ | ⟨z, rfl, _⟩
  · exact ⟨_, .base .non, kitAny_lt (b := false) (c := false) (kit_ty (by decide +kernel)) (kit_ty (by decide +kernel))⟩
  · exact ⟨_, .base (.int i), kitAny_lt (b := false) (c := false) (kit_ty (by decide +kernel)) (kit_ty (by decide +kernel))⟩
  · exact ⟨_, .base (.bl z), kitAny_lt (b := false) (c := false) (kit_ty (by decide +kernel)) (kit_ty (by decide +kernel))⟩
  · exact ⟨_, .base (.str z), kitAny_lt (b := false) (c := false) (kit_ty (by decide +kernel)) (kit_ty (by decide +kernel))⟩
/-- the two sides say the same of tests -/
theorem Shp.tests {K : PySem.W.Frag} {C b gr : Addr} {H : Hp} {v : V} (c : ClsI K C) (h : Shp C b gr H v) : ∃ rt, AnsV progT yes K H v rt ∧ AnsV (lawW true) yes K H v rt := by
  rcases h with h | ⟨a, rfl, n1, n2, ⟨dx, fs, h⟩ | ⟨xs, h, l, i⟩⟩
  · exact ⟨false, .inl ⟨h.noSeq, rfl⟩, .inl ⟨h.noSeq, rfl⟩⟩
  · exact ⟨false, .inl ⟨c.noSeq h, rfl⟩, .inl ⟨c.noSeq h, rfl⟩⟩
  · have e : xs.map (ansOf progT) = xs.map (ansOf (lawW true)) := List.map_congr_left fun x hx => (i x hx).same_ans
    exact ⟨_, .inr ⟨a, xs, _, rfl, h, l, itms progT c i, rfl⟩, .inr ⟨a, xs, _, rfl, h, l, itms (lawW true) c i, by rw [e]⟩⟩
/-- and of deeds, but for their number -/
theorem Shp.deeds {K : PySem.W.Frag} {C b gr : Addr} {H : Hp} {v : V} (c : ClsI K C) (h : Shp C b gr H v) : ∃ rd rl, AnsV progD full K H v rd ∧ AnsV (lawW false) yes K H v rl ∧ (rl = false → rd = false) ∧ (rl = true → ∃ a xs, v = .ref a ∧ SqX H a xs ∧ rd = decide (0 < xs.length)) := by
  rcases h with h | ⟨a, rfl, n1, n2, ⟨dx, fs, h⟩ | ⟨xs, h, l, i⟩⟩
  · exact ⟨false, false, .inl ⟨h.noSeq, rfl⟩, .inl ⟨h.noSeq, rfl⟩, fun _ => rfl, fun z => nomatch z⟩
  · exact ⟨false, false, .inl ⟨c.noSeq h, rfl⟩, .inl ⟨c.noSeq h, rfl⟩, fun _ => rfl, fun z => nomatch z⟩
  · refine ⟨_, _, .inr ⟨a, xs, _, rfl, h, l, itms progD c i, rfl⟩, .inr ⟨a, xs, _, rfl, h, l, itms (lawW false) c i, rfl⟩, fun e => ?_, fun e => ⟨a, xs, rfl, h, ?_⟩⟩
    · have e2 : (xs.map (ansOf progD)).all id = false := e
      rw [e2, Bool.and_false]
    · have e2 : (xs.map (ansOf progD)).all id = true := e
      rw [e2, Bool.and_true]
      rfl
def spAny (C : Addr) (n : Nat) : Sp := fun vs H Q _ => ∃ (b gr : Addr) (m : Int), vs = [.ref b, .int m] ∧ BoxD H b gr ∧ 0 ≤ m ∧ m ≤ n ∧ ∀ (v : V) (H' : Hp), K2 b gr H H' → BoxD H' b gr → Shp C b gr H' v → Q v H'
end Lay
set_option Elab.async false
set_option linter.all false
set_option maxRecDepth 100000
set_option maxHeartbeats 4000000
namespace Lay
open PySem L2
abbrev sAny : Stmt := top 23
def anyN : List Str := ["_law_box", "_law_deep", "_law_form", "_law_some", "_law_things", "_law_turn"]
/-- the class Row, to be called -/
structure RowD (P : Program) (w : World) (K : PySem.W.Frag) (mg : Str → Option Value) (base : Heap) (C D fR : Addr) (dR : FuncData) : Prop where
  made : Mk K C fR
  ok : FnOk P w K mg base (L2.CX P w) 3 fR dR ["self", "tests", "deeds"] (spRowI K C D)
  g : mg "Row" = some (.ref C)
  b : Binds K dR ["self", "tests", "deeds"] []
theorem made_same {x dx : Addr} {H H' : Hp} {o : HO} (hx : H x = none) (hd : H dx = none) (k : Kept x (upd (upd H dx (.own x)) x o) H') : Same H H' := fun b u e => k b u (ne_of_none e hx) (by rw [upd_ne (ne_of_none e hx), upd_ne (ne_of_none e hd)]; exact e)
theorem fresh_own {H : Hp} {p d : Addr} {o : HO} (np : H p = none) (ne : d ≠ p) : upd H d o p = none := by
  rw [upd_ne (Ne.symm ne)]
  exact np
theorem Itm.lset {C b gr D : Addr} {H : Hp} {v : V} {acc acc' : List V} (h : H D = some (.lst acc)) (i : Itm C b gr H v) : Itm C b gr (upd H D (.lst acc')) v := by
  rcases i with i | ⟨a, rfl, n1, n2, ⟨xs, i⟩ | ⟨xs, i⟩ | ⟨dx, fs, i⟩⟩
  · exact .inl i
  · by_cases e : a = D
    · exact .inr ⟨a, rfl, n1, n2, .inl ⟨acc', by rw [e, upd_same]⟩⟩
    · exact .inr ⟨a, rfl, n1, n2, .inl ⟨xs, by rw [upd_ne e]; exact i⟩⟩
  · exact .inr ⟨a, rfl, n1, n2, .inr (.inl ⟨xs, by rw [upd_ne (ne_of i h (fun z => nomatch z))]; exact i⟩)⟩
  · exact .inr ⟨a, rfl, n1, n2, .inr (.inr ⟨dx, fs, by rw [upd_ne (ne_of i h (fun z => nomatch z))]; exact i⟩)⟩
def oddS : List Str := ["", "long", "not", "not ", "not not long", "notlong", "not  long", "Long", "long "]
def oddS2 : List Str := ["break", "not break", "broken and long", "close"]
theorem odd_known : ∀ z ∈ oddS ++ oddS2, knownB z = true := by decide +kernel
theorem progD_join : progD "join" = true := by decide +kernel
section
variable {P : Program} {w : World} {K : PySem.W.Frag} {mg : Str → Option Value} {base : Heap} {fT fK : Addr} {dT dK : FuncData}
theorem scAny : FnScope anyN ["_law_box", "_law_deep"] (defScope sAny) := ⟨rfl, rfl, rfl, by decide +kernel, rfl, by decide +kernel, by decide +kernel⟩
theorem ok_any {C DI fR : Addr} {dR : FuncData} {f : Addr} {fd : FuncData} (F : Fun K "_law_any" "_law_any" sAny f fd) (D : Draws P w K mg base fT fK dT dK) (R : RowD P w K mg base C DI fR dR) (c : ClsI K C)
    (gA : mg "_law_any" = some (.ref f)) (kA : PySem.W.keepIn K (.ref f) = true) (bA : Binds K fd ["_law_box", "_law_deep"] []) : ∀ n, FnOk P w K mg base CX0 (5 + n) f fd ["_law_box", "_law_deep"] (spAny C n) := by
  intro n
  induction n with
  | zero =>
    refine F.ok scAny (fun vs H Q E h => ?_) (fun cdv A outer s H vs Q E hr h => ?_)
    · obtain ⟨b, gr, m, rfl, _⟩ := h
      rfl
    · obtain ⟨b, gr, m, rfl, bx, m0, m1, k⟩ := h
      have hr1 := hr.mono (show 1 ≤ 4 by decide)
      have hr2 := hr.mono (show 2 ≤ 4 by decide)
      have hr4 := hr
      refine ⟨_, (pss_cons (ps_set (i := 2) scAny.nd rfl (.inl rfl) (pe_ifExp (pt_cmpR op_gt (pv 1) pe_int (nomark _)) (pe_call D.okT hr1 (by rfl) D.gT D.kT D.bT .nil pass0 (pa_cons (pv 0) (pa_cons pe_int pa_nil))) pe_int))
      (pss_cons (ps_if (pt_cmpR op_lt (pv 2) pe_int (nomark _))
        (pss_cons (ps_set (i := 3) scAny.nd rfl (.inl rfl) (pe_lst (pa_cons pe_non (pa_cons pe_int (pa_cons pe_bl (pa_cons pe_str (pa_cons pe_str (pa_cons pe_str (pa_cons pe_str (pa_cons pe_str (pa_cons pe_str (pa_cons pe_str (pa_cons pe_str (pa_cons pe_str pa_nil))))))))))))))
        (pss_cons (ps_set (i := 3) scAny.nd rfl (.inl rfl) (pe_op op_cat (pv 3) (pe_lst (pa_cons pe_str (pa_cons pe_str (pa_cons pe_str (pa_cons pe_str (pa_cons pe_int (pa_cons (pe_make (E := E0) R.made R.ok hr4 (by rfl) R.g R.b .nil passL (pa_cons (pe_tup pa_nil) (pa_cons (pe_lst (pa_cons pe_str pa_nil)) pa_nil))) pa_nil)))))))))
        (pss_one (ps_ret (pe_call D.okK hr2 (by rfl) D.gK D.kK D.bK .nil pass0 (pa_cons (pv 0) (pa_cons (pv 3) pa_nil)))))))
        pss_nil)
      pss_never)), ?_⟩
      have em : m = 0 := by
        have : m ≤ 0 := m1
        omega
      subst em
      refine ⟨_, rfl, _, _, rfl, rfl, _, rfl, iteN rfl ?_⟩
      refine ⟨_, rfl, _, _, rfl, rfl, _, rfl, iteY rfl ?_⟩
      have bG := bx
      have kHG := K2.refl b gr H
      refine ⟨(by show 12 ≤ sizeLine; decide), fun l1 nl1 => ?_⟩
      refine ⟨_, rfl, (by show 0 ≤ sizeLine; exact Nat.zero_le _), fun q1 nq1 => ⟨(by show 1 ≤ sizeLine; decide), fun q2 nq2 => fun p d np nd ne => ?_⟩⟩
      have a1 := Same.new nl1 (o := .lst ([.non, .int 0, .bl true] ++ oddS.map V.str))
      have a2 := (Same.new nq1 (o := .tup [])).trans (Same.new nq2 (o := .lst [.str "join"]))
      have np' := fresh_own (o := .own p) np ne
      have a3 := (Same.new nd).trans (Same.new np' (o := .ins C d []))
      have hq1 := a3 _ _ (Same.new nq2 (o := .lst [.str "join"]) _ _ (upd_same (a := q1) (o := .tup [])))
      have hq2 := a3 _ _ (upd_same (a := q2) (o := .lst [.str "join"]))
      refine ⟨p, d, .ref q1, .ref q2, true, true, rfl, upd_same, .inr ⟨q1, [], [], rfl, .inr hq1, Nat.zero_le _, ⟨rfl, fun i x b h => by simp at h⟩, rfl⟩,
        .inr ⟨q2, [.str "join"], [true], rfl, .inl hq2, (by show 1 ≤ 1000; decide), ⟨rfl, fun i x b h1 h2 => by
          match i, h1, h2 with
          | 0, h1, h2 =>
            cases h1
            cases h2
            exact .inl ⟨_, rfl, by decide, progD_join.symm⟩⟩, rfl⟩, fun _ _ G5 t dd ys kp hp hdd hl => ⟨rfl, ?_⟩, fun e => (nomatch e), fun _ e => (nomatch e)⟩
      have a4 := made_same np nd kp
      refine ⟨(by show 6 ≤ sizeLine; decide), fun l2 nl2 => ⟨l1, l2, _, _, rfl, rfl, Same.new nl2 _ _ (a4 _ _ (a2 _ _ upd_same)), upd_same, (by show 18 ≤ sizeLine; decide), fun l3 nl3 => ?_⟩⟩
      have b5 := ((bG.same a1).same a2).same a4
      have a6 := Same.new nl2 (o := .lst (oddS2.map V.str ++ [.int 1, .ref p]))
      have b6 := b5.same a6
      have a7 := Same.new nl3 (o := .lst (([.non, .int 0, .bl true] ++ oddS.map V.str) ++ (oddS2.map V.str ++ [.int 1, .ref p])))
      have l3b := b6.fresh nl3
      have pb := ((bG.same a1).same a2).fresh np
      refine ⟨_, rfl, _, rfl, b, gr, l3, ([.non, .int 0, .bl true] ++ oddS.map V.str) ++ (oddS2.map V.str ++ [.int 1, .ref p]), rfl, b6.same a7, l3b.1, l3b.2, .inl upd_same, (by show 0 < 18; decide), (by show 18 ≤ 1000; decide), fun v G9 hv b9 k9 => ?_⟩
      refine k v G9 ((kHG.trans (K2.of_same ((((a1.trans a2).trans a4).trans a6).trans a7))).trans k9) b9 ?_
      have str : ∀ z, z ∈ oddS ++ oddS2 → Shp C b gr G9 (.str z) := fun z hz => .inl (.inr (.inr (.inr ⟨z, rfl, odd_known z hz⟩)))
      rcases List.mem_append.mp hv with hv | hv
      · rcases List.mem_append.mp hv with hv | hv
        · simp only [List.mem_cons, List.not_mem_nil, or_false] at hv
          rcases hv with rfl | rfl | rfl
          · exact .inl (.inl rfl)
          · exact .inl (.inr (.inl ⟨_, rfl⟩))
          · exact .inl (.inr (.inr (.inl ⟨_, rfl⟩)))
        · obtain ⟨z, hz, rfl⟩ := mem_strs hv
          exact str z (List.mem_append_left _ hz)
      · rcases List.mem_append.mp hv with hv | hv
        · obtain ⟨z, hz, rfl⟩ := mem_strs hv
          exact str z (List.mem_append_right _ hz)
        · simp only [List.mem_cons, List.not_mem_nil, or_false] at hv
          rcases hv with rfl | rfl
          · exact .inl (.inr (.inl ⟨_, rfl⟩))
          · exact .inr ⟨p, rfl, pb.1, pb.2, .inl ⟨_, _, k9 _ _ pb.1 pb.2 (a7 _ _ (a6 _ _ hp))⟩⟩
  | succ n GA =>
    refine F.ok (k := 5 + n) scAny (fun vs H Q E h => ?_) (fun cdv A outer s H vs Q E hr h => ?_)
    · obtain ⟨b, gr, m, rfl, _⟩ := h
      rfl
    · obtain ⟨b, gr, m, rfl, bx, m0, m1, k⟩ := h
      have hr1 := hr.mono (show 1 ≤ 5 + n by omega)
      have hr2 := hr.mono (show 2 ≤ 5 + n by omega)
      have hr4 := hr.mono (show 4 ≤ 5 + n by omega)
      refine ⟨_, (C8.pss_cut (ps_set (i := 2) scAny.nd rfl (.inl rfl) (pe_ifExp (pt_cmpR op_gt (pv 1) pe_int (nomark _)) (pe_call D.okT hr1 (by rfl) D.gT D.kT D.bT .nil pass0 (pa_cons (pv 0) (pa_cons pe_int pa_nil))) pe_int))
      (pss_cons (ps_if (pt_cmpR op_lt (pv 2) pe_int (nomark _))
        (pss_cons (ps_set (i := 3) scAny.nd rfl (.inl rfl) (pe_lst (pa_cons pe_non (pa_cons pe_int (pa_cons pe_bl (pa_cons pe_str (pa_cons pe_str (pa_cons pe_str (pa_cons pe_str (pa_cons pe_str (pa_cons pe_str (pa_cons pe_str (pa_cons pe_str (pa_cons pe_str pa_nil))))))))))))))
        (pss_cons (ps_set (i := 3) scAny.nd rfl (.inl rfl) (pe_op op_cat (pv 3) (pe_lst (pa_cons pe_str (pa_cons pe_str (pa_cons pe_str (pa_cons pe_str (pa_cons pe_int (pa_cons (pe_make (E := E0) R.made R.ok hr4 (by rfl) R.g R.b .nil passL (pa_cons (pe_tup pa_nil) (pa_cons (pe_lst (pa_cons pe_str pa_nil)) pa_nil))) pa_nil)))))))))
        (pss_one (ps_ret (pe_call D.okK hr2 (by rfl) D.gK D.kK D.bK .nil pass0 (pa_cons (pv 0) (pa_cons (pv 3) pa_nil)))))))
        pss_nil)
      (pss_cons (ps_setLc (i := 4) (own := [("_law_turn", 5)]) (g := gName 5) (tt := tYes) rfl scAny.nd rfl rfl (sw_true rfl rfl rfl (by decide +kernel)) (pi_range1 (by rfl) D.range (pa_cons (pe_call D.okT hr1 (by rfl) D.gT D.kT D.bT .nil pass0 (pa_cons (pv 0) (pa_cons pe_int pa_nil))) pa_nil)) (blkOk_by (N := anyN) (sc := defScope sAny) (by decide +kernel)) (fun _ _ _ _ _ => pg_name (i := 5) scAny.nd rfl (Or.inl rfl)) (fun _ _ _ _ _ => pts_nil)
        (fun _ _ _ _ _ => pe_call GA hr (by rfl) gA kA bA .nil pass0 (pa_cons (pv 0) (pa_cons (pe_op op_sub (pv 1) pe_int) pa_nil))))
      (pss_one (ps_ret (pe_ifExp (pt_cmpR op_lt (pv 2) pe_int (nomark _)) (pv 4) (pe_callTy call_tupleX (by rfl) D.tuple (by decide +kernel) (pa_cons (pv 4) pa_nil)))))))), ?_⟩
      refine ⟨fun σ G => ∃ r : Int, σ = [some (.ref b), some (.int m), some (.int r), none, none, none] ∧ 0 ≤ r ∧ (m = 0 → r = 0) ∧ BoxD G b gr ∧ K2 b gr H G, ?_, ?_⟩
      · refine ⟨_, rfl, _, _, rfl, rfl, _, rfl, ?_⟩
        refine ite2 (fun q => ?_) (fun q => ⟨0, rfl, by omega, fun _ => rfl, bx, K2.refl _ _ _⟩)
        have q' : m > 0 := of_decide_eq_true q
        exact ⟨_, rfl, b, gr, 7, rfl, bx, by decide, by decide, fun r G r0 r7 bG kG => ⟨r, rfl, r0, fun z => by omega, bG, kG⟩⟩
      · rintro σ G ⟨r, rfl, r0, hr0, bG, kHG⟩
        refine ⟨_, rfl, _, _, rfl, rfl, _, rfl, ?_⟩
        refine ite2 (fun q => ?_) (fun q => ?_)
        · refine ⟨(by show 12 ≤ sizeLine; decide), fun l1 nl1 => ?_⟩
          refine ⟨_, rfl, (by show 0 ≤ sizeLine; exact Nat.zero_le _), fun q1 nq1 => ⟨(by show 1 ≤ sizeLine; decide), fun q2 nq2 => fun p d np nd ne => ?_⟩⟩
          have a1 := Same.new nl1 (o := .lst ([.non, .int 0, .bl true] ++ oddS.map V.str))
          have a2 := (Same.new nq1 (o := .tup [])).trans (Same.new nq2 (o := .lst [.str "join"]))
          have np' := fresh_own (o := .own p) np ne
          have a3 := (Same.new nd).trans (Same.new np' (o := .ins C d []))
          have hq1 := a3 _ _ (Same.new nq2 (o := .lst [.str "join"]) _ _ (upd_same (a := q1) (o := .tup [])))
          have hq2 := a3 _ _ (upd_same (a := q2) (o := .lst [.str "join"]))
          refine ⟨p, d, .ref q1, .ref q2, true, true, rfl, upd_same, .inr ⟨q1, [], [], rfl, .inr hq1, Nat.zero_le _, ⟨rfl, fun i x b h => by simp at h⟩, rfl⟩,
            .inr ⟨q2, [.str "join"], [true], rfl, .inl hq2, (by show 1 ≤ 1000; decide), ⟨rfl, fun i x b h1 h2 => by
              match i, h1, h2 with
              | 0, h1, h2 =>
                cases h1
                cases h2
                exact .inl ⟨_, rfl, by decide, progD_join.symm⟩⟩, rfl⟩, fun _ _ G5 t dd ys kp hp hdd hl => ⟨rfl, ?_⟩, fun e => (nomatch e), fun _ e => (nomatch e)⟩
          have a4 := made_same np nd kp
          refine ⟨(by show 6 ≤ sizeLine; decide), fun l2 nl2 => ⟨l1, l2, _, _, rfl, rfl, Same.new nl2 _ _ (a4 _ _ (a2 _ _ upd_same)), upd_same, (by show 18 ≤ sizeLine; decide), fun l3 nl3 => ?_⟩⟩
          have b5 := ((bG.same a1).same a2).same a4
          have a6 := Same.new nl2 (o := .lst (oddS2.map V.str ++ [.int 1, .ref p]))
          have b6 := b5.same a6
          have a7 := Same.new nl3 (o := .lst (([.non, .int 0, .bl true] ++ oddS.map V.str) ++ (oddS2.map V.str ++ [.int 1, .ref p])))
          have l3b := b6.fresh nl3
          have pb := ((bG.same a1).same a2).fresh np
          refine ⟨_, rfl, _, rfl, b, gr, l3, ([.non, .int 0, .bl true] ++ oddS.map V.str) ++ (oddS2.map V.str ++ [.int 1, .ref p]), rfl, b6.same a7, l3b.1, l3b.2, .inl upd_same, (by show 0 < 18; decide), (by show 18 ≤ 1000; decide), fun v G9 hv b9 k9 => ?_⟩
          refine k v G9 ((kHG.trans (K2.of_same ((((a1.trans a2).trans a4).trans a6).trans a7))).trans k9) b9 ?_
          have str : ∀ z, z ∈ oddS ++ oddS2 → Shp C b gr G9 (.str z) := fun z hz => .inl (.inr (.inr (.inr ⟨z, rfl, odd_known z hz⟩)))
          rcases List.mem_append.mp hv with hv | hv
          · rcases List.mem_append.mp hv with hv | hv
            · simp only [List.mem_cons, List.not_mem_nil, or_false] at hv
              rcases hv with rfl | rfl | rfl
              · exact .inl (.inl rfl)
              · exact .inl (.inr (.inl ⟨_, rfl⟩))
              · exact .inl (.inr (.inr (.inl ⟨_, rfl⟩)))
            · obtain ⟨z, hz, rfl⟩ := mem_strs hv
              exact str z (List.mem_append_left _ hz)
          · rcases List.mem_append.mp hv with hv | hv
            · obtain ⟨z, hz, rfl⟩ := mem_strs hv
              exact str z (List.mem_append_right _ hz)
            · simp only [List.mem_cons, List.not_mem_nil, or_false] at hv
              rcases hv with rfl | rfl
              · exact .inl (.inr (.inl ⟨_, rfl⟩))
              · exact .inr ⟨p, rfl, pb.1, pb.2, .inl ⟨_, _, k9 _ _ pb.1 pb.2 (a7 _ _ (a6 _ _ hp))⟩⟩
        · have rq : ¬ r < 3 := fun z => q (decide_eq_true z)
          have mp : 0 < m := by
            rcases Int.lt_or_le 0 m with h | h
            · exact h
            · have : m = 0 := by omega
              have := hr0 this
              omega
          refine ⟨_, rfl, b, gr, 3, rfl, bG, by decide, by decide, fun r3 G3 r30 r31 b3 k3 => ⟨r3, rfl, by omega, by omega, fun D1 nD => lc_range (lo := 0) (n := r3.toNat) (fun i G' => ∃ acc : List V, K2 b gr H G' ∧ BoxD G' b gr ∧ G' D1 = some (.lst acc) ∧ acc.length = i ∧ ∀ x ∈ acc, Itm C b gr G' x)
            ⟨[], (kHG.trans k3).trans (K2.of_same (Same.new nD)), b3.same (Same.new nD), upd_same, rfl, fun x hx => (List.not_mem_nil hx).elim⟩ ?_ ?_⟩⟩
          · rintro i G4 hi ⟨acc, k4, b4, hD, hl, hg⟩
            have Db := b3.fresh nD
            have nDH : H D1 = none := by
              cases q : H D1 with
              | none => rfl
              | some o =>
                have := (kHG.trans k3) _ _ Db.1 Db.2 q
                rw [this] at nD
                cases nD
            refine ⟨rfl, _, rfl, _, rfl, _, _, rfl, rfl, b, gr, m - 1, rfl, b4, by omega, by omega, fun v G5 k5 b5 sh => ?_⟩
            have hD5 := k5 _ _ Db.1 Db.2 hD
            refine ⟨acc, hD5, by rw [hl]; exact small1000 (by omega), acc ++ [v], (k4.trans k5).put nDH, b5.put Db.1 Db.2, upd_same, by rw [List.length_append, hl]; rfl, fun x hx => ?_⟩
            rcases List.mem_append.mp hx with hx | hx
            · exact ((hg x hx).k2 k5).lset hD5
            · rw [List.mem_singleton] at hx
              rw [hx]
              exact sh.itm.lset hD5
          · rintro G4 ⟨acc, k4, b4, hD, hl, hg⟩
            have Db := b3.fresh nD
            refine ⟨_, rfl, _, _, rfl, rfl, _, rfl, ?_⟩
            refine ite2 (fun _ => ?_) (fun _ => ?_)
            · exact ⟨_, rfl, k _ _ k4 b4 (.inr ⟨D1, rfl, Db.1, Db.2, .inr ⟨acc, .inl hD, by omega, hg⟩⟩)⟩
            · refine ⟨_, rfl, D1, acc, rfl, .inl hD, fun t H' st ht => ?_⟩
              have bt := b4.same st
              exact k _ _ (k4.trans (K2.of_same st)) bt (.inr ⟨t, rfl, (bt.tup_ne ht).1, (bt.tup_ne ht).2, .inr ⟨acc, .inr ht, by omega, fun x hx => (hg x hx).k2 (K2.of_same st)⟩⟩)
end
end Lay
set_option Elab.async false
set_option linter.all false
set_option maxRecDepth 100000
set_option maxHeartbeats 8000000
namespace Lay
open PySem L2
abbrev sLaw : Stmt := top 24
def lawN : List Str := ["_law_script", "_law_base", "_law_box", "_law_turn", "_law_tests_here", "_law_deeds_here", "_law_form", "_law_odd", "_law_at", "_law_due", "_law_value"]
structure Fs where
  f_feed : Addr
  d_feed : FuncData
  f_take : Addr
  d_take : FuncData
  f_pick : Addr
  d_pick : FuncData
  f_tests : Addr
  d_tests : FuncData
  f_deeds : Addr
  d_deeds : FuncData
  f_part : Addr
  d_part : FuncData
  f_words : Addr
  d_words : FuncData
  f_any : Addr
  d_any : FuncData
/-- what the law wants -/
structure TxtL (P : Program) (w : World) (K : PySem.W.Frag) (mg : Str → Option Value) (base : Heap) (C : Addr) (fs : Fs) : Prop where
  range : mg "range" = none
  max : mg "max" = none
  min : mg "min" = none
  len : mg "len" = none
  list : mg "list" = none
  c : ClsI K C
  ok_feed : FnOk P w K mg base CX0 1 (fs.f_feed) (fs.d_feed) ["_law_script", "_law_base"] (spFeed K)
  g_feed : mg "_law_feed" = some (.ref fs.f_feed)
  k_feed : PySem.W.keepIn K (.ref fs.f_feed) = true
  b_feed : Binds K fs.d_feed ["_law_script", "_law_base"] []
  ok_take : FnOk P w K mg base CX0 1 (fs.f_take) (fs.d_take) ["_law_box", "_law_wide"] spTake
  g_take : mg "_law_take" = some (.ref fs.f_take)
  k_take : PySem.W.keepIn K (.ref fs.f_take) = true
  b_take : Binds K fs.d_take ["_law_box", "_law_wide"] []
  ok_pick : FnOk P w K mg base CX0 2 (fs.f_pick) (fs.d_pick) ["_law_box", "_law_some"] (spPick K)
  g_pick : mg "_law_pick" = some (.ref fs.f_pick)
  k_pick : PySem.W.keepIn K (.ref fs.f_pick) = true
  b_pick : Binds K fs.d_pick ["_law_box", "_law_some"] []
  ok_tests : FnOk P w K mg base CX0 3 (fs.f_tests) (fs.d_tests) ["_law_box", "_law_most"] (spDrawn GoodT 0)
  g_tests : mg "_law_tests" = some (.ref fs.f_tests)
  k_tests : PySem.W.keepIn K (.ref fs.f_tests) = true
  b_tests : Binds K fs.d_tests ["_law_box", "_law_most"] []
  ok_deeds : FnOk P w K mg base CX0 3 (fs.f_deeds) (fs.d_deeds) ["_law_box", "_law_most"] (spDrawn GoodD 1)
  g_deeds : mg "_law_deeds" = some (.ref fs.f_deeds)
  k_deeds : PySem.W.keepIn K (.ref fs.f_deeds) = true
  b_deeds : Binds K fs.d_deeds ["_law_box", "_law_most"] []
  ok_part : FnOk P w K mg base CX0 5 (fs.f_part) (fs.d_part) ["_law_tests_here", "_law_deeds_here"] (spPart K)
  g_part : mg "_law_part" = some (.ref fs.f_part)
  k_part : PySem.W.keepIn K (.ref fs.f_part) = true
  b_part : Binds K fs.d_part ["_law_tests_here", "_law_deeds_here"] []
  ok_words : FnOk P w K mg base CX0 1 (fs.f_words) (fs.d_words) ["_law_value", "_law_of_tests"] (spWords K)
  g_words : mg "_law_are_words" = some (.ref fs.f_words)
  k_words : PySem.W.keepIn K (.ref fs.f_words) = true
  b_words : Binds K fs.d_words ["_law_value", "_law_of_tests"] []
  ok_any : FnOk P w K mg base CX0 12 (fs.f_any) (fs.d_any) ["_law_box", "_law_deep"] (spAny C 7)
  g_any : mg "_law_any" = some (.ref fs.f_any)
  k_any : PySem.W.keepIn K (.ref fs.f_any) = true
  b_any : Binds K fs.d_any ["_law_box", "_law_deep"] []
theorem mem_cut {xs : List V} {lo hi : Option Int} {x : V} (h : x ∈ cutV xs lo hi) : x ∈ xs := List.mem_of_mem_drop (List.mem_of_mem_take h)
theorem same_k2 {b gr : Addr} {G0 G G' : Hp} (s : Same G0 G) (k : K2 b gr G G') (nb : G0 b = none) (ng : G0 gr = none) : Same G0 G' := fun a o e => k a o (ne_of_none e nb) (ne_of_none e ng) (s a o e)
theorem good_ans {f : Str → Bool} {more : List V → Bool} {K : PySem.W.Frag} {H : Hp} {t : Addr} {ws : List Str} (h : SqX H t (ws.map V.str)) (l : ws.length ≤ 1000) (m : more (ws.map V.str) = true) (g : ∀ z ∈ ws, f z = true ∧ z.length ≤ 1000) : AnsV f more K H (.ref t) true := by
  refine .inr ⟨t, _, ws.map f, rfl, h, by rw [List.length_map]; exact l, ⟨by rw [List.length_map, List.length_map], fun i x b hx hb => ?_⟩, ?_⟩
  · obtain ⟨z, hz, rfl⟩ := str_at hx
    rw [List.getElem?_map, hz] at hb
    cases hb
    exact .inl ⟨z, rfl, (g z (List.mem_of_getElem? hz)).2, rfl⟩
  · rw [m, Bool.true_and]
    symm
    rw [List.all_eq_true]
    intro b hb
    obtain ⟨z, hz, rfl⟩ := List.mem_map.mp hb
    exact (g z hz).1
theorem goodT_of {z : Str} (h : GoodT z = true) : progT z = true ∧ lawW true z = true ∧ z.length ≤ 1000 := by
  unfold GoodT at h
  obtain ⟨h1, h2⟩ := Bool.and_eq_true_iff.mp h
  obtain ⟨h2, h3⟩ := Bool.and_eq_true_iff.mp h2
  exact ⟨h1, h2, of_decide_eq_true h3⟩
theorem goodD_of {z : Str} (h : GoodD z = true) : progD z = true ∧ z.length ≤ 1000 := by
  unfold GoodD at h
  obtain ⟨h1, h3⟩ := Bool.and_eq_true_iff.mp h
  exact ⟨h1, of_decide_eq_true h3⟩
theorem goodT_itm {C b gr : Addr} {H : Hp} {z : Str} (h : GoodT z = true) : Itm C b gr H (.str z) := by
  obtain ⟨h1, h2, h3⟩ := goodT_of h
  exact .inl (.inr (.inr (.inr ⟨z, rfl, by unfold knownB; rw [h1, h2, decide_eq_true h3]; rfl⟩)))
theorem deeds_known : ∀ z ∈ deedL, knownB z = true := by decide +kernel
theorem progD_mem {z : Str} (h : progD z = true) : z ∈ deedL := by
  unfold progD inV at h
  obtain ⟨y, hy, e⟩ := List.any_eq_true.mp h
  obtain ⟨u, hu, rfl⟩ := mem_strs hy
  have : u = z := by
    have e2 : eqV (V.str u) (V.str z) = true := e
    simpa [eqV] using e2
  rw [← this]
  exact hu
theorem goodD_itm {C b gr : Addr} {H : Hp} {z : Str} (h : GoodD z = true) : Itm C b gr H (.str z) := .inl (.inr (.inr (.inr ⟨z, rfl, deeds_known z (progD_mem (goodD_of h).1)⟩)))
def spLaw (K : PySem.W.Frag) : Sp := fun vs H Q _ => ∃ (a : Addr) (ns : List Int), vs = [.ref a] ∧ SqL K H a (ns.map V.int) ∧ ns.length ≤ 63 ∧ ∀ H', Q (.bl true) H'
theorem scLaw : FnScope lawN ["_law_script"] (defScope sLaw) := ⟨rfl, rfl, rfl, by decide +kernel, rfl, by decide +kernel, by decide +kernel⟩
section
variable {P : Program} {w : World} {K : PySem.W.Frag} {mg : Str → Option Value} {base : Heap} {C : Addr} {fs : Fs}
theorem ok_law {f : Addr} {fx : FuncData} (F : Fun K "law" "law" sLaw f fx) (T : TxtL P w K mg base C fs) : FnOk P w K mg base CX0 13 f fx ["_law_script"] (spLaw K) := by
  refine F.ok scLaw (fun vs H Q E h => ?_) (fun cdv A outer s H vs Q E hr h => ?_)
  · obtain ⟨a, ns, rfl, _⟩ := h
    rfl
  · obtain ⟨a, ns, rfl, hs, hl, k⟩ := h
    have hr1 := hr.mono (show 1 ≤ 12 by decide)
    have hr2 := hr.mono (show 2 ≤ 12 by decide)
    have hr3 := hr.mono (show 3 ≤ 12 by decide)
    have hr5 := hr.mono (show 5 ≤ 12 by decide)
    refine ⟨_, (pss_cons (ps_for PassesOwn.never rfl (pi_range1 (by rfl) T.range (pa_cons (pe_callB (call_max2 rfl) (by rfl) T.max (by decide +kernel) (pa_cons pe_int (pa_cons (pe_callB (call_min2 rfl) (by rfl) T.min (by decide +kernel) (pa_cons pe_int (pa_cons (pe_callB call_len_seq (by rfl) T.len (by decide +kernel) (pa_cons (pv 0) pa_nil)) pa_nil))) pa_nil))) pa_nil)) (pg_name (i := 1) scLaw.nd rfl (.inl rfl))
      (pss_cons (ps_set (i := 2) scLaw.nd rfl (.inl rfl) (pe_call T.ok_feed hr1 (by rfl) T.g_feed T.k_feed T.b_feed .nil pass0 (pa_cons (pv 0) (pa_cons (pv 1) pa_nil))))
      (pss_cons (ps_for PassesOwn.never rfl (pi_range1 (by rfl) T.range (pa_cons pe_int pa_nil)) (pg_name (i := 3) scLaw.nd rfl (.inl rfl))
        (pss_cons (ps_par (i := 4) (j := 5) (by rfl) scLaw.nd rfl rfl (by decide) rfl rfl (pa_cons (pe_call T.ok_tests hr3 (by rfl) T.g_tests T.k_tests T.b_tests .nil pass0 (pa_cons (pv 2) (pa_cons pe_int pa_nil))) (pa_cons (pe_call T.ok_deeds hr3 (by rfl) T.g_deeds T.k_deeds T.b_deeds .nil pass0 (pa_cons (pv 2) (pa_cons pe_int pa_nil))) pa_nil)) (by rfl))
        (pss_cons (ps_if (PW.pt (pw_or (pt_cmpR op_ne (pe_call T.ok_part hr5 (by rfl) T.g_part T.k_part T.b_part .nil pass0 (pa_cons (pv 4) (pa_cons (pe_callTy call_listX (by rfl) T.list (by decide +kernel) (pa_cons (pv 5) pa_nil)) pa_nil))) pe_str (nomark _)) (pw_or1 (pt_cmpR op_ne (pe_call T.ok_part hr5 (by rfl) T.g_part T.k_part T.b_part .nil pass0 (pa_cons (pe_callTy call_listX (by rfl) T.list (by decide +kernel) (pa_cons (pv 4) pa_nil)) (pa_cons (pv 5) pa_nil))) pe_str (nomark _)))))
          (pss_one (ps_ret pe_bl))
          pss_nil)
        (pss_cons (ps_par (i := 6) (j := 7) (by rfl) scLaw.nd rfl rfl (by decide) rfl rfl (pa_cons (pe_call T.ok_take hr1 (by rfl) T.g_take T.k_take T.b_take .nil pass0 (pa_cons (pv 2) (pa_cons pe_int pa_nil))) (pa_cons (pe_call T.ok_any hr (by rfl) T.g_any T.k_any T.b_any .nil pass0 (pa_cons (pv 2) (pa_cons pe_int pa_nil))) pa_nil)) (by rfl))
        (pss_cons (ps_set (i := 8) scLaw.nd rfl (.inl rfl) (pe_call T.ok_take hr1 (by rfl) T.g_take T.k_take T.b_take .nil pass0 (pa_cons (pv 2) (pa_cons (pe_op op_add (pe_callB call_len_seq (by rfl) T.len (by decide +kernel) (pa_cons (pv 4) pa_nil)) pe_int) pa_nil))))
        (C8.pss_cut (ps_if (pt_cmpR op_eq (pv 6) pe_int (nomark _))
          (pss_one (ps_set (i := 4) scLaw.nd rfl (.inl rfl) (pe_op op_catX (pe_op op_catX (pe_slice sl_tupX (pv 4) po_none (po_some (pv 8))) (pe_tup (pa_cons (pv 7) pa_nil))) (pe_slice sl_tupX (pv 4) (po_some (pv 8)) po_none))))
          (pss_one (ps_if (pt_cmpR op_eq (pv 6) pe_int (nomark _))
            (pss_one (ps_set (i := 5) scLaw.nd rfl (.inl rfl) (pe_op op_catX (pe_op op_catX (pe_slice sl_tupX (pv 5) po_none (po_some pe_int)) (pe_tup (pa_cons (pv 7) pa_nil))) (pe_slice sl_tupX (pv 5) (po_some pe_int) po_none))))
            (pss_one (ps_if (pt_cmpR op_eq (pv 6) pe_int (nomark _))
              (pss_one (ps_set (i := 4) scLaw.nd rfl (.inl rfl) (pv 7)))
              (pss_one (ps_par (i := 4) (j := 5) (by rfl) scLaw.nd rfl rfl (by decide) rfl rfl (pa_cons (pe_call T.ok_pick hr2 (by rfl) T.g_pick T.k_pick T.b_pick .nil pass0 (pa_cons (pv 2) (pa_cons (pe_lst (pa_cons (pv 4) (pa_cons (pv 7) pa_nil))) pa_nil))) (pa_cons (pv 7) pa_nil)) (by rfl))))))))
        (C8.pss_cut (ps_set (i := 9) scLaw.nd rfl (.inl rfl) (pe_ifExp (PW.pt (pw_and (pt_val (pe_call T.ok_words hr1 (by rfl) T.g_words T.k_words T.b_words .nil pass0 (pa_cons (pv 5) (pa_cons pe_bl pa_nil)))) (pw_and1 (pt_cmpR op_gt (pe_callB call_len_seq (by rfl) T.len (by decide +kernel) (pa_cons (pv 5) pa_nil)) pe_int (nomark _))))) pe_str pe_str))
        (C8.pss_cut (ps_set (i := 9) scLaw.nd rfl (.inl rfl) (pe_ifExp (pt_val (pe_call T.ok_words hr1 (by rfl) T.g_words T.k_words T.b_words .nil pass0 (pa_cons (pv 4) (pa_cons pe_bl pa_nil)))) (pv 9) pe_str))
        (pss_one (ps_if (pt_cmpR op_ne (pe_call T.ok_part hr5 (by rfl) T.g_part T.k_part T.b_part .nil pass0 (pa_cons (pv 4) (pa_cons (pv 5) pa_nil))) (pv 9) (nomark _))
          (pss_one (ps_ret pe_bl))
          pss_nil))))))))))
      (pss_cons (ps_if (pt_cmpR (op_neD hr.units) (pe_lc (own := [("_law_value", 10)]) (g := gName 10) (tt := tYes) (by rfl) scLaw.nd (pi_tup (pe_tup (pa_cons (pe_tup pa_nil) (pa_cons (pe_lst pa_nil) (pa_cons pe_non (pa_cons pe_str (pa_cons pe_int pa_nil))))))) (blkOk_by (N := lawN) (sc := defScope sLaw) (by decide +kernel)) (fun _ _ _ _ _ => pg_name (i := 10) scLaw.nd rfl (Or.inl rfl)) (fun _ _ _ _ _ => pts_nil)
            (fun _ _ _ _ _ => (pe_call T.ok_part hr5 (by rfl) T.g_part T.k_part T.b_part .nil pass0 (pa_cons (pe_tup pa_nil) (pa_cons (pv 10) pa_nil))))) (pe_op op_rep (pe_lst (pa_cons pe_str pa_nil)) pe_int) (nomark _))
        (pss_one (ps_ret pe_bl))
        pss_nil)
      (pss_one (ps_if (PW.pt (pw_or (pt_cmpR op_ne (pe_call T.ok_part hr5 (by rfl) T.g_part T.k_part T.b_part .nil pass0 (pa_cons pe_str (pa_cons (pe_tup pa_nil) pa_nil))) pe_str (nomark _)) (pw_or1 (pt_cmpR op_ne (pe_call T.ok_part hr5 (by rfl) T.g_part T.k_part T.b_part .nil pass0 (pa_cons pe_non (pa_cons (pe_lst (pa_cons pe_str pa_nil)) pa_nil))) pe_str (nomark _)))))
        (pss_one (ps_ret pe_bl))
        pss_nil))))))
    (pss_one (ps_ret pe_bl))), ?_⟩
    have hmap : (ns.map V.int).length = ns.length := List.length_map ..
    refine ⟨_, rfl, a, _, rfl, .inl hs, _, _, rfl, _, _, rfl, _, rfl, ?_, ?_, for_range (lo := 0) (n := Int.toNat _) (fun i σ G => ∃ x1 x2 x3 x4 x5 x6 x7 x8 x9 x10 : Option V, σ = [some (.ref a), x1, x2, x3, x4, x5, x6, x7, x8, x9, x10] ∧ Same H G)
      ⟨none, none, none, none, none, none, none, none, none, none, rfl, Same.refl H⟩ ?_ ?_⟩
    · split <;> split <;> omega
    · split <;> split <;> omega
    · rintro i σ G0 hi ⟨x1, x2, x3, x4, x5, x6, x7, x8, x9, x10, rfl, sG⟩
      have hi3 : i ≤ 2 := by
        revert hi
        split <;> split <;> omega
      refine ⟨_, rfl, _, rfl, a, ns, 0 + (i : Int), rfl, sG.seq hs, by omega, by omega, by omega, fun b gr G1 s1 nb ng b1 => ?_⟩
      refine ⟨10, rfl, by decide, by decide, for_range (lo := 0) (n := 10) (fun j σ G => ∃ x3 x4 x5 x6 x7 x8 x9 x10 : Option V, σ = [some (.ref a), some (.int (0 + (i : Int))), some (.ref b), x3, x4, x5, x6, x7, x8, x9, x10] ∧ Same G0 G ∧ BoxD G b gr) ⟨_, _, _, _, _, _, _, _, rfl, s1, b1⟩ ?_ ?_⟩
      · rintro j σ G2 hj ⟨x3, x4, x5, x6, x7, x8, x9, x10, rfl, s2, b2⟩
        refine ⟨_, rfl, b, gr, 3, rfl, b2, by decide, by decide, fun t ws G3 k3 b3 tb tg ht w0 w3 hg => ?_⟩
        have s3 := same_k2 s2 k3 nb ng
        refine ⟨_, rfl, b, gr, 3, rfl, b3, by decide, by decide, fun d us G4 k4 b4 db dg hd u0 u3 hu => ⟨_, _, rfl, ?_⟩⟩
        have s4 := same_k2 s3 k4 nb ng
        have ht4 := k4 _ _ tb tg ht
        have lw : ws.length ≤ 1000 := by omega
        have lu : us.length ≤ 1000 := by omega
        have fu : full (us.map V.str) = true := decide_eq_true (by rw [List.length_map]; omega)
        have made : (!decide (V.str (partS true true) = V.str "made")) = false := by decide +kernel
        have at_ : ∀ {H : Hp} {q : Addr}, SqX H q (ws.map V.str) → AnsV progT yes K H (.ref q) true := fun h => good_ans h lw rfl fun z hz => ⟨(goodT_of (hg z hz)).1, (goodT_of (hg z hz)).2.2⟩
        have ad_ : ∀ {H : Hp} {q : Addr}, SqX H q (us.map V.str) → AnsV progD full K H (.ref q) true := fun h => good_ans h lu fu fun z hz => goodD_of (hu z hz)
        refine ⟨_, rfl, _, rfl, d, _, rfl, .inr hd, fun l G5 s5 nl hl5 => ⟨.ref t, .ref l, true, true, rfl, at_ (.inr (s5 _ _ ht4)), ad_ (.inl hl5), fun G6 s6 => ⟨rfl, _, rfl, iteN made ?_⟩⟩⟩
        have s46 := s5.trans s6
        refine ⟨_, rfl, t, _, rfl, .inr (s46 _ _ ht4), fun l2 G7 s7 nl2 hl7 => ⟨_, rfl, .ref l2, .ref d, true, true, rfl, at_ (.inl hl7), ad_ (.inr (s7 _ _ (s46 _ _ hd))), fun G8 s8 => ⟨rfl, _, rfl, iteN made ?_⟩⟩⟩
        have s48 := (s46.trans s7).trans s8
        have ht8 := s48 _ _ ht4
        have hd8 := s48 _ _ hd
        have b8 := b4.same s48
        refine ⟨_, rfl, b, gr, 4, rfl, b8, by decide, by decide, fun r G9 r0 r4 b9 k9 => ⟨_, rfl, b, gr, 7, rfl, b9, by decide, by decide, fun v G10 k10 b10 shv => ⟨_, _, rfl, ?_⟩⟩⟩
        have k810 := k9.trans k10
        have s10 := same_k2 (s4.trans s48) k810 nb ng
        have ht10 := k810 _ _ tb tg ht8
        have hd10 := k810 _ _ db dg hd8
        refine ⟨_, rfl, _, rfl, t, _, rfl, .inr (SqT.of ht10), _, _, rfl, rfl, b, gr, _, rfl, b10, by omega, by rw [List.length_map]; omega, fun at' G11 a0 a1 b11 k11 => ?_⟩
        have s11 := same_k2 s10 k11 nb ng
        have ht11 := k11 _ _ tb tg ht10
        have hd11 := k11 _ _ db dg hd10
        have sh11 := shv.k2 k11
        have sht : Shp C b gr G11 (.ref t) := .inr ⟨t, rfl, tb, tg, .inr ⟨_, .inr ht11, by rw [List.length_map]; exact lw, fun x hx => by
          obtain ⟨z, hz, rfl⟩ := mem_strs hx
          exact goodT_itm (hg z hz)⟩⟩
        have shd : Shp C b gr G11 (.ref d) := .inr ⟨d, rfl, db, dg, .inr ⟨_, .inr hd11, by rw [List.length_map]; exact lu, fun x hx => by
          obtain ⟨z, hz, rfl⟩ := mem_strs hx
          exact goodD_itm (hu z hz)⟩⟩
        -- what is changed
        refine ⟨fun σ' G' => ∃ (x6 x7 x8 x9 x10 : Option V) (tv dv : V), σ' = [some (.ref a), some (.int (0 + (i : Int))), some (.ref b), some (.int (0 + (j : Int))), some tv, some dv, x6, x7, x8, x9, x10] ∧ Same G0 G' ∧ BoxD G' b gr ∧ Shp C b gr G' tv ∧ Shp C b gr G' dv, ?_, ?_⟩
        · refine ⟨_, rfl, rfl, _, rfl, ?_⟩
          refine ite2 (fun _ => ?_) (fun _ => ⟨_, rfl, rfl, _, rfl, ?_⟩)
          · refine ⟨_, rfl, _, rfl, _, rfl, t, _, rfl, ht11, fun p1 H1 z1 hp1 => ⟨_, rfl, (by show 1 ≤ sizeLine; decide), fun q nq => ⟨p1, q, _, _, rfl, rfl, Same.new nq _ _ hp1, upd_same, ?_, fun p2 H2 z2 hp2 => ⟨_, rfl, _, rfl, _, rfl, t, _, rfl, z2 _ _ (Same.new nq _ _ (z1 _ _ ht11)), fun p3 H3 z3 hp3 => ⟨p2, p3, _, _, rfl, rfl, z3 _ _ hp2, hp3, ?_, fun p4 H4 z4 hp4 => ?_⟩⟩⟩⟩⟩
            · have c1 := cutV_length (ws.map V.str) none (some at')
              rw [List.length_map] at c1
              show _ + 1 ≤ 1000
              omega
            · have c1 := cutV_length (ws.map V.str) none (some at')
              have c2 := cutV_length (ws.map V.str) (some at') none
              rw [List.length_map] at c1 c2
              rw [List.length_append]
              show _ + 1 + _ ≤ 1000
              omega
            have zz : Same G11 H4 := (((z1.trans (Same.new nq)).trans z2).trans z3).trans z4
            have b4' := b11.same zz
            have sh4 : Shp C b gr H4 (.ref p4) := .inr ⟨p4, rfl, (b4'.tup_ne hp4).1, (b4'.tup_ne hp4).2, .inr ⟨_, .inr hp4, ?_, fun x hx => ?_⟩⟩
            · exact ⟨_, _, _, _, _, _, _, rfl, s11.trans zz, b4', sh4, shd.k2 (K2.of_same zz)⟩
            · have c1 := cutV_length (ws.map V.str) none (some at')
              have c2 := cutV_length (ws.map V.str) (some at') none
              rw [List.length_map] at c1 c2
              rw [List.length_append, List.length_append]
              show _ + 1 + _ ≤ 1000
              omega
            · rcases List.mem_append.mp hx with hx | hx
              · rcases List.mem_append.mp hx with hx | hx
                · obtain ⟨z, hz, rfl⟩ := mem_strs (mem_cut hx)
                  exact goodT_itm (hg z hz)
                · rw [List.mem_singleton] at hx
                  rw [hx]
                  exact (sh11.k2 (K2.of_same zz)).itm
              · obtain ⟨z, hz, rfl⟩ := mem_strs (mem_cut hx)
                exact goodT_itm (hg z hz)
          · refine ite2 (fun _ => ?_) (fun _ => ⟨_, rfl, rfl, _, rfl, ?_⟩)
            · refine ⟨_, rfl, _, rfl, d, _, rfl, hd11, fun p1 H1 z1 hp1 => ⟨_, rfl, (by show 1 ≤ sizeLine; decide), fun q nq => ⟨p1, q, _, _, rfl, rfl, Same.new nq _ _ hp1, upd_same, ?_, fun p2 H2 z2 hp2 => ⟨_, rfl, _, rfl, d, _, rfl, z2 _ _ (Same.new nq _ _ (z1 _ _ hd11)), fun p3 H3 z3 hp3 => ⟨p2, p3, _, _, rfl, rfl, z3 _ _ hp2, hp3, ?_, fun p4 H4 z4 hp4 => ?_⟩⟩⟩⟩⟩
              · have c1 := cutV_length (us.map V.str) none (some 1)
                rw [List.length_map] at c1
                show _ + 1 ≤ 1000
                omega
              · have c1 := cutV_length (us.map V.str) none (some 1)
                have c2 := cutV_length (us.map V.str) (some 1) none
                rw [List.length_map] at c1 c2
                rw [List.length_append]
                show _ + 1 + _ ≤ 1000
                omega
              have zz : Same G11 H4 := (((z1.trans (Same.new nq)).trans z2).trans z3).trans z4
              have b4' := b11.same zz
              have sh4 : Shp C b gr H4 (.ref p4) := .inr ⟨p4, rfl, (b4'.tup_ne hp4).1, (b4'.tup_ne hp4).2, .inr ⟨_, .inr hp4, ?_, fun x hx => ?_⟩⟩
              · exact ⟨_, _, _, _, _, _, _, rfl, s11.trans zz, b4', sht.k2 (K2.of_same zz), sh4⟩
              · have c1 := cutV_length (us.map V.str) none (some 1)
                have c2 := cutV_length (us.map V.str) (some 1) none
                rw [List.length_map] at c1 c2
                rw [List.length_append, List.length_append]
                show _ + 1 + _ ≤ 1000
                omega
              · rcases List.mem_append.mp hx with hx | hx
                · rcases List.mem_append.mp hx with hx | hx
                  · obtain ⟨z, hz, rfl⟩ := mem_strs (mem_cut hx)
                    exact goodD_itm (hu z hz)
                  · rw [List.mem_singleton] at hx
                    rw [hx]
                    exact (sh11.k2 (K2.of_same zz)).itm
                · obtain ⟨z, hz, rfl⟩ := mem_strs (mem_cut hx)
                  exact goodD_itm (hu z hz)
            · refine ite2 (fun _ => ?_) (fun _ => ?_)
              · exact ⟨_, rfl, _, _, _, _, _, _, _, rfl, s11, b11, sh11, shd⟩
              · refine ⟨_, rfl, _, rfl, _, rfl, (by show 2 ≤ sizeLine; decide), fun q nq => ?_⟩
                have qb := b11.fresh nq
                have sq := Same.new nq (o := .lst [.ref t, v])
                refine ⟨b, gr, q, _, rfl, b11.same sq, qb.1, qb.2, .inl upd_same, (by show 0 < 2; decide), (by show 2 ≤ 1000; decide), fun y H5 hy b5 k5 => ⟨_, rfl, _, _, rfl, ?_⟩⟩
                have kk := (K2.of_same sq).trans k5
                refine ⟨_, _, _, _, _, _, _, rfl, same_k2 s11 kk nb ng, b5, ?_, sh11.k2 kk⟩
                simp only [List.mem_cons, List.not_mem_nil, or_false] at hy
                rcases hy with rfl | rfl
                · exact sht.k2 kk
                · exact sh11.k2 kk
        · rintro σ' G12 ⟨x6, x7, x8, x9, x10, tv, dv, rfl, s12, b12, shT, shD⟩
          obtain ⟨rt, aT, wT⟩ := shT.tests T.c
          obtain ⟨rd, rl, aD, wD, no, yes'⟩ := shD.deeds T.c
          refine ⟨fun σ' G' => ∃ (x6 x7 x8 x10 : Option V), σ' = [some (.ref a), some (.int (0 + (i : Int))), some (.ref b), some (.int (0 + (j : Int))), some tv, some dv, x6, x7, x8, some (.str (if rd then "made" else "deeds")), x10] ∧ Same G12 G', ?_, ?_⟩
          · refine ⟨_, rfl, dv, false, rl, rfl, wD, fun H1 z1 => ⟨_, rfl, ?_⟩⟩
            cases rl with
            | false =>
              rw [no rfl]
              exact iteN rfl (iteN rfl ⟨_, _, _, _, rfl, z1⟩)
            | true =>
              obtain ⟨c1, xs, rfl, hx, erd⟩ := yes' rfl
              refine iteY rfl ⟨_, rfl, c1, xs, rfl, ?_, _, _, rfl, rfl, _, rfl, ?_⟩
              · rcases hx with hx | hx
                · exact .inl (SqL.of (z1 _ _ hx))
                · exact .inr (SqT.of (z1 _ _ hx))
              · rw [erd]
                refine ite2 (fun q => ?_) (fun q => ?_)
                · have q2 : 0 < xs.length := by
                    have := of_decide_eq_true q
                    omega
                  exact ⟨_, _, _, _, by rw [decide_eq_true q2]; rfl, z1⟩
                · have q2 : ¬ 0 < xs.length := fun z => q (decide_eq_true (by omega))
                  exact ⟨_, _, _, _, by rw [decide_eq_false q2]; rfl, z1⟩
          · rintro σ' H1 ⟨x6, x7, x8, x10, rfl, z1⟩
            refine ⟨fun σ' G' => ∃ (x6 x7 x8 x10 : Option V), σ' = [some (.ref a), some (.int (0 + (i : Int))), some (.ref b), some (.int (0 + (j : Int))), some tv, some dv, x6, x7, x8, some (.str (partS rt rd)), x10] ∧ Same G12 G', ?_, ?_⟩
            · refine ⟨_, rfl, tv, true, rt, rfl, wT.same z1, fun H2 z2 => ⟨_, rfl, ?_⟩⟩
              cases rt with
              | true => exact iteY rfl ⟨_, rfl, _, _, _, _, rfl, z1.trans z2⟩
              | false => exact iteN rfl ⟨_, _, _, _, rfl, z1.trans z2⟩
            · rintro σ' H2 ⟨x6, x7, x8, x10, rfl, z2⟩
              refine ⟨_, rfl, _, rfl, tv, dv, rt, rd, rfl, aT.same z2, aD.same z2, fun H3 z3 => ⟨_, rfl, rfl, _, rfl, iteN (by simp) ?_⟩⟩
              exact ⟨_, _, _, _, _, _, _, _, rfl, (s12.trans z2).trans z3, (b12.same z2).same z3⟩
      · rintro σ G2 ⟨x3, x4, x5, x6, x7, x8, x9, x10, rfl, s2, b2⟩
        -- five that are none
        refine ⟨(by show 0 ≤ sizeLine; exact Nat.zero_le _), fun q1 nq1 => ⟨(by show 0 ≤ sizeLine; exact Nat.zero_le _), fun q2 nq2 => ⟨(by show 5 ≤ sizeLine; decide), fun T1 nT => ?_⟩⟩⟩
        have u1 := Same.new nq1 (o := .tup [])
        have u2 := Same.new nq2 (o := .lst [])
        have u3 := Same.new nT (o := .tup [.ref q1, .ref q2, .non, .str "join", .int 0])
        have hT : upd (upd (upd G2 q1 (.tup [])) q2 (.lst [])) T1 (.tup [.ref q1, .ref q2, .non, .str "join", .int 0]) T1 = some (.tup [.ref q1, .ref q2, .non, .str "join", .int 0]) := upd_same
        have h1 := u3 _ _ (u2 _ _ (upd_same (H := G2) (a := q1) (o := .tup [])))
        have h2 := u3 _ _ (upd_same (H := upd G2 q1 (.tup [])) (a := q2) (o := .lst []))
        have noDeeds : ∀ (n : Nat) (x : V), ([V.ref q1, .ref q2, .non, .str "join", .int 0] : List V)[n]? = some x → ∀ H5, Same (upd (upd (upd G2 q1 (.tup [])) q2 (.lst [])) T1 (.tup [.ref q1, .ref q2, .non, .str "join", .int 0])) H5 → AnsV progD full K H5 x false := fun n x hx H5 z5 => by
          match n, hx with
          | 0, hx => cases hx; exact .inr ⟨q1, [], [], rfl, .inr (z5 _ _ h1), Nat.zero_le _, ⟨rfl, fun i x b h => by simp at h⟩, rfl⟩
          | 1, hx => cases hx; exact .inr ⟨q2, [], [], rfl, .inl (z5 _ _ h2), Nat.zero_le _, ⟨rfl, fun i x b h => by simp at h⟩, rfl⟩
          | 2, hx => cases hx; exact .inl ⟨Cst.noSeq (.inl rfl), rfl⟩
          | 3, hx => cases hx; exact .inl ⟨⟨_, .base (.str _), kitAny_lt (b := false) (c := false) (kit_ty (by decide +kernel)) (kit_ty (by decide +kernel))⟩, rfl⟩
          | 4, hx => cases hx; exact .inl ⟨Cst.noSeq (.inr (.inl ⟨_, rfl⟩)), rfl⟩
          | n + 5, hx => cases hx
        have noTests : ∀ {H5 : Hp} {e : Addr}, H5 e = some (.tup []) → AnsV progT yes K H5 (.ref e) true := fun h => .inr ⟨_, [], [], rfl, .inr h, Nat.zero_le _, ⟨rfl, fun i x b h => by simp at h⟩, rfl⟩
        refine ⟨T1, rfl, ⟨_, SqT.of hT⟩, fun D nD => lc_tup (xs := [V.ref q1, .ref q2, .non, .str "join", .int 0]) (fun n H5 => Same (upd (upd (upd G2 q1 (.tup [])) q2 (.lst [])) T1 (.tup [.ref q1, .ref q2, .non, .str "join", .int 0])) H5 ∧ H5 D = some (.lst (List.replicate n (.str "deeds")))) ⟨Same.new nD, upd_same⟩ (fun n H5 _ q => SqT.of (q.1 _ _ hT)) ?_ ?_⟩
        · rintro n x H5 hx ⟨z5, hD⟩
          have ln : n < 5 := (List.getElem?_eq_some_iff.mp hx).1
          refine ⟨rfl, (by show 0 ≤ sizeLine; exact Nat.zero_le _), fun e ne => ⟨_, rfl, .ref e, x, true, false, rfl, noTests upd_same, noDeeds n x hx _ (z5.trans (Same.new ne)), fun H6 z6 => ⟨_, z6 _ _ (Same.new ne _ _ hD), ?_, fun c u ec => ?_, ?_⟩⟩⟩
          · rw [List.length_replicate]
            exact small1000 (by omega)
          · rw [upd_ne (ne_of_none ec nD)]
            exact z6 _ _ (Same.new ne _ _ (z5 _ _ ec))
          · rw [upd_same, List.replicate_succ']
            rfl
        · rintro H5 ⟨z5, hD⟩
          refine ⟨(by show 1 ≤ sizeLine; decide), fun u nu => ⟨u, 5, _, rfl, rfl, upd_same, by decide, by decide, (by show 5 ≤ sizeLine; decide), fun x nx => ?_⟩⟩
          have v1 := Same.new nu (o := .lst [.str "deeds"])
          have v2 := Same.new nx (o := .lst (List.replicate (5 : Int).toNat [V.str "deeds"]).flatten)
          have dp : ∀ {H : Hp} {p : Addr}, H p = some (.lst [.str "deeds", .str "deeds", .str "deeds", .str "deeds", .str "deeds"]) → Dp K H (.ref p) (.list [.str "deeds", .str "deeds", .str "deeds", .str "deeds", .str "deeds"]) := fun h => .lst (SqL.of h) (.cons (.str _) (.cons (.str _) (.cons (.str _) (.cons (.str _) (.cons (.str _) .nil)))))
          refine ⟨_, _, dp (v2 _ _ (v1 _ _ hD)), dp upd_same, by decide +kernel, by decide +kernel, _, rfl, iteN (by decide +kernel) ?_⟩
          have s6 := (((((s2.trans u1).trans u2).trans u3).trans z5).trans v1).trans v2
          -- texts and None
          have wrong : (!decide (V.str (partS false false) = V.str "tests")) = false := by decide +kernel
          have wrong2 : (!decide (V.str (partS false true) = V.str "tests")) = false := by decide +kernel
          refine ⟨(by show 0 ≤ sizeLine; exact Nat.zero_le _), fun e ne => ⟨.str "long", .ref e, false, false, rfl, .inl ⟨⟨_, .base (.str _), kitAny_lt (b := false) (c := false) (kit_ty (by decide +kernel)) (kit_ty (by decide +kernel))⟩, rfl⟩, .inr ⟨e, [], [], rfl, .inr upd_same, Nat.zero_le _, ⟨rfl, fun i x b h => by simp at h⟩, rfl⟩, fun H7 z7 => ⟨rfl, _, rfl, iteN wrong ?_⟩⟩⟩
          refine ⟨(by show 1 ≤ sizeLine; decide), fun e2 ne2 => ⟨.non, .ref e2, false, true, rfl, .inl ⟨Cst.noSeq (.inl rfl), rfl⟩, good_ans (ws := ["join"]) (.inl upd_same) (by decide) rfl (fun z hz => by
            rw [List.mem_singleton] at hz
            rw [hz]
            exact ⟨progD_join, by decide⟩), fun H8 z8 => ⟨rfl, _, rfl, iteN wrong2 ?_⟩⟩⟩
          exact ⟨_, _, _, _, _, _, _, _, _, _, rfl, sG.trans ((((s6.trans (Same.new ne)).trans z7).trans (Same.new ne2)).trans z8)⟩
    · rintro σ H' _
      exact k _
end
end Lay
set_option Elab.async false
set_option linter.all false
set_option maxRecDepth 100000
set_option maxHeartbeats 8000000
namespace Lay
open PySem L2
theorem refs_ok (L : Addr) : PySem.HandSPX.refsVE [.ref L, .type "ValueError", .type "Exception", .type "BaseException", .type "object"] = true := by
  show PySem.HandSPX.refsVE [.type "ValueError", .type "Exception", .type "BaseException", .type "object"] = true
  decide +kernel
theorem kit_cls {K : PySem.W.Frag} {C : Addr} {t : Value} {b : Bool} (hd : PySem.W.hasDictIn K C = true) (ty : PySem.W.typeIn K (.ref C) = some (.type "type")) (s : PySem.W.subIn K t (.ref C) = some b) (e : t = .ref C → b = true) : PySem.W.kitOne K t (.ref C) = some b := by
  unfold PySem.W.kitOne
  by_cases h : (t == Value.ref C) = true
  · rw [if_pos h, e (beq_iff_eq.mp h)]
  · rw [if_neg h]
    obtain ⟨cd, hc, _⟩ := PySem.W.any_some hd
    unfold PySem.W.kitCls
    dsimp only
    rw [if_pos (by rw [hc, ty]; rfl)]
    exact s
theorem binds_row {K : PySem.W.Frag} {f e1 e2 : Addr} {fd : FuncData} (F : FunD K "__init__" "Row.__init__" (defArgs sRowI) (defBody sRowI) (defScope sRowI) [.ref e1, .ref e2] [] f fd) : Binds K fd ["self", "tests", "deeds"] [] := by
  obtain ⟨ds, h1, h2⟩ := F.binds1 (ps := ["self", "tests", "deeds"]) 3 2 (fun z => nomatch z) rfl fun T kV doc pm an cdv ct us its h1 h2 => match us, its, h1, h2 with
    | [_, _, _], [_, _], _, _ => ⟨_, rfl, rfl⟩
  cases h1
  exact h2

theorem all_mk {l : PySem.W.OpenLaw} {w : World} {K : PySem.W.Frag} {h : Heap} {mg : Str → Option Value} {fa L DT DI fI C fR TC tT tD g_seq g_test g_deed g_areT g_areD g_feed g_take g_pick g_tests g_deeds g_part g_words g_any g_law : Addr} (X : K.In h) (G : h.Ns mainGlobals mg) (hfa : mg "law" = some (.ref fa))
    {nm qn : Str} {N0 : Addr} {bs : List Value} {sn : List Str} {sub0 : List Value} {ab : Bool} {col : Option Bool} {dd : Option Addr} {m0 m1 m2 m3 m5 : Option Value}
    {od_I an_I : Option Addr} {sl_I : Array (Option Value)} {oc_I kV_I dc_I pm_I cd_I ct_I : Value}
    {od_C an_C : Option Addr} {sl_C : Array (Option Value)} {oc_C kV_C dc_C pm_C cd_C ct_C : Value}
    {ocP : Value} {odP : Option Addr} {nP : Nat} {slP : Array (Option Value)} {eP eQ : Addr}
    {od_tT : Option Addr} {n_tT tT0 tT1 tT2 tT3 tT4 tT5 tT6 tT7 tT8 tT9 : Nat} {sl_tT : Array (Option Value)}
    {od_tD : Option Addr} {n_tD tD0 tD1 tD2 tD3 tD4 tD5 tD6 tD7 : Nat} {sl_tD : Array (Option Value)}
    {od_seq an_seq : Option Addr} {sl_seq : Array (Option Value)} {oc_seq kV_seq dc_seq pm_seq cd_seq ct_seq : Value}
    {od_test an_test : Option Addr} {sl_test : Array (Option Value)} {oc_test kV_test dc_test pm_test cd_test ct_test : Value}
    {od_deed an_deed : Option Addr} {sl_deed : Array (Option Value)} {oc_deed kV_deed dc_deed pm_deed cd_deed ct_deed : Value}
    {od_areT an_areT : Option Addr} {sl_areT : Array (Option Value)} {oc_areT kV_areT dc_areT pm_areT cd_areT ct_areT : Value}
    {od_areD an_areD : Option Addr} {sl_areD : Array (Option Value)} {oc_areD kV_areD dc_areD pm_areD cd_areD ct_areD : Value}
    {od_feed an_feed : Option Addr} {sl_feed : Array (Option Value)} {oc_feed kV_feed dc_feed pm_feed cd_feed ct_feed : Value}
    {od_take an_take : Option Addr} {sl_take : Array (Option Value)} {oc_take kV_take dc_take pm_take cd_take ct_take : Value}
    {od_pick an_pick : Option Addr} {sl_pick : Array (Option Value)} {oc_pick kV_pick dc_pick pm_pick cd_pick ct_pick : Value}
    {od_tests an_tests : Option Addr} {sl_tests : Array (Option Value)} {oc_tests kV_tests dc_tests pm_tests cd_tests ct_tests : Value}
    {od_deeds an_deeds : Option Addr} {sl_deeds : Array (Option Value)} {oc_deeds kV_deeds dc_deeds pm_deeds cd_deeds ct_deeds : Value}
    {od_part an_part : Option Addr} {sl_part : Array (Option Value)} {oc_part kV_part dc_part pm_part cd_part ct_part : Value}
    {od_words an_words : Option Addr} {sl_words : Array (Option Value)} {oc_words kV_words dc_words pm_words cd_words ct_words : Value}
    {od_any an_any : Option Addr} {sl_any : Array (Option Value)} {oc_any kV_any dc_any pm_any cd_any ct_any : Value}
    {od_law an_law : Option Addr} {sl_law : Array (Option Value)} {oc_law kV_law dc_law pm_law cd_law ct_law : Value}
    (aL : PySem.W.nsIn K mainGlobals "LayError" = some (some (.ref L)))
    (tL : PySem.W.typeIn K (.ref L) = some (.type "type"))
    (hL : PySem.W.hasDictIn K L = true)
    (aDT : PySem.W.nsIn K mainGlobals "InvalidTool" = some (some (.ref DT)))
    (tDT : PySem.W.typeIn K (.ref DT) = some (.type "type"))
    (hDT : PySem.W.hasDictIn K DT = true)
    (aDI : PySem.W.nsIn K mainGlobals "InvalidRow" = some (some (.ref DI)))
    (tyI : PySem.W.typeIn K (.ref DI) = some (.type "type"))
    (kDI : PySem.W.keepIn K (.ref DI) = true)
    (exI : PySem.W.subIn K (.ref DI) (.type "BaseException") = some true)
    (sLI : PySem.W.subIn K (.ref DI) (.ref L) = some true)
    (sPI : PySem.W.subIn K (.ref DI) (.ref DT) = some false)
    (sSI : PySem.W.subIn K (.ref DI) (.ref DI) = some true)
    (gaI : PySem.W.findIn K (.ref DI) "__getattribute__" = some (some (.builtin "BaseException.__getattribute__")))
    (ggI : PySem.W.findIn K (.ref DI) "__getattr__" = some none)
    (hdI : PySem.W.hasDictIn K DI = true)
    (caI : PySem.W.findIn K (.ref DI) "__class__" = some (some (.builtin "object.__class__")))
    (moI : PySem.W.mroIn K DI (.type "object") = some true)
    (xLI : K.lookup DI = some (excClassObj nm qn DI N0 bs [.ref L, .type "ValueError", .type "Exception", .type "BaseException", .type "object"] true sn sub0 ab col dd m0 m1 m2 m3 m5 "ValueError.__new__"))
    (saI : PySem.W.findIn K (.ref DI) "__setattr__" = some (some (.builtin "object.__setattr__")))
    (iniI : PySem.W.findIn K (.ref DI) "__init__" = some (some (.ref fI)))
    (tiI : PySem.W.typeIn K (.ref fI) = some (.type "function"))
    (noI : PySem.W.findIn K (.ref DI) "part" = some none)
    (l_I : K.lookup fI = some ⟨oc_I, od_I, .func (PySem.W.fnOf "__init__" "InvalidRow.__init__" (defArgs sIR) (defBody sIR) (defScope sIR) .none kV_I dc_I pm_I an_I cd_I ct_I), sl_I⟩)
    (c_I : PySem.W.codeIn K cd_I "InvalidRow.__init__" = true)
    (k_I : PySem.W.keepIn K (.ref fI) = true)
    (hn : PySem.W.specialIn K (.builtin "object.__class__") "__get__" = some (some (.builtin "getset_descriptor.__get__")))
    (ht : PySem.W.takesIn K (.builtin "object.__class__") = some true)
    (aC : PySem.W.nsIn K mainGlobals "Row" = some (some (.ref C)))
    (pgC : PySem.W.plainGet K C Str.empty = true)
    (hdC : PySem.W.hasDictIn K C = true)
    (poC : PySem.W.plainOver K C = true)
    (saC : PySem.W.findIn K (.ref C) "__setattr__" = some (some (.builtin "object.__setattr__")))
    (caC : PySem.W.findIn K (.ref C) "__class__" = some (some (.builtin "object.__class__")))
    (moC : PySem.W.mroIn K C (.type "object") = some true)
    (nlC : PySem.W.subIn K (.ref C) (.type "list") = some false)
    (ntC : PySem.W.subIn K (.ref C) (.type "tuple") = some false)
    (nsC : PySem.W.subIn K (.ref C) (.type "str") = some false)
    (noC_tests : PySem.W.findIn K (.ref C) "tests" = some none)
    (noC_deeds : PySem.W.findIn K (.ref C) "deeds" = some none)
    (mkC : PySem.W.makesIn K C = true)
    (inC : PySem.W.findIn K (.ref C) "__init__" = some (some (.ref fR)))
    (fnC : PySem.W.isFn K (.ref fR) = true)
    (kpC : PySem.W.keepIn K (.ref C) = true)
    (l_C : K.lookup fR = some ⟨oc_C, od_C, .func (PySem.W.fnOf "__init__" "Row.__init__" (defArgs sRowI) (defBody sRowI) (defScope sRowI) (.ref TC) kV_C dc_C pm_C an_C cd_C ct_C), sl_C⟩)
    (c_C : PySem.W.codeIn K cd_C "Row.__init__" = true)
    (k_C : PySem.W.keepIn K (.ref fR) = true)
    (lP : K.lookup TC = some ⟨ocP, odP, .seq [.ref eP, .ref eQ].toArray nP, slP⟩)
    (a_tT : PySem.W.nsIn K mainGlobals "TESTS" = some (some (.ref tT)))
    (l_tT : K.lookup tT = some ⟨.type "tuple", od_tT, .seq [.str "broken" tT0, .str "marked" tT1, .str "left" tT2, .str "ahead" tT3, .str "behind" tT4, .str "blank" tT5, .str "long" tT6, .str "first" tT7, .str "afterbroken" tT8, .str "afterbehind" tT9].toArray n_tT, sl_tT⟩)
    (a_tD : PySem.W.nsIn K mainGlobals "DEEDS" = some (some (.ref tD)))
    (l_tD : K.lookup tD = some ⟨.type "tuple", od_tD, .seq [.str "break" tD0, .str "join" tD1, .str "mark" tD2, .str "unmark" tD3, .str "lift" tD4, .str "lower" tD5, .str "space" tD6, .str "close" tD7].toArray n_tD, sl_tD⟩)
    (a_seq : PySem.W.nsIn K mainGlobals "is_sequence" = some (some (.ref g_seq)))
    (l_seq : K.lookup g_seq = some ⟨oc_seq, od_seq, .func (PySem.W.fnOf "is_sequence" "is_sequence" (defArgs sSeq) (defBody sSeq) (defScope sSeq) .none kV_seq dc_seq pm_seq an_seq cd_seq ct_seq), sl_seq⟩)
    (c_seq : PySem.W.codeIn K cd_seq "is_sequence" = true)
    (k_seq : PySem.W.keepIn K (.ref g_seq) = true)
    (a_test : PySem.W.nsIn K mainGlobals "is_test" = some (some (.ref g_test)))
    (l_test : K.lookup g_test = some ⟨oc_test, od_test, .func (PySem.W.fnOf "is_test" "is_test" (defArgs sTest) (defBody sTest) (defScope sTest) .none kV_test dc_test pm_test an_test cd_test ct_test), sl_test⟩)
    (c_test : PySem.W.codeIn K cd_test "is_test" = true)
    (k_test : PySem.W.keepIn K (.ref g_test) = true)
    (a_deed : PySem.W.nsIn K mainGlobals "is_deed" = some (some (.ref g_deed)))
    (l_deed : K.lookup g_deed = some ⟨oc_deed, od_deed, .func (PySem.W.fnOf "is_deed" "is_deed" (defArgs sDeed) (defBody sDeed) (defScope sDeed) .none kV_deed dc_deed pm_deed an_deed cd_deed ct_deed), sl_deed⟩)
    (c_deed : PySem.W.codeIn K cd_deed "is_deed" = true)
    (k_deed : PySem.W.keepIn K (.ref g_deed) = true)
    (a_areT : PySem.W.nsIn K mainGlobals "are_tests" = some (some (.ref g_areT)))
    (l_areT : K.lookup g_areT = some ⟨oc_areT, od_areT, .func (PySem.W.fnOf "are_tests" "are_tests" (defArgs sAreT) (defBody sAreT) (defScope sAreT) .none kV_areT dc_areT pm_areT an_areT cd_areT ct_areT), sl_areT⟩)
    (c_areT : PySem.W.codeIn K cd_areT "are_tests" = true)
    (k_areT : PySem.W.keepIn K (.ref g_areT) = true)
    (a_areD : PySem.W.nsIn K mainGlobals "are_deeds" = some (some (.ref g_areD)))
    (l_areD : K.lookup g_areD = some ⟨oc_areD, od_areD, .func (PySem.W.fnOf "are_deeds" "are_deeds" (defArgs sAreD) (defBody sAreD) (defScope sAreD) .none kV_areD dc_areD pm_areD an_areD cd_areD ct_areD), sl_areD⟩)
    (c_areD : PySem.W.codeIn K cd_areD "are_deeds" = true)
    (k_areD : PySem.W.keepIn K (.ref g_areD) = true)
    (a_feed : PySem.W.nsIn K mainGlobals "_law_feed" = some (some (.ref g_feed)))
    (l_feed : K.lookup g_feed = some ⟨oc_feed, od_feed, .func (PySem.W.fnOf "_law_feed" "_law_feed" (defArgs sFeed) (defBody sFeed) (defScope sFeed) .none kV_feed dc_feed pm_feed an_feed cd_feed ct_feed), sl_feed⟩)
    (c_feed : PySem.W.codeIn K cd_feed "_law_feed" = true)
    (k_feed : PySem.W.keepIn K (.ref g_feed) = true)
    (a_take : PySem.W.nsIn K mainGlobals "_law_take" = some (some (.ref g_take)))
    (l_take : K.lookup g_take = some ⟨oc_take, od_take, .func (PySem.W.fnOf "_law_take" "_law_take" (defArgs sTake) (defBody sTake) (defScope sTake) .none kV_take dc_take pm_take an_take cd_take ct_take), sl_take⟩)
    (c_take : PySem.W.codeIn K cd_take "_law_take" = true)
    (k_take : PySem.W.keepIn K (.ref g_take) = true)
    (a_pick : PySem.W.nsIn K mainGlobals "_law_pick" = some (some (.ref g_pick)))
    (l_pick : K.lookup g_pick = some ⟨oc_pick, od_pick, .func (PySem.W.fnOf "_law_pick" "_law_pick" (defArgs sPick) (defBody sPick) (defScope sPick) .none kV_pick dc_pick pm_pick an_pick cd_pick ct_pick), sl_pick⟩)
    (c_pick : PySem.W.codeIn K cd_pick "_law_pick" = true)
    (k_pick : PySem.W.keepIn K (.ref g_pick) = true)
    (a_tests : PySem.W.nsIn K mainGlobals "_law_tests" = some (some (.ref g_tests)))
    (l_tests : K.lookup g_tests = some ⟨oc_tests, od_tests, .func (PySem.W.fnOf "_law_tests" "_law_tests" (defArgs sTests) (defBody sTests) (defScope sTests) .none kV_tests dc_tests pm_tests an_tests cd_tests ct_tests), sl_tests⟩)
    (c_tests : PySem.W.codeIn K cd_tests "_law_tests" = true)
    (k_tests : PySem.W.keepIn K (.ref g_tests) = true)
    (a_deeds : PySem.W.nsIn K mainGlobals "_law_deeds" = some (some (.ref g_deeds)))
    (l_deeds : K.lookup g_deeds = some ⟨oc_deeds, od_deeds, .func (PySem.W.fnOf "_law_deeds" "_law_deeds" (defArgs sDeeds) (defBody sDeeds) (defScope sDeeds) .none kV_deeds dc_deeds pm_deeds an_deeds cd_deeds ct_deeds), sl_deeds⟩)
    (c_deeds : PySem.W.codeIn K cd_deeds "_law_deeds" = true)
    (k_deeds : PySem.W.keepIn K (.ref g_deeds) = true)
    (a_part : PySem.W.nsIn K mainGlobals "_law_part" = some (some (.ref g_part)))
    (l_part : K.lookup g_part = some ⟨oc_part, od_part, .func (PySem.W.fnOf "_law_part" "_law_part" (defArgs sPart) (defBody sPart) (defScope sPart) .none kV_part dc_part pm_part an_part cd_part ct_part), sl_part⟩)
    (c_part : PySem.W.codeIn K cd_part "_law_part" = true)
    (k_part : PySem.W.keepIn K (.ref g_part) = true)
    (a_words : PySem.W.nsIn K mainGlobals "_law_are_words" = some (some (.ref g_words)))
    (l_words : K.lookup g_words = some ⟨oc_words, od_words, .func (PySem.W.fnOf "_law_are_words" "_law_are_words" (defArgs sWords) (defBody sWords) (defScope sWords) .none kV_words dc_words pm_words an_words cd_words ct_words), sl_words⟩)
    (c_words : PySem.W.codeIn K cd_words "_law_are_words" = true)
    (k_words : PySem.W.keepIn K (.ref g_words) = true)
    (a_any : PySem.W.nsIn K mainGlobals "_law_any" = some (some (.ref g_any)))
    (l_any : K.lookup g_any = some ⟨oc_any, od_any, .func (PySem.W.fnOf "_law_any" "_law_any" (defArgs sAny) (defBody sAny) (defScope sAny) .none kV_any dc_any pm_any an_any cd_any ct_any), sl_any⟩)
    (c_any : PySem.W.codeIn K cd_any "_law_any" = true)
    (k_any : PySem.W.keepIn K (.ref g_any) = true)
    (a_law : PySem.W.nsIn K mainGlobals "law" = some (some (.ref g_law)))
    (l_law : K.lookup g_law = some ⟨oc_law, od_law, .func (PySem.W.fnOf "law" "law" (defArgs sLaw) (defBody sLaw) (defScope sLaw) .none kV_law dc_law pm_law an_law cd_law ct_law), sl_law⟩)
    (c_law : PySem.W.codeIn K cd_law "law" = true)
    (k_law : PySem.W.keepIn K (.ref g_law) = true)
    (z_int : PySem.W.nsIn K mainGlobals "int" = some none)
    (z_str : PySem.W.nsIn K mainGlobals "str" = some none)
    (z_list : PySem.W.nsIn K mainGlobals "list" = some none)
    (z_tuple : PySem.W.nsIn K mainGlobals "tuple" = some none)
    (z_isinstance : PySem.W.nsIn K mainGlobals "isinstance" = some none)
    (z_len : PySem.W.nsIn K mainGlobals "len" = some none)
    (z_all : PySem.W.nsIn K mainGlobals "all" = some none)
    (z_abs : PySem.W.nsIn K mainGlobals "abs" = some none)
    (z_range : PySem.W.nsIn K mainGlobals "range" = some none)
    (z_max : PySem.W.nsIn K mainGlobals "max" = some none)
    (z_min : PySem.W.nsIn K mainGlobals "min" = some none)
    : ∃ fd : FuncData, (∀ (s : Shared) (v : Value), BindsTo s fd ⟨[v], []⟩ [("_law_script", v)]) ∧ ∀ base : Heap, K.In base → base.Ns mainGlobals mg → FnOk l.prog w K mg base CX0 13 fa fd ["_law_script"] (spLaw K) := by
  have e := hfa.symm.trans (PySem.W.mg_of X G a_law)
  cases e
  have M : ∀ {x : Str} {a : Addr}, PySem.W.nsIn K mainGlobals x = some (some (.ref a)) → mg x = some (.ref a) := fun h => PySem.W.mg_of X G h
  have N : ∀ {x : Str}, PySem.W.nsIn K mainGlobals x = some none → mg x = none := fun h => PySem.W.mg_none_of X G h
  have isC : ExcC K DI := ⟨gaI, ggI, exI, hdI, caI, hn, ht, moI⟩
  have XI : XC K mg DI fI "InvalidRow" "part" := ⟨⟨⟨_, _, _, _, _, _, _, _, _, _, _, _, _, _, _, xLI, refs_ok L⟩, saI, exI, tyI, kDI⟩, iniI, tiI, M aDI, noI, isC, ⟨gaI, ggI, exI, hdI⟩⟩
  have F_I := fun_mk (st := sIR) l_I c_I k_I
  have b_I := F_I.binds (ps := ["self", "part"]) fun _ _ _ _ _ _ us hl => match us, hl with | [_, _], _ => rfl
  have FR : FunD K "__init__" "Row.__init__" (defArgs sRowI) (defBody sRowI) (defScope sRowI) [.ref eP, .ref eQ] [] fR _ :=
    ⟨⟨_, _, _, _, _, _, _, _, _, _, rfl, l_C, c_C, .inr ⟨(fun z => nomatch z), TC, _, _, _, rfl, lP, rfl, .cons rfl (.cons rfl .nil)⟩, .inl rfl⟩, k_C⟩
  have F_seq := fun_mk (st := sSeq) l_seq c_seq k_seq
  have b_seq := F_seq.binds (ps := ["value"]) fun _ _ _ _ _ _ us hl => match us, hl with | [_], _ => rfl
  have F_test := fun_mk (st := sTest) l_test c_test k_test
  have b_test := F_test.binds (ps := ["value"]) fun _ _ _ _ _ _ us hl => match us, hl with | [_], _ => rfl
  have F_deed := fun_mk (st := sDeed) l_deed c_deed k_deed
  have b_deed := F_deed.binds (ps := ["value"]) fun _ _ _ _ _ _ us hl => match us, hl with | [_], _ => rfl
  have F_areT := fun_mk (st := sAreT) l_areT c_areT k_areT
  have b_areT := F_areT.binds (ps := ["value"]) fun _ _ _ _ _ _ us hl => match us, hl with | [_], _ => rfl
  have F_areD := fun_mk (st := sAreD) l_areD c_areD k_areD
  have b_areD := F_areD.binds (ps := ["value"]) fun _ _ _ _ _ _ us hl => match us, hl with | [_], _ => rfl
  have F_feed := fun_mk (st := sFeed) l_feed c_feed k_feed
  have b_feed := F_feed.binds (ps := ["_law_script", "_law_base"]) fun _ _ _ _ _ _ us hl => match us, hl with | [_, _], _ => rfl
  have F_take := fun_mk (st := sTake) l_take c_take k_take
  have b_take := F_take.binds (ps := ["_law_box", "_law_wide"]) fun _ _ _ _ _ _ us hl => match us, hl with | [_, _], _ => rfl
  have F_pick := fun_mk (st := sPick) l_pick c_pick k_pick
  have b_pick := F_pick.binds (ps := ["_law_box", "_law_some"]) fun _ _ _ _ _ _ us hl => match us, hl with | [_, _], _ => rfl
  have F_tests := fun_mk (st := sTests) l_tests c_tests k_tests
  have b_tests := F_tests.binds (ps := ["_law_box", "_law_most"]) fun _ _ _ _ _ _ us hl => match us, hl with | [_, _], _ => rfl
  have F_deeds := fun_mk (st := sDeeds) l_deeds c_deeds k_deeds
  have b_deeds := F_deeds.binds (ps := ["_law_box", "_law_most"]) fun _ _ _ _ _ _ us hl => match us, hl with | [_, _], _ => rfl
  have F_part := fun_mk (st := sPart) l_part c_part k_part
  have b_part := F_part.binds (ps := ["_law_tests_here", "_law_deeds_here"]) fun _ _ _ _ _ _ us hl => match us, hl with | [_, _], _ => rfl
  have F_words := fun_mk (st := sWords) l_words c_words k_words
  have b_words := F_words.binds (ps := ["_law_value", "_law_of_tests"]) fun _ _ _ _ _ _ us hl => match us, hl with | [_, _], _ => rfl
  have F_any := fun_mk (st := sAny) l_any c_any k_any
  have b_any := F_any.binds (ps := ["_law_box", "_law_deep"]) fun _ _ _ _ _ _ us hl => match us, hl with | [_, _], _ => rfl
  have F_law := fun_mk (st := sLaw) l_law c_law k_law
  have b_law := F_law.binds (ps := ["_law_script"]) fun _ _ _ _ _ _ us hl => match us, hl with | [_], _ => rfl
  have D : TxtD mg := ⟨N z_int, N z_len, N z_abs, N z_range⟩
  have T : TxtK mg := ⟨N z_str, N z_list, N z_tuple, N z_isinstance, N z_len, N z_all⟩
  have c : ClsI K C := ⟨⟨pgC, hdC, poC, saC⟩, caC, hn, ht, moC, nlC, ntC, nsC⟩
  have neD : DI ≠ DT := fun z => by
    rw [← z, sSI] at sPI
    cases sPI
  have Kn : Kin K mg DI L DT := ⟨M aL, M aDT, kit_cls hL tL sLI (fun _ => rfl), kit_cls hDT tDT sPI (fun z => absurd (Value.ref.inj z) neD), PySem.W.exm_ref exI hdI tyI sSI⟩
  have mkR : Mk K C fR := ⟨mkC, inC, fnC, kpC⟩
  have bR := binds_row FR
  have hTests : ∀ H : Hp, SqT K H tT (testL.map V.str) := fun H => .inr ⟨_, _, _, l_tT, rfl, rfl, (by show 10 ≤ sizeLine; decide), (.cons ⟨_, rfl⟩ (.cons ⟨_, rfl⟩ (.cons ⟨_, rfl⟩ (.cons ⟨_, rfl⟩ (.cons ⟨_, rfl⟩ (.cons ⟨_, rfl⟩ (.cons ⟨_, rfl⟩ (.cons ⟨_, rfl⟩ (.cons ⟨_, rfl⟩ (.cons ⟨_, rfl⟩ .nil))))))))))⟩
  have hDeeds : ∀ H : Hp, SqT K H tD (deedL.map V.str) := fun H => .inr ⟨_, _, _, l_tD, rfl, rfl, (by show 8 ≤ sizeLine; decide), (.cons ⟨_, rfl⟩ (.cons ⟨_, rfl⟩ (.cons ⟨_, rfl⟩ (.cons ⟨_, rfl⟩ (.cons ⟨_, rfl⟩ (.cons ⟨_, rfl⟩ (.cons ⟨_, rfl⟩ (.cons ⟨_, rfl⟩ .nil))))))))⟩
  refine ⟨PySem.W.fnOf "law" "law" (defArgs sLaw) (defBody sLaw) (defScope sLaw) .none kV_law dc_law pm_law an_law cd_law ct_law, fun s v => .of_eq rfl, fun base _ _ => ?_⟩
  have okSeq : FnOk l.prog w K mg base CX0 1 g_seq _ ["value"] (spSeq K) := ok_seq F_seq T
  have okTest : FnOk l.prog w K mg base CX0 1 g_test _ ["value"] (spOne progT K) := ok_test F_test T (M a_tT) hTests
  have okDeed : FnOk l.prog w K mg base CX0 1 g_deed _ ["value"] (spOne progD K) := ok_deed F_deed T (M a_tD) hDeeds
  have okAT := ok_areT F_areT T okSeq (M a_seq) k_seq b_seq okTest (M a_test) k_test b_test
  have okAD := ok_areD F_areD T okSeq (M a_seq) k_seq b_seq okDeed (M a_deed) k_deed b_deed
  have RC : RowC K C := ⟨c.cl, noC_tests, noC_deeds⟩
  have okR := ok_rowI FR T RC okAT (M a_areT) k_areT b_areT okAD (M a_areD) k_areD b_areD XI (ok_iR F_I) b_I
  have RD : RowD l.prog w K mg base C DI fR _ := ⟨mkR, okR, M aC, bR⟩
  have okTake : FnOk l.prog w K mg base CX0 1 g_take _ ["_law_box", "_law_wide"] spTake := ok_take F_take D
  have okPick := ok_pick F_pick D okTake (M a_take) k_take b_take
  have DR : Draws l.prog w K mg base g_take g_pick _ _ := ⟨N z_range, N z_tuple, okTake, M a_take, k_take, b_take, okPick, M a_pick, k_pick, b_pick⟩
  have okPart := ok_part F_part T XI Kn mkR RC okR (M aC) bR
  exact ok_law (C := C) (fs := ⟨g_feed, _, g_take, _, g_pick, _, g_tests, _, g_deeds, _, g_part, _, g_words, _, g_any, _⟩) F_law ⟨N z_range, N z_max, N z_min, N z_len, N z_list, c,
    ok_feed F_feed D, M a_feed, k_feed, b_feed, okTake, M a_take, k_take, b_take, okPick, M a_pick, k_pick, b_pick, ok_tests F_tests DR, M a_tests, k_tests, b_tests, ok_deeds F_deeds DR, M a_deeds, k_deeds, b_deeds,
    okPart, M a_part, k_part, b_part, ok_words F_words T, M a_words, k_words, b_words, ok_any F_any DR RD c (M a_any) k_any b_any 7, M a_any, k_any, b_any⟩
end Lay
open PySem PySem.W PyProof.Rows
set_option Elab.async false
set_option maxRecDepth 100000 in
set_option maxHeartbeats 0 in
theorem PySem.Challenge.cw_laytwice_k12_rows_refused_holds : PySem.Challenge.rw_laytwice_k12_rows_refused.Holds := by
  w_on; o_law; k_head; (case hw => w_witness2)
  k_fill
  refine L2.walk_of (l := PySem.Challenge.rw_laytwice_k12_rows_refused) (n := 63) (k := 13) (x := "_law_script") (CX := fun _ => L2.CX0) (sp := fun w => Lay.spLaw _) rfl (by decide) rfl ⟨rfl, by decide, by decide⟩ (fun w h Y => PySem.W.kIn_of Y) ?F (fun _ _ a ns hl _ hS => ⟨a, ns, rfl, hS, hl, fun _ => rfl⟩) (fun _ _ _ _ _ z => z.elim)
  case F =>
    intro w mg fa h KX G hmg
    refine' Lay.all_mk KX G hmg ?aL ?tL ?hL ?aDT ?tDT ?hDT ?aDI ?tyI ?kDI ?exI ?sLI ?sPI ?sSI ?gaI ?ggI ?hdI ?caI ?moI ?xLI ?saI ?iniI ?tiI ?noI ?l_I ?c_I ?k_I ?hn ?ht ?aC ?pgC ?hdC ?poC ?saC ?caC ?moC ?nlC ?ntC ?nsC ?noC_tests ?noC_deeds ?mkC ?inC ?fnC ?kpC ?l_C ?c_C ?k_C ?lP ?a_tT ?l_tT ?a_tD ?l_tD ?a_seq ?l_seq ?c_seq ?k_seq ?a_test ?l_test ?c_test ?k_test ?a_deed ?l_deed ?c_deed ?k_deed ?a_areT ?l_areT ?c_areT ?k_areT ?a_areD ?l_areD ?c_areD ?k_areD ?a_feed ?l_feed ?c_feed ?k_feed ?a_take ?l_take ?c_take ?k_take ?a_pick ?l_pick ?c_pick ?k_pick ?a_tests ?l_tests ?c_tests ?k_tests ?a_deeds ?l_deeds ?c_deeds ?k_deeds ?a_part ?l_part ?c_part ?k_part ?a_words ?l_words ?c_words ?k_words ?a_any ?l_any ?c_any ?k_any ?a_law ?l_law ?c_law ?k_law ?z_int ?z_str ?z_list ?z_tuple ?z_isinstance ?z_len ?z_all ?z_abs ?z_range ?z_max ?z_min
    (case aL => k_is)
    (case tL => k_is)
    (case hL => k_is)
    (case aDT => k_is)
    (case tDT => k_is)
    (case hDT => k_is)
    (case aDI => k_is)
    (case tyI => k_is)
    (case kDI => k_is)
    (case exI => k_is)
    (case sLI => k_is)
    (case sPI => k_is)
    (case sSI => k_is)
    (case gaI => k_is)
    (case ggI => k_is)
    (case hdI => k_is)
    (case caI => k_is)
    (case moI => k_is)
    (case xLI => k_is)
    (case saI => k_is)
    (case iniI => k_is)
    (case tiI => k_is)
    (case noI => k_is)
    (case l_I => k_is)
    (case c_I => k_is)
    (case k_I => k_is)
    (case hn => k_is)
    (case ht => k_is)
    (case aC => k_is)
    (case pgC => k_is)
    (case hdC => k_is)
    (case poC => k_is)
    (case saC => k_is)
    (case caC => k_is)
    (case moC => k_is)
    (case nlC => k_is)
    (case ntC => k_is)
    (case nsC => k_is)
    (case noC_tests => k_is)
    (case noC_deeds => k_is)
    (case mkC => k_is)
    (case inC => k_is)
    (case fnC => k_is)
    (case kpC => k_is)
    (case l_C => k_is)
    (case c_C => k_is)
    (case k_C => k_is)
    (case lP => k_is)
    (case a_tT => k_is)
    (case l_tT => k_is)
    (case a_tD => k_is)
    (case l_tD => k_is)
    (case a_seq => k_is)
    (case l_seq => k_is)
    (case c_seq => k_is)
    (case k_seq => k_is)
    (case a_test => k_is)
    (case l_test => k_is)
    (case c_test => k_is)
    (case k_test => k_is)
    (case a_deed => k_is)
    (case l_deed => k_is)
    (case c_deed => k_is)
    (case k_deed => k_is)
    (case a_areT => k_is)
    (case l_areT => k_is)
    (case c_areT => k_is)
    (case k_areT => k_is)
    (case a_areD => k_is)
    (case l_areD => k_is)
    (case c_areD => k_is)
    (case k_areD => k_is)
    (case a_feed => k_is)
    (case l_feed => k_is)
    (case c_feed => k_is)
    (case k_feed => k_is)
    (case a_take => k_is)
    (case l_take => k_is)
    (case c_take => k_is)
    (case k_take => k_is)
    (case a_pick => k_is)
    (case l_pick => k_is)
    (case c_pick => k_is)
    (case k_pick => k_is)
    (case a_tests => k_is)
    (case l_tests => k_is)
    (case c_tests => k_is)
    (case k_tests => k_is)
    (case a_deeds => k_is)
    (case l_deeds => k_is)
    (case c_deeds => k_is)
    (case k_deeds => k_is)
    (case a_part => k_is)
    (case l_part => k_is)
    (case c_part => k_is)
    (case k_part => k_is)
    (case a_words => k_is)
    (case l_words => k_is)
    (case c_words => k_is)
    (case k_words => k_is)
    (case a_any => k_is)
    (case l_any => k_is)
    (case c_any => k_is)
    (case k_any => k_is)
    (case a_law => k_is)
    (case l_law => k_is)
    (case c_law => k_is)
    (case k_law => k_is)
    (case z_int => k_is)
    (case z_str => k_is)
    (case z_list => k_is)
    (case z_tuple => k_is)
    (case z_isinstance => k_is)
    (case z_len => k_is)
    (case z_all => k_is)
    (case z_abs => k_is)
    (case z_range => k_is)
    (case z_max => k_is)
    (case z_min => k_is)
