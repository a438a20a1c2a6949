import PyProof.Rows.All
import Wide.All
import OpenK.AllK
import Wide.FinOn
import HandS.ForMost
import HandS.Codes
import KE.GoesMore
import HandS.Walk
import HandS.Dict
import HandS.Style
import OpenK.KEqL
import HandS.IsInst
import HandS.StrMore
import HandS.TupAny
import HandS.Defaults
import HandS.ExcInit
import HandS.ExcField
import HandS.ExcIs
import HandS.WordsExc
import HandS.ExcOwn
import KE.KExcIs
import HandS.Text
import HandS.Star
import HandS.OwnEq
import KE.KCallOwn
import HandS.NoneIn
import HandS.ForExc
import HandS.ExcValue
import HandS.Zip
import PySem.Challenge.RW_laytwice_k11_rows_made
set_option Elab.async false
set_option linter.all false
set_option maxRecDepth 100000
set_option maxHeartbeats 4000000
namespace Lay
open PySem L2
def top (i : Nat) : Stmt := PySem.Challenge.pw_laytwice_k11_rows_made.main.body.getD i (.Pass ⟨0, 0, 0, 0⟩)
abbrev sFeed : Stmt := top 24
abbrev sTake : Stmt := top 25
abbrev sPick : Stmt := top 26
theorem Same.new {a : Addr} {H : Hp} {o : HO} (h : H a = none) : Same H (upd H a o) := fun c u e => by
  rw [upd_ne (ne_of_none e h)]
  exact e
theorem iteN {c : Bool} {A B : Prop} (h : c = false) (x : B) : if c = true then A else B := by
  rw [if_neg (by rw [h]; exact Bool.false_ne_true)]
  exact x
theorem iteY {c : Bool} {A B : Prop} (h : c = true) (x : A) : if c = true then A else B := by
  rw [if_pos h]
  exact x
theorem fits {n : Nat} (h : n ≤ 1000) : n ≤ sizeLine := by
  rw [sizeLine_eq]
  omega
/-! ### the box of draws: a dict and its list -/
def kvBox (gr : Addr) (m : Int) : List (Key × V) := [(.inr "great", .ref gr), (.inr "mixed", .int m)]
structure BoxD (H : Hp) (b gr : Addr) : Prop where
  d : ∃ m, H b = some (.dK (kvBox gr m))
  l : ∃ ns : List Int, H gr = some (.lst (ns.map V.int)) ∧ ns.length ≤ 1000
/-- all that is tracked beside the box is as it was -/
def K2 (b gr : Addr) (H H' : Hp) : Prop := ∀ a o, a ≠ b → a ≠ gr → H a = some o → H' a = some o
theorem K2.refl (b gr : Addr) (H : Hp) : K2 b gr H H := fun _ _ _ _ h => h
theorem K2.trans {b gr : Addr} {H H1 H2 : Hp} (x : K2 b gr H H1) (y : K2 b gr H1 H2) : K2 b gr H H2 := fun a o n1 n2 h => y a o n1 n2 (x a o n1 n2 h)
theorem K2.of_same {b gr : Addr} {H H' : Hp} (x : Same H H') : K2 b gr H H' := fun a o _ _ h => x a o h
theorem K2.b {b gr : Addr} {H : Hp} {o : HO} : K2 b gr H (upd H b o) := fun a u n _ h => by rw [upd_ne n]; exact h
theorem K2.g {b gr : Addr} {H : Hp} {o : HO} : K2 b gr H (upd H gr o) := fun a u _ n h => by rw [upd_ne n]; exact h
theorem BoxD.ne {H : Hp} {b gr : Addr} (x : BoxD H b gr) : gr ≠ b := fun z => by
  obtain ⟨⟨m, h1⟩, ns, h2, _⟩ := x
  rw [z, h1] at h2
  cases h2
theorem BoxD.same {H H' : Hp} {b gr : Addr} (s : Same H H') (x : BoxD H b gr) : BoxD H' b gr := by
  obtain ⟨⟨m, h1⟩, ns, h2, h3⟩ := x
  exact ⟨⟨m, s _ _ h1⟩, ns, s _ _ h2, h3⟩
theorem BoxD.fresh {H : Hp} {a b gr : Addr} (x : BoxD H b gr) (h : H a = none) : a ≠ b ∧ a ≠ gr := by
  obtain ⟨⟨m, h1⟩, ns, h2, h3⟩ := x
  exact ⟨(ne_of_none h1 h).symm, (ne_of_none h2 h).symm⟩
theorem snocs (ms : List Int) : ms = [] ∨ ∃ (i : List Int) (z : Int), ms = i ++ [z] := by
  rcases List.eq_nil_or_concat ms with h | ⟨i, z, h⟩
  · exact .inl h
  · exact .inr ⟨i, z, by rw [h, List.concat_eq_append]⟩
theorem kv_ne : ¬ (Sum.inr (Str.ofString "great") : Key) = Sum.inr (Str.ofString "mixed") := by decide
theorem kv_great {gr : Addr} {m : Int} : valV (kvBox gr m) (.inr "great") = some (.ref gr) := valV_pos rfl
theorem kv_mixed {gr : Addr} {m : Int} : valV (kvBox gr m) (.inr "mixed") = some (.int m) := by
  unfold kvBox
  rw [valV_neg kv_ne]
  exact valV_pos rfl
theorem kv_put {gr : Addr} {m i : Int} : putK (kvBox gr m) (.inr "mixed") (.int i) = kvBox gr i := by
  have e := kv_ne
  simp [putK, kvBox, e]
/-- what the draws want of the module's names -/
structure TxtD (mg : Str → Option Value) : Prop where
  int : mg "int" = none
  len : mg "len" = none
  abs : mg "abs" = none
  range : mg "range" = none
def spTake : Sp := fun vs H Q _ => ∃ (b gr : Addr) (m : Int), vs = [.ref b, .int m] ∧ BoxD H b gr ∧ 0 < m ∧ m < 1073741824 ∧ ∀ (r : Int) (H' : Hp), 0 ≤ r → r < m → BoxD H' b gr → K2 b gr H H' → Q (.int r) H'
theorem ints_dp {K : PySem.W.Frag} {H : Hp} {p : Addr} {ns : List Int} (h : SqL K H p (ns.map V.int)) : Dp K H (.ref p) (.list (ns.map .int)) := .lst h (by
  clear h
  induction ns with
  | nil => exact .nil
  | cons n ns ih => exact .cons (.int n) ih)
theorem eqv_nil (ns : List Int) : PyData.eqv (.list (ns.map .int)) (.list []) = ns.isEmpty := by
  cases ns <;> rfl
theorem get_great {b gr : Addr} {m : Int} {H : Hp} (h : H b = some (.dK (kvBox gr m))) : DGet H b (.str "great") (some (.ref gr)) := by
  have q := DGet.k (k := .inr "great") h
  rw [kv_great] at q
  exact q
theorem get_mixed {b gr : Addr} {m : Int} {H : Hp} (h : H b = some (.dK (kvBox gr m))) : DGet H b (.str "mixed") (some (.int m)) := by
  have q := DGet.k (k := .inr "mixed") h
  rw [kv_mixed] at q
  exact q
theorem put_mixed {b gr : Addr} {m i : Int} {H : Hp} (h : H b = some (.dK (kvBox gr m))) : DPut H b (.str "mixed") (.int i) (upd H b (.dK (kvBox gr i))) := by
  have q := DPut.k (k := .inr "mixed") (v := .int i) h (by rw [sizeLine_eq]; show 2 < _; omega)
  rw [kv_put] at q
  exact q
section
variable {P : Program} {w : World} {K : PySem.W.Frag} {mg : Str → Option Value} {base : Heap}
theorem scTake : FnScope ["_law_box", "_law_wide", "_law_great", "_law_cell"] ["_law_box", "_law_wide"] (defScope sTake) := ⟨rfl, rfl, rfl, by decide +kernel, rfl, by decide +kernel, by decide +kernel⟩
theorem ok_take {f : Addr} {fd : FuncData} (F : Fun K "_law_take" "_law_take" sTake f fd) (T : TxtD mg) : FnOk P w K mg base CX0 1 f fd ["_law_box", "_law_wide"] spTake := by
  refine F.ok scTake (fun vs H Q E h => ?_) (fun cdv A outer s H vs Q E hr h => ?_)
  · obtain ⟨b, gr, m, rfl, _⟩ := h
    rfl
  · obtain ⟨b, gr, m, rfl, bx, hm, hm2, k⟩ := h
    refine ⟨_, (pss_cons (ps_set (i := 2) scTake.nd rfl (.inl rfl) (pe_dget (hu_of hr) (pv 0) pe_str (fun _ _ => rfl)))
    (C8.pss_cut (ps_while PassesOwn.never (PW.pt (pw_and (pt_cmpR (op_neD hr.units) (pv 2) (pe_lst pa_nil) (nomark _)) (pw_and1 (pt_cmpR op_eq (pe_ix ix_list (pv 2) (pe_un un_neg pe_int) (fun _ _ => rfl)) pe_int (nomark _)))))
      (pss_one (ps_expr (pe_bm0 PySem.F.plainAttrs_list PySem.F.slot_list_pop PySem.F.type_list_pop mt_pop (pv 2)))))
    (pss_cons (ps_if (pt_cmpR (op_neD hr.units) (pv 2) (pe_lst pa_nil) (nomark _))
      (pss_cons (ps_set (i := 3) scTake.nd rfl (.inl rfl) (pe_bm0 PySem.F.plainAttrs_list PySem.F.slot_list_pop PySem.F.type_list_pop mt_pop (pv 2)))
      (pss_cons (ps_expr (pe_bm PySem.F.plainAttrs_list PySem.F.slot_list_append PySem.F.type_list_append mt_append (pv 2) (pa_cons (pe_op op_fdiv (pv 3) (pv 1)) pa_nil)))
      (pss_one (ps_ret (pe_op op_mod (pe_callTy call_int1 (by rfl) T.int (by decide +kernel) (pa_cons (pv 3) pa_nil)) (pv 1))))))
      pss_nil)
    (pss_cons (ps_dput (hu_of hr) (pv 0) pe_str (pe_op op_mod (pe_callTy call_int1 (by rfl) T.int (by decide +kernel) (pa_cons (pe_op op_add (pe_op op_mul (pe_dget (hu_of hr) (pv 0) pe_str (fun _ _ => rfl)) pe_int) pe_int) pa_nil)) pe_int) (by rfl))
    (pss_one (ps_ret (pe_op op_mod (pe_callTy call_int1 (by rfl) T.int (by decide +kernel) (pa_cons (pe_op op_fdiv (pe_dget (hu_of hr) (pv 0) pe_str (fun _ _ => rfl)) pe_int) pa_nil)) (pv 1)))))))), ?_⟩
    obtain ⟨⟨x, hb⟩, ns, hg, hl⟩ := bx
    have ngb : gr ≠ b := fun z => by
      rw [z, hb] at hg
      cases hg
    refine ⟨_, rfl, b, _, rfl, get_great hb, ?_⟩
    refine ⟨fun σ G => ∃ ms : List Int, σ = [some (.ref b), some (.int m), some (.ref gr), none] ∧ G gr = some (.lst (ms.map V.int)) ∧ ms.length ≤ 1000 ∧ G b = some (.dK (kvBox gr x)) ∧ K2 b gr H G, ?_, ?_⟩
    · refine ⟨fun n σ G => ∃ ms : List Int, n = ms.length ∧ σ = [some (.ref b), some (.int m), some (.ref gr), none] ∧ G gr = some (.lst (ms.map V.int)) ∧ ms.length ≤ 1000 ∧ G b = some (.dK (kvBox gr x)) ∧ K2 b gr H G, ⟨_, ns, rfl, rfl, hg, hl, hb, K2.refl _ _ _⟩, ?_⟩
      rintro n σ G ⟨ms, rfl, rfl, hg1, hl1, hb1, k1⟩
      refine ⟨_, rfl, (by show 0 ≤ sizeLine; exact Nat.zero_le _), fun q nq => ⟨.list (ms.map .int), .list [], ints_dp (SqL.of (Same.new nq _ _ hg1)), .lst (SqL.of upd_same) .nil, PySem.W.shaped_ints ms, rfl, _, rfl, ?_⟩⟩
      have s1 := Same.new nq (o := .lst [])
      rw [eqv_nil]
      rcases snocs ms with rfl | ⟨init, z, rfl⟩
      · exact iteN rfl (iteN rfl ⟨[], rfl, s1 _ _ hg1, hl1, s1 _ _ hb1, k1.trans (K2.of_same s1)⟩)
      · have hg2 : upd G q (.lst []) gr = some (.lst (init.map V.int ++ [.int z])) := by
          have := s1 _ _ hg1
          rw [List.map_append] at this
          exact this
        refine iteY (by cases init <;> rfl) ⟨_, rfl, _, rfl, gr, _, _, _, rfl, rfl, SqL.of hg2, atI_last _ _, rfl, _, rfl, ?_⟩
        refine ite2 (fun hz => ?_) (fun hz => ?_)
        · have li : init.length < (init ++ [z]).length := by rw [List.length_append]; show _ < _ + 1; omega
          refine ⟨fun σ' G' => σ' = [some (.ref b), some (.int m), some (.ref gr), none] ∧ G' gr = some (.lst (init.map V.int)) ∧ G' b = some (.dK (kvBox gr x)) ∧ K2 b gr H G', fun σ' G' ⟨e1, e2, e3, e4⟩ => ⟨_, li, init, rfl, e1, e2, by omega, e3, e4⟩, ?_⟩
          refine ⟨_, rfl, .inl ⟨rfl, _, SqL.of hg2⟩, gr, _, .int z, rfl, rfl, hg2, by simp, rfl, ?_, ?_, ?_⟩
          · rw [upd_same, List.dropLast_concat]
          · rw [upd_ne (Ne.symm ngb)]
            exact s1 _ _ hb1
          · exact (k1.trans (K2.of_same s1)).trans K2.g
        · refine ⟨init ++ [z], rfl, ?_, hl1, s1 _ _ hb1, k1.trans (K2.of_same s1)⟩
          rw [List.map_append]
          exact hg2
    · rintro σ G ⟨ms, rfl, hg1, hl1, hb1, k1⟩
      refine ⟨_, rfl, (by show 0 ≤ sizeLine; exact Nat.zero_le _), fun q nq => ⟨.list (ms.map .int), .list [], ints_dp (SqL.of (Same.new nq _ _ hg1)), .lst (SqL.of upd_same) .nil, PySem.W.shaped_ints ms, rfl, _, rfl, ?_⟩⟩
      have s1 := Same.new nq (o := .lst [])
      have k2 := k1.trans (K2.of_same s1)
      rw [eqv_nil]
      rcases snocs ms with rfl | ⟨init, z, rfl⟩
      · refine iteN rfl ?_
        have hb2 := s1 _ _ hb1
        have hg2 := s1 _ _ hg1
        refine ⟨_, rfl, b, _, rfl, get_mixed hb2, _, _, rfl, rfl, .inr ⟨by decide, by decide⟩, _, _, rfl, rfl, .inl ⟨_, rfl, _, _, rfl, rfl, (by show (0 : Int) < 2147483647; decide), _, rfl, b, _, rfl, put_mixed hb2, ?_⟩⟩
        refine ⟨_, rfl, b, _, rfl, get_mixed upd_same, _, _, rfl, rfl, ⟨by decide, by decide⟩, .inl ⟨_, rfl, _, rfl, _, _, rfl, rfl, hm, ?_⟩⟩
        refine k _ _ (Int.emod_nonneg _ (by omega)) (Int.emod_lt_of_pos _ hm) ⟨⟨_, upd_same⟩, [], by rw [upd_ne ngb]; exact hg2, hl1⟩ (k2.trans K2.b)
      · have hg2 : upd G q (.lst []) gr = some (.lst (init.map V.int ++ [.int z])) := by
          have := s1 _ _ hg1
          rw [List.map_append] at this
          exact this
        refine iteY (by cases init <;> rfl) ?_
        refine ⟨_, rfl, .inl ⟨rfl, _, SqL.of hg2⟩, gr, _, .int z, rfl, rfl, hg2, by simp, ?_⟩
        rw [List.dropLast_concat]
        refine ⟨_, rfl, .inl ⟨rfl, _, SqL.of upd_same⟩, _, rfl, _, rfl, _, _, rfl, rfl, ⟨hm, hm2⟩, gr, _, _, rfl, rfl, upd_same, ?_, ?_⟩
        · rw [List.length_map]
          rw [List.length_append] at hl1
          exact small1000 (by omega)
        · refine ⟨_, rfl, .inl ⟨_, rfl, _, rfl, _, _, rfl, rfl, hm, ?_⟩⟩
          refine k _ _ (Int.emod_nonneg _ (by omega)) (Int.emod_lt_of_pos _ hm) ⟨⟨x, ?_⟩, init ++ [z / m], ?_, ?_⟩ ?_
          · rw [upd_ne (Ne.symm ngb), upd_ne (Ne.symm ngb)]
            exact s1 _ _ hb1
          · rw [upd_same, List.map_append]
            rfl
          · rw [List.length_append] at hl1 ⊢
            exact hl1
          · exact (k2.trans K2.g).trans K2.g
end
end Lay
set_option Elab.async false
set_option linter.all false
set_option maxRecDepth 100000
set_option maxHeartbeats 4000000
namespace Lay
open PySem L2
def spPick (K : PySem.W.Frag) : Sp := fun vs H Q _ => ∃ (b gr l : Addr) (xs : List V), vs = [.ref b, .ref l] ∧ BoxD H b gr ∧ l ≠ b ∧ l ≠ gr ∧ (H l = some (.lst xs) ∨ H l = some (.tup xs)) ∧ 0 < xs.length ∧ xs.length ≤ 1000 ∧ ∀ (v : V) (H' : Hp), v ∈ xs → BoxD H' b gr → K2 b gr H H' → Q v H'
def spFeed (K : PySem.W.Frag) : Sp := fun vs H Q _ => ∃ (a : Addr) (ns : List Int) (i : Int), vs = [.ref a, .int i] ∧ SqL K H a (ns.map V.int) ∧ 0 ≤ i ∧ i ≤ 1000 ∧ ns.length ≤ 1000 ∧ ∀ (b gr : Addr) (H' : Hp), Same H H' → H b = none → H gr = none → BoxD H' b gr → Q (.ref b) H'
theorem sIx_le' {α : Type} (xs : List α) (lo hi : Option Int) : ((xs.drop (HT.sIx xs.length 0 lo)).take (HT.sIx xs.length xs.length hi - HT.sIx xs.length 0 lo)).length ≤ xs.length := by
  rw [List.length_take, List.length_drop]
  omega
theorem cut_ints (ns : List Int) (lo hi : Option Int) : ∃ ms : List Int, cutV (ns.map V.int) lo hi = ms.map V.int ∧ ms.length ≤ ns.length := by
  refine ⟨(ns.drop (HT.sIx ns.length 0 lo)).take (HT.sIx ns.length ns.length hi - HT.sIx ns.length 0 lo), ?_, sIx_le' ns lo hi⟩
  unfold cutV
  rw [List.length_map, List.map_take, List.map_drop]
theorem merge_box {gr : Addr} {m : Int} : mergeK [] [((.inr "great" : Key), V.ref gr), (.inr "mixed", .int m)] = kvBox gr m := by
  have e := kv_ne
  simp [mergeK, putK, kvBox, e]
section
variable {P : Program} {w : World} {K : PySem.W.Frag} {mg : Str → Option Value} {base : Heap}
theorem scPick : FnScope ["_law_box", "_law_some"] ["_law_box", "_law_some"] (defScope sPick) := ⟨rfl, rfl, rfl, by decide +kernel, rfl, by decide +kernel, by decide +kernel⟩
theorem ok_pick {f fT : Addr} {fd fdT : FuncData} (F : Fun K "_law_pick" "_law_pick" sPick f fd) (T : TxtD mg) (GT : FnOk P w K mg base CX0 1 fT fdT ["_law_box", "_law_wide"] spTake) (gT : mg "_law_take" = some (.ref fT)) (kT : PySem.W.keepIn K (.ref fT) = true) (bT : Binds K fdT ["_law_box", "_law_wide"] []) :
    FnOk P w K mg base CX0 2 f fd ["_law_box", "_law_some"] (spPick K) := by
  refine F.ok scPick (fun vs H Q E h => ?_) (fun cdv A outer s H vs Q E hr h => ?_)
  · obtain ⟨b, gr, l, xs, rfl, _⟩ := h
    rfl
  · obtain ⟨b, gr, l, xs, rfl, bx, n1, n2, hs, h0, h1, k⟩ := h
    rcases hs with hs | hs
    · refine ⟨_, (pss_one (ps_ret (pe_ix ix_list (pv 1) (pe_call GT hr (by rfl) gT kT bT .nil pass0 (pa_cons (pv 0) (pa_cons (pe_callB call_len_seq (by rfl) T.len (by decide +kernel) (pa_cons (pv 1) pa_nil)) pa_nil))) (fun _ _ => rfl)))), ?_⟩
      refine ⟨_, rfl, _, rfl, _, rfl, l, xs, rfl, .inl (SqL.of hs), b, gr, _, rfl, bx, by omega, by omega, fun r H' r0 r1 bx' k2 => ?_⟩
      have hr' : r.toNat < xs.length := by omega
      have er : r = ((r.toNat : Nat) : Int) := by omega
      exact ⟨l, xs, r, xs[r.toNat], rfl, rfl, SqL.of (k2 _ _ n1 n2 hs), at_of er (by simp [hr']), k _ _ (List.getElem_mem hr') bx' k2⟩
    · refine ⟨_, (pss_one (ps_ret (pe_ix ix_tup (pv 1) (pe_call GT hr (by rfl) gT kT bT .nil pass0 (pa_cons (pv 0) (pa_cons (pe_callB call_len_seq (by rfl) T.len (by decide +kernel) (pa_cons (pv 1) pa_nil)) pa_nil))) (fun _ _ => rfl)))), ?_⟩
      refine ⟨_, rfl, _, rfl, _, rfl, l, xs, rfl, .inr (SqT.of hs), b, gr, _, rfl, bx, by omega, by omega, fun r H' r0 r1 bx' k2 => ?_⟩
      have hr' : r.toNat < xs.length := by omega
      have er : r = ((r.toNat : Nat) : Int) := by omega
      exact ⟨l, xs, r, xs[r.toNat], rfl, rfl, SqT.of (k2 _ _ n1 n2 hs), at_of er (by simp [hr']), k _ _ (List.getElem_mem hr') bx' k2⟩
def feedN : List Str := ["_law_script", "_law_base", "_law_cell", "_law_cells", "_law_mixed"]
theorem scFeed : FnScope feedN ["_law_script", "_law_base"] (defScope sFeed) := ⟨rfl, rfl, rfl, by decide +kernel, rfl, by decide +kernel, by decide +kernel⟩
theorem ok_feed {f : Addr} {fd : FuncData} (F : Fun K "_law_feed" "_law_feed" sFeed f fd) (T : TxtD mg) : FnOk P w K mg base CX0 1 f fd ["_law_script", "_law_base"] (spFeed K) := by
  refine F.ok scFeed (fun vs H Q E h => ?_) (fun cdv A outer s H vs Q E hr h => ?_)
  · obtain ⟨a, ns, i, rfl, _⟩ := h
    rfl
  · obtain ⟨a, ns, i, rfl, hs, i0, i1, hn, k⟩ := h
    refine ⟨_, (C8.pss_cut (ps_setLc (i := 3) (own := [("_law_cell", 2)]) (g := gName 2) (tt := tYes) rfl scFeed.nd rfl rfl (sw_true rfl rfl rfl (by decide +kernel)) (pi_list (pe_slice sl_list (pv 0) (po_some (pv 1)) (po_some (pe_op op_add (pv 1) pe_int)))) (blkOk_by (N := feedN) (sc := defScope sFeed) (by decide +kernel)) (fun _ _ _ _ _ => pg_name (i := 2) scFeed.nd rfl (Or.inl rfl)) (fun _ _ _ _ _ => pts_nil)
        (fun _ _ _ _ _ => pe_callB call_abs (by rfl) T.abs (by decide +kernel) (pa_cons (pe_callTy call_int1 (by rfl) T.int (by decide +kernel) (pa_cons (pv 2) pa_nil)) pa_nil)))
      (pss_cons (ps_set (i := 4) scFeed.nd rfl (.inl rfl) (pe_op op_add pe_int (pe_op op_mul pe_int (pv 1))))
      (C8.pss_cut (ps_for PassesOwn.never rfl (pi_list (pv 3)) (pg_name (i := 2) scFeed.nd rfl (.inl rfl))
        (pss_one (ps_set (i := 4) scFeed.nd rfl (.inl rfl) (pe_op op_mod (pe_callTy call_int1 (by rfl) T.int (by decide +kernel) (pa_cons (pe_op op_add (pe_op op_add (pe_callTy call_int1 (by rfl) T.int (by decide +kernel) (pa_cons (pe_op op_mul (pv 4) pe_int) pa_nil)) (pe_op op_mod (pe_callTy call_int1 (by rfl) T.int (by decide +kernel) (pa_cons (pv 2) pa_nil)) pe_int)) pe_int) pa_nil)) pe_int))))
      (pss_one (ps_ret (pe_disp (pps_cons pe_str (pe_revL (pe_lc (own := [("_law_cell", 2)]) (g := gName 2) (by rfl) scFeed.nd (pi_list (pv 3)) (blkOk_by (N := feedN) (sc := defScope sFeed) (by decide +kernel)) (fun _ _ _ _ _ => pg_name (i := 2) scFeed.nd rfl (Or.inl rfl))
          (fun _ _ _ _ _ => pts_one (pt_cmpR op_ge (pv 2) (pe_op op_pow pe_int pe_int) (nomark _))) (fun _ _ _ _ _ => pv 2))) (pps_cons pe_str (pv 4) pps_nil)) rfl rfl (by decide) (by decide))))))), ?_⟩
    refine ⟨fun σ G => ∃ (x2 x4 : Option V) (C1 : Addr) (ms : List Int), σ = [some (.ref a), some (.int i), x2, some (.ref C1), x4] ∧ Same H G ∧ G C1 = some (.lst (ms.map V.int)) ∧ ms.length ≤ 1000, ?_, ?_⟩
    · refine ⟨_, rfl, _, rfl, i, rfl, _, rfl, _, _, rfl, rfl, _, rfl, a, _, rfl, hs, fun p np => ?_⟩
      obtain ⟨ms, em, lm⟩ := cut_ints ns (some i) (some (i + 60))
      have hp : upd H p (.lst (cutV (ns.map V.int) (some i) (some (i + 60)))) p = some (.lst (ms.map V.int)) := by rw [upd_same, em]
      have s1 := Same.new np (o := .lst (cutV (ns.map V.int) (some i) (some (i + 60))))
      refine ⟨p, rfl, ⟨_, SqL.of hp⟩, fun D nD => lc_list (xs := ms.map V.int) (fun j G => ∃ acc : List Int, Same H G ∧ G p = some (.lst (ms.map V.int)) ∧ G D = some (.lst (acc.map V.int)) ∧ acc.length = j) ⟨[], s1.trans (Same.new nD), Same.new nD _ _ hp, upd_same, rfl⟩ (fun j G _ q => SqL.of (by obtain ⟨acc, _, q, _⟩ := q; exact q)) ?_ ?_⟩
      · rintro j x G hx ⟨acc, sG, hp', hD, hl⟩
        obtain ⟨z, rfl⟩ : ∃ z, x = V.int z := by
          rw [List.getElem?_map] at hx
          cases q : ms[j]? with
          | none => rw [q] at hx; cases hx
          | some z => rw [q] at hx; exact ⟨z, (Option.some.inj hx).symm⟩
        have hj : j < ms.length := by
          have := (List.getElem?_eq_some_iff.mp hx).1
          rw [List.length_map] at this
          exact this
        have nDp : D ≠ p := fun z => by
          rw [z] at nD
          rw [hp] at nD
          cases nD
        refine ⟨rfl, _, rfl, .inl ⟨_, rfl, _, rfl, _, hD, ?_, acc ++ [if z < 0 then -z else z], fun c u e => ?_, ?_, ?_, ?_⟩⟩
        · rw [List.length_map, hl]
          exact small1000 (by omega)
        · rw [upd_ne (ne_of_none (s1 _ _ e) nD)]
          exact sG _ _ e
        · rw [upd_ne (Ne.symm nDp)]
          exact hp'
        · rw [upd_same, List.map_append]
          rfl
        · rw [List.length_append, hl]
          rfl
      · rintro G ⟨acc, sG, hp', hD, hl⟩
        rw [List.length_map] at hl
        exact ⟨_, _, D, acc, rfl, sG, hD, by omega⟩
    · rintro σ G ⟨x2, x4, C1, ms, rfl, sG, hC, hl⟩
      refine ⟨_, rfl, _, _, rfl, rfl, .inl ⟨by decide, by decide⟩, _, _, rfl, rfl, ?_⟩
      refine ⟨fun σ G' => ∃ (x2 : Option V) (m : Int), σ = [some (.ref a), some (.int i), x2, some (.ref C1), some (.int m)] ∧ G' = G, ?_, ?_⟩
      · refine ⟨_, rfl, C1, rfl, ⟨_, SqL.of hC⟩, for_list (xs := ms.map V.int) (fun j σ G' => ∃ (x2 : Option V) (m : Int), σ = [some (.ref a), some (.int i), x2, some (.ref C1), some (.int m)] ∧ G' = G) ⟨_, _, rfl, rfl⟩ (fun j σ G' _ q => SqL.of (by obtain ⟨_, _, _, q⟩ := q; rw [q]; exact hC)) ?_ (fun σ G' q => q)⟩
        rintro j x σ G' hx ⟨x2, m, rfl, rfl⟩
        obtain ⟨z, rfl⟩ : ∃ z, x = V.int z := by
          rw [List.getElem?_map] at hx
          cases q : ms[j]? with
          | none => rw [q] at hx; cases hx
          | some z => rw [q] at hx; exact ⟨z, (Option.some.inj hx).symm⟩
        exact ⟨_, rfl, _, _, rfl, rfl, .inr ⟨by decide, by decide⟩, .inl ⟨_, rfl, _, rfl, .inl ⟨_, rfl, _, _, rfl, rfl, (by show (0 : Int) < 2147483587; decide), _, _, rfl, rfl, _, _, rfl, rfl, .inl ⟨_, rfl, _, _, rfl, rfl, (by show (0 : Int) < 2147483647; decide), _, _, rfl, rfl⟩⟩⟩⟩
      · rintro σ G' ⟨x2, m, rfl, rfl⟩
        refine fun p np => ⟨_, rfl, C1, rfl, ⟨_, SqL.of (Same.new np _ _ hC)⟩, fun D nD => lc_list (xs := ms.map V.int) (fun j H' => ∃ acc : List Int, Same G' H' ∧ H' C1 = some (.lst (ms.map V.int)) ∧ H' p = some (.dK []) ∧ H' D = some (.lst (acc.map V.int)) ∧ acc.length ≤ j)
          ⟨[], (Same.new np).trans (Same.new nD), Same.new nD _ _ (Same.new np _ _ hC), Same.new nD _ _ upd_same, upd_same, Nat.le_refl _⟩ (fun j G _ q => SqL.of (by obtain ⟨acc, _, q, _⟩ := q; exact q)) ?_ ?_⟩
        · rintro j x H' hx ⟨acc, sH, hC', hp', hD, hl'⟩
          obtain ⟨z, rfl⟩ : ∃ z, x = V.int z := by
            rw [List.getElem?_map] at hx
            cases q : ms[j]? with
            | none => rw [q] at hx; cases hx
            | some z => rw [q] at hx; exact ⟨z, (Option.some.inj hx).symm⟩
          have hj : j < ms.length := by
            have := (List.getElem?_eq_some_iff.mp hx).1
            rw [List.length_map] at this
            exact this
          have nDC : C1 ≠ D := ne_of_none (Same.new np _ _ hC) nD
          have nDp : p ≠ D := ne_of_none (upd_same (H := G') (a := p) (o := .dK [])) nD
          refine ⟨rfl, _, rfl, _, _, rfl, rfl, ⟨by decide, by decide, by decide⟩, _, _, rfl, rfl, _, rfl, ?_⟩
          refine ite2 (fun _ => ?_) (fun _ => ⟨acc, sH, hC', hp', hD, by omega⟩)
          refine ⟨_, rfl, _, hD, ?_, acc ++ [z], fun c u e => ?_, ?_, ?_, ?_, ?_⟩
          · rw [List.length_map]
            exact small1000 (by omega)
          · rw [upd_ne (ne_of_none ((Same.new np) _ _ e) nD)]
            exact sH _ _ e
          · rw [upd_ne nDC]
            exact hC'
          · rw [upd_ne nDp]
            exact hp'
          · rw [upd_same, List.map_append]
            rfl
          · rw [List.length_append]
            show acc.length + 1 ≤ j + 1
            omega
        · rintro H' ⟨acc, sH, hC', hp', hD, hl'⟩
          rw [List.length_map] at hl'
          refine ⟨D, _, rfl, SqL.of hD, fun gr ng => ⟨_, rfl, Same.new ng _ _ hp', [(.inr "great", .ref gr), (.inr "mixed", .int m)], rfl, (by show 2 ≤ 15; decide), ?_⟩⟩
          rw [merge_box]
          have ngp : gr ≠ p := (ne_of_none hp' ng).symm
          refine k p gr _ (fun c u e => ?_) (sG.free np) (((sG.trans sH)).free ng) ⟨⟨m, upd_same⟩, acc.reverse, ?_, ?_⟩
          · have e1 := sG _ _ e
            rw [upd_ne (ne_of_none e1 np)]
            exact Same.new ng _ _ (sH _ _ e1)
          · rw [upd_ne ngp, upd_same, List.map_reverse]
          · rw [List.length_reverse]
            omega
end
end Lay
set_option Elab.async false
set_option linter.all false
set_option maxRecDepth 100000
set_option maxHeartbeats 4000000
namespace Lay
open PySem L2
/-- the names of the module that must be Python's own -/
structure TxtK (mg : Str → Option Value) : Prop where
  str : mg "str" = none
  list : mg "list" = none
  tuple : mg "tuple" = none
  isinstance : mg "isinstance" = none
  len : mg "len" = none
  all : mg "all" = none
theorem TyOf.same {K : PySem.W.Frag} {H H' : Hp} {x : V} {t : Value} (s : Same H H') (h : TyOf K H x t) : TyOf K H' x t := by
  cases h with
  | non => exact .non
  | bl b => exact .bl b
  | int i => exact .int i
  | str z => exact .str z
  | flt z => exact .flt z
  | lst e => exact .lst (s _ _ e)
  | frz e => exact .frz (s _ _ e)
  | tup e => exact .tup (s _ _ e)
  | dK e => exact .dK (s _ _ e)
  | dT e => exact .dT (s _ _ e)
  | ins e cl ha hn htk hm => exact .ins (s _ _ e) cl ha hn htk hm
theorem TyX.same {K : PySem.W.Frag} {H H' : Hp} {x : V} {t : Value} (s : Same H H') (h : TyX K H x t) : TyX K H' x t := by
  cases h with
  | base h => exact .base (TyOf.same s h)
  | byt b => exact .byt b
  | set e => exact .set (s _ _ e)
  | kList e c => exact .kList e c
  | kTuple e c => exact .kTuple e c
  | kDict e c => exact .kDict e c
  | fTuple e => exact .fTuple (s _ _ e)
  | fDict e => exact .fDict (s _ _ e)
/-- isinstance of the built-in class n -/
def IsT (K : PySem.W.Frag) (H : Hp) (x : V) (n : String) (b : Bool) : Prop := ∃ t, TyX K H x t ∧ PySem.W.kitOne K t (.type n) = some b
theorem IsT.same {K : PySem.W.Frag} {H H' : Hp} {x : V} {n : String} {b : Bool} (s : Same H H') (h : IsT K H x n b) : IsT K H' x n b := by
  obtain ⟨t, h1, h2⟩ := h
  exact ⟨t, TyX.same s h1, h2⟩
theorem isT_str {K : PySem.W.Frag} {H : Hp} {z : Str} : IsT K H (.str z) "str" true := ⟨_, .base (.str z), kit_ty (by decide +kernel)⟩
/-- is it a list or a tuple -/
def IsSeq (K : PySem.W.Frag) (H : Hp) (x : V) (b : Bool) : Prop := ∃ t, TyX K H x t ∧ PySem.W.kitAny K t [.type "list", .type "tuple"] = some b
theorem IsSeq.same {K : PySem.W.Frag} {H H' : Hp} {x : V} {b : Bool} (s : Same H H') (h : IsSeq K H x b) : IsSeq K H' x b := by
  obtain ⟨t, h1, h2⟩ := h
  exact ⟨t, TyX.same s h1, h2⟩
theorem kitAny_lt {K : PySem.W.Frag} {t : Value} {b c : Bool} (h1 : PySem.W.kitOne K t (.type "list") = some b) (h2 : PySem.W.kitOne K t (.type "tuple") = some c) : PySem.W.kitAny K t [.type "list", .type "tuple"] = some (b || c) := by
  refine kitAny_cons h1 (fun hb => ?_) (fun hb => by rw [hb]; rfl)
  subst hb
  exact kitAny_cons h2 (fun hc => by subst hc; exact kitAny_nil) (fun hc => by rw [hc]; rfl)
/-- what is a list or a tuple of xs -/
def SqX (H : Hp) (a : Addr) (xs : List V) : Prop := H a = some (.lst xs) ∨ H a = some (.tup xs)
theorem SqX.same {H H' : Hp} {a : Addr} {xs : List V} (s : Same H H') (h : SqX H a xs) : SqX H' a xs := h.imp (s _ _) (s _ _)
theorem SqX.seq {K : PySem.W.Frag} {H : Hp} {a : Addr} {xs : List V} (h : SqX H a xs) : IsSeq K H (.ref a) true := by
  rcases h with h | h
  · exact ⟨_, .base (.lst h), kitAny_lt (b := true) (c := false) (kit_ty (by decide +kernel)) (kit_ty (by decide +kernel))⟩
  · exact ⟨_, .base (.tup h), kitAny_lt (b := false) (c := true) (kit_ty (by decide +kernel)) (kit_ty (by decide +kernel))⟩
/-! ### words -/
def testL : List Str := ["broken", "marked", "left", "ahead", "behind", "blank", "long", "first", "afterbroken", "afterbehind"]
def deedL : List Str := ["break", "join", "mark", "unmark", "lift", "lower", "space", "close"]
def progT (z : Str) : Bool := inV (.str (Txt.removeprefix z "not ")) (testL.map V.str)
def progD (z : Str) : Bool := inV (.str z) (deedL.map V.str)
theorem flat_strs (zs : List Str) : (zs.map V.str).all flatV = true := by
  induction zs with
  | nil => rfl
  | cons z zs ih => exact (Bool.and_eq_true_iff.mpr ⟨rfl, ih⟩)
/-- what one thing's test answers: f of a text, no otherwise -/
def ItB (f : Str → Bool) (K : PySem.W.Frag) (H : Hp) (x : V) (b : Bool) : Prop := (∃ z, x = .str z ∧ z.length ≤ 1000 ∧ b = f z) ∨ (b = false ∧ IsT K H x "str" false)
theorem ItB.same {f : Str → Bool} {K : PySem.W.Frag} {H H' : Hp} {x : V} {b : Bool} (s : Same H H') (h : ItB f K H x b) : ItB f K H' x b := h.imp id fun ⟨e, t⟩ => ⟨e, t.same s⟩
def ItBs (f : Str → Bool) (K : PySem.W.Frag) (H : Hp) (xs : List V) (bs : List Bool) : Prop := bs.length = xs.length ∧ ∀ (i : Nat) (x : V) (b : Bool), xs[i]? = some x → bs[i]? = some b → ItB f K H x b
theorem ItBs.same {f : Str → Bool} {K : PySem.W.Frag} {H H' : Hp} {xs : List V} {bs : List Bool} (s : Same H H') (h : ItBs f K H xs bs) : ItBs f K H' xs bs := ⟨h.1, fun i x b h1 h2 => (h.2 i x b h1 h2).same s⟩
/-- what is said of a value: r, where more is what must hold of a sequence besides -/
def AnsV (f : Str → Bool) (more : List V → Bool) (K : PySem.W.Frag) (H : Hp) (x : V) (r : Bool) : Prop := (IsSeq K H x false ∧ r = false) ∨ ∃ a xs bs, x = .ref a ∧ SqX H a xs ∧ xs.length ≤ 1000 ∧ ItBs f K H xs bs ∧ r = (more xs && bs.all id)
theorem AnsV.same {f : Str → Bool} {more : List V → Bool} {K : PySem.W.Frag} {H H' : Hp} {x : V} {r : Bool} (s : Same H H') (h : AnsV f more K H x r) : AnsV f more K H' x r := by
  rcases h with ⟨h, e⟩ | ⟨a, xs, bs, e, h1, h2, h3, h4⟩
  · exact .inl ⟨h.same s, e⟩
  · exact .inr ⟨a, xs, bs, e, h1.same s, h2, h3.same s, h4⟩
def yes (_ : List V) : Bool := true
def full (xs : List V) : Bool := decide (0 < xs.length)
def spSeq (K : PySem.W.Frag) : Sp := fun vs H Q _ => ∃ x b, vs = [x] ∧ IsSeq K H x b ∧ ∀ H', Same H H' → Q (.bl b) H'
def spOne (f : Str → Bool) (K : PySem.W.Frag) : Sp := fun vs H Q _ => ∃ x b, vs = [x] ∧ ItB f K H x b ∧ Q (.bl b) H
def spAre (f : Str → Bool) (more : List V → Bool) (K : PySem.W.Frag) : Sp := fun vs H Q _ => ∃ x r, vs = [x] ∧ AnsV f more K H x r ∧ ∀ H', Same H H' → Q (.bl r) H'
abbrev sSeq : Stmt := top 9
abbrev sTest : Stmt := top 13
abbrev sDeed : Stmt := top 14
abbrev sAreT : Stmt := top 15
abbrev sAreD : Stmt := top 16
section
variable {P : Program} {w : World} {K : PySem.W.Frag} {mg : Str → Option Value} {base : Heap}
theorem scSeq : FnScope ["value"] ["value"] (defScope sSeq) := ⟨rfl, rfl, rfl, by decide +kernel, rfl, by decide +kernel, by decide +kernel⟩
theorem ok_seq {f : Addr} {fd : FuncData} (F : Fun K "is_sequence" "is_sequence" sSeq f fd) (T : TxtK mg) : FnOk P w K mg base CX0 1 f fd ["value"] (spSeq K) := by
  refine F.ok scSeq (fun vs H Q E h => ?_) (fun cdv A outer s H vs Q E hr h => ?_)
  · obtain ⟨x, b, rfl, _⟩ := h
    rfl
  · obtain ⟨x, b, rfl, ⟨t, ty, e⟩, k⟩ := h
    refine ⟨_, (pss_one (ps_ret (pe_callB call_isiT (by rfl) T.isinstance (by decide +kernel) (pa_cons (pv 0) (pa_cons (pe_tup (pa_cons (pe_bltn (v := .ty "list") (by rfl) T.list (by decide +kernel) rfl) (pa_cons (pe_bltn (v := .ty "tuple") (by rfl) T.tuple (by decide +kernel) rfl) pa_nil))) pa_nil))))), ?_⟩
    refine ⟨_, rfl, (by show 2 ≤ sizeLine; decide), fun p hp => ?_⟩
    exact ⟨x, p, _, t, _, b, rfl, upd_same, .cons (.ty _) (.cons (.ty _) .nil), TyX.same (Same.new hp) ty, e, k _ (Same.new hp)⟩
theorem scTest : FnScope ["value"] ["value"] (defScope sTest) := ⟨rfl, rfl, rfl, by decide +kernel, rfl, by decide +kernel, by decide +kernel⟩
theorem ok_test {f tT : Addr} {fd : FuncData} (F : Fun K "is_test" "is_test" sTest f fd) (T : TxtK mg) (gT : mg "TESTS" = some (.ref tT)) (hT : ∀ H : Hp, SqT K H tT (testL.map V.str)) : FnOk P w K mg base CX0 1 f fd ["value"] (spOne progT K) := by
  refine F.ok scTest (fun vs H Q E h => ?_) (fun cdv A outer s H vs Q E hr h => ?_)
  · obtain ⟨x, b, rfl, _⟩ := h
    rfl
  · obtain ⟨x, b, rfl, h, k⟩ := h
    refine ⟨_, (pss_one (ps_ret (pe_and (pe_callB call_isi (by rfl) T.isinstance (by decide +kernel) (pa_cons (pv 0) (pa_cons (pe_bltn (v := .ty "str") (by rfl) T.str (by decide +kernel) rfl) pa_nil)))
      (pe_one (pe_cmpR op_in_seq (pe_bm PySem.F.plainAttrs_str PySem.F.slot_str_removeprefix PySem.F.type_str_removeprefix mt_removeprefix (pv 0) (pa_cons pe_str pa_nil)) (pe_glob (v := .ref tT) (by rfl) gT rfl) (by rfl)))))), ?_⟩
    rcases h with ⟨z, rfl, hz, rfl⟩ | ⟨rfl, t, ty, e⟩
    · obtain ⟨t, ty, e⟩ := isT_str (K := K) (H := H) (z := z)
      refine ⟨_, rfl, _, _, _, _, _, rfl, .ty _, ty, e, _, rfl, ?_⟩
      exact iteY rfl ⟨_, rfl, rfl, z, "not ", rfl, rfl, fits hz, tT, _, rfl, .inr (hT _), rfl, flat_strs _, k⟩
    · exact ⟨_, rfl, _, _, _, _, _, rfl, .ty _, ty, e, _, rfl, iteN rfl k⟩
theorem scDeed : FnScope ["value"] ["value"] (defScope sDeed) := ⟨rfl, rfl, rfl, by decide +kernel, rfl, by decide +kernel, by decide +kernel⟩
theorem ok_deed {f tD : Addr} {fd : FuncData} (F : Fun K "is_deed" "is_deed" sDeed f fd) (T : TxtK mg) (gT : mg "DEEDS" = some (.ref tD)) (hT : ∀ H : Hp, SqT K H tD (deedL.map V.str)) : FnOk P w K mg base CX0 1 f fd ["value"] (spOne progD K) := by
  refine F.ok scDeed (fun vs H Q E h => ?_) (fun cdv A outer s H vs Q E hr h => ?_)
  · obtain ⟨x, b, rfl, _⟩ := h
    rfl
  · obtain ⟨x, b, rfl, h, k⟩ := h
    refine ⟨_, (pss_one (ps_ret (pe_and (pe_callB call_isi (by rfl) T.isinstance (by decide +kernel) (pa_cons (pv 0) (pa_cons (pe_bltn (v := .ty "str") (by rfl) T.str (by decide +kernel) rfl) pa_nil)))
      (pe_one (pe_cmpR op_in_seq (pv 0) (pe_glob (v := .ref tD) (by rfl) gT rfl) (by rfl)))))), ?_⟩
    rcases h with ⟨z, rfl, hz, rfl⟩ | ⟨rfl, t, ty, e⟩
    · obtain ⟨t, ty, e⟩ := isT_str (K := K) (H := H) (z := z)
      refine ⟨_, rfl, _, _, _, _, _, rfl, .ty _, ty, e, _, rfl, ?_⟩
      exact iteY rfl ⟨_, rfl, tD, _, rfl, .inr (hT _), rfl, flat_strs _, k⟩
    · exact ⟨_, rfl, _, _, _, _, _, rfl, .ty _, ty, e, _, rfl, iteN rfl k⟩
theorem scAreT : FnScope ["value", "one"] ["value"] (defScope sAreT) := ⟨rfl, rfl, rfl, by decide +kernel, rfl, by decide +kernel, by decide +kernel⟩
theorem ok_areT {f fS fO : Addr} {fd fdS fdO : FuncData} (F : Fun K "are_tests" "are_tests" sAreT f fd) (T : TxtK mg) (GS : FnOk P w K mg base CX0 1 fS fdS ["value"] (spSeq K)) (gS : mg "is_sequence" = some (.ref fS)) (kS : PySem.W.keepIn K (.ref fS) = true) (bS : Binds K fdS ["value"] [])
    (GO : FnOk P w K mg base CX0 1 fO fdO ["value"] (spOne progT K)) (gO : mg "is_test" = some (.ref fO)) (kO : PySem.W.keepIn K (.ref fO) = true) (bO : Binds K fdO ["value"] []) : FnOk P w K mg base CX0 2 f fd ["value"] (spAre progT yes K) := by
  refine F.ok scAreT (fun vs H Q E h => ?_) (fun cdv A outer s H vs Q E hr h => ?_)
  · obtain ⟨x, r, rfl, _⟩ := h
    rfl
  · obtain ⟨x, r, rfl, h, k⟩ := h
    rcases h with ⟨h, rfl⟩ | ⟨a, xs, bs, rfl, hx, hl, hb, rfl⟩
    · refine ⟨_, (pss_one (ps_ret (pe_and (pe_call GS hr (by rfl) gS kS bS .nil pass0 (pa_cons (pv 0) pa_nil)) (pe_one (pe_callB (cr_all rfl) (by rfl) T.all (by decide +kernel) (pa_cons
            (pe_lc (own := [("one", 1)]) (g := gName 1) (tt := tYes) (by rfl) scAreT.nd (pi_list (pv 0)) (blkOk_by (N := ["value", "one"]) (sc := defScope sAreT) (by decide +kernel)) (fun _ _ _ _ _ => pg_name (i := 1) scAreT.nd rfl (Or.inl rfl)) (fun _ _ _ _ _ => pts_nil) (fun _ _ _ _ _ => pe_call GO hr (by rfl) gO kO bO .nil pass0 (pa_cons (pv 1) pa_nil))) pa_nil)))))), ?_⟩
      exact ⟨_, rfl, _, false, rfl, h, fun H' s => ⟨_, rfl, iteN rfl (k H' s)⟩⟩
    · have lb : bs.length ≤ 1000 := by rw [hb.1]; exact hl
      rcases hx with hx | hx
      · refine ⟨_, (pss_one (ps_ret (pe_and (pe_call GS hr (by rfl) gS kS bS .nil pass0 (pa_cons (pv 0) pa_nil)) (pe_one (pe_callB (cr_all rfl) (by rfl) T.all (by decide +kernel) (pa_cons
            (pe_lc (own := [("one", 1)]) (g := gName 1) (tt := tYes) (by rfl) scAreT.nd (pi_list (pv 0)) (blkOk_by (N := ["value", "one"]) (sc := defScope sAreT) (by decide +kernel)) (fun _ _ _ _ _ => pg_name (i := 1) scAreT.nd rfl (Or.inl rfl)) (fun _ _ _ _ _ => pts_nil) (fun _ _ _ _ _ => pe_call GO hr (by rfl) gO kO bO .nil pass0 (pa_cons (pv 1) pa_nil))) pa_nil)))))), ?_⟩
        refine ⟨_, rfl, _, true, rfl, SqX.seq (.inl hx), fun H1 s1 => ⟨_, rfl, ?_⟩⟩
        refine iteY rfl ?_
        refine ⟨_, rfl, a, rfl, ⟨_, SqL.of (s1 _ _ hx)⟩, fun D nD => lc_list (K := K) (a := a) (xs := xs) (fun i G => Same H1 G ∧ G D = some (.lst ((bs.take i).map V.bl))) ⟨Same.new nD, upd_same⟩ (fun i G _ q => SqL.of (q.1 _ _ (s1 _ _ hx))) ?_ ?_⟩
        · rintro i x G hi ⟨sG, hD⟩
          have li := (List.getElem?_eq_some_iff.mp hi).1
          rw [← hb.1] at li
          have eb : bs[i]? = some bs[i] := by simp [li]
          refine ⟨rfl, _, rfl, x, bs[i], rfl, (hb.2 i x _ hi eb).same (s1.trans sG), _, hD, ?_, fun c u e => by rw [upd_ne (ne_of_none e nD)]; exact sG _ _ e, ?_⟩
          · rw [List.length_map, List.length_take]
            exact small1000 (by omega)
          · rw [upd_same, List.take_succ, eb, List.map_append]
            rfl
        · rintro G ⟨sG, hD⟩
          rw [← hb.1, List.take_length] at hD
          exact ⟨D, bs, rfl, SqL.of hD, k G (s1.trans sG)⟩
      · refine ⟨_, (pss_one (ps_ret (pe_and (pe_call GS hr (by rfl) gS kS bS .nil pass0 (pa_cons (pv 0) pa_nil)) (pe_one (pe_callB (cr_all rfl) (by rfl) T.all (by decide +kernel) (pa_cons
            (pe_lc (own := [("one", 1)]) (g := gName 1) (tt := tYes) (by rfl) scAreT.nd (pi_tup (pv 0)) (blkOk_by (N := ["value", "one"]) (sc := defScope sAreT) (by decide +kernel)) (fun _ _ _ _ _ => pg_name (i := 1) scAreT.nd rfl (Or.inl rfl)) (fun _ _ _ _ _ => pts_nil) (fun _ _ _ _ _ => pe_call GO hr (by rfl) gO kO bO .nil pass0 (pa_cons (pv 1) pa_nil))) pa_nil)))))), ?_⟩
        refine ⟨_, rfl, _, true, rfl, SqX.seq (.inr hx), fun H1 s1 => ⟨_, rfl, ?_⟩⟩
        refine iteY rfl ?_
        refine ⟨_, rfl, a, rfl, ⟨_, SqT.of (s1 _ _ hx)⟩, fun D nD => lc_tup (K := K) (a := a) (xs := xs) (fun i G => Same H1 G ∧ G D = some (.lst ((bs.take i).map V.bl))) ⟨Same.new nD, upd_same⟩ (fun i G _ q => SqT.of (q.1 _ _ (s1 _ _ hx))) ?_ ?_⟩
        · rintro i x G hi ⟨sG, hD⟩
          have li := (List.getElem?_eq_some_iff.mp hi).1
          rw [← hb.1] at li
          have eb : bs[i]? = some bs[i] := by simp [li]
          refine ⟨rfl, _, rfl, x, bs[i], rfl, (hb.2 i x _ hi eb).same (s1.trans sG), _, hD, ?_, fun c u e => by rw [upd_ne (ne_of_none e nD)]; exact sG _ _ e, ?_⟩
          · rw [List.length_map, List.length_take]
            exact small1000 (by omega)
          · rw [upd_same, List.take_succ, eb, List.map_append]
            rfl
        · rintro G ⟨sG, hD⟩
          rw [← hb.1, List.take_length] at hD
          exact ⟨D, bs, rfl, SqL.of hD, k G (s1.trans sG)⟩
theorem scAreD : FnScope ["value", "one"] ["value"] (defScope sAreD) := ⟨rfl, rfl, rfl, by decide +kernel, rfl, by decide +kernel, by decide +kernel⟩
theorem ok_areD {f fS fO : Addr} {fd fdS fdO : FuncData} (F : Fun K "are_deeds" "are_deeds" sAreD f fd) (T : TxtK mg) (GS : FnOk P w K mg base CX0 1 fS fdS ["value"] (spSeq K)) (gS : mg "is_sequence" = some (.ref fS)) (kS : PySem.W.keepIn K (.ref fS) = true) (bS : Binds K fdS ["value"] [])
    (GO : FnOk P w K mg base CX0 1 fO fdO ["value"] (spOne progD K)) (gO : mg "is_deed" = some (.ref fO)) (kO : PySem.W.keepIn K (.ref fO) = true) (bO : Binds K fdO ["value"] []) : FnOk P w K mg base CX0 2 f fd ["value"] (spAre progD full K) := by
  refine F.ok scAreD (fun vs H Q E h => ?_) (fun cdv A outer s H vs Q E hr h => ?_)
  · obtain ⟨x, r, rfl, _⟩ := h
    rfl
  · obtain ⟨x, r, rfl, h, k⟩ := h
    rcases h with ⟨h, rfl⟩ | ⟨a, xs, bs, rfl, hx, hl, hb, rfl⟩
    · refine ⟨_, (pss_one (ps_ret (pe_and (pe_call GS hr (by rfl) gS kS bS .nil pass0 (pa_cons (pv 0) pa_nil)) (pe_and (pe_cmpR op_gt (pe_callB call_len_seq (by rfl) T.len PySem.boot_len (pa_cons (pv 0) pa_nil)) pe_int (nomark _)) (pe_one (pe_callB (cr_all rfl) (by rfl) T.all (by decide +kernel) (pa_cons
            (pe_lc (own := [("one", 1)]) (g := gName 1) (tt := tYes) (by rfl) scAreD.nd (pi_list (pv 0)) (blkOk_by (N := ["value", "one"]) (sc := defScope sAreD) (by decide +kernel)) (fun _ _ _ _ _ => pg_name (i := 1) scAreD.nd rfl (Or.inl rfl)) (fun _ _ _ _ _ => pts_nil) (fun _ _ _ _ _ => pe_call GO hr (by rfl) gO kO bO .nil pass0 (pa_cons (pv 1) pa_nil))) pa_nil))))))), ?_⟩
      exact ⟨_, rfl, _, false, rfl, h, fun H' s => ⟨_, rfl, iteN rfl (k H' s)⟩⟩
    · have lb : bs.length ≤ 1000 := by rw [hb.1]; exact hl
      rcases hx with hx | hx
      · refine ⟨_, (pss_one (ps_ret (pe_and (pe_call GS hr (by rfl) gS kS bS .nil pass0 (pa_cons (pv 0) pa_nil)) (pe_and (pe_cmpR op_gt (pe_callB call_len_seq (by rfl) T.len PySem.boot_len (pa_cons (pv 0) pa_nil)) pe_int (nomark _)) (pe_one (pe_callB (cr_all rfl) (by rfl) T.all (by decide +kernel) (pa_cons
            (pe_lc (own := [("one", 1)]) (g := gName 1) (tt := tYes) (by rfl) scAreD.nd (pi_list (pv 0)) (blkOk_by (N := ["value", "one"]) (sc := defScope sAreD) (by decide +kernel)) (fun _ _ _ _ _ => pg_name (i := 1) scAreD.nd rfl (Or.inl rfl)) (fun _ _ _ _ _ => pts_nil) (fun _ _ _ _ _ => pe_call GO hr (by rfl) gO kO bO .nil pass0 (pa_cons (pv 1) pa_nil))) pa_nil))))))), ?_⟩
        refine ⟨_, rfl, _, true, rfl, SqX.seq (.inl hx), fun H1 s1 => ⟨_, rfl, ?_⟩⟩
        refine iteY rfl ?_
        refine ⟨_, rfl, a, xs, rfl, .inl (SqL.of (s1 _ _ hx)), _, _, rfl, rfl, _, rfl, ?_⟩
        have e0 : decide (((xs.length : Nat) : Int) > 0) = full xs := by
          unfold full
          by_cases q : 0 < xs.length
          · rw [decide_eq_true q, decide_eq_true (by omega)]
          · rw [decide_eq_false q, decide_eq_false (by omega)]
        refine ite2 (fun h1 => ?_) (fun h1 => ?_)
        · have h2 : full xs = true := by rw [← e0]; exact h1
          rw [h2] at k
          refine ⟨_, rfl, a, rfl, ⟨_, SqL.of (s1 _ _ hx)⟩, fun D nD => lc_list (K := K) (a := a) (xs := xs) (fun i G => Same H1 G ∧ G D = some (.lst ((bs.take i).map V.bl))) ⟨Same.new nD, upd_same⟩ (fun i G _ q => SqL.of (q.1 _ _ (s1 _ _ hx))) ?_ ?_⟩
          · rintro i x G hi ⟨sG, hD⟩
            have li := (List.getElem?_eq_some_iff.mp hi).1
            rw [← hb.1] at li
            have eb : bs[i]? = some bs[i] := by simp [li]
            refine ⟨rfl, _, rfl, x, bs[i], rfl, (hb.2 i x _ hi eb).same (s1.trans sG), _, hD, ?_, fun c u e => by rw [upd_ne (ne_of_none e nD)]; exact sG _ _ e, ?_⟩
            · rw [List.length_map, List.length_take]
              exact small1000 (by omega)
            · rw [upd_same, List.take_succ, eb, List.map_append]
              rfl
          · rintro G ⟨sG, hD⟩
            rw [← hb.1, List.take_length] at hD
            exact ⟨D, bs, rfl, SqL.of hD, k G (s1.trans sG)⟩
        · have h2 : full xs = false := by rw [← e0]; simpa using h1
          rw [h2] at k
          exact k H1 s1
      · refine ⟨_, (pss_one (ps_ret (pe_and (pe_call GS hr (by rfl) gS kS bS .nil pass0 (pa_cons (pv 0) pa_nil)) (pe_and (pe_cmpR op_gt (pe_callB call_len_seq (by rfl) T.len PySem.boot_len (pa_cons (pv 0) pa_nil)) pe_int (nomark _)) (pe_one (pe_callB (cr_all rfl) (by rfl) T.all (by decide +kernel) (pa_cons
            (pe_lc (own := [("one", 1)]) (g := gName 1) (tt := tYes) (by rfl) scAreD.nd (pi_tup (pv 0)) (blkOk_by (N := ["value", "one"]) (sc := defScope sAreD) (by decide +kernel)) (fun _ _ _ _ _ => pg_name (i := 1) scAreD.nd rfl (Or.inl rfl)) (fun _ _ _ _ _ => pts_nil) (fun _ _ _ _ _ => pe_call GO hr (by rfl) gO kO bO .nil pass0 (pa_cons (pv 1) pa_nil))) pa_nil))))))), ?_⟩
        refine ⟨_, rfl, _, true, rfl, SqX.seq (.inr hx), fun H1 s1 => ⟨_, rfl, ?_⟩⟩
        refine iteY rfl ?_
        refine ⟨_, rfl, a, xs, rfl, .inr (SqT.of (s1 _ _ hx)), _, _, rfl, rfl, _, rfl, ?_⟩
        have e0 : decide (((xs.length : Nat) : Int) > 0) = full xs := by
          unfold full
          by_cases q : 0 < xs.length
          · rw [decide_eq_true q, decide_eq_true (by omega)]
          · rw [decide_eq_false q, decide_eq_false (by omega)]
        refine ite2 (fun h1 => ?_) (fun h1 => ?_)
        · have h2 : full xs = true := by rw [← e0]; exact h1
          rw [h2] at k
          refine ⟨_, rfl, a, rfl, ⟨_, SqT.of (s1 _ _ hx)⟩, fun D nD => lc_tup (K := K) (a := a) (xs := xs) (fun i G => Same H1 G ∧ G D = some (.lst ((bs.take i).map V.bl))) ⟨Same.new nD, upd_same⟩ (fun i G _ q => SqT.of (q.1 _ _ (s1 _ _ hx))) ?_ ?_⟩
          · rintro i x G hi ⟨sG, hD⟩
            have li := (List.getElem?_eq_some_iff.mp hi).1
            rw [← hb.1] at li
            have eb : bs[i]? = some bs[i] := by simp [li]
            refine ⟨rfl, _, rfl, x, bs[i], rfl, (hb.2 i x _ hi eb).same (s1.trans sG), _, hD, ?_, fun c u e => by rw [upd_ne (ne_of_none e nD)]; exact sG _ _ e, ?_⟩
            · rw [List.length_map, List.length_take]
              exact small1000 (by omega)
            · rw [upd_same, List.take_succ, eb, List.map_append]
              rfl
          · rintro G ⟨sG, hD⟩
            rw [← hb.1, List.take_length] at hD
            exact ⟨D, bs, rfl, SqL.of hD, k G (s1.trans sG)⟩
        · have h2 : full xs = false := by rw [← e0]; simpa using h1
          rw [h2] at k
          exact k H1 s1
end
end Lay
set_option Elab.async false
set_option linter.all false
set_option maxRecDepth 100000
set_option maxHeartbeats 4000000
namespace Lay
open PySem PySem.Spec PyProof.Rows L2
/-! C(e, ..) where what is let out depends on the slots; isinstance of an exception that the suite holds, with a dict. -/
section
variable {X : Cx} {CX : CXT} {k : Nat} {f C : Addr} {fd : FuncData} {ps : List Str} {sp : Sp} {E : L2.St → XK} {x m : Str} {p pos : Pos} {e : Expr} {es : List Expr} {t : TA} {ds : List Value} {dvs : List V}
theorem run_makeS {pins : List (Addr × Obj)} {σ : L2.St} {H : Hp} {s : Shared} {Q : VK} {us : List Value} {vs : List V} (M : Mk X.K C f) (F : FnOk X.prog X.w X.K X.mg X.base CX k f fd ps sp) (hr : Room (k + 1) X.A) (hb : Binds X.K fd ps ds) (hd : Vals dvs ds)
    (hx : PassesAt CX X σ (E σ)) (I : Inv X pins σ H s) (r : Vals vs us)
    (h : ∀ x dx, H x = none → H dx = none → dx ≠ x → sp (.ref x :: (vs ++ dvs)) (upd (upd H dx (.own x)) x (.ins C dx [])) (fun v H2 => v = .non ∧ Q (.ref x) H2) (E σ)) :
    wpAny (model X.prog X.w) X.A (call (.ref C) us) (EP X pins σ Q) X.xe s := by
  have hq := h (s.heap.objs.size + 1) s.heap.objs.size (I.hok.fresh (Nat.le_succ _)) (I.hok.fresh (Nat.le_refl _)) (Nat.ne_of_lt (Nat.lt_succ_self _))
  have I2 := Inv.made (C := C) I
  have r2 : Vals (V.ref (s.heap.objs.size + 1) :: (vs ++ dvs)) (Value.ref (s.heap.objs.size + 1) :: (us ++ ds)) := .cons rfl (r.append hd)
  have hl : (Value.ref (s.heap.objs.size + 1) :: us ++ ds).length = ps.length := by
    have e := r2.length
    rw [F.len _ _ _ _ hq] at e
    exact e.symm
  refine wpAny_call (make_map (f := f) I.kIn M.makes M.init (beq_iff_eq.mp M.fn) (codeAny_mono (F.run _ X.stack _ _ ⟨Value.ref (s.heap.objs.size + 1) :: us, []⟩ (Value.ref (s.heap.objs.size + 1) :: (us ++ ds)) _ _ (E σ) (hr.make C us [])
    (I2.env0.make C us []) (hb _ (Value.ref (s.heap.objs.size + 1) :: us) I2.kIn hl) r2 hq) fun r s' hq' => ?_))
  cases r with
  | error e => exact hx pins _ _ e s' I2 hq'
  | ok fl =>
    cases fl with
    | ret u =>
      obtain ⟨v, H', I3, rv, ev, q3⟩ := I2.after hq'
      subst ev
      exact ⟨rv, ⟨V.ref (s.heap.objs.size + 1), H', I3, rfl, q3⟩⟩
    | next => exact False.elim hq'
    | brk => exact False.elim hq'
    | cont => exact False.elim hq'
def tMakeS (C : Addr) (sp : Sp) (dvs : List V) (E : L2.St → XK) (t : TA) : TE := fun σ H Q => t σ H fun vs H1 => ∀ x dx, H1 x = none → H1 dx = none → dx ≠ x → sp (.ref x :: (vs ++ dvs)) (upd (upd H1 dx (.own x)) x (.ins C dx [])) (fun v H2 => v = .non ∧ Q (.ref x) H2) (E σ)
theorem pe_makeS (M : Mk X.K C f) (F : FnOk X.prog X.w X.K X.mg X.base CX k f fd ps sp) (hr : Room (k + 1) X.A) (hg : Gl X x) (hm : X.mg x = some (.ref C)) (hb : Binds X.K fd ps ds) (hd : Vals dvs ds) (hx : ∀ σ, PassesAt CX X σ (E σ))
    (ha : PA X (e :: es) t) (hdb : (x == ("__debug__" : Str)) = false := by decide) (he : starEach (e :: es) X.env = (false, eval e X.env) :: starEach es X.env := by rfl) (hpl : (backTo pos (starEach es X.env)).any (·.1) = false := by rfl) :
    PE X (.Call (.Name x p) (e :: es) [] pos) (tMakeS C sp dvs E t) := by
  refine ⟨fun pins s σ H Q I h => ?_⟩
  refine wpAny_Call_Name_kw (ld_glob I hg hm ?_ hdb)
  refine PySem.W.callWith_K (h₀ := X.base) I.ok.mod.kin M.kp (thn (ha.run pos pins s σ H _ I h) fun us s1 ⟨vs, H1, I1, r, q⟩ => ⟨I1.kIn, ?_⟩) he hpl
  exact run_makeS M F hr hb hd (hx σ) I1 r q
/-- isinstance(e, c), e the exception that the suite holds, a dict with it -/
def rIsEX (K : PySem.W.Frag) (a : Addr) (cls : Value) (d : Option Addr) : List V → Hp → VK → Prop := fun xs H Q => ∃ (D dd : Addr) (fs : List (Str × V)) (c : V) (cv : Value) (b : Bool), xs = [.ref a, c] ∧ cls = .ref D ∧ d = some dd ∧ H dd = some (.xd fs) ∧ ExcC K D ∧ ClsV c cv ∧
  PySem.W.kitOne K (.ref D) cv = some b ∧ Q (.bl b) H
theorem call_isEX {a : Addr} {cls : Value} {d : Option Addr} {oe : Obj} {pn : List (Addr × Obj)} (hz : Zc cls d oe) (hf : ∃ vs, oe.data = .fields vs) : CallR (X.suite a ((a, oe) :: pn)) (.builtin "isinstance") (rIsEX X.K a cls d) := by
  intro pins s σ H xs us Q I r h
  obtain ⟨D, dd, fs, c, cv, b, rfl, ec, ed, hdd, C, k, e, q⟩ := h
  obtain ⟨u1, u2, rfl, r1, r2⟩ := vals2 r
  cases r1
  have e2 := k.eq r2
  subst e2 ec ed
  have hcl : (PySem.W.clsIn X.K D).isSome = true := by
    obtain ⟨cd, hc, _⟩ := PySem.W.any_some C.hd
    rw [hc]
    rfl
  obtain ⟨hget, _⟩ := I.pin (a, oe) (List.mem_append_left _ List.mem_cons_self)
  obtain ⟨vs, hv⟩ := hf
  have hx : ObjOk X.prog X.w H s.heap dd (.xd fs) := I.hok dd _ hdd
  obtain ⟨mA, hns, hrel⟩ := hx
  obtain ⟨od, ho, hl⟩ := lookIn_ns hns
  have J : PySem.W.InstAt s.heap a oe D (some od) := ⟨hget, hz.1, by unfold PySem.W.notCls; rw [hv] <;> rfl, by rw [hz.2]; exact ho⟩
  exact PySem.W.kia_one (PySem.W.kitx_exc hcl C.hg C.hk C.hs C.ha C.hn C.ht C.hm) I.kIn J e (fun z => nomatch z) fun tk => ⟨.bl b, H, I.kept (t' := tk) fun _ _ z => z, rfl, q⟩
end
section
variable {X : Cx}
/-- tuple(a list or a tuple) -/
theorem call_tupleX : CallR X (.type "tuple") (fun xs H Q => ∃ a ys, xs = [.ref a] ∧ SqX H a ys ∧ ∀ l H', Same H H' → H' l = some (.tup ys) → Q (.ref l) H') := by
  intro pins s σ H xs us Q I r h
  obtain ⟨a, ys, rfl, hs, q⟩ := h
  refine call_tuple_of pins s σ H _ us Q I r ⟨a, ys, rfl, ?_⟩
  rcases hs with hs | hs
  · exact .inl ⟨SqL.of hs, fun l nl => q l _ (Same.new nl) upd_same⟩
  · exact .inr ⟨SqT.of hs, q a H (Same.refl H) hs⟩
theorem call_listX : CallR X (.type "list") (fun xs H Q => ∃ a ys, xs = [.ref a] ∧ SqX H a ys ∧ ∀ l H', Same H H' → H l = none → H' l = some (.lst ys) → Q (.ref l) H') := by
  intro pins s σ H xs us Q I r h
  obtain ⟨a, ys, rfl, hs, q⟩ := h
  refine call_list_of pins s σ H _ us Q I r ⟨a, ys, rfl, ?_, fun l nl => q l _ (Same.new nl) nl upd_same⟩
  rcases hs with hs | hs
  · exact .inl (SqL.of hs)
  · exact .inr (SqT.of hs)
theorem op_catX : OpR X (binaryOp .Add) (fun x y H Q => ∃ a b xs ys, x = .ref a ∧ y = .ref b ∧ H a = some (.tup xs) ∧ H b = some (.tup ys) ∧ xs.length + ys.length ≤ 1000 ∧ ∀ p H', Same H H' → H' p = some (.tup (xs ++ ys)) → Q (.ref p) H') := by
  intro pins s σ H x y v u Q I rx ry h
  obtain ⟨a, b, xs, ys, rfl, rfl, ha, hb, hl, q⟩ := h
  refine op_catA pins s σ H _ _ v u Q I rx ry ⟨a, b, xs, ys, rfl, rfl, SqT.of ha, SqT.of hb, fits hl, fun e => ?_, fun _ e => ?_, fun _ _ p np => q p _ (Same.new np) upd_same⟩
  · subst e
    exact q b H (Same.refl H) hb
  · subst e
    exact q a H (Same.refl H) (by rw [List.append_nil]; exact ha)
theorem sl_tupX : SlR X (fun x lo hi H Q => ∃ a xs, x = .ref a ∧ H a = some (.tup xs) ∧ ∀ p H', Same H H' → H' p = some (.tup (cutV xs lo hi)) → Q (.ref p) H') := by
  intro pins s σ H x v vl vu lo hi sl Q I rx hs pl pu h
  obtain ⟨a, xs, rfl, ha, q⟩ := h
  refine sl_tupA pins s σ H _ v vl vu lo hi sl Q I rx hs pl pu ⟨a, xs, rfl, SqT.of ha, fun w => ?_, fun _ p np => q p _ (Same.new np) upd_same⟩
  refine q a H (Same.refl H) ?_
  unfold cutV
  rw [w.1, w.2]
  simpa using ha
end
/-- an error class with an __init__ of its own that keeps f -/
structure XC (K : PySem.W.Frag) (mg : Str → Option Value) (C fI : Addr) (x f : Str) : Prop where
  oex : OexC K C
  init : PySem.W.findIn K (.ref C) "__init__" = some (some (.ref fI))
  tI : PySem.W.typeIn K (.ref fI) = some (.type "function")
  gC : mg x = some (.ref C)
  no : PySem.W.findIn K (.ref C) f = some none
  isC : ExcC K C
  xf : XfC K C
def spInit (K : PySem.W.Frag) (C : Addr) (f : Str) : Sp := fun vs H Q _ => ∃ (a : Addr) (v : V), vs = [.ref a, v] ∧ OexC K C ∧ PySem.W.findIn K (.ref C) f = some none ∧ H a = some (exo a C none) ∧
  ∀ dx, H dx = none → dx ≠ a → Q .non (upd (upd H dx (exd dx [(f, v)])) a (exo a C (some dx)))
/-- what raising such a class comes to -/
theorem raised_at {K : PySem.W.Frag} {C a : Addr} {f : Str} {H : Hp} {v : V} {Q : XK} (T : OexC K C) (no : PySem.W.findIn K (.ref C) f = some none) (ha : H a = none)
    (k : ∀ H' d, Same H H' → H d = none → H' d = some (.xd [(f, v)]) → Q (.ref C) (some d) H') :
    spInit K C f [.ref a, v] (upd H a (exo a C none)) (fun u H2 => u = .non ∧ ∃ (d : Addr) (fs : List (Str × V)), H2 a = some (exo a C (some d)) ∧ H2 d = some (exd d fs) ∧ H d = none ∧ Q (.ref C) (some d) (upd (del H2 a) d (.xd fs))) (fun _ _ _ => False) := by
  refine ⟨a, v, rfl, T, no, upd_same, fun dx hd ne => ?_⟩
  have hd' : H dx = none := by
    rw [upd_ne ne] at hd
    exact hd
  refine ⟨rfl, dx, _, upd_same, by rw [upd_ne ne, upd_same], hd', k _ dx (fun b o e => ?_) hd' upd_same⟩
  have nb : b ≠ a := ne_of_none e ha
  have nd : b ≠ dx := ne_of_none e hd'
  rw [upd_ne nd, del_ne nb, upd_ne nb, upd_ne nd, upd_ne nb]
  exact e
/-- what is raised -/
def Raised (D : Addr) (H : Hp) (v : V) (E : XK) : Prop := ∀ H' d, Same H H' → H d = none → H' d = some (.xd [("part", v)]) → E (.ref D) (some d) H'
theorem Raised.same {D : Addr} {H H' : Hp} {v : V} {E : XK} (s : Same H H') (h : Raised D H v E) : Raised D H' v E := fun G d s2 n e => h G d (s.trans s2) (s.free n) e
/-- all that is tracked beside b is as it was -/
def Kept (b : Addr) (H H' : Hp) : Prop := ∀ a o, a ≠ b → H a = some o → H' a = some o
theorem Kept.of_same {b : Addr} {H H' : Hp} (x : Same H H') : Kept b H H' := fun a o _ h => x a o h
theorem Kept.trans {b : Addr} {H H1 H2 : Hp} (x : Kept b H H1) (y : Kept b H1 H2) : Kept b H H2 := fun a o n h => y a o n (x a o n h)
theorem Kept.box {b : Addr} {H : Hp} {o : HO} : Kept b H (upd H b o) := fun a u n h => by rw [upd_ne n]; exact h
/-- what the class Row says of itself -/
structure RowC (K : PySem.W.Frag) (C : Addr) : Prop where
  cl : Cls K C
  tests : NoAttr K C "tests"
  deeds : NoAttr K C "deeds"
def rowF (t d : Addr) : List (Str × V) := putF "deeds" (.ref d) (putF "tests" (.ref t) [])
def spRowI (K : PySem.W.Frag) (C D : Addr) : Sp := fun vs H Q E => ∃ (p dx : Addr) (x y : V) (rt rd : Bool), vs = [.ref p, x, y] ∧ H p = some (.ins C dx []) ∧ AnsV progT yes K H x rt ∧ AnsV progD full K H y rd ∧
  (rt = true → rd = true → ∀ H' t d ys, Kept p H H' → H' p = some (.ins C dx (rowF t d)) → H' d = some (.tup ys) → 0 < ys.length → Q .non H') ∧ (rt = false → Raised D H (.str "tests") E) ∧ (rt = true → rd = false → Raised D H (.str "deeds") E)
abbrev sIR : Stmt := inClass (top 3) 0
abbrev sRowI : Stmt := inClass (top 21) 0
section
variable {P : Program} {w : World} {K : PySem.W.Frag} {mg : Str → Option Value} {base : Heap}
theorem scIR : FnScope ["self", "part"] ["self", "part"] (defScope sIR) := ⟨rfl, rfl, rfl, by decide +kernel, rfl, by decide +kernel, by decide +kernel⟩
theorem ok_iR {f C : Addr} {fd : FuncData} (F : Fun K "__init__" "InvalidRow.__init__" sIR f fd) : FnOk P w K mg base CX0 1 f fd ["self", "part"] (spInit K C "part") := by
  refine F.ok scIR (fun vs H Q E h => ?_) (fun cdv A outer s H vs Q E hr h => ?_)
  · obtain ⟨a, v, rfl, _⟩ := h
    rfl
  · obtain ⟨a, v, rfl, T, no, ha, k⟩ := h
    exact ⟨_, pss_one (ps_ost (pv 0) (pv 1)), _, rfl, _, rfl, a, C, rfl, T, no, .inl ⟨ha, fun dx h1 h2 => k dx h1 h2⟩⟩
theorem scRowI : FnScope ["self", "tests", "deeds"] ["self", "tests", "deeds"] (defScope sRowI) := ⟨rfl, rfl, rfl, by decide +kernel, rfl, by decide +kernel, by decide +kernel⟩
theorem ok_rowI {f fT fD fI C D : Addr} {fd fdT fdD fdI : FuncData} {dvs : List V} (F : FunD K "__init__" "Row.__init__" (defArgs sRowI) (defBody sRowI) (defScope sRowI) dvs [] f fd) (T : TxtK mg) (Z : RowC K C)
    (GT : FnOk P w K mg base CX0 2 fT fdT ["value"] (spAre progT yes K)) (gT : mg "are_tests" = some (.ref fT)) (kT : PySem.W.keepIn K (.ref fT) = true) (bT : Binds K fdT ["value"] [])
    (GD : FnOk P w K mg base CX0 2 fD fdD ["value"] (spAre progD full K)) (gD : mg "are_deeds" = some (.ref fD)) (kD : PySem.W.keepIn K (.ref fD) = true) (bD : Binds K fdD ["value"] [])
    (Y : XC K mg D fI "InvalidRow" "part") (GI : FnOk P w K mg base CX0 1 fI fdI ["self", "part"] (spInit K D "part")) (bI : Binds K fdI ["self", "part"] []) : FnOk P w K mg base (L2.CX P w) 3 f fd ["self", "tests", "deeds"] (spRowI K C D) := by
  refine F.ok scRowI (fun vs H Q E h => ?_) (fun cdv A outer s H vs Q E hr h => ?_)
  · obtain ⟨p, dx, x, y, rt, rd, rfl, _⟩ := h
    rfl
  · obtain ⟨p, dx, x, y, rt, rd, rfl, hp, ht, hd, k1, k2, k3⟩ := h
    refine ⟨_, (pss_cons (ps_if (pt_not (pt_val (pe_call GT hr (by rfl) gT kT bT .nil pass0 (pa_cons (pv 1) pa_nil))))
      (pss_one (ps_raise rfl (takes_of rfl rfl rfl rfl) (pmk_oex Y.oex Y.init Y.tI GI hr bI .nil pass0 (by rfl) Y.gC (pa_cons pe_str pa_nil))))
      pss_nil)
    (pss_cons (ps_if (pt_not (pt_val (pe_call GD hr (by rfl) gD kD bD .nil pass0 (pa_cons (pv 2) pa_nil))))
      (pss_one (ps_raise rfl (takes_of rfl rfl rfl rfl) (pmk_oex Y.oex Y.init Y.tI GI hr bI .nil pass0 (by rfl) Y.gC (pa_cons pe_str pa_nil))))
      pss_nil)
    (pss_cons (ps_fld (pv 0) (pe_callTy call_tupleX (by rfl) T.tuple (by decide +kernel) (pa_cons (pv 1) pa_nil)) rfl)
    (pss_one (ps_fld (pv 0) (pe_callTy call_tupleX (by rfl) T.tuple (by decide +kernel) (pa_cons (pv 2) pa_nil)) rfl))))), ?_⟩
    refine ⟨_, rfl, x, rt, rfl, ht, fun H1 s1 => ⟨_, rfl, ?_⟩⟩
    cases rt with
    | false =>
      exact iteY rfl ⟨by show 1 ≤ 1000; decide, fun a ha => raised_at Y.oex Y.no ha (k2 rfl |>.same s1)⟩
    | true =>
      refine iteN rfl ⟨_, rfl, y, rd, rfl, hd.same s1, fun H2 s2 => ⟨_, rfl, ?_⟩⟩
      cases rd with
      | false =>
        exact iteY rfl ⟨by show 1 ≤ 1000; decide, fun a ha => raised_at Y.oex Y.no ha (k3 rfl rfl |>.same (s1.trans s2))⟩
      | true =>
        refine iteN rfl ?_
        have s12 := s1.trans s2
        rcases ht with ⟨_, z⟩ | ⟨a, xs, bs, rfl, hx, _⟩
        · cases z
        rcases hd with ⟨_, z⟩ | ⟨c, ys, ds, rfl, hy, _, _, ey⟩
        · cases z
        have n0 : 0 < ys.length := of_decide_eq_true (Bool.and_eq_true_iff.mp ey.symm).1
        refine ⟨_, rfl, a, xs, rfl, hx.same s12, fun t H3 s3 h3 => ⟨_, rfl, p, C, dx, _, rfl, s3 _ _ (s12 _ _ hp), Z.cl, Z.tests, (by show 0 < 1000; decide), ?_⟩⟩
        have ncp : c ≠ p := by
          rcases hy with hy | hy
          · exact ne_of hy hp (fun z => nomatch z)
          · exact ne_of hy hp (fun z => nomatch z)
        have k4 : Kept p H (upd H3 p (.ins C dx (putF "tests" (.ref t) []))) := (Kept.of_same (s12.trans s3)).trans Kept.box
        have hy4 : SqX (upd H3 p (.ins C dx (putF "tests" (.ref t) []))) c ys := by
          rcases hy with hy | hy
          · exact .inl (k4 _ _ ncp hy)
          · exact .inr (k4 _ _ ncp hy)
        refine ⟨_, rfl, c, ys, rfl, hy4, fun d H5 s5 h5 => ⟨_, rfl, p, C, dx, _, rfl, s5 _ _ upd_same, Z.cl, Z.deeds, ?_, ?_⟩⟩
        · exact Nat.lt_of_le_of_lt (length_putF _ _ []) (by show 0 + 1 < 1000; decide)
        · have ndp : d ≠ p := ne_of h5 (s5 _ _ upd_same) (fun z => nomatch z)
          exact k1 rfl rfl _ t d ys ((k4.trans (Kept.of_same s5)).trans Kept.box) upd_same (by rw [upd_ne ndp]; exact h5) n0
end
end Lay
set_option Elab.async false
set_option linter.all false
set_option maxRecDepth 100000
set_option maxHeartbeats 4000000
namespace Lay
open PySem PySem.Spec PyProof.Rows L2
section
variable {X : Cx}
/-- xs == [], any xs -/
theorem op_eqNil (hu : X.A.units + 64 < cLine) : OpR X (compareOp .Eq) (fun x y H Q => ∃ a b xs, x = .ref a ∧ y = .ref b ∧ SqL X.K H a xs ∧ H b = some (.lst []) ∧ Q (.bl xs.isEmpty) H) := by
  intro pins s σ H x y v u Q I rx ry h
  obtain ⟨a, b, xs, rfl, rfl, ha, hb, q⟩ := h
  cases xs with
  | nil => exact op_eqD hu pins s σ H _ _ v u Q I rx ry ⟨.list [], .list [], .lst ha .nil, .lst (SqL.of hb) .nil, rfl, rfl, q⟩
  | cons z zs =>
    cases rx
    cases ry
    obtain ⟨its, r, p1, _⟩ := I.list ha
    obtain ⟨its2, r2, p2, _⟩ := I.list (SqL.of hb)
    cases r2
    refine SeqAt.eq_list_lengthsAt p1.isList p2.isList ?_ (by omega) ⟨.bl false, H, I, rfl, q⟩
    cases r
    rfl
end
section
variable {X : Cx} {K : PySem.W.Frag} {e : Expr} {ta : TE} {f : Str} {pos : Pos}
theorem pe_fldK (hK : X.K = K) (he : PE X e ta) (hb : attributeBase e f X.env (eval e X.env) = eval e X.env) : PE X (.Attribute e f pos) (tFld K ta f) := by
  subst hK
  exact pe_fld he hb
theorem call_lenK (hK : X.K = K) : CallR X (.builtin "len") (fun xs H Q => ∃ p ys, xs = [.ref p] ∧ (SqL K H p ys ∨ SqT K H p ys) ∧ Q (.int ys.length) H) := by
  subst hK
  exact call_len_seq
end
section
variable {X : Cx}
/-- xs != [], any xs -/
theorem op_neNil (hu : X.A.units + 64 < cLine) : OpR X (compareOp .NotEq) (fun x y H Q => ∃ a b xs, x = .ref a ∧ y = .ref b ∧ SqL X.K H a xs ∧ H b = some (.lst []) ∧ Q (.bl (!xs.isEmpty)) H) := by
  intro pins s σ H x y v u Q I rx ry h
  obtain ⟨a, b, xs, rfl, rfl, ha, hb, q⟩ := h
  cases xs with
  | nil => exact op_neD hu pins s σ H _ _ v u Q I rx ry ⟨.list [], .list [], .lst ha .nil, .lst (SqL.of hb) .nil, rfl, rfl, q⟩
  | cons z zs =>
    cases rx
    cases ry
    obtain ⟨its, r, p1, _⟩ := I.list ha
    obtain ⟨its2, r2, p2, _⟩ := I.list (SqL.of hb)
    cases r2
    have hsz : (its.toArray.size != ([] : List Value).toArray.size) = true := by
      cases r
      rfl
    exact (SeqAt.RcNeAt.lists_lengths p1.isList p2.isList hsz (by omega)) _ _ _ _ ⟨.bl true, H, I, rfl, q⟩
end
section
variable {X : Cx} {K : PySem.W.Frag}
theorem call_isiK (hK : X.K = K) : CallR X (.builtin "isinstance") (rIsi K) := by
  subst hK
  exact call_isi
theorem op_notInK (hK : X.K = K) : OpR X (compareOp .NotIn) (rIn K true) := by
  subst hK
  exact op_notIn_seq
end
theorem str_at {zs : List Str} {i : Nat} {x : V} (h : (zs.map V.str)[i]? = some x) : ∃ z, zs[i]? = some z ∧ x = V.str z := by
  rw [List.getElem?_map] at h
  cases q : zs[i]? with
  | none => rw [q] at h; cases h
  | some z => rw [q] at h; exact ⟨z, rfl, (Option.some.inj h).symm⟩
end Lay
set_option Elab.async false
set_option linter.all false
set_option maxRecDepth 100000
set_option maxHeartbeats 4000000
namespace Lay
open PySem L2
theorem K2.put {b gr p : Addr} {H G : Hp} {o : HO} (h : H p = none) (k : K2 b gr H G) : K2 b gr H (upd G p o) := fun a u n1 n2 e => by
  rw [upd_ne (ne_of_none e h)]
  exact k _ _ n1 n2 e
theorem BoxD.put {b gr p : Addr} {H : Hp} {o : HO} (n1 : p ≠ b) (n2 : p ≠ gr) (x : BoxD H b gr) : BoxD (upd H p o) b gr := by
  obtain ⟨⟨m, h1⟩, ns, h2, h3⟩ := x
  exact ⟨⟨m, by rw [upd_ne (Ne.symm n1)]; exact h1⟩, ns, by rw [upd_ne (Ne.symm n2)]; exact h2, h3⟩
theorem BoxD.tup_ne {b gr t : Addr} {H : Hp} {xs : List V} (x : BoxD H b gr) (h : H t = some (.tup xs)) : t ≠ b ∧ t ≠ gr := by
  obtain ⟨⟨m, h1⟩, ns, h2, _⟩ := x
  exact ⟨ne_of h h1 (fun z => nomatch z), ne_of h h2 (fun z => nomatch z)⟩
def drawT : List Str := ["broken", "marked", "left", "ahead", "behind", "blank", "long", "long", "first", "afterbroken", "afterbehind"]
def GoodT (z : Str) : Bool := (progT z && (PyData.strOk z && decide (z.length ≤ 20))) && decide (z ∈ testL ++ testL.map (Str.ofString "not " ++ ·))
def GoodD (z : Str) : Bool := (progD z && decide (z.length ≤ 20)) && decide (z ∈ deedL)
theorem goodT_drawn : ∀ z ∈ drawT, GoodT z = true ∧ GoodT (Str.ofString "not " ++ z) = true ∧ z.length ≤ 20 := by decide +kernel
theorem goodD_drawn : ∀ z ∈ deedL, GoodD z = true := by decide +kernel
theorem mem_strs {zs : List Str} {v : V} (h : v ∈ zs.map V.str) : ∃ z, z ∈ zs ∧ v = V.str z := by
  obtain ⟨z, h1, h2⟩ := List.mem_map.mp h
  exact ⟨z, h1, h2.symm⟩
/-- texts drawn: a new tuple of good ones -/
def spDrawn (good : Str → Bool) (lo : Int) : Sp := fun vs H Q _ => ∃ (b gr : Addr) (m : Int), vs = [.ref b, .int m] ∧ BoxD H b gr ∧ 0 < m ∧ m ≤ 100 ∧
  ∀ (t : Addr) (ws : List Str) (H' : Hp), K2 b gr H H' → BoxD H' b gr → t ≠ b → t ≠ gr → H' t = some (.tup (ws.map V.str)) → lo ≤ ws.length → ws.length ≤ m → (∀ z ∈ ws, good z = true) → Q (.ref t) H'
abbrev sTests : Stmt := top 27
abbrev sDeeds : Stmt := top 28
def testsN : List Str := ["_law_box", "_law_most", "_law_every", "_law_found", "_law_turn", "_law_word"]
def deedsN : List Str := ["_law_box", "_law_most", "_law_every", "_law_turn"]
/-- the draws -/
structure Draws (P : Program) (w : World) (K : PySem.W.Frag) (mg : Str → Option Value) (base : Heap) (fT fK : Addr) (dT dK : FuncData) : Prop where
  range : mg "range" = none
  tuple : mg "tuple" = none
  okT : FnOk P w K mg base CX0 1 fT dT ["_law_box", "_law_wide"] spTake
  gT : mg "_law_take" = some (.ref fT)
  kT : PySem.W.keepIn K (.ref fT) = true
  bT : Binds K dT ["_law_box", "_law_wide"] []
  okK : FnOk P w K mg base CX0 2 fK dK ["_law_box", "_law_some"] (spPick K)
  gK : mg "_law_pick" = some (.ref fK)
  kK : PySem.W.keepIn K (.ref fK) = true
  bK : Binds K dK ["_law_box", "_law_some"] []
section
variable {P : Program} {w : World} {K : PySem.W.Frag} {mg : Str → Option Value} {base : Heap} {fT fK : Addr} {dT dK : FuncData}
theorem scTests : FnScope testsN ["_law_box", "_law_most"] (defScope sTests) := ⟨rfl, rfl, rfl, by decide +kernel, rfl, by decide +kernel, by decide +kernel⟩
theorem ok_tests {f : Addr} {fd : FuncData} (F : Fun K "_law_tests" "_law_tests" sTests f fd) (D : Draws P w K mg base fT fK dT dK) : FnOk P w K mg base CX0 3 f fd ["_law_box", "_law_most"] (spDrawn GoodT 0) := by
  refine F.ok scTests (fun vs H Q E h => ?_) (fun cdv A outer s H vs Q E hr h => ?_)
  · obtain ⟨b, gr, m, rfl, _⟩ := h
    rfl
  · obtain ⟨b, gr, m, rfl, bx, m0, m1, k⟩ := h
    have hr1 := hr.mono (show 1 ≤ 2 by decide)
    refine ⟨_, (pss_cons (ps_set (i := 2) scTests.nd rfl (.inl rfl) (pe_lst (pa_cons pe_str (pa_cons pe_str (pa_cons pe_str (pa_cons pe_str (pa_cons pe_str (pa_cons pe_str (pa_cons pe_str (pa_cons pe_str (pa_cons pe_str (pa_cons pe_str pa_nil))))))))))))
      (pss_cons (ps_set (i := 3) scTests.nd rfl (.inl rfl) (pe_lst pa_nil))
      (pss_cons (ps_for PassesOwn.never rfl (pi_range1 (by rfl) D.range (pa_cons (pe_call D.okT hr1 (by rfl) D.gT D.kT D.bT .nil pass0 (pa_cons (pv 0) (pa_cons (pe_op op_add (pv 1) pe_int) pa_nil))) pa_nil)) (pg_name (i := 4) scTests.nd rfl (.inl rfl))
        (pss_cons (ps_set (i := 5) scTests.nd rfl (.inl rfl) (pe_call D.okK hr (by rfl) D.gK D.kK D.bK .nil pass0 (pa_cons (pv 0) (pa_cons (pe_op op_cat (pv 2) (pe_lst (pa_cons pe_str pa_nil))) pa_nil))))
        (pss_one (ps_expr (pe_bm PySem.F.plainAttrs_list PySem.F.slot_list_append PySem.F.type_list_append mt_append (pv 3) (pa_cons (pe_ifExp (pt_cmpR op_eq (pe_call D.okT hr1 (by rfl) D.gT D.kT D.bT .nil pass0 (pa_cons (pv 0) (pa_cons pe_int pa_nil))) pe_int (nomark _)) (pe_op op_add_str pe_str (pv 5)) (pv 5)) pa_nil))))))
      (pss_one (ps_ret (pe_callTy call_tupleX (by rfl) D.tuple (by decide +kernel) (pa_cons (pv 3) pa_nil))))))), ?_⟩
    refine ⟨(by show 10 ≤ sizeLine; decide), fun e1 n1 => ⟨(by show 0 ≤ sizeLine; exact Nat.zero_le _), fun f1 n2 => ?_⟩⟩
    have s1 := (Same.new n1 (o := .lst ((drawT.take 10).map V.str))).trans (Same.new n2 (o := .lst []))
    have e1b := bx.fresh n1
    have f1b := (bx.same (Same.new n1 (o := .lst ((drawT.take 10).map V.str)))).fresh n2
    have h1 : upd H e1 (.lst ((drawT.take 10).map V.str)) e1 = some (.lst ((drawT.take 10).map V.str)) := upd_same
    have ef : e1 ≠ f1 := ne_of_none h1 n2
    have nf : H f1 = none := (Same.new n1).free n2
    refine ⟨_, rfl, _, rfl, _, _, rfl, rfl, b, gr, m + 1, rfl, bx.same s1, by omega, by omega, fun r G r0 r1 bG kG => ?_⟩
    have kHG := (K2.of_same s1).trans kG
    refine ⟨r, rfl, by omega, by omega, for_range (lo := 0) (n := r.toNat) (fun i σ G' => ∃ (x4 x5 : Option V) (ws : List Str), σ = [some (.ref b), some (.int m), some (.ref e1), some (.ref f1), x4, x5] ∧ K2 b gr H G' ∧ BoxD G' b gr ∧ G' e1 = some (.lst ((drawT.take 10).map V.str)) ∧ G' f1 = some (.lst (ws.map V.str)) ∧ ws.length = i ∧ ∀ z ∈ ws, GoodT z = true)
      ⟨_, _, [], rfl, kHG, bG, kG _ _ e1b.1 e1b.2 (Same.new n2 _ _ h1), kG _ _ f1b.1 f1b.2 upd_same, rfl, fun z hz => (List.not_mem_nil hz).elim⟩ ?_ ?_⟩
    · rintro i σ G2 hi ⟨x4, x5, ws, rfl, k2, b2, he, hf, hl, hg⟩
      refine ⟨_, rfl, _, rfl, (by show 1 ≤ sizeLine; decide), fun q nq => ⟨e1, q, _, _, rfl, rfl, Same.new nq _ _ he, upd_same, (by show 11 ≤ sizeLine; decide), fun q2 nq2 => ?_⟩⟩
      have sq := (Same.new nq (o := .lst [.str "afterbehind"])).trans (Same.new nq2 (o := .lst ((drawT.take 10).map V.str ++ [.str "afterbehind"])))
      have bq := b2.same (Same.new nq (o := .lst [.str "afterbehind"]))
      have q2b := bq.fresh nq2
      refine ⟨b, gr, q2, drawT.map V.str, rfl, b2.same sq, q2b.1, q2b.2, .inl upd_same, (by show 0 < 11; decide), (by show 11 ≤ 1000; decide), fun v G3 hv b3 k3 => ?_⟩
      obtain ⟨z, hz, rfl⟩ := mem_strs hv
      obtain ⟨g1, g2, g3⟩ := goodT_drawn z hz
      have k23 := (k2.trans (K2.of_same sq)).trans k3
      have he3 := k3 _ _ e1b.1 e1b.2 (sq _ _ he)
      have hf3 := k3 _ _ f1b.1 f1b.2 (sq _ _ hf)
      refine ⟨_, rfl, .inl ⟨rfl, _, SqL.of hf3⟩, _, rfl, b, gr, 3, rfl, b3, by decide, by decide, fun r3 G4 r30 r31 b4 k4 => ⟨rfl, _, rfl, ?_⟩⟩
      have k24 := k23.trans k4
      have he4 := k4 _ _ e1b.1 e1b.2 he3
      have hf4 := k4 _ _ f1b.1 f1b.2 hf3
      have fin : ∀ y, GoodT y = true → K2 b gr H (upd G4 f1 (.lst (ws.map V.str ++ [.str y]))) ∧ BoxD (upd G4 f1 (.lst (ws.map V.str ++ [.str y]))) b gr ∧ (upd G4 f1 (.lst (ws.map V.str ++ [.str y]))) e1 = some (.lst ((drawT.take 10).map V.str)) ∧ (upd G4 f1 (.lst (ws.map V.str ++ [.str y]))) f1 = some (.lst ((ws ++ [y]).map V.str)) ∧ (ws ++ [y]).length = i + 1 ∧ ∀ z ∈ ws ++ [y], GoodT z = true := fun y hy =>
        ⟨k24.put nf, b4.put f1b.1 f1b.2, by rw [upd_ne ef]; exact he4, by rw [upd_same, List.map_append]; rfl, by rw [List.length_append, hl]; rfl, fun x hx => by
          rcases List.mem_append.mp hx with hx | hx
          · exact hg x hx
          · rw [List.mem_singleton] at hx
            rw [hx]
            exact hy⟩
      refine ite2 (fun _ => ?_) (fun _ => ?_)
      · refine ⟨_, rfl, _, _, rfl, rfl, fits (by show 4 + z.length ≤ 1000; omega), f1, _, _, rfl, rfl, hf4, by rw [List.length_map, hl]; exact small1000 (by omega), ?_⟩
        obtain ⟨a1, a2, a3, a4, a5, a6⟩ := fin _ g2
        exact ⟨_, _, ws ++ [_], rfl, a1, a2, a3, a4, a5, a6⟩
      · refine ⟨_, rfl, f1, _, _, rfl, rfl, hf4, by rw [List.length_map, hl]; exact small1000 (by omega), ?_⟩
        obtain ⟨a1, a2, a3, a4, a5, a6⟩ := fin _ g1
        exact ⟨_, _, ws ++ [_], rfl, a1, a2, a3, a4, a5, a6⟩
    · rintro σ G2 ⟨x4, x5, ws, rfl, k2, b2, he, hf, hl, hg⟩
      refine ⟨_, rfl, f1, _, rfl, .inl hf, fun t H' st ht => ?_⟩
      have bt := b2.same st
      exact k t ws H' (k2.trans (K2.of_same st)) bt (bt.tup_ne ht).1 (bt.tup_ne ht).2 ht (by omega) (by omega) hg
theorem scDeeds : FnScope deedsN ["_law_box", "_law_most"] (defScope sDeeds) := ⟨rfl, rfl, rfl, by decide +kernel, rfl, by decide +kernel, by decide +kernel⟩
theorem ok_deeds {f : Addr} {fd : FuncData} (F : Fun K "_law_deeds" "_law_deeds" sDeeds f fd) (D : Draws P w K mg base fT fK dT dK) : FnOk P w K mg base CX0 3 f fd ["_law_box", "_law_most"] (spDrawn GoodD 1) := by
  refine F.ok scDeeds (fun vs H Q E h => ?_) (fun cdv A outer s H vs Q E hr h => ?_)
  · obtain ⟨b, gr, m, rfl, _⟩ := h
    rfl
  · obtain ⟨b, gr, m, rfl, bx, m0, m1, k⟩ := h
    have hr1 := hr.mono (show 1 ≤ 2 by decide)
    refine ⟨_, (pss_cons (ps_set (i := 2) scDeeds.nd rfl (.inr rfl) (pe_lst (pa_cons pe_str (pa_cons pe_str (pa_cons pe_str (pa_cons pe_str (pa_cons pe_str (pa_cons pe_str (pa_cons pe_str (pa_cons pe_str pa_nil))))))))))
      (pss_one (ps_ret (pe_callTy call_tupleX (by rfl) D.tuple (by decide +kernel) (pa_cons (pe_lc (own := [("_law_turn", 3)]) (g := gName 3) (tt := tYes) (by rfl) scDeeds.nd (pi_range1 (by rfl) D.range (pa_cons (pe_op op_add pe_int (pe_call D.okT hr1 (by rfl) D.gT D.kT D.bT .nil pass0 (pa_cons (pv 0) (pa_cons (pv 1) pa_nil)))) pa_nil)) (blkOk_by (N := deedsN) (sc := defScope sDeeds) (by decide +kernel)) (fun _ _ _ _ _ => pg_name (i := 3) scDeeds.nd rfl (Or.inl rfl)) (fun _ _ _ _ _ => pts_nil)
        (fun _ _ _ _ _ => pe_call D.okK hr (by rfl) D.gK D.kK D.bK .nil pass0 (pa_cons (pv 0) (pa_cons (pv 2) pa_nil)))) pa_nil))))), ?_⟩
    refine ⟨(by show 8 ≤ sizeLine; decide), fun e1 n1 => ?_⟩
    have s1 := Same.new n1 (o := .lst (deedL.map V.str))
    have e1b := bx.fresh n1
    have h1 : upd H e1 (.lst (deedL.map V.str)) e1 = some (.lst (deedL.map V.str)) := upd_same
    refine ⟨_, rfl, _, rfl, b, gr, m, rfl, bx.same s1, m0, by omega, fun r G r0 r1 bG kG => ?_⟩
    have kHG := (K2.of_same s1).trans kG
    refine ⟨_, _, rfl, rfl, 1 + r, rfl, by omega, by omega, fun D1 nD => lc_range (lo := 0) (n := (1 + r).toNat) (fun i G' => ∃ ws : List Str, K2 b gr H G' ∧ BoxD G' b gr ∧ G' e1 = some (.lst (deedL.map V.str)) ∧ G' D1 = some (.lst (ws.map V.str)) ∧ ws.length = i ∧ ∀ z ∈ ws, GoodD z = true)
      ⟨[], kHG.trans (K2.of_same (Same.new nD)), bG.same (Same.new nD), Same.new nD _ _ (kG _ _ e1b.1 e1b.2 h1), upd_same, rfl, fun z hz => (List.not_mem_nil hz).elim⟩ ?_ ?_⟩
    · rintro i G2 hi ⟨ws, k2, b2, he, hD, hl, hg⟩
      have Db := bG.fresh nD
      have De : e1 ≠ D1 := ne_of_none (kG _ _ e1b.1 e1b.2 h1) nD
      refine ⟨rfl, _, rfl, _, rfl, b, gr, e1, deedL.map V.str, rfl, b2, e1b.1, e1b.2, .inl he, (by show 0 < 8; decide), (by show 8 ≤ 1000; decide), fun v G3 hv b3 k3 => ?_⟩
      obtain ⟨z, hz, rfl⟩ := mem_strs hv
      refine ⟨_, k3 _ _ Db.1 Db.2 hD, by rw [List.length_map, hl]; exact small1000 (by omega), ws ++ [z], ?_, b3.put Db.1 Db.2, by rw [upd_ne De]; exact k3 _ _ e1b.1 e1b.2 he, by rw [upd_same, List.map_append]; rfl, by rw [List.length_append, hl]; rfl, fun x hx => ?_⟩
      · have nDH : H D1 = none := by
          cases q : H D1 with
          | none => rfl
          | some o =>
            have := kHG _ _ Db.1 Db.2 q
            rw [this] at nD
            cases nD
        exact (k2.trans k3).put nDH
      · rcases List.mem_append.mp hx with hx | hx
        · exact hg x hx
        · rw [List.mem_singleton] at hx
          rw [hx]
          exact goodD_drawn z hz
    · rintro G2 ⟨ws, k2, b2, he, hD, hl, hg⟩
      refine ⟨D1, _, rfl, .inl hD, fun t H' st ht => ?_⟩
      have bt := b2.same st
      exact k t ws H' (k2.trans (K2.of_same st)) bt (bt.tup_ne ht).1 (bt.tup_ne ht).2 ht (by omega) (by omega) hg
end
end Lay
set_option Elab.async false
set_option linter.all false
set_option maxRecDepth 100000
set_option maxHeartbeats 4000000
namespace Lay
open PySem L2
/-- isinstance(x, Row) -/
def IsP (K : PySem.W.Frag) (C : Addr) (H : Hp) (x : V) (b : Bool) : Prop := ∃ t, TyX K H x t ∧ PySem.W.kitOne K t (.ref C) = some b
theorem IsP.same {K : PySem.W.Frag} {C : Addr} {H H' : Hp} {x : V} {b : Bool} (s : Same H H') (h : IsP K C H x b) : IsP K C H' x b := by
  obtain ⟨t, h1, h2⟩ := h
  exact ⟨t, TyX.same s h1, h2⟩
theorem SqT.same {K : PySem.W.Frag} {H H' : Hp} {a : Addr} {xs : List V} (e : Same H H') (h : SqT K H a xs) : SqT K H' a xs := by
  rcases h with (h | ⟨o, h⟩) | h
  · exact .inl (.inl (e _ _ h))
  · exact .inl (.inr ⟨o, e _ _ h⟩)
  · exact .inr h
theorem SqL.same {K : PySem.W.Frag} {H H' : Hp} {a : Addr} {xs : List V} (e : Same H H') (h : SqL K H a xs) : SqL K H' a xs := by
  rcases h with (h | ⟨o, h⟩) | h
  · exact .inl (.inl (e _ _ h))
  · exact .inl (.inr ⟨o, e _ _ h⟩)
  · exact .inr h
/-- a tuple that is tracked, or a written one -/
def TupG (K : PySem.W.Frag) (H : Hp) (a : Addr) (xs : List V) : Prop := H a = some (.tup xs) ∨ ∃ (o : Obj) (its : Array Value) (n : Nat), K.lookup a = some o ∧ o.cls = .type "tuple" ∧ o.data = .seq its n ∧ its.size ≤ sizeLine ∧ Vals xs its.toList
theorem TupG.sqT {K : PySem.W.Frag} {H : Hp} {a : Addr} {xs : List V} (h : TupG K H a xs) : SqT K H a xs := by
  rcases h with h | h
  · exact SqT.of h
  · exact .inr h
theorem TupG.same {K : PySem.W.Frag} {H H' : Hp} {a : Addr} {xs : List V} (s : Same H H') (h : TupG K H a xs) : TupG K H' a xs := h.imp (s _ _) id
theorem TupG.put_ins {K : PySem.W.Frag} {H : Hp} {a p C dx : Addr} {fs : List (Str × V)} {o : HO} {xs : List V} (h : TupG K H a xs) (hp : H p = some (.ins C dx fs)) : TupG K (upd H p o) a xs := by
  rcases h with h | h
  · exact .inl (by rw [upd_ne (ne_of h hp (fun z => nomatch z))]; exact h)
  · exact .inr h
theorem TupG.seq {K : PySem.W.Frag} {H : Hp} {a : Addr} {xs : List V} (h : TupG K H a xs) : IsSeq K H (.ref a) true := by
  rcases h with h | ⟨o, its, n, h1, h2, _⟩
  · exact SqX.seq (.inr h)
  · exact ⟨_, .kTuple h1 h2, kitAny_lt (b := false) (c := true) (kit_ty (by decide +kernel)) (kit_ty (by decide +kernel))⟩
/-- a list, or any tuple (the written ones, too) -/
def SqG (K : PySem.W.Frag) (H : Hp) (a : Addr) (xs : List V) : Prop := H a = some (.lst xs) ∨ TupG K H a xs
theorem SqG.same {K : PySem.W.Frag} {H H' : Hp} {a : Addr} {xs : List V} (s : Same H H') (h : SqG K H a xs) : SqG K H' a xs := h.imp (s _ _) fun q => q.same s
theorem SqG.seq {K : PySem.W.Frag} {H : Hp} {a : Addr} {xs : List V} (h : SqG K H a xs) : IsSeq K H (.ref a) true := by
  rcases h with h | h
  · exact SqX.seq (.inl h)
  · exact h.seq
theorem SqG.of {K : PySem.W.Frag} {H : Hp} {a : Addr} {xs : List V} (h : SqX H a xs) : SqG K H a xs := h.imp id .inl
def IsPs (K : PySem.W.Frag) (C : Addr) (H : Hp) (xs : List V) (bs : List Bool) : Prop := bs.length = xs.length ∧ ∀ (i : Nat) (x : V) (b : Bool), xs[i]? = some x → bs[i]? = some b → IsP K C H x b
theorem IsPs.same {K : PySem.W.Frag} {C : Addr} {H H' : Hp} {xs : List V} {bs : List Bool} (s : Same H H') (h : IsPs K C H xs bs) : IsPs K C H' xs bs := ⟨h.1, fun i x b h1 h2 => (h.2 i x b h1 h2).same s⟩
/-- whether a value is a sequence of rows -/
def AnsR (K : PySem.W.Frag) (C : Addr) (H : Hp) (x : V) (r : Bool) : Prop := (IsSeq K H x false ∧ r = false) ∨ ∃ a xs bs, x = .ref a ∧ SqG K H a xs ∧ xs.length ≤ 1000 ∧ IsPs K C H xs bs ∧ r = bs.all id
theorem AnsR.same {K : PySem.W.Frag} {C : Addr} {H H' : Hp} {x : V} {r : Bool} (s : Same H H') (h : AnsR K C H x r) : AnsR K C H' x r := by
  rcases h with ⟨h, e⟩ | ⟨a, xs, bs, e, h1, h2, h3, h4⟩
  · exact .inl ⟨h.same s, e⟩
  · exact .inr ⟨a, xs, bs, e, h1.same s, h2, h3.same s, h4⟩
def spAreR (K : PySem.W.Frag) (C : Addr) : Sp := fun vs H Q _ => ∃ x r, vs = [x] ∧ AnsR K C H x r ∧ ∀ H', Same H H' → Q (.bl r) H'
/-- whether a value is a bool -/
def SrtV (K : PySem.W.Frag) (H : Hp) (y : V) (sb : Bool) : Prop := (∃ z, y = .bl z ∧ sb = true) ∨ (sb = false ∧ IsT K H y "bool" false)
theorem SrtV.same {K : PySem.W.Frag} {H H' : Hp} {y : V} {sb : Bool} (s : Same H H') (h : SrtV K H y sb) : SrtV K H' y sb := h.imp id fun q => ⟨q.1, q.2.same s⟩
theorem SrtV.isT {K : PySem.W.Frag} {H : Hp} {y : V} {sb : Bool} (h : SrtV K H y sb) : IsT K H y "bool" sb := by
  rcases h with ⟨z, rfl, rfl⟩ | ⟨rfl, h⟩
  · exact ⟨_, .base (.bl z), kit_ty (by decide +kernel)⟩
  · exact h
abbrev sAreR : Stmt := top 17
abbrev sToolI : Stmt := inClass (top 22) 0
section
variable {P : Program} {w : World} {K : PySem.W.Frag} {mg : Str → Option Value} {base : Heap}
theorem scAreR : FnScope ["value", "one"] ["value"] (defScope sAreR) := ⟨rfl, rfl, rfl, by decide +kernel, rfl, by decide +kernel, by decide +kernel⟩
theorem ok_areR {f fS C : Addr} {fd fdS : FuncData} (F : Fun K "are_rows" "are_rows" sAreR f fd) (T : TxtK mg) (GS : FnOk P w K mg base CX0 1 fS fdS ["value"] (spSeq K)) (gS : mg "is_sequence" = some (.ref fS)) (kS : PySem.W.keepIn K (.ref fS) = true) (bS : Binds K fdS ["value"] [])
    (gC : mg "Row" = some (.ref C)) : FnOk P w K mg base CX0 2 f fd ["value"] (spAreR K C) := by
  refine F.ok scAreR (fun vs H Q E h => ?_) (fun cdv A outer s H vs Q E hr h => ?_)
  · obtain ⟨x, r, rfl, _⟩ := h
    rfl
  · obtain ⟨x, r, rfl, h, k⟩ := h
    rcases h with ⟨h, rfl⟩ | ⟨a, xs, bs, rfl, hx, hl, hb, rfl⟩
    · refine ⟨_, (pss_one (ps_ret (pe_and (pe_call GS hr (by rfl) gS kS bS .nil pass0 (pa_cons (pv 0) pa_nil)) (pe_one (pe_callB (cr_all rfl) (by rfl) T.all (by decide +kernel) (pa_cons
            (pe_lc (own := [("one", 1)]) (g := gName 1) (tt := tYes) (by rfl) scAreR.nd (pi_list (pv 0)) (blkOk_by (N := ["value", "one"]) (sc := defScope sAreR) (by decide +kernel)) (fun _ _ _ _ _ => pg_name (i := 1) scAreR.nd rfl (Or.inl rfl)) (fun _ _ _ _ _ => pts_nil) (fun _ _ _ _ _ => pe_callB (call_isiK (K := K) rfl) (by rfl) T.isinstance (by decide +kernel) (pa_cons (pv 1) (pa_cons (pe_glob (v := .ref C) (by rfl) gC rfl) pa_nil)))) pa_nil)))))), ?_⟩
      exact ⟨_, rfl, _, false, rfl, h, fun H' s => ⟨_, rfl, iteN rfl (k H' s)⟩⟩
    · have lb : bs.length ≤ 1000 := by rw [hb.1]; exact hl
      rcases hx with hx | hx
      · refine ⟨_, (pss_one (ps_ret (pe_and (pe_call GS hr (by rfl) gS kS bS .nil pass0 (pa_cons (pv 0) pa_nil)) (pe_one (pe_callB (cr_all rfl) (by rfl) T.all (by decide +kernel) (pa_cons
            (pe_lc (own := [("one", 1)]) (g := gName 1) (tt := tYes) (by rfl) scAreR.nd (pi_list (pv 0)) (blkOk_by (N := ["value", "one"]) (sc := defScope sAreR) (by decide +kernel)) (fun _ _ _ _ _ => pg_name (i := 1) scAreR.nd rfl (Or.inl rfl)) (fun _ _ _ _ _ => pts_nil) (fun _ _ _ _ _ => pe_callB (call_isiK (K := K) rfl) (by rfl) T.isinstance (by decide +kernel) (pa_cons (pv 1) (pa_cons (pe_glob (v := .ref C) (by rfl) gC rfl) pa_nil)))) pa_nil)))))), ?_⟩
        refine ⟨_, rfl, _, true, rfl, SqG.seq (.inl hx), fun H1 s1 => ⟨_, rfl, iteY rfl ?_⟩⟩
        have hx1 : SqL K H1 a xs := SqL.of (s1 _ _ hx)
        refine ⟨_, rfl, a, rfl, ⟨_, hx1⟩, fun D nD => lc_list (K := K) (a := a) (xs := xs) (fun i G => Same H1 G ∧ G D = some (.lst ((bs.take i).map V.bl))) ⟨Same.new nD, upd_same⟩ (fun i G _ q => SqL.same q.1 hx1) ?_ ?_⟩
        · rintro i x G hi ⟨sG, hD⟩
          have li := (List.getElem?_eq_some_iff.mp hi).1
          rw [← hb.1] at li
          have eb : bs[i]? = some bs[i] := by simp [li]
          obtain ⟨t, ty, et⟩ := (hb.2 i x _ hi eb).same (s1.trans sG)
          refine ⟨rfl, _, rfl, x, _, t, _, bs[i], rfl, .own _, ty, et, _, hD, ?_, fun c u e => by rw [upd_ne (ne_of_none e nD)]; exact sG _ _ e, ?_⟩
          · rw [List.length_map, List.length_take]
            exact small1000 (by omega)
          · rw [upd_same, List.take_succ, eb, List.map_append]
            rfl
        · rintro G ⟨sG, hD⟩
          rw [← hb.1, List.take_length] at hD
          exact ⟨D, bs, rfl, SqL.of hD, k G (s1.trans sG)⟩
      · refine ⟨_, (pss_one (ps_ret (pe_and (pe_call GS hr (by rfl) gS kS bS .nil pass0 (pa_cons (pv 0) pa_nil)) (pe_one (pe_callB (cr_all rfl) (by rfl) T.all (by decide +kernel) (pa_cons
            (pe_lc (own := [("one", 1)]) (g := gName 1) (tt := tYes) (by rfl) scAreR.nd (pi_tup (pv 0)) (blkOk_by (N := ["value", "one"]) (sc := defScope sAreR) (by decide +kernel)) (fun _ _ _ _ _ => pg_name (i := 1) scAreR.nd rfl (Or.inl rfl)) (fun _ _ _ _ _ => pts_nil) (fun _ _ _ _ _ => pe_callB (call_isiK (K := K) rfl) (by rfl) T.isinstance (by decide +kernel) (pa_cons (pv 1) (pa_cons (pe_glob (v := .ref C) (by rfl) gC rfl) pa_nil)))) pa_nil)))))), ?_⟩
        refine ⟨_, rfl, _, true, rfl, SqG.seq (.inr hx), fun H1 s1 => ⟨_, rfl, iteY rfl ?_⟩⟩
        have hx1 : SqT K H1 a xs := SqT.same s1 hx.sqT
        refine ⟨_, rfl, a, rfl, ⟨_, hx1⟩, fun D nD => lc_tup (K := K) (a := a) (xs := xs) (fun i G => Same H1 G ∧ G D = some (.lst ((bs.take i).map V.bl))) ⟨Same.new nD, upd_same⟩ (fun i G _ q => SqT.same q.1 hx1) ?_ ?_⟩
        · rintro i x G hi ⟨sG, hD⟩
          have li := (List.getElem?_eq_some_iff.mp hi).1
          rw [← hb.1] at li
          have eb : bs[i]? = some bs[i] := by simp [li]
          obtain ⟨t, ty, et⟩ := (hb.2 i x _ hi eb).same (s1.trans sG)
          refine ⟨rfl, _, rfl, x, _, t, _, bs[i], rfl, .own _, ty, et, _, hD, ?_, fun c u e => by rw [upd_ne (ne_of_none e nD)]; exact sG _ _ e, ?_⟩
          · rw [List.length_map, List.length_take]
            exact small1000 (by omega)
          · rw [upd_same, List.take_succ, eb, List.map_append]
            rfl
        · rintro G ⟨sG, hD⟩
          rw [← hb.1, List.take_length] at hD
          exact ⟨D, bs, rfl, SqL.of hD, k G (s1.trans sG)⟩
end
section
variable {X : Cx}
theorem call_tupleG : CallR X (.type "tuple") (fun xs H Q => ∃ a ys, xs = [.ref a] ∧ SqG X.K H a ys ∧ ∀ l H', Same H H' → TupG X.K H' l ys → Q (.ref l) H') := by
  intro pins s σ H xs us Q I r h
  obtain ⟨a, ys, rfl, hs, q⟩ := h
  refine call_tuple_of pins s σ H _ us Q I r ⟨a, ys, rfl, ?_⟩
  rcases hs with hs | hs
  · exact .inl ⟨SqL.of hs, fun l nl => q l _ (Same.new nl) (.inl upd_same)⟩
  · exact .inr ⟨hs.sqT, q a H (Same.refl H) hs⟩
end
structure ToolC (K : PySem.W.Frag) (C : Addr) : Prop where
  cl : Cls K C
  rows : NoAttr K C "rows"
  sorts : NoAttr K C "sorts"
def toolF (t : Addr) (y : V) : List (Str × V) := putF "sorts" y (putF "rows" (.ref t) [])
def spToolI (K : PySem.W.Frag) (C CT D : Addr) : Sp := fun vs H Q E => ∃ (p dx : Addr) (x y : V) (rr sb : Bool), vs = [.ref p, x, y] ∧ H p = some (.ins CT dx []) ∧ AnsR K C H x rr ∧ SrtV K H y sb ∧
  (rr = true → sb = true → ∀ H' t a xs, x = .ref a → SqG K H a xs → TupG K H' t xs → Kept p H H' → H' p = some (.ins CT dx (toolF t y)) → Q .non H') ∧ (rr = false → Raised D H (.str "rows") E) ∧ (rr = true → sb = false → Raised D H (.str "sorts") E)
section
variable {P : Program} {w : World} {K : PySem.W.Frag} {mg : Str → Option Value} {base : Heap}
theorem scToolI : FnScope ["self", "rows", "sorts"] ["self", "rows", "sorts"] (defScope sToolI) := ⟨rfl, rfl, rfl, by decide +kernel, rfl, by decide +kernel, by decide +kernel⟩
theorem ok_toolI {f fR fI C CT D : Addr} {fd fdR fdI : FuncData} {dvs : List V} (F : FunD K "__init__" "Tool.__init__" (defArgs sToolI) (defBody sToolI) (defScope sToolI) dvs [] f fd) (T : TxtK mg) (hbool : mg "bool" = none) (Z : ToolC K CT)
    (GR : FnOk P w K mg base CX0 2 fR fdR ["value"] (spAreR K C)) (gR : mg "are_rows" = some (.ref fR)) (kR : PySem.W.keepIn K (.ref fR) = true) (bR : Binds K fdR ["value"] [])
    (Y : XC K mg D fI "InvalidRow" "part") (GI : FnOk P w K mg base CX0 1 fI fdI ["self", "part"] (spInit K D "part")) (bI : Binds K fdI ["self", "part"] []) : FnOk P w K mg base (L2.CX P w) 3 f fd ["self", "rows", "sorts"] (spToolI K C CT D) := by
  refine F.ok scToolI (fun vs H Q E h => ?_) (fun cdv A outer s H vs Q E hr h => ?_)
  · obtain ⟨p, dx, x, y, rr, sb, rfl, _⟩ := h
    rfl
  · obtain ⟨p, dx, x, y, rr, sb, rfl, hp, hx, hy, k1, k2, k3⟩ := h
    refine ⟨_, (pss_cons (ps_if (pt_not (pt_val (pe_call GR hr (by rfl) gR kR bR .nil pass0 (pa_cons (pv 1) pa_nil))))
      (pss_one (ps_raise rfl (takes_of rfl rfl rfl rfl) (pmk_oex Y.oex Y.init Y.tI GI hr bI .nil pass0 (by rfl) Y.gC (pa_cons pe_str pa_nil))))
      pss_nil)
    (pss_cons (ps_if (pt_not (pt_val (pe_callB call_isi (by rfl) T.isinstance (by decide +kernel) (pa_cons (pv 2) (pa_cons (pe_bltn (v := .ty "bool") (by rfl) hbool (by decide +kernel) rfl) pa_nil)))))
      (pss_one (ps_raise rfl (takes_of rfl rfl rfl rfl) (pmk_oex Y.oex Y.init Y.tI GI hr bI .nil pass0 (by rfl) Y.gC (pa_cons pe_str pa_nil))))
      pss_nil)
    (pss_cons (ps_fld (pv 0) (pe_callTy call_tupleG (by rfl) T.tuple (by decide +kernel) (pa_cons (pv 1) pa_nil)) rfl)
    (pss_one (ps_fld (pv 0) (pv 2) rfl))))), ?_⟩
    refine ⟨_, rfl, x, rr, rfl, hx, fun H1 s1 => ⟨_, rfl, ?_⟩⟩
    cases rr with
    | false => exact iteY rfl ⟨by show 1 ≤ 1000; decide, fun a ha => raised_at Y.oex Y.no ha (k2 rfl |>.same s1)⟩
    | true =>
      obtain ⟨t, ty, et⟩ := (hy.isT).same s1
      refine iteN rfl ⟨_, rfl, _, _, t, _, sb, rfl, .ty _, ty, et, _, rfl, ?_⟩
      cases sb with
      | false => exact iteY rfl ⟨by show 1 ≤ 1000; decide, fun a ha => raised_at Y.oex Y.no ha (k3 rfl rfl |>.same s1)⟩
      | true =>
        refine iteN rfl ?_
        rcases hx with ⟨_, z⟩ | ⟨a, xs, bs, rfl, hs, _⟩
        · cases z
        refine ⟨_, rfl, a, xs, rfl, hs.same s1, fun l H2 s2 hl2 => ⟨_, rfl, p, CT, dx, _, rfl, s2 _ _ (s1 _ _ hp), Z.cl, Z.rows, (by show 0 < 1000; decide), ?_⟩⟩
        refine ⟨_, rfl, _, rfl, p, CT, dx, _, rfl, upd_same, Z.cl, Z.sorts, ?_, ?_⟩
        · exact Nat.lt_of_le_of_lt (length_putF _ _ []) (by show 0 + 1 < 1000; decide)
        · refine k1 rfl rfl _ l a xs rfl hs ?_ (((Kept.of_same (s1.trans s2)).trans Kept.box).trans Kept.box) upd_same
          exact (hl2.put_ins (s2 _ _ (s1 _ _ hp))).put_ins upd_same
end
end Lay
set_option Elab.async false
set_option linter.all false
set_option maxRecDepth 100000
set_option maxHeartbeats 4000000
namespace Lay
open PySem L2
/-! ### rows and tools as texts -/
/-- what a row is made of -/
structure RD where
  ws : List Str
  us : List Str
structure RD.Ok (r : RD) : Prop where
  w : ∀ z ∈ r.ws, z.length ≤ 20
  u : ∀ z ∈ r.us, z.length ≤ 20
  lw : r.ws.length ≤ 10
  lu : r.us.length ≤ 10
  nu : 0 < r.us.length
  k : ∀ z ∈ r.ws, PyData.strOk z = true
def rowWords (r : RD) : List Str := if r.ws = [] then ["do", Txt.join " then " r.us] else ["if", Txt.join " and " r.ws, "do", Txt.join " then " r.us]
def rowText (r : RD) : Str := Txt.join " " (rowWords r)
/-- at p a row of r -/
def RowAt (C : Addr) (H : Hp) (p : Addr) (r : RD) : Prop := ∃ dx t d, H p = some (.ins C dx (rowF t d)) ∧ H t = some (.tup (r.ws.map V.str)) ∧ H d = some (.tup (r.us.map V.str))
theorem RowAt.same {C : Addr} {H H' : Hp} {p : Addr} {r : RD} (s : Same H H') (h : RowAt C H p r) : RowAt C H' p r := by
  obtain ⟨dx, t, d, h1, h2, h3⟩ := h
  exact ⟨dx, t, d, s _ _ h1, s _ _ h2, s _ _ h3⟩
theorem sum_few : ∀ {zs : List Str} {n : Nat}, (∀ z ∈ zs, z.length ≤ n) → (zs.map (·.length)).sum ≤ zs.length * n
  | [], _, _ => by simp
  | z :: zs, n, h => by
    have h1 := h z List.mem_cons_self
    have h2 := sum_few (zs := zs) fun y hy => h y (List.mem_cons_of_mem _ hy)
    rw [List.map_cons, List.sum_cons, List.length_cons, Nat.succ_mul]
    omega
def spWordsOf (C : Addr) : Sp := fun vs H Q _ => ∃ (p : Addr) (r : RD), vs = [.ref p] ∧ RowAt C H p r ∧ r.Ok ∧ ∀ l H', Same H H' → H l = none → H' l = some (.lst ((rowWords r).map V.str)) → Q (.ref l) H'
abbrev sRW : Stmt := top 18
section
variable {P : Program} {w : World} {K : PySem.W.Frag} {mg : Str → Option Value} {base : Heap}
theorem scRW : FnScope ["row", "done"] ["row"] (defScope sRW) := ⟨rfl, rfl, rfl, by decide +kernel, rfl, by decide +kernel, by decide +kernel⟩
theorem ok_rowWords {f C : Addr} {fd : FuncData} (F : Fun K "row_words" "row_words" sRW f fd) (hlen : mg "len" = none) (Z : RowC K C) : FnOk P w K mg base CX0 1 f fd ["row"] (spWordsOf C) := by
  refine F.ok scRW (fun vs H Q E h => ?_) (fun cdv A outer s H vs Q E hr h => ?_)
  · obtain ⟨p, r, rfl, _⟩ := h
    rfl
  · obtain ⟨p, r, rfl, ⟨dx, t, d, hp, ht, hd⟩, o, k⟩ := h
    refine ⟨_, (pss_cons (ps_set (i := 1) scRW.nd rfl (.inl rfl) (pe_lst (pa_cons pe_str (pa_cons (pe_bm PySem.F.plainAttrs_str PySem.F.slot_str_join PySem.F.type_str_join mt_join pe_str (pa_cons (pe_fld (pv 0) rfl) pa_nil)) pa_nil))))
      (pss_cons (ps_if (pt_cmpR op_eq (pe_callB call_len_seq (by rfl) hlen PySem.boot_len (pa_cons (pe_fld (pv 0) rfl) pa_nil)) pe_int (nomark _)) (pss_one (ps_ret (pv 1))) pss_nil)
      (pss_one (ps_ret (pe_lst (pa_cons pe_str (pa_cons (pe_bm PySem.F.plainAttrs_str PySem.F.slot_str_join PySem.F.type_str_join mt_join pe_str (pa_cons (pe_fld (pv 0) rfl) pa_nil)) (StX.pa_star (pv 1) pa_nil)))))))), ?_⟩
    have hsum := sum_few o.u
    have hsum2 := sum_few o.w
    have lw := o.lw
    have lu := o.lu
    have j1 : (Str.ofString " then ").length = 6 := by decide
    have j2 : (Str.ofString " and ").length = 5 := by decide
    refine ⟨rfl, _, rfl, p, C, dx, _, _, rfl, hp, Z.cl, Z.deeds, rfl, _, d, r.us, rfl, rfl, .inr (SqT.of hd), ?_, (by show 2 ≤ sizeLine; decide), fun l1 n1 => ?_⟩
    · rw [j1]
      omega
    have s1 := Same.new n1 (o := .lst [.str "do", .str (Txt.join " then " r.us)])
    refine ⟨_, rfl, p, C, dx, _, _, rfl, s1 _ _ hp, Z.cl, Z.tests, rfl, t, _, rfl, .inr (SqT.of (s1 _ _ ht)), rfl, _, rfl, ?_⟩
    refine ite2 (fun q => ?_) (fun q => ?_)
    · have e0 : r.ws = [] := by
        have h0 := V.int.inj (of_decide_eq_true q)
        rw [List.length_map] at h0
        exact List.length_eq_zero_iff.mp (by omega)
      refine ⟨_, rfl, k l1 _ s1 n1 ?_⟩
      rw [upd_same]
      unfold rowWords
      rw [if_pos e0]
      rfl
    · have e0 : ¬ r.ws = [] := fun z => q (by rw [z]; rfl)
      refine ⟨rfl, _, rfl, p, C, dx, _, _, rfl, s1 _ _ hp, Z.cl, Z.tests, rfl, _, t, r.ws, rfl, rfl, .inr (SqT.of (s1 _ _ ht)), ?_, _, rfl, l1, _, rfl, .inr (SqL.of upd_same), (by show 4 ≤ sizeLine; decide), fun l2 n2 => ?_⟩
      · rw [j2]
        omega
      · refine k l2 _ (s1.trans (Same.new n2)) (s1.free n2) ?_
        rw [upd_same]
        unfold rowWords
        rw [if_neg e0]
        rfl
end
end Lay
set_option Elab.async false
set_option linter.all false
set_option maxRecDepth 100000
set_option maxHeartbeats 4000000
namespace Lay
open PySem L2
theorem sjoin_le (sep : Str) : ∀ ts : List Str, (Str.join sep ts).length ≤ (ts.map (·.length)).sum + ts.length * sep.length
  | [] => by
    show (Str.join sep []).length ≤ _
    have : (Str.join sep []).length = 0 := rfl
    omega
  | [t] => by
    show t.length ≤ _
    rw [List.map_cons, List.sum_cons]
    omega
  | t :: u :: r => by
    have ih := sjoin_le sep (u :: r)
    show (t ++ sep ++ Str.join sep (u :: r)).length ≤ _
    rw [Str.length_append, Str.length_append, List.map_cons, List.sum_cons, List.length_cons, Nat.succ_mul]
    omega
theorem join_le (sep : Str) (ts : List Str) : (Txt.join sep ts).length ≤ (ts.map (·.length)).sum + ts.length * sep.length := by
  rw [TL.join_eq]
  exact sjoin_le sep ts
theorem row_few {r : RD} (o : r.Ok) : ∀ z ∈ rowWords r, z.length ≤ 260 := fun z hz => by
  have h1 := join_le " then " r.us
  have h2 := join_le " and " r.ws
  have s1 := sum_few o.u
  have s2 := sum_few o.w
  have lw := o.lw
  have lu := o.lu
  have j1 : (Str.ofString " then ").length = 6 := by decide
  have j2 : (Str.ofString " and ").length = 5 := by decide
  have d1 : (Str.ofString "do").length = 2 := by decide
  have d2 : (Str.ofString "if").length = 2 := by decide
  rw [j1] at h1
  rw [j2] at h2
  unfold rowWords at hz
  split at hz
  · simp only [List.mem_cons, List.not_mem_nil, or_false] at hz
    rcases hz with rfl | rfl
    · omega
    · omega
  · simp only [List.mem_cons, List.not_mem_nil, or_false] at hz
    rcases hz with rfl | rfl | rfl | rfl
    · omega
    · omega
    · omega
    · omega
theorem rowWords_4 (r : RD) : (rowWords r).length ≤ 4 := by
  unfold rowWords
  split
  · show 2 ≤ 4
    omega
  · show 4 ≤ 4
    omega
theorem rowText_few {r : RD} (o : r.Ok) : (rowText r).length ≤ 1100 := by
  have h := join_le " " (rowWords r)
  have s := sum_few (row_few o)
  have l := rowWords_4 r
  have j : (Str.ofString " ").length = 1 := by decide
  rw [j] at h
  unfold rowText
  omega
def spStrRow (C : Addr) : Sp := fun vs H Q _ => ∃ (p : Addr) (r : RD), vs = [.ref p] ∧ RowAt C H p r ∧ r.Ok ∧ ∀ H', Same H H' → Q (.str (rowText r)) H'
abbrev sStrRow : Stmt := inClass (top 21) 2
section
variable {P : Program} {w : World} {K : PySem.W.Frag} {mg : Str → Option Value} {base : Heap}
theorem scStrRow : FnScope ["self"] ["self"] (defScope sStrRow) := ⟨rfl, rfl, rfl, by decide +kernel, rfl, by decide +kernel, by decide +kernel⟩
theorem ok_strRow {f fW C : Addr} {fd fdW : FuncData} (F : Fun K "__str__" "Row.__str__" sStrRow f fd) (GW : FnOk P w K mg base CX0 1 fW fdW ["row"] (spWordsOf C)) (gW : mg "row_words" = some (.ref fW)) (kW : PySem.W.keepIn K (.ref fW) = true) (bW : Binds K fdW ["row"] []) : FnOk P w K mg base CX0 2 f fd ["self"] (spStrRow C) := by
  refine F.ok scStrRow (fun vs H Q E h => ?_) (fun cdv A outer s H vs Q E hr h => ?_)
  · obtain ⟨p, r, rfl, _⟩ := h
    rfl
  · obtain ⟨p, r, rfl, hp, o, k⟩ := h
    refine ⟨_, pss_one (ps_ret (pe_bm PySem.F.plainAttrs_str PySem.F.slot_str_join PySem.F.type_str_join mt_join pe_str (pa_cons (pe_call GW hr (by rfl) gW kW bW .nil pass0 (pa_cons (pv 0) pa_nil)) pa_nil))), ?_⟩
    refine ⟨rfl, _, rfl, p, r, rfl, hp, o, fun l H' s n hl => ⟨_, l, rowWords r, rfl, rfl, .inl (SqL.of hl), ?_, k H' s⟩⟩
    have s1 := sum_few (row_few o)
    have l4 := rowWords_4 r
    have j : (Str.ofString " ").length = 1 := by decide
    rw [j]
    omega
end
end Lay
set_option Elab.async false
set_option linter.all false
set_option maxRecDepth 100000
set_option maxHeartbeats 4000000
/-! str(x), x == y, x != y, x + y by what an own class defines. -/
namespace Lay
open PySem PySem.Spec PyProof.Rows L2
section
variable {X : Cx} {CX : CXT} {C f : Addr} {n : Nat} {fd : FuncData} {ps : List Str} {sp : Sp}
/-- a def called beneath, with its values -/
theorem run_sub {A : Around} {pins : List (Addr × Obj)} {σ : L2.St} {H : Hp} {s : Shared} {Q : VK} {us : List Value} {vs : List V} {Post : Value → Shared → Prop} (F : FnOk X.prog X.w X.K X.mg X.base CX n f fd ps sp) (hr : Sub X n A) (hb : Binds X.K fd ps []) (hx : Passes CX X E0)
    (I : Inv X pins σ H s) (r : Vals vs us) (h : sp vs H Q E0) (post : ∀ v u H' s', Inv X pins σ H' s' → RelV v u → Q v H' → Post u s') : wpAny (model X.prog X.w) A (call (.ref f) us) Post X.xe s := by
  have hl : us.length = ps.length := by rw [← r.length]; exact F.len _ _ _ _ h
  have b := hb s us I.kIn (by rw [List.append_nil]; exact hl)
  rw [List.append_nil] at b
  have e := I.env0
  have e0 : Env0 X.prog X.w X.K X.mg X.base A X.stack s H := ⟨by rw [hr.fr]; exact e.frames, e.mod, e.bs, e.bsz, e.funs, e.frf, e.hok, e.bare⟩
  refine wpAny_call (codeAny_mono (F.run A X.stack s H ⟨us, []⟩ us vs Q E0 hr.room e0 b r h) fun r s' hq => ?_)
  cases r with
  | error er => exact hx pins σ H s er s' I hq
  | ok fl =>
    cases fl with
    | ret u =>
      obtain ⟨v, H', I', rv, q⟩ := I.after hq
      exact post v u H' s' I' rv q
    | next => exact False.elim hq
    | brk => exact False.elim hq
    | cont => exact False.elim hq
theorem call_strOwn (F : FnOk X.prog X.w X.K X.mg X.base CX n f fd ps sp) (hs : PySem.W.findIn X.K (.ref C) "__str__" = some (some (.ref f))) (hf : PySem.W.isFn X.K (.ref f) = true) (hr : Room (n + 2) X.A) (hb : Binds X.K fd ps []) (hx : Passes CX X E0) :
    CallR X (.type "str") (fun xs H Q => ∃ (a dx : Addr) (fs : List (Str × V)), xs = [.ref a] ∧ H a = some (.ins C dx fs) ∧ sp [.ref a] H (fun v H' => ∃ z, v = .str z ∧ Q (.str z) H') E0) := by
  intro pins s σ H xs us Q I r h
  obtain ⟨a, dx, fs, rfl, ha, q⟩ := h
  obtain ⟨u, rfl, ru⟩ := vals1 r
  cases ru
  obtain ⟨mA, J, _⟩ := ins_get I.hok ha
  obtain ⟨od, J, _⟩ := J.look
  have sb : Sub X n X.A.in1.in1 := ⟨hr.in1.in1, rfl⟩
  refine PySem.W.kso_call sb.room.units0 I.kIn J hs hf (run_sub (vs := [V.ref a]) F sb hb hx I (.cons rfl .nil) q fun v u H' s' I' rv hq => ?_)
  obtain ⟨z, rfl, hq⟩ := hq
  obtain ⟨t, rfl⟩ := rv
  exact ⟨.str z, H', I', ⟨t, rfl⟩, hq⟩
/-- x == y, two instances of the class -/
theorem op_eqOwn (F : FnOk X.prog X.w X.K X.mg X.base CX n f fd ps sp) (hs : PySem.W.findIn X.K (.ref C) "__eq__" = some (some (.ref f))) (hf : PySem.W.isFn X.K (.ref f) = true) (hr : Room n X.A) (hb : Binds X.K fd ps []) (hx : Passes CX X E0) :
    OpR X (compareOp .Eq) (fun x y H Q => ∃ (a b dx dy : Addr) (fs gs : List (Str × V)), x = .ref a ∧ y = .ref b ∧ H a = some (.ins C dx fs) ∧ H b = some (.ins C dy gs) ∧ sp [.ref a, .ref b] H (fun v H' => ∃ z, v = .bl z ∧ Q (.bl z) H') E0) := by
  intro pins s σ H x y v u Q I rx ry h
  obtain ⟨a, b, dx, dy, fs, gs, rfl, rfl, ha, hb2, q⟩ := h
  cases rx
  cases ry
  obtain ⟨mA, J, _⟩ := ins_get I.hok ha
  obtain ⟨mB, J', _⟩ := ins_get I.hok hb2
  obtain ⟨od, J, _⟩ := J.look
  obtain ⟨od', J', _⟩ := J'.look
  obtain ⟨m, hF⟩ := I.fr
  have sb : Sub X n X.A := ⟨hr, rfl⟩
  show wpAny (model X.prog X.w) X.A (richCompare .Eq (.ref a) (.ref b)) (EP X pins σ Q) X.xe s
  refine PySem.W.cmp_K (op := .Eq) (tb := .ref C) sb.room.units0 hF I.ok.mod.kin J J'.type (by simp [PySem.W.notFirst]) hs hf (run_sub (vs := [V.ref a, V.ref b]) F sb hb hx I (.cons rfl (.cons rfl .nil)) q fun v u H' s' I' rv hq => ?_)
  obtain ⟨z, rfl, hq⟩ := hq
  cases rv
  exact ⟨.bl z, H', I', rfl, hq⟩
/-- x + y, two instances of the class, by its __add__ -/
theorem op_addOwn (F : FnOk X.prog X.w X.K X.mg X.base CX n f fd ps sp) (hs : PySem.W.findIn X.K (.ref C) "__add__" = some (some (.ref f))) (hc : PySem.W.selfFirst X.K C = true) (hf : PySem.W.isFn X.K (.ref f) = true) (hr : Room n X.A) (hb : Binds X.K fd ps []) (hx : Passes CX X E0) :
    OpR X (binaryOp .Add) (fun x y H Q => ∃ (a b dx dy : Addr) (fs gs : List (Str × V)), x = .ref a ∧ y = .ref b ∧ H a = some (.ins C dx fs) ∧ H b = some (.ins C dy gs) ∧ sp [.ref a, .ref b] H (fun v H' => ∃ c, v = .ref c ∧ Q (.ref c) H') E0) := by
  intro pins s σ H x y v u Q I rx ry h
  obtain ⟨a, b, dx, dy, fs, gs, rfl, rfl, ha, hb2, q⟩ := h
  cases rx
  cases ry
  obtain ⟨mA, J, _⟩ := ins_get I.hok ha
  obtain ⟨mB, J', _⟩ := ins_get I.hok hb2
  obtain ⟨od, J, _⟩ := J.look
  obtain ⟨od', J', _⟩ := J'.look
  obtain ⟨m, hF⟩ := I.fr
  have sb : Sub X n X.A := ⟨hr, rfl⟩
  refine PySem.W.binop_K (op := .Add) hF I.ok.mod.kin J J'.type hc hs hf (run_sub (vs := [V.ref a, V.ref b]) F sb hb hx I (.cons rfl (.cons rfl .nil)) q fun v u H' s' I' rv hq => ?_)
  obtain ⟨c, rfl, hq⟩ := hq
  cases rv
  exact ⟨.ref c, H', I', rfl, hq⟩
end
section
variable {prog : Program} {w : World} {A : Around} {E : Value → Shared → Prop} {s : Shared} {K : PySem.W.Frag} {x C f : Addr} {ox : Obj} {od : Option Obj} {b : Value}
theorem check_slot_K {M : Model} {id owner n : String} {rest : List Value} {Q : Unit → Shared → Prop} (hk : builtinKind id = some .slot) (hs : splitId id = some (owner, n))
    (ha : argsOk id ⟨.ref x :: rest, []⟩) (X : K.In s.heap) (I : PySem.W.InstAt s.heap x ox C od) (hm : PySem.W.mroIn K C (.type owner) = some true) (hq : Q () s) :
    wpAny M A (checkBuiltinCall id ⟨.ref x :: rest, []⟩) Q E s := by
  simp only [checkBuiltinCall, hk, hs]
  refine wpAny_bind ?_
  · unfold isInstance
    refine wpAny_bind (I.type.here ((PySem.W.looks_mroIn X hm).here ?_))
    rw [if_neg (by decide : ¬ (!true) = true)]
    cases hsig : Manifest.signature? id with
    | none => exact wpAny_pure hq
    | some sig =>
      simp only [argsOk, hsig] at ha
      have h2 : Bind.checkArgs id sig ⟨.ref x :: rest, []⟩ = pure () := ha
      show wpAny M A (Bind.checkArgs id sig ⟨.ref x :: rest, []⟩) Q E _
      rw [h2]
      exact wpAny_pure hq
theorem ne_entry {Q : PySem.Fin → Shared → Prop} (hu : A.units < cLine) (X : K.In s.heap) (I : PySem.W.InstAt s.heap x ox C od) (heq : PySem.W.findIn K (.ref C) "__eq__" = some (some (.ref f))) (hf : PySem.W.isFn K (.ref f) = true)
    (h : wpAny (model prog w) A (call (.ref f) [.ref x, b]) (fun v s' => ∃ z, v = .bool z ∧ Q (.done (.ret (.bool (!z)))) s') E s) : wpAny (model prog w) A (Builtin.«object.__ne__» ⟨[.ref x, b], []⟩) Q E s := by
  unfold Builtin.«object.__ne__»
  repeat (first | with_reducible refine wpAny_cRoomFor hu ?_ | (with_reducible refine PySem.W.ifBound_K X I heq hf (wpAny_mono h ?_ fun _ _ e => e)) | wp_step)
  rintro v s' ⟨z, rfl, q⟩
  repeat (first | wp_step)
  exact q
theorem ifBound_B {M : Model} {id : String} {name : Str} {args : List Value} {Q : Option Value → Shared → Prop} (S : ∀ v, bindSpecial (.builtin id) v = pure (.builtin id, [v])) (X : K.In s.heap) (I : PySem.W.InstAt s.heap x ox C od) (hs : PySem.W.findIn K (.ref C) name = some (some (.builtin id)))
    (h : wpAny M A (call (.builtin id) (.ref x :: args)) (fun v => Q (some v)) E s) : wpAny M A (callSpecialIfBound? (.ref x) name args) Q E s := by
  simp only [callSpecialIfBound?, bindSpecialIfBound?]
  refine wpAny_holding (wpAny_bind (wpAny_bind (wpAny_bind (I.type.here ((PySem.W.looks_findIn X hs).here ?_)))))
  simp only [S]
  refine wpAny_bind (wpAny_askSetting (wpAny_ite ?_))
  have fin : wpAny M A (call (.builtin id) ([.ref x] ++ args) >>= fun v => pure (some v)) Q E s := wpAny_bind (wpAny_mono h (fun v s' h' => wpAny_pure h') fun _ _ h' => h')
  split
  · exact wpAny_bind (wpAny_pure (wpAny_pure (by exact fin)))
  · exact wpAny_tryCatch (wpAny_bind (wpAny_pure (wpAny_pure (by exact fin))))
theorem ne_own {Q : Value → Shared → Prop} (hu : A.units + 1 < cLine) (X : K.In s.heap) (I : PySem.W.InstAt s.heap x ox C od) (hb : PySem.W.Looks (model prog w) s.heap (typeOf b) (.ref C)) (hne : PySem.W.findIn K (.ref C) "__ne__" = some (some (.builtin "object.__ne__")))
    (heq : PySem.W.findIn K (.ref C) "__eq__" = some (some (.ref f))) (hf : PySem.W.isFn K (.ref f) = true) (hm : PySem.W.mroIn K C (.type "object") = some true)
    (h : wpAny (model prog w) A.in1 (call (.ref f) [.ref x, b]) (fun v s' => ∃ z, v = .bool z ∧ Q (.bool (!z)) s') E s) : wpAny (model prog w) A (richCompare .NotEq (.ref x) b) Q E s := by
  have one : wpAny (model prog w) A (tryCompare (.ref x) "__ne__" b) (fun r s' => ∃ v, r = some v ∧ Q v s') E s := by
    unfold tryCompare
    refine wpAny_bind (ifBound_B F.cmp_object.ne.bind X I hne (wpAny_call (codeAny_call_builtin F.cmp_object.ne.plain F.cmpEntry_ne (check_slot_K F.cmpKind_ne F.cmpSplit_ne (F.cmpArgs_ne _ _) X I hm (ne_entry (A := A.in1) hu X I heq hf ?_)))))
    refine wpAny_mono h (fun v s' hv => ?_) fun _ _ e => e
    obtain ⟨z, rfl, q⟩ := hv
    exact ⟨z, rfl, wpAny_pure ⟨_, rfl, q⟩⟩
  unfold richCompare
  simp only [oneThing_ref]
  refine wpAny_holding (wpAny_bind (wpAny_cRoomFor (Nat.lt_of_succ_lt hu) ?_))
  refine wpAny_bind (I.type.here (wpAny_bind (hb.here ?_)))
  rw [if_neg (by simp)]
  refine wpAny_bind (wpAny_pure ?_)
  simp only [Bool.false_eq_true, if_false]
  refine wpAny_bind (wpAny_mono one (fun r s' z => ?_) fun _ _ e => e)
  obtain ⟨v, rfl, hq⟩ := z
  exact wpAny_pure hq
end
section
variable {X : Cx} {CX : CXT} {C f : Addr} {n : Nat} {fd : FuncData} {ps : List Str} {sp : Sp}
/-- x != y, two instances of the class, by its __eq__ -/
theorem op_neOwn (F : FnOk X.prog X.w X.K X.mg X.base CX n f fd ps sp) (hs : PySem.W.findIn X.K (.ref C) "__eq__" = some (some (.ref f))) (hne : PySem.W.findIn X.K (.ref C) "__ne__" = some (some (.builtin "object.__ne__"))) (hm : PySem.W.mroIn X.K C (.type "object") = some true)
    (hf : PySem.W.isFn X.K (.ref f) = true) (hr : Room (n + 1) X.A) (hb : Binds X.K fd ps []) (hx : Passes CX X E0) :
    OpR X (compareOp .NotEq) (fun x y H Q => ∃ (a b dx dy : Addr) (fs gs : List (Str × V)), x = .ref a ∧ y = .ref b ∧ H a = some (.ins C dx fs) ∧ H b = some (.ins C dy gs) ∧ sp [.ref a, .ref b] H (fun v H' => ∃ z, v = .bl z ∧ Q (.bl (!z)) H') E0) := by
  intro pins s σ H x y v u Q I rx ry h
  obtain ⟨a, b, dx, dy, fs, gs, rfl, rfl, ha, hb2, q⟩ := h
  cases rx
  cases ry
  obtain ⟨mA, J, _⟩ := ins_get I.hok ha
  obtain ⟨mB, J', _⟩ := ins_get I.hok hb2
  obtain ⟨od, J, _⟩ := J.look
  obtain ⟨od', J', _⟩ := J'.look
  have sb : Sub X n X.A.in1 := ⟨hr.in1, rfl⟩
  show wpAny (model X.prog X.w) X.A (richCompare .NotEq (.ref a) (.ref b)) (EP X pins σ Q) X.xe s
  refine ne_own sb.room.units0 I.kIn J J'.type hne hs hf hm (run_sub (vs := [V.ref a, V.ref b]) F sb hb hx I (.cons rfl (.cons rfl .nil)) q fun v u H' s' I' rv hq => ?_)
  obtain ⟨z, rfl, hq⟩ := hq
  cases rv
  exact ⟨z, rfl, .bl (!z), H', I', rfl, hq⟩
/-- len(x) by its __len__ -/
theorem call_lenOwn (F : FnOk X.prog X.w X.K X.mg X.base CX n f fd ps sp) (hs : PySem.W.findIn X.K (.ref C) "__len__" = some (some (.ref f))) (hf : PySem.W.isFn X.K (.ref f) = true) (hr : Room (n + 1) X.A) (hb : Binds X.K fd ps []) (hx : Passes CX X E0) :
    CallR X (.builtin "len") (fun xs H Q => ∃ (a dx : Addr) (fs : List (Str × V)), xs = [.ref a] ∧ H a = some (.ins C dx fs) ∧ sp [.ref a] H (fun v H' => ∃ k : Int, v = .int k ∧ 0 ≤ k ∧ k < 2 ^ 63 ∧ Q (.int k) H') E0) := by
  intro pins s σ H xs us Q I r h
  obtain ⟨a, dx, fs, rfl, ha, q⟩ := h
  obtain ⟨u, rfl, ru⟩ := vals1 r
  cases ru
  obtain ⟨mA, J, _⟩ := ins_get I.hok ha
  obtain ⟨od, J, _⟩ := J.look
  obtain ⟨m, hF⟩ := I.fr
  have sb : Sub X n X.A.in1 := ⟨hr.in1, rfl⟩
  refine PySem.W.len_K hF I.ok.mod.kin J hs hf (run_sub (vs := [V.ref a]) F sb hb hx I (.cons rfl .nil) q fun v u H' s' I' rv hq => ?_)
  obtain ⟨k, rfl, k0, k1, hq⟩ := hq
  obtain ⟨t, rfl⟩ := rv
  exact ⟨⟨k0, k1⟩, .int k, H', I'.tok _, ⟨_, rfl⟩, hq⟩
end
end Lay
set_option Elab.async false
set_option linter.all false
set_option maxRecDepth 100000
set_option maxHeartbeats 4000000
/-! x += y by __add__; sequences of the same objects compared. -/
namespace Lay
open PySem PySem.Spec PyProof.Rows L2
theorem refs_eq : ∀ {xs : List V} {as bs : List Value}, (∀ v ∈ xs, ∃ p, v = V.ref p) → Vals xs as → Vals xs bs → as = bs
  | [], _, _, _, ra, rb => by
    cases ra
    cases rb
    rfl
  | x :: xs, _, _, h, ra, rb => by
    obtain ⟨p, rfl⟩ := h x List.mem_cons_self
    cases ra with
    | cons r1 ra =>
      cases rb with
      | cons r2 rb =>
        cases r1
        cases r2
        rw [refs_eq (fun v hv => h v (List.mem_cons_of_mem _ hv)) ra rb]
section
variable {X : Cx}
theorem op_neSameT (hu : X.A.units + 64 < cLine) : OpR X (compareOp .NotEq) (fun x y H Q => ∃ a b xs, x = .ref a ∧ y = .ref b ∧ SqT X.K H a xs ∧ SqT X.K H b xs ∧ (∀ v ∈ xs, ∃ p, v = V.ref p) ∧ Q (.bl false) H) := by
  intro pins s σ H x y v u Q I rx ry h
  obtain ⟨a, b, xs, rfl, rfl, ha, hb, hr, q⟩ := h
  cases rx
  cases ry
  obtain ⟨its, r, p1, _⟩ := I.tuple ha
  obtain ⟨its2, r2, p2, _⟩ := I.tuple hb
  obtain rfl := refs_eq hr r r2
  refine SeqAt.RcNeAt.tuples (A := X.A) (e := fun _ => true) p1 p2 (by omega) (fun j h1 h2 => SeqAt.EqAt.same _) X.prog X.w X.xe (EP X pins σ Q) ?_
  have : (!((List.range (min its.toArray.size its.toArray.size)).all (fun _ => true) && its.toArray.size == its.toArray.size)) = false := by simp
  rw [this]
  exact ⟨.bl false, H, I, rfl, q⟩
theorem op_eqSameT (hu : X.A.units + 64 < cLine) : OpR X (compareOp .Eq) (fun x y H Q => ∃ a b xs, x = .ref a ∧ y = .ref b ∧ SqT X.K H a xs ∧ SqT X.K H b xs ∧ (∀ v ∈ xs, ∃ p, v = V.ref p) ∧ Q (.bl true) H) := by
  intro pins s σ H x y v u Q I rx ry h
  obtain ⟨a, b, xs, rfl, rfl, ha, hb, hr, q⟩ := h
  cases rx
  cases ry
  obtain ⟨its, r, p1, _⟩ := I.tuple ha
  obtain ⟨its2, r2, p2, _⟩ := I.tuple hb
  obtain rfl := refs_eq hr r r2
  refine SeqAt.RcAt.tuples (A := X.A) (e := fun _ => true) p1 p2 (by omega) (fun j h1 h2 => SeqAt.EqAt.same _) X.prog X.w X.xe (EP X pins σ Q) ?_
  have : ((List.range (min its.toArray.size its.toArray.size)).all (fun _ => true) && its.toArray.size == its.toArray.size) = true := by simp
  rw [this]
  exact ⟨.bl true, H, I, rfl, q⟩
theorem op_neSameL (hu : X.A.units + 64 < cLine) : OpR X (compareOp .NotEq) (fun x y H Q => ∃ a b xs, x = .ref a ∧ y = .ref b ∧ SqL X.K H a xs ∧ SqL X.K H b xs ∧ (∀ v ∈ xs, ∃ p, v = V.ref p) ∧ Q (.bl false) H) := by
  intro pins s σ H x y v u Q I rx ry h
  obtain ⟨a, b, xs, rfl, rfl, ha, hb, hr, q⟩ := h
  cases rx
  cases ry
  obtain ⟨its, r, p1, _⟩ := I.list ha
  obtain ⟨its2, r2, p2, _⟩ := I.list hb
  obtain rfl := refs_eq hr r r2
  refine SeqAt.RcNeAt.lists (A := X.A) (e := fun _ => true) p1.isList p2.isList rfl (by omega) (fun j h1 h2 => SeqAt.EqAt.same _) X.prog X.w X.xe (EP X pins σ Q) ?_
  have : (!((List.range its.toArray.size).all (fun _ => true))) = false := by simp
  rw [this]
  exact ⟨.bl false, H, I, rfl, q⟩
end
section
variable {prog : Program} {w : World} {A : Around} {E : Value → Shared → Prop} {s : Shared} {K : PySem.W.Frag} {x C L f : Addr} {h₀ : Heap} {m : Str → Option Value} {ox : Obj} {od : Option Obj}
theorem fillsI_K {M : Model} {h : Heap} {cd : ClassData} {nm : String} {b : Bool} (X : K.In h) (hc : PySem.W.clsIn K C = some cd) (hm : cd.mro = [.ref C, .type "object"]) (h1 : PySem.W.findIn K (.ref C) (PySem.dunderI nm) = some none)
    (h2 : PySem.W.findIn K (.type "object") (PySem.dunderI nm) = some none) : PySem.W.Looks M h (fillsInplaceSlot (.ref C) nm b) false := by
  intro A Q E s k q
  unfold fillsInplaceSlot
  refine wpAny_bind ((PySem.W.looks_clsIn X hc).andThen (f := fun cd => pure cd.mro) .now A _ E s k ?_)
  rw [hm, List.anyM_cons]
  refine wpAny_bind (wpAny_bind (PySem.W.looks_findIn X h1 A _ E s k ?_))
  refine wpAny_pure ?_
  rw [if_neg Bool.false_ne_true, List.anyM_cons]
  refine wpAny_bind (wpAny_bind (PySem.W.looks_findIn X h2 A _ E s k ?_))
  refine wpAny_pure ?_
  rw [if_neg Bool.false_ne_true]
  exact wpAny_pure q
theorem iop_K {op : Operator} {b : Value} {cd : ClassData} {Q : Value → Shared → Prop} (F : PyProof.Rows.Fr h₀ L s.heap m) (X₀ : K.In h₀) (I : PySem.W.InstAt s.heap x ox C od) (hb : PySem.W.Looks (model prog w) s.heap (typeOf b) (.ref C)) (hcd : PySem.W.clsIn K C = some cd) (hm : cd.mro = [.ref C, .type "object"])
    (h1 : PySem.W.findIn K (.ref C) (PySem.dunderI op.info.2) = some none) (h2 : PySem.W.findIn K (.type "object") (PySem.dunderI op.info.2) = some none)
    (hs : PySem.W.findIn K (.ref C) (PySem.dunder op.info.2) = some (some (.ref f))) (hf : PySem.W.isFn K (.ref f) = true)
    (h : wpAny (model prog w) A (call (.ref f) [.ref x, b]) (PySem.W.CmpBack Q) E s) : wpAny (model prog w) A (inplaceOp op (.ref x) b) Q E s := by
  have X := X₀.keeps F.keep
  unfold inplaceOp
  refine wpAny_holding (wpAny_bind (I.type.here (wpAny_bind ((fillsI_K X hcd hm h1 h2).here ?_))))
  simp only [Bool.false_eq_true, if_false]
  refine wpAny_bind ?_
  unfold binaryOp1
  refine wpAny_bind (I.type.here (wpAny_bind (hb.here (wpAny_bind ((PySem.W.fills_K X hcd hm hs).here ?_)))))
  simp only [beq_self_eq_true, if_true]
  refine wpAny_bind (wpAny_pure ?_)
  simp only [Bool.and_false, Bool.false_eq_true, if_false, Bool.false_and]
  refine wpAny_bind (wpAny_pure ?_)
  simp only [Bool.false_eq_true, if_false]
  refine wpAny_bind (m := tryMethod (.ref x) _ b) ?_
  unfold tryMethod
  refine wpAny_bind (PySem.W.special_fn X I hs (beq_iff_eq.mp hf) (wpAny_mono h (fun v s' hv => ?_) fun _ _ e => e))
  cases v <;> first | exact hv.elim | exact wpAny_pure (wpAny_pure (wpAny_pure hv))
end
section
variable {X : Cx} {CX : CXT} {C f : Addr} {n : Nat} {fd : FuncData} {ps : List Str} {sp : Sp}
/-- x += y, two instances of the class, by its __add__ -/
theorem ip_addOwn {cd : ClassData} (F : FnOk X.prog X.w X.K X.mg X.base CX n f fd ps sp) (hs : PySem.W.findIn X.K (.ref C) "__add__" = some (some (.ref f))) (hcd : PySem.W.clsIn X.K C = some cd) (hm : cd.mro = [.ref C, .type "object"]) (h1 : PySem.W.findIn X.K (.ref C) "__iadd__" = some none)
    (h2 : PySem.W.findIn X.K (.type "object") "__iadd__" = some none) (hf : PySem.W.isFn X.K (.ref f) = true) (hr : Room n X.A) (hb : Binds X.K fd ps []) (hx : Passes CX X E0) :
    PIp X .Add (fun x y H Q => ∃ (a b dx dy : Addr) (fs gs : List (Str × V)), x = .ref a ∧ y = .ref b ∧ H a = some (.ins C dx fs) ∧ H b = some (.ins C dy gs) ∧ sp [.ref a, .ref b] H (fun v H' => ∃ c, v = .ref c ∧ Q (.ref c) H') E0) := by
  intro pins s σ H x y v u Q I rx ry h
  obtain ⟨a, b, dx, dy, fs, gs, rfl, rfl, ha, hb2, q⟩ := h
  cases rx
  cases ry
  obtain ⟨mA, J, _⟩ := ins_get I.hok ha
  obtain ⟨mB, J', _⟩ := ins_get I.hok hb2
  obtain ⟨od, J, _⟩ := J.look
  obtain ⟨od', J', _⟩ := J'.look
  obtain ⟨m, hF⟩ := I.fr
  have sb : Sub X n X.A := ⟨hr, rfl⟩
  refine iop_K (op := .Add) hF I.ok.mod.kin J J'.type hcd hm h1 h2 hs hf (run_sub (vs := [V.ref a, V.ref b]) F sb hb hx I (.cons rfl (.cons rfl .nil)) q fun v u H' s' I' rv hq => ?_)
  obtain ⟨c, rfl, hq⟩ := hq
  cases rv
  exact ⟨.ref c, H', I', rfl, hq⟩
end
end Lay
set_option Elab.async false
set_option linter.all false
set_option maxRecDepth 100000
set_option maxHeartbeats 4000000
/-! x in (a, b, ..) where x is an own instance whose __eq__ says no to each. -/
namespace PySem.SeqAt
open AutoSeq1 (wpAny_loadPart')
open MeetsSeq MeetsSeq2 MeetsSeq3
def ItemNo (prog : Program) (w : World) (A : Around) (R : Result → Shared → Prop) (Pv : Shared → Prop) (y x : Value) : Prop :=
  ∀ s', Pv s' → wpAny (model prog w) A (eqBool y x) (fun b s'' => b = false ∧ Pv s'') (fun e s'' => R (.error e) s'') s'
theorem tuple_containsNo {prog : Program} {w : World} (l : Addr) (items : Array Value) (n : Nat) (dd : Option Addr) (sl : Array (Option Value)) (x : Value) (Pv : Shared → Prop) :
    MeetsIn prog w (Builtin.«tuple.__contains__» ⟨[.ref l, x], []⟩)
      (fun A R s => s.heap.get? l = some { cls := .type "tuple", dict := dd, data := .seq items n, slots := sl } ∧ Pv s ∧ (∀ y, y ∈ items → ItemNo prog w A.in1 R Pv y x) ∧ ∀ s', Pv s' → R (.ok (.ret (.bool false))) s') := by
  intro A R s h
  obtain ⟨hl, hP, he, h⟩ := h
  wp_walk using wpAny_loadPart' hl, wpAny_forIn_array _ (fun rest b s' => b.1 = none ∧ Pv s' ∧ (∀ y, y ∈ rest → y ∈ items)) _
  case turn =>
    rintro y rest b s' ⟨hb, hP', hmem⟩
    refine wpAny_bind (wpAny_mono (he y (hmem y (List.mem_cons_self ..)) s' hP') (fun c s'' hc => ?_) fun _ _ e => e)
    obtain ⟨rfl, hP2⟩ := hc
    wp_walk
    exact ⟨rfl, hP2, fun z hz => hmem z (List.mem_cons_of_mem _ hz)⟩
  case fin =>
    rintro ⟨b1, b2⟩ s' ⟨hb, hP', -⟩
    simp only at hb
    subst hb
    wp_walk
    exact h s' hP'
  case h =>
    exact ⟨rfl, hP, fun y hy => by simpa using hy⟩
theorem in_meetsIn {prog : Program} {w : World} {A : Around} {E : Value → Shared → Prop} {s : Shared} {T id : String} {B : Builtin} {c x : Value} {S : Spec} {Q : Value → Shared → Prop} (hT : s.TypeIs c T) (slot : Slot T "__contains__" id)
    (entry : entryFor table id = some B) (args : argsOk id ⟨[c, x], []⟩) (g : MeetsIn prog w (B ⟨[c, x], []⟩) S)
    (h : S A (wants (fun v s' => ∃ b, v = .bool b ∧ Q (.bool b) s') E) s) : wpAny (model prog w) A (compareOp .In x c) Q E s := by
  show wpAny _ A (do return .bool (← contains c x)) Q E s
  refine wpAny_bind (wpAny_contains_slot hT slot (wpAny_mono (call_meetsIn slot hT entry args g h) (fun v s' hv => ?_) fun _ _ e => e))
  obtain ⟨b, rfl, hq⟩ := hv
  exact wpAny_truthy_bool (wpAny_pure hq)
end PySem.SeqAt
namespace Lay
open PySem PySem.Spec PyProof.Rows L2
section
variable {prog : Program} {w : World} {A : Around} {E : Value → Shared → Prop} {s : Shared} {K : PySem.W.Frag} {x C L f : Addr} {h₀ : Heap} {m : Str → Option Value} {ox : Obj} {od : Option Obj}
/-- y == x, y of a built-in type that declines, x an own instance -/
theorem rc_right {y : Value} {T id : String} {Q : Value → Shared → Prop} (hu : A.units < cLine) (F : PyProof.Rows.Fr h₀ L s.heap m) (X₀ : K.In h₀) (I : PySem.W.InstAt s.heap x ox C od) (ha : s.TypeIs y T) (hm : PySem.W.mroIn K C (.type T) = some false)
    (h1 : Slot T (cmpInfo .Eq).2.1 id) (hc : wpAny (model prog w) A (call (.builtin id) [y, .ref x]) (fun v s' => v = .notImplemented ∧ s' = s) E s)
    (hs : PySem.W.findIn K (.ref C) "__eq__" = some (some (.ref f))) (hf : PySem.W.isFn K (.ref f) = true)
    (h : wpAny (model prog w) A (call (.ref f) [.ref x, y]) (PySem.W.CmpBack Q) E s) : wpAny (model prog w) A (richCompare .Eq y (.ref x)) Q E s := by
  have X := X₀.keeps F.keep
  have one : wpAny (model prog w) A (tryCompare (.ref x) "__eq__" y) (fun r s' => ∃ v, r = some v ∧ Q v s') E s := by
    unfold tryCompare
    refine wpAny_bind (PySem.W.ifBound_K X I hs hf (wpAny_mono h (fun v s' hv => ?_) fun _ _ e => e))
    cases v <;> first | exact hv.elim | exact wpAny_pure ⟨_, rfl, hv⟩
  unfold richCompare
  simp only [ha.oneThing_none]
  refine wpAny_holding (wpAny_bind (wpAny_cRoomFor hu ?_))
  refine wpAny_bind (wpAny_typeOf ha (wpAny_bind (I.type.here ?_)))
  rw [if_pos (by simp)]
  refine wpAny_bind ((PySem.W.looks_mroIn X hm).here ?_)
  simp only [Bool.false_eq_true, if_false, Bool.not_false, if_true]
  refine wpAny_bind (m := tryCompare y _ (.ref x)) (wpAny_tryCompare_declines ha h1 (wpAny_mono hc (fun v s' hv => ?_) fun _ _ e => e))
  obtain ⟨rfl, rfl⟩ := hv
  refine ⟨rfl, ?_⟩
  refine wpAny_bind (wpAny_mono one (fun r s' z => ?_) fun _ _ e => e)
  obtain ⟨v, rfl, hq⟩ := z
  exact wpAny_pure hq
theorem eq_right {y : Value} {T id : String} {Q : Bool → Shared → Prop} (hu : A.units < cLine) (F : PyProof.Rows.Fr h₀ L s.heap m) (X₀ : K.In h₀) (I : PySem.W.InstAt s.heap x ox C od) (ha : s.TypeIs y T) (hm : PySem.W.mroIn K C (.type T) = some false) (hne : y ≠ .ref x)
    (h1 : Slot T (cmpInfo .Eq).2.1 id) (hc : wpAny (model prog w) A (call (.builtin id) [y, .ref x]) (fun v s' => v = .notImplemented ∧ s' = s) E s)
    (hs : PySem.W.findIn K (.ref C) "__eq__" = some (some (.ref f))) (hf : PySem.W.isFn K (.ref f) = true)
    (h : wpAny (model prog w) A (call (.ref f) [.ref x, y]) (fun v s' => v = .bool false ∧ Q false s') E s) : wpAny (model prog w) A (eqBool y (.ref x)) Q E s := by
  unfold eqBool
  refine wpAny_holding ?_
  refine wpAny_ite_split (fun hab => absurd (eq_of_beq hab) hne) (fun _ => ?_)
  have core : wpAny (model prog w) A (richCompare .Eq y (.ref x)) (fun v s' => v = .bool false ∧ Q false s') E s := rc_right hu F X₀ I ha hm h1 hc hs hf (wpAny_mono h (fun v s' hv => by
    obtain ⟨rfl, q⟩ := hv
    exact ⟨rfl, q⟩) fun _ _ e => e)
  have fin : wpAny (model prog w) A (richCompare .Eq y (.ref x) >>= truthOfDropped) Q E s := wpAny_bind (wpAny_mono core (fun v s' hv => by
    obtain ⟨rfl, q⟩ := hv
    exact wpAny_truthy_bool q) fun _ _ e => e)
  cases y <;> exact fin
theorem str_declines {z : Str} {t : Tok} {dx : Addr} (h : s.heap.get? x = some (PySem.W.instObj C dx)) : wpAny (model prog w) A (call (.builtin "str.__eq__") [.str z t, .ref x]) (fun v s' => v = .notImplemented ∧ s' = s) E s := by
  refine call_meets (S := fun _ R s => s.heap.get? x = some (PySem.W.instObj C dx) ∧ R (.ok (.ret .notImplemented)) s) F.slot_str_eq (typeIs_str s z t) F.entry_str_eq (F.args_str_eq_2 _ _) ?_ ⟨h, rfl, rfl⟩
  intro prog w A R s h
  obtain ⟨hp, g, d, tk, os⟩ := s
  obtain ⟨hl, h⟩ := h
  wp_walk using wpAny_load hl
  exact h
theorem none_declines : wpAny (model prog w) A (call (.builtin "NoneType.__eq__") [.none, .ref x]) (fun v s' => v = .notImplemented ∧ s' = s) E s :=
  call_gives F.slot_NoneType_eq rfl F.entry_NoneType_eq (F.args_NoneType_eq_2 _ _) (SeqAt.NoneType___eq___none_ref_0 x) ⟨rfl, rfl⟩
theorem isInst_own {base : String} {b : Bool} {Q : Bool → Shared → Prop} (X : K.In s.heap) (I : PySem.W.InstAt s.heap x ox C od) (hm : PySem.W.mroIn K C (.type base) = some b) (h : Q b s) : wpAny (model prog w) A (isInstance (.ref x) (.type base)) Q E s := by
  unfold isInstance
  exact wpAny_bind (I.type.here ((PySem.W.looks_mroIn X hm).here h))
theorem tup_declines {l : Addr} (X : K.In s.heap) (I : PySem.W.InstAt s.heap x ox C od) (hm : PySem.W.mroIn K C (.type "tuple") = some false) (hl : s.TypeIs (.ref l) "tuple") : wpAny (model prog w) A (call (.builtin "tuple.__eq__") [.ref l, .ref x]) (fun v s' => v = .notImplemented ∧ s' = s) E s := by
  refine call_meetsIn (S := fun _ R s => (K.In s.heap ∧ PySem.W.InstAt s.heap x ox C od) ∧ R (.ok (.ret .notImplemented)) s) F.slot_tuple_eq hl F.entry_tuple_eq (F.args_tuple_eq_2 _ _) ?_ ⟨⟨X, I⟩, rfl, rfl⟩
  intro A R s h
  obtain ⟨⟨X, I⟩, h⟩ := h
  show wpAny _ _ (isInstance (.ref x) (.type "tuple") >>= _) _ _ s
  refine wpAny_bind (isInst_own X I hm ?_)
  exact wpAny_pure h
theorem lst_declines {l : Addr} (X : K.In s.heap) (I : PySem.W.InstAt s.heap x ox C od) (hm : PySem.W.mroIn K C (.type "list") = some false) (hl : s.TypeIs (.ref l) "list") : wpAny (model prog w) A (call (.builtin "list.__eq__") [.ref l, .ref x]) (fun v s' => v = .notImplemented ∧ s' = s) E s := by
  refine call_meetsIn (S := fun _ R s => (K.In s.heap ∧ PySem.W.InstAt s.heap x ox C od) ∧ R (.ok (.ret .notImplemented)) s) F.slot_list_eq hl F.entry_list_eq (F.args_list_eq_2 _ _) ?_ ⟨⟨X, I⟩, rfl, rfl⟩
  intro A R s h
  obtain ⟨⟨X, I⟩, h⟩ := h
  show wpAny _ _ (isInstance (.ref x) (.type "list") >>= _) _ _ s
  refine wpAny_bind (isInst_own X I hm ?_)
  exact wpAny_pure h
end
theorem vals_at : ∀ {xs : List V} {us : List Value} {i : Nat} {u : Value}, Vals xs us → us[i]? = some u → ∃ x, xs[i]? = some x ∧ RelV x u
  | _, _, _, _, .nil, e => by simp at e
  | _, _, 0, _, .cons r _, e => by simp at e; subst e; exact ⟨_, rfl, r⟩
  | _, _, i + 1, u, .cons _ t, e => by
    obtain ⟨x, h, r⟩ := vals_at (i := i) t (by simpa using e)
    exact ⟨x, by simpa using h, r⟩
/-- a value that is no instance: text, None, tuple, list -/
def Oth (K : PySem.W.Frag) (H : Hp) (v : V) : Prop := (∃ z, v = .str z) ∨ v = .non ∨ (∃ a xs, v = .ref a ∧ SqT K H a xs) ∨ (∃ a xs, v = .ref a ∧ SqL K H a xs)
/-- that an own class is none of these -/
structure NoBase (K : PySem.W.Frag) (C : Addr) : Prop where
  str : PySem.W.mroIn K C (.type "str") = some false
  tup : PySem.W.mroIn K C (.type "tuple") = some false
  lst : PySem.W.mroIn K C (.type "list") = some false
  non : PySem.W.mroIn K C (.type "NoneType") = some false
section
variable {X : Cx} {CX : CXT} {C f : Addr} {n : Nat} {fd : FuncData} {ps : List Str} {sp : Sp}
/-- x in t: x an instance, all in t other things to which its __eq__ says no -/
theorem op_inNo (G : FnOk X.prog X.w X.K X.mg X.base CX n f fd ps sp) (hs : PySem.W.findIn X.K (.ref C) "__eq__" = some (some (.ref f))) (hf : PySem.W.isFn X.K (.ref f) = true) (nb : NoBase X.K C) (hr : Room (n + 1) X.A) (hb : Binds X.K fd ps []) (hx : Passes CX X E0) :
    OpR X (compareOp .In) (fun x y H Q => ∃ (p dx a : Addr) (fs : List (Str × V)) (ys : List V), x = .ref p ∧ y = .ref a ∧ H p = some (.ins C dx fs) ∧ SqT X.K H a ys ∧ (∀ v ∈ ys, Oth X.K H v) ∧
      (∀ v ∈ ys, ∀ H1, Same H H1 → sp [.ref p, v] H1 (fun r H' => r = .bl false ∧ Same H1 H') E0) ∧ ∀ H', Same H H' → Q (.bl false) H') := by
  intro pins s σ H x y v u Q I rx ry h
  obtain ⟨p, dx, a, fs, ys, rfl, rfl, hp, hy, ho, hq, k⟩ := h
  cases rx
  cases ry
  obtain ⟨its, r, ⟨⟨cls, dd, data, sl⟩, e1, e2, n1, e3⟩, _⟩ := I.tuple hy
  simp only at e2 e3
  subst e2 e3
  refine SeqAt.in_meetsIn ⟨_, e1, rfl⟩ PySem.F.slot_tuple_contains PySem.F.entry_tuple_contains (PySem.F.args_tuple_contains_2 _ _) (SeqAt.tuple_containsNo a its.toArray n1 dd sl (.ref p) (fun s' => ∃ H', Same H H' ∧ Inv X pins σ H' s')) ⟨e1, ⟨H, Same.refl H, I⟩, ?_, fun s' hs' => ?_⟩
  · intro y0 hy0 s' hP
    obtain ⟨H1, s1, I1⟩ := hP
    obtain ⟨i, hi⟩ := List.mem_iff_getElem?.mp (by simpa using hy0 : y0 ∈ its)
    obtain ⟨v0, hv0, rv⟩ := vals_at r hi
    have hm := List.mem_of_getElem? hv0
    obtain ⟨mA, J, _⟩ := ins_get I1.hok (s1 _ _ hp)
    have ob := J.1
    obtain ⟨od, J, _⟩ := J.look
    obtain ⟨m, hF⟩ := I1.fr
    have sb : Sub X n X.A.in1 := ⟨hr.in1, rfl⟩
    have hu : X.A.in1.units < cLine := hr.in1.units0
    have own : wpAny (model X.prog X.w) X.A.in1 (call (.ref f) [.ref p, y0]) (fun r s'' => r = .bool false ∧ (false = false ∧ ∃ H', Same H H' ∧ Inv X pins σ H' s'')) X.xe s' := by
      refine run_sub (vs := [V.ref p, v0]) G sb hb hx I1 (.cons rfl (.cons rv .nil)) (hq v0 hm H1 s1) fun v u H' s'' I' rv' hq' => ?_
      obtain ⟨rfl, s2⟩ := hq'
      cases rv'
      exact ⟨rfl, rfl, H', s1.trans s2, I'⟩
    have nep : ∀ {l : Addr} {T : String}, s'.TypeIs (.ref l) T → (Value.ref l ≠ Value.ref p) := fun ht e => by
      cases e
      obtain ⟨o, ho, hc⟩ := ht
      rw [J.at_] at ho
      cases ho
      rw [J.cls] at hc
      cases hc
    rcases ho v0 hm with ⟨z, rfl⟩ | rfl | ⟨a2, xs2, rfl, h2⟩ | ⟨a2, xs2, rfl, h2⟩
    · obtain ⟨t, rfl⟩ := rv
      exact eq_right hu hF I1.ok.mod.kin J (typeIs_str s' z t) nb.str (fun e => nomatch e) PySem.F.slot_str_eq (str_declines ob) hs hf own
    · cases rv
      exact eq_right hu hF I1.ok.mod.kin J (T := "NoneType") rfl nb.non (fun e => nomatch e) PySem.F.slot_NoneType_eq none_declines hs hf own
    · cases rv
      obtain ⟨its2, r2, ht, _⟩ := I1.tuple (show SqT X.K H1 a2 xs2 from by
        rcases h2 with (h | ⟨o, h⟩) | h
        · exact .inl (.inl (s1 _ _ h))
        · exact .inl (.inr ⟨o, s1 _ _ h⟩)
        · exact .inr h)
      exact eq_right hu hF I1.ok.mod.kin J ht.typeIs nb.tup (nep ht.typeIs) PySem.F.slot_tuple_eq (tup_declines I1.kIn J nb.tup ht.typeIs) hs hf own
    · cases rv
      obtain ⟨its2, r2, ht, _⟩ := I1.list (show SqL X.K H1 a2 xs2 from by
        rcases h2 with (h | ⟨o, h⟩) | h
        · exact .inl (.inl (s1 _ _ h))
        · exact .inl (.inr ⟨o, s1 _ _ h⟩)
        · exact .inr h)
      exact eq_right hu hF I1.ok.mod.kin J ht.isList.typeIs nb.lst (nep ht.isList.typeIs) PySem.F.slot_list_eq (lst_declines I1.kIn J nb.lst ht.isList.typeIs) hs hf own
  · obtain ⟨H', s2, I'⟩ := hs'
    exact ⟨false, rfl, .bl false, H', I', rfl, k H' s2⟩
end
end Lay
set_option Elab.async false
set_option linter.all false
set_option maxRecDepth 100000
set_option maxHeartbeats 4000000
namespace Lay
open PySem PySem.Spec PyProof.Rows L2
section
variable {X : Cx}
theorem pe_mono {e : Expr} {t t' : TE} (h : PE X e t) (m : ∀ σ H Q, t' σ H Q → t σ H Q) : PE X e t' := ⟨fun pins s σ H Q I q => h.run pins s σ H Q I (m σ H Q q)⟩
end
/-- a reading with a weaker wish -/
def clo (t : TE) : TE := fun σ H Q => ∃ R : VK, t σ H R ∧ ∀ v H1, R v H1 → Q v H1
def cloA (t : TA) : TA := fun σ H Q => ∃ R : List V → Hp → Prop, t σ H R ∧ ∀ v H1, R v H1 → Q v H1
section
variable {X : Cx} {e : Expr} {es : List Expr} {ta : TE} {t : TA}
theorem pe_clo (he : PE X e ta) : PE X e (clo ta) := ⟨fun pins s σ H Q I h => by
  obtain ⟨R, hR, m⟩ := h
  refine thn (he.run pins s σ H R I hR) fun v s' hv => ?_
  obtain ⟨x, H', I', r, q⟩ := hv
  exact ⟨x, H', I', r, m _ _ q⟩⟩
theorem pa_clo (ha : PA X es t) : PA X es (cloA t) := ⟨fun pos pins s σ H Q I h => by
  obtain ⟨R, hR, m⟩ := h
  refine thn (ha.run pos pins s σ H R I hR) fun v s' hv => ?_
  obtain ⟨x, H', I', r, q⟩ := hv
  exact ⟨x, H', I', r, m _ _ q⟩⟩
end
theorem made_same {x dx : Addr} {H H' : Hp} {o : HO} (hx : H x = none) (hd : H dx = none) (k : Kept x (upd (upd H dx (.own x)) x o) H') : Same H H' := fun b u e => k b u (ne_of_none e hx) (by rw [upd_ne (ne_of_none e hx), upd_ne (ne_of_none e hd)]; exact e)
theorem fresh_own {H : Hp} {p d : Addr} {o : HO} (np : H p = none) (ne : d ≠ p) : upd H d o p = none := by
  rw [upd_ne (Ne.symm ne)]
  exact np
section
variable {X : Cx} {CT : Addr}
theorem pe_fldX {e : Expr} {ta : TE} {f : Str} {pos : Pos} (he : PE X e ta) (c : Cls X.K CT) (nf : NoAttr X.K CT f) (hb : attributeBase e f X.env (eval e X.env) = eval e X.env := by rfl) :
    PE X (.Attribute e f pos) (fun σ H Q => ta σ H fun x H1 => ∃ p dx fs v, x = .ref p ∧ H1 p = some (.ins CT dx fs) ∧ fs.lookup f = some v ∧ Q v H1) := by
  refine pe_mono (pe_fld (pe_clo he) hb) fun σ H Q h => ⟨_, h, fun v H1 q => ?_⟩
  obtain ⟨p, dx, fs, y, rfl, hp, hl, q⟩ := q
  exact ⟨p, CT, dx, fs, y, rfl, hp, c, nf, hl, q⟩
end
end Lay
set_option Elab.async false
set_option linter.all false
set_option maxRecDepth 100000
set_option maxHeartbeats 4000000
namespace Lay
open PySem L2
structure ClsI (K : PySem.W.Frag) (C : Addr) : Prop where
  cl : Cls K C
  ha : PySem.W.findIn K (.ref C) "__class__" = some (some (.builtin "object.__class__"))
  hn : PySem.W.specialIn K (.builtin "object.__class__") "__get__" = some (some (.builtin "getset_descriptor.__get__"))
  htk : PySem.W.takesIn K (.builtin "object.__class__") = some true
  hm : PySem.W.mroIn K C (.type "object") = some true
theorem ClsI.at {K : PySem.W.Frag} {C a dx : Addr} {H : Hp} {fs : List (Str × V)} (c : ClsI K C) (h : H a = some (.ins C dx fs)) : TyX K H (.ref a) (.ref C) := .base (.ins h c.cl c.ha c.hn c.htk c.hm)
theorem kit_same {K : PySem.W.Frag} {C : Addr} : PySem.W.kitOne K (.ref C) (.ref C) = some true := by
  unfold PySem.W.kitOne
  rw [if_pos (by simp)]
theorem RowAt.isP {K : PySem.W.Frag} {C p : Addr} {H : Hp} {r : RD} (c : ClsI K C) (h : RowAt C H p r) : IsP K C H (.ref p) true := by
  obtain ⟨dx, t, d, h1, _⟩ := h
  exact ⟨_, c.at h1, kit_same⟩
section
variable {X : Cx}
theorem op_catG : OpR X (binaryOp .Add) (fun x y H Q => ∃ a b xs ys, x = .ref a ∧ y = .ref b ∧ TupG X.K H a xs ∧ TupG X.K H b ys ∧ xs.length + ys.length ≤ 1000 ∧ ∀ p H', Same H H' → TupG X.K H' p (xs ++ ys) → Q (.ref p) H') := by
  intro pins s σ H x y v u Q I rx ry h
  obtain ⟨a, b, xs, ys, rfl, rfl, ha, hb, hl, q⟩ := h
  refine op_catA pins s σ H _ _ v u Q I rx ry ⟨a, b, xs, ys, rfl, rfl, ha.sqT, hb.sqT, fits hl, fun e => ?_, fun _ e => ?_, fun _ _ p np => q p _ (Same.new np) (.inl upd_same)⟩
  · subst e
    exact q b H (Same.refl H) hb
  · subst e
    exact q a H (Same.refl H) (by rw [List.append_nil]; exact ha)
end
/-- a row that is let -/
def spRowG (K : PySem.W.Frag) (C : Addr) : Sp := fun vs H Q _ => ∃ (p dx a c : Addr) (r : RD), vs = [.ref p, .ref a, .ref c] ∧ H p = some (.ins C dx []) ∧ SqX H a (r.ws.map V.str) ∧ SqX H c (r.us.map V.str) ∧ r.Ok ∧ (∀ z ∈ r.ws, progT z = true) ∧ (∀ z ∈ r.us, progD z = true) ∧
  ∀ H', Kept p H H' → RowAt C H' p r → Q .non H'
theorem good_ans {f : Str → Bool} {more : List V → Bool} {K : PySem.W.Frag} {H : Hp} {t : Addr} {ws : List Str} (h : SqX H t (ws.map V.str)) (l : ws.length ≤ 1000) (m : more (ws.map V.str) = true) (g : ∀ z ∈ ws, f z = true ∧ z.length ≤ 1000) : AnsV f more K H (.ref t) true := by
  refine .inr ⟨t, _, ws.map f, rfl, h, by rw [List.length_map]; exact l, ⟨by rw [List.length_map, List.length_map], fun i x b hx hb => ?_⟩, ?_⟩
  · obtain ⟨z, hz, rfl⟩ := str_at hx
    rw [List.getElem?_map, hz] at hb
    cases hb
    exact .inl ⟨z, rfl, (g z (List.mem_of_getElem? hz)).2, rfl⟩
  · rw [m, Bool.true_and]
    symm
    rw [List.all_eq_true]
    intro b hb
    obtain ⟨z, hz, rfl⟩ := List.mem_map.mp hb
    exact (g z hz).1
/-- a tool that is let -/
def spToolG (K : PySem.W.Frag) (C CT : Addr) : Sp := fun vs H Q _ => ∃ (p dx a : Addr) (xs : List V) (s : Bool), vs = [.ref p, .ref a, .bl s] ∧ H p = some (.ins CT dx []) ∧ SqG K H a xs ∧ xs.length ≤ 1000 ∧ (∀ v ∈ xs, IsP K C H v true) ∧
  ∀ H' t, TupG K H' t xs → Kept p H H' → H' p = some (.ins CT dx (toolF t (.bl s))) → Q .non H'
section
variable {P : Program} {w : World} {K : PySem.W.Frag} {mg : Str → Option Value} {base : Heap}
theorem ok_rowG {f fT fD C : Addr} {fd fdT fdD : FuncData} {dvs : List V} (F : FunD K "__init__" "Row.__init__" (defArgs sRowI) (defBody sRowI) (defScope sRowI) dvs [] f fd) (T : TxtK mg) (Z : RowC K C)
    (GT : FnOk P w K mg base CX0 2 fT fdT ["value"] (spAre progT yes K)) (gT : mg "are_tests" = some (.ref fT)) (kT : PySem.W.keepIn K (.ref fT) = true) (bT : Binds K fdT ["value"] [])
    (GD : FnOk P w K mg base CX0 2 fD fdD ["value"] (spAre progD full K)) (gD : mg "are_deeds" = some (.ref fD)) (kD : PySem.W.keepIn K (.ref fD) = true) (bD : Binds K fdD ["value"] []) : FnOk P w K mg base CX0 3 f fd ["self", "tests", "deeds"] (spRowG K C) := by
  refine F.ok scRowI (fun vs H Q E h => ?_) (fun cdv A outer s H vs Q E hr h => ?_)
  · obtain ⟨p, dx, a, c, r, rfl, _⟩ := h
    rfl
  · obtain ⟨p, dx, a, c, r, rfl, hp, hx, hy, o, gt, gd, k⟩ := h
    refine ⟨_, (pss_cons (ps_if (pt_not (pt_val (pe_call GT hr (by rfl) gT kT bT .nil pass0 (pa_cons (pv 1) pa_nil)))) pss_never pss_nil)
    (pss_cons (ps_if (pt_not (pt_val (pe_call GD hr (by rfl) gD kD bD .nil pass0 (pa_cons (pv 2) pa_nil)))) pss_never pss_nil)
    (pss_cons (ps_fld (pv 0) (pe_callTy call_tupleX (by rfl) T.tuple (by decide +kernel) (pa_cons (pv 1) pa_nil)) rfl)
    (pss_one (ps_fld (pv 0) (pe_callTy call_tupleX (by rfl) T.tuple (by decide +kernel) (pa_cons (pv 2) pa_nil)) rfl))))), ?_⟩
    have lw := o.lw
    have lu := o.lu
    have at_ := good_ans (K := K) (more := yes) hx (by omega) rfl fun z h => ⟨gt z h, by have := o.w z h; omega⟩
    have ad_ := good_ans (K := K) (more := full) hy (by omega) (decide_eq_true (by rw [List.length_map]; exact o.nu)) fun z h => ⟨gd z h, by have := o.u z h; omega⟩
    refine ⟨_, rfl, _, true, rfl, at_, fun H1 s1 => ⟨_, rfl, iteN rfl ⟨_, rfl, _, true, rfl, ad_.same s1, fun H2 s2 => ⟨_, rfl, iteN rfl ?_⟩⟩⟩⟩
    have s12 := s1.trans s2
    have nap : a ≠ p := by
      rcases hx with h | h
      · exact ne_of h hp (fun z => nomatch z)
      · exact ne_of h hp (fun z => nomatch z)
    have ncp : c ≠ p := by
      rcases hy with h | h
      · exact ne_of h hp (fun z => nomatch z)
      · exact ne_of h hp (fun z => nomatch z)
    refine ⟨_, rfl, a, _, rfl, hx.same s12, fun t H3 s3 h3 => ⟨_, rfl, p, C, dx, _, rfl, s3 _ _ (s12 _ _ hp), Z.cl, Z.tests, (by show 0 < 1000; decide), ?_⟩⟩
    have k4 : Kept p H (upd H3 p (.ins C dx (putF "tests" (.ref t) []))) := (Kept.of_same (s12.trans s3)).trans Kept.box
    have hy4 : SqX (upd H3 p (.ins C dx (putF "tests" (.ref t) []))) c (r.us.map V.str) := hy.imp (k4 _ _ ncp) (k4 _ _ ncp)
    have ntp : t ≠ p := ne_of h3 (s3 _ _ (s12 _ _ hp)) (fun z => nomatch z)
    refine ⟨_, rfl, c, _, rfl, hy4, fun d H5 s5 h5 => ⟨_, rfl, p, C, dx, _, rfl, s5 _ _ upd_same, Z.cl, Z.deeds, ?_, ?_⟩⟩
    · exact Nat.lt_of_le_of_lt (length_putF _ _ []) (by show 0 + 1 < 1000; decide)
    · have ndp : d ≠ p := ne_of h5 (s5 _ _ upd_same) (fun z => nomatch z)
      refine k _ ((k4.trans (Kept.of_same s5)).trans Kept.box) ⟨dx, t, d, upd_same, ?_, ?_⟩
      · rw [upd_ne ntp]
        exact s5 _ _ (by rw [upd_ne ntp]; exact h3)
      · rw [upd_ne ndp]
        exact h5
theorem ok_toolG {f fR C CT : Addr} {fd fdR : FuncData} {dvs : List V} (F : FunD K "__init__" "Tool.__init__" (defArgs sToolI) (defBody sToolI) (defScope sToolI) dvs [] f fd) (T : TxtK mg) (hbool : mg "bool" = none) (Z : ToolC K CT)
    (GR : FnOk P w K mg base CX0 2 fR fdR ["value"] (spAreR K C)) (gR : mg "are_rows" = some (.ref fR)) (kR : PySem.W.keepIn K (.ref fR) = true) (bR : Binds K fdR ["value"] []) : FnOk P w K mg base CX0 3 f fd ["self", "rows", "sorts"] (spToolG K C CT) := by
  refine F.ok scToolI (fun vs H Q E h => ?_) (fun cdv A outer s H vs Q E hr h => ?_)
  · obtain ⟨p, dx, a, xs, b, rfl, _⟩ := h
    rfl
  · obtain ⟨p, dx, a, xs, b, rfl, hp, hs, hl, hi, k⟩ := h
    refine ⟨_, (pss_cons (ps_if (pt_not (pt_val (pe_call GR hr (by rfl) gR kR bR .nil pass0 (pa_cons (pv 1) pa_nil)))) pss_never pss_nil)
    (pss_cons (ps_if (pt_not (pt_val (pe_callB call_isi (by rfl) T.isinstance (by decide +kernel) (pa_cons (pv 2) (pa_cons (pe_bltn (v := .ty "bool") (by rfl) hbool (by decide +kernel) rfl) pa_nil))))) pss_never pss_nil)
    (pss_cons (ps_fld (pv 0) (pe_callTy call_tupleG (by rfl) T.tuple (by decide +kernel) (pa_cons (pv 1) pa_nil)) rfl)
    (pss_one (ps_fld (pv 0) (pv 2) rfl))))), ?_⟩
    have an : AnsR K C H (.ref a) true := by
      refine .inr ⟨a, xs, List.replicate xs.length true, rfl, hs, hl, ⟨List.length_replicate, fun n x b hx hb => ?_⟩, ?_⟩
      · rw [(List.mem_replicate.mp (List.mem_of_getElem? hb)).2]
        exact hi x (List.mem_of_getElem? hx)
      · symm
        rw [List.all_eq_true]
        intro b hb
        rw [(List.mem_replicate.mp hb).2]
        rfl
    refine ⟨_, rfl, _, true, rfl, an, fun H1 s1 => ⟨_, rfl, iteN rfl ⟨_, rfl, _, _, _, _, true, rfl, .ty _, .base (.bl b), kit_ty (by decide +kernel), _, rfl, iteN rfl ?_⟩⟩⟩
    refine ⟨_, rfl, a, xs, rfl, hs.same s1, fun l H2 s2 hl2 => ⟨_, rfl, p, CT, dx, _, rfl, s2 _ _ (s1 _ _ hp), Z.cl, Z.rows, (by show 0 < 1000; decide), ?_⟩⟩
    refine ⟨_, rfl, _, rfl, p, CT, dx, _, rfl, upd_same, Z.cl, Z.sorts, ?_, ?_⟩
    · exact Nat.lt_of_le_of_lt (length_putF _ _ []) (by show 0 + 1 < 1000; decide)
    · exact k _ l ((hl2.put_ins (s2 _ _ (s1 _ _ hp))).put_ins upd_same) (((Kept.of_same (s1.trans s2)).trans Kept.box).trans Kept.box) upd_same
end
end Lay
set_option Elab.async false
set_option linter.all false
set_option maxRecDepth 100000
set_option maxHeartbeats 4000000
namespace Lay
open PySem L2
theorem str_assoc (a b c : Str) : (a ++ b) ++ c = a ++ (b ++ c) := by
  cases a
  cases b
  cases c
  show Str.mk _ = Str.mk _
  congr 1
  exact Array.append_assoc
/-- the law's text of a row -/
theorem rowText_none {r : RD} (h : r.ws = []) : rowText r = (Str.ofString "" ++ Str.ofString "do ") ++ Txt.join " then " r.us := by
  unfold rowText rowWords
  rw [if_pos h, TL.join_eq]
  show Str.ofString "do" ++ Str.ofString " " ++ Txt.join " then " r.us = _
  rw [show Str.ofString "do" ++ Str.ofString " " = Str.ofString "" ++ Str.ofString "do " from by decide +kernel]
theorem rowText_some {r : RD} (h : ¬ r.ws = []) : rowText r = (((Str.ofString "if " ++ Txt.join " and " r.ws) ++ Str.ofString " ") ++ Str.ofString "do ") ++ Txt.join " then " r.us := by
  unfold rowText rowWords
  rw [if_neg h, TL.join_eq]
  show Str.ofString "if" ++ Str.ofString " " ++ (Txt.join " and " r.ws ++ Str.ofString " " ++ (Str.ofString "do" ++ Str.ofString " " ++ Txt.join " then " r.us)) = _
  rw [show Str.ofString "if " = Str.ofString "if" ++ Str.ofString " " from by decide +kernel, show Str.ofString "do " = Str.ofString "do" ++ Str.ofString " " from by decide +kernel]
  simp only [str_assoc]
/-- a pair of tests and deeds -/
def PrAt (H : Hp) (p : Addr) (r : RD) : Prop := ∃ t d, H p = some (.tup [.ref t, .ref d]) ∧ H t = some (.tup (r.ws.map V.str)) ∧ H d = some (.tup (r.us.map V.str))
theorem PrAt.same {H H' : Hp} {p : Addr} {r : RD} (s : Same H H') (h : PrAt H p r) : PrAt H' p r := by
  obtain ⟨t, d, h1, h2, h3⟩ := h
  exact ⟨t, d, s _ _ h1, s _ _ h2, s _ _ h3⟩
def spRowText : Sp := fun vs H Q _ => ∃ (p : Addr) (r : RD), vs = [.ref p] ∧ PrAt H p r ∧ r.Ok ∧ ∀ H', Same H H' → Q (.str (rowText r)) H'
abbrev sRowText : Stmt := top 29
theorem strs_dp {K : PySem.W.Frag} {H : Hp} : ∀ ws : List Str, DpAll K H (ws.map V.str) (ws.map PyData.str)
  | [] => .nil
  | w :: ws => .cons (.str w) (strs_dp ws)
theorem canLay_strs : ∀ ws : List Str, (∀ z ∈ ws, PyData.strOk z = true) → PyData.canLayAll0 (ws.map PyData.str) = true
  | [], _ => by simp [PyData.canLayAll0]
  | n :: r, h => by simp [PyData.canLayAll0, PyData.canLay0, h n List.mem_cons_self, canLay_strs r fun z hz => h z (List.mem_cons_of_mem _ hz)]
theorem depth_strs : ∀ ws : List Str, PyData.depthAll (ws.map PyData.str) ≤ 1
  | [] => by simp [PyData.depthAll]
  | n :: r => by
    have := depth_strs r
    simp only [List.map_cons, PyData.depthAll, PyData.depth]
    omega
theorem shaped_strs (ws : List Str) (h : ∀ z ∈ ws, PyData.strOk z = true) : PySem.SeqAt.shaped (.tuple (ws.map PyData.str)) = true := by
  have h1 := depth_strs ws
  have h2 : PyData.depth (.tuple (ws.map PyData.str)) ≤ 64 := by simp only [PyData.depth]; omega
  show (PyData.canLay0 (.tuple (ws.map PyData.str)) && decide (PyData.depth (.tuple (ws.map PyData.str)) ≤ 64)) = true
  rw [Bool.and_eq_true]
  exact ⟨by simp only [PyData.canLay0]; exact canLay_strs ws h, decide_eq_true h2⟩
theorem eqv_tup (ws : List Str) : PyData.eqv (.tuple (ws.map .str)) (.tuple []) = ws.isEmpty := by
  cases ws <;> rfl
section
variable {P : Program} {w : World} {K : PySem.W.Frag} {mg : Str → Option Value} {base : Heap}
theorem scRowText : FnScope ["_law_row"] ["_law_row"] (defScope sRowText) := ⟨rfl, rfl, rfl, by decide +kernel, rfl, by decide +kernel, by decide +kernel⟩
theorem ok_rowText {f : Addr} {fd : FuncData} (F : Fun K "_law_row_text" "_law_row_text" sRowText f fd) : FnOk P w K mg base CX0 1 f fd ["_law_row"] spRowText := by
  refine F.ok scRowText (fun vs H Q E h => ?_) (fun cdv A outer s H vs Q E hr h => ?_)
  · obtain ⟨p, r, rfl, _⟩ := h
    rfl
  · obtain ⟨p, r, rfl, ⟨t, d, hp, ht, hd⟩, o, k⟩ := h
    refine ⟨_, pss_one (ps_ret (pe_op op_add_str (pe_op op_add_str (pe_ifExp (pt_cmpR (op_neD hr.units) (pe_ix ix_tup (pv 0) pe_int (fun _ _ => rfl)) (pe_tup pa_nil) (nomark _))
        (pe_op op_add_str (pe_op op_add_str pe_str (pe_bm PySem.F.plainAttrs_str PySem.F.slot_str_join PySem.F.type_str_join mt_join pe_str (pa_cons (pe_ix ix_tup (pv 0) pe_int (fun _ _ => rfl)) pa_nil))) pe_str) pe_str) pe_str)
      (pe_bm PySem.F.plainAttrs_str PySem.F.slot_str_join PySem.F.type_str_join mt_join pe_str (pa_cons (pe_ix ix_tup (pv 0) pe_int (fun _ _ => rfl)) pa_nil)))), ?_⟩
    have hsum := sum_few o.u
    have hsum2 := sum_few o.w
    have lw := o.lw
    have lu := o.lu
    have h1 := join_le " then " r.us
    have h2 := join_le " and " r.ws
    have j1 : (Str.ofString " then ").length = 6 := by decide
    have j2 : (Str.ofString " and ").length = 5 := by decide
    have j3 : (Str.ofString "if ").length = 3 := by decide
    have j4 : (Str.ofString " ").length = 1 := by decide
    have j5 : (Str.ofString "do ").length = 3 := by decide
    have j6 : (Str.ofString "").length = 0 := by decide
    rw [j1] at h1
    rw [j2] at h2
    refine ⟨_, rfl, p, _, 0, .ref t, rfl, rfl, SqT.of hp, rfl, (by show 0 ≤ sizeLine; exact Nat.zero_le _), fun q nq => ?_⟩
    have sq := Same.new nq (o := .tup [])
    refine ⟨.tuple (r.ws.map .str), .tuple [], .tup (SqT.of (sq _ _ ht)) (strs_dp r.ws), .tup (SqT.of upd_same) .nil, shaped_strs r.ws o.k, rfl, _, rfl, ?_⟩
    rw [eqv_tup]
    by_cases e : r.ws = []
    · refine iteN (by rw [e]; rfl) ?_
      refine ⟨_, _, rfl, rfl, fits (by rw [j6, j5]; decide), rfl, _, rfl, p, _, 1, .ref d, rfl, rfl, SqT.of (sq _ _ hp), rfl, _, d, r.us, rfl, rfl, .inr (SqT.of (sq _ _ hd)), by rw [j1]; omega, _, _, rfl, rfl, fits (by rw [Str.length_append, j6, j5]; omega), ?_⟩
      rw [← rowText_none e]
      exact k _ sq
    · refine iteY (by cases h : r.ws with
        | nil => exact absurd h e
        | cons z zs => rfl) ?_
      refine ⟨rfl, _, rfl, p, _, 0, .ref t, rfl, rfl, SqT.of (sq _ _ hp), rfl, _, t, r.ws, rfl, rfl, .inr (SqT.of (sq _ _ ht)), by rw [j2]; omega, _, _, rfl, rfl, fits (by rw [j3]; omega), _, _, rfl, rfl, fits (by rw [Str.length_append, j3, j4]; omega), _, _, rfl, rfl, fits (by rw [Str.length_append, Str.length_append, j3, j4, j5]; omega),
        rfl, _, rfl, p, _, 1, .ref d, rfl, rfl, SqT.of (sq _ _ hp), rfl, _, d, r.us, rfl, rfl, .inr (SqT.of (sq _ _ hd)), by rw [j1]; omega, _, _, rfl, rfl, fits (by rw [Str.length_append, Str.length_append, Str.length_append, j3, j4, j5]; omega), ?_⟩
      rw [← rowText_some e]
      exact k _ sq
end
end Lay
set_option Elab.async false
set_option linter.all false
set_option maxRecDepth 100000
set_option maxHeartbeats 4000000
/-! t[::-1] of a tuple; an own == against an instance of another class. -/
namespace Lay
open PySem PySem.Spec PyProof.Rows L2
section
variable {prog : Program} {w : World} {A : Around} {E : Value → Shared → Prop} {s : Shared}
theorem places_rev (n : Nat) : Builtin.Slice.slicePlaces ((n : Int) - 1) (-1) (-1) = n := by
  unfold Builtin.Slice.slicePlaces
  rw [if_neg (by decide)]
  by_cases h : (n : Int) - 1 > -1
  · rw [if_pos h, show (-(-1) : Int) = 1 by decide, Int.ediv_one]
    omega
  · rw [if_neg h]
    omega
theorem sliceApplied_rev {sl : Addr} {t : Tok} {n : Nat} {Q : Int × Int × Nat → Shared → Prop} (hs : s.heap.IsSliceOf sl .none .none (.int (-1) t)) (h : Q ((n : Int) - 1, -1, n) s) :
    wpAny (model prog w) A (Builtin.Slice.sliceApplied (.ref sl) (pure (n : Int))) Q E s := by
  obtain ⟨os, hos, hcs, hds⟩ := id hs
  unfold Builtin.Slice.sliceApplied Builtin.Slice.sliceFields
  refine wpAny_bind (wpAny_bind (wpAny_field hos hds (x := .none) rfl (wpAny_bind (wpAny_field hos hds (x := .none) rfl (wpAny_bind (wpAny_field hos hds (x := .int (-1) t) rfl (wpAny_pure ?_)))))))
  refine wpAny_bind (slicePart_int ?_)
  show wpAny _ _ (if ((-1 : Int) == 0) = true then _ else _) _ _ s
  rw [if_neg (by decide)]
  refine wpAny_bind (slicePart_none (wpAny_bind (slicePart_none (wpAny_bind (wpAny_pure ?_)))))
  show wpAny _ _ (pure ((n : Int) - 1, (-1 : Int), Builtin.Slice.slicePlaces ((n : Int) - 1) (-1) (-1))) _ _ s
  rw [places_rev]
  exact wpAny_pure h
theorem fm_some {α β : Type} {f : α → Option β} {g : α → β} : ∀ l : List α, (∀ m ∈ l, f m = some (g m)) → l.filterMap f = l.map g
  | [], _ => rfl
  | a :: l, h => by
    rw [List.filterMap_cons, h a List.mem_cons_self, List.map_cons, fm_some l fun m hm => h m (List.mem_cons_of_mem _ hm)]
theorem pick_rev (xs : Array Value) : ((List.range xs.size).filterMap fun (m : Nat) => xs[((xs.size : Int) - 1 + (m : Int) * (-1)).toNat]?).toArray = xs.toList.reverse.toArray := by
  congr 1
  apply List.ext_getElem?
  intro i
  have key : (List.range xs.size).filterMap (fun (m : Nat) => xs[((xs.size : Int) - 1 + (m : Int) * (-1)).toNat]?) = (List.range xs.size).map fun m => xs.toList.getD (xs.size - 1 - m) .none := by
    refine fm_some _ fun m hm => ?_
    have hm := List.mem_range.mp hm
    have e : ((xs.size : Int) - 1 + (m : Int) * (-1)).toNat = xs.size - 1 - m := by omega
    rw [e]
    have lt : xs.size - 1 - m < xs.size := by omega
    simp [lt]
  rw [key, List.getElem?_map]
  by_cases h : i < xs.size
  · rw [List.getElem?_range h, List.getElem?_reverse (by simpa using h)]
    have lt : xs.size - 1 - i < xs.size := by omega
    simp [lt]
  · rw [List.getElem?_eq_none (by simpa using h), List.getElem?_eq_none (by simpa using h)]
    rfl
theorem getItem_tuple_rev {t sl : Addr} {items : Array Value} {k : Tok} {Q : Value → Shared → Prop} (ht : IsTup s.heap t items) (hs : s.heap.IsSliceOf sl .none .none (.int (-1) k))
    (h : Q (.ref s.heap.objs.size) { s with heap := s.heap.push { cls := .type "tuple", data := .seq items.toList.reverse.toArray } }) (hsz : items.size ≤ sizeLine) : wpAny (model prog w) A (getItem (.ref t) (.ref sl)) Q E s := by
  have htake : sizeOk (.seq items.toList.reverse.toArray) := by
    show items.toList.reverse.toArray.size ≤ sizeLine
    simpa using hsz
  obtain ⟨os, hos, hcs, hds⟩ := id hs
  have hTs : s.TypeIs (.ref sl) "slice" := ⟨os, hos, hcs⟩
  unfold getItem
  try with_reducible refine wpAny_holding ?_
  first | refine wpAny_bind (wpAny_pure ?_) | skip
  refine wpAny_bind (wpAny_sequenceKey ht.typeIs (by decide) ?_)
  refine wpAny_bind (wpAny_callSpecial?_slot (name := Str.ofString "__getitem__") ht.typeIs PyProof.Rows.slot_tuple_getitem
    (wpAny_call_entry PyProof.Rows.slot_tuple_getitem ht.typeIs entry_tuple_getitem ?_ (args_tuple_getitem _ _)))
  show wpAny _ _ (Builtin.Tuple.tupleItemsOf (.ref t) >>= _) _ _ s
  refine wpAny_bind (tupleItemsOf_ ht ?_)
  refine wpAny_bind (wpAny_typeOf hTs ?_)
  rw [if_pos (by decide)]
  refine wpAny_bind (sliceApplied_rev hs ?_)
  have hno : ¬ ((((items.size : Int) - 1) == 0 && (-1 : Int) == 1 && items.size == items.size) = true) := by
    rw [show ((-1 : Int) == 1) = false from by decide]
    simp
  show wpAny _ _ (if (((items.size : Int) - 1) == 0 && (-1 : Int) == 1 && items.size == items.size) = true then _ else _) _ _ s
  rw [if_neg hno, pick_rev]
  first
    | exact wpAny_bind (m := Builtin.Tuple.tupleExact _) (wpAny_newObj_type (wpAny_pure ⟨_, rfl, wpAny_pure h⟩) htake)
    | exact wpAny_bind (m := Builtin.Tuple.tupleExact _) (wpAny_newObj_type (wpAny_bind (wpAny_pure (wpAny_pure ⟨_, rfl, wpAny_pure h⟩))) htake)
    | exact wpAny_bind (wpAny_bind (m := Builtin.Tuple.tupleExact _) (wpAny_newObj_type (wpAny_pure (wpAny_pure ⟨_, rfl, wpAny_pure h⟩)) htake))
    | exact wpAny_bind (wpAny_bind (m := Builtin.Tuple.tupleExact _) (wpAny_newObj_type (wpAny_pure ⟨_, rfl, wpAny_pure h⟩) htake))
end
section
variable {X : Cx}
def tRevT (K : PySem.W.Frag) (te : TE) : TE := fun σ H Q => te σ H fun x H1 => ∃ a xs, x = .ref a ∧ SqT K H1 a xs ∧ ∀ p, H1 p = none → Q (.ref p) (upd H1 p (.tup xs.reverse))
theorem pe_revT {e : Expr} {te : TE} {k : Nat} {p1 p2 p3 pos : Pos} (he : PE X e te) : PE X (.Subscript e (.Slice none none (some (.UnaryOp .USub (.Constant (.int 1) k p1) p2)) p3) pos) (tRevT X.K te) := by
  refine ⟨fun pins s σ H Q I h => ?_⟩
  refine Subscript_ (thn (he.run pins s σ H _ I h) fun v s1 ⟨x, H1, I1, r1, q1⟩ => ?_)
  obtain ⟨a, xs, ex, hx, q⟩ := q1
  subst ex
  cases r1
  have hst : PO X (some (.UnaryOp .USub (.Constant (.int 1) k p1) p2)) (tPart (tUn (rU fun i => .int (-i)) (tC (.int 1)))) := po_some (pe_un un_neg pe_int)
  refine wpAny_Slice (thn (po_none.run pins s1 σ H1 (fun o H2 => o = none ∧ H2 = H1) I1 ⟨rfl, rfl⟩) fun vl s2 ⟨l, H2, I2, pl, el, e2⟩ => ?_)
  subst el e2
  refine thn (po_none.run pins s2 σ H2 (fun o H3 => o = none ∧ H3 = H2) I2 ⟨rfl, rfl⟩) fun vu s3 ⟨u, H3, I3, pu, eu, e3⟩ => ?_
  subst eu e3
  refine thn (hst.run pins s3 σ H3 (fun o H4 => o = some (-1) ∧ H4 = H3) I3 ⟨1, rfl, -1, rfl, rfl, rfl⟩) fun vs s4 ⟨o, H4, I4, ps, eo, e4⟩ => ?_
  subst eo e4
  have I5 : Inv X pins σ H4 { s4 with heap := s4.heap.push { cls := .type "slice", data := .fields #[vl, vu, vs] } } := I4.kept (t' := s4.toks) fun b ob q => Heap.get?_push_of_some _ q
  obtain ⟨its, r, ht, hz⟩ := I5.tuple hx
  have hlen := r.length
  cases pl
  cases pu
  obtain ⟨tk, rfl⟩ : ∃ tk, vs = .int (-1) tk := by
    cases ps
    exact ⟨_, rfl⟩
  show wpAny (model X.prog X.w) X.A (subscriptTail e (.Slice none none (some (.UnaryOp .USub (.Constant (.int 1) k p1) p2)) p3) (.ref a) (.ref s4.heap.objs.size)) (EP X pins σ Q) X.xe { s4 with heap := s4.heap.push { cls := .type "slice", data := .fields #[.none, .none, .int (-1) tk] } }
  refine tail_any (ops := [.ref a, .ref s4.heap.objs.size]) ht.typeIs PyProof.Rows.slot_tuple_getitem.lookup ?_ (by with_unfolding_all rfl)
  refine getItem_tuple_rev ht (Heap.IsSliceOf.new _ .none .none (.int (-1) tk)) ?_ (by rw [List.size_toArray]; omega)
  refine ⟨.ref _, _, I5.laid (t' := s4.toks) (o := .tup xs.reverse) (fun b ob q => Heap.get?_push_of_some _ q) (Nat.le_refl _) ?_, rfl, q _ (I5.hok.fresh (Nat.le_refl _))⟩
  exact ⟨by rw [List.length_reverse]; exact hz, _, r.reverse, IsTup.new _ _⟩
end
section
variable {X : Cx} {CX : CXT} {C C2 f : Addr} {n : Nat} {fd : FuncData} {ps : List Str} {sp : Sp}
/-- x == y, x an instance of the class, y of another one -/
theorem op_eqOth (F : FnOk X.prog X.w X.K X.mg X.base CX n f fd ps sp) (hs : PySem.W.findIn X.K (.ref C) "__eq__" = some (some (.ref f))) (hn : PySem.W.notFirst X.K C (.ref C2) = true) (hf : PySem.W.isFn X.K (.ref f) = true) (hr : Room n X.A) (hb : Binds X.K fd ps []) (hx : Passes CX X E0) :
    OpR X (compareOp .Eq) (fun x y H Q => ∃ (a b dx dy : Addr) (fs gs : List (Str × V)), x = .ref a ∧ y = .ref b ∧ H a = some (.ins C dx fs) ∧ H b = some (.ins C2 dy gs) ∧ sp [.ref a, .ref b] H (fun v H' => ∃ z, v = .bl z ∧ Q (.bl z) H') E0) := by
  intro pins s σ H x y v u Q I rx ry h
  obtain ⟨a, b, dx, dy, fs, gs, rfl, rfl, ha, hb2, q⟩ := h
  cases rx
  cases ry
  obtain ⟨mA, J, _⟩ := ins_get I.hok ha
  obtain ⟨mB, J', _⟩ := ins_get I.hok hb2
  obtain ⟨od, J, _⟩ := J.look
  obtain ⟨od', J', _⟩ := J'.look
  obtain ⟨m, hF⟩ := I.fr
  have sb : Sub X n X.A := ⟨hr, rfl⟩
  show wpAny (model X.prog X.w) X.A (richCompare .Eq (.ref a) (.ref b)) (EP X pins σ Q) X.xe s
  refine PySem.W.cmp_K (op := .Eq) (tb := .ref C2) sb.room.units0 hF I.ok.mod.kin J J'.type hn hs hf (run_sub (vs := [V.ref a, V.ref b]) F sb hb hx I (.cons rfl (.cons rfl .nil)) q fun v u H' s' I' rv hq => ?_)
  obtain ⟨z, rfl, hq⟩ := hq
  cases rv
  exact ⟨.bl z, H', I', rfl, hq⟩
end
end Lay
set_option Elab.async false
set_option linter.all false
set_option maxRecDepth 100000
set_option maxHeartbeats 4000000
namespace Lay
open PySem L2
/-! ### unlike rows have unlike texts -/
def codes (z : Str) : List Nat := z.cps.toList
theorem codes_app (a b : Str) : codes (a ++ b) = codes a ++ codes b := by
  cases a
  cases b
  exact Array.toList_append
theorem codes_inj {a b : Str} (h : codes a = codes b) : a = b := by
  cases a with
  | mk a =>
    cases b with
    | mk b =>
      have : a = b := by
        apply Array.ext'
        exact h
      rw [this]
def testWs : List Str := testL ++ testL.map (Str.ofString "not " ++ ·)
def codeW : List Str := (["if", "and", "do", "then"] : List Str) ++ testWs ++ deedL
def wd (z : Str) : List Nat := codes z ++ [32]
def enc (L : List Str) : List Nat := L.flatMap wd
def apartB (L : List Str) : Bool := L.all fun a => L.all fun b => codes a == codes b || !(wd a).isPrefixOf (wd b)
theorem codeW_apart : apartB codeW = true := by decide +kernel
theorem apart {a b : Str} (ha : a ∈ codeW) (hb : b ∈ codeW) (h : wd a <+: wd b) : a = b := by
  have h1 := List.all_eq_true.mp (List.all_eq_true.mp codeW_apart a ha) b hb
  rcases Bool.or_eq_true_iff.mp h1 with h2 | h2
  · exact codes_inj (beq_iff_eq.mp h2)
  · rw [Bool.not_eq_true', ← Bool.not_eq_true] at h2
    exact absurd (List.isPrefixOf_iff_prefix.mpr h) h2
theorem wd_ne (z : Str) : wd z ≠ [] := by
  unfold wd
  simp
theorem enc_inj : ∀ {L M : List Str}, (∀ z ∈ L, z ∈ codeW) → (∀ z ∈ M, z ∈ codeW) → enc L = enc M → L = M
  | [], [], _, _, _ => rfl
  | [], b :: M, _, _, h => by
    exfalso
    have : wd b ++ enc M = [] := h.symm
    exact wd_ne b (List.append_eq_nil_iff.mp this).1
  | a :: L, [], _, _, h => by
    exfalso
    have : wd a ++ enc L = [] := h
    exact wd_ne a (List.append_eq_nil_iff.mp this).1
  | a :: L, b :: M, hl, hm, h => by
    have h : wd a ++ enc L = wd b ++ enc M := h
    have ha := hl a List.mem_cons_self
    have hb := hm b List.mem_cons_self
    have e : a = b := by
      rcases List.prefix_or_prefix_of_prefix (List.prefix_append (wd a) (enc L)) (h ▸ List.prefix_append (wd b) (enc M)) with q | q
      · exact apart ha hb q
      · exact (apart hb ha q).symm
    subst e
    rw [enc_inj (fun z hz => hl z (List.mem_cons_of_mem _ hz)) (fun z hz => hm z (List.mem_cons_of_mem _ hz)) (List.append_cancel_left h)]
/-- z1 sep z2 sep .. -/
def alt (sep : Str) : List Str → List Str
  | [] => []
  | [z] => [z]
  | z :: y :: r => z :: sep :: alt sep (y :: r)
theorem enc_alt {sp sep : Str} (e : codes sp = 32 :: (codes sep ++ [32])) : ∀ (z : Str) (zs : List Str), codes (Str.join sp (z :: zs)) ++ [32] = enc (alt sep (z :: zs))
  | z, [] => by
    show codes z ++ [32] = wd z ++ []
    rw [List.append_nil]
    rfl
  | z, y :: r => by
    have ih := enc_alt e y r
    show codes (z ++ sp ++ Str.join sp (y :: r)) ++ [32] = wd z ++ (wd sep ++ enc (alt sep (y :: r)))
    rw [codes_app, codes_app, ← ih, e]
    unfold wd
    simp
def seqR (r : RD) : List Str := if r.ws = [] then "do" :: alt "then" r.us else "if" :: (alt "and" r.ws ++ (Str.ofString "do") :: alt "then" r.us)
theorem enc_app (L M : List Str) : enc (L ++ M) = enc L ++ enc M := List.flatMap_append
theorem text_enc {r : RD} (hu : r.us ≠ []) : codes (rowText r) ++ [32] = enc (seqR r) := by
  have e1 : codes (Str.ofString " then ") = 32 :: (codes (Str.ofString "then") ++ [32]) := by decide
  have e2 : codes (Str.ofString " and ") = 32 :: (codes (Str.ofString "and") ++ [32]) := by decide
  obtain ⟨u, us, hus⟩ := List.exists_cons_of_ne_nil hu
  have hd := enc_alt e1 u us
  rw [← hus] at hd
  unfold rowText rowWords seqR
  by_cases h : r.ws = []
  · rw [if_pos h, if_pos h, TL.join_eq, TL.join_eq]
    show codes (Str.ofString "do" ++ Str.ofString " " ++ Str.join (Str.ofString " then ") r.us) ++ [32] = wd "do" ++ enc (alt "then" r.us)
    rw [codes_app, List.append_assoc, hd, codes_app]
    rfl
  · obtain ⟨w, ws, hws⟩ := List.exists_cons_of_ne_nil h
    have ht := enc_alt e2 w ws
    rw [← hws] at ht
    rw [if_neg h, if_neg h, TL.join_eq, TL.join_eq, TL.join_eq]
    show codes (Str.ofString "if" ++ Str.ofString " " ++ (Str.join (Str.ofString " and ") r.ws ++ Str.ofString " " ++ (Str.ofString "do" ++ Str.ofString " " ++ Str.join (Str.ofString " then ") r.us))) ++ [32] = wd "if" ++ enc (alt "and" r.ws ++ (Str.ofString "do") :: alt "then" r.us)
    rw [enc_app, ← ht]
    show _ = wd "if" ++ (codes (Str.join (Str.ofString " and ") r.ws) ++ [32] ++ (wd "do" ++ enc (alt "then" r.us)))
    rw [← hd]
    simp only [codes_app, List.append_assoc]
    rfl
theorem alt_mem {sep : Str} : ∀ {zs : List Str} {z : Str}, z ∈ alt sep zs → z ∈ zs ∨ z = sep
  | [], _, h => by cases h
  | [y], z, h => .inl h
  | y :: x :: r, z, h => by
    rcases List.mem_cons.mp h with rfl | h
    · exact .inl List.mem_cons_self
    · rcases List.mem_cons.mp h with rfl | h
      · exact .inr rfl
      · rcases alt_mem h with h | h
        · exact .inl (List.mem_cons_of_mem _ h)
        · exact .inr h
theorem alt_inj {sep : Str} : ∀ {xs ys : List Str}, alt sep xs = alt sep ys → xs = ys
  | [], [], _ => rfl
  | [], [y], h => by cases h
  | [], y :: z :: r, h => by cases h
  | [x], [], h => by cases h
  | [x], [y], h => h
  | [x], y :: z :: r, h => by
    have h : [x] = y :: sep :: alt sep (z :: r) := h
    cases h
  | x :: a :: r, [], h => by cases h
  | x :: a :: r, [y], h => by
    have h : x :: sep :: alt sep (a :: r) = [y] := h
    cases h
  | x :: a :: r, y :: b :: q, h => by
    have h : x :: sep :: alt sep (a :: r) = y :: sep :: alt sep (b :: q) := h
    have e1 := (List.cons.inj h).1
    have e2 := (List.cons.inj (List.cons.inj h).2).2
    rw [e1, alt_inj e2]
/-- a list is cut at the first thing that is not in it -/
theorem cut_at {a : Str} : ∀ {xs ys us vs : List Str}, a ∉ xs → a ∉ ys → xs ++ a :: us = ys ++ a :: vs → xs = ys ∧ us = vs
  | [], [], _, _, _, _, h => ⟨rfl, (List.cons.inj h).2⟩
  | [], y :: ys, _, _, _, hy, h => by
    have e := (List.cons.inj (show a :: _ = y :: (ys ++ a :: _) from h)).1
    exact absurd (e ▸ List.mem_cons_self) hy
  | x :: xs, [], _, _, hx, _, h => by
    have e := (List.cons.inj (show x :: (xs ++ a :: _) = a :: _ from h)).1
    exact absurd (e ▸ List.mem_cons_self) hx
  | x :: xs, y :: ys, _, _, hx, hy, h => by
    have h := List.cons.inj (show x :: (xs ++ a :: _) = y :: (ys ++ a :: _) from h)
    have q := cut_at (fun z => hx (List.mem_cons_of_mem _ z)) (fun z => hy (List.mem_cons_of_mem _ z)) h.2
    exact ⟨by rw [h.1, q.1], q.2⟩
theorem do_out : (Str.ofString "do") ∉ testWs ∧ (Str.ofString "do") ≠ Str.ofString "and" ∧ (Str.ofString "do") ≠ Str.ofString "if" := by decide +kernel
theorem seq_inj {r q : RD} (h1 : ∀ z ∈ r.ws, z ∈ testWs) (h2 : ∀ z ∈ q.ws, z ∈ testWs) (h : seqR r = seqR q) : r.ws = q.ws ∧ r.us = q.us := by
  unfold seqR at h
  have out : ∀ {zs : List Str}, (∀ z ∈ zs, z ∈ testWs) → (Str.ofString "do") ∉ alt "and" zs := fun hz hm => by
    rcases alt_mem hm with m | m
    · exact do_out.1 (hz _ m)
    · exact do_out.2.1 m
  by_cases e1 : r.ws = []
  · by_cases e2 : q.ws = []
    · rw [if_pos e1, if_pos e2] at h
      exact ⟨by rw [e1, e2], alt_inj (List.cons.inj h).2⟩
    · rw [if_pos e1, if_neg e2] at h
      exact absurd (List.cons.inj h).1 do_out.2.2
  · by_cases e2 : q.ws = []
    · rw [if_neg e1, if_pos e2] at h
      exact absurd (List.cons.inj h).1.symm do_out.2.2
    · rw [if_neg e1, if_neg e2] at h
      obtain ⟨a, b⟩ := cut_at (out h1) (out h2) (List.cons.inj h).2
      exact ⟨alt_inj a, alt_inj b⟩
structure RD.In (r : RD) : Prop where
  t : ∀ z ∈ r.ws, z ∈ testWs
  d : ∀ z ∈ r.us, z ∈ deedL
  n : r.us ≠ []
theorem seq_in {r : RD} (h : r.In) : ∀ z ∈ seqR r, z ∈ codeW := fun z hz => by
  have c : ∀ y ∈ (["if", "and", "do", "then"] : List Str), y ∈ codeW := fun y hy => List.mem_append_left _ (List.mem_append_left _ hy)
  have ct : ∀ y ∈ testWs, y ∈ codeW := fun y hy => List.mem_append_left _ (List.mem_append_right _ hy)
  have cd : ∀ y ∈ deedL, y ∈ codeW := fun y hy => List.mem_append_right _ hy
  have du : ∀ y ∈ alt "then" r.us, y ∈ codeW := fun y hy => by
    rcases alt_mem hy with m | m
    · exact cd _ (h.d _ m)
    · rw [m]
      exact c _ (by simp)
  unfold seqR at hz
  split at hz
  · rcases List.mem_cons.mp hz with rfl | hz
    · exact c _ (by simp)
    · exact du z hz
  · rcases List.mem_cons.mp hz with rfl | hz
    · exact c _ (by simp)
    · rcases List.mem_append.mp hz with hz | hz
      · rcases alt_mem hz with m | m
        · exact ct _ (h.t _ m)
        · rw [m]
          exact c _ (by simp)
      · rcases List.mem_cons.mp hz with rfl | hz
        · exact c _ (by simp)
        · exact du z hz
theorem text_inj {r q : RD} (h1 : r.In) (h2 : q.In) (h : rowText r = rowText q) : r.ws = q.ws ∧ r.us = q.us :=
  seq_inj h1.t h2.t (enc_inj (seq_in h1) (seq_in h2) (by rw [← text_enc h1.n, ← text_enc h2.n, h]))
end Lay
set_option Elab.async false
set_option linter.all false
set_option maxRecDepth 100000
set_option maxHeartbeats 4000000
/-! Defs that are called where no repr is under way (the law's own), and the law's end from such a promise. -/
namespace Lay
open PySem PySem.Spec PyProof.Rows L2
/-- a def's promise, where no repr is under way around it -/
structure FnG (P : Program) (w : World) (K : PySem.W.Frag) (mg : Str → Option Value) (base : Heap) (k : Nat) (f : Addr) (fd : FuncData) (ps : List Str) (sp : Sp) : Prop where
  len : ∀ vs H Q E, sp vs H Q E → vs.length = ps.length
  go : ∀ (A : Around) (outer : List Env) (s : Shared) (H : Hp) (args : Args) (us : List Value) (vs : List V) (Q : VK), A.guards = some [] → Room k A → Env0 P w K mg base A outer s H →
    BindsTo s fd args (ps.zip us) → Vals vs us → sp vs H Q E0 → codeAny (model P w) A (.call (.ref f) args) (CR CX0 outer P w H s Q E0) s
section
variable {P : Program} {w : World} {K : PySem.W.Frag} {mg : Str → Option Value} {base : Heap}
theorem FnOk.g {k : Nat} {f : Addr} {fd : FuncData} {ps : List Str} {sp : Sp} (F : FnOk P w K mg base CX0 k f fd ps sp) : FnG P w K mg base k f fd ps sp :=
  ⟨F.len, fun A outer s H args us vs Q _ hr e b r h => F.run A outer s H args us vs Q E0 hr e b r h⟩
/-- a def of the text, by its body, which may lean on the silence around it -/
theorem Fun.okG {x qual : Str} {st : Stmt} {f : Addr} {fd : FuncData} {N ps : List Str} {k : Nat} {sp : Sp} (F : Fun K x qual st f fd) (S : FnScope N ps (defScope st)) (len : ∀ vs H Q E, sp vs H Q E → vs.length = ps.length)
    (hbody : ∀ (cdv : Value) (A : Around) (outer : List Env) (s : Shared) (H : Hp) (vs : List V) (Q : VK), A.guards = some [] → Room k (A.deeper (envOfC qual (defScope st) s.heap.objs.size f cdv)) → sp vs H Q E0 →
      ∃ t, PSs (cxOf CX0 P w K mg base N qual (defScope st) f cdv A outer s H E0).nox (defBody st) t ∧ t { nx := fun _ H' => Q .non H', rt := Q } (start N vs) H) : FnG P w K mg base (k + 1) f fd ps sp := by
  obtain ⟨oc, od, kV, doc, pm, an, cdv, ct, osl, rfl, lk, code⟩ := F.ex
  refine ⟨len, fun A outer s H args us vs Q silent hr e0 hb r want => ?_⟩
  have many := len _ _ _ _ want
  have kin : K.In s.heap := e0.mod.kin.keeps fun b o z => (e0.bs b o z).1
  have lim : s.heap.NoLimit := e0.mod.nolimit.keeps fun b o z => (e0.bs b o z).1
  have kinds : ∀ y ∈ ps.zip us, (defScope st).names.lookup y.1 = some .local ∨ ((defScope st).names.lookup y.1 = some .cell ∧ ((cellsFrom (s.heap.objs.size + 1) (defScope st).names []).lookup y.1).isSome = true) := by
    rintro ⟨nm, vl⟩ hy
    refine (S.par nm (List.of_mem_zip hy).1).imp id fun c => ⟨c, ?_⟩
    exact PySem.W.cellsFrom_some _ _ _ (.inl c)
  refine codeAny_call_function hr.depth (kin _ _ lk) rfl S.co S.gen rfl (PySem.W.codeRec_of kin code) (hb _ _ _ _ ?_)
  refine wpAny_newFunctionEnv_cells S.kind kinds fun env ee s1 x => ?_
  subst ee
  refine ⟨lim.keeps x.toInCall.keep, codeAny_func ?_⟩
  obtain ⟨t, ht, hq⟩ := hbody cdv A outer s H vs Q silent (hr.deeper _) want
  have I : Inv (cxOf CX0 P w K mg base N qual (defScope st) f cdv A outer s H E0).nox [] (start N vs) H s1 := (inv_start S hr.hd e0 many r x).wish _
  refine wpAny_mono (ht.run [] s1 (start N vs) H _ I hq) (fun fl s' hs => ?_) fun _ _ z => z.elim
  cases fl with
  | ret u =>
    obtain ⟨v, σ', H', J, rv, q⟩ := hs
    exact ⟨v, H', J.os, J.bare, J.base, J.hok, rv, q⟩
  | next =>
    obtain ⟨σ', H', J, q⟩ := hs
    exact ⟨.non, H', J.os, J.bare, J.base, J.hok, rfl, q⟩
  | brk =>
    obtain ⟨_, _, _, q⟩ := hs
    exact q.elim
  | cont =>
    obtain ⟨_, _, _, q⟩ := hs
    exact q.elim
end
/-- the script as it is read at the entry: an object of the module, or one that is known -/
theorem script_seen {P : Program} {w : World} {K : PySem.W.Frag} {s : Shared} {a : Addr} {vs : List Value} {ns : List Int} (kin : K.In s.heap) (ha : s.heap.get? a = some { cls := .type "list", data := .seq vs.toArray }) (hi : IntsAre vs ns)
    (hl : ns.length ≤ sizeLine) : ∃ H : Hp, Only H ∧ SqL K H a (ns.map V.int) ∧ HOk P w H s.heap ∧ ∀ b, H b ≠ none → b = a ∧ K.lookup b = none := by
  have rv := vals_ints hi
  have lv := hi.length
  cases hk : K.lookup a with
  | some o =>
    have e := kin a o hk
    rw [ha] at e
    cases e
    refine ⟨fun _ => none, fun _ => .inl rfl, .inr ⟨_, vs.toArray, _, hk, rfl, rfl, rfl, ?_, by simpa using rv⟩, fun b u z => (nomatch z), fun b z => absurd rfl z⟩
    rw [List.size_toArray, lv]
    exact hl
  | none =>
    let o : Obj := { cls := .type "list", data := .seq vs.toArray }
    let u : HO := .frz o (.lst (ns.map V.int))
    refine ⟨upd (fun _ => none) a u, fun b => ?_, .inl (.inr ⟨o, upd_same⟩), fun b v z => ?_, fun b z => ?_⟩
    · by_cases e : b = a
      · exact .inr ⟨_, _, by rw [e]; exact upd_same⟩
      · exact .inl (upd_ne e)
    · by_cases e : b = a
      · subst e
        rw [upd_same] at z
        cases z
        exact ⟨ha, by rw [List.length_map]; exact hl, vs, _, rv, ha⟩
      · rw [upd_ne e] at z
        cases z
    · by_cases e : b = a
      · exact ⟨e, by rw [e]; exact hk⟩
      · exact absurd (upd_ne e) z
/-- the law's end -/
theorem walkG {l : PySem.W.OpenLaw} {n k : Nat} {q : Program} {loose : List Str} {XP : (Str → Option Value) → Heap → Prop} {YP : World → Heap → Prop} {d : DefRec} {K : Params → PySem.W.Frag} {sp : World → Sp} {x : Str}
    (hn : l.most = some n) (hn2 : n ≤ sizeLine) (hdf : d.params.defaults = []) (hr : Room k callerA) (hY : ∀ (w : World) (h : Heap), YP w h → (K w.params).In h)
    (F : ∀ (w : World) (mg : Str → Option Value) (fa : Addr) (h : Heap), (K w.params).In h → h.Ns mainGlobals mg → mg d.name = some (.ref fa) →
      ∃ fd : FuncData, (∀ (s : Shared) (u : Value), BindsTo s fd ⟨[u], []⟩ [(x, u)]) ∧ ∀ base : Heap, (K w.params).In base → base.Ns mainGlobals mg → FnG l.prog w (K w.params) mg base k fa fd [x] (sp w))
    (hsp : ∀ (w : World) (H : Hp) (a : Addr) (ns : List Int), ns.length ≤ n → Only H → SqL (K w.params) H a (ns.map V.int) → sp w [.ref a] H (fun v _ => v = .bl true) E0) :
    PySem.W.WalkO q loose XP YP l.row.toRowW d [] (fun f vs => PySem.call f vs) := by
  refine Att.attach_call hn hdf fun w s₀ s₁ mg mb fa o pm cd doc a vs ns G Y ho hd hcd hmg hobj hints hlen hg => ?_
  have kin := hY w _ Y
  obtain ⟨fd, hb, hF⟩ := F w mg fa _ kin G.T.g hmg
  obtain ⟨H, hO, hS, hok, hA⟩ := script_seen (P := l.prog) (w := w) kin hobj hints (Nat.le_trans hlen hn2)
  have unT : ∀ {b : Addr} {u : Obj}, s₁.heap.get? b = some u → (b = a → False) → H b = none := fun {b u} _ nb => by
    cases z : H b with
    | none => rfl
    | some v => exact (nb (hA b (by rw [z]; exact fun y => nomatch y)).1).elim
  have ns : ∀ {b : Addr} {m : Str → Option Value}, s₁.heap.Ns b m → (hidT s₁.heap H).Ns b m := fun {b m} ⟨u, es, ep, e, dd, r⟩ =>
    ⟨u, es, ep, hidT_get e (unT e fun z => by
      subst z
      rw [hobj] at e
      cases e
      exact absurd dd (fun y => nomatch (show Data.seq vs.toArray _ = Data.dict es ep from y))), dd, r⟩
  have kinB : (K w.params).In (hidT s₁.heap H) := fun b u e => hidT_get (kin b u e) (by
    cases z : H b with
    | none => rfl
    | some v =>
      have y := (hA b (by rw [z]; exact fun y => nomatch y)).2
      rw [e] at y
      cases y)
  obtain ⟨mc, lim1, lim2⟩ := G.T.nolimit
  have M : Mod (K w.params) mg (hidT s₁.heap H) := ⟨kinB, ns G.T.g, ⟨mb, ns G.T.b, G.T.builtins⟩, ⟨mc, ns lim1, lim2⟩⟩
  have e0 : Env0 l.prog w (K w.params) mg (hidT s₁.heap H) callerA [] s₁ H := ⟨rfl, M, fun b u e => of_hidT e, Nat.le_of_eq (hidT_size _ _), trivial, fun b z => (nomatch z), hok, .of_eq hg⟩
  refine codeAny_mono ((hF _ kinB (ns G.T.g)).go callerA [] s₁ H ⟨[.ref a], []⟩ [.ref a] [.ref a] _ rfl hr e0 (hb s₁ (.ref a)) (.cons rfl .nil) (hsp w H a _ hlen hO hS)) fun r s' h => ?_
  cases r with
  | error e => exact h.elim
  | ok fl =>
    cases fl with
    | next => exact h.elim
    | brk => exact h.elim
    | cont => exact h.elim
    | ret u =>
      obtain ⟨v, H', os, bare, un, hok', rv, qq⟩ := h
      subst qq
      cases rv
      refine ⟨rfl, OldK.of_keep fun b u e => ?_, os, bare⟩
      rcases hO b with z | ⟨ob, xs, z⟩
      · exact un.keep b u e z (fun y => nomatch y) (fun y => nomatch y)
      · obtain ⟨e1, _⟩ := hok b _ z
        obtain ⟨e2, _⟩ := hok' b _ (un.frzs b ob _ z)
        rw [e] at e1
        cases e1
        exact e2
end Lay
set_option Elab.async false
set_option linter.all false
set_option maxRecDepth 100000
set_option maxHeartbeats 4000000
namespace Lay
open PySem PySem.Spec PyProof.Rows L2
section
variable {X : Cx}
/-- repr of a list or a tuple of data, where no repr is under way -/
def rReprD (K : PySem.W.Frag) : List V → Hp → VK → Prop := fun xs H Q => ∃ (a : Addr) (d : PyData), xs = [.ref a] ∧ Dp K H (.ref a) d ∧ d.showable = true ∧ d.hasDict = false ∧ d.depth ≤ 60 ∧ d.shown.length ≤ sizeLine ∧ Q (.str d.shown) H
theorem call_reprD (silent : X.A.guards = some []) (hu : X.A.units + 64 < cLine) : CallR X (.builtin "repr") (rReprD X.K) := by
  intro pins s σ H xs us Q I r h
  obtain ⟨a, d, rfl, hd, h1, h2, h3, h4, q⟩ := h
  obtain ⟨u, rfl, ru⟩ := vals1 r
  cases ru
  obtain ⟨as, rd⟩ := Dp.reads I d (.ref a) (.ref a) hd rfl
  exact repr_of_reads' rd h1 (PyData.noDict_hsm h2) silent (by omega) (fun _ _ z => z) (fun h' u tk hk => ⟨.str _, H, I.kept hk, ⟨_, rfl⟩, q⟩) h4
end
theorem noDicts : ∀ ds : List PyData, (∀ d ∈ ds, d.hasDict = false) → PyData.hasDictAll ds = false
  | [], _ => by simp [PyData.hasDictAll]
  | d :: ds, h => by
    have h1 := h d List.mem_cons_self
    have h2 := noDicts ds fun e he => h e (List.mem_cons_of_mem _ he)
    simp [PyData.hasDictAll, h1, h2]
theorem deeps {n : Nat} : ∀ ds : List PyData, (∀ d ∈ ds, d.depth ≤ n) → PyData.depthAll ds ≤ n
  | [], _ => by simp [PyData.depthAll]
  | d :: ds, h => by
    have h1 := h d List.mem_cons_self
    have h2 := deeps ds fun e he => h e (List.mem_cons_of_mem _ he)
    simp only [PyData.depthAll]
    omega
theorem pile {n : Nat} : ∀ ds : List PyData, (∀ d ∈ ds, d.shown.length ≤ n) → piled (PyData.shownAll ds) ≤ (n + 2) * ds.length
  | [], _ => by simp [PyData.shownAll, piled_nil]
  | d :: ds, h => by
    have h1 := h d List.mem_cons_self
    have h2 := pile ds fun e he => h e (List.mem_cons_of_mem _ he)
    rw [PyData.shownAll_cons, piled_cons, List.length_cons, Nat.mul_succ]
    omega
theorem tup_len (ds : List PyData) : (PyData.tuple ds).shown.length ≤ piled (PyData.shownAll ds) + 10 := by
  have o1 : (Str.ofString "(").length = 1 := by decide
  have o2 : (Str.ofString ",)").length = 2 := by decide
  have o3 : (Str.ofString ")").length = 1 := by decide
  have q : (Str.join ", " (PyData.shownAll ds)).length ≤ piled (PyData.shownAll ds) := by
    by_cases e : PyData.shownAll ds = []
    · rw [e]
      show (Str.join ", " []).length ≤ _
      have : (Str.join ", " []).length = 0 := by decide
      omega
    · have := join_length_add (PyData.shownAll ds) e
      omega
  rw [PyData.shown_tuple, Str.length_append, Str.length_append, o1]
  split
  · rw [o2]
    omega
  · rw [o3]
    omega
theorem word_shown : ∀ z ∈ testWs ++ deedL, (reprText z).length ≤ 60 := by decide +kernel
def okw (d : PyData) (n : Nat) : Prop := d.showable = true ∧ d.hasDict = false ∧ d.depth ≤ 2 ∧ d.shown.length ≤ n
theorem tup_ok {ds : List PyData} {n : Nat} (l : ds.length ≤ 10) (h : ∀ d ∈ ds, d.showable = true ∧ d.hasDict = false ∧ d.depth ≤ 1 ∧ d.shown.length ≤ n) : okw (.tuple ds) ((n + 2) * 10 + 10) := by
  refine ⟨?_, ?_, ?_, ?_⟩
  · simp only [PyData.showable]
    exact Spec.showableAll_of fun d hd => (h d hd).1
  · simp only [PyData.hasDict]
    exact noDicts ds fun d hd => (h d hd).2.1
  · have := deeps (n := 1) ds fun d hd => (h d hd).2.2.1
    simp only [PyData.depth]
    omega
  · have h1 := tup_len ds
    have h2 := pile ds fun d hd => (h d hd).2.2.2
    have h3 : (n + 2) * ds.length ≤ (n + 2) * 10 := Nat.mul_le_mul_left _ l
    omega
theorem strs_ok {ws : List Str} (l : ws.length ≤ 10) (h : ∀ z ∈ ws, z ∈ testWs ++ deedL) : okw (.tuple (ws.map .str)) 630 := by
  refine tup_ok (n := 60) (by rw [List.length_map]; exact l) fun d hd => ?_
  obtain ⟨z, hz, rfl⟩ := List.mem_map.mp hd
  refine ⟨rfl, rfl, ?_, ?_⟩
  · simp only [PyData.depth]
    omega
  · simp only [PyData.shown]
    exact word_shown z (h z hz)
/-- a row's two tuples, in a tuple, as data -/
def pairD (r : RD) : PyData := .tuple [.tuple (r.ws.map .str), .tuple (r.us.map .str)]
theorem pair_shows {r : RD} (o : r.Ok) (i : r.In) : (pairD r).showable = true ∧ (pairD r).hasDict = false ∧ (pairD r).depth ≤ 60 ∧ (pairD r).shown.length ≤ sizeLine := by
  obtain ⟨a1, a2, a3, a4⟩ := strs_ok o.lw fun z hz => List.mem_append_left _ (i.t z hz)
  obtain ⟨b1, b2, b3, b4⟩ := strs_ok o.lu fun z hz => List.mem_append_right _ (i.d z hz)
  refine ⟨?_, ?_, ?_, ?_⟩
  · unfold pairD
    rw [PyData.showable]
    exact Spec.showableAll_of fun d hd => by
      simp only [List.mem_cons, List.not_mem_nil, or_false] at hd
      rcases hd with rfl | rfl
      · exact a1
      · exact b1
  · unfold pairD
    rw [PyData.hasDict]
    exact noDicts _ fun d hd => by
      simp only [List.mem_cons, List.not_mem_nil, or_false] at hd
      rcases hd with rfl | rfl
      · exact a2
      · exact b2
  · unfold pairD
    have := deeps (n := 2) [PyData.tuple (r.ws.map .str), .tuple (r.us.map .str)] fun d hd => by
      simp only [List.mem_cons, List.not_mem_nil, or_false] at hd
      rcases hd with rfl | rfl
      · exact a3
      · exact b3
    rw [PyData.depth]
    omega
  · unfold pairD
    have h1 := tup_len [PyData.tuple (r.ws.map .str), .tuple (r.us.map .str)]
    have h2 := pile (n := 630) [PyData.tuple (r.ws.map .str), .tuple (r.us.map .str)] fun d hd => by
      simp only [List.mem_cons, List.not_mem_nil, or_false] at hd
      rcases hd with rfl | rfl
      · exact a4
      · exact b4
    have h3 : ([PyData.tuple (r.ws.map .str), .tuple (r.us.map .str)] : List PyData).length = 2 := rfl
    rw [h3] at h2
    rw [sizeLine_eq]
    omega
end Lay
set_option Elab.async false
set_option linter.all false
set_option maxRecDepth 100000
set_option maxHeartbeats 4000000
namespace Lay
open PySem PySem.Spec PyProof.Rows L2
abbrev sEqR : Stmt := inClass (top 21) 1
def spEqR (C : Addr) : Sp := fun vs H Q _ => ∃ (p q : Addr) (r r' : RD), vs = [.ref p, .ref q] ∧ RowAt C H p r ∧ RowAt C H q r' ∧ r.Ok ∧ r'.Ok ∧ ∀ H', Same H H' → Q (.bl (decide (V.str (rowText r) = V.str (rowText r')))) H'
def spEqN (K : PySem.W.Frag) (C : Addr) : Sp := fun vs H Q _ => ∃ (p : Addr) (y : V), vs = [.ref p, y] ∧ IsP K C H y false ∧ Q (.bl false) H
section
variable {P : Program} {w : World} {K : PySem.W.Frag} {mg : Str → Option Value} {base : Heap}
theorem scEqR : FnScope ["self", "other"] ["self", "other"] (defScope sEqR) := ⟨rfl, rfl, rfl, by decide +kernel, rfl, by decide +kernel, by decide +kernel⟩
theorem ok_eqR {f fS C : Addr} {fd fdS : FuncData} (F : Fun K "__eq__" "Row.__eq__" sEqR f fd) (T : TxtK mg) (c : ClsI K C) (gC : mg "Row" = some (.ref C))
    (GS : FnOk P w K mg base CX0 2 fS fdS ["self"] (spStrRow C)) (hs : PySem.W.findIn K (.ref C) "__str__" = some (some (.ref fS))) (hf : PySem.W.isFn K (.ref fS) = true) (bS : Binds K fdS ["self"] []) : FnOk P w K mg base CX0 5 f fd ["self", "other"] (spEqR C) := by
  refine F.ok scEqR (fun vs H Q E h => ?_) (fun cdv A outer s H vs Q E hr h => ?_)
  · obtain ⟨p, q, r, r', rfl, _⟩ := h
    rfl
  · obtain ⟨p, q, r, r', rfl, hp, hq, o, o', k⟩ := h
    refine ⟨_, pss_one (ps_ret (pe_and (pe_callB call_isi (by rfl) T.isinstance (by decide +kernel) (pa_cons (pv 1) (pa_cons (pe_glob (v := .ref C) (by rfl) gC rfl) pa_nil)))
      (pe_one (pe_cmpR op_eq (pe_callTy (call_strOwn GS hs hf hr bS pass0) (by rfl) T.str (by decide +kernel) (pa_cons (pv 0) pa_nil)) (pe_callTy (call_strOwn GS hs hf hr bS pass0) (by rfl) T.str (by decide +kernel) (pa_cons (pv 1) pa_nil)) (nomark _))))), ?_⟩
    obtain ⟨dx2, t2, d2, hq2, _⟩ := id hq
    obtain ⟨dx1, t1, d1, hp1, _⟩ := id hp
    refine ⟨_, rfl, _, _, _, _, true, rfl, .own _, c.at hq2, kit_same, _, rfl, iteY rfl ?_⟩
    exact ⟨_, rfl, p, dx1, _, rfl, hp1, p, r, rfl, hp, o, fun H1 s1 => ⟨_, rfl, _, rfl, q, dx2, _, rfl, s1 _ _ hq2, q, r', rfl, hq.same s1, o', fun H2 s2 => ⟨_, rfl, rfl, k H2 (s1.trans s2)⟩⟩⟩
theorem ok_eqN {f fS C : Addr} {fd fdS : FuncData} (F : Fun K "__eq__" "Row.__eq__" sEqR f fd) (T : TxtK mg) (gC : mg "Row" = some (.ref C))
    (GS : FnOk P w K mg base CX0 2 fS fdS ["self"] (spStrRow C)) (hs : PySem.W.findIn K (.ref C) "__str__" = some (some (.ref fS))) (hf : PySem.W.isFn K (.ref fS) = true) (bS : Binds K fdS ["self"] []) : FnOk P w K mg base CX0 5 f fd ["self", "other"] (spEqN K C) := by
  refine F.ok scEqR (fun vs H Q E h => ?_) (fun cdv A outer s H vs Q E hr h => ?_)
  · obtain ⟨p, y, rfl, _⟩ := h
    rfl
  · obtain ⟨p, y, rfl, ⟨t, ty, e⟩, k⟩ := h
    refine ⟨_, pss_one (ps_ret (pe_and (pe_callB call_isi (by rfl) T.isinstance (by decide +kernel) (pa_cons (pv 1) (pa_cons (pe_glob (v := .ref C) (by rfl) gC rfl) pa_nil)))
      (pe_one (pe_cmpR op_eq (pe_callTy (call_strOwn GS hs hf hr bS pass0) (by rfl) T.str (by decide +kernel) (pa_cons (pv 0) pa_nil)) (pe_callTy (call_strOwn GS hs hf hr bS pass0) (by rfl) T.str (by decide +kernel) (pa_cons (pv 1) pa_nil)) (nomark _))))), ?_⟩
    exact ⟨_, rfl, _, _, t, _, false, rfl, .own _, ty, e, _, rfl, iteN rfl k⟩
end
/-- what is had of the class Row -/
structure RwF (P : Program) (w : World) (K : PySem.W.Frag) (mg : Str → Option Value) (base : Heap) (C CT : Addr) : Prop where
  g : mg "Row" = some (.ref C)
  Z : RowC K C
  c : ClsI K C
  made : ∃ f fd, Mk K C f ∧ FnOk P w K mg base CX0 3 f fd ["self", "tests", "deeds"] (spRowG K C) ∧ Binds K fd ["self", "tests", "deeds"] []
  str : ∃ f fd, FnOk P w K mg base CX0 2 f fd ["self"] (spStrRow C) ∧ PySem.W.findIn K (.ref C) "__str__" = some (some (.ref f)) ∧ PySem.W.isFn K (.ref f) = true ∧ Binds K fd ["self"] []
  eq : ∃ f fd, FnOk P w K mg base CX0 5 f fd ["self", "other"] (spEqR C) ∧ FnOk P w K mg base CX0 5 f fd ["self", "other"] (spEqN K C) ∧ PySem.W.findIn K (.ref C) "__eq__" = some (some (.ref f)) ∧ PySem.W.isFn K (.ref f) = true ∧ Binds K fd ["self", "other"] []
  ne : PySem.W.findIn K (.ref C) "__ne__" = some (some (.builtin "object.__ne__"))
  nb : NoBase K C
  nf : PySem.W.notFirst K C (.ref CT) = true
  gT : mg "Tool" = some (.ref CT)
  cT : ClsI K CT
  kT : PySem.W.kitOne K (.ref CT) (.ref C) = some false
  kits : ∀ n, n = "str" ∨ n = "tuple" ∨ n = "list" ∨ n = "NoneType" → PySem.W.kitOne K (.type n) (.ref C) = some false
  tool : ∃ f fd ds, Mk K CT f ∧ FnOk P w K mg base CX0 3 f fd ["self", "rows", "sorts"] (spToolG K C CT) ∧ Vals [V.bl false] ds ∧ Binds K fd ["self", "rows", "sorts"] ds
def tMkR (C : Addr) (t : TA) : TE := fun σ H Q => t σ H fun vs H1 => ∃ a c r, vs = [.ref a, .ref c] ∧ SqX H1 a (r.ws.map V.str) ∧ SqX H1 c (r.us.map V.str) ∧ r.Ok ∧ (∀ z ∈ r.ws, progT z = true) ∧ (∀ z ∈ r.us, progD z = true) ∧
      ∀ y H', Same H1 H' → H1 y = none → RowAt C H' y r → Q (.ref y) H'
section
variable {X : Cx} {C CT : Addr} (T : RwF X.prog X.w X.K X.mg X.base C CT)
include T
theorem pe_mkR {e : Expr} {es : List Expr} {t : TA} {x : Str} {p pos : Pos} (hx : x = "Row") (hr : Room 4 X.A) (hg : Gl X x) (ha : PA X (e :: es) t) (he : starEach (e :: es) X.env = (false, eval e X.env) :: starEach es X.env := by rfl) (hpl : (backTo pos (starEach es X.env)).any (·.1) = false := by rfl) :
    PE X (.Call (.Name x p) (e :: es) [] pos) (tMkR C t) := by
  subst hx
  obtain ⟨f, fd, M, ok, b⟩ := T.made
  refine pe_mono (pe_make M ok hr hg T.g b .nil pass0 (pa_clo ha) (by decide) he hpl) fun σ H Q h => ⟨_, h, fun vs H1 q => ?_⟩
  obtain ⟨a, c, r, rfl, ha, hc, o, gt, gd, k⟩ := q
  intro y dx nx nd ne
  have zz := (Same.new nd (o := .own y)).trans (Same.new (fresh_own (o := .own y) nx ne) (o := .ins C dx []))
  refine ⟨y, dx, a, c, r, rfl, upd_same, ha.imp (zz _ _) (zz _ _), hc.imp (zz _ _) (zz _ _), o, gt, gd, fun H2 kp hx => ⟨rfl, ?_⟩⟩
  exact k y H2 (made_same nx nd kp) nx hx
theorem pe_mkTl {e : Expr} {t : TA} {x : Str} {p pos : Pos} (hx : x = "Tool") (hr : Room 4 X.A) (hg : Gl X x) (ha : PA X [e] t) (he : starEach [e] X.env = (false, eval e X.env) :: starEach [] X.env := by rfl) (hpl : (backTo pos (starEach [] X.env)).any (·.1) = false := by rfl) :
    PE X (.Call (.Name x p) [e] [] pos) (fun σ H Q => t σ H fun vs H1 => ∃ a xs, vs = [.ref a] ∧ SqG X.K H1 a xs ∧ xs.length ≤ 1000 ∧ (∀ v ∈ xs, IsP X.K C H1 v true) ∧ ∀ y dx fs H', Same H1 H' → H1 y = none → H' y = some (.ins CT dx fs) → Q (.ref y) H') := by
  subst hx
  obtain ⟨f, fd, ds, M, ok, hd, b⟩ := T.tool
  refine pe_mono (pe_make M ok hr hg T.gT b hd pass0 (pa_clo ha) (by decide) he hpl) fun σ H Q h => ⟨_, h, fun vs H1 q => ?_⟩
  obtain ⟨a, xs, rfl, hs, hl, hi, k⟩ := q
  intro y dx nx nd ne
  have zz := (Same.new nd (o := .own y)).trans (Same.new (fresh_own (o := .own y) nx ne) (o := .ins CT dx []))
  refine ⟨y, dx, a, xs, false, rfl, upd_same, hs.same zz, hl, fun v hv => (hi v hv).same zz, fun H2 u hu kp hx => ⟨rfl, ?_⟩⟩
  exact k y dx _ H2 (made_same nx nd kp) nx hx
theorem op_eqRw (hr : Room 5 X.A) : OpR X (compareOp .Eq) (fun x y H Q => ∃ p q r r', x = .ref p ∧ y = .ref q ∧ RowAt C H p r ∧ RowAt C H q r' ∧ r.Ok ∧ r'.Ok ∧ ∀ H', Same H H' → Q (.bl (decide (V.str (rowText r) = V.str (rowText r')))) H') := by
  obtain ⟨f, fd, ok, _, hs, fn, b⟩ := T.eq
  intro pins s σ H x y v u Q I rx ry h
  obtain ⟨p, q, r, r', rfl, rfl, hp, hq, o, o', k⟩ := h
  obtain ⟨d1, _, _, h1, _⟩ := id hp
  obtain ⟨d2, _, _, h2, _⟩ := id hq
  exact op_eqOwn ok hs fn hr b pass0 pins s σ H _ _ v u Q I rx ry ⟨p, q, d1, d2, _, _, rfl, rfl, h1, h2, p, q, r, r', rfl, hp, hq, o, o', fun H' s' => ⟨_, rfl, k H' s'⟩⟩
theorem op_neRw (hr : Room 6 X.A) : OpR X (compareOp .NotEq) (fun x y H Q => ∃ p q r r', x = .ref p ∧ y = .ref q ∧ RowAt C H p r ∧ RowAt C H q r' ∧ r.Ok ∧ r'.Ok ∧ ∀ H', Same H H' → Q (.bl (!decide (V.str (rowText r) = V.str (rowText r')))) H') := by
  obtain ⟨f, fd, ok, _, hs, fn, b⟩ := T.eq
  intro pins s σ H x y v u Q I rx ry h
  obtain ⟨p, q, r, r', rfl, rfl, hp, hq, o, o', k⟩ := h
  obtain ⟨d1, _, _, h1, _⟩ := id hp
  obtain ⟨d2, _, _, h2, _⟩ := id hq
  exact op_neOwn ok hs T.ne T.c.hm fn hr b pass0 pins s σ H _ _ v u Q I rx ry ⟨p, q, d1, d2, _, _, rfl, rfl, h1, h2, p, q, r, r', rfl, hp, hq, o, o', fun H' s' => ⟨_, rfl, k H' s'⟩⟩
theorem call_strRw (hr : Room 4 X.A) : CallR X (.type "str") (fun xs H Q => ∃ p r, xs = [.ref p] ∧ RowAt C H p r ∧ r.Ok ∧ ∀ H', Same H H' → Q (.str (rowText r)) H') := by
  obtain ⟨f, fd, ok, hs, fn, b⟩ := T.str
  intro pins s σ H xs us Q I r h
  obtain ⟨p, rd, rfl, hp, o, k⟩ := h
  obtain ⟨d1, _, _, h1, _⟩ := id hp
  exact call_strOwn ok hs fn hr b pass0 pins s σ H _ us Q I r ⟨p, d1, _, rfl, h1, p, rd, rfl, hp, o, fun H' s' => ⟨_, rfl, k H' s'⟩⟩
theorem op_inRw (hr : Room 6 X.A) : OpR X (compareOp .In) (fun x y H Q => ∃ (p a : Addr) (r : RD) (ys : List V), x = .ref p ∧ y = .ref a ∧ RowAt C H p r ∧ SqT X.K H a ys ∧ (∀ v ∈ ys, Oth X.K H v) ∧ (∀ v ∈ ys, IsP X.K C H v false) ∧ ∀ H', Same H H' → Q (.bl false) H') := by
  obtain ⟨f, fd, _, ok, hs, fn, b⟩ := T.eq
  intro pins s σ H x y v u Q I rx ry h
  obtain ⟨p, a, r, ys, rfl, rfl, ⟨dx, t, d, hp, _⟩, hy, ho, hn, k⟩ := h
  exact op_inNo ok hs fn T.nb hr b pass0 pins s σ H _ _ v u Q I rx ry ⟨p, dx, a, _, ys, rfl, rfl, hp, hy, ho, fun w hw H1 s1 => ⟨p, w, rfl, (hn w hw).same s1, rfl, Same.refl _⟩, k⟩
/-- a row against a tool -/
theorem op_eqRT (hr : Room 5 X.A) : OpR X (compareOp .Eq) (fun x y H Q => ∃ p q r dx fs, x = .ref p ∧ y = .ref q ∧ RowAt C H p r ∧ H q = some (.ins CT dx fs) ∧ Q (.bl false) H) := by
  obtain ⟨f, fd, _, ok, hs, fn, b⟩ := T.eq
  intro pins s σ H x y v u Q I rx ry h
  obtain ⟨p, q, r, dx, fs, rfl, rfl, hp, hq, k⟩ := h
  obtain ⟨d1, _, _, h1, _⟩ := id hp
  exact op_eqOth (C2 := CT) ok hs T.nf fn hr b pass0 pins s σ H _ _ v u Q I rx ry ⟨p, q, d1, dx, _, _, rfl, rfl, h1, hq, p, .ref q, rfl, ⟨_, T.cT.at hq, T.kT⟩, _, rfl, k⟩
theorem pe_testsR {e : Expr} {ta : TE} {pos : Pos} (he : PE X e ta) (hb : attributeBase e "tests" X.env (eval e X.env) = eval e X.env := by rfl) :
    PE X (.Attribute e "tests" pos) (fun σ H Q => ta σ H fun x H1 => ∃ p dx t d, x = .ref p ∧ H1 p = some (.ins C dx (rowF t d)) ∧ Q (.ref t) H1) := by
  refine pe_mono (pe_fldX (CT := C) (pe_clo he) T.Z.cl T.Z.tests hb) fun σ H Q h => ⟨_, h, fun v H1 q => ?_⟩
  obtain ⟨p, dx, t, d, rfl, hp, q⟩ := q
  exact ⟨p, dx, _, _, rfl, hp, rfl, q⟩
theorem pe_deedsR {e : Expr} {ta : TE} {pos : Pos} (he : PE X e ta) (hb : attributeBase e "deeds" X.env (eval e X.env) = eval e X.env := by rfl) :
    PE X (.Attribute e "deeds" pos) (fun σ H Q => ta σ H fun x H1 => ∃ p dx t d, x = .ref p ∧ H1 p = some (.ins C dx (rowF t d)) ∧ Q (.ref d) H1) := by
  refine pe_mono (pe_fldX (CT := C) (pe_clo he) T.Z.cl T.Z.deeds hb) fun σ H Q h => ⟨_, h, fun v H1 q => ?_⟩
  obtain ⟨p, dx, t, d, rfl, hp, q⟩ := q
  exact ⟨p, dx, _, _, rfl, hp, rfl, q⟩
end
/-! ### data of pairs -/
theorem eqv_strs : ∀ xs ys : List Str, PyData.eqvAll (xs.map .str) (ys.map .str) = decide (xs = ys)
  | [], [] => rfl
  | [], y :: ys => rfl
  | x :: xs, [] => rfl
  | x :: xs, y :: ys => by
    have ih := eqv_strs xs ys
    show (PyData.eqv (.str x) (.str y) && PyData.eqvAll (xs.map .str) (ys.map .str)) = _
    rw [ih, PyData.eqv]
    by_cases h : x = y
    · subst h
      simp
    · simp [h]
theorem eqv_pair (r q : RD) : PyData.eqv (pairD r) (pairD q) = decide (r.ws = q.ws ∧ r.us = q.us) := by
  show PyData.eqvAll [PyData.tuple (r.ws.map .str), .tuple (r.us.map .str)] [PyData.tuple (q.ws.map .str), .tuple (q.us.map .str)] = _
  show (PyData.eqv (.tuple (r.ws.map .str)) (.tuple (q.ws.map .str)) && (PyData.eqv (.tuple (r.us.map .str)) (.tuple (q.us.map .str)) && true)) = _
  rw [PyData.eqv, PyData.eqv, eqv_strs, eqv_strs, Bool.and_true]
  by_cases h1 : r.ws = q.ws <;> by_cases h2 : r.us = q.us <;> simp [h1, h2]
theorem text_iff {r q : RD} (h1 : r.In) (h2 : q.In) : decide (V.str (rowText r) = V.str (rowText q)) = decide (r.ws = q.ws ∧ r.us = q.us) := by
  apply decide_eq_decide.mpr
  constructor
  · exact fun h => text_inj h1 h2 (V.str.inj h)
  · rintro ⟨e1, e2⟩
    have : rowText r = rowText q := by
      unfold rowText rowWords
      rw [e1, e2]
    rw [this]
theorem pair_shaped {r : RD} (o : r.Ok) (i : r.In) : PySem.SeqAt.shaped (pairD r) = true := by
  have k2 : ∀ z ∈ r.us, PyData.strOk z = true := fun z hz => (show ∀ z ∈ deedL, PyData.strOk z = true by decide +kernel) z (i.d z hz)
  have h1 := depth_strs r.ws
  have h2 := depth_strs r.us
  show (PyData.canLay0 (pairD r) && decide (PyData.depth (pairD r) ≤ 64)) = true
  rw [Bool.and_eq_true]
  refine ⟨?_, decide_eq_true ?_⟩
  · unfold pairD
    simp [PyData.canLay0, PyData.canLayAll0, canLay_strs r.ws o.k, canLay_strs r.us k2]
  · unfold pairD
    simp only [PyData.depth, PyData.depthAll]
    omega
end Lay
set_option Elab.async false
set_option linter.all false
set_option maxRecDepth 100000
set_option maxHeartbeats 8000000
set_option pp.maxSteps 600
namespace Lay
open PySem L2
abbrev sLaw : Stmt := top 30
def lawN : List Str := ["_law_script", "_law_base", "_law_box", "_law_told", "_law_made", "_law_tests_here", "_law_deeds_here", "_law_given", "_law_handed", "_law_row", "_law_here", "_law_there", "_law_other", "_law_turn"]
/-- what the law wants -/
structure TxtL (mg : Str → Option Value) : Prop where
  range : mg "range" = none
  max : mg "max" = none
  min : mg "min" = none
  len : mg "len" = none
  str : mg "str" = none
  list : mg "list" = none
  repr : mg "repr" = none
  zip : mg "zip" = none
/-- a row as it is drawn -/
structure RGood (r : RD) : Prop where
  o : r.Ok
  i : r.In
  t : ∀ z ∈ r.ws, progT z = true
  d : ∀ z ∈ r.us, progD z = true
theorem RGood.of {ws us : List Str} (hw : ∀ z ∈ ws, GoodT z = true) (hu : ∀ z ∈ us, GoodD z = true) (l1 : ws.length ≤ 10) (l2 : us.length ≤ 10) (n : 0 < us.length) : RGood ⟨ws, us⟩ := by
  have a1 : ∀ z ∈ ws, progT z = true ∧ PyData.strOk z = true ∧ z.length ≤ 20 ∧ z ∈ testWs := fun z hz => by
    have h := hw z hz
    unfold GoodT at h
    simp only [Bool.and_eq_true, decide_eq_true_eq] at h
    exact ⟨h.1.1, h.1.2.1, h.1.2.2, h.2⟩
  have a2 : ∀ z ∈ us, progD z = true ∧ z.length ≤ 20 ∧ z ∈ deedL := fun z hz => by
    have h := hu z hz
    unfold GoodD at h
    simp only [Bool.and_eq_true, decide_eq_true_eq] at h
    exact ⟨h.1.1, h.1.2, h.2⟩
  refine ⟨⟨fun z hz => (a1 z hz).2.2.1, fun z hz => (a2 z hz).2.1, l1, l2, n, fun z hz => (a1 z hz).2.1⟩, ⟨fun z hz => (a1 z hz).2.2.2, fun z hz => (a2 z hz).2.2, fun e => ?_⟩, fun z hz => (a1 z hz).1, fun z hz => (a2 z hz).1⟩
  have e : us = [] := e
  rw [e] at n
  exact absurd n (by decide)
theorem RGood.rev1 {r : RD} (h : RGood r) : RGood ⟨r.ws.reverse, r.us⟩ := ⟨⟨fun z hz => h.o.w z (List.mem_reverse.mp hz), h.o.u, by rw [List.length_reverse]; exact h.o.lw, h.o.lu, h.o.nu, fun z hz => h.o.k z (List.mem_reverse.mp hz)⟩,
  ⟨fun z hz => h.i.t z (List.mem_reverse.mp hz), h.i.d, h.i.n⟩, fun z hz => h.t z (List.mem_reverse.mp hz), h.d⟩
theorem RGood.rev2 {r : RD} (h : RGood r) : RGood ⟨r.ws, r.us.reverse⟩ := ⟨⟨h.o.w, fun z hz => h.o.u z (List.mem_reverse.mp hz), h.o.lw, by rw [List.length_reverse]; exact h.o.lu, by rw [List.length_reverse]; exact h.o.nu, h.o.k⟩,
  ⟨h.i.t, fun z hz => h.i.d z (List.mem_reverse.mp hz), fun e => h.i.n (List.reverse_eq_nil_iff.mp e)⟩, h.t, fun z hz => h.d z (List.mem_reverse.mp hz)⟩
theorem PrAt.k2 {b gr : Addr} {G G' : Hp} {p : Addr} {r : RD} (x : BoxD G b gr) (k : K2 b gr G G') (h : PrAt G p r) : PrAt G' p r := by
  obtain ⟨t, d, p1, p2, p3⟩ := h
  exact ⟨t, d, k _ _ (x.tup_ne p1).1 (x.tup_ne p1).2 p1, k _ _ (x.tup_ne p2).1 (x.tup_ne p2).2 p2, k _ _ (x.tup_ne p3).1 (x.tup_ne p3).2 p3⟩
theorem PrAt.lset {D : Addr} {G : Hp} {p : Addr} {r : RD} {zs : List V} {o : HO} (hD : G D = some (.lst zs)) (h : PrAt G p r) : PrAt (upd G D o) p r := by
  obtain ⟨t, d, p1, p2, p3⟩ := h
  exact ⟨t, d, by rw [upd_ne (ne_of p1 hD (fun z => nomatch z))]; exact p1, by rw [upd_ne (ne_of p2 hD (fun z => nomatch z))]; exact p2, by rw [upd_ne (ne_of p3 hD (fun z => nomatch z))]; exact p3⟩
theorem PrAt.kept {M : Addr} {G G' : Hp} {p : Addr} {r : RD} {zs : List V} (hM : G M = some (.lst zs)) (k : Kept M G G') (h : PrAt G p r) : PrAt G' p r := by
  obtain ⟨t, d, p1, p2, p3⟩ := h
  exact ⟨t, d, k _ _ (ne_of p1 hM (fun z => nomatch z)) p1, k _ _ (ne_of p2 hM (fun z => nomatch z)) p2, k _ _ (ne_of p3 hM (fun z => nomatch z)) p3⟩
theorem RowAt.kept {C M : Addr} {G G' : Hp} {p : Addr} {r : RD} {zs : List V} (hM : G M = some (.lst zs)) (k : Kept M G G') (h : RowAt C G p r) : RowAt C G' p r := by
  obtain ⟨dx, t, d, p1, p2, p3⟩ := h
  exact ⟨dx, t, d, k _ _ (ne_of p1 hM (fun z => nomatch z)) p1, k _ _ (ne_of p2 hM (fun z => nomatch z)) p2, k _ _ (ne_of p3 hM (fun z => nomatch z)) p3⟩
theorem RowAt.lset {C D : Addr} {G : Hp} {p : Addr} {r : RD} {zs : List V} {o : HO} (hD : G D = some (.lst zs)) (h : RowAt C G p r) : RowAt C (upd G D o) p r := by
  obtain ⟨dx, t, d, p1, p2, p3⟩ := h
  exact ⟨dx, t, d, by rw [upd_ne (ne_of p1 hD (fun z => nomatch z))]; exact p1, by rw [upd_ne (ne_of p2 hD (fun z => nomatch z))]; exact p2, by rw [upd_ne (ne_of p3 hD (fun z => nomatch z))]; exact p3⟩
theorem same_k2 {b gr : Addr} {G0 G G' : Hp} (s : Same G0 G) (k : K2 b gr G G') (nb : G0 b = none) (ng : G0 gr = none) : Same G0 G' := fun a o e => k a o (ne_of_none e nb) (ne_of_none e ng) (s a o e)
theorem same_put {G G' : Hp} {g : Addr} {o : HO} (ng : G g = none) (s : Same G G') : Same G (upd G' g o) := fun a u e => by
  rw [upd_ne (ne_of_none e ng)]
  exact s _ _ e
theorem six {α : Type} : ∀ {l : List α}, l.length = 6 → ∃ x0 x1 x2 x3 x4 x5, l = [x0, x1, x2, x3, x4, x5]
  | [x0, x1, x2, x3, x4, x5], _ => ⟨x0, x1, x2, x3, x4, x5, rfl⟩
theorem shapedL (ws : List Str) (h : ∀ z ∈ ws, PyData.strOk z = true) : PySem.SeqAt.shaped (.list (ws.map PyData.str)) = true := by
  have h1 := depth_strs ws
  have h2 : PyData.depth (.list (ws.map PyData.str)) ≤ 64 := by simp only [PyData.depth]; omega
  show (PyData.canLay0 (.list (ws.map PyData.str)) && decide (PyData.depth (.list (ws.map PyData.str)) ≤ 64)) = true
  rw [Bool.and_eq_true]
  exact ⟨by simp only [PyData.canLay0]; exact canLay_strs ws h, decide_eq_true h2⟩
theorem eqvL (ws : List Str) : PyData.eqv (.list (ws.map .str)) (.list (ws.map .str)) = true := by
  rw [PyData.eqv, eqv_strs]
  exact decide_eq_true rfl
def spLaw (K : PySem.W.Frag) : Sp := fun vs H Q _ => ∃ (a : Addr) (ns : List Int), vs = [.ref a] ∧ SqL K H a (ns.map V.int) ∧ ns.length ≤ 63 ∧ ∀ H', Q (.bl true) H'
theorem scLaw : FnScope lawN ["_law_script"] (defScope sLaw) := ⟨rfl, rfl, rfl, by decide +kernel, rfl, by decide +kernel, by decide +kernel⟩
section
variable {P : Program} {w : World} {K : PySem.W.Frag} {mg : Str → Option Value} {base : Heap} {C CT : Addr}
theorem ok_law {f fF fT fD fX : Addr} {fx dF dT dD dX : FuncData} (F : Fun K "law" "law" sLaw f fx) (L : TxtL mg) (T : RwF P w K mg base C CT)
    (ok_feed : FnOk P w K mg base CX0 1 fF dF ["_law_script", "_law_base"] (spFeed K)) (g_feed : mg "_law_feed" = some (.ref fF)) (k_feed : PySem.W.keepIn K (.ref fF) = true) (b_feed : Binds K dF ["_law_script", "_law_base"] [])
    (ok_tests : FnOk P w K mg base CX0 3 fT dT ["_law_box", "_law_most"] (spDrawn GoodT 0)) (g_tests : mg "_law_tests" = some (.ref fT)) (k_tests : PySem.W.keepIn K (.ref fT) = true) (b_tests : Binds K dT ["_law_box", "_law_most"] [])
    (ok_deeds : FnOk P w K mg base CX0 3 fD dD ["_law_box", "_law_most"] (spDrawn GoodD 1)) (g_deeds : mg "_law_deeds" = some (.ref fD)) (k_deeds : PySem.W.keepIn K (.ref fD) = true) (b_deeds : Binds K dD ["_law_box", "_law_most"] [])
    (ok_row_text : FnOk P w K mg base CX0 1 fX dX ["_law_row"] spRowText) (g_row_text : mg "_law_row_text" = some (.ref fX)) (k_row_text : PySem.W.keepIn K (.ref fX) = true) (b_row_text : Binds K dX ["_law_row"] []) : FnG P w K mg base 7 f fx ["_law_script"] (spLaw K) := by
  refine Fun.okG F scLaw (fun vs H Q E h => ?_) (fun cdv A outer s H vs Q silent hr h => ?_)
  · obtain ⟨a, ns, rfl, _⟩ := h
    rfl
  · obtain ⟨a, ns, rfl, hs, hl, k⟩ := h
    have hr1 := hr.mono (show 1 ≤ 6 by decide)
    have hr3 := hr.mono (show 3 ≤ 6 by decide)
    have hr4 := hr.mono (show 4 ≤ 6 by decide)
    have hr5 := hr.mono (show 5 ≤ 6 by decide)
    have hr6 := hr
    refine ⟨_, (pss_cons (ps_for PassesOwn.never rfl (pi_range1 (by rfl) L.range (pa_cons (pe_callB (call_max2 rfl) (by rfl) L.max (by decide +kernel) (pa_cons pe_int (pa_cons (pe_callB (call_min2 rfl) (by rfl) L.min (by decide +kernel) (pa_cons pe_int (pa_cons (pe_callB call_len_seq (by rfl) L.len (by decide +kernel) (pa_cons (pv 0) pa_nil)) pa_nil))) pa_nil))) pa_nil)) (pg_name (i := 1) scLaw.nd rfl (.inl rfl))
      (pss_cons (ps_set (i := 2) scLaw.nd rfl (.inr rfl) (pe_call ok_feed hr1 (by rfl) g_feed k_feed b_feed .nil pass0 (pa_cons (pv 0) (pa_cons (pv 1) pa_nil))))
      (pss_cons (ps_setLc (i := 3) (own := [("_law_turn", 13)]) (tt := tYes) rfl scLaw.nd rfl rfl (sw_true rfl rfl rfl (by decide +kernel)) (pi_range1 (by rfl) L.range (pa_cons pe_int pa_nil)) (blkOk_by (N := lawN) (sc := defScope sLaw) (by decide +kernel))
          (fun _ _ _ _ _ => pg_name (i := 13) scLaw.nd rfl (Or.inl rfl)) (fun _ _ _ _ _ => pts_nil) (fun _ _ _ _ _ => (pe_tup (pa_cons (pe_call ok_tests hr3 (by rfl) g_tests k_tests b_tests .nil pass0 (pa_cons (pv 2) (pa_cons pe_int pa_nil))) (pa_cons (pe_call ok_deeds hr3 (by rfl) g_deeds k_deeds b_deeds .nil pass0 (pa_cons (pv 2) (pa_cons pe_int pa_nil))) pa_nil)))))
      (pss_cons (ps_set (i := 3) scLaw.nd rfl (.inl rfl) (pe_op op_cat (pv 3) (pe_lst (pa_cons (pe_tup (pa_cons (pe_revT (pe_ix ix_tup (pe_ix ix_list (pv 3) pe_int (fun _ _ => rfl)) pe_int (fun _ _ => rfl))) (pa_cons (pe_ix ix_tup (pe_ix ix_list (pv 3) pe_int (fun _ _ => rfl)) pe_int (fun _ _ => rfl)) pa_nil))) (pa_cons (pe_tup (pa_cons (pe_ix ix_tup (pe_ix ix_list (pv 3) pe_int (fun _ _ => rfl)) pe_int (fun _ _ => rfl)) (pa_cons (pe_revT (pe_ix ix_tup (pe_ix ix_list (pv 3) pe_int (fun _ _ => rfl)) pe_int (fun _ _ => rfl))) pa_nil))) (pa_cons (pe_ix ix_list (pv 3) pe_int (fun _ _ => rfl)) pa_nil))))))
      (pss_cons (ps_set (i := 4) scLaw.nd rfl (.inl rfl) (pe_lst pa_nil))
      (pss_cons (ps_for PassesOwn.never rfl (pi_list (pv 3)) (pg_tup rfl (pgs_cons (pg_name (i := 5) scLaw.nd rfl (.inl rfl)) (pgs_cons (pg_name (i := 6) scLaw.nd rfl (.inl rfl)) pgs_nil)))
        (pss_cons (ps_par (i := 7) (j := 8) (by rfl) scLaw.nd rfl rfl (by decide) rfl rfl (pa_cons (pe_callTy call_list_of (by rfl) L.list (by decide +kernel) (pa_cons (pv 5) pa_nil)) (pa_cons (pe_callTy call_list_of (by rfl) L.list (by decide +kernel) (pa_cons (pv 6) pa_nil)) pa_nil)) (by rfl))
        (pss_cons (ps_set (i := 9) scLaw.nd rfl (.inl rfl) (pe_mkR T rfl hr4 (by rfl) (pa_cons (pv 7) (pa_cons (pv 8) pa_nil))))
        (pss_cons (ps_if (PW.pt (pw_or (pt_cmpR (op_neD hr.units) (pv 7) (pe_callTy call_list_of (by rfl) L.list (by decide +kernel) (pa_cons (pv 5) pa_nil)) (nomark _)) (pw_or1 (pt_cmpR (op_neD hr.units) (pv 8) (pe_callTy call_list_of (by rfl) L.list (by decide +kernel) (pa_cons (pv 6) pa_nil)) (nomark _)))))
          (pss_one (ps_ret pe_bl))
          pss_nil)
        (pss_cons (ps_expr (pe_bm PySem.F.plainAttrs_list PySem.F.slot_list_append PySem.F.type_list_append mt_append (pv 7) (pa_cons pe_str pa_nil)))
        (pss_cons (ps_expr (pe_bm PySem.F.plainAttrs_list PySem.F.slot_list_append PySem.F.type_list_append mt_append (pv 8) (pa_cons pe_str pa_nil)))
        (pss_cons (ps_if (PW.pt (pw_or (pt_cmpR op_ne (pe_callB (call_reprD silent hr.units) (by rfl) L.repr (by decide +kernel) (pa_cons (pe_tup (pa_cons (pe_testsR T (pv 9)) (pa_cons (pe_deedsR T (pv 9)) pa_nil))) pa_nil)) (pe_callB (call_reprD silent hr.units) (by rfl) L.repr (by decide +kernel) (pa_cons (pe_tup (pa_cons (pv 5) (pa_cons (pv 6) pa_nil))) pa_nil)) (nomark _)) (pw_or1 (pt_cmpR op_ne (pe_callTy (call_strRw T hr4) (by rfl) L.str (by decide +kernel) (pa_cons (pv 9) pa_nil)) (pe_call ok_row_text hr1 (by rfl) g_row_text k_row_text b_row_text .nil pass0 (pa_cons (pe_tup (pa_cons (pv 5) (pa_cons (pv 6) pa_nil))) pa_nil)) (nomark _)))))
          (pss_one (ps_ret pe_bl))
          pss_nil)
        (pss_cons (ps_if (pt_cmpR (op_neRw T hr6) (pe_mkR T rfl hr4 (by rfl) (pa_cons (pv 5) (pa_cons (pv 6) pa_nil))) (pv 9) (nomark _))
          (pss_one (ps_ret pe_bl))
          pss_nil)
        (pss_one (ps_expr (pe_bm PySem.F.plainAttrs_list PySem.F.slot_list_append PySem.F.type_list_append mt_append (pv 4) (pa_cons (pv 9) pa_nil))))))))))))
      (pss_one (ps_for PassesOwn.never rfl (pi_zip (by rfl) L.zip (pa_cons (pv 3) (pa_cons (pv 4) pa_nil))) (pg_tup rfl (pgs_cons (pg_name (i := 10) scLaw.nd rfl (.inl rfl)) (pgs_cons (pg_name (i := 9) scLaw.nd rfl (.inl rfl)) pgs_nil)))
        (pss_cons (ps_for PassesOwn.never rfl (pi_zip (by rfl) L.zip (pa_cons (pv 3) (pa_cons (pv 4) pa_nil))) (pg_tup rfl (pgs_cons (pg_name (i := 11) scLaw.nd rfl (.inl rfl)) (pgs_cons (pg_name (i := 12) scLaw.nd rfl (.inl rfl)) pgs_nil)))
          (pss_one (ps_if (PW.pt (pw_or (pt_cmpR op_ne (pe_cmpR (op_eqRw T hr5) (pv 9) (pv 12) (nomark _)) (pe_cmpR (op_eqD hr.units) (pv 10) (pv 11) (nomark _)) (nomark _)) (pw_or1 (pt_cmpR op_eq (pe_cmpR (op_neRw T hr6) (pv 9) (pv 12) (nomark _)) (pe_cmpR (op_eqD hr.units) (pv 10) (pv 11) (nomark _)) (nomark _)))))
            (pss_one (ps_ret pe_bl))
            pss_nil)))
        (pss_one (ps_if (PW.pt (pw_or (pt_cmpR (op_inRw T hr6) (pv 9) (pe_tup (pa_cons (pe_callTy (call_strRw T hr4) (by rfl) L.str (by decide +kernel) (pa_cons (pv 9) pa_nil)) (pa_cons (pv 10) (pa_cons pe_non (pa_cons (pe_lst (pa_cons (pv 9) pa_nil)) pa_nil))))) (by rfl)) (pw_or1 (pt_cmpR (op_eqRT T hr5) (pv 9) (pe_mkTl T rfl hr4 (by rfl) (pa_cons (pe_lst (pa_cons (pv 9) pa_nil)) pa_nil)) (nomark _)))))
          (pss_one (ps_ret pe_bl))
          pss_nil)))))))))))
    (pss_one (ps_ret (pe_and (pe_cmpR op_eq (pe_callTy (call_strRw T hr4) (by rfl) L.str (by decide +kernel) (pa_cons (pe_mkR T rfl hr4 (by rfl) (pa_cons (pe_tup pa_nil) (pa_cons (pe_lst (pa_cons pe_str pa_nil)) pa_nil))) pa_nil)) pe_str (nomark _)) (pe_one (pe_cmpR op_eq (pe_callTy (call_strRw T hr4) (by rfl) L.str (by decide +kernel) (pa_cons (pe_mkR T rfl hr4 (by rfl) (pa_cons (pe_lst (pa_cons pe_str pa_nil)) (pa_cons (pe_tup (pa_cons pe_str pa_nil)) pa_nil))) pa_nil)) pe_str (nomark _))))))), ?_⟩
    have hmap : (ns.map V.int).length = ns.length := List.length_map ..
    refine ⟨_, rfl, a, _, rfl, .inl hs, _, _, rfl, _, _, rfl, _, rfl, ?_, ?_, for_range (lo := 0) (n := Int.toNat _) (fun i σ G => ∃ x1 x2 x3 x4 x5 x6 x7 x8 x9 x10 x11 x12 x13 : Option V, σ = [some (.ref a), x1, x2, x3, x4, x5, x6, x7, x8, x9, x10, x11, x12, x13] ∧ Same H G)
      ⟨none, none, none, none, none, none, none, none, none, none, none, none, none, rfl, Same.refl H⟩ ?_ ?_⟩
    · split <;> split <;> omega
    · split <;> split <;> omega
    · rintro i σ G0 hi ⟨x1, x2, x3, x4, x5, x6, x7, x8, x9, x10, x11, x12, x13, rfl, sG⟩
      have hi3 : i ≤ 2 := by
        revert hi
        split <;> split <;> omega
      refine ⟨_, rfl, _, rfl, a, ns, 0 + (i : Int), rfl, sG.seq hs, by omega, by omega, by omega, fun b gr G1 s1 nb ng b1 => ?_⟩
      -- what is told
      refine ⟨6, rfl, by decide, by decide, fun D1 nD => lc_range (lo := 0) (n := 6) (fun n G' => ∃ L : List (Addr × RD), K2 b gr G1 G' ∧ BoxD G' b gr ∧ D1 ≠ b ∧ D1 ≠ gr ∧ G' D1 = some (.lst (L.map fun x => V.ref x.1)) ∧ L.length = n ∧ ∀ x ∈ L, PrAt G' x.1 x.2 ∧ RGood x.2)
        ⟨[], K2.of_same (Same.new nD), b1.same (Same.new nD), (b1.fresh nD).1, (b1.fresh nD).2, upd_same, rfl, fun x h => (List.not_mem_nil h).elim⟩ ?_ ?_⟩
      · rintro n G' hn ⟨L, k', b', d1, d2, hD, hL, hx⟩
        refine ⟨rfl, _, rfl, b, gr, 4, rfl, b', by decide, by decide, fun t ws G3 k3 b3 tb tg ht w0 w4 hw => ⟨_, rfl, b, gr, 4, rfl, b3, by decide, by decide, fun d us G4 k4 b4 db dg hd u0 u4 hu => ⟨(by show 2 ≤ sizeLine; decide), fun p np => ?_⟩⟩⟩
        have k34 := k3.trans k4
        have sp := Same.new np (o := .tup [.ref t, .ref d])
        have hD4 := sp _ _ (k34 _ _ d1 d2 hD)
        have pr : PrAt (upd G4 p (.tup [.ref t, .ref d])) p ⟨ws, us⟩ := ⟨t, d, upd_same, sp _ _ (k4 _ _ tb tg ht), sp _ _ hd⟩
        have rg : RGood ⟨ws, us⟩ := RGood.of hw hu (by omega) (by omega) (by omega)
        refine ⟨_, hD4, by rw [List.length_map, hL]; exact small1000 (by omega), L ++ [(p, ⟨ws, us⟩)], fun c o n1 n2 e => ?_, (b4.same sp).put d1 d2, d1, d2, by rw [upd_same, List.map_append]; rfl, by rw [List.length_append, hL]; rfl, fun x hx' => ?_⟩
        · rw [upd_ne (ne_of_none e nD)]
          exact sp _ _ (k34 _ _ n1 n2 (k' _ _ n1 n2 e))
        · rcases List.mem_append.mp hx' with h | h
          · exact ⟨(((hx x h).1.k2 b' k34).same sp).lset hD4, (hx x h).2⟩
          · rw [List.mem_singleton] at h
            subst h
            exact ⟨pr.lset hD4, rg⟩
      · rintro G2 ⟨L, k2, b2, d1, d2, hD, hL, hx⟩
        have s2 : Same G0 G2 := same_k2 s1 k2 nb ng
        obtain ⟨⟨q0, r0⟩, ⟨q1, r1⟩, y2, y3, y4, y5, rfl⟩ := six hL
        obtain ⟨⟨t0, d0, hq0, ht0, hd0⟩, g0⟩ := hx (q0, r0) (by simp)
        refine ⟨_, rfl, _, rfl, D1, _, 0, .ref q0, rfl, rfl, SqL.of hD, rfl, q0, _, 0, .ref t0, rfl, rfl, SqT.of hq0, rfl, t0, _, rfl, SqT.of ht0, fun p1 n1 => ?_⟩
        have z1 := Same.new n1 (o := .tup (r0.ws.map V.str).reverse)
        refine ⟨_, rfl, D1, _, 0, .ref q0, rfl, rfl, SqL.of (z1 _ _ hD), rfl, q0, _, 1, .ref d0, rfl, rfl, SqT.of (z1 _ _ hq0), rfl, (by show 2 ≤ sizeLine; decide), fun e1 m1 => ?_⟩
        have z2 := Same.new m1 (o := .tup [.ref p1, .ref d0])
        have z12 := z1.trans z2
        refine ⟨_, rfl, D1, _, 0, .ref q0, rfl, rfl, SqL.of (z12 _ _ hD), rfl, q0, _, 0, .ref t0, rfl, rfl, SqT.of (z12 _ _ hq0), rfl, _, rfl, D1, _, 0, .ref q0, rfl, rfl, SqL.of (z12 _ _ hD), rfl, q0, _, 1, .ref d0, rfl, rfl, SqT.of (z12 _ _ hq0), rfl, d0, _, rfl, SqT.of (z12 _ _ hd0), fun p2 n2 => ⟨(by show 2 ≤ sizeLine; decide), fun e2 m2 => ?_⟩⟩
        have z3 := Same.new n2 (o := .tup (r0.us.map V.str).reverse)
        have z4 := Same.new m2 (o := .tup [.ref t0, .ref p2])
        have z14 := (z12.trans z3).trans z4
        refine ⟨_, rfl, D1, _, 1, .ref q1, rfl, rfl, SqL.of (z14 _ _ hD), rfl, (by show 3 ≤ sizeLine; decide), fun l3 m3 => ?_⟩
        have z5 := Same.new m3 (o := .lst [.ref e1, .ref e2, .ref q1])
        have z15 := z14.trans z5
        refine ⟨D1, l3, _, _, rfl, rfl, z15 _ _ hD, upd_same, (by show 9 ≤ sizeLine; decide), fun T0 nT => ?_⟩
        have z6 := Same.new nT (o := .lst (([(q0, r0), (q1, r1), y2, y3, y4, y5].map fun x => V.ref x.1) ++ [.ref e1, .ref e2, .ref q1]))
        have z16 := z15.trans z6
        have hE1 : PrAt _ e1 ⟨r0.ws.reverse, r0.us⟩ := ⟨p1, d0, z6 _ _ (z5 _ _ (z4 _ _ (z3 _ _ (upd_same (H := upd G2 p1 (.tup (r0.ws.map V.str).reverse)) (a := e1) (o := .tup [.ref p1, .ref d0]))))), by
          rw [List.map_reverse]
          exact z6 _ _ (z5 _ _ (z4 _ _ (z3 _ _ (z2 _ _ upd_same)))), z16 _ _ hd0⟩
        have hE2 : PrAt _ e2 ⟨r0.ws, r0.us.reverse⟩ := ⟨t0, p2, z6 _ _ (z5 _ _ upd_same), z16 _ _ ht0, by
          rw [List.map_reverse]
          exact z6 _ _ (z5 _ _ (z4 _ _ upd_same))⟩
        have hx9 : ∀ x ∈ [(q0, r0), (q1, r1), y2, y3, y4, y5, (e1, ⟨r0.ws.reverse, r0.us⟩), (e2, ⟨r0.ws, r0.us.reverse⟩), (q1, r1)], PrAt (upd (upd (upd (upd (upd (upd G2 p1 (.tup (r0.ws.map V.str).reverse)) e1 (.tup [.ref p1, .ref d0])) p2 (.tup (r0.us.map V.str).reverse)) e2 (.tup [.ref t0, .ref p2])) l3 (.lst [.ref e1, .ref e2, .ref q1])) T0 (.lst (([(q0, r0), (q1, r1), y2, y3, y4, y5].map fun x => V.ref x.1) ++ [.ref e1, .ref e2, .ref q1]))) x.1 x.2 ∧ RGood x.2 := fun x hm => by
          have old : ∀ y ∈ [(q0, r0), (q1, r1), y2, y3, y4, y5], PrAt _ y.1 y.2 ∧ RGood y.2 := fun y hy => ⟨(hx y hy).1.same z16, (hx y hy).2⟩
          simp only [List.mem_cons, List.not_mem_nil, or_false] at hm
          rcases hm with rfl | rfl | rfl | rfl | rfl | rfl | rfl | rfl | rfl
          · exact old _ (by simp)
          · exact old _ (by simp)
          · exact old _ (by simp)
          · exact old _ (by simp)
          · exact old _ (by simp)
          · exact old _ (by simp)
          · exact ⟨hE1, g0.rev1⟩
          · exact ⟨hE2, g0.rev2⟩
          · exact old _ (by simp)
        have hT : upd (upd (upd (upd (upd (upd G2 p1 (.tup (r0.ws.map V.str).reverse)) e1 (.tup [.ref p1, .ref d0])) p2 (.tup (r0.us.map V.str).reverse)) e2 (.tup [.ref t0, .ref p2])) l3 (.lst [.ref e1, .ref e2, .ref q1])) T0 (.lst (([(q0, r0), (q1, r1), y2, y3, y4, y5].map fun x => V.ref x.1) ++ [.ref e1, .ref e2, .ref q1])) T0 = some (.lst ([(q0, r0), (q1, r1), y2, y3, y4, y5, (e1, ⟨r0.ws.reverse, r0.us⟩), (e2, ⟨r0.ws, r0.us.reverse⟩), (q1, r1)].map fun x => V.ref x.1)) := upd_same
        have s0T := s2.trans z16
        have l9 : ([(q0, r0), (q1, r1), y2, y3, y4, y5, (e1, ⟨r0.ws.reverse, r0.us⟩), (e2, ⟨r0.ws, r0.us.reverse⟩), (q1, r1)] : List (Addr × RD)).length ≤ 9 := Nat.le_refl _
        clear hE1 hE2 hx hL
        generalize upd (upd (upd (upd (upd (upd G2 p1 (.tup (r0.ws.map V.str).reverse)) e1 (.tup [.ref p1, .ref d0])) p2 (.tup (r0.us.map V.str).reverse)) e2 (.tup [.ref t0, .ref p2])) l3 (.lst [.ref e1, .ref e2, .ref q1])) T0 (.lst (([(q0, r0), (q1, r1), y2, y3, y4, y5].map fun x => V.ref x.1) ++ [.ref e1, .ref e2, .ref q1])) = GT at *
        generalize [(q0, r0), (q1, r1), y2, y3, y4, y5, (e1, ⟨r0.ws.reverse, r0.us⟩), (e2, ⟨r0.ws, r0.us.reverse⟩), (q1, r1)] = L9 at *
        -- rows made of them
        refine ⟨(by show 0 ≤ sizeLine; exact Nat.zero_le _), fun M nM => ?_⟩
        have zM := Same.new nM (o := .lst [])
        have hM0 : upd GT M (.lst []) M = some (.lst []) := upd_same
        have hTM := zM _ _ hT
        have TM : T0 ≠ M := ne_of_none hT nM
        have hxM : ∀ x ∈ L9, PrAt (upd GT M (.lst [])) x.1 x.2 ∧ RGood x.2 := fun x h => ⟨(hx9 x h).1.same zM, (hx9 x h).2⟩
        have s0M := s0T.trans zM
        have nM0 : G0 M = none := by
          cases e : G0 M with
          | none => rfl
          | some o =>
            have := s0T _ _ e
            rw [nM] at this
            cases this
        generalize upd GT M (.lst []) = GM at *
        refine ⟨_, rfl, T0, rfl, ⟨_, SqL.of hTM⟩, for_list (K := K) (xs := L9.map fun x => V.ref x.1) (fun n σ G' => ∃ (ms : List Addr) (x5 x6 x7 x8 x9 x10 x11 x12 x13 : Option V), σ = [some (.ref a), some (.int (0 + (i : Int))), some (.ref b), some (.ref T0), some (.ref M), x5, x6, x7, x8, x9, x10, x11, x12, x13] ∧ Kept M GM G' ∧ G' M = some (.lst (ms.map V.ref)) ∧ ms.length = n ∧ ∀ (j : Nat) (m : Addr) (x : Addr × RD), ms[j]? = some m → L9[j]? = some x → RowAt C G' m x.2)
          ⟨[], _, _, _, _, _, _, _, _, _, rfl, Kept.of_same (Same.refl _), hM0, rfl, fun j m x h _ => by cases h⟩ (fun n σ G' _ z => by
            obtain ⟨_, _, _, _, _, _, _, _, _, _, _, z, _⟩ := z
            exact SqL.of (z _ _ TM hTM)) ?_ ?_⟩
        · rintro n x σ G' hxn ⟨ms, x5, x6, x7, x8, x9, x10, x11, x12, x13, rfl, kM, hM, lm, hms⟩
          clear z16 z6 z15 z5 z14 z4 z3 z12 z2 z1
          obtain ⟨y, hy, rfl⟩ : ∃ y, L9[n]? = some y ∧ V.ref y.1 = x := by
            rw [List.getElem?_map] at hxn
            cases e : L9[n]? with
            | none => rw [e] at hxn; cases hxn
            | some y => rw [e] at hxn; exact ⟨y, rfl, Option.some.inj hxn⟩
          obtain ⟨pr, rg⟩ := hxM y (List.mem_of_getElem? hy)
          obtain ⟨t, d, hq, ht, hd⟩ := pr.kept hM0 kM
          have nL : n < L9.length := (List.getElem?_eq_some_iff.mp hy).1
          refine ⟨y.1, _, rfl, SqT.of hq, rfl, _, _, rfl, _, _, rfl, rfl, ?_⟩
          refine ⟨_, rfl, t, _, rfl, .inr (SqT.of ht), fun g ng => ⟨_, rfl, d, _, rfl, .inr (SqT.of (Same.new ng _ _ hd)), fun h nh => ⟨_, _, rfl, ?_⟩⟩⟩
          have sg := Same.new ng (o := .lst (y.2.ws.map V.str))
          have sh := Same.new nh (o := .lst (y.2.us.map V.str))
          refine ⟨_, rfl, _, rfl, g, h, y.2, rfl, .inl (sh _ _ upd_same), .inl upd_same, rg.o, rg.t, rg.d, fun p G3 s3 n3 hp => ?_⟩
          have hg3 := s3 _ _ (sh _ _ (upd_same (H := G') (a := g) (o := .lst (y.2.ws.map V.str))))
          have hh3 := s3 _ _ (upd_same (H := upd G' g (.lst (y.2.ws.map V.str))) (a := h) (o := .lst (y.2.us.map V.str)))
          have s13 := (sg.trans sh).trans s3
          have gh : g ≠ h := ne_of_none upd_same nh
          have hkD : ∀ z ∈ y.2.us, PyData.strOk z = true := fun z hz => (show ∀ z ∈ deedL, PyData.strOk z = true by decide +kernel) z (rg.i.d z hz)
          refine ⟨_, rfl, _, rfl, t, _, rfl, .inr (SqT.of (s13 _ _ ht)), fun l1 nl1 => ?_⟩
          have sl1 := Same.new nl1 (o := .lst (y.2.ws.map V.str))
          refine ⟨.list (y.2.ws.map .str), .list (y.2.ws.map .str), .lst (SqL.of (sl1 _ _ hg3)) (strs_dp _), .lst (SqL.of upd_same) (strs_dp _), shapedL _ rg.o.k, shapedL _ rg.o.k, _, rfl, ?_⟩
          rw [eqvL]
          refine ⟨_, rfl, _, rfl, d, _, rfl, .inr (SqT.of (sl1 _ _ (s13 _ _ hd))), fun l2 nl2 => ?_⟩
          have sl2 := Same.new nl2 (o := .lst (y.2.us.map V.str))
          refine ⟨.list (y.2.us.map .str), .list (y.2.us.map .str), .lst (SqL.of (sl2 _ _ (sl1 _ _ hh3))) (strs_dp _), .lst (SqL.of upd_same) (strs_dp _), shapedL _ hkD, shapedL _ hkD, _, rfl, ?_⟩
          rw [eqvL]
          refine iteN rfl ?_
          have s15 := (s13.trans sl1).trans sl2
          have hg5 := sl2 _ _ (sl1 _ _ hg3)
          have hh5 := sl2 _ _ (sl1 _ _ hh3)
          have hp5 := (hp.same sl1).same sl2
          generalize upd (upd G3 l1 _) l2 _ = G5 at *
          -- what was handed in is changed
          refine ⟨_, rfl, .inl ⟨rfl, _, SqL.of hg5⟩, g, _, _, rfl, rfl, hg5, by rw [List.length_map]; exact small1000 (by have := rg.o.lw; omega), ?_⟩
          refine ⟨_, rfl, .inl ⟨rfl, _, SqL.of (by rw [upd_ne (Ne.symm gh)]; exact hh5)⟩, h, _, _, rfl, rfl, by rw [upd_ne (Ne.symm gh)]; exact hh5, by rw [List.length_map]; exact small1000 (by have := rg.o.lu; omega), ?_⟩
          have s16 : Same G' (upd (upd G5 g (.lst (y.2.ws.map V.str ++ [.str "long"]))) h (.lst (y.2.us.map V.str ++ [.str "close"]))) := same_put (by
            cases e : G' h with
            | none => rfl
            | some o =>
              have := sg _ _ e
              rw [nh] at this
              cases this) (same_put ng s15)
          have hp6 : RowAt C (upd (upd G5 g (.lst (y.2.ws.map V.str ++ [.str "long"]))) h (.lst (y.2.us.map V.str ++ [.str "close"]))) p y.2 := (hp5.lset hg5).lset (by rw [upd_ne (Ne.symm gh)]; exact hh5)
          generalize upd (upd G5 g (.lst (y.2.ws.map V.str ++ [.str "long"]))) h (.lst (y.2.us.map V.str ++ [.str "close"])) = G6 at *
          clear hg5 hh5 sl2 sl1 nl1 nl2 hg3 hh3 s13 s15 hp hp5 sg sh ng nh s3 n3
          have hq6 := s16 _ _ hq
          have ht6 := s16 _ _ ht
          have hd6 := s16 _ _ hd
          obtain ⟨dxp, tp, dp, hpi, hpt, hpd⟩ := id hp6
          -- what it shows
          refine ⟨_, rfl, p, dxp, tp, dp, rfl, hpi, _, rfl, p, dxp, tp, dp, rfl, hpi, (by show 2 ≤ sizeLine; decide), fun v1 nv1 => ?_⟩
          have c1 := Same.new nv1 (o := .tup [.ref tp, .ref dp])
          obtain ⟨ps1, ps2, ps3, ps4⟩ := pair_shows rg.o rg.i
          have dpair : ∀ {X1 : Hp} {a b c : Addr}, X1 a = some (.tup [.ref b, .ref c]) → X1 b = some (.tup (y.2.ws.map V.str)) → X1 c = some (.tup (y.2.us.map V.str)) → Dp K X1 (.ref a) (pairD y.2) := fun h1 h2 h3 => .tup (SqT.of h1) (.cons (.tup (SqT.of h2) (strs_dp _)) (.cons (.tup (SqT.of h3) (strs_dp _)) .nil))
          refine ⟨v1, pairD y.2, rfl, dpair upd_same (c1 _ _ hpt) (c1 _ _ hpd), ps1, ps2, ps3, ps4, ?_⟩
          refine ⟨_, rfl, _, rfl, (by show 2 ≤ sizeLine; decide), fun v2 nv2 => ?_⟩
          have c2 := Same.new nv2 (o := .tup [.ref t, .ref d])
          refine ⟨v2, pairD y.2, rfl, dpair upd_same (c2 _ _ (c1 _ _ ht6)) (c2 _ _ (c1 _ _ hd6)), ps1, ps2, ps3, ps4, rfl, _, rfl, ?_⟩
          have c12 := c1.trans c2
          refine iteN (by simp) ?_
          refine ⟨_, rfl, p, y.2, rfl, hp6.same c12, rg.o, fun G7 s7 => ?_⟩
          refine ⟨_, rfl, _, rfl, (by show 2 ≤ sizeLine; decide), fun v3 nv3 => ?_⟩
          have c3 := Same.new nv3 (o := .tup [.ref t, .ref d])
          have c17 := c12.trans s7
          refine ⟨v3, y.2, rfl, ⟨t, d, upd_same, c3 _ _ (c17 _ _ ht6), c3 _ _ (c17 _ _ hd6)⟩, rg.o, fun G8 s8 => ⟨rfl, _, rfl, iteN (by simp) ?_⟩⟩
          have c18 := (c17.trans c3).trans s8
          -- made once more
          refine ⟨_, rfl, _, rfl, t, d, y.2, rfl, .inr (c18 _ _ ht6), .inr (c18 _ _ hd6), rg.o, rg.t, rg.d, fun p9 G9 s9 n9 hp9 => ?_⟩
          refine ⟨_, rfl, p9, p, y.2, y.2, rfl, rfl, hp9, hp6.same (c18.trans s9), rg.o, rg.o, fun G10 s10 => ⟨_, rfl, iteN (by simp) ?_⟩⟩
          have kA : Kept M G' G10 := Kept.of_same ((s16.trans (c18.trans s9)).trans s10)
          have hM10 : G10 M = some (.lst (ms.map V.ref)) := ((s16.trans (c18.trans s9)).trans s10) _ _ hM
          have hp10 := (hp6.same (c18.trans s9)).same s10
          refine ⟨_, rfl, .inl ⟨rfl, _, SqL.of hM10⟩, _, rfl, M, _, _, rfl, rfl, hM10, by rw [List.length_map]; exact small1000 (by omega), ?_⟩
          refine ⟨ms ++ [p], _, _, _, _, _, _, _, _, _, rfl, (kM.trans kA).trans Kept.box, by rw [upd_same, List.map_append]; rfl, by rw [List.length_append, lm]; rfl, fun j m x hm hx => ?_⟩
          by_cases lj : j < ms.length
          · rw [List.getElem?_append_left lj] at hm
            have h1 := hms j m x hm hx
            exact (h1.kept (zs := ms.map V.ref) hM kA).lset hM10
          · have ej : j = ms.length := by
              have := (List.getElem?_eq_some_iff.mp hm).1
              rw [List.length_append, List.length_singleton] at this
              omega
            subst ej
            rw [List.getElem?_append_right (Nat.le_refl _), Nat.sub_self] at hm
            cases hm
            rw [lm, hy] at hx
            cases hx
            exact hp10.lset hM10
        · rintro σ G5 ⟨ms, x5, x6, x7, x8, x9, x10, x11, x12, x13, rfl, kM, hM, lm, hms⟩
          have s05 : Same G0 G5 := fun z o e => kM _ _ (ne_of_none e nM0) (s0M _ _ e)
          have hT5 := kM _ _ TM hTM
          have hpr : ∀ x ∈ L9, PrAt G5 x.1 x.2 ∧ RGood x.2 := fun x h => ⟨(hxM x h).1.kept hM0 kM, (hxM x h).2⟩
          have both : ∀ (j : Nat) (x y : V), (L9.map fun x => V.ref x.1)[j]? = some x → (ms.map V.ref)[j]? = some y → ∃ (q m : Addr) (r : RD), x = .ref q ∧ y = .ref m ∧ PrAt G5 q r ∧ RowAt C G5 m r ∧ RGood r := fun j x y hx hy => by
            rw [List.getElem?_map] at hx hy
            cases e : L9[j]? with
            | none => rw [e] at hx; cases hx
            | some u =>
              cases e2 : ms[j]? with
              | none => rw [e2] at hy; cases hy
              | some m =>
                rw [e] at hx
                rw [e2] at hy
                obtain ⟨h1, h2⟩ := hpr u (List.mem_of_getElem? e)
                exact ⟨u.1, m, u.2, (Option.some.inj hx).symm, (Option.some.inj hy).symm, h1, hms j m u e2 e, h2⟩
          clear hms hxM hx9 hT z16 z6 z15 z5 z14 z4 z3 z12 z2 z1 zM hTM hM0
          have lx : (L9.map fun x => V.ref x.1).length = (ms.map V.ref).length := lm.symm.trans (List.length_map ..).symm
          clear lm
          generalize (L9.map fun x => V.ref x.1) = xs at *
          generalize ms.map V.ref = ys at *
          refine ⟨_, rfl, _, rfl, T0, M, _, _, rfl, SqL.of hT5, SqL.of hM, RZ.for_zipL (K := K) lx (fun n σ G' => ∃ x5 x6 x7 x8 x9 x10 x11 x12 x13 : Option V, σ = [some (.ref a), some (.int (0 + (i : Int))), some (.ref b), some (.ref T0), some (.ref M), x5, x6, x7, x8, x9, x10, x11, x12, x13] ∧ Same G5 G')
            ⟨_, _, _, _, _, _, _, _, _, rfl, Same.refl _⟩ (fun n σ G' z => by
              obtain ⟨_, _, _, _, _, _, _, _, _, _, z⟩ := z
              exact ⟨SqL.of (z _ _ hT5), SqL.of (z _ _ hM)⟩) ?_ ?_⟩
          · rintro n x y Tu σ G6 hx hy ⟨x5, x6, x7, x8, x9, x10, x11, x12, x13, rfl, s6⟩ nTu
            obtain ⟨q, m, r, rfl, rfl, hq, hm, rg⟩ := both n x y hx hy
            have su := Same.new nTu (o := .tup [.ref q, .ref m])
            refine ⟨Tu, _, rfl, SqT.of upd_same, rfl, _, _, rfl, _, _, rfl, rfl, ?_⟩
            have s7 := s6.trans su
            generalize upd G6 Tu (.tup [.ref q, .ref m]) = G7 at *
            clear s6 su nTu
            refine ⟨_, rfl, _, rfl, T0, M, _, _, rfl, SqL.of (s7 _ _ hT5), SqL.of (s7 _ _ hM), RZ.for_zipL (K := K) lx (fun n σ G' => ∃ x5 x6 x7 x8 x11 x12 x13 : Option V, σ = [some (.ref a), some (.int (0 + (i : Int))), some (.ref b), some (.ref T0), some (.ref M), x5, x6, x7, x8, some (.ref m), some (.ref q), x11, x12, x13] ∧ Same G7 G')
              ⟨_, _, _, _, _, _, _, rfl, Same.refl _⟩ (fun n σ G' z => by
                obtain ⟨_, _, _, _, _, _, _, _, z⟩ := z
                exact ⟨SqL.of (z _ _ (s7 _ _ hT5)), SqL.of (z _ _ (s7 _ _ hM))⟩) ?_ ?_⟩
            · rintro n2 x2 y2 Tv σ G8 hx2 hy2 ⟨x5, x6, x7, x8, x11, x12, x13, rfl, s8⟩ nTv
              obtain ⟨q2, m2, r2, rfl, rfl, hq2, hm2, rg2⟩ := both n2 x2 y2 hx2 hy2
              have sv := Same.new nTv (o := .tup [.ref q2, .ref m2])
              refine ⟨Tv, _, rfl, SqT.of upd_same, rfl, _, _, rfl, _, _, rfl, rfl, ?_⟩
              have s9 := s8.trans sv
              generalize upd G8 Tv (.tup [.ref q2, .ref m2]) = G9 at *
              clear s8 sv nTv
              have s59 := s7.trans s9
              have dpr : ∀ {X1 : Hp} {a : Addr} {r : RD}, PrAt X1 a r → Dp K X1 (.ref a) (pairD r) := fun h => by
                obtain ⟨t, d, h1, h2, h3⟩ := h
                exact .tup (SqT.of h1) (.cons (.tup (SqT.of h2) (strs_dp _)) (.cons (.tup (SqT.of h3) (strs_dp _)) .nil))
              refine ⟨_, rfl, _, rfl, m, m2, r, r2, rfl, rfl, hm.same s59, hm2.same s59, rg.o, rg2.o, fun G10 s10 => ?_⟩
              have s510 := s59.trans s10
              refine ⟨_, rfl, _, rfl, pairD r, pairD r2, dpr (hq.same s510), dpr (hq2.same s510), pair_shaped rg.o rg.i, pair_shaped rg2.o rg2.i, rfl, _, rfl, ?_⟩
              rw [text_iff rg.i rg2.i, eqv_pair]
              refine iteN (by simp) ?_
              refine ⟨_, rfl, _, rfl, m, m2, r, r2, rfl, rfl, hm.same s510, hm2.same s510, rg.o, rg2.o, fun G11 s11 => ?_⟩
              have s511 := s510.trans s11
              refine ⟨_, rfl, _, rfl, pairD r, pairD r2, dpr (hq.same s511), dpr (hq2.same s511), pair_shaped rg.o rg.i, pair_shaped rg2.o rg2.i, rfl, _, rfl, ?_⟩
              rw [text_iff rg.i rg2.i, eqv_pair]
              refine iteN (by cases decide (r.ws = r2.ws ∧ r.us = r2.us) <;> simp) ?_
              exact ⟨_, _, _, _, _, _, _, rfl, s9.trans (s10.trans s11)⟩
            · rintro σ G8 ⟨x5, x6, x7, x8, x11, x12, x13, rfl, s8⟩
              have s58 := s7.trans s8
              refine ⟨_, rfl, _, rfl, m, r, rfl, hm.same s58, rg.o, fun G9 s9 => ?_⟩
              have s59 := s58.trans s9
              refine ⟨_, rfl, _, rfl, (by show 1 ≤ sizeLine; decide), fun e1 n1 => ⟨(by show 4 ≤ sizeLine; decide), fun e2 n2 => ?_⟩⟩
              have u1 := Same.new n1 (o := .lst [.ref m])
              have u2 := Same.new n2 (o := .tup [.str (rowText r), .ref q, .non, .ref e1])
              have u12 := u1.trans u2
              have s5b := s59.trans u12
              have hq9 := hq.same s5b
              have he1 := u2 _ _ (upd_same (H := G9) (a := e1) (o := .lst [.ref m]))
              obtain ⟨tq, dq, hqt, _⟩ := id hq9
              refine ⟨m, e2, r, _, rfl, rfl, hm.same s5b, SqT.of upd_same, fun v hv => ?_, fun v hv => ?_, fun G10 s10 => ⟨_, rfl, iteN rfl ?_⟩⟩
              · simp only [List.mem_cons, List.not_mem_nil, or_false] at hv
                rcases hv with rfl | rfl | rfl | rfl
                · exact .inl ⟨_, rfl⟩
                · exact .inr (.inr (.inl ⟨_, _, rfl, SqT.of hqt⟩))
                · exact .inr (.inl rfl)
                · exact .inr (.inr (.inr ⟨_, _, rfl, SqL.of he1⟩))
              · simp only [List.mem_cons, List.not_mem_nil, or_false] at hv
                rcases hv with rfl | rfl | rfl | rfl
                · exact ⟨_, .base (.str _), T.kits _ (.inl rfl)⟩
                · exact ⟨_, .base (.tup hqt), T.kits _ (.inr (.inl rfl))⟩
                · exact ⟨_, .base .non, T.kits _ (.inr (.inr (.inr rfl)))⟩
                · exact ⟨_, .base (.lst he1), T.kits _ (.inr (.inr (.inl rfl)))⟩
              · have s510 := s5b.trans s10
                refine ⟨_, rfl, _, rfl, (by show 1 ≤ sizeLine; decide), fun e3 n3 => ?_⟩
                have u3 := Same.new n3 (o := .lst [.ref m])
                refine ⟨e3, _, rfl, .inl upd_same, (by show 1 ≤ 1000; decide), fun v hv => ?_, fun y dx fs G11 s11 n11 h11 => ?_⟩
                · rw [List.mem_singleton] at hv
                  subst hv
                  exact (hm.same (s510.trans u3)).isP T.c
                · refine ⟨m, y, r, dx, fs, rfl, rfl, hm.same ((s510.trans u3).trans s11), h11, _, rfl, iteN rfl ?_⟩
                  exact ⟨_, _, _, _, _, _, _, _, _, rfl, (((s7.trans s8).trans (s9.trans u12)).trans (s10.trans u3)).trans s11⟩
          · rintro σ G6 ⟨x5, x6, x7, x8, x9, x10, x11, x12, x13, rfl, s6⟩
            exact ⟨_, _, _, _, _, _, _, _, _, _, _, _, _, rfl, (sG.trans s05).trans s6⟩
    · rintro σ G ⟨x1, x2, x3, x4, x5, x6, x7, x8, x9, x10, x11, x12, x13, rfl, sG⟩
      -- two by hand
      refine ⟨(by show 0 ≤ sizeLine; exact Nat.zero_le _), fun e1 n1 => ⟨(by show 1 ≤ sizeLine; decide), fun e2 n2 => ?_⟩⟩
      have u1 := Same.new n1 (o := .tup [])
      refine ⟨e1, e2, ⟨[], ["join"]⟩, rfl, .inr (Same.new n2 _ _ upd_same), .inl upd_same, ⟨fun z h => (List.not_mem_nil h).elim, fun z h => ?_, Nat.zero_le _, by decide, by decide, fun z h => (List.not_mem_nil h).elim⟩, fun z h => (List.not_mem_nil h).elim, fun z h => ?_, fun y6 G6 s6 n6 h6 => ?_⟩
      · rw [List.mem_singleton] at h
        rw [h]
        decide
      · rw [List.mem_singleton] at h
        rw [h]
        decide +kernel
      refine ⟨y6, _, rfl, h6, ⟨fun z h => (List.not_mem_nil h).elim, fun z h => ?_, Nat.zero_le _, by decide, by decide, fun z h => (List.not_mem_nil h).elim⟩, fun G7 s7 => ?_⟩
      · rw [List.mem_singleton] at h
        rw [h]
        decide
      refine ⟨rfl, _, rfl, iteY (by decide +kernel) ?_⟩
      refine ⟨(by show 1 ≤ sizeLine; decide), fun e3 n3 => ⟨(by show 1 ≤ sizeLine; decide), fun e4 n4 => ?_⟩⟩
      refine ⟨e3, e4, ⟨["not first"], ["lift"]⟩, rfl, .inl (Same.new n4 _ _ upd_same), .inr upd_same, ⟨fun z h => ?_, fun z h => ?_, by decide, by decide, by decide, fun z h => ?_⟩, fun z h => ?_, fun z h => ?_, fun y8 G8 s8 n8 h8 => ?_⟩
      · rw [List.mem_singleton] at h
        rw [h]
        decide
      · rw [List.mem_singleton] at h
        rw [h]
        decide
      · rw [List.mem_singleton] at h
        rw [h]
        decide +kernel
      · rw [List.mem_singleton] at h
        rw [h]
        decide +kernel
      · rw [List.mem_singleton] at h
        rw [h]
        decide +kernel
      refine ⟨y8, _, rfl, h8, ⟨fun z h => ?_, fun z h => ?_, by decide, by decide, by decide, fun z h => ?_⟩, fun G9 s9 => ?_⟩
      · rw [List.mem_singleton] at h
        rw [h]
        decide
      · rw [List.mem_singleton] at h
        rw [h]
        decide
      · rw [List.mem_singleton] at h
        rw [h]
        decide +kernel
      rw [show V.str (rowText ⟨["not first"], ["lift"]⟩) = .str "if not first do lift" from by decide +kernel]
      refine ⟨rfl, ?_⟩
      rw [decide_eq_true rfl]
      exact k _
end
end Lay
set_option Elab.async false
set_option linter.all false
set_option maxRecDepth 100000
set_option maxHeartbeats 8000000
namespace Lay
open PySem L2

theorem kit_cls {K : PySem.W.Frag} {C : Addr} {t : Value} {b : Bool} (hd : PySem.W.hasDictIn K C = true) (ty : PySem.W.typeIn K (.ref C) = some (.type "type")) (s : PySem.W.subIn K t (.ref C) = some b) (e : t = .ref C → b = true) : PySem.W.kitOne K t (.ref C) = some b := by
  unfold PySem.W.kitOne
  by_cases h : (t == Value.ref C) = true
  · rw [if_pos h, e (beq_iff_eq.mp h)]
  · rw [if_neg h]
    obtain ⟨cd, hc, _⟩ := PySem.W.any_some hd
    unfold PySem.W.kitCls
    dsimp only
    rw [if_pos (by rw [hc, ty]; rfl)]
    exact s
theorem kit_type {K : PySem.W.Frag} {C : Addr} {n : String} {b : Bool} (hm : PySem.W.kitMeta n = true) (s : PySem.W.subIn K (.ref C) (.type n) = some b) : PySem.W.kitOne K (.ref C) (.type n) = some b := by
  unfold PySem.W.kitOne
  rw [if_neg (fun h => by have q := beq_iff_eq.mp h; cases q)]
  unfold PySem.W.kitCls
  dsimp only
  rw [if_pos hm]
  exact s
theorem np_none {C : Addr} : (PySem.fastBuiltinMro "NoneType").map (·.contains (Value.ref C)) = some false := by
  have e : PySem.fastBuiltinMro "NoneType" = some [.type "NoneType", .type "object"] := by decide +kernel
  rw [e]
  rfl
theorem np_int {C : Addr} : (PySem.fastBuiltinMro "int").map (·.contains (Value.ref C)) = some false := by
  have e : PySem.fastBuiltinMro "int" = some [.type "int", .type "object"] := by decide +kernel
  rw [e]
  rfl
theorem np_bool {C : Addr} : (PySem.fastBuiltinMro "bool").map (·.contains (Value.ref C)) = some false := by
  have e : PySem.fastBuiltinMro "bool" = some [.type "bool", .type "int", .type "object"] := by decide +kernel
  rw [e]
  rfl
theorem np_str {C : Addr} : (PySem.fastBuiltinMro "str").map (·.contains (Value.ref C)) = some false := by
  have e : PySem.fastBuiltinMro "str" = some [.type "str", .type "object"] := by decide +kernel
  rw [e]
  rfl
theorem np_list {C : Addr} : (PySem.fastBuiltinMro "list").map (·.contains (Value.ref C)) = some false := by
  have e : PySem.fastBuiltinMro "list" = some [.type "list", .type "object"] := by decide +kernel
  rw [e]
  rfl
theorem np_tuple {C : Addr} : (PySem.fastBuiltinMro "tuple").map (·.contains (Value.ref C)) = some false := by
  have e : PySem.fastBuiltinMro "tuple" = some [.type "tuple", .type "object"] := by decide +kernel
  rw [e]
  rfl

theorem binds_row {K : PySem.W.Frag} {f e1 e2 : Addr} {fd : FuncData} (F : FunD K "__init__" "Row.__init__" (defArgs sRowI) (defBody sRowI) (defScope sRowI) [.ref e1, .ref e2] [] f fd) : Binds K fd ["self", "tests", "deeds"] [] := by
  obtain ⟨ds, h1, h2⟩ := F.binds1 (ps := ["self", "tests", "deeds"]) 3 2 (fun z => nomatch z) rfl fun T kV doc pm an cdv ct us its h1 h2 => match us, its, h1, h2 with
    | [_, _, _], [_, _], _, _ => ⟨_, rfl, rfl⟩
  cases h1
  exact h2
theorem binds_tool {K : PySem.W.Frag} {f e1 : Addr} {fd : FuncData} (F : FunD K "__init__" "Tool.__init__" (defArgs sToolI) (defBody sToolI) (defScope sToolI) [.ref e1, .bl false] [] f fd) : Binds K fd ["self", "rows", "sorts"] [] := by
  obtain ⟨ds, h1, h2⟩ := F.binds1 (ps := ["self", "rows", "sorts"]) 3 2 (fun z => nomatch z) rfl fun T kV doc pm an cdv ct us its h1 h2 => match us, its, h1, h2 with
    | [_, _, _], [_, _], _, _ => ⟨_, rfl, rfl⟩
  cases h1
  exact h2
theorem binds_tool1 {K : PySem.W.Frag} {f e1 : Addr} {fd : FuncData} (F : FunD K "__init__" "Tool.__init__" (defArgs sToolI) (defBody sToolI) (defScope sToolI) [.ref e1, .bl false] [] f fd) : ∃ ds, Vals [V.bl false] ds ∧ Binds K fd ["self", "rows", "sorts"] ds :=
  F.binds1 (ps := ["self", "rows", "sorts"]) 2 1 (fun z => nomatch z) rfl fun T kV doc pm an cdv ct us its h1 h2 => match us, its, h1, h2 with
    | [_, _], [_, _], _, _ => ⟨_, rfl, rfl⟩
theorem binds_tool0 {K : PySem.W.Frag} {f e1 : Addr} {fd : FuncData} (F : FunD K "__init__" "Tool.__init__" (defArgs sToolI) (defBody sToolI) (defScope sToolI) [.ref e1, .bl false] [] f fd) : ∃ ds, Vals [V.ref e1, V.bl false] ds ∧ Binds K fd ["self", "rows", "sorts"] ds :=
  F.binds1 (ps := ["self", "rows", "sorts"]) 1 0 (fun z => nomatch z) rfl fun T kV doc pm an cdv ct us its h1 h2 => match us, its, h1, h2 with
    | [_], [_, _], _, _ => ⟨_, rfl, rfl⟩

theorem all_mk {l : PySem.W.OpenLaw} {w : World} {K : PySem.W.Frag} {h : Heap} {mg : Str → Option Value} {fa C TC eP eQ fR CT TCT eR fT tT tD fsR feR g_seq g_test g_deed g_areT g_areD g_areR g_rw g_feed g_take g_pick g_tests g_deeds g_rt g_law : Addr} (X : K.In h) (G : h.Ns mainGlobals mg) (hfa : mg "law" = some (.ref fa))
    {od_Ci an_Ci : Option Addr} {sl_Ci : Array (Option Value)} {oc_Ci kV_Ci dc_Ci pm_Ci cd_Ci ct_Ci : Value}
    {oc_TC : Value} {od_TC : Option Addr} {n_TC : Nat} {sl_TC : Array (Option Value)}
    {od_CTi an_CTi : Option Addr} {sl_CTi : Array (Option Value)} {oc_CTi kV_CTi dc_CTi pm_CTi cd_CTi ct_CTi : Value}
    {oc_TCT : Value} {od_TCT : Option Addr} {n_TCT : Nat} {sl_TCT : Array (Option Value)}
    {od_eR : Option Addr} {n_eR : Nat} {sl_eR : Array (Option Value)}
    {od_tT : Option Addr} {n_tT tT0 tT1 tT2 tT3 tT4 tT5 tT6 tT7 tT8 tT9 : Nat} {sl_tT : Array (Option Value)}
    {od_tD : Option Addr} {n_tD tD0 tD1 tD2 tD3 tD4 tD5 tD6 tD7 : Nat} {sl_tD : Array (Option Value)}
    {od_sR an_sR : Option Addr} {sl_sR : Array (Option Value)} {oc_sR kV_sR dc_sR pm_sR cd_sR ct_sR : Value}
    {od_qR an_qR : Option Addr} {sl_qR : Array (Option Value)} {oc_qR kV_qR dc_qR pm_qR cd_qR ct_qR : Value}
    {od_seq an_seq : Option Addr} {sl_seq : Array (Option Value)} {oc_seq kV_seq dc_seq pm_seq cd_seq ct_seq : Value}
    {od_test an_test : Option Addr} {sl_test : Array (Option Value)} {oc_test kV_test dc_test pm_test cd_test ct_test : Value}
    {od_deed an_deed : Option Addr} {sl_deed : Array (Option Value)} {oc_deed kV_deed dc_deed pm_deed cd_deed ct_deed : Value}
    {od_areT an_areT : Option Addr} {sl_areT : Array (Option Value)} {oc_areT kV_areT dc_areT pm_areT cd_areT ct_areT : Value}
    {od_areD an_areD : Option Addr} {sl_areD : Array (Option Value)} {oc_areD kV_areD dc_areD pm_areD cd_areD ct_areD : Value}
    {od_areR an_areR : Option Addr} {sl_areR : Array (Option Value)} {oc_areR kV_areR dc_areR pm_areR cd_areR ct_areR : Value}
    {od_rw an_rw : Option Addr} {sl_rw : Array (Option Value)} {oc_rw kV_rw dc_rw pm_rw cd_rw ct_rw : Value}
    {od_feed an_feed : Option Addr} {sl_feed : Array (Option Value)} {oc_feed kV_feed dc_feed pm_feed cd_feed ct_feed : Value}
    {od_take an_take : Option Addr} {sl_take : Array (Option Value)} {oc_take kV_take dc_take pm_take cd_take ct_take : Value}
    {od_pick an_pick : Option Addr} {sl_pick : Array (Option Value)} {oc_pick kV_pick dc_pick pm_pick cd_pick ct_pick : Value}
    {od_tests an_tests : Option Addr} {sl_tests : Array (Option Value)} {oc_tests kV_tests dc_tests pm_tests cd_tests ct_tests : Value}
    {od_deeds an_deeds : Option Addr} {sl_deeds : Array (Option Value)} {oc_deeds kV_deeds dc_deeds pm_deeds cd_deeds ct_deeds : Value}
    {od_rt an_rt : Option Addr} {sl_rt : Array (Option Value)} {oc_rt kV_rt dc_rt pm_rt cd_rt ct_rt : Value}
    {od_law an_law : Option Addr} {sl_law : Array (Option Value)} {oc_law kV_law dc_law pm_law cd_law ct_law : Value}
    (hn : PySem.W.specialIn K (.builtin "object.__class__") "__get__" = some (some (.builtin "getset_descriptor.__get__")))
    (ht : PySem.W.takesIn K (.builtin "object.__class__") = some true)
    (aC : PySem.W.nsIn K mainGlobals "Row" = some (some (.ref C)))
    (pgC : PySem.W.plainGet K C Str.empty = true)
    (hdC : PySem.W.hasDictIn K C = true)
    (poC : PySem.W.plainOver K C = true)
    (saC : PySem.W.findIn K (.ref C) "__setattr__" = some (some (.builtin "object.__setattr__")))
    (caC : PySem.W.findIn K (.ref C) "__class__" = some (some (.builtin "object.__class__")))
    (moC : PySem.W.mroIn K C (.type "object") = some true)
    (nlC : PySem.W.subIn K (.ref C) (.type "list") = some false)
    (ntC : PySem.W.subIn K (.ref C) (.type "tuple") = some false)
    (nbC : PySem.W.subIn K (.ref C) (.type "bool") = some false)
    (tyC : PySem.W.typeIn K (.ref C) = some (.type "type"))
    (noC_tests : PySem.W.findIn K (.ref C) "tests" = some none)
    (noC_deeds : PySem.W.findIn K (.ref C) "deeds" = some none)
    (mkC : PySem.W.makesIn K C = true)
    (inC : PySem.W.findIn K (.ref C) "__init__" = some (some (.ref fR)))
    (fiC : PySem.W.isFn K (.ref fR) = true)
    (kpC : PySem.W.keepIn K (.ref C) = true)
    (l_Ci : K.lookup fR = some ⟨oc_Ci, od_Ci, .func (PySem.W.fnOf "__init__" "Row.__init__" (defArgs sRowI) (defBody sRowI) (defScope sRowI) (.ref TC) kV_Ci dc_Ci pm_Ci an_Ci cd_Ci ct_Ci), sl_Ci⟩)
    (c_Ci : PySem.W.codeIn K cd_Ci "Row.__init__" = true)
    (k_Ci : PySem.W.keepIn K (.ref fR) = true)
    (l_TC : K.lookup TC = some ⟨oc_TC, od_TC, .seq [.ref eP, .ref eQ].toArray n_TC, sl_TC⟩)
    (aCT : PySem.W.nsIn K mainGlobals "Tool" = some (some (.ref CT)))
    (pgCT : PySem.W.plainGet K CT Str.empty = true)
    (hdCT : PySem.W.hasDictIn K CT = true)
    (poCT : PySem.W.plainOver K CT = true)
    (saCT : PySem.W.findIn K (.ref CT) "__setattr__" = some (some (.builtin "object.__setattr__")))
    (caCT : PySem.W.findIn K (.ref CT) "__class__" = some (some (.builtin "object.__class__")))
    (moCT : PySem.W.mroIn K CT (.type "object") = some true)
    (nlCT : PySem.W.subIn K (.ref CT) (.type "list") = some false)
    (ntCT : PySem.W.subIn K (.ref CT) (.type "tuple") = some false)
    (nbCT : PySem.W.subIn K (.ref CT) (.type "bool") = some false)
    (tyCT : PySem.W.typeIn K (.ref CT) = some (.type "type"))
    (noCT_rows : PySem.W.findIn K (.ref CT) "rows" = some none)
    (noCT_sorts : PySem.W.findIn K (.ref CT) "sorts" = some none)
    (mkCT : PySem.W.makesIn K CT = true)
    (inCT : PySem.W.findIn K (.ref CT) "__init__" = some (some (.ref fT)))
    (fiCT : PySem.W.isFn K (.ref fT) = true)
    (kpCT : PySem.W.keepIn K (.ref CT) = true)
    (l_CTi : K.lookup fT = some ⟨oc_CTi, od_CTi, .func (PySem.W.fnOf "__init__" "Tool.__init__" (defArgs sToolI) (defBody sToolI) (defScope sToolI) (.ref TCT) kV_CTi dc_CTi pm_CTi an_CTi cd_CTi ct_CTi), sl_CTi⟩)
    (c_CTi : PySem.W.codeIn K cd_CTi "Tool.__init__" = true)
    (k_CTi : PySem.W.keepIn K (.ref fT) = true)
    (l_TCT : K.lookup TCT = some ⟨oc_TCT, od_TCT, .seq [.ref eR, .bool false].toArray n_TCT, sl_TCT⟩)
    (l_eR : K.lookup eR = some ⟨.type "tuple", od_eR, .seq [].toArray n_eR, sl_eR⟩)
    (a_tT : PySem.W.nsIn K mainGlobals "TESTS" = some (some (.ref tT)))
    (l_tT : K.lookup tT = some ⟨.type "tuple", od_tT, .seq [.str "broken" tT0, .str "marked" tT1, .str "left" tT2, .str "ahead" tT3, .str "behind" tT4, .str "blank" tT5, .str "long" tT6, .str "first" tT7, .str "afterbroken" tT8, .str "afterbehind" tT9].toArray n_tT, sl_tT⟩)
    (a_tD : PySem.W.nsIn K mainGlobals "DEEDS" = some (some (.ref tD)))
    (l_tD : K.lookup tD = some ⟨.type "tuple", od_tD, .seq [.str "break" tD0, .str "join" tD1, .str "mark" tD2, .str "unmark" tD3, .str "lift" tD4, .str "lower" tD5, .str "space" tD6, .str "close" tD7].toArray n_tD, sl_tD⟩)
    (s_sR : PySem.W.findIn K (.ref C) "__str__" = some (some (.ref fsR)))
    (f_sR : PySem.W.isFn K (.ref fsR) = true)
    (l_sR : K.lookup fsR = some ⟨oc_sR, od_sR, .func (PySem.W.fnOf "__str__" "Row.__str__" (defArgs sStrRow) (defBody sStrRow) (defScope sStrRow) .none kV_sR dc_sR pm_sR an_sR cd_sR ct_sR), sl_sR⟩)
    (c_sR : PySem.W.codeIn K cd_sR "Row.__str__" = true)
    (k_sR : PySem.W.keepIn K (.ref fsR) = true)
    (s_qR : PySem.W.findIn K (.ref C) "__eq__" = some (some (.ref feR)))
    (f_qR : PySem.W.isFn K (.ref feR) = true)
    (l_qR : K.lookup feR = some ⟨oc_qR, od_qR, .func (PySem.W.fnOf "__eq__" "Row.__eq__" (defArgs sEqR) (defBody sEqR) (defScope sEqR) .none kV_qR dc_qR pm_qR an_qR cd_qR ct_qR), sl_qR⟩)
    (c_qR : PySem.W.codeIn K cd_qR "Row.__eq__" = true)
    (k_qR : PySem.W.keepIn K (.ref feR) = true)
    (neR : PySem.W.findIn K (.ref C) "__ne__" = some (some (.builtin "object.__ne__")))
    (nbs : PySem.W.mroIn K C (.type "str") = some false)
    (nbt : PySem.W.mroIn K C (.type "tuple") = some false)
    (nbl : PySem.W.mroIn K C (.type "list") = some false)
    (nbn : PySem.W.mroIn K C (.type "NoneType") = some false)
    (nfR : PySem.W.notFirst K C (.ref CT) = true)
    (suT : PySem.W.subIn K (.ref CT) (.ref C) = some false)
    (ssR : PySem.W.subIn K (.ref C) (.ref C) = some true)
    (a_seq : PySem.W.nsIn K mainGlobals "is_sequence" = some (some (.ref g_seq)))
    (l_seq : K.lookup g_seq = some ⟨oc_seq, od_seq, .func (PySem.W.fnOf "is_sequence" "is_sequence" (defArgs sSeq) (defBody sSeq) (defScope sSeq) .none kV_seq dc_seq pm_seq an_seq cd_seq ct_seq), sl_seq⟩)
    (c_seq : PySem.W.codeIn K cd_seq "is_sequence" = true)
    (k_seq : PySem.W.keepIn K (.ref g_seq) = true)
    (a_test : PySem.W.nsIn K mainGlobals "is_test" = some (some (.ref g_test)))
    (l_test : K.lookup g_test = some ⟨oc_test, od_test, .func (PySem.W.fnOf "is_test" "is_test" (defArgs sTest) (defBody sTest) (defScope sTest) .none kV_test dc_test pm_test an_test cd_test ct_test), sl_test⟩)
    (c_test : PySem.W.codeIn K cd_test "is_test" = true)
    (k_test : PySem.W.keepIn K (.ref g_test) = true)
    (a_deed : PySem.W.nsIn K mainGlobals "is_deed" = some (some (.ref g_deed)))
    (l_deed : K.lookup g_deed = some ⟨oc_deed, od_deed, .func (PySem.W.fnOf "is_deed" "is_deed" (defArgs sDeed) (defBody sDeed) (defScope sDeed) .none kV_deed dc_deed pm_deed an_deed cd_deed ct_deed), sl_deed⟩)
    (c_deed : PySem.W.codeIn K cd_deed "is_deed" = true)
    (k_deed : PySem.W.keepIn K (.ref g_deed) = true)
    (a_areT : PySem.W.nsIn K mainGlobals "are_tests" = some (some (.ref g_areT)))
    (l_areT : K.lookup g_areT = some ⟨oc_areT, od_areT, .func (PySem.W.fnOf "are_tests" "are_tests" (defArgs sAreT) (defBody sAreT) (defScope sAreT) .none kV_areT dc_areT pm_areT an_areT cd_areT ct_areT), sl_areT⟩)
    (c_areT : PySem.W.codeIn K cd_areT "are_tests" = true)
    (k_areT : PySem.W.keepIn K (.ref g_areT) = true)
    (a_areD : PySem.W.nsIn K mainGlobals "are_deeds" = some (some (.ref g_areD)))
    (l_areD : K.lookup g_areD = some ⟨oc_areD, od_areD, .func (PySem.W.fnOf "are_deeds" "are_deeds" (defArgs sAreD) (defBody sAreD) (defScope sAreD) .none kV_areD dc_areD pm_areD an_areD cd_areD ct_areD), sl_areD⟩)
    (c_areD : PySem.W.codeIn K cd_areD "are_deeds" = true)
    (k_areD : PySem.W.keepIn K (.ref g_areD) = true)
    (a_areR : PySem.W.nsIn K mainGlobals "are_rows" = some (some (.ref g_areR)))
    (l_areR : K.lookup g_areR = some ⟨oc_areR, od_areR, .func (PySem.W.fnOf "are_rows" "are_rows" (defArgs sAreR) (defBody sAreR) (defScope sAreR) .none kV_areR dc_areR pm_areR an_areR cd_areR ct_areR), sl_areR⟩)
    (c_areR : PySem.W.codeIn K cd_areR "are_rows" = true)
    (k_areR : PySem.W.keepIn K (.ref g_areR) = true)
    (a_rw : PySem.W.nsIn K mainGlobals "row_words" = some (some (.ref g_rw)))
    (l_rw : K.lookup g_rw = some ⟨oc_rw, od_rw, .func (PySem.W.fnOf "row_words" "row_words" (defArgs sRW) (defBody sRW) (defScope sRW) .none kV_rw dc_rw pm_rw an_rw cd_rw ct_rw), sl_rw⟩)
    (c_rw : PySem.W.codeIn K cd_rw "row_words" = true)
    (k_rw : PySem.W.keepIn K (.ref g_rw) = true)
    (a_feed : PySem.W.nsIn K mainGlobals "_law_feed" = some (some (.ref g_feed)))
    (l_feed : K.lookup g_feed = some ⟨oc_feed, od_feed, .func (PySem.W.fnOf "_law_feed" "_law_feed" (defArgs sFeed) (defBody sFeed) (defScope sFeed) .none kV_feed dc_feed pm_feed an_feed cd_feed ct_feed), sl_feed⟩)
    (c_feed : PySem.W.codeIn K cd_feed "_law_feed" = true)
    (k_feed : PySem.W.keepIn K (.ref g_feed) = true)
    (a_take : PySem.W.nsIn K mainGlobals "_law_take" = some (some (.ref g_take)))
    (l_take : K.lookup g_take = some ⟨oc_take, od_take, .func (PySem.W.fnOf "_law_take" "_law_take" (defArgs sTake) (defBody sTake) (defScope sTake) .none kV_take dc_take pm_take an_take cd_take ct_take), sl_take⟩)
    (c_take : PySem.W.codeIn K cd_take "_law_take" = true)
    (k_take : PySem.W.keepIn K (.ref g_take) = true)
    (a_pick : PySem.W.nsIn K mainGlobals "_law_pick" = some (some (.ref g_pick)))
    (l_pick : K.lookup g_pick = some ⟨oc_pick, od_pick, .func (PySem.W.fnOf "_law_pick" "_law_pick" (defArgs sPick) (defBody sPick) (defScope sPick) .none kV_pick dc_pick pm_pick an_pick cd_pick ct_pick), sl_pick⟩)
    (c_pick : PySem.W.codeIn K cd_pick "_law_pick" = true)
    (k_pick : PySem.W.keepIn K (.ref g_pick) = true)
    (a_tests : PySem.W.nsIn K mainGlobals "_law_tests" = some (some (.ref g_tests)))
    (l_tests : K.lookup g_tests = some ⟨oc_tests, od_tests, .func (PySem.W.fnOf "_law_tests" "_law_tests" (defArgs sTests) (defBody sTests) (defScope sTests) .none kV_tests dc_tests pm_tests an_tests cd_tests ct_tests), sl_tests⟩)
    (c_tests : PySem.W.codeIn K cd_tests "_law_tests" = true)
    (k_tests : PySem.W.keepIn K (.ref g_tests) = true)
    (a_deeds : PySem.W.nsIn K mainGlobals "_law_deeds" = some (some (.ref g_deeds)))
    (l_deeds : K.lookup g_deeds = some ⟨oc_deeds, od_deeds, .func (PySem.W.fnOf "_law_deeds" "_law_deeds" (defArgs sDeeds) (defBody sDeeds) (defScope sDeeds) .none kV_deeds dc_deeds pm_deeds an_deeds cd_deeds ct_deeds), sl_deeds⟩)
    (c_deeds : PySem.W.codeIn K cd_deeds "_law_deeds" = true)
    (k_deeds : PySem.W.keepIn K (.ref g_deeds) = true)
    (a_rt : PySem.W.nsIn K mainGlobals "_law_row_text" = some (some (.ref g_rt)))
    (l_rt : K.lookup g_rt = some ⟨oc_rt, od_rt, .func (PySem.W.fnOf "_law_row_text" "_law_row_text" (defArgs sRowText) (defBody sRowText) (defScope sRowText) .none kV_rt dc_rt pm_rt an_rt cd_rt ct_rt), sl_rt⟩)
    (c_rt : PySem.W.codeIn K cd_rt "_law_row_text" = true)
    (k_rt : PySem.W.keepIn K (.ref g_rt) = true)
    (a_law : PySem.W.nsIn K mainGlobals "law" = some (some (.ref g_law)))
    (l_law : K.lookup g_law = some ⟨oc_law, od_law, .func (PySem.W.fnOf "law" "law" (defArgs sLaw) (defBody sLaw) (defScope sLaw) .none kV_law dc_law pm_law an_law cd_law ct_law), sl_law⟩)
    (c_law : PySem.W.codeIn K cd_law "law" = true)
    (k_law : PySem.W.keepIn K (.ref g_law) = true)
    (z_int : PySem.W.nsIn K mainGlobals "int" = some none)
    (z_str : PySem.W.nsIn K mainGlobals "str" = some none)
    (z_list : PySem.W.nsIn K mainGlobals "list" = some none)
    (z_tuple : PySem.W.nsIn K mainGlobals "tuple" = some none)
    (z_isinstance : PySem.W.nsIn K mainGlobals "isinstance" = some none)
    (z_len : PySem.W.nsIn K mainGlobals "len" = some none)
    (z_all : PySem.W.nsIn K mainGlobals "all" = some none)
    (z_abs : PySem.W.nsIn K mainGlobals "abs" = some none)
    (z_range : PySem.W.nsIn K mainGlobals "range" = some none)
    (z_max : PySem.W.nsIn K mainGlobals "max" = some none)
    (z_min : PySem.W.nsIn K mainGlobals "min" = some none)
    (z_bool : PySem.W.nsIn K mainGlobals "bool" = some none)
    (z_repr : PySem.W.nsIn K mainGlobals "repr" = some none)
    (z_zip : PySem.W.nsIn K mainGlobals "zip" = some none)
    : ∃ fd : FuncData, (∀ (s : Shared) (v : Value), BindsTo s fd ⟨[v], []⟩ [("_law_script", v)]) ∧ ∀ base : Heap, K.In base → base.Ns mainGlobals mg → FnG l.prog w K mg base 7 fa fd ["_law_script"] (spLaw K) := by
  have e := hfa.symm.trans (PySem.W.mg_of X G a_law)
  cases e
  have M : ∀ {x : Str} {a : Addr}, PySem.W.nsIn K mainGlobals x = some (some (.ref a)) → mg x = some (.ref a) := fun h => PySem.W.mg_of X G h
  have N : ∀ {x : Str}, PySem.W.nsIn K mainGlobals x = some none → mg x = none := fun h => PySem.W.mg_none_of X G h
  have F_seq := fun_mk (st := sSeq) l_seq c_seq k_seq
  have b_seq := F_seq.binds (ps := ["value"]) fun _ _ _ _ _ _ us hl => match us, hl with | [_], _ => rfl
  have F_test := fun_mk (st := sTest) l_test c_test k_test
  have b_test := F_test.binds (ps := ["value"]) fun _ _ _ _ _ _ us hl => match us, hl with | [_], _ => rfl
  have F_deed := fun_mk (st := sDeed) l_deed c_deed k_deed
  have b_deed := F_deed.binds (ps := ["value"]) fun _ _ _ _ _ _ us hl => match us, hl with | [_], _ => rfl
  have F_areT := fun_mk (st := sAreT) l_areT c_areT k_areT
  have b_areT := F_areT.binds (ps := ["value"]) fun _ _ _ _ _ _ us hl => match us, hl with | [_], _ => rfl
  have F_areD := fun_mk (st := sAreD) l_areD c_areD k_areD
  have b_areD := F_areD.binds (ps := ["value"]) fun _ _ _ _ _ _ us hl => match us, hl with | [_], _ => rfl
  have F_areR := fun_mk (st := sAreR) l_areR c_areR k_areR
  have b_areR := F_areR.binds (ps := ["value"]) fun _ _ _ _ _ _ us hl => match us, hl with | [_], _ => rfl
  have F_rw := fun_mk (st := sRW) l_rw c_rw k_rw
  have b_rw := F_rw.binds (ps := ["row"]) fun _ _ _ _ _ _ us hl => match us, hl with | [_], _ => rfl
  have F_feed := fun_mk (st := sFeed) l_feed c_feed k_feed
  have b_feed := F_feed.binds (ps := ["_law_script", "_law_base"]) fun _ _ _ _ _ _ us hl => match us, hl with | [_, _], _ => rfl
  have F_take := fun_mk (st := sTake) l_take c_take k_take
  have b_take := F_take.binds (ps := ["_law_box", "_law_wide"]) fun _ _ _ _ _ _ us hl => match us, hl with | [_, _], _ => rfl
  have F_pick := fun_mk (st := sPick) l_pick c_pick k_pick
  have b_pick := F_pick.binds (ps := ["_law_box", "_law_some"]) fun _ _ _ _ _ _ us hl => match us, hl with | [_, _], _ => rfl
  have F_tests := fun_mk (st := sTests) l_tests c_tests k_tests
  have b_tests := F_tests.binds (ps := ["_law_box", "_law_most"]) fun _ _ _ _ _ _ us hl => match us, hl with | [_, _], _ => rfl
  have F_deeds := fun_mk (st := sDeeds) l_deeds c_deeds k_deeds
  have b_deeds := F_deeds.binds (ps := ["_law_box", "_law_most"]) fun _ _ _ _ _ _ us hl => match us, hl with | [_, _], _ => rfl
  have F_rt := fun_mk (st := sRowText) l_rt c_rt k_rt
  have b_rt := F_rt.binds (ps := ["_law_row"]) fun _ _ _ _ _ _ us hl => match us, hl with | [_], _ => rfl
  have F_law := fun_mk (st := sLaw) l_law c_law k_law
  have b_law := F_law.binds (ps := ["_law_script"]) fun _ _ _ _ _ _ us hl => match us, hl with | [_], _ => rfl
  have F_qR := fun_mk (st := sEqR) l_qR c_qR k_qR
  have b_qR := F_qR.binds (ps := ["self", "other"]) fun _ _ _ _ _ _ us hl => match us, hl with | [_, _], _ => rfl
  have FR : FunD K "__init__" "Row.__init__" (defArgs sRowI) (defBody sRowI) (defScope sRowI) [.ref eP, .ref eQ] [] fR _ :=
    ⟨⟨_, _, _, _, _, _, _, _, _, _, rfl, l_Ci, c_Ci, .inr ⟨(fun z => nomatch z), TC, _, _, _, rfl, l_TC, rfl, .cons rfl (.cons rfl .nil)⟩, .inl rfl⟩, k_Ci⟩
  have FT : FunD K "__init__" "Tool.__init__" (defArgs sToolI) (defBody sToolI) (defScope sToolI) [.ref eR, .bl false] [] fT _ :=
    ⟨⟨_, _, _, _, _, _, _, _, _, _, rfl, l_CTi, c_CTi, .inr ⟨(fun z => nomatch z), TCT, _, _, _, rfl, l_TCT, rfl, .cons rfl (.cons rfl .nil)⟩, .inl rfl⟩, k_CTi⟩
  have F_sR := fun_mk (st := sStrRow) l_sR c_sR k_sR
  have b_sR := F_sR.binds (ps := ["self"]) fun _ _ _ _ _ _ us hl => match us, hl with | [_], _ => rfl
  have D : TxtD mg := ⟨N z_int, N z_len, N z_abs, N z_range⟩
  have T : TxtK mg := ⟨N z_str, N z_list, N z_tuple, N z_isinstance, N z_len, N z_all⟩
  have c : ClsI K C := ⟨⟨pgC, hdC, poC, saC⟩, caC, hn, ht, moC⟩
  have ct : ClsI K CT := ⟨⟨pgCT, hdCT, poCT, saCT⟩, caCT, hn, ht, moCT⟩
  have mkR : Mk K C fR := ⟨mkC, inC, fiC, kpC⟩
  have bR := binds_row FR
  have mkT : Mk K CT fT := ⟨mkCT, inCT, fiCT, kpCT⟩
  have bT := binds_tool FT
  have bT1 := binds_tool1 FT
  have hTests : ∀ H : Hp, SqT K H tT (testL.map V.str) := fun H => .inr ⟨_, _, _, l_tT, rfl, rfl, (by show 10 ≤ sizeLine; decide), (.cons ⟨_, rfl⟩ (.cons ⟨_, rfl⟩ (.cons ⟨_, rfl⟩ (.cons ⟨_, rfl⟩ (.cons ⟨_, rfl⟩ (.cons ⟨_, rfl⟩ (.cons ⟨_, rfl⟩ (.cons ⟨_, rfl⟩ (.cons ⟨_, rfl⟩ (.cons ⟨_, rfl⟩ .nil))))))))))⟩
  have hDeeds : ∀ H : Hp, SqT K H tD (deedL.map V.str) := fun H => .inr ⟨_, _, _, l_tD, rfl, rfl, (by show 8 ≤ sizeLine; decide), (.cons ⟨_, rfl⟩ (.cons ⟨_, rfl⟩ (.cons ⟨_, rfl⟩ (.cons ⟨_, rfl⟩ (.cons ⟨_, rfl⟩ (.cons ⟨_, rfl⟩ (.cons ⟨_, rfl⟩ (.cons ⟨_, rfl⟩ .nil))))))))⟩
  refine ⟨PySem.W.fnOf "law" "law" (defArgs sLaw) (defBody sLaw) (defScope sLaw) .none kV_law dc_law pm_law an_law cd_law ct_law, fun s v => .of_eq rfl, fun base _ _ => ?_⟩
  have okSeq : FnOk l.prog w K mg base CX0 1 g_seq _ ["value"] (spSeq K) := ok_seq F_seq T
  have okTest : FnOk l.prog w K mg base CX0 1 g_test _ ["value"] (spOne progT K) := ok_test F_test T (M a_tT) hTests
  have okDeed : FnOk l.prog w K mg base CX0 1 g_deed _ ["value"] (spOne progD K) := ok_deed F_deed T (M a_tD) hDeeds
  have okAT := ok_areT F_areT T okSeq (M a_seq) k_seq b_seq okTest (M a_test) k_test b_test
  have okAD := ok_areD F_areD T okSeq (M a_seq) k_seq b_seq okDeed (M a_deed) k_deed b_deed
  have RC : RowC K C := ⟨c.cl, noC_tests, noC_deeds⟩
  have okRG := ok_rowG FR T RC okAT (M a_areT) k_areT b_areT okAD (M a_areD) k_areD b_areD
  have okAR := ok_areR (C := C) F_areR T okSeq (M a_seq) k_seq b_seq (M aC)
  have TCc : ToolC K CT := ⟨ct.cl, noCT_rows, noCT_sorts⟩
  have okTG := ok_toolG FT T (N z_bool) TCc okAR (M a_areR) k_areR b_areR
  have okRW := ok_rowWords (P := l.prog) (w := w) (base := base) F_rw (N z_len) RC
  have okSR := ok_strRow F_sR okRW (M a_rw) k_rw b_rw

  have okER := ok_eqR (P := l.prog) (w := w) (base := base) F_qR T c (M aC) okSR s_sR f_sR b_sR
  have okEN := ok_eqN (P := l.prog) (w := w) (base := base) F_qR T (M aC) okSR s_sR f_sR b_sR
  have Rf : RwF l.prog w K mg base C CT := ⟨M aC, RC, c, ⟨_, _, mkR, okRG, bR⟩, ⟨_, _, okSR, s_sR, f_sR, b_sR⟩, ⟨_, _, okER, okEN, s_qR, f_qR, b_qR⟩, neR, ⟨nbs, nbt, nbl, nbn⟩, nfR, M aCT, ct, kit_cls hdC tyC suT (fun z => by
      cases z
      rw [ssR] at suT
      cases suT), fun n hn => by
      rcases hn with rfl | rfl | rfl | rfl
      · exact kit_cls hdC tyC np_str (fun z => nomatch z)
      · exact kit_cls hdC tyC np_tuple (fun z => nomatch z)
      · exact kit_cls hdC tyC np_list (fun z => nomatch z)
      · exact kit_cls hdC tyC np_none (fun z => nomatch z), by
      obtain ⟨ds, h1, h2⟩ := bT1
      exact ⟨_, _, ds, mkT, okTG, h1, h2⟩⟩
  have okTake : FnOk l.prog w K mg base CX0 1 g_take _ ["_law_box", "_law_wide"] spTake := ok_take F_take D
  have okPick := ok_pick F_pick D okTake (M a_take) k_take b_take
  have DR : Draws l.prog w K mg base g_take g_pick _ _ := ⟨N z_range, N z_tuple, okTake, M a_take, k_take, b_take, okPick, M a_pick, k_pick, b_pick⟩
  have okRT := ok_rowText (P := l.prog) (w := w) (mg := mg) (base := base) F_rt
  exact ok_law F_law ⟨N z_range, N z_max, N z_min, N z_len, N z_str, N z_list, N z_repr, N z_zip⟩ Rf (ok_feed F_feed D) (M a_feed) k_feed b_feed (ok_tests F_tests DR) (M a_tests) k_tests b_tests (ok_deeds F_deeds DR) (M a_deeds) k_deeds b_deeds okRT (M a_rt) k_rt b_rt
end Lay
open PySem PySem.W PyProof.Rows
set_option Elab.async false
set_option maxRecDepth 100000 in
set_option maxHeartbeats 0 in
theorem PySem.Challenge.cw_laytwice_k11_rows_made_holds : PySem.Challenge.rw_laytwice_k11_rows_made.Holds := by
  w_on; o_law; k_head; (case hw => w_witness2)
  k_fill
  refine Lay.walkG (l := PySem.Challenge.rw_laytwice_k11_rows_made) (n := 63) (k := 7) (x := "_law_script") (sp := fun w => Lay.spLaw _) rfl (by decide) rfl ⟨rfl, by decide, by decide⟩ (fun w h Y => PySem.W.kIn_of Y) ?F (fun _ _ a ns hl _ hS => ⟨a, ns, rfl, hS, hl, fun _ => rfl⟩)
  case F =>
    intro w mg fa h KX G hmg
    refine' Lay.all_mk KX G hmg ?hn ?ht ?aC ?pgC ?hdC ?poC ?saC ?caC ?moC ?nlC ?ntC ?nbC ?tyC ?noC_tests ?noC_deeds ?mkC ?inC ?fiC ?kpC ?l_Ci ?c_Ci ?k_Ci ?l_TC ?aCT ?pgCT ?hdCT ?poCT ?saCT ?caCT ?moCT ?nlCT ?ntCT ?nbCT ?tyCT ?noCT_rows ?noCT_sorts ?mkCT ?inCT ?fiCT ?kpCT ?l_CTi ?c_CTi ?k_CTi ?l_TCT ?l_eR ?a_tT ?l_tT ?a_tD ?l_tD ?s_sR ?f_sR ?l_sR ?c_sR ?k_sR ?s_qR ?f_qR ?l_qR ?c_qR ?k_qR ?neR ?nbs ?nbt ?nbl ?nbn ?nfR ?suT ?ssR ?a_seq ?l_seq ?c_seq ?k_seq ?a_test ?l_test ?c_test ?k_test ?a_deed ?l_deed ?c_deed ?k_deed ?a_areT ?l_areT ?c_areT ?k_areT ?a_areD ?l_areD ?c_areD ?k_areD ?a_areR ?l_areR ?c_areR ?k_areR ?a_rw ?l_rw ?c_rw ?k_rw ?a_feed ?l_feed ?c_feed ?k_feed ?a_take ?l_take ?c_take ?k_take ?a_pick ?l_pick ?c_pick ?k_pick ?a_tests ?l_tests ?c_tests ?k_tests ?a_deeds ?l_deeds ?c_deeds ?k_deeds ?a_rt ?l_rt ?c_rt ?k_rt ?a_law ?l_law ?c_law ?k_law ?z_int ?z_str ?z_list ?z_tuple ?z_isinstance ?z_len ?z_all ?z_abs ?z_range ?z_max ?z_min ?z_bool ?z_repr ?z_zip
    (case hn => k_is)
    (case ht => k_is)
    (case aC => k_is)
    (case pgC => k_is)
    (case hdC => k_is)
    (case poC => k_is)
    (case saC => k_is)
    (case caC => k_is)
    (case moC => k_is)
    (case nlC => k_is)
    (case ntC => k_is)
    (case nbC => k_is)
    (case tyC => k_is)
    (case noC_tests => k_is)
    (case noC_deeds => k_is)
    (case mkC => k_is)
    (case inC => k_is)
    (case fiC => k_is)
    (case kpC => k_is)
    (case l_Ci => k_is)
    (case c_Ci => k_is)
    (case k_Ci => k_is)
    (case l_TC => k_is)
    (case aCT => k_is)
    (case pgCT => k_is)
    (case hdCT => k_is)
    (case poCT => k_is)
    (case saCT => k_is)
    (case caCT => k_is)
    (case moCT => k_is)
    (case nlCT => k_is)
    (case ntCT => k_is)
    (case nbCT => k_is)
    (case tyCT => k_is)
    (case noCT_rows => k_is)
    (case noCT_sorts => k_is)
    (case mkCT => k_is)
    (case inCT => k_is)
    (case fiCT => k_is)
    (case kpCT => k_is)
    (case l_CTi => k_is)
    (case c_CTi => k_is)
    (case k_CTi => k_is)
    (case l_TCT => k_is)
    (case l_eR => k_is)
    (case a_tT => k_is)
    (case l_tT => k_is)
    (case a_tD => k_is)
    (case l_tD => k_is)
    (case s_sR => k_is)
    (case f_sR => k_is)
    (case l_sR => k_is)
    (case c_sR => k_is)
    (case k_sR => k_is)
    (case s_qR => k_is)
    (case f_qR => k_is)
    (case l_qR => k_is)
    (case c_qR => k_is)
    (case k_qR => k_is)
    (case neR => k_is)
    (case nbs => k_is)
    (case nbt => k_is)
    (case nbl => k_is)
    (case nbn => k_is)
    (case nfR => k_is)
    (case suT => k_is)
    (case ssR => k_is)
    (case a_seq => k_is)
    (case l_seq => k_is)
    (case c_seq => k_is)
    (case k_seq => k_is)
    (case a_test => k_is)
    (case l_test => k_is)
    (case c_test => k_is)
    (case k_test => k_is)
    (case a_deed => k_is)
    (case l_deed => k_is)
    (case c_deed => k_is)
    (case k_deed => k_is)
    (case a_areT => k_is)
    (case l_areT => k_is)
    (case c_areT => k_is)
    (case k_areT => k_is)
    (case a_areD => k_is)
    (case l_areD => k_is)
    (case c_areD => k_is)
    (case k_areD => k_is)
    (case a_areR => k_is)
    (case l_areR => k_is)
    (case c_areR => k_is)
    (case k_areR => k_is)
    (case a_rw => k_is)
    (case l_rw => k_is)
    (case c_rw => k_is)
    (case k_rw => k_is)
    (case a_feed => k_is)
    (case l_feed => k_is)
    (case c_feed => k_is)
    (case k_feed => k_is)
    (case a_take => k_is)
    (case l_take => k_is)
    (case c_take => k_is)
    (case k_take => k_is)
    (case a_pick => k_is)
    (case l_pick => k_is)
    (case c_pick => k_is)
    (case k_pick => k_is)
    (case a_tests => k_is)
    (case l_tests => k_is)
    (case c_tests => k_is)
    (case k_tests => k_is)
    (case a_deeds => k_is)
    (case l_deeds => k_is)
    (case c_deeds => k_is)
    (case k_deeds => k_is)
    (case a_rt => k_is)
    (case l_rt => k_is)
    (case c_rt => k_is)
    (case k_rt => k_is)
    (case a_law => k_is)
    (case l_law => k_is)
    (case c_law => k_is)
    (case k_law => k_is)
    (case z_int => k_is)
    (case z_str => k_is)
    (case z_list => k_is)
    (case z_tuple => k_is)
    (case z_isinstance => k_is)
    (case z_len => k_is)
    (case z_all => k_is)
    (case z_abs => k_is)
    (case z_range => k_is)
    (case z_max => k_is)
    (case z_min => k_is)
    (case z_bool => k_is)
    (case z_repr => k_is)
    (case z_zip => k_is)
