import PyProof.Rows.All
import Wide.All
import OpenK.AllK
import Wide.FinOn
import HandS.ForMost
import HandS.Codes
import KE.GoesMore
import HandS.Walk
import HandS.Dict
import HandS.Style
import OpenK.KEqL
import HandS.IsInst
import HandS.StrMore
import HandS.TupAny
import HandS.Defaults
import HandS.ExcInit
import HandS.ExcField
import HandS.ExcIs
import HandS.WordsExc
import HandS.ExcOwn
import KE.KExcIs
import HandS.Text
import HandS.Star
import HandS.OwnEq
import KE.KCallOwn
import HandS.NoneIn
import PyProof.StrLawsTight
import PyProof.StrLawsAffix
import PyProof.Rows.StrNews2
import PyProof.StrLawsChain
import KE.GoesRaise
import KE.KUnpackStar
import KE.GoesEnumKw
import HandS.Iter
import HandS.CallLocal
import HandS.TryOnly
import HandS.ClsMeth
import PyProof.StrLawsRepr
import PySem.Challenge.RW_laytwice_k15_texts_of_tools
set_option Elab.async false
set_option linter.all false
set_option maxRecDepth 100000
set_option maxHeartbeats 4000000
namespace Lay
open PySem L2
def top (i : Nat) : Stmt := PySem.Challenge.pw_laytwice_k15_texts_of_tools.main.body.getD i (.Pass ⟨0, 0, 0, 0⟩)
abbrev sFeed : Stmt := top 24
abbrev sTake : Stmt := top 25
abbrev sPick : Stmt := top 26
theorem Same.new {a : Addr} {H : Hp} {o : HO} (h : H a = none) : Same H (upd H a o) := fun c u e => by
  rw [upd_ne (ne_of_none e h)]
  exact e
theorem iteN {c : Bool} {A B : Prop} (h : c = false) (x : B) : if c = true then A else B := by
  rw [if_neg (by rw [h]; exact Bool.false_ne_true)]
  exact x
theorem iteY {c : Bool} {A B : Prop} (h : c = true) (x : A) : if c = true then A else B := by
  rw [if_pos h]
  exact x
theorem fits {n : Nat} (h : n ≤ 16000000) : n ≤ sizeLine := by
  rw [sizeLine_eq]
  omega
theorem smallT {n : Nat} (h : n ≤ 16000000) : n < sizeLine := by
  rw [sizeLine_eq]
  omega
/-! ### the box of draws: a dict and its list -/
def kvBox (gr : Addr) (m : Int) : List (Key × V) := [(.inr "great", .ref gr), (.inr "mixed", .int m)]
structure BoxD (H : Hp) (b gr : Addr) : Prop where
  d : ∃ m, H b = some (.dK (kvBox gr m))
  l : ∃ ns : List Int, H gr = some (.lst (ns.map V.int)) ∧ ns.length ≤ 1000
/-- all that is tracked beside the box is as it was -/
def K2 (b gr : Addr) (H H' : Hp) : Prop := ∀ a o, a ≠ b → a ≠ gr → H a = some o → H' a = some o
theorem K2.refl (b gr : Addr) (H : Hp) : K2 b gr H H := fun _ _ _ _ h => h
theorem K2.trans {b gr : Addr} {H H1 H2 : Hp} (x : K2 b gr H H1) (y : K2 b gr H1 H2) : K2 b gr H H2 := fun a o n1 n2 h => y a o n1 n2 (x a o n1 n2 h)
theorem K2.of_same {b gr : Addr} {H H' : Hp} (x : Same H H') : K2 b gr H H' := fun a o _ _ h => x a o h
theorem K2.b {b gr : Addr} {H : Hp} {o : HO} : K2 b gr H (upd H b o) := fun a u n _ h => by rw [upd_ne n]; exact h
theorem K2.g {b gr : Addr} {H : Hp} {o : HO} : K2 b gr H (upd H gr o) := fun a u _ n h => by rw [upd_ne n]; exact h
theorem BoxD.ne {H : Hp} {b gr : Addr} (x : BoxD H b gr) : gr ≠ b := fun z => by
  obtain ⟨⟨m, h1⟩, ns, h2, _⟩ := x
  rw [z, h1] at h2
  cases h2
theorem BoxD.same {H H' : Hp} {b gr : Addr} (s : Same H H') (x : BoxD H b gr) : BoxD H' b gr := by
  obtain ⟨⟨m, h1⟩, ns, h2, h3⟩ := x
  exact ⟨⟨m, s _ _ h1⟩, ns, s _ _ h2, h3⟩
theorem BoxD.fresh {H : Hp} {a b gr : Addr} (x : BoxD H b gr) (h : H a = none) : a ≠ b ∧ a ≠ gr := by
  obtain ⟨⟨m, h1⟩, ns, h2, h3⟩ := x
  exact ⟨(ne_of_none h1 h).symm, (ne_of_none h2 h).symm⟩
theorem snocs (ms : List Int) : ms = [] ∨ ∃ (i : List Int) (z : Int), ms = i ++ [z] := by
  rcases List.eq_nil_or_concat ms with h | ⟨i, z, h⟩
  · exact .inl h
  · exact .inr ⟨i, z, by rw [h, List.concat_eq_append]⟩
theorem kv_ne : ¬ (Sum.inr (Str.ofString "great") : Key) = Sum.inr (Str.ofString "mixed") := by decide
theorem kv_great {gr : Addr} {m : Int} : valV (kvBox gr m) (.inr "great") = some (.ref gr) := valV_pos rfl
theorem kv_mixed {gr : Addr} {m : Int} : valV (kvBox gr m) (.inr "mixed") = some (.int m) := by
  unfold kvBox
  rw [valV_neg kv_ne]
  exact valV_pos rfl
theorem kv_put {gr : Addr} {m i : Int} : putK (kvBox gr m) (.inr "mixed") (.int i) = kvBox gr i := by
  have e := kv_ne
  simp [putK, kvBox, e]
/-- what the draws want of the module's names -/
structure TxtD (mg : Str → Option Value) : Prop where
  int : mg "int" = none
  len : mg "len" = none
  abs : mg "abs" = none
  range : mg "range" = none
def spTake : Sp := fun vs H Q _ => ∃ (b gr : Addr) (m : Int), vs = [.ref b, .int m] ∧ BoxD H b gr ∧ 0 < m ∧ m < 1073741824 ∧ ∀ (r : Int) (H' : Hp), 0 ≤ r → r < m → BoxD H' b gr → K2 b gr H H' → Q (.int r) H'
theorem ints_dp {K : PySem.W.Frag} {H : Hp} {p : Addr} {ns : List Int} (h : SqL K H p (ns.map V.int)) : Dp K H (.ref p) (.list (ns.map .int)) := .lst h (by
  clear h
  induction ns with
  | nil => exact .nil
  | cons n ns ih => exact .cons (.int n) ih)
theorem eqv_nil (ns : List Int) : PyData.eqv (.list (ns.map .int)) (.list []) = ns.isEmpty := by
  cases ns <;> rfl
theorem get_great {b gr : Addr} {m : Int} {H : Hp} (h : H b = some (.dK (kvBox gr m))) : DGet H b (.str "great") (some (.ref gr)) := by
  have q := DGet.k (k := .inr "great") h
  rw [kv_great] at q
  exact q
theorem get_mixed {b gr : Addr} {m : Int} {H : Hp} (h : H b = some (.dK (kvBox gr m))) : DGet H b (.str "mixed") (some (.int m)) := by
  have q := DGet.k (k := .inr "mixed") h
  rw [kv_mixed] at q
  exact q
theorem put_mixed {b gr : Addr} {m i : Int} {H : Hp} (h : H b = some (.dK (kvBox gr m))) : DPut H b (.str "mixed") (.int i) (upd H b (.dK (kvBox gr i))) := by
  have q := DPut.k (k := .inr "mixed") (v := .int i) h (by rw [sizeLine_eq]; show 2 < _; omega)
  rw [kv_put] at q
  exact q
section
variable {P : Program} {w : World} {K : PySem.W.Frag} {mg : Str → Option Value} {base : Heap}
theorem scTake : FnScope ["_law_box", "_law_wide", "_law_great", "_law_cell"] ["_law_box", "_law_wide"] (defScope sTake) := ⟨rfl, rfl, rfl, by decide +kernel, rfl, by decide +kernel, by decide +kernel⟩
theorem ok_take {f : Addr} {fd : FuncData} (F : Fun K "_law_take" "_law_take" sTake f fd) (T : TxtD mg) : FnOk P w K mg base CX0 1 f fd ["_law_box", "_law_wide"] spTake := by
  refine F.ok scTake (fun vs H Q E h => ?_) (fun cdv A outer s H vs Q E hr h => ?_)
  · obtain ⟨b, gr, m, rfl, _⟩ := h
    rfl
  · obtain ⟨b, gr, m, rfl, bx, hm, hm2, k⟩ := h
    refine ⟨_, (pss_cons (ps_set (i := 2) scTake.nd rfl (.inl rfl) (pe_dget (hu_of hr) (pv 0) pe_str (fun _ _ => rfl)))
    (C8.pss_cut (ps_while PassesOwn.never (PW.pt (pw_and (pt_cmpR (op_neD hr.units) (pv 2) (pe_lst pa_nil) (nomark _)) (pw_and1 (pt_cmpR op_eq (pe_ix ix_list (pv 2) (pe_un un_neg pe_int) (fun _ _ => rfl)) pe_int (nomark _)))))
      (pss_one (ps_expr (pe_bm0 PySem.F.plainAttrs_list PySem.F.slot_list_pop PySem.F.type_list_pop mt_pop (pv 2)))))
    (pss_cons (ps_if (pt_cmpR (op_neD hr.units) (pv 2) (pe_lst pa_nil) (nomark _))
      (pss_cons (ps_set (i := 3) scTake.nd rfl (.inl rfl) (pe_bm0 PySem.F.plainAttrs_list PySem.F.slot_list_pop PySem.F.type_list_pop mt_pop (pv 2)))
      (pss_cons (ps_expr (pe_bm PySem.F.plainAttrs_list PySem.F.slot_list_append PySem.F.type_list_append mt_append (pv 2) (pa_cons (pe_op op_fdiv (pv 3) (pv 1)) pa_nil)))
      (pss_one (ps_ret (pe_op op_mod (pe_callTy call_int1 (by rfl) T.int (by decide +kernel) (pa_cons (pv 3) pa_nil)) (pv 1))))))
      pss_nil)
    (pss_cons (ps_dput (hu_of hr) (pv 0) pe_str (pe_op op_mod (pe_callTy call_int1 (by rfl) T.int (by decide +kernel) (pa_cons (pe_op op_add (pe_op op_mul (pe_dget (hu_of hr) (pv 0) pe_str (fun _ _ => rfl)) pe_int) pe_int) pa_nil)) pe_int) (by rfl))
    (pss_one (ps_ret (pe_op op_mod (pe_callTy call_int1 (by rfl) T.int (by decide +kernel) (pa_cons (pe_op op_fdiv (pe_dget (hu_of hr) (pv 0) pe_str (fun _ _ => rfl)) pe_int) pa_nil)) (pv 1)))))))), ?_⟩
    obtain ⟨⟨x, hb⟩, ns, hg, hl⟩ := bx
    have ngb : gr ≠ b := fun z => by
      rw [z, hb] at hg
      cases hg
    refine ⟨_, rfl, b, _, rfl, get_great hb, ?_⟩
    refine ⟨fun σ G => ∃ ms : List Int, σ = [some (.ref b), some (.int m), some (.ref gr), none] ∧ G gr = some (.lst (ms.map V.int)) ∧ ms.length ≤ 1000 ∧ G b = some (.dK (kvBox gr x)) ∧ K2 b gr H G, ?_, ?_⟩
    · refine ⟨fun n σ G => ∃ ms : List Int, n = ms.length ∧ σ = [some (.ref b), some (.int m), some (.ref gr), none] ∧ G gr = some (.lst (ms.map V.int)) ∧ ms.length ≤ 1000 ∧ G b = some (.dK (kvBox gr x)) ∧ K2 b gr H G, ⟨_, ns, rfl, rfl, hg, hl, hb, K2.refl _ _ _⟩, ?_⟩
      rintro n σ G ⟨ms, rfl, rfl, hg1, hl1, hb1, k1⟩
      refine ⟨_, rfl, (by show 0 ≤ sizeLine; exact Nat.zero_le _), fun q nq => ⟨.list (ms.map .int), .list [], ints_dp (SqL.of (Same.new nq _ _ hg1)), .lst (SqL.of upd_same) .nil, PySem.W.shaped_ints ms, rfl, _, rfl, ?_⟩⟩
      have s1 := Same.new nq (o := .lst [])
      rw [eqv_nil]
      rcases snocs ms with rfl | ⟨init, z, rfl⟩
      · exact iteN rfl (iteN rfl ⟨[], rfl, s1 _ _ hg1, hl1, s1 _ _ hb1, k1.trans (K2.of_same s1)⟩)
      · have hg2 : upd G q (.lst []) gr = some (.lst (init.map V.int ++ [.int z])) := by
          have := s1 _ _ hg1
          rw [List.map_append] at this
          exact this
        refine iteY (by cases init <;> rfl) ⟨_, rfl, _, rfl, gr, _, _, _, rfl, rfl, SqL.of hg2, atI_last _ _, rfl, _, rfl, ?_⟩
        refine ite2 (fun hz => ?_) (fun hz => ?_)
        · have li : init.length < (init ++ [z]).length := by rw [List.length_append]; show _ < _ + 1; omega
          refine ⟨fun σ' G' => σ' = [some (.ref b), some (.int m), some (.ref gr), none] ∧ G' gr = some (.lst (init.map V.int)) ∧ G' b = some (.dK (kvBox gr x)) ∧ K2 b gr H G', fun σ' G' ⟨e1, e2, e3, e4⟩ => ⟨_, li, init, rfl, e1, e2, by omega, e3, e4⟩, ?_⟩
          refine ⟨_, rfl, .inl ⟨rfl, _, SqL.of hg2⟩, gr, _, .int z, rfl, rfl, hg2, by simp, rfl, ?_, ?_, ?_⟩
          · rw [upd_same, List.dropLast_concat]
          · rw [upd_ne (Ne.symm ngb)]
            exact s1 _ _ hb1
          · exact (k1.trans (K2.of_same s1)).trans K2.g
        · refine ⟨init ++ [z], rfl, ?_, hl1, s1 _ _ hb1, k1.trans (K2.of_same s1)⟩
          rw [List.map_append]
          exact hg2
    · rintro σ G ⟨ms, rfl, hg1, hl1, hb1, k1⟩
      refine ⟨_, rfl, (by show 0 ≤ sizeLine; exact Nat.zero_le _), fun q nq => ⟨.list (ms.map .int), .list [], ints_dp (SqL.of (Same.new nq _ _ hg1)), .lst (SqL.of upd_same) .nil, PySem.W.shaped_ints ms, rfl, _, rfl, ?_⟩⟩
      have s1 := Same.new nq (o := .lst [])
      have k2 := k1.trans (K2.of_same s1)
      rw [eqv_nil]
      rcases snocs ms with rfl | ⟨init, z, rfl⟩
      · refine iteN rfl ?_
        have hb2 := s1 _ _ hb1
        have hg2 := s1 _ _ hg1
        refine ⟨_, rfl, b, _, rfl, get_mixed hb2, _, _, rfl, rfl, .inr ⟨by decide, by decide⟩, _, _, rfl, rfl, .inl ⟨_, rfl, _, _, rfl, rfl, (by show (0 : Int) < 2147483647; decide), _, rfl, b, _, rfl, put_mixed hb2, ?_⟩⟩
        refine ⟨_, rfl, b, _, rfl, get_mixed upd_same, _, _, rfl, rfl, ⟨by decide, by decide⟩, .inl ⟨_, rfl, _, rfl, _, _, rfl, rfl, hm, ?_⟩⟩
        refine k _ _ (Int.emod_nonneg _ (by omega)) (Int.emod_lt_of_pos _ hm) ⟨⟨_, upd_same⟩, [], by rw [upd_ne ngb]; exact hg2, hl1⟩ (k2.trans K2.b)
      · have hg2 : upd G q (.lst []) gr = some (.lst (init.map V.int ++ [.int z])) := by
          have := s1 _ _ hg1
          rw [List.map_append] at this
          exact this
        refine iteY (by cases init <;> rfl) ?_
        refine ⟨_, rfl, .inl ⟨rfl, _, SqL.of hg2⟩, gr, _, .int z, rfl, rfl, hg2, by simp, ?_⟩
        rw [List.dropLast_concat]
        refine ⟨_, rfl, .inl ⟨rfl, _, SqL.of upd_same⟩, _, rfl, _, rfl, _, _, rfl, rfl, ⟨hm, hm2⟩, gr, _, _, rfl, rfl, upd_same, ?_, ?_⟩
        · rw [List.length_map]
          rw [List.length_append] at hl1
          exact small1000 (by omega)
        · refine ⟨_, rfl, .inl ⟨_, rfl, _, rfl, _, _, rfl, rfl, hm, ?_⟩⟩
          refine k _ _ (Int.emod_nonneg _ (by omega)) (Int.emod_lt_of_pos _ hm) ⟨⟨x, ?_⟩, init ++ [z / m], ?_, ?_⟩ ?_
          · rw [upd_ne (Ne.symm ngb), upd_ne (Ne.symm ngb)]
            exact s1 _ _ hb1
          · rw [upd_same, List.map_append]
            rfl
          · rw [List.length_append] at hl1 ⊢
            exact hl1
          · exact (k2.trans K2.g).trans K2.g
end
end Lay
set_option Elab.async false
set_option linter.all false
set_option maxRecDepth 100000
set_option maxHeartbeats 4000000
namespace Lay
open PySem L2
def spPick (K : PySem.W.Frag) : Sp := fun vs H Q _ => ∃ (b gr l : Addr) (xs : List V), vs = [.ref b, .ref l] ∧ BoxD H b gr ∧ l ≠ b ∧ l ≠ gr ∧ (H l = some (.lst xs) ∨ H l = some (.tup xs)) ∧ 0 < xs.length ∧ xs.length ≤ 1000 ∧ ∀ (v : V) (H' : Hp), v ∈ xs → BoxD H' b gr → K2 b gr H H' → Q v H'
def spFeed (K : PySem.W.Frag) : Sp := fun vs H Q _ => ∃ (a : Addr) (ns : List Int) (i : Int), vs = [.ref a, .int i] ∧ SqL K H a (ns.map V.int) ∧ 0 ≤ i ∧ i ≤ 1000 ∧ ns.length ≤ 1000 ∧ ∀ (b gr : Addr) (H' : Hp), Same H H' → H b = none → H gr = none → BoxD H' b gr → Q (.ref b) H'
theorem sIx_le' {α : Type} (xs : List α) (lo hi : Option Int) : ((xs.drop (HT.sIx xs.length 0 lo)).take (HT.sIx xs.length xs.length hi - HT.sIx xs.length 0 lo)).length ≤ xs.length := by
  rw [List.length_take, List.length_drop]
  omega
theorem cut_ints (ns : List Int) (lo hi : Option Int) : ∃ ms : List Int, cutV (ns.map V.int) lo hi = ms.map V.int ∧ ms.length ≤ ns.length := by
  refine ⟨(ns.drop (HT.sIx ns.length 0 lo)).take (HT.sIx ns.length ns.length hi - HT.sIx ns.length 0 lo), ?_, sIx_le' ns lo hi⟩
  unfold cutV
  rw [List.length_map, List.map_take, List.map_drop]
theorem merge_box {gr : Addr} {m : Int} : mergeK [] [((.inr "great" : Key), V.ref gr), (.inr "mixed", .int m)] = kvBox gr m := by
  have e := kv_ne
  simp [mergeK, putK, kvBox, e]
section
variable {P : Program} {w : World} {K : PySem.W.Frag} {mg : Str → Option Value} {base : Heap}
theorem scPick : FnScope ["_law_box", "_law_some"] ["_law_box", "_law_some"] (defScope sPick) := ⟨rfl, rfl, rfl, by decide +kernel, rfl, by decide +kernel, by decide +kernel⟩
theorem ok_pick {f fT : Addr} {fd fdT : FuncData} (F : Fun K "_law_pick" "_law_pick" sPick f fd) (T : TxtD mg) (GT : FnOk P w K mg base CX0 1 fT fdT ["_law_box", "_law_wide"] spTake) (gT : mg "_law_take" = some (.ref fT)) (kT : PySem.W.keepIn K (.ref fT) = true) (bT : Binds K fdT ["_law_box", "_law_wide"] []) :
    FnOk P w K mg base CX0 2 f fd ["_law_box", "_law_some"] (spPick K) := by
  refine F.ok scPick (fun vs H Q E h => ?_) (fun cdv A outer s H vs Q E hr h => ?_)
  · obtain ⟨b, gr, l, xs, rfl, _⟩ := h
    rfl
  · obtain ⟨b, gr, l, xs, rfl, bx, n1, n2, hs, h0, h1, k⟩ := h
    rcases hs with hs | hs
    · refine ⟨_, (pss_one (ps_ret (pe_ix ix_list (pv 1) (pe_call GT hr (by rfl) gT kT bT .nil pass0 (pa_cons (pv 0) (pa_cons (pe_callB call_len_seq (by rfl) T.len (by decide +kernel) (pa_cons (pv 1) pa_nil)) pa_nil))) (fun _ _ => rfl)))), ?_⟩
      refine ⟨_, rfl, _, rfl, _, rfl, l, xs, rfl, .inl (SqL.of hs), b, gr, _, rfl, bx, by omega, by omega, fun r H' r0 r1 bx' k2 => ?_⟩
      have hr' : r.toNat < xs.length := by omega
      have er : r = ((r.toNat : Nat) : Int) := by omega
      exact ⟨l, xs, r, xs[r.toNat], rfl, rfl, SqL.of (k2 _ _ n1 n2 hs), at_of er (by simp [hr']), k _ _ (List.getElem_mem hr') bx' k2⟩
    · refine ⟨_, (pss_one (ps_ret (pe_ix ix_tup (pv 1) (pe_call GT hr (by rfl) gT kT bT .nil pass0 (pa_cons (pv 0) (pa_cons (pe_callB call_len_seq (by rfl) T.len (by decide +kernel) (pa_cons (pv 1) pa_nil)) pa_nil))) (fun _ _ => rfl)))), ?_⟩
      refine ⟨_, rfl, _, rfl, _, rfl, l, xs, rfl, .inr (SqT.of hs), b, gr, _, rfl, bx, by omega, by omega, fun r H' r0 r1 bx' k2 => ?_⟩
      have hr' : r.toNat < xs.length := by omega
      have er : r = ((r.toNat : Nat) : Int) := by omega
      exact ⟨l, xs, r, xs[r.toNat], rfl, rfl, SqT.of (k2 _ _ n1 n2 hs), at_of er (by simp [hr']), k _ _ (List.getElem_mem hr') bx' k2⟩
def feedN : List Str := ["_law_script", "_law_base", "_law_cell", "_law_cells", "_law_mixed_here"]
theorem scFeed : FnScope feedN ["_law_script", "_law_base"] (defScope sFeed) := ⟨rfl, rfl, rfl, by decide +kernel, rfl, by decide +kernel, by decide +kernel⟩
theorem ok_feed {f : Addr} {fd : FuncData} (F : Fun K "_law_feed" "_law_feed" sFeed f fd) (T : TxtD mg) : FnOk P w K mg base CX0 1 f fd ["_law_script", "_law_base"] (spFeed K) := by
  refine F.ok scFeed (fun vs H Q E h => ?_) (fun cdv A outer s H vs Q E hr h => ?_)
  · obtain ⟨a, ns, i, rfl, _⟩ := h
    rfl
  · obtain ⟨a, ns, i, rfl, hs, i0, i1, hn, k⟩ := h
    refine ⟨_, (C8.pss_cut (ps_setLc (i := 3) (own := [("_law_cell", 2)]) (g := gName 2) (tt := tYes) rfl scFeed.nd rfl rfl (sw_true rfl rfl rfl (by decide +kernel)) (pi_list (pe_slice sl_list (pv 0) (po_some (pv 1)) (po_some (pe_op op_add (pv 1) pe_int)))) (blkOk_by (N := feedN) (sc := defScope sFeed) (by decide +kernel)) (fun _ _ _ _ _ => pg_name (i := 2) scFeed.nd rfl (Or.inl rfl)) (fun _ _ _ _ _ => pts_nil)
        (fun _ _ _ _ _ => pe_callB call_abs (by rfl) T.abs (by decide +kernel) (pa_cons (pe_callTy call_int1 (by rfl) T.int (by decide +kernel) (pa_cons (pv 2) pa_nil)) pa_nil)))
      (pss_cons (ps_set (i := 4) scFeed.nd rfl (.inl rfl) (pe_op op_add pe_int (pe_op op_mul pe_int (pv 1))))
      (C8.pss_cut (ps_for PassesOwn.never rfl (pi_list (pv 3)) (pg_name (i := 2) scFeed.nd rfl (.inl rfl))
        (pss_one (ps_set (i := 4) scFeed.nd rfl (.inl rfl) (pe_op op_mod (pe_callTy call_int1 (by rfl) T.int (by decide +kernel) (pa_cons (pe_op op_add (pe_op op_add (pe_callTy call_int1 (by rfl) T.int (by decide +kernel) (pa_cons (pe_op op_mul (pv 4) pe_int) pa_nil)) (pe_op op_mod (pe_callTy call_int1 (by rfl) T.int (by decide +kernel) (pa_cons (pv 2) pa_nil)) pe_int)) pe_int) pa_nil)) pe_int))))
      (pss_one (ps_ret (pe_disp (pps_cons pe_str (pe_revL (pe_lc (own := [("_law_cell", 2)]) (g := gName 2) (by rfl) scFeed.nd (pi_list (pv 3)) (blkOk_by (N := feedN) (sc := defScope sFeed) (by decide +kernel)) (fun _ _ _ _ _ => pg_name (i := 2) scFeed.nd rfl (Or.inl rfl))
          (fun _ _ _ _ _ => pts_one (pt_cmpR op_ge (pv 2) (pe_op op_pow pe_int pe_int) (nomark _))) (fun _ _ _ _ _ => pv 2))) (pps_cons pe_str (pv 4) pps_nil)) rfl rfl (by decide) (by decide))))))), ?_⟩
    refine ⟨fun σ G => ∃ (x2 x4 : Option V) (C1 : Addr) (ms : List Int), σ = [some (.ref a), some (.int i), x2, some (.ref C1), x4] ∧ Same H G ∧ G C1 = some (.lst (ms.map V.int)) ∧ ms.length ≤ 1000, ?_, ?_⟩
    · refine ⟨_, rfl, _, rfl, i, rfl, _, rfl, _, _, rfl, rfl, _, rfl, a, _, rfl, hs, fun p np => ?_⟩
      obtain ⟨ms, em, lm⟩ := cut_ints ns (some i) (some (i + 60))
      have hp : upd H p (.lst (cutV (ns.map V.int) (some i) (some (i + 60)))) p = some (.lst (ms.map V.int)) := by rw [upd_same, em]
      have s1 := Same.new np (o := .lst (cutV (ns.map V.int) (some i) (some (i + 60))))
      refine ⟨p, rfl, ⟨_, SqL.of hp⟩, fun D nD => lc_list (xs := ms.map V.int) (fun j G => ∃ acc : List Int, Same H G ∧ G p = some (.lst (ms.map V.int)) ∧ G D = some (.lst (acc.map V.int)) ∧ acc.length = j) ⟨[], s1.trans (Same.new nD), Same.new nD _ _ hp, upd_same, rfl⟩ (fun j G _ q => SqL.of (by obtain ⟨acc, _, q, _⟩ := q; exact q)) ?_ ?_⟩
      · rintro j x G hx ⟨acc, sG, hp', hD, hl⟩
        obtain ⟨z, rfl⟩ : ∃ z, x = V.int z := by
          rw [List.getElem?_map] at hx
          cases q : ms[j]? with
          | none => rw [q] at hx; cases hx
          | some z => rw [q] at hx; exact ⟨z, (Option.some.inj hx).symm⟩
        have hj : j < ms.length := by
          have := (List.getElem?_eq_some_iff.mp hx).1
          rw [List.length_map] at this
          exact this
        have nDp : D ≠ p := fun z => by
          rw [z] at nD
          rw [hp] at nD
          cases nD
        refine ⟨rfl, _, rfl, .inl ⟨_, rfl, _, rfl, _, hD, ?_, acc ++ [if z < 0 then -z else z], fun c u e => ?_, ?_, ?_, ?_⟩⟩
        · rw [List.length_map, hl]
          exact small1000 (by omega)
        · rw [upd_ne (ne_of_none (s1 _ _ e) nD)]
          exact sG _ _ e
        · rw [upd_ne (Ne.symm nDp)]
          exact hp'
        · rw [upd_same, List.map_append]
          rfl
        · rw [List.length_append, hl]
          rfl
      · rintro G ⟨acc, sG, hp', hD, hl⟩
        rw [List.length_map] at hl
        exact ⟨_, _, D, acc, rfl, sG, hD, by omega⟩
    · rintro σ G ⟨x2, x4, C1, ms, rfl, sG, hC, hl⟩
      refine ⟨_, rfl, _, _, rfl, rfl, .inl ⟨by decide, by decide⟩, _, _, rfl, rfl, ?_⟩
      refine ⟨fun σ G' => ∃ (x2 : Option V) (m : Int), σ = [some (.ref a), some (.int i), x2, some (.ref C1), some (.int m)] ∧ G' = G, ?_, ?_⟩
      · refine ⟨_, rfl, C1, rfl, ⟨_, SqL.of hC⟩, for_list (xs := ms.map V.int) (fun j σ G' => ∃ (x2 : Option V) (m : Int), σ = [some (.ref a), some (.int i), x2, some (.ref C1), some (.int m)] ∧ G' = G) ⟨_, _, rfl, rfl⟩ (fun j σ G' _ q => SqL.of (by obtain ⟨_, _, _, q⟩ := q; rw [q]; exact hC)) ?_ (fun σ G' q => q)⟩
        rintro j x σ G' hx ⟨x2, m, rfl, rfl⟩
        obtain ⟨z, rfl⟩ : ∃ z, x = V.int z := by
          rw [List.getElem?_map] at hx
          cases q : ms[j]? with
          | none => rw [q] at hx; cases hx
          | some z => rw [q] at hx; exact ⟨z, (Option.some.inj hx).symm⟩
        exact ⟨_, rfl, _, _, rfl, rfl, .inr ⟨by decide, by decide⟩, .inl ⟨_, rfl, _, rfl, .inl ⟨_, rfl, _, _, rfl, rfl, (by show (0 : Int) < 2147483587; decide), _, _, rfl, rfl, _, _, rfl, rfl, .inl ⟨_, rfl, _, _, rfl, rfl, (by show (0 : Int) < 2147483647; decide), _, _, rfl, rfl⟩⟩⟩⟩
      · rintro σ G' ⟨x2, m, rfl, rfl⟩
        refine fun p np => ⟨_, rfl, C1, rfl, ⟨_, SqL.of (Same.new np _ _ hC)⟩, fun D nD => lc_list (xs := ms.map V.int) (fun j H' => ∃ acc : List Int, Same G' H' ∧ H' C1 = some (.lst (ms.map V.int)) ∧ H' p = some (.dK []) ∧ H' D = some (.lst (acc.map V.int)) ∧ acc.length ≤ j)
          ⟨[], (Same.new np).trans (Same.new nD), Same.new nD _ _ (Same.new np _ _ hC), Same.new nD _ _ upd_same, upd_same, Nat.le_refl _⟩ (fun j G _ q => SqL.of (by obtain ⟨acc, _, q, _⟩ := q; exact q)) ?_ ?_⟩
        · rintro j x H' hx ⟨acc, sH, hC', hp', hD, hl'⟩
          obtain ⟨z, rfl⟩ : ∃ z, x = V.int z := by
            rw [List.getElem?_map] at hx
            cases q : ms[j]? with
            | none => rw [q] at hx; cases hx
            | some z => rw [q] at hx; exact ⟨z, (Option.some.inj hx).symm⟩
          have hj : j < ms.length := by
            have := (List.getElem?_eq_some_iff.mp hx).1
            rw [List.length_map] at this
            exact this
          have nDC : C1 ≠ D := ne_of_none (Same.new np _ _ hC) nD
          have nDp : p ≠ D := ne_of_none (upd_same (H := G') (a := p) (o := .dK [])) nD
          refine ⟨rfl, _, rfl, _, _, rfl, rfl, ⟨by decide, by decide, by decide⟩, _, _, rfl, rfl, _, rfl, ?_⟩
          refine ite2 (fun _ => ?_) (fun _ => ⟨acc, sH, hC', hp', hD, by omega⟩)
          refine ⟨_, rfl, _, hD, ?_, acc ++ [z], fun c u e => ?_, ?_, ?_, ?_, ?_⟩
          · rw [List.length_map]
            exact small1000 (by omega)
          · rw [upd_ne (ne_of_none ((Same.new np) _ _ e) nD)]
            exact sH _ _ e
          · rw [upd_ne nDC]
            exact hC'
          · rw [upd_ne nDp]
            exact hp'
          · rw [upd_same, List.map_append]
            rfl
          · rw [List.length_append]
            show acc.length + 1 ≤ j + 1
            omega
        · rintro H' ⟨acc, sH, hC', hp', hD, hl'⟩
          rw [List.length_map] at hl'
          refine ⟨D, _, rfl, SqL.of hD, fun gr ng => ⟨_, rfl, Same.new ng _ _ hp', [(.inr "great", .ref gr), (.inr "mixed", .int m)], rfl, (by show 2 ≤ 15; decide), ?_⟩⟩
          rw [merge_box]
          have ngp : gr ≠ p := (ne_of_none hp' ng).symm
          refine k p gr _ (fun c u e => ?_) (sG.free np) (((sG.trans sH)).free ng) ⟨⟨m, upd_same⟩, acc.reverse, ?_, ?_⟩
          · have e1 := sG _ _ e
            rw [upd_ne (ne_of_none e1 np)]
            exact Same.new ng _ _ (sH _ _ e1)
          · rw [upd_ne ngp, upd_same, List.map_reverse]
          · rw [List.length_reverse]
            omega
end
end Lay
set_option Elab.async false
set_option linter.all false
set_option maxRecDepth 100000
set_option maxHeartbeats 4000000
namespace Lay
open PySem L2
/-- the names of the module that must be Python's own -/
structure TxtK (mg : Str → Option Value) : Prop where
  str : mg "str" = none
  list : mg "list" = none
  tuple : mg "tuple" = none
  isinstance : mg "isinstance" = none
  len : mg "len" = none
  all : mg "all" = none
theorem TyOf.same {K : PySem.W.Frag} {H H' : Hp} {x : V} {t : Value} (s : Same H H') (h : TyOf K H x t) : TyOf K H' x t := by
  cases h with
  | non => exact .non
  | bl b => exact .bl b
  | int i => exact .int i
  | str z => exact .str z
  | flt z => exact .flt z
  | lst e => exact .lst (s _ _ e)
  | frz e => exact .frz (s _ _ e)
  | tup e => exact .tup (s _ _ e)
  | dK e => exact .dK (s _ _ e)
  | dT e => exact .dT (s _ _ e)
  | ins e cl ha hn htk hm => exact .ins (s _ _ e) cl ha hn htk hm
theorem TyX.same {K : PySem.W.Frag} {H H' : Hp} {x : V} {t : Value} (s : Same H H') (h : TyX K H x t) : TyX K H' x t := by
  cases h with
  | base h => exact .base (TyOf.same s h)
  | byt b => exact .byt b
  | set e => exact .set (s _ _ e)
  | kList e c => exact .kList e c
  | kTuple e c => exact .kTuple e c
  | kDict e c => exact .kDict e c
  | fTuple e => exact .fTuple (s _ _ e)
  | fDict e => exact .fDict (s _ _ e)
/-- isinstance of the built-in class n -/
def IsT (K : PySem.W.Frag) (H : Hp) (x : V) (n : String) (b : Bool) : Prop := ∃ t, TyX K H x t ∧ PySem.W.kitOne K t (.type n) = some b
theorem IsT.same {K : PySem.W.Frag} {H H' : Hp} {x : V} {n : String} {b : Bool} (s : Same H H') (h : IsT K H x n b) : IsT K H' x n b := by
  obtain ⟨t, h1, h2⟩ := h
  exact ⟨t, TyX.same s h1, h2⟩
theorem isT_str {K : PySem.W.Frag} {H : Hp} {z : Str} : IsT K H (.str z) "str" true := ⟨_, .base (.str z), kit_ty (by decide +kernel)⟩
/-- is it a list or a tuple -/
def IsSeq (K : PySem.W.Frag) (H : Hp) (x : V) (b : Bool) : Prop := ∃ t, TyX K H x t ∧ PySem.W.kitAny K t [.type "list", .type "tuple"] = some b
theorem IsSeq.same {K : PySem.W.Frag} {H H' : Hp} {x : V} {b : Bool} (s : Same H H') (h : IsSeq K H x b) : IsSeq K H' x b := by
  obtain ⟨t, h1, h2⟩ := h
  exact ⟨t, TyX.same s h1, h2⟩
theorem kitAny_lt {K : PySem.W.Frag} {t : Value} {b c : Bool} (h1 : PySem.W.kitOne K t (.type "list") = some b) (h2 : PySem.W.kitOne K t (.type "tuple") = some c) : PySem.W.kitAny K t [.type "list", .type "tuple"] = some (b || c) := by
  refine kitAny_cons h1 (fun hb => ?_) (fun hb => by rw [hb]; rfl)
  subst hb
  exact kitAny_cons h2 (fun hc => by subst hc; exact kitAny_nil) (fun hc => by rw [hc]; rfl)
/-- what is a list or a tuple of xs -/
def SqX (H : Hp) (a : Addr) (xs : List V) : Prop := H a = some (.lst xs) ∨ H a = some (.tup xs)
theorem SqX.same {H H' : Hp} {a : Addr} {xs : List V} (s : Same H H') (h : SqX H a xs) : SqX H' a xs := h.imp (s _ _) (s _ _)
theorem SqX.seq {K : PySem.W.Frag} {H : Hp} {a : Addr} {xs : List V} (h : SqX H a xs) : IsSeq K H (.ref a) true := by
  rcases h with h | h
  · exact ⟨_, .base (.lst h), kitAny_lt (b := true) (c := false) (kit_ty (by decide +kernel)) (kit_ty (by decide +kernel))⟩
  · exact ⟨_, .base (.tup h), kitAny_lt (b := false) (c := true) (kit_ty (by decide +kernel)) (kit_ty (by decide +kernel))⟩
/-! ### words -/
def testL : List Str := ["broken", "marked", "left", "ahead", "behind", "blank", "long", "first", "afterbroken", "afterbehind"]
def deedL : List Str := ["break", "join", "mark", "unmark", "lift", "lower", "space", "close"]
def progT (z : Str) : Bool := inV (.str (Txt.removeprefix z "not ")) (testL.map V.str)
def progD (z : Str) : Bool := inV (.str z) (deedL.map V.str)
theorem flat_strs (zs : List Str) : (zs.map V.str).all flatV = true := by
  induction zs with
  | nil => rfl
  | cons z zs ih => exact (Bool.and_eq_true_iff.mpr ⟨rfl, ih⟩)
/-- what one thing's test answers: f of a text, no otherwise -/
def ItB (f : Str → Bool) (K : PySem.W.Frag) (H : Hp) (x : V) (b : Bool) : Prop := (∃ z, x = .str z ∧ z.length ≤ 100000 ∧ b = f z) ∨ (b = false ∧ IsT K H x "str" false)
theorem ItB.same {f : Str → Bool} {K : PySem.W.Frag} {H H' : Hp} {x : V} {b : Bool} (s : Same H H') (h : ItB f K H x b) : ItB f K H' x b := h.imp id fun ⟨e, t⟩ => ⟨e, t.same s⟩
def ItBs (f : Str → Bool) (K : PySem.W.Frag) (H : Hp) (xs : List V) (bs : List Bool) : Prop := bs.length = xs.length ∧ ∀ (i : Nat) (x : V) (b : Bool), xs[i]? = some x → bs[i]? = some b → ItB f K H x b
theorem ItBs.same {f : Str → Bool} {K : PySem.W.Frag} {H H' : Hp} {xs : List V} {bs : List Bool} (s : Same H H') (h : ItBs f K H xs bs) : ItBs f K H' xs bs := ⟨h.1, fun i x b h1 h2 => (h.2 i x b h1 h2).same s⟩
/-- what is said of a value: r, where more is what must hold of a sequence besides -/
def AnsV (f : Str → Bool) (more : List V → Bool) (K : PySem.W.Frag) (H : Hp) (x : V) (r : Bool) : Prop := (IsSeq K H x false ∧ r = false) ∨ ∃ a xs bs, x = .ref a ∧ SqX H a xs ∧ xs.length ≤ 100000 ∧ ItBs f K H xs bs ∧ r = (more xs && bs.all id)
theorem AnsV.same {f : Str → Bool} {more : List V → Bool} {K : PySem.W.Frag} {H H' : Hp} {x : V} {r : Bool} (s : Same H H') (h : AnsV f more K H x r) : AnsV f more K H' x r := by
  rcases h with ⟨h, e⟩ | ⟨a, xs, bs, e, h1, h2, h3, h4⟩
  · exact .inl ⟨h.same s, e⟩
  · exact .inr ⟨a, xs, bs, e, h1.same s, h2, h3.same s, h4⟩
def yes (_ : List V) : Bool := true
def full (xs : List V) : Bool := decide (0 < xs.length)
def spSeq (K : PySem.W.Frag) : Sp := fun vs H Q _ => ∃ x b, vs = [x] ∧ IsSeq K H x b ∧ ∀ H', Same H H' → Q (.bl b) H'
def spOne (f : Str → Bool) (K : PySem.W.Frag) : Sp := fun vs H Q _ => ∃ x b, vs = [x] ∧ ItB f K H x b ∧ Q (.bl b) H
def spAre (f : Str → Bool) (more : List V → Bool) (K : PySem.W.Frag) : Sp := fun vs H Q _ => ∃ x r, vs = [x] ∧ AnsV f more K H x r ∧ ∀ H', Same H H' → Q (.bl r) H'
abbrev sSeq : Stmt := top 9
abbrev sTest : Stmt := top 13
abbrev sDeed : Stmt := top 14
abbrev sAreT : Stmt := top 15
abbrev sAreD : Stmt := top 16
section
variable {P : Program} {w : World} {K : PySem.W.Frag} {mg : Str → Option Value} {base : Heap}
theorem scSeq : FnScope ["value"] ["value"] (defScope sSeq) := ⟨rfl, rfl, rfl, by decide +kernel, rfl, by decide +kernel, by decide +kernel⟩
theorem ok_seq {f : Addr} {fd : FuncData} (F : Fun K "is_sequence" "is_sequence" sSeq f fd) (T : TxtK mg) : FnOk P w K mg base CX0 1 f fd ["value"] (spSeq K) := by
  refine F.ok scSeq (fun vs H Q E h => ?_) (fun cdv A outer s H vs Q E hr h => ?_)
  · obtain ⟨x, b, rfl, _⟩ := h
    rfl
  · obtain ⟨x, b, rfl, ⟨t, ty, e⟩, k⟩ := h
    refine ⟨_, (pss_one (ps_ret (pe_callB call_isiT (by rfl) T.isinstance (by decide +kernel) (pa_cons (pv 0) (pa_cons (pe_tup (pa_cons (pe_bltn (v := .ty "list") (by rfl) T.list (by decide +kernel) rfl) (pa_cons (pe_bltn (v := .ty "tuple") (by rfl) T.tuple (by decide +kernel) rfl) pa_nil))) pa_nil))))), ?_⟩
    refine ⟨_, rfl, (by show 2 ≤ sizeLine; decide), fun p hp => ?_⟩
    exact ⟨x, p, _, t, _, b, rfl, upd_same, .cons (.ty _) (.cons (.ty _) .nil), TyX.same (Same.new hp) ty, e, k _ (Same.new hp)⟩
theorem scTest : FnScope ["value"] ["value"] (defScope sTest) := ⟨rfl, rfl, rfl, by decide +kernel, rfl, by decide +kernel, by decide +kernel⟩
theorem ok_test {f tT : Addr} {fd : FuncData} (F : Fun K "is_test" "is_test" sTest f fd) (T : TxtK mg) (gT : mg "TESTS" = some (.ref tT)) (hT : ∀ H : Hp, SqT K H tT (testL.map V.str)) : FnOk P w K mg base CX0 1 f fd ["value"] (spOne progT K) := by
  refine F.ok scTest (fun vs H Q E h => ?_) (fun cdv A outer s H vs Q E hr h => ?_)
  · obtain ⟨x, b, rfl, _⟩ := h
    rfl
  · obtain ⟨x, b, rfl, h, k⟩ := h
    refine ⟨_, (pss_one (ps_ret (pe_and (pe_callB call_isi (by rfl) T.isinstance (by decide +kernel) (pa_cons (pv 0) (pa_cons (pe_bltn (v := .ty "str") (by rfl) T.str (by decide +kernel) rfl) pa_nil)))
      (pe_one (pe_cmpR op_in_seq (pe_bm PySem.F.plainAttrs_str PySem.F.slot_str_removeprefix PySem.F.type_str_removeprefix mt_removeprefix (pv 0) (pa_cons pe_str pa_nil)) (pe_glob (v := .ref tT) (by rfl) gT rfl) (by rfl)))))), ?_⟩
    rcases h with ⟨z, rfl, hz, rfl⟩ | ⟨rfl, t, ty, e⟩
    · obtain ⟨t, ty, e⟩ := isT_str (K := K) (H := H) (z := z)
      refine ⟨_, rfl, _, _, _, _, _, rfl, .ty _, ty, e, _, rfl, ?_⟩
      exact iteY rfl ⟨_, rfl, rfl, z, "not ", rfl, rfl, fits (by omega), tT, _, rfl, .inr (hT _), rfl, flat_strs _, k⟩
    · exact ⟨_, rfl, _, _, _, _, _, rfl, .ty _, ty, e, _, rfl, iteN rfl k⟩
theorem scDeed : FnScope ["value"] ["value"] (defScope sDeed) := ⟨rfl, rfl, rfl, by decide +kernel, rfl, by decide +kernel, by decide +kernel⟩
theorem ok_deed {f tD : Addr} {fd : FuncData} (F : Fun K "is_deed" "is_deed" sDeed f fd) (T : TxtK mg) (gT : mg "DEEDS" = some (.ref tD)) (hT : ∀ H : Hp, SqT K H tD (deedL.map V.str)) : FnOk P w K mg base CX0 1 f fd ["value"] (spOne progD K) := by
  refine F.ok scDeed (fun vs H Q E h => ?_) (fun cdv A outer s H vs Q E hr h => ?_)
  · obtain ⟨x, b, rfl, _⟩ := h
    rfl
  · obtain ⟨x, b, rfl, h, k⟩ := h
    refine ⟨_, (pss_one (ps_ret (pe_and (pe_callB call_isi (by rfl) T.isinstance (by decide +kernel) (pa_cons (pv 0) (pa_cons (pe_bltn (v := .ty "str") (by rfl) T.str (by decide +kernel) rfl) pa_nil)))
      (pe_one (pe_cmpR op_in_seq (pv 0) (pe_glob (v := .ref tD) (by rfl) gT rfl) (by rfl)))))), ?_⟩
    rcases h with ⟨z, rfl, hz, rfl⟩ | ⟨rfl, t, ty, e⟩
    · obtain ⟨t, ty, e⟩ := isT_str (K := K) (H := H) (z := z)
      refine ⟨_, rfl, _, _, _, _, _, rfl, .ty _, ty, e, _, rfl, ?_⟩
      exact iteY rfl ⟨_, rfl, tD, _, rfl, .inr (hT _), rfl, flat_strs _, k⟩
    · exact ⟨_, rfl, _, _, _, _, _, rfl, .ty _, ty, e, _, rfl, iteN rfl k⟩
theorem scAreT : FnScope ["value", "one"] ["value"] (defScope sAreT) := ⟨rfl, rfl, rfl, by decide +kernel, rfl, by decide +kernel, by decide +kernel⟩
theorem ok_areT {f fS fO : Addr} {fd fdS fdO : FuncData} (F : Fun K "are_tests" "are_tests" sAreT f fd) (T : TxtK mg) (GS : FnOk P w K mg base CX0 1 fS fdS ["value"] (spSeq K)) (gS : mg "is_sequence" = some (.ref fS)) (kS : PySem.W.keepIn K (.ref fS) = true) (bS : Binds K fdS ["value"] [])
    (GO : FnOk P w K mg base CX0 1 fO fdO ["value"] (spOne progT K)) (gO : mg "is_test" = some (.ref fO)) (kO : PySem.W.keepIn K (.ref fO) = true) (bO : Binds K fdO ["value"] []) : FnOk P w K mg base CX0 2 f fd ["value"] (spAre progT yes K) := by
  refine F.ok scAreT (fun vs H Q E h => ?_) (fun cdv A outer s H vs Q E hr h => ?_)
  · obtain ⟨x, r, rfl, _⟩ := h
    rfl
  · obtain ⟨x, r, rfl, h, k⟩ := h
    rcases h with ⟨h, rfl⟩ | ⟨a, xs, bs, rfl, hx, hl, hb, rfl⟩
    · refine ⟨_, (pss_one (ps_ret (pe_and (pe_call GS hr (by rfl) gS kS bS .nil pass0 (pa_cons (pv 0) pa_nil)) (pe_one (pe_callB (cr_all rfl) (by rfl) T.all (by decide +kernel) (pa_cons
            (pe_lc (own := [("one", 1)]) (g := gName 1) (tt := tYes) (by rfl) scAreT.nd (pi_list (pv 0)) (blkOk_by (N := ["value", "one"]) (sc := defScope sAreT) (by decide +kernel)) (fun _ _ _ _ _ => pg_name (i := 1) scAreT.nd rfl (Or.inl rfl)) (fun _ _ _ _ _ => pts_nil) (fun _ _ _ _ _ => pe_call GO hr (by rfl) gO kO bO .nil pass0 (pa_cons (pv 1) pa_nil))) pa_nil)))))), ?_⟩
      exact ⟨_, rfl, _, false, rfl, h, fun H' s => ⟨_, rfl, iteN rfl (k H' s)⟩⟩
    · have lb : bs.length ≤ 100000 := by rw [hb.1]; exact hl
      rcases hx with hx | hx
      · refine ⟨_, (pss_one (ps_ret (pe_and (pe_call GS hr (by rfl) gS kS bS .nil pass0 (pa_cons (pv 0) pa_nil)) (pe_one (pe_callB (cr_all rfl) (by rfl) T.all (by decide +kernel) (pa_cons
            (pe_lc (own := [("one", 1)]) (g := gName 1) (tt := tYes) (by rfl) scAreT.nd (pi_list (pv 0)) (blkOk_by (N := ["value", "one"]) (sc := defScope sAreT) (by decide +kernel)) (fun _ _ _ _ _ => pg_name (i := 1) scAreT.nd rfl (Or.inl rfl)) (fun _ _ _ _ _ => pts_nil) (fun _ _ _ _ _ => pe_call GO hr (by rfl) gO kO bO .nil pass0 (pa_cons (pv 1) pa_nil))) pa_nil)))))), ?_⟩
        refine ⟨_, rfl, _, true, rfl, SqX.seq (.inl hx), fun H1 s1 => ⟨_, rfl, ?_⟩⟩
        refine iteY rfl ?_
        refine ⟨_, rfl, a, rfl, ⟨_, SqL.of (s1 _ _ hx)⟩, fun D nD => lc_list (K := K) (a := a) (xs := xs) (fun i G => Same H1 G ∧ G D = some (.lst ((bs.take i).map V.bl))) ⟨Same.new nD, upd_same⟩ (fun i G _ q => SqL.of (q.1 _ _ (s1 _ _ hx))) ?_ ?_⟩
        · rintro i x G hi ⟨sG, hD⟩
          have li := (List.getElem?_eq_some_iff.mp hi).1
          rw [← hb.1] at li
          have eb : bs[i]? = some bs[i] := by simp [li]
          refine ⟨rfl, _, rfl, x, bs[i], rfl, (hb.2 i x _ hi eb).same (s1.trans sG), _, hD, ?_, fun c u e => by rw [upd_ne (ne_of_none e nD)]; exact sG _ _ e, ?_⟩
          · rw [List.length_map, List.length_take]
            exact smallT (by omega)
          · rw [upd_same, List.take_succ, eb, List.map_append]
            rfl
        · rintro G ⟨sG, hD⟩
          rw [← hb.1, List.take_length] at hD
          exact ⟨D, bs, rfl, SqL.of hD, k G (s1.trans sG)⟩
      · refine ⟨_, (pss_one (ps_ret (pe_and (pe_call GS hr (by rfl) gS kS bS .nil pass0 (pa_cons (pv 0) pa_nil)) (pe_one (pe_callB (cr_all rfl) (by rfl) T.all (by decide +kernel) (pa_cons
            (pe_lc (own := [("one", 1)]) (g := gName 1) (tt := tYes) (by rfl) scAreT.nd (pi_tup (pv 0)) (blkOk_by (N := ["value", "one"]) (sc := defScope sAreT) (by decide +kernel)) (fun _ _ _ _ _ => pg_name (i := 1) scAreT.nd rfl (Or.inl rfl)) (fun _ _ _ _ _ => pts_nil) (fun _ _ _ _ _ => pe_call GO hr (by rfl) gO kO bO .nil pass0 (pa_cons (pv 1) pa_nil))) pa_nil)))))), ?_⟩
        refine ⟨_, rfl, _, true, rfl, SqX.seq (.inr hx), fun H1 s1 => ⟨_, rfl, ?_⟩⟩
        refine iteY rfl ?_
        refine ⟨_, rfl, a, rfl, ⟨_, SqT.of (s1 _ _ hx)⟩, fun D nD => lc_tup (K := K) (a := a) (xs := xs) (fun i G => Same H1 G ∧ G D = some (.lst ((bs.take i).map V.bl))) ⟨Same.new nD, upd_same⟩ (fun i G _ q => SqT.of (q.1 _ _ (s1 _ _ hx))) ?_ ?_⟩
        · rintro i x G hi ⟨sG, hD⟩
          have li := (List.getElem?_eq_some_iff.mp hi).1
          rw [← hb.1] at li
          have eb : bs[i]? = some bs[i] := by simp [li]
          refine ⟨rfl, _, rfl, x, bs[i], rfl, (hb.2 i x _ hi eb).same (s1.trans sG), _, hD, ?_, fun c u e => by rw [upd_ne (ne_of_none e nD)]; exact sG _ _ e, ?_⟩
          · rw [List.length_map, List.length_take]
            exact smallT (by omega)
          · rw [upd_same, List.take_succ, eb, List.map_append]
            rfl
        · rintro G ⟨sG, hD⟩
          rw [← hb.1, List.take_length] at hD
          exact ⟨D, bs, rfl, SqL.of hD, k G (s1.trans sG)⟩
theorem scAreD : FnScope ["value", "one"] ["value"] (defScope sAreD) := ⟨rfl, rfl, rfl, by decide +kernel, rfl, by decide +kernel, by decide +kernel⟩
theorem ok_areD {f fS fO : Addr} {fd fdS fdO : FuncData} (F : Fun K "are_deeds" "are_deeds" sAreD f fd) (T : TxtK mg) (GS : FnOk P w K mg base CX0 1 fS fdS ["value"] (spSeq K)) (gS : mg "is_sequence" = some (.ref fS)) (kS : PySem.W.keepIn K (.ref fS) = true) (bS : Binds K fdS ["value"] [])
    (GO : FnOk P w K mg base CX0 1 fO fdO ["value"] (spOne progD K)) (gO : mg "is_deed" = some (.ref fO)) (kO : PySem.W.keepIn K (.ref fO) = true) (bO : Binds K fdO ["value"] []) : FnOk P w K mg base CX0 2 f fd ["value"] (spAre progD full K) := by
  refine F.ok scAreD (fun vs H Q E h => ?_) (fun cdv A outer s H vs Q E hr h => ?_)
  · obtain ⟨x, r, rfl, _⟩ := h
    rfl
  · obtain ⟨x, r, rfl, h, k⟩ := h
    rcases h with ⟨h, rfl⟩ | ⟨a, xs, bs, rfl, hx, hl, hb, rfl⟩
    · refine ⟨_, (pss_one (ps_ret (pe_and (pe_call GS hr (by rfl) gS kS bS .nil pass0 (pa_cons (pv 0) pa_nil)) (pe_and (pe_cmpR op_gt (pe_callB call_len_seq (by rfl) T.len PySem.boot_len (pa_cons (pv 0) pa_nil)) pe_int (nomark _)) (pe_one (pe_callB (cr_all rfl) (by rfl) T.all (by decide +kernel) (pa_cons
            (pe_lc (own := [("one", 1)]) (g := gName 1) (tt := tYes) (by rfl) scAreD.nd (pi_list (pv 0)) (blkOk_by (N := ["value", "one"]) (sc := defScope sAreD) (by decide +kernel)) (fun _ _ _ _ _ => pg_name (i := 1) scAreD.nd rfl (Or.inl rfl)) (fun _ _ _ _ _ => pts_nil) (fun _ _ _ _ _ => pe_call GO hr (by rfl) gO kO bO .nil pass0 (pa_cons (pv 1) pa_nil))) pa_nil))))))), ?_⟩
      exact ⟨_, rfl, _, false, rfl, h, fun H' s => ⟨_, rfl, iteN rfl (k H' s)⟩⟩
    · have lb : bs.length ≤ 100000 := by rw [hb.1]; exact hl
      rcases hx with hx | hx
      · refine ⟨_, (pss_one (ps_ret (pe_and (pe_call GS hr (by rfl) gS kS bS .nil pass0 (pa_cons (pv 0) pa_nil)) (pe_and (pe_cmpR op_gt (pe_callB call_len_seq (by rfl) T.len PySem.boot_len (pa_cons (pv 0) pa_nil)) pe_int (nomark _)) (pe_one (pe_callB (cr_all rfl) (by rfl) T.all (by decide +kernel) (pa_cons
            (pe_lc (own := [("one", 1)]) (g := gName 1) (tt := tYes) (by rfl) scAreD.nd (pi_list (pv 0)) (blkOk_by (N := ["value", "one"]) (sc := defScope sAreD) (by decide +kernel)) (fun _ _ _ _ _ => pg_name (i := 1) scAreD.nd rfl (Or.inl rfl)) (fun _ _ _ _ _ => pts_nil) (fun _ _ _ _ _ => pe_call GO hr (by rfl) gO kO bO .nil pass0 (pa_cons (pv 1) pa_nil))) pa_nil))))))), ?_⟩
        refine ⟨_, rfl, _, true, rfl, SqX.seq (.inl hx), fun H1 s1 => ⟨_, rfl, ?_⟩⟩
        refine iteY rfl ?_
        refine ⟨_, rfl, a, xs, rfl, .inl (SqL.of (s1 _ _ hx)), _, _, rfl, rfl, _, rfl, ?_⟩
        have e0 : decide (((xs.length : Nat) : Int) > 0) = full xs := by
          unfold full
          by_cases q : 0 < xs.length
          · rw [decide_eq_true q, decide_eq_true (by omega)]
          · rw [decide_eq_false q, decide_eq_false (by omega)]
        refine ite2 (fun h1 => ?_) (fun h1 => ?_)
        · have h2 : full xs = true := by rw [← e0]; exact h1
          rw [h2] at k
          refine ⟨_, rfl, a, rfl, ⟨_, SqL.of (s1 _ _ hx)⟩, fun D nD => lc_list (K := K) (a := a) (xs := xs) (fun i G => Same H1 G ∧ G D = some (.lst ((bs.take i).map V.bl))) ⟨Same.new nD, upd_same⟩ (fun i G _ q => SqL.of (q.1 _ _ (s1 _ _ hx))) ?_ ?_⟩
          · rintro i x G hi ⟨sG, hD⟩
            have li := (List.getElem?_eq_some_iff.mp hi).1
            rw [← hb.1] at li
            have eb : bs[i]? = some bs[i] := by simp [li]
            refine ⟨rfl, _, rfl, x, bs[i], rfl, (hb.2 i x _ hi eb).same (s1.trans sG), _, hD, ?_, fun c u e => by rw [upd_ne (ne_of_none e nD)]; exact sG _ _ e, ?_⟩
            · rw [List.length_map, List.length_take]
              exact smallT (by omega)
            · rw [upd_same, List.take_succ, eb, List.map_append]
              rfl
          · rintro G ⟨sG, hD⟩
            rw [← hb.1, List.take_length] at hD
            exact ⟨D, bs, rfl, SqL.of hD, k G (s1.trans sG)⟩
        · have h2 : full xs = false := by rw [← e0]; simpa using h1
          rw [h2] at k
          exact k H1 s1
      · refine ⟨_, (pss_one (ps_ret (pe_and (pe_call GS hr (by rfl) gS kS bS .nil pass0 (pa_cons (pv 0) pa_nil)) (pe_and (pe_cmpR op_gt (pe_callB call_len_seq (by rfl) T.len PySem.boot_len (pa_cons (pv 0) pa_nil)) pe_int (nomark _)) (pe_one (pe_callB (cr_all rfl) (by rfl) T.all (by decide +kernel) (pa_cons
            (pe_lc (own := [("one", 1)]) (g := gName 1) (tt := tYes) (by rfl) scAreD.nd (pi_tup (pv 0)) (blkOk_by (N := ["value", "one"]) (sc := defScope sAreD) (by decide +kernel)) (fun _ _ _ _ _ => pg_name (i := 1) scAreD.nd rfl (Or.inl rfl)) (fun _ _ _ _ _ => pts_nil) (fun _ _ _ _ _ => pe_call GO hr (by rfl) gO kO bO .nil pass0 (pa_cons (pv 1) pa_nil))) pa_nil))))))), ?_⟩
        refine ⟨_, rfl, _, true, rfl, SqX.seq (.inr hx), fun H1 s1 => ⟨_, rfl, ?_⟩⟩
        refine iteY rfl ?_
        refine ⟨_, rfl, a, xs, rfl, .inr (SqT.of (s1 _ _ hx)), _, _, rfl, rfl, _, rfl, ?_⟩
        have e0 : decide (((xs.length : Nat) : Int) > 0) = full xs := by
          unfold full
          by_cases q : 0 < xs.length
          · rw [decide_eq_true q, decide_eq_true (by omega)]
          · rw [decide_eq_false q, decide_eq_false (by omega)]
        refine ite2 (fun h1 => ?_) (fun h1 => ?_)
        · have h2 : full xs = true := by rw [← e0]; exact h1
          rw [h2] at k
          refine ⟨_, rfl, a, rfl, ⟨_, SqT.of (s1 _ _ hx)⟩, fun D nD => lc_tup (K := K) (a := a) (xs := xs) (fun i G => Same H1 G ∧ G D = some (.lst ((bs.take i).map V.bl))) ⟨Same.new nD, upd_same⟩ (fun i G _ q => SqT.of (q.1 _ _ (s1 _ _ hx))) ?_ ?_⟩
          · rintro i x G hi ⟨sG, hD⟩
            have li := (List.getElem?_eq_some_iff.mp hi).1
            rw [← hb.1] at li
            have eb : bs[i]? = some bs[i] := by simp [li]
            refine ⟨rfl, _, rfl, x, bs[i], rfl, (hb.2 i x _ hi eb).same (s1.trans sG), _, hD, ?_, fun c u e => by rw [upd_ne (ne_of_none e nD)]; exact sG _ _ e, ?_⟩
            · rw [List.length_map, List.length_take]
              exact smallT (by omega)
            · rw [upd_same, List.take_succ, eb, List.map_append]
              rfl
          · rintro G ⟨sG, hD⟩
            rw [← hb.1, List.take_length] at hD
            exact ⟨D, bs, rfl, SqL.of hD, k G (s1.trans sG)⟩
        · have h2 : full xs = false := by rw [← e0]; simpa using h1
          rw [h2] at k
          exact k H1 s1
end
end Lay
set_option Elab.async false
set_option linter.all false
set_option maxRecDepth 100000
set_option maxHeartbeats 4000000
namespace Lay
open PySem PySem.Spec PyProof.Rows L2
/-! C(e, ..) where what is let out depends on the slots; isinstance of an exception that the suite holds, with a dict. -/
section
variable {X : Cx} {CX : CXT} {k : Nat} {f C : Addr} {fd : FuncData} {ps : List Str} {sp : Sp} {E : L2.St → XK} {x m : Str} {p pos : Pos} {e : Expr} {es : List Expr} {t : TA} {ds : List Value} {dvs : List V}
theorem run_makeS {pins : List (Addr × Obj)} {σ : L2.St} {H : Hp} {s : Shared} {Q : VK} {us : List Value} {vs : List V} (M : Mk X.K C f) (F : FnOk X.prog X.w X.K X.mg X.base CX k f fd ps sp) (hr : Room (k + 1) X.A) (hb : Binds X.K fd ps ds) (hd : Vals dvs ds)
    (hx : PassesAt CX X σ (E σ)) (I : Inv X pins σ H s) (r : Vals vs us)
    (h : ∀ x dx, H x = none → H dx = none → dx ≠ x → sp (.ref x :: (vs ++ dvs)) (upd (upd H dx (.own x)) x (.ins C dx [])) (fun v H2 => v = .non ∧ Q (.ref x) H2) (E σ)) :
    wpAny (model X.prog X.w) X.A (call (.ref C) us) (EP X pins σ Q) X.xe s := by
  have hq := h (s.heap.objs.size + 1) s.heap.objs.size (I.hok.fresh (Nat.le_succ _)) (I.hok.fresh (Nat.le_refl _)) (Nat.ne_of_lt (Nat.lt_succ_self _))
  have I2 := Inv.made (C := C) I
  have r2 : Vals (V.ref (s.heap.objs.size + 1) :: (vs ++ dvs)) (Value.ref (s.heap.objs.size + 1) :: (us ++ ds)) := .cons rfl (r.append hd)
  have hl : (Value.ref (s.heap.objs.size + 1) :: us ++ ds).length = ps.length := by
    have e := r2.length
    rw [F.len _ _ _ _ hq] at e
    exact e.symm
  refine wpAny_call (make_map (f := f) I.kIn M.makes M.init (beq_iff_eq.mp M.fn) (codeAny_mono (F.run _ X.stack _ _ ⟨Value.ref (s.heap.objs.size + 1) :: us, []⟩ (Value.ref (s.heap.objs.size + 1) :: (us ++ ds)) _ _ (E σ) (hr.make C us [])
    (I2.env0.make C us []) (hb _ (Value.ref (s.heap.objs.size + 1) :: us) I2.kIn hl) r2 hq) fun r s' hq' => ?_))
  cases r with
  | error e => exact hx pins _ _ e s' I2 hq'
  | ok fl =>
    cases fl with
    | ret u =>
      obtain ⟨v, H', I3, rv, ev, q3⟩ := I2.after hq'
      subst ev
      exact ⟨rv, ⟨V.ref (s.heap.objs.size + 1), H', I3, rfl, q3⟩⟩
    | next => exact False.elim hq'
    | brk => exact False.elim hq'
    | cont => exact False.elim hq'
def tMakeS (C : Addr) (sp : Sp) (dvs : List V) (E : L2.St → XK) (t : TA) : TE := fun σ H Q => t σ H fun vs H1 => ∀ x dx, H1 x = none → H1 dx = none → dx ≠ x → sp (.ref x :: (vs ++ dvs)) (upd (upd H1 dx (.own x)) x (.ins C dx [])) (fun v H2 => v = .non ∧ Q (.ref x) H2) (E σ)
theorem pe_makeS (M : Mk X.K C f) (F : FnOk X.prog X.w X.K X.mg X.base CX k f fd ps sp) (hr : Room (k + 1) X.A) (hg : Gl X x) (hm : X.mg x = some (.ref C)) (hb : Binds X.K fd ps ds) (hd : Vals dvs ds) (hx : ∀ σ, PassesAt CX X σ (E σ))
    (ha : PA X (e :: es) t) (hdb : (x == ("__debug__" : Str)) = false := by decide) (he : starEach (e :: es) X.env = (false, eval e X.env) :: starEach es X.env := by rfl) (hpl : (backTo pos (starEach es X.env)).any (·.1) = false := by rfl) :
    PE X (.Call (.Name x p) (e :: es) [] pos) (tMakeS C sp dvs E t) := by
  refine ⟨fun pins s σ H Q I h => ?_⟩
  refine wpAny_Call_Name_kw (ld_glob I hg hm ?_ hdb)
  refine PySem.W.callWith_K (h₀ := X.base) I.ok.mod.kin M.kp (thn (ha.run pos pins s σ H _ I h) fun us s1 ⟨vs, H1, I1, r, q⟩ => ⟨I1.kIn, ?_⟩) he hpl
  exact run_makeS M F hr hb hd (hx σ) I1 r q
/-- isinstance(e, c), e the exception that the suite holds, a dict with it -/
def rIsEX (K : PySem.W.Frag) (a : Addr) (cls : Value) (d : Option Addr) : List V → Hp → VK → Prop := fun xs H Q => ∃ (D dd : Addr) (fs : List (Str × V)) (c : V) (cv : Value) (b : Bool), xs = [.ref a, c] ∧ cls = .ref D ∧ d = some dd ∧ H dd = some (.xd fs) ∧ ExcC K D ∧ ClsV c cv ∧
  PySem.W.kitOne K (.ref D) cv = some b ∧ Q (.bl b) H
theorem call_isEX {a : Addr} {cls : Value} {d : Option Addr} {oe : Obj} {pn : List (Addr × Obj)} (hz : Zc cls d oe) (hf : ∃ vs, oe.data = .fields vs) : CallR (X.suite a ((a, oe) :: pn)) (.builtin "isinstance") (rIsEX X.K a cls d) := by
  intro pins s σ H xs us Q I r h
  obtain ⟨D, dd, fs, c, cv, b, rfl, ec, ed, hdd, C, k, e, q⟩ := h
  obtain ⟨u1, u2, rfl, r1, r2⟩ := vals2 r
  cases r1
  have e2 := k.eq r2
  subst e2 ec ed
  have hcl : (PySem.W.clsIn X.K D).isSome = true := by
    obtain ⟨cd, hc, _⟩ := PySem.W.any_some C.hd
    rw [hc]
    rfl
  obtain ⟨hget, _⟩ := I.pin (a, oe) (List.mem_append_left _ List.mem_cons_self)
  obtain ⟨vs, hv⟩ := hf
  have hx : ObjOk X.prog X.w H s.heap dd (.xd fs) := I.hok dd _ hdd
  obtain ⟨mA, hns, hrel⟩ := hx
  obtain ⟨od, ho, hl⟩ := lookIn_ns hns
  have J : PySem.W.InstAt s.heap a oe D (some od) := ⟨hget, hz.1, by unfold PySem.W.notCls; rw [hv] <;> rfl, by rw [hz.2]; exact ho⟩
  exact PySem.W.kia_one (PySem.W.kitx_exc hcl C.hg C.hk C.hs C.ha C.hn C.ht C.hm) I.kIn J e (fun z => nomatch z) fun tk => ⟨.bl b, H, I.kept (t' := tk) fun _ _ z => z, rfl, q⟩
end
section
variable {X : Cx}
/-- tuple(a list or a tuple) -/
theorem call_tupleX : CallR X (.type "tuple") (fun xs H Q => ∃ a ys, xs = [.ref a] ∧ SqX H a ys ∧ ∀ l H', Same H H' → H' l = some (.tup ys) → Q (.ref l) H') := by
  intro pins s σ H xs us Q I r h
  obtain ⟨a, ys, rfl, hs, q⟩ := h
  refine call_tuple_of pins s σ H _ us Q I r ⟨a, ys, rfl, ?_⟩
  rcases hs with hs | hs
  · exact .inl ⟨SqL.of hs, fun l nl => q l _ (Same.new nl) upd_same⟩
  · exact .inr ⟨SqT.of hs, q a H (Same.refl H) hs⟩
theorem call_listX : CallR X (.type "list") (fun xs H Q => ∃ a ys, xs = [.ref a] ∧ SqX H a ys ∧ ∀ l H', Same H H' → H l = none → H' l = some (.lst ys) → Q (.ref l) H') := by
  intro pins s σ H xs us Q I r h
  obtain ⟨a, ys, rfl, hs, q⟩ := h
  refine call_list_of pins s σ H _ us Q I r ⟨a, ys, rfl, ?_, fun l nl => q l _ (Same.new nl) nl upd_same⟩
  rcases hs with hs | hs
  · exact .inl (SqL.of hs)
  · exact .inr (SqT.of hs)
theorem op_catX : OpR X (binaryOp .Add) (fun x y H Q => ∃ a b xs ys, x = .ref a ∧ y = .ref b ∧ H a = some (.tup xs) ∧ H b = some (.tup ys) ∧ xs.length + ys.length ≤ 1000 ∧ ∀ p H', Same H H' → H' p = some (.tup (xs ++ ys)) → Q (.ref p) H') := by
  intro pins s σ H x y v u Q I rx ry h
  obtain ⟨a, b, xs, ys, rfl, rfl, ha, hb, hl, q⟩ := h
  refine op_catA pins s σ H _ _ v u Q I rx ry ⟨a, b, xs, ys, rfl, rfl, SqT.of ha, SqT.of hb, fits (by omega), fun e => ?_, fun _ e => ?_, fun _ _ p np => q p _ (Same.new np) upd_same⟩
  · subst e
    exact q b H (Same.refl H) hb
  · subst e
    exact q a H (Same.refl H) (by rw [List.append_nil]; exact ha)
theorem sl_tupX : SlR X (fun x lo hi H Q => ∃ a xs, x = .ref a ∧ H a = some (.tup xs) ∧ ∀ p H', Same H H' → H' p = some (.tup (cutV xs lo hi)) → Q (.ref p) H') := by
  intro pins s σ H x v vl vu lo hi sl Q I rx hs pl pu h
  obtain ⟨a, xs, rfl, ha, q⟩ := h
  refine sl_tupA pins s σ H _ v vl vu lo hi sl Q I rx hs pl pu ⟨a, xs, rfl, SqT.of ha, fun w => ?_, fun _ p np => q p _ (Same.new np) upd_same⟩
  refine q a H (Same.refl H) ?_
  unfold cutV
  rw [w.1, w.2]
  simpa using ha
end
/-- an error class with an __init__ of its own that keeps f -/
structure XC (K : PySem.W.Frag) (mg : Str → Option Value) (C fI : Addr) (x f : Str) : Prop where
  oex : OexC K C
  init : PySem.W.findIn K (.ref C) "__init__" = some (some (.ref fI))
  tI : PySem.W.typeIn K (.ref fI) = some (.type "function")
  gC : mg x = some (.ref C)
  no : PySem.W.findIn K (.ref C) f = some none
  isC : ExcC K C
  xf : XfC K C
def spInit (K : PySem.W.Frag) (C : Addr) (f : Str) : Sp := fun vs H Q _ => ∃ (a : Addr) (v : V), vs = [.ref a, v] ∧ OexC K C ∧ PySem.W.findIn K (.ref C) f = some none ∧ H a = some (exo a C none) ∧
  ∀ dx, H dx = none → dx ≠ a → Q .non (upd (upd H dx (exd dx [(f, v)])) a (exo a C (some dx)))
/-- what raising such a class comes to -/
theorem raised_at {K : PySem.W.Frag} {C a : Addr} {f : Str} {H : Hp} {v : V} {Q : XK} (T : OexC K C) (no : PySem.W.findIn K (.ref C) f = some none) (ha : H a = none)
    (k : ∀ H' d, Same H H' → H d = none → H' d = some (.xd [(f, v)]) → Q (.ref C) (some d) H') :
    spInit K C f [.ref a, v] (upd H a (exo a C none)) (fun u H2 => u = .non ∧ ∃ (d : Addr) (fs : List (Str × V)), H2 a = some (exo a C (some d)) ∧ H2 d = some (exd d fs) ∧ H d = none ∧ Q (.ref C) (some d) (upd (del H2 a) d (.xd fs))) (fun _ _ _ => False) := by
  refine ⟨a, v, rfl, T, no, upd_same, fun dx hd ne => ?_⟩
  have hd' : H dx = none := by
    rw [upd_ne ne] at hd
    exact hd
  refine ⟨rfl, dx, _, upd_same, by rw [upd_ne ne, upd_same], hd', k _ dx (fun b o e => ?_) hd' upd_same⟩
  have nb : b ≠ a := ne_of_none e ha
  have nd : b ≠ dx := ne_of_none e hd'
  rw [upd_ne nd, del_ne nb, upd_ne nb, upd_ne nd, upd_ne nb]
  exact e
/-- what is raised -/
def Raised (D : Addr) (H : Hp) (v : V) (E : XK) : Prop := ∀ H' d, Same H H' → H d = none → H' d = some (.xd [("part", v)]) → E (.ref D) (some d) H'
theorem Raised.same {D : Addr} {H H' : Hp} {v : V} {E : XK} (s : Same H H') (h : Raised D H v E) : Raised D H' v E := fun G d s2 n e => h G d (s.trans s2) (s.free n) e
/-- all that is tracked beside b is as it was -/
def Kept (b : Addr) (H H' : Hp) : Prop := ∀ a o, a ≠ b → H a = some o → H' a = some o
theorem Kept.of_same {b : Addr} {H H' : Hp} (x : Same H H') : Kept b H H' := fun a o _ h => x a o h
theorem Kept.trans {b : Addr} {H H1 H2 : Hp} (x : Kept b H H1) (y : Kept b H1 H2) : Kept b H H2 := fun a o n h => y a o n (x a o n h)
theorem Kept.box {b : Addr} {H : Hp} {o : HO} : Kept b H (upd H b o) := fun a u n h => by rw [upd_ne n]; exact h
/-- what the class Row says of itself -/
structure RowC (K : PySem.W.Frag) (C : Addr) : Prop where
  cl : Cls K C
  tests : NoAttr K C "tests"
  deeds : NoAttr K C "deeds"
def rowF (t d : Addr) : List (Str × V) := putF "deeds" (.ref d) (putF "tests" (.ref t) [])
def spRowI (K : PySem.W.Frag) (C D : Addr) : Sp := fun vs H Q E => ∃ (p dx : Addr) (x y : V) (rt rd : Bool), vs = [.ref p, x, y] ∧ H p = some (.ins C dx []) ∧ AnsV progT yes K H x rt ∧ AnsV progD full K H y rd ∧
  (rt = true → rd = true → ∀ H' t d ys, Kept p H H' → H' p = some (.ins C dx (rowF t d)) → H' d = some (.tup ys) → 0 < ys.length → Q .non H') ∧ (rt = false → Raised D H (.str "tests") E) ∧ (rt = true → rd = false → Raised D H (.str "deeds") E)
abbrev sIR : Stmt := inClass (top 3) 0
abbrev sRowI : Stmt := inClass (top 21) 0
section
variable {P : Program} {w : World} {K : PySem.W.Frag} {mg : Str → Option Value} {base : Heap}
theorem scIR : FnScope ["self", "part"] ["self", "part"] (defScope sIR) := ⟨rfl, rfl, rfl, by decide +kernel, rfl, by decide +kernel, by decide +kernel⟩
theorem ok_iR {f C : Addr} {fd : FuncData} (F : Fun K "__init__" "InvalidRow.__init__" sIR f fd) : FnOk P w K mg base CX0 1 f fd ["self", "part"] (spInit K C "part") := by
  refine F.ok scIR (fun vs H Q E h => ?_) (fun cdv A outer s H vs Q E hr h => ?_)
  · obtain ⟨a, v, rfl, _⟩ := h
    rfl
  · obtain ⟨a, v, rfl, T, no, ha, k⟩ := h
    exact ⟨_, pss_one (ps_ost (pv 0) (pv 1)), _, rfl, _, rfl, a, C, rfl, T, no, .inl ⟨ha, fun dx h1 h2 => k dx h1 h2⟩⟩
theorem scRowI : FnScope ["self", "tests", "deeds"] ["self", "tests", "deeds"] (defScope sRowI) := ⟨rfl, rfl, rfl, by decide +kernel, rfl, by decide +kernel, by decide +kernel⟩
theorem ok_rowI {f fT fD fI C D : Addr} {fd fdT fdD fdI : FuncData} {dvs : List V} (F : FunD K "__init__" "Row.__init__" (defArgs sRowI) (defBody sRowI) (defScope sRowI) dvs [] f fd) (T : TxtK mg) (Z : RowC K C)
    (GT : FnOk P w K mg base CX0 2 fT fdT ["value"] (spAre progT yes K)) (gT : mg "are_tests" = some (.ref fT)) (kT : PySem.W.keepIn K (.ref fT) = true) (bT : Binds K fdT ["value"] [])
    (GD : FnOk P w K mg base CX0 2 fD fdD ["value"] (spAre progD full K)) (gD : mg "are_deeds" = some (.ref fD)) (kD : PySem.W.keepIn K (.ref fD) = true) (bD : Binds K fdD ["value"] [])
    (Y : XC K mg D fI "InvalidRow" "part") (GI : FnOk P w K mg base CX0 1 fI fdI ["self", "part"] (spInit K D "part")) (bI : Binds K fdI ["self", "part"] []) : FnOk P w K mg base (L2.CX P w) 3 f fd ["self", "tests", "deeds"] (spRowI K C D) := by
  refine F.ok scRowI (fun vs H Q E h => ?_) (fun cdv A outer s H vs Q E hr h => ?_)
  · obtain ⟨p, dx, x, y, rt, rd, rfl, _⟩ := h
    rfl
  · obtain ⟨p, dx, x, y, rt, rd, rfl, hp, ht, hd, k1, k2, k3⟩ := h
    refine ⟨_, (pss_cons (ps_if (pt_not (pt_val (pe_call GT hr (by rfl) gT kT bT .nil pass0 (pa_cons (pv 1) pa_nil))))
      (pss_one (ps_raise rfl (takes_of rfl rfl rfl rfl) (pmk_oex Y.oex Y.init Y.tI GI hr bI .nil pass0 (by rfl) Y.gC (pa_cons pe_str pa_nil))))
      pss_nil)
    (pss_cons (ps_if (pt_not (pt_val (pe_call GD hr (by rfl) gD kD bD .nil pass0 (pa_cons (pv 2) pa_nil))))
      (pss_one (ps_raise rfl (takes_of rfl rfl rfl rfl) (pmk_oex Y.oex Y.init Y.tI GI hr bI .nil pass0 (by rfl) Y.gC (pa_cons pe_str pa_nil))))
      pss_nil)
    (pss_cons (ps_fld (pv 0) (pe_callTy call_tupleX (by rfl) T.tuple (by decide +kernel) (pa_cons (pv 1) pa_nil)) rfl)
    (pss_one (ps_fld (pv 0) (pe_callTy call_tupleX (by rfl) T.tuple (by decide +kernel) (pa_cons (pv 2) pa_nil)) rfl))))), ?_⟩
    refine ⟨_, rfl, x, rt, rfl, ht, fun H1 s1 => ⟨_, rfl, ?_⟩⟩
    cases rt with
    | false =>
      exact iteY rfl ⟨by show 1 ≤ 1000; decide, fun a ha => raised_at Y.oex Y.no ha (k2 rfl |>.same s1)⟩
    | true =>
      refine iteN rfl ⟨_, rfl, y, rd, rfl, hd.same s1, fun H2 s2 => ⟨_, rfl, ?_⟩⟩
      cases rd with
      | false =>
        exact iteY rfl ⟨by show 1 ≤ 1000; decide, fun a ha => raised_at Y.oex Y.no ha (k3 rfl rfl |>.same (s1.trans s2))⟩
      | true =>
        refine iteN rfl ?_
        have s12 := s1.trans s2
        rcases ht with ⟨_, z⟩ | ⟨a, xs, bs, rfl, hx, _⟩
        · cases z
        rcases hd with ⟨_, z⟩ | ⟨c, ys, ds, rfl, hy, _, _, ey⟩
        · cases z
        have n0 : 0 < ys.length := of_decide_eq_true (Bool.and_eq_true_iff.mp ey.symm).1
        refine ⟨_, rfl, a, xs, rfl, hx.same s12, fun t H3 s3 h3 => ⟨_, rfl, p, C, dx, _, rfl, s3 _ _ (s12 _ _ hp), Z.cl, Z.tests, (by show 0 < 1000; decide), ?_⟩⟩
        have ncp : c ≠ p := by
          rcases hy with hy | hy
          · exact ne_of hy hp (fun z => nomatch z)
          · exact ne_of hy hp (fun z => nomatch z)
        have k4 : Kept p H (upd H3 p (.ins C dx (putF "tests" (.ref t) []))) := (Kept.of_same (s12.trans s3)).trans Kept.box
        have hy4 : SqX (upd H3 p (.ins C dx (putF "tests" (.ref t) []))) c ys := by
          rcases hy with hy | hy
          · exact .inl (k4 _ _ ncp hy)
          · exact .inr (k4 _ _ ncp hy)
        refine ⟨_, rfl, c, ys, rfl, hy4, fun d H5 s5 h5 => ⟨_, rfl, p, C, dx, _, rfl, s5 _ _ upd_same, Z.cl, Z.deeds, ?_, ?_⟩⟩
        · exact Nat.lt_of_le_of_lt (length_putF _ _ []) (by show 0 + 1 < 1000; decide)
        · have ndp : d ≠ p := ne_of h5 (s5 _ _ upd_same) (fun z => nomatch z)
          exact k1 rfl rfl _ t d ys ((k4.trans (Kept.of_same s5)).trans Kept.box) upd_same (by rw [upd_ne ndp]; exact h5) n0
end
end Lay
set_option Elab.async false
set_option linter.all false
set_option maxRecDepth 100000
set_option maxHeartbeats 4000000
namespace Lay
open PySem PySem.Spec PyProof.Rows L2
section
variable {X : Cx}
/-- xs == [], any xs -/
theorem op_eqNil (hu : X.A.units + 64 < cLine) : OpR X (compareOp .Eq) (fun x y H Q => ∃ a b xs, x = .ref a ∧ y = .ref b ∧ SqL X.K H a xs ∧ H b = some (.lst []) ∧ Q (.bl xs.isEmpty) H) := by
  intro pins s σ H x y v u Q I rx ry h
  obtain ⟨a, b, xs, rfl, rfl, ha, hb, q⟩ := h
  cases xs with
  | nil => exact op_eqD hu pins s σ H _ _ v u Q I rx ry ⟨.list [], .list [], .lst ha .nil, .lst (SqL.of hb) .nil, rfl, rfl, q⟩
  | cons z zs =>
    cases rx
    cases ry
    obtain ⟨its, r, p1, _⟩ := I.list ha
    obtain ⟨its2, r2, p2, _⟩ := I.list (SqL.of hb)
    cases r2
    refine SeqAt.eq_list_lengthsAt p1.isList p2.isList ?_ (by omega) ⟨.bl false, H, I, rfl, q⟩
    cases r
    rfl
end
section
variable {X : Cx} {K : PySem.W.Frag} {e : Expr} {ta : TE} {f : Str} {pos : Pos}
theorem pe_fldK (hK : X.K = K) (he : PE X e ta) (hb : attributeBase e f X.env (eval e X.env) = eval e X.env) : PE X (.Attribute e f pos) (tFld K ta f) := by
  subst hK
  exact pe_fld he hb
theorem call_lenK (hK : X.K = K) : CallR X (.builtin "len") (fun xs H Q => ∃ p ys, xs = [.ref p] ∧ (SqL K H p ys ∨ SqT K H p ys) ∧ Q (.int ys.length) H) := by
  subst hK
  exact call_len_seq
end
section
variable {X : Cx}
/-- xs != [], any xs -/
theorem op_neNil (hu : X.A.units + 64 < cLine) : OpR X (compareOp .NotEq) (fun x y H Q => ∃ a b xs, x = .ref a ∧ y = .ref b ∧ SqL X.K H a xs ∧ H b = some (.lst []) ∧ Q (.bl (!xs.isEmpty)) H) := by
  intro pins s σ H x y v u Q I rx ry h
  obtain ⟨a, b, xs, rfl, rfl, ha, hb, q⟩ := h
  cases xs with
  | nil => exact op_neD hu pins s σ H _ _ v u Q I rx ry ⟨.list [], .list [], .lst ha .nil, .lst (SqL.of hb) .nil, rfl, rfl, q⟩
  | cons z zs =>
    cases rx
    cases ry
    obtain ⟨its, r, p1, _⟩ := I.list ha
    obtain ⟨its2, r2, p2, _⟩ := I.list (SqL.of hb)
    cases r2
    have hsz : (its.toArray.size != ([] : List Value).toArray.size) = true := by
      cases r
      rfl
    exact (SeqAt.RcNeAt.lists_lengths p1.isList p2.isList hsz (by omega)) _ _ _ _ ⟨.bl true, H, I, rfl, q⟩
end
section
variable {X : Cx} {K : PySem.W.Frag}
theorem call_isiK (hK : X.K = K) : CallR X (.builtin "isinstance") (rIsi K) := by
  subst hK
  exact call_isi
theorem op_notInK (hK : X.K = K) : OpR X (compareOp .NotIn) (rIn K true) := by
  subst hK
  exact op_notIn_seq
end
theorem str_at {zs : List Str} {i : Nat} {x : V} (h : (zs.map V.str)[i]? = some x) : ∃ z, zs[i]? = some z ∧ x = V.str z := by
  rw [List.getElem?_map] at h
  cases q : zs[i]? with
  | none => rw [q] at h; cases h
  | some z => rw [q] at h; exact ⟨z, rfl, (Option.some.inj h).symm⟩
end Lay
set_option Elab.async false
set_option linter.all false
set_option maxRecDepth 100000
set_option maxHeartbeats 4000000
namespace Lay
open PySem L2
theorem K2.put {b gr p : Addr} {H G : Hp} {o : HO} (h : H p = none) (k : K2 b gr H G) : K2 b gr H (upd G p o) := fun a u n1 n2 e => by
  rw [upd_ne (ne_of_none e h)]
  exact k _ _ n1 n2 e
theorem BoxD.put {b gr p : Addr} {H : Hp} {o : HO} (n1 : p ≠ b) (n2 : p ≠ gr) (x : BoxD H b gr) : BoxD (upd H p o) b gr := by
  obtain ⟨⟨m, h1⟩, ns, h2, h3⟩ := x
  exact ⟨⟨m, by rw [upd_ne (Ne.symm n1)]; exact h1⟩, ns, by rw [upd_ne (Ne.symm n2)]; exact h2, h3⟩
theorem BoxD.tup_ne {b gr t : Addr} {H : Hp} {xs : List V} (x : BoxD H b gr) (h : H t = some (.tup xs)) : t ≠ b ∧ t ≠ gr := by
  obtain ⟨⟨m, h1⟩, ns, h2, _⟩ := x
  exact ⟨ne_of h h1 (fun z => nomatch z), ne_of h h2 (fun z => nomatch z)⟩
def drawT : List Str := ["broken", "marked", "left", "ahead", "behind", "blank", "long", "long", "first", "afterbroken", "afterbehind"]
def GoodT (z : Str) : Bool := progT z && (PyData.strOk z && decide (z.length ≤ 20))
def GoodD (z : Str) : Bool := progD z && decide (z.length ≤ 20)
theorem goodT_drawn : ∀ z ∈ drawT, GoodT z = true ∧ GoodT (Str.ofString "not " ++ z) = true ∧ z.length ≤ 20 := by decide +kernel
theorem goodD_drawn : ∀ z ∈ deedL, GoodD z = true := by decide +kernel
theorem mem_strs {zs : List Str} {v : V} (h : v ∈ zs.map V.str) : ∃ z, z ∈ zs ∧ v = V.str z := by
  obtain ⟨z, h1, h2⟩ := List.mem_map.mp h
  exact ⟨z, h1, h2.symm⟩
/-- texts drawn: a new tuple of good ones -/
def spDrawn (good : Str → Bool) (lo : Int) : Sp := fun vs H Q _ => ∃ (b gr : Addr) (m : Int), vs = [.ref b, .int m] ∧ BoxD H b gr ∧ 0 < m ∧ m ≤ 100 ∧
  ∀ (t : Addr) (ws : List Str) (H' : Hp), K2 b gr H H' → BoxD H' b gr → t ≠ b → t ≠ gr → H' t = some (.tup (ws.map V.str)) → lo ≤ ws.length → ws.length ≤ m → (∀ z ∈ ws, good z = true) → Q (.ref t) H'
abbrev sTests : Stmt := top 28
abbrev sDeeds : Stmt := top 29
def testsN : List Str := ["_law_box", "_law_most", "_law_every", "_law_found", "_law_turn", "_law_word"]
def deedsN : List Str := ["_law_box", "_law_most", "_law_every", "_law_turn"]
/-- the draws -/
structure Draws (P : Program) (w : World) (K : PySem.W.Frag) (mg : Str → Option Value) (base : Heap) (fT fK : Addr) (dT dK : FuncData) : Prop where
  range : mg "range" = none
  tuple : mg "tuple" = none
  okT : FnOk P w K mg base CX0 1 fT dT ["_law_box", "_law_wide"] spTake
  gT : mg "_law_take" = some (.ref fT)
  kT : PySem.W.keepIn K (.ref fT) = true
  bT : Binds K dT ["_law_box", "_law_wide"] []
  okK : FnOk P w K mg base CX0 2 fK dK ["_law_box", "_law_some"] (spPick K)
  gK : mg "_law_pick" = some (.ref fK)
  kK : PySem.W.keepIn K (.ref fK) = true
  bK : Binds K dK ["_law_box", "_law_some"] []
section
variable {P : Program} {w : World} {K : PySem.W.Frag} {mg : Str → Option Value} {base : Heap} {fT fK : Addr} {dT dK : FuncData}
theorem scTests : FnScope testsN ["_law_box", "_law_most"] (defScope sTests) := ⟨rfl, rfl, rfl, by decide +kernel, rfl, by decide +kernel, by decide +kernel⟩
theorem ok_tests {f : Addr} {fd : FuncData} (F : Fun K "_law_tests" "_law_tests" sTests f fd) (D : Draws P w K mg base fT fK dT dK) : FnOk P w K mg base CX0 3 f fd ["_law_box", "_law_most"] (spDrawn GoodT 0) := by
  refine F.ok scTests (fun vs H Q E h => ?_) (fun cdv A outer s H vs Q E hr h => ?_)
  · obtain ⟨b, gr, m, rfl, _⟩ := h
    rfl
  · obtain ⟨b, gr, m, rfl, bx, m0, m1, k⟩ := h
    have hr1 := hr.mono (show 1 ≤ 2 by decide)
    refine ⟨_, (pss_cons (ps_set (i := 2) scTests.nd rfl (.inl rfl) (pe_lst (pa_cons pe_str (pa_cons pe_str (pa_cons pe_str (pa_cons pe_str (pa_cons pe_str (pa_cons pe_str (pa_cons pe_str (pa_cons pe_str (pa_cons pe_str (pa_cons pe_str pa_nil))))))))))))
      (pss_cons (ps_set (i := 3) scTests.nd rfl (.inl rfl) (pe_lst pa_nil))
      (pss_cons (ps_for PassesOwn.never rfl (pi_range1 (by rfl) D.range (pa_cons (pe_call D.okT hr1 (by rfl) D.gT D.kT D.bT .nil pass0 (pa_cons (pv 0) (pa_cons (pe_op op_add (pv 1) pe_int) pa_nil))) pa_nil)) (pg_name (i := 4) scTests.nd rfl (.inl rfl))
        (pss_cons (ps_set (i := 5) scTests.nd rfl (.inl rfl) (pe_call D.okK hr (by rfl) D.gK D.kK D.bK .nil pass0 (pa_cons (pv 0) (pa_cons (pe_op op_cat (pv 2) (pe_lst (pa_cons pe_str pa_nil))) pa_nil))))
        (pss_one (ps_expr (pe_bm PySem.F.plainAttrs_list PySem.F.slot_list_append PySem.F.type_list_append mt_append (pv 3) (pa_cons (pe_ifExp (pt_cmpR op_eq (pe_call D.okT hr1 (by rfl) D.gT D.kT D.bT .nil pass0 (pa_cons (pv 0) (pa_cons pe_int pa_nil))) pe_int (nomark _)) (pe_op op_add_str pe_str (pv 5)) (pv 5)) pa_nil))))))
      (pss_one (ps_ret (pe_callTy call_tupleX (by rfl) D.tuple (by decide +kernel) (pa_cons (pv 3) pa_nil))))))), ?_⟩
    refine ⟨(by show 10 ≤ sizeLine; decide), fun e1 n1 => ⟨(by show 0 ≤ sizeLine; exact Nat.zero_le _), fun f1 n2 => ?_⟩⟩
    have s1 := (Same.new n1 (o := .lst ((drawT.take 10).map V.str))).trans (Same.new n2 (o := .lst []))
    have e1b := bx.fresh n1
    have f1b := (bx.same (Same.new n1 (o := .lst ((drawT.take 10).map V.str)))).fresh n2
    have h1 : upd H e1 (.lst ((drawT.take 10).map V.str)) e1 = some (.lst ((drawT.take 10).map V.str)) := upd_same
    have ef : e1 ≠ f1 := ne_of_none h1 n2
    have nf : H f1 = none := (Same.new n1).free n2
    refine ⟨_, rfl, _, rfl, _, _, rfl, rfl, b, gr, m + 1, rfl, bx.same s1, by omega, by omega, fun r G r0 r1 bG kG => ?_⟩
    have kHG := (K2.of_same s1).trans kG
    refine ⟨r, rfl, by omega, by omega, for_range (lo := 0) (n := r.toNat) (fun i σ G' => ∃ (x4 x5 : Option V) (ws : List Str), σ = [some (.ref b), some (.int m), some (.ref e1), some (.ref f1), x4, x5] ∧ K2 b gr H G' ∧ BoxD G' b gr ∧ G' e1 = some (.lst ((drawT.take 10).map V.str)) ∧ G' f1 = some (.lst (ws.map V.str)) ∧ ws.length = i ∧ ∀ z ∈ ws, GoodT z = true)
      ⟨_, _, [], rfl, kHG, bG, kG _ _ e1b.1 e1b.2 (Same.new n2 _ _ h1), kG _ _ f1b.1 f1b.2 upd_same, rfl, fun z hz => (List.not_mem_nil hz).elim⟩ ?_ ?_⟩
    · rintro i σ G2 hi ⟨x4, x5, ws, rfl, k2, b2, he, hf, hl, hg⟩
      refine ⟨_, rfl, _, rfl, (by show 1 ≤ sizeLine; decide), fun q nq => ⟨e1, q, _, _, rfl, rfl, Same.new nq _ _ he, upd_same, (by show 11 ≤ sizeLine; decide), fun q2 nq2 => ?_⟩⟩
      have sq := (Same.new nq (o := .lst [.str "afterbehind"])).trans (Same.new nq2 (o := .lst ((drawT.take 10).map V.str ++ [.str "afterbehind"])))
      have bq := b2.same (Same.new nq (o := .lst [.str "afterbehind"]))
      have q2b := bq.fresh nq2
      refine ⟨b, gr, q2, drawT.map V.str, rfl, b2.same sq, q2b.1, q2b.2, .inl upd_same, (by show 0 < 11; decide), (by show 11 ≤ 1000; decide), fun v G3 hv b3 k3 => ?_⟩
      obtain ⟨z, hz, rfl⟩ := mem_strs hv
      obtain ⟨g1, g2, g3⟩ := goodT_drawn z hz
      have k23 := (k2.trans (K2.of_same sq)).trans k3
      have he3 := k3 _ _ e1b.1 e1b.2 (sq _ _ he)
      have hf3 := k3 _ _ f1b.1 f1b.2 (sq _ _ hf)
      refine ⟨_, rfl, .inl ⟨rfl, _, SqL.of hf3⟩, _, rfl, b, gr, 3, rfl, b3, by decide, by decide, fun r3 G4 r30 r31 b4 k4 => ⟨rfl, _, rfl, ?_⟩⟩
      have k24 := k23.trans k4
      have he4 := k4 _ _ e1b.1 e1b.2 he3
      have hf4 := k4 _ _ f1b.1 f1b.2 hf3
      have fin : ∀ y, GoodT y = true → K2 b gr H (upd G4 f1 (.lst (ws.map V.str ++ [.str y]))) ∧ BoxD (upd G4 f1 (.lst (ws.map V.str ++ [.str y]))) b gr ∧ (upd G4 f1 (.lst (ws.map V.str ++ [.str y]))) e1 = some (.lst ((drawT.take 10).map V.str)) ∧ (upd G4 f1 (.lst (ws.map V.str ++ [.str y]))) f1 = some (.lst ((ws ++ [y]).map V.str)) ∧ (ws ++ [y]).length = i + 1 ∧ ∀ z ∈ ws ++ [y], GoodT z = true := fun y hy =>
        ⟨k24.put nf, b4.put f1b.1 f1b.2, by rw [upd_ne ef]; exact he4, by rw [upd_same, List.map_append]; rfl, by rw [List.length_append, hl]; rfl, fun x hx => by
          rcases List.mem_append.mp hx with hx | hx
          · exact hg x hx
          · rw [List.mem_singleton] at hx
            rw [hx]
            exact hy⟩
      refine ite2 (fun _ => ?_) (fun _ => ?_)
      · refine ⟨_, rfl, _, _, rfl, rfl, fits (by show 4 + z.length ≤ 16000000; omega), f1, _, _, rfl, rfl, hf4, by rw [List.length_map, hl]; exact small1000 (by omega), ?_⟩
        obtain ⟨a1, a2, a3, a4, a5, a6⟩ := fin _ g2
        exact ⟨_, _, ws ++ [_], rfl, a1, a2, a3, a4, a5, a6⟩
      · refine ⟨_, rfl, f1, _, _, rfl, rfl, hf4, by rw [List.length_map, hl]; exact small1000 (by omega), ?_⟩
        obtain ⟨a1, a2, a3, a4, a5, a6⟩ := fin _ g1
        exact ⟨_, _, ws ++ [_], rfl, a1, a2, a3, a4, a5, a6⟩
    · rintro σ G2 ⟨x4, x5, ws, rfl, k2, b2, he, hf, hl, hg⟩
      refine ⟨_, rfl, f1, _, rfl, .inl hf, fun t H' st ht => ?_⟩
      have bt := b2.same st
      exact k t ws H' (k2.trans (K2.of_same st)) bt (bt.tup_ne ht).1 (bt.tup_ne ht).2 ht (by omega) (by omega) hg
theorem scDeeds : FnScope deedsN ["_law_box", "_law_most"] (defScope sDeeds) := ⟨rfl, rfl, rfl, by decide +kernel, rfl, by decide +kernel, by decide +kernel⟩
theorem ok_deeds {f : Addr} {fd : FuncData} (F : Fun K "_law_deeds" "_law_deeds" sDeeds f fd) (D : Draws P w K mg base fT fK dT dK) : FnOk P w K mg base CX0 3 f fd ["_law_box", "_law_most"] (spDrawn GoodD 1) := by
  refine F.ok scDeeds (fun vs H Q E h => ?_) (fun cdv A outer s H vs Q E hr h => ?_)
  · obtain ⟨b, gr, m, rfl, _⟩ := h
    rfl
  · obtain ⟨b, gr, m, rfl, bx, m0, m1, k⟩ := h
    have hr1 := hr.mono (show 1 ≤ 2 by decide)
    refine ⟨_, (pss_cons (ps_set (i := 2) scDeeds.nd rfl (.inr rfl) (pe_lst (pa_cons pe_str (pa_cons pe_str (pa_cons pe_str (pa_cons pe_str (pa_cons pe_str (pa_cons pe_str (pa_cons pe_str (pa_cons pe_str pa_nil))))))))))
      (pss_one (ps_ret (pe_callTy call_tupleX (by rfl) D.tuple (by decide +kernel) (pa_cons (pe_lc (own := [("_law_turn", 3)]) (g := gName 3) (tt := tYes) (by rfl) scDeeds.nd (pi_range1 (by rfl) D.range (pa_cons (pe_op op_add pe_int (pe_call D.okT hr1 (by rfl) D.gT D.kT D.bT .nil pass0 (pa_cons (pv 0) (pa_cons (pv 1) pa_nil)))) pa_nil)) (blkOk_by (N := deedsN) (sc := defScope sDeeds) (by decide +kernel)) (fun _ _ _ _ _ => pg_name (i := 3) scDeeds.nd rfl (Or.inl rfl)) (fun _ _ _ _ _ => pts_nil)
        (fun _ _ _ _ _ => pe_call D.okK hr (by rfl) D.gK D.kK D.bK .nil pass0 (pa_cons (pv 0) (pa_cons (pv 2) pa_nil)))) pa_nil))))), ?_⟩
    refine ⟨(by show 8 ≤ sizeLine; decide), fun e1 n1 => ?_⟩
    have s1 := Same.new n1 (o := .lst (deedL.map V.str))
    have e1b := bx.fresh n1
    have h1 : upd H e1 (.lst (deedL.map V.str)) e1 = some (.lst (deedL.map V.str)) := upd_same
    refine ⟨_, rfl, _, rfl, b, gr, m, rfl, bx.same s1, m0, by omega, fun r G r0 r1 bG kG => ?_⟩
    have kHG := (K2.of_same s1).trans kG
    refine ⟨_, _, rfl, rfl, 1 + r, rfl, by omega, by omega, fun D1 nD => lc_range (lo := 0) (n := (1 + r).toNat) (fun i G' => ∃ ws : List Str, K2 b gr H G' ∧ BoxD G' b gr ∧ G' e1 = some (.lst (deedL.map V.str)) ∧ G' D1 = some (.lst (ws.map V.str)) ∧ ws.length = i ∧ ∀ z ∈ ws, GoodD z = true)
      ⟨[], kHG.trans (K2.of_same (Same.new nD)), bG.same (Same.new nD), Same.new nD _ _ (kG _ _ e1b.1 e1b.2 h1), upd_same, rfl, fun z hz => (List.not_mem_nil hz).elim⟩ ?_ ?_⟩
    · rintro i G2 hi ⟨ws, k2, b2, he, hD, hl, hg⟩
      have Db := bG.fresh nD
      have De : e1 ≠ D1 := ne_of_none (kG _ _ e1b.1 e1b.2 h1) nD
      refine ⟨rfl, _, rfl, _, rfl, b, gr, e1, deedL.map V.str, rfl, b2, e1b.1, e1b.2, .inl he, (by show 0 < 8; decide), (by show 8 ≤ 1000; decide), fun v G3 hv b3 k3 => ?_⟩
      obtain ⟨z, hz, rfl⟩ := mem_strs hv
      refine ⟨_, k3 _ _ Db.1 Db.2 hD, by rw [List.length_map, hl]; exact small1000 (by omega), ws ++ [z], ?_, b3.put Db.1 Db.2, by rw [upd_ne De]; exact k3 _ _ e1b.1 e1b.2 he, by rw [upd_same, List.map_append]; rfl, by rw [List.length_append, hl]; rfl, fun x hx => ?_⟩
      · have nDH : H D1 = none := by
          cases q : H D1 with
          | none => rfl
          | some o =>
            have := kHG _ _ Db.1 Db.2 q
            rw [this] at nD
            cases nD
        exact (k2.trans k3).put nDH
      · rcases List.mem_append.mp hx with hx | hx
        · exact hg x hx
        · rw [List.mem_singleton] at hx
          rw [hx]
          exact goodD_drawn z hz
    · rintro G2 ⟨ws, k2, b2, he, hD, hl, hg⟩
      refine ⟨D1, _, rfl, .inl hD, fun t H' st ht => ?_⟩
      have bt := b2.same st
      exact k t ws H' (k2.trans (K2.of_same st)) bt (bt.tup_ne ht).1 (bt.tup_ne ht).2 ht (by omega) (by omega) hg
end
end Lay
set_option Elab.async false
set_option linter.all false
set_option maxRecDepth 100000
set_option maxHeartbeats 4000000
namespace Lay
open PySem L2
/-- a pair of tests and deeds -/
def PairAt (G : Hp) (v : V) : Prop := ∃ (p t d : Addr) (ws us : List Str), v = .ref p ∧ G p = some (.tup [.ref t, .ref d]) ∧ G t = some (.tup (ws.map V.str)) ∧ G d = some (.tup (us.map V.str)) ∧ (∀ z ∈ ws, GoodT z = true) ∧ (∀ z ∈ us, GoodD z = true) ∧ ws.length ≤ 10 ∧ us.length ≤ 10 ∧ 0 < us.length
theorem PairAt.same {G G' : Hp} {v : V} (s : Same G G') (h : PairAt G v) : PairAt G' v := by
  obtain ⟨p, t, d, ws, us, e, h1, h2, h3, h4⟩ := h
  exact ⟨p, t, d, ws, us, e, s _ _ h1, s _ _ h2, s _ _ h3, h4⟩
theorem PairAt.k2 {b gr : Addr} {G G' : Hp} {v : V} (x : BoxD G b gr) (k : K2 b gr G G') (h : PairAt G v) : PairAt G' v := by
  obtain ⟨p, t, d, ws, us, e, h1, h2, h3, h4⟩ := h
  exact ⟨p, t, d, ws, us, e, k _ _ (x.tup_ne h1).1 (x.tup_ne h1).2 h1, k _ _ (x.tup_ne h2).1 (x.tup_ne h2).2 h2, k _ _ (x.tup_ne h3).1 (x.tup_ne h3).2 h3, h4⟩
theorem PairAt.lset {D : Addr} {G : Hp} {v : V} {xs ys : List V} (hD : G D = some (.lst xs)) (h : PairAt G v) : PairAt (upd G D (.lst ys)) v := by
  obtain ⟨p, t, d, ws, us, e, h1, h2, h3, h4⟩ := h
  exact ⟨p, t, d, ws, us, e, by rw [upd_ne (ne_of h1 hD (fun z => nomatch z))]; exact h1, by rw [upd_ne (ne_of h2 hD (fun z => nomatch z))]; exact h2, by rw [upd_ne (ne_of h3 hD (fun z => nomatch z))]; exact h3, h4⟩
def tStrs : List Str → TA
  | [] => tNil
  | w :: ws => tCons (tC (.str w)) (tStrs ws)
theorem tStrs_of : ∀ (ws : List Str) (σ : St) (H : Hp) (Q : List V → Hp → Prop), Q (ws.map V.str) H → tStrs ws σ H Q
  | [], _, _, _, h => h
  | w :: ws, σ, H, Q, h => tStrs_of ws σ H (fun vs H' => Q (.str w :: vs) H') h
def tPair : TE := fun σ H Q => ∀ p H', Same H H' → PairAt H' (.ref p) → Q (.ref p) H'
section
variable {X : Cx}
theorem pe_mono {e : Expr} {t t' : TE} (h : PE X e t) (m : ∀ σ H Q, t' σ H Q → t σ H Q) : PE X e t' := ⟨fun pins s σ H Q I q => h.run pins s σ H Q I (m σ H Q q)⟩
theorem pe_pair {es1 es2 : List Expr} {x1 x2 x3} {p1 p2 p3 : Pos} {ws us : List Str} (ha : PA X es1 (tStrs ws)) (hb : PA X es2 (tStrs us)) (gw : ∀ z ∈ ws, GoodT z = true) (gu : ∀ z ∈ us, GoodD z = true) (lw : ws.length ≤ 10) (lu : us.length ≤ 10) (nu : 0 < us.length) :
    PE X (.Tuple [.Tuple es1 x1 p1, .Tuple es2 x2 p2] x3 p3) tPair := by
  refine pe_mono (pe_tup (pa_cons (pe_tup ha) (pa_cons (pe_tup hb) pa_nil))) fun σ H Q q => ?_
  refine tStrs_of ws σ H _ ⟨by rw [List.length_map]; exact fits (by omega), fun t nt => tStrs_of us σ _ _ ⟨by rw [List.length_map]; exact fits (by omega), fun d nd => ⟨by show 2 ≤ sizeLine; decide, fun p np => ?_⟩⟩⟩
  have s1 := Same.new nt (o := .tup (ws.map V.str))
  have s2 := Same.new nd (o := .tup (us.map V.str))
  have s3 := Same.new np (o := .tup [.ref t, .ref d])
  exact q p _ ((s1.trans s2).trans s3) ⟨p, t, d, ws, us, rfl, upd_same, s3 _ _ (s2 _ _ upd_same), s3 _ _ upd_same, gw, gu, lw, lu, nu⟩
end
def spMixed (K : PySem.W.Frag) : Sp := fun vs H Q _ => ∃ (b gr a : Addr) (xs : List V), vs = [.ref b, .ref a] ∧ BoxD H b gr ∧ H a = some (.lst xs) ∧ xs.length ≤ 1000 ∧
  ∀ (p : Addr) (ys : List V) (H' : Hp), K2 b gr H H' → BoxD H' b gr → p ≠ b → p ≠ gr → H' p = some (.lst ys) → ys.length ≤ 1000 → (∀ y ∈ ys, y ∈ xs) → Q (.ref p) H'
def spUsual : Sp := fun vs H Q _ => ∃ (b gr : Addr), vs = [.ref b] ∧ BoxD H b gr ∧
  ∀ (q : Addr) (ys : List V) (H' : Hp), K2 b gr H H' → BoxD H' b gr → q ≠ b → q ≠ gr → H' q = some (.lst ys) → ys.length ≤ 1000 → (∀ y ∈ ys, PairAt H' y) → Q (.ref q) H'
def spTool : Sp := fun vs H Q _ => ∃ (b gr : Addr) (m : Int), vs = [.ref b, .int m] ∧ BoxD H b gr ∧ 0 ≤ m ∧ m ≤ 100 ∧
  ∀ (q r : Addr) (s : Bool) (ys : List V) (H' : Hp), K2 b gr H H' → BoxD H' b gr → H' q = some (.tup [.ref r, .bl s]) → H' r = some (.tup ys) → (ys.length : Int) ≤ m → (∀ y ∈ ys, PairAt H' y) → Q (.ref q) H'
abbrev sMixed : Stmt := top 27
abbrev sUsual : Stmt := top 30
abbrev sTool : Stmt := top 31
section
variable {P : Program} {w : World} {K : PySem.W.Frag} {mg : Str → Option Value} {base : Heap} {fT fK : Addr} {dT dK : FuncData}
theorem scMixed : FnScope ["_law_box", "_law_some", "_law_left", "_law_found"] ["_law_box", "_law_some"] (defScope sMixed) := ⟨rfl, rfl, rfl, by decide +kernel, rfl, by decide +kernel, by decide +kernel⟩
theorem ok_mixed {f : Addr} {fd : FuncData} (F : Fun K "_law_mixed" "_law_mixed" sMixed f fd) (D : Draws P w K mg base fT fK dT dK) (hlist : mg "list" = none) (hlen : mg "len" = none) : FnOk P w K mg base CX0 2 f fd ["_law_box", "_law_some"] (spMixed K) := by
  refine F.ok scMixed (fun vs H Q E h => ?_) (fun cdv A outer s H vs Q E hr h => ?_)
  · obtain ⟨b, gr, a, xs, rfl, _⟩ := h
    rfl
  · obtain ⟨b, gr, a, xs, rfl, bx, ha, hl, k⟩ := h
    refine ⟨_, (pss_cons (ps_par (i := 2) (j := 3) (by rfl) scMixed.nd rfl rfl (by decide) rfl rfl (pa_cons (pe_callTy call_listX (by rfl) hlist (by decide +kernel) (pa_cons (pv 1) pa_nil)) (pa_cons (pe_lst pa_nil) pa_nil)) (by rfl))
      (pss_cons (ps_while PassesOwn.never (pt_cmpR (op_neNil hr.units) (pv 2) (pe_lst pa_nil) (nomark _))
        (pss_one (ps_expr (pe_bm PySem.F.plainAttrs_list PySem.F.slot_list_append PySem.F.type_list_append mt_append (pv 3) (pa_cons (pe_bm PySem.F.plainAttrs_list PySem.F.slot_list_pop PySem.F.type_list_pop mt_popAt (pv 2) (pa_cons (pe_call D.okT hr (by rfl) D.gT D.kT D.bT .nil pass0 (pa_cons (pv 0) (pa_cons (pe_callB call_len_seq (by rfl) hlen PySem.boot_len (pa_cons (pv 2) pa_nil)) pa_nil))) pa_nil)) pa_nil)))))
      (pss_one (ps_ret (pv 3))))), ?_⟩
    refine ⟨_, rfl, a, xs, rfl, .inl ha, fun l H1 s1 nl hl1 => ⟨(by show 0 ≤ sizeLine; exact Nat.zero_le _), fun f1 nf => ⟨_, _, rfl, ?_⟩⟩⟩
    have lb := bx.fresh nl
    have bx1 := bx.same s1
    have fb := bx1.fresh nf
    have nlf : l ≠ f1 := ne_of_none hl1 nf
    have sf := Same.new nf (o := .lst [])
    refine ⟨fun n σ G => ∃ ls fs : List V, n = ls.length ∧ σ = [some (.ref b), some (.ref a), some (.ref l), some (.ref f1)] ∧ K2 b gr H G ∧ BoxD G b gr ∧ G l = some (.lst ls) ∧ G f1 = some (.lst fs) ∧ ls.length + fs.length = xs.length ∧ (∀ y ∈ ls, y ∈ xs) ∧ ∀ y ∈ fs, y ∈ xs,
      ⟨_, xs, [], rfl, rfl, K2.of_same (s1.trans sf), bx1.same sf, sf _ _ hl1, upd_same, by simp, fun y hy => hy, fun y hy => (List.not_mem_nil hy).elim⟩, ?_⟩
    rintro n σ G ⟨ls, fs, rfl, rfl, kG, bG, hls, hfs, hlen2, m1, m2⟩
    refine ⟨_, rfl, (by show 0 ≤ sizeLine; exact Nat.zero_le _), fun q nq => ⟨l, q, ls, rfl, rfl, SqL.of (Same.new nq _ _ hls), upd_same, _, rfl, ?_⟩⟩
    have sq := Same.new nq (o := .lst [])
    have nHl : ∀ {p : Addr}, p = l ∨ p = f1 → H p = none := fun h => by
      rcases h with rfl | rfl
      · exact nl
      · exact s1.free nf
    cases ls with
    | nil =>
      refine iteN rfl ⟨_, rfl, k f1 fs _ (kG.trans (K2.of_same sq)) (bG.same sq) fb.1 fb.2 (sq _ _ hfs) (by simp at hlen2; omega) m2⟩
    | cons y0 ls0 =>
      refine iteY rfl ⟨fun σ' G' => ∃ ls' fs' : List V, ls'.length < (y0 :: ls0).length ∧ σ' = [some (.ref b), some (.ref a), some (.ref l), some (.ref f1)] ∧ K2 b gr H G' ∧ BoxD G' b gr ∧ G' l = some (.lst ls') ∧ G' f1 = some (.lst fs') ∧ ls'.length + fs'.length = xs.length ∧ (∀ y ∈ ls', y ∈ xs) ∧ ∀ y ∈ fs', y ∈ xs,
        fun σ' G' ⟨ls', fs', lt, e1, r⟩ => ⟨_, lt, ls', fs', rfl, e1, r⟩, ?_⟩
      have hl2 := sq _ _ hls
      have hf2 := sq _ _ hfs
      refine ⟨_, rfl, .inl ⟨rfl, _, SqL.of hf2⟩, _, rfl, .inl ⟨rfl, _, SqL.of hl2⟩, _, rfl, _, rfl, l, _, rfl, .inl (SqL.of hl2), b, gr, _, rfl, bG.same sq, by simp, ?_, fun r G3 r0 r1 b3 k3 => ?_⟩
      · have : (y0 :: ls0).length ≤ 1000 := by omega
        omega
      have hl3 := k3 _ _ lb.1 lb.2 hl2
      have hf3 := k3 _ _ fb.1 fb.2 hf2
      have hr' : r.toNat < (y0 :: ls0).length := by omega
      have er : r = ((r.toNat : Nat) : Int) := by omega
      obtain ⟨j, e1, e2, e3, e4, e5⟩ := atI_get (at_of er (by simp [hr'] : (y0 :: ls0)[r.toNat]? = some (y0 :: ls0)[r.toNat]))
      have l1000 : (y0 :: ls0).length ≤ 1000 := by omega
      refine ⟨l, _, r, j, _, rfl, rfl, hl3, by omega, by omega, e1, e2, f1, fs, _, rfl, rfl, ?_, small1000 (by omega), ?_⟩
      · rw [upd_ne (Ne.symm nlf)]
        exact hf3
      · have le : ((y0 :: ls0).eraseIdx j).length + 1 = (y0 :: ls0).length := by
          rw [List.length_eraseIdx_of_lt e3]
          have : 0 < (y0 :: ls0).length := by simp
          omega
        refine ⟨(y0 :: ls0).eraseIdx j, fs ++ [_], by omega, rfl, ((((kG.trans (K2.of_same sq)).trans k3).put (nHl (.inl rfl))).put (nHl (.inr rfl))), (b3.put lb.1 lb.2).put fb.1 fb.2, ?_, upd_same, ?_, fun y hy => m1 y (List.mem_of_mem_eraseIdx hy), fun y hy => ?_⟩
        · rw [upd_ne nlf]
          exact upd_same
        · rw [List.length_append]
          show _ + (_ + 1) = _
          omega
        · rcases List.mem_append.mp hy with hy | hy
          · exact m2 y hy
          · rw [List.mem_singleton] at hy
            rw [hy]
            exact m1 _ (List.getElem_mem hr')
end
end Lay
set_option Elab.async false
set_option linter.all false
set_option maxRecDepth 100000
set_option maxHeartbeats 4000000
namespace Lay
open PySem L2
theorem mem_cut {xs : List V} {lo hi : Option Int} {x : V} (h : x ∈ cutV xs lo hi) : x ∈ xs := List.mem_of_mem_drop (List.mem_of_mem_take h)
theorem cut_few {xs : List V} {m : Int} (h : 0 ≤ m) : ((cutV xs none (some m)).length : Int) ≤ m := by
  obtain ⟨n, rfl⟩ := Int.eq_ofNat_of_zero_le h
  unfold cutV
  rw [HT.sIx_none, HT.sIx_nat, List.length_take]
  omega
section
variable {P : Program} {w : World} {K : PySem.W.Frag} {mg : Str → Option Value} {base : Heap} {fT fK : Addr} {dT dK : FuncData}
theorem scUsual : FnScope ["_law_box", "_law_some"] ["_law_box"] (defScope sUsual) := ⟨rfl, rfl, rfl, by decide +kernel, rfl, by decide +kernel, by decide +kernel⟩
theorem ok_usual {f fM : Addr} {fd fdM : FuncData} (F : Fun K "_law_usual" "_law_usual" sUsual f fd) (D : Draws P w K mg base fT fK dT dK) (GM : FnOk P w K mg base CX0 2 fM fdM ["_law_box", "_law_some"] (spMixed K)) (gM : mg "_law_mixed" = some (.ref fM)) (kM : PySem.W.keepIn K (.ref fM) = true) (bM : Binds K fdM ["_law_box", "_law_some"] []) :
    FnOk P w K mg base CX0 3 f fd ["_law_box"] spUsual := by
  refine F.ok scUsual (fun vs H Q E h => ?_) (fun cdv A outer s H vs Q E hr h => ?_)
  · obtain ⟨b, gr, rfl, _⟩ := h
    rfl
  · obtain ⟨b, gr, rfl, bx, k⟩ := h
    have hr1 := hr.mono (show 1 ≤ 2 by decide)
    refine ⟨_, (pss_cons (ps_set (i := 1) scUsual.nd rfl (.inl rfl) (pe_lst (pa_cons (pe_pair (ws := ["long"]) (us := ["break", "mark"]) (pa_cons pe_str pa_nil) (pa_cons pe_str (pa_cons pe_str pa_nil)) (by decide +kernel) (by decide +kernel) (by decide) (by decide) (by decide)) (pa_cons (pe_pair (ws := ["marked"]) (us := ["break"]) (pa_cons pe_str pa_nil) (pa_cons pe_str pa_nil) (by decide +kernel) (by decide +kernel) (by decide) (by decide) (by decide)) (pa_cons (pe_pair (ws := ["not long", "not marked"]) (us := ["join"]) (pa_cons pe_str (pa_cons pe_str pa_nil)) (pa_cons pe_str pa_nil) (by decide +kernel) (by decide +kernel) (by decide) (by decide) (by decide)) pa_nil)))))
      (pss_cons (ps_set (i := 1) scUsual.nd rfl (.inl rfl) (pe_op op_cat (pv 1) (pe_lst (pa_cons (pe_pair (ws := ["behind", "long"]) (us := ["lift"]) (pa_cons pe_str (pa_cons pe_str pa_nil)) (pa_cons pe_str pa_nil) (by decide +kernel) (by decide +kernel) (by decide) (by decide) (by decide)) (pa_cons (pe_pair (ws := ["ahead", "not long"]) (us := ["lower"]) (pa_cons pe_str (pa_cons pe_str pa_nil)) (pa_cons pe_str pa_nil) (by decide +kernel) (by decide +kernel) (by decide) (by decide) (by decide)) (pa_cons (pe_pair (ws := ["first"]) (us := ["close"]) (pa_cons pe_str pa_nil) (pa_cons pe_str pa_nil) (by decide +kernel) (by decide +kernel) (by decide) (by decide) (by decide)) pa_nil))))))
      (pss_cons (ps_set (i := 1) scUsual.nd rfl (.inl rfl) (pe_op op_cat (pv 1) (pe_lst (pa_cons (pe_pair (ws := ["afterbroken"]) (us := ["space"]) (pa_cons pe_str pa_nil) (pa_cons pe_str pa_nil) (by decide +kernel) (by decide +kernel) (by decide) (by decide) (by decide)) (pa_cons (pe_pair (ws := ["broken"]) (us := ["mark"]) (pa_cons pe_str pa_nil) (pa_cons pe_str pa_nil) (by decide +kernel) (by decide +kernel) (by decide) (by decide) (by decide)) (pa_cons (pe_pair (ws := ["not left"]) (us := ["unmark"]) (pa_cons pe_str pa_nil) (pa_cons pe_str pa_nil) (by decide +kernel) (by decide +kernel) (by decide) (by decide) (by decide)) pa_nil))))))
      (pss_one (ps_ret (pe_slice sl_list (pe_call GM hr (by rfl) gM kM bM .nil pass0 (pa_cons (pv 0) (pa_cons (pv 1) pa_nil))) po_none (po_some (pe_op op_add pe_int (pe_call D.okT hr1 (by rfl) D.gT D.kT D.bT .nil pass0 (pa_cons (pv 0) (pa_cons pe_int pa_nil))))))))))), ?_⟩
    refine fun p1 H1 s1 a1 => fun p2 H2 s2 a2 => fun p3 H3 s3 a3 => ⟨(by show 3 ≤ sizeLine; decide), fun l3 nl3 => ?_⟩
    refine ⟨_, rfl, ?_⟩
    refine fun p4 H4 s4 a4 => fun p5 H5 s5 a5 => fun p6 H6 s6 a6 => ⟨(by show 3 ≤ sizeLine; decide), fun l6 nl6 => ?_⟩
    have c3 := Same.new nl3 (o := .lst [.ref p1, .ref p2, .ref p3])
    have c6 := Same.new nl6 (o := .lst [.ref p4, .ref p5, .ref p6])
    refine ⟨l3, l6, _, _, rfl, rfl, c6 _ _ (s6 _ _ (s5 _ _ (s4 _ _ upd_same))), upd_same, (by show 6 ≤ sizeLine; decide), fun m6 nm6 => ?_⟩
    have c66 := Same.new nm6 (o := .lst ([.ref p1, .ref p2, .ref p3] ++ [.ref p4, .ref p5, .ref p6]))
    refine ⟨_, rfl, ?_⟩
    refine fun p7 H7 s7 a7 => fun p8 H8 s8 a8 => fun p9 H9 s9 a9 => ⟨(by show 3 ≤ sizeLine; decide), fun l9 nl9 => ?_⟩
    have c9 := Same.new nl9 (o := .lst [.ref p7, .ref p8, .ref p9])
    refine ⟨m6, l9, _, _, rfl, rfl, c9 _ _ (s9 _ _ (s8 _ _ (s7 _ _ upd_same))), upd_same, (by show 9 ≤ sizeLine; decide), fun m9 nm9 => ?_⟩
    have c99 := Same.new nm9 (o := .lst (([.ref p1, .ref p2, .ref p3] ++ [.ref p4, .ref p5, .ref p6]) ++ [.ref p7, .ref p8, .ref p9]))
    have t9 := c9.trans c99
    have t8 := s9.trans t9
    have t7 := s8.trans t8
    have t6 := (c6.trans c66).trans (s7.trans t7)
    have t5 := s6.trans t6
    have t4 := s5.trans t5
    have t3 := c3.trans (s4.trans t4)
    have t2 := s3.trans t3
    have t1 := s2.trans t2
    have t0 := s1.trans t1
    have b9 := bx.same t0
    have n9 := (bx.same (s1.trans (s2.trans (s3.trans (c3.trans (s4.trans (s5.trans (s6.trans ((c6.trans c66).trans (s7.trans (s8.trans (s9.trans c9)))))))))))).fresh nm9
    refine ⟨_, rfl, _, rfl, b, gr, m9, _, rfl, b9, upd_same, (by show 9 ≤ 1000; decide), fun p ys G kG bG pb pg hp hl hy => ?_⟩
    have good : ∀ y ∈ ys, PairAt G y := fun y h => by
      have q := hy y h
      simp only [List.cons_append, List.nil_append, List.mem_cons, List.not_mem_nil, or_false] at q
      refine PairAt.k2 b9 kG ?_
      rcases q with rfl | rfl | rfl | rfl | rfl | rfl | rfl | rfl | rfl
      · exact a1.same t1
      · exact a2.same t2
      · exact a3.same t3
      · exact a4.same t4
      · exact a5.same t5
      · exact a6.same t6
      · exact a7.same t7
      · exact a8.same t8
      · exact a9.same t9
    refine ⟨_, rfl, b, gr, 4, rfl, bG, by decide, by decide, fun r G2 r0 r4 b2 k2 => ⟨_, _, rfl, rfl, _, rfl, p, ys, rfl, SqL.of (k2 _ _ pb pg hp), fun q nq => ?_⟩⟩
    have sq := Same.new nq (o := .lst (cutV ys none (some (1 + r))))
    have qb := b2.fresh nq
    have kk := k2.trans (K2.of_same sq)
    exact k q _ _ ((K2.of_same t0).trans (kG.trans kk)) (b2.same sq) qb.1 qb.2 upd_same (Nat.le_trans (cutV_length _ _ _) hl) fun y h => PairAt.k2 bG kk (good y (mem_cut h))
def toolN : List Str := ["_law_box", "_law_most", "_law_rows", "_law_turn", "_law_at"]
theorem scTool : FnScope toolN ["_law_box", "_law_most"] (defScope sTool) := ⟨rfl, rfl, rfl, by decide +kernel, rfl, by decide +kernel, by decide +kernel⟩
theorem ok_tool {f fU f3 f4 : Addr} {fd fdU fd3 fd4 : FuncData} (F : Fun K "_law_tool" "_law_tool" sTool f fd) (D : Draws P w K mg base fT fK dT dK) (hlen : mg "len" = none) (GU : FnOk P w K mg base CX0 3 fU fdU ["_law_box"] spUsual) (gU : mg "_law_usual" = some (.ref fU)) (kU : PySem.W.keepIn K (.ref fU) = true) (bU : Binds K fdU ["_law_box"] [])
    (GT3 : FnOk P w K mg base CX0 3 f3 fd3 ["_law_box", "_law_most"] (spDrawn GoodT 0)) (gT3 : mg "_law_tests" = some (.ref f3)) (kT3 : PySem.W.keepIn K (.ref f3) = true) (bT3 : Binds K fd3 ["_law_box", "_law_most"] [])
    (GD3 : FnOk P w K mg base CX0 3 f4 fd4 ["_law_box", "_law_most"] (spDrawn GoodD 1)) (gD3 : mg "_law_deeds" = some (.ref f4)) (kD3 : PySem.W.keepIn K (.ref f4) = true) (bD3 : Binds K fd4 ["_law_box", "_law_most"] []) : FnOk P w K mg base CX0 4 f fd ["_law_box", "_law_most"] spTool := by
  refine F.ok scTool (fun vs H Q E h => ?_) (fun cdv A outer s H vs Q E hr h => ?_)
  · obtain ⟨b, gr, m, rfl, _⟩ := h
    rfl
  · obtain ⟨b, gr, m, rfl, bx, m0, m1, k⟩ := h
    have hr1 := hr.mono (show 1 ≤ 3 by decide)
    have hr3 := hr
    refine ⟨_, (C8.pss_cut (ps_set (i := 2) scTool.nd rfl (.inl rfl) (pe_ifExp (pt_cmpR op_eq (pe_call D.okT hr1 (by rfl) D.gT D.kT D.bT .nil pass0 (pa_cons (pv 0) (pa_cons pe_int pa_nil))) pe_int (nomark _)) (pe_slice sl_list (pe_call GU hr3 (by rfl) gU kU bU .nil pass0 (pa_cons (pv 0) pa_nil)) po_none (po_some (pv 1))) (pe_lst pa_nil)))
      (pss_cons (ps_for PassesOwn.never rfl (pi_range1 (by rfl) D.range (pa_cons (pe_call D.okT hr1 (by rfl) D.gT D.kT D.bT .nil pass0 (pa_cons (pv 0) (pa_cons (pe_op op_sub (pe_op op_add (pv 1) pe_int) (pe_callB call_len_seq (by rfl) hlen PySem.boot_len (pa_cons (pv 2) pa_nil))) pa_nil))) pa_nil)) (pg_name (i := 3) scTool.nd rfl (.inl rfl))
        (pss_cons (ps_set (i := 4) scTool.nd rfl (.inl rfl) (pe_call D.okT hr1 (by rfl) D.gT D.kT D.bT .nil pass0 (pa_cons (pv 0) (pa_cons (pe_op op_add (pe_callB call_len_seq (by rfl) hlen PySem.boot_len (pa_cons (pv 2) pa_nil)) pe_int) pa_nil))))
        (pss_one (ps_set (i := 2) scTool.nd rfl (.inl rfl) (pe_op op_cat (pe_op op_cat (pe_slice sl_list (pv 2) po_none (po_some (pv 4))) (pe_lst (pa_cons (pe_tup (pa_cons (pe_call GT3 hr3 (by rfl) gT3 kT3 bT3 .nil pass0 (pa_cons (pv 0) (pa_cons pe_int pa_nil))) (pa_cons (pe_call GD3 hr3 (by rfl) gD3 kD3 bD3 .nil pass0 (pa_cons (pv 0) (pa_cons pe_int pa_nil))) pa_nil))) pa_nil))) (pe_slice sl_list (pv 2) (po_some (pv 4)) po_none))))))
      (pss_one (ps_ret (pe_tup (pa_cons (pe_callTy call_tupleX (by rfl) D.tuple (by decide +kernel) (pa_cons (pv 2) pa_nil)) (pa_cons (pe_cmpR op_eq (pe_call D.okT hr1 (by rfl) D.gT D.kT D.bT .nil pass0 (pa_cons (pv 0) (pa_cons pe_int pa_nil))) pe_int (nomark _)) pa_nil))))))), ?_⟩
    refine ⟨fun σ G => ∃ (l : Addr) (ys : List V), σ = [some (.ref b), some (.int m), some (.ref l), none, none] ∧ K2 b gr H G ∧ BoxD G b gr ∧ l ≠ b ∧ l ≠ gr ∧ G l = some (.lst ys) ∧ (ys.length : Int) ≤ m ∧ ∀ y ∈ ys, PairAt G y, ?_, ?_⟩
    · refine ⟨_, rfl, b, gr, 2, rfl, bx, by decide, by decide, fun r G r0 r2 bG kG => ⟨rfl, _, rfl, ?_⟩⟩
      refine ite2 (fun _ => ?_) (fun _ => ?_)
      · refine ⟨_, rfl, b, gr, rfl, bG, fun q ys G2 k2 b2 qb qg hq hl hy => ⟨_, rfl, m, rfl, q, ys, rfl, SqL.of hq, fun p np => ?_⟩⟩
        have sp := Same.new np (o := .lst (cutV ys none (some m)))
        have pb := b2.fresh np
        exact ⟨p, _, rfl, (kG.trans k2).trans (K2.of_same sp), b2.same sp, pb.1, pb.2, upd_same, cut_few m0, fun y h => (hy y (mem_cut h)).same sp⟩
      · refine ⟨(by show 0 ≤ sizeLine; exact Nat.zero_le _), fun p np => ?_⟩
        have sp := Same.new np (o := .lst [])
        have pb := bG.fresh np
        exact ⟨p, [], rfl, kG.trans (K2.of_same sp), bG.same sp, pb.1, pb.2, upd_same, m0, fun y h => (List.not_mem_nil h).elim⟩
    · rintro σ G ⟨l, ys0, rfl, kG, bG, lb, lg, hl, ll0, hy⟩
      refine ⟨_, rfl, _, rfl, _, _, rfl, rfl, _, rfl, l, ys0, rfl, .inl (SqL.of hl), _, _, rfl, rfl, b, gr, _, rfl, bG, by omega, by omega, fun r G1 r0 r1 b1 k1 => ?_⟩
      refine ⟨r, rfl, by omega, by omega, for_range (lo := 0) (n := r.toNat) (fun i σ G' => ∃ (l : Addr) (ys : List V) (x3 x4 : Option V), σ = [some (.ref b), some (.int m), some (.ref l), x3, x4] ∧ K2 b gr H G' ∧ BoxD G' b gr ∧ l ≠ b ∧ l ≠ gr ∧ G' l = some (.lst ys) ∧ ys.length ≤ ys0.length + i ∧ ∀ y ∈ ys, PairAt G' y)
        ⟨l, ys0, none, none, rfl, kG.trans k1, b1, lb, lg, k1 _ _ lb lg hl, by omega, fun y h => PairAt.k2 bG k1 (hy y h)⟩ ?_ ?_⟩
      · rintro i σ G2 hi ⟨l, ys, x3, x4, rfl, k2, b2, lb, lg, hl, ll, hy⟩
        have i200 : i ≤ 200 := by omega
        refine ⟨_, rfl, _, rfl, l, ys, rfl, .inl (SqL.of hl), _, _, rfl, rfl, b, gr, _, rfl, b2, by omega, by omega, fun at' G3 a0 a1 b3 k3 => ?_⟩
        have hl3 := k3 _ _ lb lg hl
        refine ⟨_, rfl, _, rfl, at', rfl, l, ys, rfl, SqL.of hl3, fun A nA => ?_⟩
        have zA := Same.new nA (o := .lst (cutV ys none (some at')))
        have Ab := b3.fresh nA
        have bA := b3.same zA
        refine ⟨_, rfl, b, gr, 3, rfl, bA, by decide, by decide, fun t ws G4 k4 b4 tb tg ht w0 w3 hg => ⟨_, rfl, b, gr, 2, rfl, b4, by decide, by decide, fun d us G5 k5 b5 db dg hd u0 u2 hu => ⟨(by show 2 ≤ sizeLine; decide), fun p np => ⟨(by show 1 ≤ sizeLine; decide), fun B nB => ?_⟩⟩⟩⟩
        have k45 := k4.trans k5
        have zp := Same.new np (o := .tup [.ref t, .ref d])
        have zB := Same.new nB (o := .lst [.ref p])
        have hA := zB _ _ (zp _ _ (k45 _ _ Ab.1 Ab.2 (upd_same (H := G3) (a := A) (o := .lst (cutV ys none (some at'))))))
        have c1 := cutV_length ys none (some at')
        have c2 := cutV_length ys (some at') none
        refine ⟨A, B, _, _, rfl, rfl, hA, upd_same, fits (by show _ + 1 ≤ 16000000; omega), fun C1 nC => ?_⟩
        have zC := Same.new nC (o := .lst (cutV ys none (some at') ++ [.ref p]))
        have kk : K2 b gr G3 _ := ((K2.of_same zA).trans k45).trans (K2.of_same ((zp.trans zB).trans zC))
        refine ⟨_, rfl, _, rfl, at', rfl, l, ys, rfl, SqL.of (kk _ _ lb lg hl3), fun E1 nE => ?_⟩
        have zE := Same.new nE (o := .lst (cutV ys (some at') none))
        refine ⟨C1, E1, _, _, rfl, rfl, zE _ _ upd_same, upd_same, fits (by rw [List.length_append]; show _ + 1 + _ ≤ 16000000; omega), fun W nW => ?_⟩
        have zW := Same.new nW (o := .lst ((cutV ys none (some at') ++ [.ref p]) ++ cutV ys (some at') none))
        have zz := zE.trans zW
        have bC := b5.same ((zp.trans zB).trans zC)
        have bE := bC.same zE
        have Wb := bE.fresh nW
        have pr : PairAt (upd G5 p (.tup [.ref t, .ref d])) (.ref p) := ⟨p, t, d, ws, us, rfl, upd_same, zp _ _ (k5 _ _ tb tg ht), zp _ _ hd, hg, hu, by omega, by omega, by omega⟩
        have all3 : ∀ y ∈ ys, PairAt G3 y := fun y h => PairAt.k2 b2 k3 (hy y h)
        refine ⟨W, _, _, _, rfl, ((k2.trans k3).trans kk).trans (K2.of_same zz), bE.same zW, Wb.1, Wb.2, upd_same, ?_, fun y h => ?_⟩
        · have e1 : (cutV ys none (some at')).length + (cutV ys (some at') none).length ≤ ys.length := by
            obtain ⟨n, rfl⟩ := Int.eq_ofNat_of_zero_le a0
            unfold cutV
            rw [HT.sIx_none, HT.sIx_nat, HT.sIx_none, HT.sIx_nat, List.length_take, List.length_drop, List.length_take, List.length_drop]
            omega
          rw [List.length_append, List.length_append]
          show _ + 1 + _ ≤ ys0.length + (i + 1)
          omega
        · rcases List.mem_append.mp h with h | h
          · rcases List.mem_append.mp h with h | h
            · exact (PairAt.k2 b3 kk (all3 y (mem_cut h))).same zz
            · rw [List.mem_singleton] at h
              rw [h]
              exact ((pr.same zB).same zC).same zz
          · exact (PairAt.k2 b3 kk (all3 y (mem_cut h))).same zz
      · rintro σ G2 ⟨l, ys, x3, x4, rfl, k2, b2, lb, lg, hl, ll, hy⟩
        refine ⟨_, rfl, l, ys, rfl, .inl hl, fun t H' st ht => ⟨_, rfl, b, gr, 4, rfl, b2.same st, by decide, by decide, fun r4 G5 r40 r44 b5 k5 => ⟨rfl, (by show 2 ≤ sizeLine; decide), fun q nq => ?_⟩⟩⟩
        have sq := Same.new nq (o := .tup [.ref t, .bl (decide (V.int r4 = V.int 0))])
        have bt := b2.same st
        refine k q t _ ys _ ((k2.trans (K2.of_same st)).trans (k5.trans (K2.of_same sq))) (b5.same sq) upd_same (sq _ _ (k5 _ _ (bt.tup_ne ht).1 (bt.tup_ne ht).2 ht)) (by omega) fun y h => (PairAt.k2 bt k5 ((hy y h).same st)).same sq
end
end Lay
set_option Elab.async false
set_option linter.all false
set_option maxRecDepth 100000
set_option maxHeartbeats 4000000
namespace Lay
open PySem L2
/-- isinstance(x, Row) -/
def IsP (K : PySem.W.Frag) (C : Addr) (H : Hp) (x : V) (b : Bool) : Prop := ∃ t, TyX K H x t ∧ PySem.W.kitOne K t (.ref C) = some b
theorem IsP.same {K : PySem.W.Frag} {C : Addr} {H H' : Hp} {x : V} {b : Bool} (s : Same H H') (h : IsP K C H x b) : IsP K C H' x b := by
  obtain ⟨t, h1, h2⟩ := h
  exact ⟨t, TyX.same s h1, h2⟩
theorem SqT.same {K : PySem.W.Frag} {H H' : Hp} {a : Addr} {xs : List V} (e : Same H H') (h : SqT K H a xs) : SqT K H' a xs := by
  rcases h with (h | ⟨o, h⟩) | h
  · exact .inl (.inl (e _ _ h))
  · exact .inl (.inr ⟨o, e _ _ h⟩)
  · exact .inr h
theorem SqL.same {K : PySem.W.Frag} {H H' : Hp} {a : Addr} {xs : List V} (e : Same H H') (h : SqL K H a xs) : SqL K H' a xs := by
  rcases h with (h | ⟨o, h⟩) | h
  · exact .inl (.inl (e _ _ h))
  · exact .inl (.inr ⟨o, e _ _ h⟩)
  · exact .inr h
/-- a tuple that is tracked, or a written one -/
def TupG (K : PySem.W.Frag) (H : Hp) (a : Addr) (xs : List V) : Prop := H a = some (.tup xs) ∨ ∃ (o : Obj) (its : Array Value) (n : Nat), K.lookup a = some o ∧ o.cls = .type "tuple" ∧ o.data = .seq its n ∧ its.size ≤ sizeLine ∧ Vals xs its.toList
theorem TupG.sqT {K : PySem.W.Frag} {H : Hp} {a : Addr} {xs : List V} (h : TupG K H a xs) : SqT K H a xs := by
  rcases h with h | h
  · exact SqT.of h
  · exact .inr h
theorem TupG.same {K : PySem.W.Frag} {H H' : Hp} {a : Addr} {xs : List V} (s : Same H H') (h : TupG K H a xs) : TupG K H' a xs := h.imp (s _ _) id
theorem TupG.put_ins {K : PySem.W.Frag} {H : Hp} {a p C dx : Addr} {fs : List (Str × V)} {o : HO} {xs : List V} (h : TupG K H a xs) (hp : H p = some (.ins C dx fs)) : TupG K (upd H p o) a xs := by
  rcases h with h | h
  · exact .inl (by rw [upd_ne (ne_of h hp (fun z => nomatch z))]; exact h)
  · exact .inr h
theorem TupG.seq {K : PySem.W.Frag} {H : Hp} {a : Addr} {xs : List V} (h : TupG K H a xs) : IsSeq K H (.ref a) true := by
  rcases h with h | ⟨o, its, n, h1, h2, _⟩
  · exact SqX.seq (.inr h)
  · exact ⟨_, .kTuple h1 h2, kitAny_lt (b := false) (c := true) (kit_ty (by decide +kernel)) (kit_ty (by decide +kernel))⟩
/-- a list, or any tuple (the written ones, too) -/
def SqG (K : PySem.W.Frag) (H : Hp) (a : Addr) (xs : List V) : Prop := H a = some (.lst xs) ∨ TupG K H a xs
theorem SqG.same {K : PySem.W.Frag} {H H' : Hp} {a : Addr} {xs : List V} (s : Same H H') (h : SqG K H a xs) : SqG K H' a xs := h.imp (s _ _) fun q => q.same s
theorem SqG.seq {K : PySem.W.Frag} {H : Hp} {a : Addr} {xs : List V} (h : SqG K H a xs) : IsSeq K H (.ref a) true := by
  rcases h with h | h
  · exact SqX.seq (.inl h)
  · exact h.seq
theorem SqG.of {K : PySem.W.Frag} {H : Hp} {a : Addr} {xs : List V} (h : SqX H a xs) : SqG K H a xs := h.imp id .inl
def IsPs (K : PySem.W.Frag) (C : Addr) (H : Hp) (xs : List V) (bs : List Bool) : Prop := bs.length = xs.length ∧ ∀ (i : Nat) (x : V) (b : Bool), xs[i]? = some x → bs[i]? = some b → IsP K C H x b
theorem IsPs.same {K : PySem.W.Frag} {C : Addr} {H H' : Hp} {xs : List V} {bs : List Bool} (s : Same H H') (h : IsPs K C H xs bs) : IsPs K C H' xs bs := ⟨h.1, fun i x b h1 h2 => (h.2 i x b h1 h2).same s⟩
/-- whether a value is a sequence of rows -/
def AnsR (K : PySem.W.Frag) (C : Addr) (H : Hp) (x : V) (r : Bool) : Prop := (IsSeq K H x false ∧ r = false) ∨ ∃ a xs bs, x = .ref a ∧ SqG K H a xs ∧ xs.length ≤ 100000 ∧ IsPs K C H xs bs ∧ r = bs.all id
theorem AnsR.same {K : PySem.W.Frag} {C : Addr} {H H' : Hp} {x : V} {r : Bool} (s : Same H H') (h : AnsR K C H x r) : AnsR K C H' x r := by
  rcases h with ⟨h, e⟩ | ⟨a, xs, bs, e, h1, h2, h3, h4⟩
  · exact .inl ⟨h.same s, e⟩
  · exact .inr ⟨a, xs, bs, e, h1.same s, h2, h3.same s, h4⟩
def spAreR (K : PySem.W.Frag) (C : Addr) : Sp := fun vs H Q _ => ∃ x r, vs = [x] ∧ AnsR K C H x r ∧ ∀ H', Same H H' → Q (.bl r) H'
/-- whether a value is a bool -/
def SrtV (K : PySem.W.Frag) (H : Hp) (y : V) (sb : Bool) : Prop := (∃ z, y = .bl z ∧ sb = true) ∨ (sb = false ∧ IsT K H y "bool" false)
theorem SrtV.same {K : PySem.W.Frag} {H H' : Hp} {y : V} {sb : Bool} (s : Same H H') (h : SrtV K H y sb) : SrtV K H' y sb := h.imp id fun q => ⟨q.1, q.2.same s⟩
theorem SrtV.isT {K : PySem.W.Frag} {H : Hp} {y : V} {sb : Bool} (h : SrtV K H y sb) : IsT K H y "bool" sb := by
  rcases h with ⟨z, rfl, rfl⟩ | ⟨rfl, h⟩
  · exact ⟨_, .base (.bl z), kit_ty (by decide +kernel)⟩
  · exact h
abbrev sAreR : Stmt := top 17
abbrev sToolI : Stmt := inClass (top 22) 0
section
variable {P : Program} {w : World} {K : PySem.W.Frag} {mg : Str → Option Value} {base : Heap}
theorem scAreR : FnScope ["value", "one"] ["value"] (defScope sAreR) := ⟨rfl, rfl, rfl, by decide +kernel, rfl, by decide +kernel, by decide +kernel⟩
theorem ok_areR {f fS C : Addr} {fd fdS : FuncData} (F : Fun K "are_rows" "are_rows" sAreR f fd) (T : TxtK mg) (GS : FnOk P w K mg base CX0 1 fS fdS ["value"] (spSeq K)) (gS : mg "is_sequence" = some (.ref fS)) (kS : PySem.W.keepIn K (.ref fS) = true) (bS : Binds K fdS ["value"] [])
    (gC : mg "Row" = some (.ref C)) : FnOk P w K mg base CX0 2 f fd ["value"] (spAreR K C) := by
  refine F.ok scAreR (fun vs H Q E h => ?_) (fun cdv A outer s H vs Q E hr h => ?_)
  · obtain ⟨x, r, rfl, _⟩ := h
    rfl
  · obtain ⟨x, r, rfl, h, k⟩ := h
    rcases h with ⟨h, rfl⟩ | ⟨a, xs, bs, rfl, hx, hl, hb, rfl⟩
    · refine ⟨_, (pss_one (ps_ret (pe_and (pe_call GS hr (by rfl) gS kS bS .nil pass0 (pa_cons (pv 0) pa_nil)) (pe_one (pe_callB (cr_all rfl) (by rfl) T.all (by decide +kernel) (pa_cons
            (pe_lc (own := [("one", 1)]) (g := gName 1) (tt := tYes) (by rfl) scAreR.nd (pi_list (pv 0)) (blkOk_by (N := ["value", "one"]) (sc := defScope sAreR) (by decide +kernel)) (fun _ _ _ _ _ => pg_name (i := 1) scAreR.nd rfl (Or.inl rfl)) (fun _ _ _ _ _ => pts_nil) (fun _ _ _ _ _ => pe_callB (call_isiK (K := K) rfl) (by rfl) T.isinstance (by decide +kernel) (pa_cons (pv 1) (pa_cons (pe_glob (v := .ref C) (by rfl) gC rfl) pa_nil)))) pa_nil)))))), ?_⟩
      exact ⟨_, rfl, _, false, rfl, h, fun H' s => ⟨_, rfl, iteN rfl (k H' s)⟩⟩
    · have lb : bs.length ≤ 100000 := by rw [hb.1]; exact hl
      rcases hx with hx | hx
      · refine ⟨_, (pss_one (ps_ret (pe_and (pe_call GS hr (by rfl) gS kS bS .nil pass0 (pa_cons (pv 0) pa_nil)) (pe_one (pe_callB (cr_all rfl) (by rfl) T.all (by decide +kernel) (pa_cons
            (pe_lc (own := [("one", 1)]) (g := gName 1) (tt := tYes) (by rfl) scAreR.nd (pi_list (pv 0)) (blkOk_by (N := ["value", "one"]) (sc := defScope sAreR) (by decide +kernel)) (fun _ _ _ _ _ => pg_name (i := 1) scAreR.nd rfl (Or.inl rfl)) (fun _ _ _ _ _ => pts_nil) (fun _ _ _ _ _ => pe_callB (call_isiK (K := K) rfl) (by rfl) T.isinstance (by decide +kernel) (pa_cons (pv 1) (pa_cons (pe_glob (v := .ref C) (by rfl) gC rfl) pa_nil)))) pa_nil)))))), ?_⟩
        refine ⟨_, rfl, _, true, rfl, SqG.seq (.inl hx), fun H1 s1 => ⟨_, rfl, iteY rfl ?_⟩⟩
        have hx1 : SqL K H1 a xs := SqL.of (s1 _ _ hx)
        refine ⟨_, rfl, a, rfl, ⟨_, hx1⟩, fun D nD => lc_list (K := K) (a := a) (xs := xs) (fun i G => Same H1 G ∧ G D = some (.lst ((bs.take i).map V.bl))) ⟨Same.new nD, upd_same⟩ (fun i G _ q => SqL.same q.1 hx1) ?_ ?_⟩
        · rintro i x G hi ⟨sG, hD⟩
          have li := (List.getElem?_eq_some_iff.mp hi).1
          rw [← hb.1] at li
          have eb : bs[i]? = some bs[i] := by simp [li]
          obtain ⟨t, ty, et⟩ := (hb.2 i x _ hi eb).same (s1.trans sG)
          refine ⟨rfl, _, rfl, x, _, t, _, bs[i], rfl, .own _, ty, et, _, hD, ?_, fun c u e => by rw [upd_ne (ne_of_none e nD)]; exact sG _ _ e, ?_⟩
          · rw [List.length_map, List.length_take]
            exact smallT (by omega)
          · rw [upd_same, List.take_succ, eb, List.map_append]
            rfl
        · rintro G ⟨sG, hD⟩
          rw [← hb.1, List.take_length] at hD
          exact ⟨D, bs, rfl, SqL.of hD, k G (s1.trans sG)⟩
      · refine ⟨_, (pss_one (ps_ret (pe_and (pe_call GS hr (by rfl) gS kS bS .nil pass0 (pa_cons (pv 0) pa_nil)) (pe_one (pe_callB (cr_all rfl) (by rfl) T.all (by decide +kernel) (pa_cons
            (pe_lc (own := [("one", 1)]) (g := gName 1) (tt := tYes) (by rfl) scAreR.nd (pi_tup (pv 0)) (blkOk_by (N := ["value", "one"]) (sc := defScope sAreR) (by decide +kernel)) (fun _ _ _ _ _ => pg_name (i := 1) scAreR.nd rfl (Or.inl rfl)) (fun _ _ _ _ _ => pts_nil) (fun _ _ _ _ _ => pe_callB (call_isiK (K := K) rfl) (by rfl) T.isinstance (by decide +kernel) (pa_cons (pv 1) (pa_cons (pe_glob (v := .ref C) (by rfl) gC rfl) pa_nil)))) pa_nil)))))), ?_⟩
        refine ⟨_, rfl, _, true, rfl, SqG.seq (.inr hx), fun H1 s1 => ⟨_, rfl, iteY rfl ?_⟩⟩
        have hx1 : SqT K H1 a xs := SqT.same s1 hx.sqT
        refine ⟨_, rfl, a, rfl, ⟨_, hx1⟩, fun D nD => lc_tup (K := K) (a := a) (xs := xs) (fun i G => Same H1 G ∧ G D = some (.lst ((bs.take i).map V.bl))) ⟨Same.new nD, upd_same⟩ (fun i G _ q => SqT.same q.1 hx1) ?_ ?_⟩
        · rintro i x G hi ⟨sG, hD⟩
          have li := (List.getElem?_eq_some_iff.mp hi).1
          rw [← hb.1] at li
          have eb : bs[i]? = some bs[i] := by simp [li]
          obtain ⟨t, ty, et⟩ := (hb.2 i x _ hi eb).same (s1.trans sG)
          refine ⟨rfl, _, rfl, x, _, t, _, bs[i], rfl, .own _, ty, et, _, hD, ?_, fun c u e => by rw [upd_ne (ne_of_none e nD)]; exact sG _ _ e, ?_⟩
          · rw [List.length_map, List.length_take]
            exact smallT (by omega)
          · rw [upd_same, List.take_succ, eb, List.map_append]
            rfl
        · rintro G ⟨sG, hD⟩
          rw [← hb.1, List.take_length] at hD
          exact ⟨D, bs, rfl, SqL.of hD, k G (s1.trans sG)⟩
end
section
variable {X : Cx}
theorem call_tupleG : CallR X (.type "tuple") (fun xs H Q => ∃ a ys, xs = [.ref a] ∧ SqG X.K H a ys ∧ ∀ l H', Same H H' → TupG X.K H' l ys → Q (.ref l) H') := by
  intro pins s σ H xs us Q I r h
  obtain ⟨a, ys, rfl, hs, q⟩ := h
  refine call_tuple_of pins s σ H _ us Q I r ⟨a, ys, rfl, ?_⟩
  rcases hs with hs | hs
  · exact .inl ⟨SqL.of hs, fun l nl => q l _ (Same.new nl) (.inl upd_same)⟩
  · exact .inr ⟨hs.sqT, q a H (Same.refl H) hs⟩
end
structure ToolC (K : PySem.W.Frag) (C : Addr) : Prop where
  cl : Cls K C
  rows : NoAttr K C "rows"
  sorts : NoAttr K C "sorts"
def toolF (t : Addr) (y : V) : List (Str × V) := putF "sorts" y (putF "rows" (.ref t) [])
def spToolI (K : PySem.W.Frag) (C CT D : Addr) : Sp := fun vs H Q E => ∃ (p dx : Addr) (x y : V) (rr sb : Bool), vs = [.ref p, x, y] ∧ H p = some (.ins CT dx []) ∧ AnsR K C H x rr ∧ SrtV K H y sb ∧
  (rr = true → sb = true → ∀ H' t a xs, x = .ref a → SqG K H a xs → TupG K H' t xs → Kept p H H' → H' p = some (.ins CT dx (toolF t y)) → Q .non H') ∧ (rr = false → Raised D H (.str "rows") E) ∧ (rr = true → sb = false → Raised D H (.str "sorts") E)
section
variable {P : Program} {w : World} {K : PySem.W.Frag} {mg : Str → Option Value} {base : Heap}
theorem scToolI : FnScope ["self", "rows", "sorts"] ["self", "rows", "sorts"] (defScope sToolI) := ⟨rfl, rfl, rfl, by decide +kernel, rfl, by decide +kernel, by decide +kernel⟩
theorem ok_toolI {f fR fI C CT D : Addr} {fd fdR fdI : FuncData} {dvs : List V} (F : FunD K "__init__" "Tool.__init__" (defArgs sToolI) (defBody sToolI) (defScope sToolI) dvs [] f fd) (T : TxtK mg) (hbool : mg "bool" = none) (Z : ToolC K CT)
    (GR : FnOk P w K mg base CX0 2 fR fdR ["value"] (spAreR K C)) (gR : mg "are_rows" = some (.ref fR)) (kR : PySem.W.keepIn K (.ref fR) = true) (bR : Binds K fdR ["value"] [])
    (Y : XC K mg D fI "InvalidRow" "part") (GI : FnOk P w K mg base CX0 1 fI fdI ["self", "part"] (spInit K D "part")) (bI : Binds K fdI ["self", "part"] []) : FnOk P w K mg base (L2.CX P w) 3 f fd ["self", "rows", "sorts"] (spToolI K C CT D) := by
  refine F.ok scToolI (fun vs H Q E h => ?_) (fun cdv A outer s H vs Q E hr h => ?_)
  · obtain ⟨p, dx, x, y, rr, sb, rfl, _⟩ := h
    rfl
  · obtain ⟨p, dx, x, y, rr, sb, rfl, hp, hx, hy, k1, k2, k3⟩ := h
    refine ⟨_, (pss_cons (ps_if (pt_not (pt_val (pe_call GR hr (by rfl) gR kR bR .nil pass0 (pa_cons (pv 1) pa_nil))))
      (pss_one (ps_raise rfl (takes_of rfl rfl rfl rfl) (pmk_oex Y.oex Y.init Y.tI GI hr bI .nil pass0 (by rfl) Y.gC (pa_cons pe_str pa_nil))))
      pss_nil)
    (pss_cons (ps_if (pt_not (pt_val (pe_callB call_isi (by rfl) T.isinstance (by decide +kernel) (pa_cons (pv 2) (pa_cons (pe_bltn (v := .ty "bool") (by rfl) hbool (by decide +kernel) rfl) pa_nil)))))
      (pss_one (ps_raise rfl (takes_of rfl rfl rfl rfl) (pmk_oex Y.oex Y.init Y.tI GI hr bI .nil pass0 (by rfl) Y.gC (pa_cons pe_str pa_nil))))
      pss_nil)
    (pss_cons (ps_fld (pv 0) (pe_callTy call_tupleG (by rfl) T.tuple (by decide +kernel) (pa_cons (pv 1) pa_nil)) rfl)
    (pss_one (ps_fld (pv 0) (pv 2) rfl))))), ?_⟩
    refine ⟨_, rfl, x, rr, rfl, hx, fun H1 s1 => ⟨_, rfl, ?_⟩⟩
    cases rr with
    | false => exact iteY rfl ⟨by show 1 ≤ 1000; decide, fun a ha => raised_at Y.oex Y.no ha (k2 rfl |>.same s1)⟩
    | true =>
      obtain ⟨t, ty, et⟩ := (hy.isT).same s1
      refine iteN rfl ⟨_, rfl, _, _, t, _, sb, rfl, .ty _, ty, et, _, rfl, ?_⟩
      cases sb with
      | false => exact iteY rfl ⟨by show 1 ≤ 1000; decide, fun a ha => raised_at Y.oex Y.no ha (k3 rfl rfl |>.same s1)⟩
      | true =>
        refine iteN rfl ?_
        rcases hx with ⟨_, z⟩ | ⟨a, xs, bs, rfl, hs, _⟩
        · cases z
        refine ⟨_, rfl, a, xs, rfl, hs.same s1, fun l H2 s2 hl2 => ⟨_, rfl, p, CT, dx, _, rfl, s2 _ _ (s1 _ _ hp), Z.cl, Z.rows, (by show 0 < 1000; decide), ?_⟩⟩
        refine ⟨_, rfl, _, rfl, p, CT, dx, _, rfl, upd_same, Z.cl, Z.sorts, ?_, ?_⟩
        · exact Nat.lt_of_le_of_lt (length_putF _ _ []) (by show 0 + 1 < 1000; decide)
        · refine k1 rfl rfl _ l a xs rfl hs ?_ (((Kept.of_same (s1.trans s2)).trans Kept.box).trans Kept.box) upd_same
          exact (hl2.put_ins (s2 _ _ (s1 _ _ hp))).put_ins upd_same
end
end Lay
set_option Elab.async false
set_option linter.all false
set_option maxRecDepth 100000
set_option maxHeartbeats 4000000
namespace Lay
open PySem L2
/-! ### rows and tools as texts -/
/-- what a row is made of -/
structure RD where
  ws : List Str
  us : List Str
structure RD.Ok (r : RD) : Prop where
  w : ∀ z ∈ r.ws, z.length ≤ 20
  u : ∀ z ∈ r.us, z.length ≤ 20
  lw : r.ws.length ≤ 100000
  lu : r.us.length ≤ 100000
  nu : 0 < r.us.length
  k : ∀ z ∈ r.ws, PyData.strOk z = true
def rowWords (r : RD) : List Str := if r.ws = [] then ["do", Txt.join " then " r.us] else ["if", Txt.join " and " r.ws, "do", Txt.join " then " r.us]
def rowText (r : RD) : Str := Txt.join " " (rowWords r)
/-- at p a row of r -/
def RowAt (C : Addr) (H : Hp) (p : Addr) (r : RD) : Prop := ∃ dx t d, H p = some (.ins C dx (rowF t d)) ∧ H t = some (.tup (r.ws.map V.str)) ∧ H d = some (.tup (r.us.map V.str))
theorem RowAt.same {C : Addr} {H H' : Hp} {p : Addr} {r : RD} (s : Same H H') (h : RowAt C H p r) : RowAt C H' p r := by
  obtain ⟨dx, t, d, h1, h2, h3⟩ := h
  exact ⟨dx, t, d, s _ _ h1, s _ _ h2, s _ _ h3⟩
theorem sum_few : ∀ {zs : List Str} {n : Nat}, (∀ z ∈ zs, z.length ≤ n) → (zs.map (·.length)).sum ≤ zs.length * n
  | [], _, _ => by simp
  | z :: zs, n, h => by
    have h1 := h z List.mem_cons_self
    have h2 := sum_few (zs := zs) fun y hy => h y (List.mem_cons_of_mem _ hy)
    rw [List.map_cons, List.sum_cons, List.length_cons, Nat.succ_mul]
    omega
def spWordsOf (C : Addr) : Sp := fun vs H Q _ => ∃ (p : Addr) (r : RD), vs = [.ref p] ∧ RowAt C H p r ∧ r.Ok ∧ ∀ l H', Same H H' → H l = none → H' l = some (.lst ((rowWords r).map V.str)) → Q (.ref l) H'
abbrev sRW : Stmt := top 18
section
variable {P : Program} {w : World} {K : PySem.W.Frag} {mg : Str → Option Value} {base : Heap}
theorem scRW : FnScope ["row", "done"] ["row"] (defScope sRW) := ⟨rfl, rfl, rfl, by decide +kernel, rfl, by decide +kernel, by decide +kernel⟩
theorem ok_rowWords {f C : Addr} {fd : FuncData} (F : Fun K "row_words" "row_words" sRW f fd) (hlen : mg "len" = none) (Z : RowC K C) : FnOk P w K mg base CX0 1 f fd ["row"] (spWordsOf C) := by
  refine F.ok scRW (fun vs H Q E h => ?_) (fun cdv A outer s H vs Q E hr h => ?_)
  · obtain ⟨p, r, rfl, _⟩ := h
    rfl
  · obtain ⟨p, r, rfl, ⟨dx, t, d, hp, ht, hd⟩, o, k⟩ := h
    refine ⟨_, (pss_cons (ps_set (i := 1) scRW.nd rfl (.inl rfl) (pe_lst (pa_cons pe_str (pa_cons (pe_bm PySem.F.plainAttrs_str PySem.F.slot_str_join PySem.F.type_str_join mt_join pe_str (pa_cons (pe_fld (pv 0) rfl) pa_nil)) pa_nil))))
      (pss_cons (ps_if (pt_cmpR op_eq (pe_callB call_len_seq (by rfl) hlen PySem.boot_len (pa_cons (pe_fld (pv 0) rfl) pa_nil)) pe_int (nomark _)) (pss_one (ps_ret (pv 1))) pss_nil)
      (pss_one (ps_ret (pe_lst (pa_cons pe_str (pa_cons (pe_bm PySem.F.plainAttrs_str PySem.F.slot_str_join PySem.F.type_str_join mt_join pe_str (pa_cons (pe_fld (pv 0) rfl) pa_nil)) (StX.pa_star (pv 1) pa_nil)))))))), ?_⟩
    have hsum := sum_few o.u
    have hsum2 := sum_few o.w
    have lw := o.lw
    have lu := o.lu
    have j1 : (Str.ofString " then ").length = 6 := by decide
    have j2 : (Str.ofString " and ").length = 5 := by decide
    refine ⟨rfl, _, rfl, p, C, dx, _, _, rfl, hp, Z.cl, Z.deeds, rfl, _, d, r.us, rfl, rfl, .inr (SqT.of hd), ?_, (by show 2 ≤ sizeLine; decide), fun l1 n1 => ?_⟩
    · rw [j1]
      omega
    have s1 := Same.new n1 (o := .lst [.str "do", .str (Txt.join " then " r.us)])
    refine ⟨_, rfl, p, C, dx, _, _, rfl, s1 _ _ hp, Z.cl, Z.tests, rfl, t, _, rfl, .inr (SqT.of (s1 _ _ ht)), rfl, _, rfl, ?_⟩
    refine ite2 (fun q => ?_) (fun q => ?_)
    · have e0 : r.ws = [] := by
        have h0 := V.int.inj (of_decide_eq_true q)
        rw [List.length_map] at h0
        exact List.length_eq_zero_iff.mp (by omega)
      refine ⟨_, rfl, k l1 _ s1 n1 ?_⟩
      rw [upd_same]
      unfold rowWords
      rw [if_pos e0]
      rfl
    · have e0 : ¬ r.ws = [] := fun z => q (by rw [z]; rfl)
      refine ⟨rfl, _, rfl, p, C, dx, _, _, rfl, s1 _ _ hp, Z.cl, Z.tests, rfl, _, t, r.ws, rfl, rfl, .inr (SqT.of (s1 _ _ ht)), ?_, _, rfl, l1, _, rfl, .inr (SqL.of upd_same), (by show 4 ≤ sizeLine; decide), fun l2 n2 => ?_⟩
      · rw [j2]
        omega
      · refine k l2 _ (s1.trans (Same.new n2)) (s1.free n2) ?_
        rw [upd_same]
        unfold rowWords
        rw [if_neg e0]
        rfl
end
end Lay
set_option Elab.async false
set_option linter.all false
set_option maxRecDepth 100000
set_option maxHeartbeats 4000000
namespace Lay
open PySem L2
theorem sjoin_le (sep : Str) : ∀ ts : List Str, (Str.join sep ts).length ≤ (ts.map (·.length)).sum + ts.length * sep.length
  | [] => by
    show (Str.join sep []).length ≤ _
    have : (Str.join sep []).length = 0 := rfl
    omega
  | [t] => by
    show t.length ≤ _
    rw [List.map_cons, List.sum_cons]
    omega
  | t :: u :: r => by
    have ih := sjoin_le sep (u :: r)
    show (t ++ sep ++ Str.join sep (u :: r)).length ≤ _
    rw [Str.length_append, Str.length_append, List.map_cons, List.sum_cons, List.length_cons, Nat.succ_mul]
    omega
theorem join_le (sep : Str) (ts : List Str) : (Txt.join sep ts).length ≤ (ts.map (·.length)).sum + ts.length * sep.length := by
  rw [TL.join_eq]
  exact sjoin_le sep ts
theorem row_few {r : RD} (o : r.Ok) : ∀ z ∈ rowWords r, z.length ≤ 2600010 := fun z hz => by
  have h1 := join_le " then " r.us
  have h2 := join_le " and " r.ws
  have s1 := sum_few o.u
  have s2 := sum_few o.w
  have lw := o.lw
  have lu := o.lu
  have j1 : (Str.ofString " then ").length = 6 := by decide
  have j2 : (Str.ofString " and ").length = 5 := by decide
  have d1 : (Str.ofString "do").length = 2 := by decide
  have d2 : (Str.ofString "if").length = 2 := by decide
  rw [j1] at h1
  rw [j2] at h2
  unfold rowWords at hz
  split at hz
  · simp only [List.mem_cons, List.not_mem_nil, or_false] at hz
    rcases hz with rfl | rfl
    · omega
    · omega
  · simp only [List.mem_cons, List.not_mem_nil, or_false] at hz
    rcases hz with rfl | rfl | rfl | rfl
    · omega
    · omega
    · omega
    · omega
theorem rowWords_4 (r : RD) : (rowWords r).length ≤ 4 := by
  unfold rowWords
  split
  · show 2 ≤ 4
    omega
  · show 4 ≤ 4
    omega
theorem rowText_few {r : RD} (o : r.Ok) : (rowText r).length ≤ 11000000 := by
  have h := join_le " " (rowWords r)
  have s := sum_few (row_few o)
  have l := rowWords_4 r
  have j : (Str.ofString " ").length = 1 := by decide
  rw [j] at h
  unfold rowText
  omega
def spStrRow (C : Addr) : Sp := fun vs H Q _ => ∃ (p : Addr) (r : RD), vs = [.ref p] ∧ RowAt C H p r ∧ r.Ok ∧ ∀ H', Same H H' → Q (.str (rowText r)) H'
abbrev sStrRow : Stmt := inClass (top 21) 2
section
variable {P : Program} {w : World} {K : PySem.W.Frag} {mg : Str → Option Value} {base : Heap}
theorem scStrRow : FnScope ["self"] ["self"] (defScope sStrRow) := ⟨rfl, rfl, rfl, by decide +kernel, rfl, by decide +kernel, by decide +kernel⟩
theorem ok_strRow {f fW C : Addr} {fd fdW : FuncData} (F : Fun K "__str__" "Row.__str__" sStrRow f fd) (GW : FnOk P w K mg base CX0 1 fW fdW ["row"] (spWordsOf C)) (gW : mg "row_words" = some (.ref fW)) (kW : PySem.W.keepIn K (.ref fW) = true) (bW : Binds K fdW ["row"] []) : FnOk P w K mg base CX0 2 f fd ["self"] (spStrRow C) := by
  refine F.ok scStrRow (fun vs H Q E h => ?_) (fun cdv A outer s H vs Q E hr h => ?_)
  · obtain ⟨p, r, rfl, _⟩ := h
    rfl
  · obtain ⟨p, r, rfl, hp, o, k⟩ := h
    refine ⟨_, pss_one (ps_ret (pe_bm PySem.F.plainAttrs_str PySem.F.slot_str_join PySem.F.type_str_join mt_join pe_str (pa_cons (pe_call GW hr (by rfl) gW kW bW .nil pass0 (pa_cons (pv 0) pa_nil)) pa_nil))), ?_⟩
    refine ⟨rfl, _, rfl, p, r, rfl, hp, o, fun l H' s n hl => ⟨_, l, rowWords r, rfl, rfl, .inl (SqL.of hl), ?_, k H' s⟩⟩
    have s1 := sum_few (row_few o)
    have l4 := rowWords_4 r
    have j : (Str.ofString " ").length = 1 := by decide
    rw [j]
    omega
end
end Lay
set_option Elab.async false
set_option linter.all false
set_option maxRecDepth 100000
set_option maxHeartbeats 4000000
/-! str(x), x == y, x != y, x + y by what an own class defines. -/
namespace Lay
open PySem PySem.Spec PyProof.Rows L2
section
variable {X : Cx} {CX : CXT} {C f : Addr} {n : Nat} {fd : FuncData} {ps : List Str} {sp : Sp}
/-- a def called beneath, with its values -/
theorem run_sub {A : Around} {pins : List (Addr × Obj)} {σ : L2.St} {H : Hp} {s : Shared} {Q : VK} {us : List Value} {vs : List V} {Post : Value → Shared → Prop} (F : FnOk X.prog X.w X.K X.mg X.base CX n f fd ps sp) (hr : Sub X n A) (hb : Binds X.K fd ps []) (hx : Passes CX X E0)
    (I : Inv X pins σ H s) (r : Vals vs us) (h : sp vs H Q E0) (post : ∀ v u H' s', Inv X pins σ H' s' → RelV v u → Q v H' → Post u s') : wpAny (model X.prog X.w) A (call (.ref f) us) Post X.xe s := by
  have hl : us.length = ps.length := by rw [← r.length]; exact F.len _ _ _ _ h
  have b := hb s us I.kIn (by rw [List.append_nil]; exact hl)
  rw [List.append_nil] at b
  have e := I.env0
  have e0 : Env0 X.prog X.w X.K X.mg X.base A X.stack s H := ⟨by rw [hr.fr]; exact e.frames, e.mod, e.bs, e.bsz, e.funs, e.frf, e.hok, e.bare⟩
  refine wpAny_call (codeAny_mono (F.run A X.stack s H ⟨us, []⟩ us vs Q E0 hr.room e0 b r h) fun r s' hq => ?_)
  cases r with
  | error er => exact hx pins σ H s er s' I hq
  | ok fl =>
    cases fl with
    | ret u =>
      obtain ⟨v, H', I', rv, q⟩ := I.after hq
      exact post v u H' s' I' rv q
    | next => exact False.elim hq
    | brk => exact False.elim hq
    | cont => exact False.elim hq
theorem call_strOwn (F : FnOk X.prog X.w X.K X.mg X.base CX n f fd ps sp) (hs : PySem.W.findIn X.K (.ref C) "__str__" = some (some (.ref f))) (hf : PySem.W.isFn X.K (.ref f) = true) (hr : Room (n + 2) X.A) (hb : Binds X.K fd ps []) (hx : Passes CX X E0) :
    CallR X (.type "str") (fun xs H Q => ∃ (a dx : Addr) (fs : List (Str × V)), xs = [.ref a] ∧ H a = some (.ins C dx fs) ∧ sp [.ref a] H (fun v H' => ∃ z, v = .str z ∧ Q (.str z) H') E0) := by
  intro pins s σ H xs us Q I r h
  obtain ⟨a, dx, fs, rfl, ha, q⟩ := h
  obtain ⟨u, rfl, ru⟩ := vals1 r
  cases ru
  obtain ⟨mA, J, _⟩ := ins_get I.hok ha
  obtain ⟨od, J, _⟩ := J.look
  have sb : Sub X n X.A.in1.in1 := ⟨hr.in1.in1, rfl⟩
  refine PySem.W.kso_call sb.room.units0 I.kIn J hs hf (run_sub (vs := [V.ref a]) F sb hb hx I (.cons rfl .nil) q fun v u H' s' I' rv hq => ?_)
  obtain ⟨z, rfl, hq⟩ := hq
  obtain ⟨t, rfl⟩ := rv
  exact ⟨.str z, H', I', ⟨t, rfl⟩, hq⟩
/-- x == y, two instances of the class -/
theorem op_eqOwn (F : FnOk X.prog X.w X.K X.mg X.base CX n f fd ps sp) (hs : PySem.W.findIn X.K (.ref C) "__eq__" = some (some (.ref f))) (hf : PySem.W.isFn X.K (.ref f) = true) (hr : Room n X.A) (hb : Binds X.K fd ps []) (hx : Passes CX X E0) :
    OpR X (compareOp .Eq) (fun x y H Q => ∃ (a b dx dy : Addr) (fs gs : List (Str × V)), x = .ref a ∧ y = .ref b ∧ H a = some (.ins C dx fs) ∧ H b = some (.ins C dy gs) ∧ sp [.ref a, .ref b] H (fun v H' => ∃ z, v = .bl z ∧ Q (.bl z) H') E0) := by
  intro pins s σ H x y v u Q I rx ry h
  obtain ⟨a, b, dx, dy, fs, gs, rfl, rfl, ha, hb2, q⟩ := h
  cases rx
  cases ry
  obtain ⟨mA, J, _⟩ := ins_get I.hok ha
  obtain ⟨mB, J', _⟩ := ins_get I.hok hb2
  obtain ⟨od, J, _⟩ := J.look
  obtain ⟨od', J', _⟩ := J'.look
  obtain ⟨m, hF⟩ := I.fr
  have sb : Sub X n X.A := ⟨hr, rfl⟩
  show wpAny (model X.prog X.w) X.A (richCompare .Eq (.ref a) (.ref b)) (EP X pins σ Q) X.xe s
  refine PySem.W.cmp_K (op := .Eq) (tb := .ref C) sb.room.units0 hF I.ok.mod.kin J J'.type (by simp [PySem.W.notFirst]) hs hf (run_sub (vs := [V.ref a, V.ref b]) F sb hb hx I (.cons rfl (.cons rfl .nil)) q fun v u H' s' I' rv hq => ?_)
  obtain ⟨z, rfl, hq⟩ := hq
  cases rv
  exact ⟨.bl z, H', I', rfl, hq⟩
/-- x + y, two instances of the class, by its __add__ -/
theorem op_addOwn (F : FnOk X.prog X.w X.K X.mg X.base CX n f fd ps sp) (hs : PySem.W.findIn X.K (.ref C) "__add__" = some (some (.ref f))) (hc : PySem.W.selfFirst X.K C = true) (hf : PySem.W.isFn X.K (.ref f) = true) (hr : Room n X.A) (hb : Binds X.K fd ps []) (hx : Passes CX X E0) :
    OpR X (binaryOp .Add) (fun x y H Q => ∃ (a b dx dy : Addr) (fs gs : List (Str × V)), x = .ref a ∧ y = .ref b ∧ H a = some (.ins C dx fs) ∧ H b = some (.ins C dy gs) ∧ sp [.ref a, .ref b] H (fun v H' => ∃ c, v = .ref c ∧ Q (.ref c) H') E0) := by
  intro pins s σ H x y v u Q I rx ry h
  obtain ⟨a, b, dx, dy, fs, gs, rfl, rfl, ha, hb2, q⟩ := h
  cases rx
  cases ry
  obtain ⟨mA, J, _⟩ := ins_get I.hok ha
  obtain ⟨mB, J', _⟩ := ins_get I.hok hb2
  obtain ⟨od, J, _⟩ := J.look
  obtain ⟨od', J', _⟩ := J'.look
  obtain ⟨m, hF⟩ := I.fr
  have sb : Sub X n X.A := ⟨hr, rfl⟩
  refine PySem.W.binop_K (op := .Add) hF I.ok.mod.kin J J'.type hc hs hf (run_sub (vs := [V.ref a, V.ref b]) F sb hb hx I (.cons rfl (.cons rfl .nil)) q fun v u H' s' I' rv hq => ?_)
  obtain ⟨c, rfl, hq⟩ := hq
  cases rv
  exact ⟨.ref c, H', I', rfl, hq⟩
end
section
variable {prog : Program} {w : World} {A : Around} {E : Value → Shared → Prop} {s : Shared} {K : PySem.W.Frag} {x C f : Addr} {ox : Obj} {od : Option Obj} {b : Value}
theorem check_slot_K {M : Model} {id owner n : String} {rest : List Value} {Q : Unit → Shared → Prop} (hk : builtinKind id = some .slot) (hs : splitId id = some (owner, n))
    (ha : argsOk id ⟨.ref x :: rest, []⟩) (X : K.In s.heap) (I : PySem.W.InstAt s.heap x ox C od) (hm : PySem.W.mroIn K C (.type owner) = some true) (hq : Q () s) :
    wpAny M A (checkBuiltinCall id ⟨.ref x :: rest, []⟩) Q E s := by
  simp only [checkBuiltinCall, hk, hs]
  refine wpAny_bind ?_
  · unfold isInstance
    refine wpAny_bind (I.type.here ((PySem.W.looks_mroIn X hm).here ?_))
    rw [if_neg (by decide : ¬ (!true) = true)]
    cases hsig : Manifest.signature? id with
    | none => exact wpAny_pure hq
    | some sig =>
      simp only [argsOk, hsig] at ha
      have h2 : Bind.checkArgs id sig ⟨.ref x :: rest, []⟩ = pure () := ha
      show wpAny M A (Bind.checkArgs id sig ⟨.ref x :: rest, []⟩) Q E _
      rw [h2]
      exact wpAny_pure hq
theorem ne_entry {Q : PySem.Fin → Shared → Prop} (hu : A.units < cLine) (X : K.In s.heap) (I : PySem.W.InstAt s.heap x ox C od) (heq : PySem.W.findIn K (.ref C) "__eq__" = some (some (.ref f))) (hf : PySem.W.isFn K (.ref f) = true)
    (h : wpAny (model prog w) A (call (.ref f) [.ref x, b]) (fun v s' => ∃ z, v = .bool z ∧ Q (.done (.ret (.bool (!z)))) s') E s) : wpAny (model prog w) A (Builtin.«object.__ne__» ⟨[.ref x, b], []⟩) Q E s := by
  unfold Builtin.«object.__ne__»
  repeat (first | with_reducible refine wpAny_cRoomFor hu ?_ | (with_reducible refine PySem.W.ifBound_K X I heq hf (wpAny_mono h ?_ fun _ _ e => e)) | wp_step)
  rintro v s' ⟨z, rfl, q⟩
  repeat (first | wp_step)
  exact q
theorem ifBound_B {M : Model} {id : String} {name : Str} {args : List Value} {Q : Option Value → Shared → Prop} (S : ∀ v, bindSpecial (.builtin id) v = pure (.builtin id, [v])) (X : K.In s.heap) (I : PySem.W.InstAt s.heap x ox C od) (hs : PySem.W.findIn K (.ref C) name = some (some (.builtin id)))
    (h : wpAny M A (call (.builtin id) (.ref x :: args)) (fun v => Q (some v)) E s) : wpAny M A (callSpecialIfBound? (.ref x) name args) Q E s := by
  simp only [callSpecialIfBound?, bindSpecialIfBound?]
  refine wpAny_holding (wpAny_bind (wpAny_bind (wpAny_bind (I.type.here ((PySem.W.looks_findIn X hs).here ?_)))))
  simp only [S]
  refine wpAny_bind (wpAny_askSetting (wpAny_ite ?_))
  have fin : wpAny M A (call (.builtin id) ([.ref x] ++ args) >>= fun v => pure (some v)) Q E s := wpAny_bind (wpAny_mono h (fun v s' h' => wpAny_pure h') fun _ _ h' => h')
  split
  · exact wpAny_bind (wpAny_pure (wpAny_pure (by exact fin)))
  · exact wpAny_tryCatch (wpAny_bind (wpAny_pure (wpAny_pure (by exact fin))))
theorem ne_own {Q : Value → Shared → Prop} (hu : A.units + 1 < cLine) (X : K.In s.heap) (I : PySem.W.InstAt s.heap x ox C od) (hb : PySem.W.Looks (model prog w) s.heap (typeOf b) (.ref C)) (hne : PySem.W.findIn K (.ref C) "__ne__" = some (some (.builtin "object.__ne__")))
    (heq : PySem.W.findIn K (.ref C) "__eq__" = some (some (.ref f))) (hf : PySem.W.isFn K (.ref f) = true) (hm : PySem.W.mroIn K C (.type "object") = some true)
    (h : wpAny (model prog w) A.in1 (call (.ref f) [.ref x, b]) (fun v s' => ∃ z, v = .bool z ∧ Q (.bool (!z)) s') E s) : wpAny (model prog w) A (richCompare .NotEq (.ref x) b) Q E s := by
  have one : wpAny (model prog w) A (tryCompare (.ref x) "__ne__" b) (fun r s' => ∃ v, r = some v ∧ Q v s') E s := by
    unfold tryCompare
    refine wpAny_bind (ifBound_B F.cmp_object.ne.bind X I hne (wpAny_call (codeAny_call_builtin F.cmp_object.ne.plain F.cmpEntry_ne (check_slot_K F.cmpKind_ne F.cmpSplit_ne (F.cmpArgs_ne _ _) X I hm (ne_entry (A := A.in1) hu X I heq hf ?_)))))
    refine wpAny_mono h (fun v s' hv => ?_) fun _ _ e => e
    obtain ⟨z, rfl, q⟩ := hv
    exact ⟨z, rfl, wpAny_pure ⟨_, rfl, q⟩⟩
  unfold richCompare
  simp only [oneThing_ref]
  refine wpAny_holding (wpAny_bind (wpAny_cRoomFor (Nat.lt_of_succ_lt hu) ?_))
  refine wpAny_bind (I.type.here (wpAny_bind (hb.here ?_)))
  rw [if_neg (by simp)]
  refine wpAny_bind (wpAny_pure ?_)
  simp only [Bool.false_eq_true, if_false]
  refine wpAny_bind (wpAny_mono one (fun r s' z => ?_) fun _ _ e => e)
  obtain ⟨v, rfl, hq⟩ := z
  exact wpAny_pure hq
end
section
variable {X : Cx} {CX : CXT} {C f : Addr} {n : Nat} {fd : FuncData} {ps : List Str} {sp : Sp}
/-- x != y, two instances of the class, by its __eq__ -/
theorem op_neOwn (F : FnOk X.prog X.w X.K X.mg X.base CX n f fd ps sp) (hs : PySem.W.findIn X.K (.ref C) "__eq__" = some (some (.ref f))) (hne : PySem.W.findIn X.K (.ref C) "__ne__" = some (some (.builtin "object.__ne__"))) (hm : PySem.W.mroIn X.K C (.type "object") = some true)
    (hf : PySem.W.isFn X.K (.ref f) = true) (hr : Room (n + 1) X.A) (hb : Binds X.K fd ps []) (hx : Passes CX X E0) :
    OpR X (compareOp .NotEq) (fun x y H Q => ∃ (a b dx dy : Addr) (fs gs : List (Str × V)), x = .ref a ∧ y = .ref b ∧ H a = some (.ins C dx fs) ∧ H b = some (.ins C dy gs) ∧ sp [.ref a, .ref b] H (fun v H' => ∃ z, v = .bl z ∧ Q (.bl (!z)) H') E0) := by
  intro pins s σ H x y v u Q I rx ry h
  obtain ⟨a, b, dx, dy, fs, gs, rfl, rfl, ha, hb2, q⟩ := h
  cases rx
  cases ry
  obtain ⟨mA, J, _⟩ := ins_get I.hok ha
  obtain ⟨mB, J', _⟩ := ins_get I.hok hb2
  obtain ⟨od, J, _⟩ := J.look
  obtain ⟨od', J', _⟩ := J'.look
  have sb : Sub X n X.A.in1 := ⟨hr.in1, rfl⟩
  show wpAny (model X.prog X.w) X.A (richCompare .NotEq (.ref a) (.ref b)) (EP X pins σ Q) X.xe s
  refine ne_own sb.room.units0 I.kIn J J'.type hne hs hf hm (run_sub (vs := [V.ref a, V.ref b]) F sb hb hx I (.cons rfl (.cons rfl .nil)) q fun v u H' s' I' rv hq => ?_)
  obtain ⟨z, rfl, hq⟩ := hq
  cases rv
  exact ⟨z, rfl, .bl (!z), H', I', rfl, hq⟩
/-- len(x) by its __len__ -/
theorem call_lenOwn (F : FnOk X.prog X.w X.K X.mg X.base CX n f fd ps sp) (hs : PySem.W.findIn X.K (.ref C) "__len__" = some (some (.ref f))) (hf : PySem.W.isFn X.K (.ref f) = true) (hr : Room (n + 1) X.A) (hb : Binds X.K fd ps []) (hx : Passes CX X E0) :
    CallR X (.builtin "len") (fun xs H Q => ∃ (a dx : Addr) (fs : List (Str × V)), xs = [.ref a] ∧ H a = some (.ins C dx fs) ∧ sp [.ref a] H (fun v H' => ∃ k : Int, v = .int k ∧ 0 ≤ k ∧ k < 2 ^ 63 ∧ Q (.int k) H') E0) := by
  intro pins s σ H xs us Q I r h
  obtain ⟨a, dx, fs, rfl, ha, q⟩ := h
  obtain ⟨u, rfl, ru⟩ := vals1 r
  cases ru
  obtain ⟨mA, J, _⟩ := ins_get I.hok ha
  obtain ⟨od, J, _⟩ := J.look
  obtain ⟨m, hF⟩ := I.fr
  have sb : Sub X n X.A.in1 := ⟨hr.in1, rfl⟩
  refine PySem.W.len_K hF I.ok.mod.kin J hs hf (run_sub (vs := [V.ref a]) F sb hb hx I (.cons rfl .nil) q fun v u H' s' I' rv hq => ?_)
  obtain ⟨k, rfl, k0, k1, hq⟩ := hq
  obtain ⟨t, rfl⟩ := rv
  exact ⟨⟨k0, k1⟩, .int k, H', I'.tok _, ⟨_, rfl⟩, hq⟩
end
end Lay
set_option Elab.async false
set_option linter.all false
set_option maxRecDepth 100000
set_option maxHeartbeats 4000000
namespace Lay
open PySem L2
/-- rows that stand in a sequence -/
def RowsAt (C : Addr) (H : Hp) (xs : List V) (rs : List RD) : Prop := xs.length = rs.length ∧ (∀ r ∈ rs, r.Ok) ∧ ∀ (i : Nat) (x : V) (r : RD), xs[i]? = some x → rs[i]? = some r → ∃ q, x = .ref q ∧ RowAt C H q r
theorem RowsAt.same {C : Addr} {H H' : Hp} {xs : List V} {rs : List RD} (s : Same H H') (h : RowsAt C H xs rs) : RowsAt C H' xs rs := ⟨h.1, h.2.1, fun i x r h1 h2 => by
  obtain ⟨q, e, hq⟩ := h.2.2 i x r h1 h2
  exact ⟨q, e, hq.same s⟩⟩
def firstS (s : Bool) : Str := if s then "tool sorts" else "tool"
def toolText (rs : List RD) (s : Bool) : Str := Txt.join "\n" (firstS s :: rs.map rowText)
/-- not too long -/
def TB (rs : List RD) (s : Bool) : Prop := rs.length ≤ 100000 ∧ (toolText rs s).length ≤ 100000
theorem sum_le_sjoin (sep : Str) : ∀ ts : List Str, (ts.map (·.length)).sum + ts.length * sep.length ≤ (Str.join sep ts).length + sep.length
  | [] => by simp
  | [t] => by
    show (([t].map (·.length)).sum + [t].length * sep.length) ≤ t.length + sep.length
    simp
  | t :: u :: r => by
    have ih := sum_le_sjoin sep (u :: r)
    show _ ≤ (t ++ sep ++ Str.join sep (u :: r)).length + _
    rw [Str.length_append, Str.length_append, List.map_cons, List.sum_cons, List.length_cons, Nat.succ_mul]
    omega
theorem sum_le_join (sep : Str) (ts : List Str) : (ts.map (·.length)).sum + ts.length * sep.length ≤ (Txt.join sep ts).length + sep.length := by
  rw [TL.join_eq]
  exact sum_le_sjoin sep ts
/-- at p a tool of rs -/
def ToolAt (K : PySem.W.Frag) (C CT : Addr) (H : Hp) (p : Addr) (rs : List RD) (s : Bool) : Prop := ∃ dx t xs, H p = some (.ins CT dx (toolF t (.bl s))) ∧ TupG K H t xs ∧ RowsAt C H xs rs ∧ TB rs s
theorem ToolAt.same {K : PySem.W.Frag} {C CT : Addr} {H H' : Hp} {p : Addr} {rs : List RD} {s : Bool} (e : Same H H') (h : ToolAt K C CT H p rs s) : ToolAt K C CT H' p rs s := by
  obtain ⟨dx, t, xs, h1, h2, h3, h4⟩ := h
  exact ⟨dx, t, xs, e _ _ h1, h2.same e, h3.same e, h4⟩
def spFirst (K : PySem.W.Frag) (C CT : Addr) : Sp := fun vs H Q _ => ∃ (p : Addr) (rs : List RD) (s : Bool), vs = [.ref p] ∧ ToolAt K C CT H p rs s ∧ Q (.str (firstS s)) H
def spStrTool (K : PySem.W.Frag) (C CT : Addr) : Sp := fun vs H Q _ => ∃ (p : Addr) (rs : List RD) (s : Bool), vs = [.ref p] ∧ ToolAt K C CT H p rs s ∧ ∀ H', Same H H' → Q (.str (toolText rs s)) H'
abbrev sFirst : Stmt := top 19
abbrev sStrTool : Stmt := inClass (top 22) 8
section
variable {P : Program} {w : World} {K : PySem.W.Frag} {mg : Str → Option Value} {base : Heap}
theorem scFirst : FnScope ["tool"] ["tool"] (defScope sFirst) := ⟨rfl, rfl, rfl, by decide +kernel, rfl, by decide +kernel, by decide +kernel⟩
theorem ok_first {f C CT : Addr} {fd : FuncData} (F : Fun K "first_line" "first_line" sFirst f fd) (Z : ToolC K CT) : FnOk P w K mg base CX0 1 f fd ["tool"] (spFirst K C CT) := by
  refine F.ok scFirst (fun vs H Q E h => ?_) (fun cdv A outer s H vs Q E hr h => ?_)
  · obtain ⟨p, rs, b, rfl, _⟩ := h
    rfl
  · obtain ⟨p, rs, b, rfl, ⟨dx, t, xs, hp, ht, hr', hl⟩, k⟩ := h
    refine ⟨_, pss_one (ps_ret (pe_ifExp (pt_val (pe_fld (pv 0) rfl)) pe_str pe_str)), ?_⟩
    refine ⟨_, rfl, p, CT, dx, _, _, rfl, hp, Z.cl, Z.sorts, rfl, _, rfl, ?_⟩
    cases b with
    | true => exact iteY rfl k
    | false => exact iteN rfl k
theorem scStrTool : FnScope ["self", "row"] ["self"] (defScope sStrTool) := ⟨rfl, rfl, rfl, by decide +kernel, rfl, by decide +kernel, by decide +kernel⟩
theorem ok_strTool {f fF fS C CT : Addr} {fd fdF fdS : FuncData} (F : Fun K "__str__" "Tool.__str__" sStrTool f fd) (Z : ToolC K CT) (hstr : mg "str" = none) (GF : FnOk P w K mg base CX0 1 fF fdF ["tool"] (spFirst K C CT)) (gF : mg "first_line" = some (.ref fF)) (kF : PySem.W.keepIn K (.ref fF) = true) (bF : Binds K fdF ["tool"] [])
    (GS : FnOk P w K mg base CX0 2 fS fdS ["self"] (spStrRow C)) (hs : PySem.W.findIn K (.ref C) "__str__" = some (some (.ref fS))) (hf : PySem.W.isFn K (.ref fS) = true) (bS : Binds K fdS ["self"] []) : FnOk P w K mg base CX0 5 f fd ["self"] (spStrTool K C CT) := by
  refine F.ok scStrTool (fun vs H Q E h => ?_) (fun cdv A outer s H vs Q E hr h => ?_)
  · obtain ⟨p, rs, b, rfl, _⟩ := h
    rfl
  · obtain ⟨p, rs, b, rfl, hT, k⟩ := h
    have hr1 := hr.mono (show 1 ≤ 4 by decide)
    refine ⟨_, pss_one (ps_ret (pe_bm PySem.F.plainAttrs_str PySem.F.slot_str_join PySem.F.type_str_join mt_join pe_str (pa_cons (pe_lst (pa_cons (pe_call GF hr1 (by rfl) gF kF bF .nil pass0 (pa_cons (pv 0) pa_nil))
      (StX.pa_star (pe_lc (own := [("row", 1)]) (g := gName 1) (tt := tYes) (by rfl) scStrTool.nd (pi_tup (pe_fld (pv 0) rfl)) (blkOk_by (N := ["self", "row"]) (sc := defScope sStrTool) (by decide +kernel)) (fun _ _ _ _ _ => pg_name (i := 1) scStrTool.nd rfl (Or.inl rfl)) (fun _ _ _ _ _ => pts_nil)
        (fun _ _ _ _ _ => pe_callTy (call_strOwn GS hs hf hr bS pass0) (by rfl) hstr (by decide +kernel) (pa_cons (pv 1) pa_nil))) pa_nil))) pa_nil))), ?_⟩
    obtain ⟨dx, t, xs, hp, ht, hrows, hl⟩ := id hT
    have lx : xs.length ≤ 100000 := by rw [hrows.1]; exact hl.1
    have hl1 := hl.1
    refine ⟨rfl, _, rfl, p, rs, b, rfl, hT, ?_⟩
    refine ⟨_, rfl, p, CT, dx, _, _, rfl, hp, Z.cl, Z.rows, rfl, t, rfl, ⟨_, ht.sqT⟩, fun D nD => lc_tup (xs := xs) (fun i G => Same H G ∧ G D = some (.lst ((rs.take i).map fun r => V.str (rowText r)))) ⟨Same.new nD, upd_same⟩ (fun i G _ q => SqT.same q.1 ht.sqT) ?_ ?_⟩
    · rintro i x G hi ⟨sG, hD⟩
      have li := (List.getElem?_eq_some_iff.mp hi).1
      rw [hrows.1] at li
      have er : rs[i]? = some rs[i] := by simp [li]
      obtain ⟨q, rfl, hq⟩ := (hrows.same sG).2.2 i x _ hi er
      obtain ⟨dx2, t2, d2, h1, _⟩ := id hq
      refine ⟨rfl, _, rfl, q, dx2, _, rfl, h1, q, rs[i], rfl, hq, hrows.2.1 _ (List.getElem_mem li), fun G2 s2 => ⟨_, rfl, _, s2 _ _ hD, ?_, fun c u e => ?_, ?_⟩⟩
      · rw [List.length_map, List.length_take]
        exact smallT (by omega)
      · rw [upd_ne (ne_of_none e nD)]
        exact s2 _ _ (sG _ _ e)
      · rw [upd_same, List.take_succ, er, List.map_append]
        rfl
    · rintro G ⟨sG, hD⟩
      rw [hrows.1, List.take_length] at hD
      refine ⟨D, _, rfl, .inr (SqL.of hD), ?_, fun l nl => ?_⟩
      · rw [List.append_nil, List.length_cons, List.length_map]
        exact fits (by omega)
      have sl := Same.new nl (o := .lst (V.str (firstS b) :: ((rs.map fun r => V.str (rowText r)) ++ [])))
      refine ⟨_, l, firstS b :: rs.map rowText, rfl, rfl, .inl (SqL.of ?_), ?_, k _ (sG.trans sl)⟩
      · rw [upd_same, List.append_nil, List.map_cons, List.map_map]
        rfl
      · have j : (Str.ofString "\n").length = 1 := by decide
        have s1 := sum_le_join "\n" (firstS b :: rs.map rowText)
        have s2 : (Txt.join "\n" (firstS b :: rs.map rowText)).length ≤ 100000 := hl.2
        rw [j] at s1 ⊢
        omega
end
end Lay
set_option Elab.async false
set_option linter.all false
set_option maxRecDepth 100000
set_option maxHeartbeats 4000000
namespace Lay
open PySem L2
structure ClsI (K : PySem.W.Frag) (C : Addr) : Prop where
  cl : Cls K C
  ha : PySem.W.findIn K (.ref C) "__class__" = some (some (.builtin "object.__class__"))
  hn : PySem.W.specialIn K (.builtin "object.__class__") "__get__" = some (some (.builtin "getset_descriptor.__get__"))
  htk : PySem.W.takesIn K (.builtin "object.__class__") = some true
  hm : PySem.W.mroIn K C (.type "object") = some true
theorem ClsI.at {K : PySem.W.Frag} {C a dx : Addr} {H : Hp} {fs : List (Str × V)} (c : ClsI K C) (h : H a = some (.ins C dx fs)) : TyX K H (.ref a) (.ref C) := .base (.ins h c.cl c.ha c.hn c.htk c.hm)
theorem kit_same {K : PySem.W.Frag} {C : Addr} : PySem.W.kitOne K (.ref C) (.ref C) = some true := by
  unfold PySem.W.kitOne
  rw [if_pos (by simp)]
theorem RowAt.isP {K : PySem.W.Frag} {C p : Addr} {H : Hp} {r : RD} (c : ClsI K C) (h : RowAt C H p r) : IsP K C H (.ref p) true := by
  obtain ⟨dx, t, d, h1, _⟩ := h
  exact ⟨_, c.at h1, kit_same⟩
section
variable {X : Cx}
theorem op_catG : OpR X (binaryOp .Add) (fun x y H Q => ∃ a b xs ys, x = .ref a ∧ y = .ref b ∧ TupG X.K H a xs ∧ TupG X.K H b ys ∧ xs.length + ys.length ≤ 1000 ∧ ∀ p H', Same H H' → TupG X.K H' p (xs ++ ys) → Q (.ref p) H') := by
  intro pins s σ H x y v u Q I rx ry h
  obtain ⟨a, b, xs, ys, rfl, rfl, ha, hb, hl, q⟩ := h
  refine op_catA pins s σ H _ _ v u Q I rx ry ⟨a, b, xs, ys, rfl, rfl, ha.sqT, hb.sqT, fits (by omega), fun e => ?_, fun _ e => ?_, fun _ _ p np => q p _ (Same.new np) (.inl upd_same)⟩
  · subst e
    exact q b H (Same.refl H) hb
  · subst e
    exact q a H (Same.refl H) (by rw [List.append_nil]; exact ha)
end
/-- a row that is let -/
def spRowG (K : PySem.W.Frag) (C : Addr) : Sp := fun vs H Q _ => ∃ (p dx a c : Addr) (r : RD), vs = [.ref p, .ref a, .ref c] ∧ H p = some (.ins C dx []) ∧ SqX H a (r.ws.map V.str) ∧ SqX H c (r.us.map V.str) ∧ r.Ok ∧ (∀ z ∈ r.ws, progT z = true) ∧ (∀ z ∈ r.us, progD z = true) ∧
  ∀ H', Kept p H H' → RowAt C H' p r → Q .non H'
theorem good_ans {f : Str → Bool} {more : List V → Bool} {K : PySem.W.Frag} {H : Hp} {t : Addr} {ws : List Str} (h : SqX H t (ws.map V.str)) (l : ws.length ≤ 100000) (m : more (ws.map V.str) = true) (g : ∀ z ∈ ws, f z = true ∧ z.length ≤ 100000) : AnsV f more K H (.ref t) true := by
  refine .inr ⟨t, _, ws.map f, rfl, h, by rw [List.length_map]; exact l, ⟨by rw [List.length_map, List.length_map], fun i x b hx hb => ?_⟩, ?_⟩
  · obtain ⟨z, hz, rfl⟩ := str_at hx
    rw [List.getElem?_map, hz] at hb
    cases hb
    exact .inl ⟨z, rfl, (g z (List.mem_of_getElem? hz)).2, rfl⟩
  · rw [m, Bool.true_and]
    symm
    rw [List.all_eq_true]
    intro b hb
    obtain ⟨z, hz, rfl⟩ := List.mem_map.mp hb
    exact (g z hz).1
/-- a tool that is let -/
def spToolG (K : PySem.W.Frag) (C CT : Addr) : Sp := fun vs H Q _ => ∃ (p dx a : Addr) (xs : List V) (s : Bool), vs = [.ref p, .ref a, .bl s] ∧ H p = some (.ins CT dx []) ∧ SqG K H a xs ∧ xs.length ≤ 100000 ∧ (∀ v ∈ xs, IsP K C H v true) ∧
  ∀ H' t, TupG K H' t xs → Kept p H H' → H' p = some (.ins CT dx (toolF t (.bl s))) → Q .non H'
section
variable {P : Program} {w : World} {K : PySem.W.Frag} {mg : Str → Option Value} {base : Heap}
theorem ok_rowG {f fT fD C : Addr} {fd fdT fdD : FuncData} {dvs : List V} (F : FunD K "__init__" "Row.__init__" (defArgs sRowI) (defBody sRowI) (defScope sRowI) dvs [] f fd) (T : TxtK mg) (Z : RowC K C)
    (GT : FnOk P w K mg base CX0 2 fT fdT ["value"] (spAre progT yes K)) (gT : mg "are_tests" = some (.ref fT)) (kT : PySem.W.keepIn K (.ref fT) = true) (bT : Binds K fdT ["value"] [])
    (GD : FnOk P w K mg base CX0 2 fD fdD ["value"] (spAre progD full K)) (gD : mg "are_deeds" = some (.ref fD)) (kD : PySem.W.keepIn K (.ref fD) = true) (bD : Binds K fdD ["value"] []) : FnOk P w K mg base CX0 3 f fd ["self", "tests", "deeds"] (spRowG K C) := by
  refine F.ok scRowI (fun vs H Q E h => ?_) (fun cdv A outer s H vs Q E hr h => ?_)
  · obtain ⟨p, dx, a, c, r, rfl, _⟩ := h
    rfl
  · obtain ⟨p, dx, a, c, r, rfl, hp, hx, hy, o, gt, gd, k⟩ := h
    refine ⟨_, (pss_cons (ps_if (pt_not (pt_val (pe_call GT hr (by rfl) gT kT bT .nil pass0 (pa_cons (pv 1) pa_nil)))) pss_never pss_nil)
    (pss_cons (ps_if (pt_not (pt_val (pe_call GD hr (by rfl) gD kD bD .nil pass0 (pa_cons (pv 2) pa_nil)))) pss_never pss_nil)
    (pss_cons (ps_fld (pv 0) (pe_callTy call_tupleX (by rfl) T.tuple (by decide +kernel) (pa_cons (pv 1) pa_nil)) rfl)
    (pss_one (ps_fld (pv 0) (pe_callTy call_tupleX (by rfl) T.tuple (by decide +kernel) (pa_cons (pv 2) pa_nil)) rfl))))), ?_⟩
    have lw := o.lw
    have lu := o.lu
    have at_ := good_ans (K := K) (more := yes) hx (by omega) rfl fun z h => ⟨gt z h, by have := o.w z h; omega⟩
    have ad_ := good_ans (K := K) (more := full) hy (by omega) (decide_eq_true (by rw [List.length_map]; exact o.nu)) fun z h => ⟨gd z h, by have := o.u z h; omega⟩
    refine ⟨_, rfl, _, true, rfl, at_, fun H1 s1 => ⟨_, rfl, iteN rfl ⟨_, rfl, _, true, rfl, ad_.same s1, fun H2 s2 => ⟨_, rfl, iteN rfl ?_⟩⟩⟩⟩
    have s12 := s1.trans s2
    have nap : a ≠ p := by
      rcases hx with h | h
      · exact ne_of h hp (fun z => nomatch z)
      · exact ne_of h hp (fun z => nomatch z)
    have ncp : c ≠ p := by
      rcases hy with h | h
      · exact ne_of h hp (fun z => nomatch z)
      · exact ne_of h hp (fun z => nomatch z)
    refine ⟨_, rfl, a, _, rfl, hx.same s12, fun t H3 s3 h3 => ⟨_, rfl, p, C, dx, _, rfl, s3 _ _ (s12 _ _ hp), Z.cl, Z.tests, (by show 0 < 1000; decide), ?_⟩⟩
    have k4 : Kept p H (upd H3 p (.ins C dx (putF "tests" (.ref t) []))) := (Kept.of_same (s12.trans s3)).trans Kept.box
    have hy4 : SqX (upd H3 p (.ins C dx (putF "tests" (.ref t) []))) c (r.us.map V.str) := hy.imp (k4 _ _ ncp) (k4 _ _ ncp)
    have ntp : t ≠ p := ne_of h3 (s3 _ _ (s12 _ _ hp)) (fun z => nomatch z)
    refine ⟨_, rfl, c, _, rfl, hy4, fun d H5 s5 h5 => ⟨_, rfl, p, C, dx, _, rfl, s5 _ _ upd_same, Z.cl, Z.deeds, ?_, ?_⟩⟩
    · exact Nat.lt_of_le_of_lt (length_putF _ _ []) (by show 0 + 1 < 1000; decide)
    · have ndp : d ≠ p := ne_of h5 (s5 _ _ upd_same) (fun z => nomatch z)
      refine k _ ((k4.trans (Kept.of_same s5)).trans Kept.box) ⟨dx, t, d, upd_same, ?_, ?_⟩
      · rw [upd_ne ntp]
        exact s5 _ _ (by rw [upd_ne ntp]; exact h3)
      · rw [upd_ne ndp]
        exact h5
theorem ok_toolG {f fR C CT : Addr} {fd fdR : FuncData} {dvs : List V} (F : FunD K "__init__" "Tool.__init__" (defArgs sToolI) (defBody sToolI) (defScope sToolI) dvs [] f fd) (T : TxtK mg) (hbool : mg "bool" = none) (Z : ToolC K CT)
    (GR : FnOk P w K mg base CX0 2 fR fdR ["value"] (spAreR K C)) (gR : mg "are_rows" = some (.ref fR)) (kR : PySem.W.keepIn K (.ref fR) = true) (bR : Binds K fdR ["value"] []) : FnOk P w K mg base CX0 3 f fd ["self", "rows", "sorts"] (spToolG K C CT) := by
  refine F.ok scToolI (fun vs H Q E h => ?_) (fun cdv A outer s H vs Q E hr h => ?_)
  · obtain ⟨p, dx, a, xs, b, rfl, _⟩ := h
    rfl
  · obtain ⟨p, dx, a, xs, b, rfl, hp, hs, hl, hi, k⟩ := h
    refine ⟨_, (pss_cons (ps_if (pt_not (pt_val (pe_call GR hr (by rfl) gR kR bR .nil pass0 (pa_cons (pv 1) pa_nil)))) pss_never pss_nil)
    (pss_cons (ps_if (pt_not (pt_val (pe_callB call_isi (by rfl) T.isinstance (by decide +kernel) (pa_cons (pv 2) (pa_cons (pe_bltn (v := .ty "bool") (by rfl) hbool (by decide +kernel) rfl) pa_nil))))) pss_never pss_nil)
    (pss_cons (ps_fld (pv 0) (pe_callTy call_tupleG (by rfl) T.tuple (by decide +kernel) (pa_cons (pv 1) pa_nil)) rfl)
    (pss_one (ps_fld (pv 0) (pv 2) rfl))))), ?_⟩
    have an : AnsR K C H (.ref a) true := by
      refine .inr ⟨a, xs, List.replicate xs.length true, rfl, hs, hl, ⟨List.length_replicate, fun n x b hx hb => ?_⟩, ?_⟩
      · rw [(List.mem_replicate.mp (List.mem_of_getElem? hb)).2]
        exact hi x (List.mem_of_getElem? hx)
      · symm
        rw [List.all_eq_true]
        intro b hb
        rw [(List.mem_replicate.mp hb).2]
        rfl
    refine ⟨_, rfl, _, true, rfl, an, fun H1 s1 => ⟨_, rfl, iteN rfl ⟨_, rfl, _, _, _, _, true, rfl, .ty _, .base (.bl b), kit_ty (by decide +kernel), _, rfl, iteN rfl ?_⟩⟩⟩
    refine ⟨_, rfl, a, xs, rfl, hs.same s1, fun l H2 s2 hl2 => ⟨_, rfl, p, CT, dx, _, rfl, s2 _ _ (s1 _ _ hp), Z.cl, Z.rows, (by show 0 < 1000; decide), ?_⟩⟩
    refine ⟨_, rfl, _, rfl, p, CT, dx, _, rfl, upd_same, Z.cl, Z.sorts, ?_, ?_⟩
    · exact Nat.lt_of_le_of_lt (length_putF _ _ []) (by show 0 + 1 < 1000; decide)
    · exact k _ l ((hl2.put_ins (s2 _ _ (s1 _ _ hp))).put_ins upd_same) (((Kept.of_same (s1.trans s2)).trans Kept.box).trans Kept.box) upd_same
end
end Lay
set_option Elab.async false
set_option linter.all false
set_option maxRecDepth 100000
set_option maxHeartbeats 4000000
namespace Lay
open PySem L2
theorem made_same {x dx : Addr} {H H' : Hp} {o : HO} (hx : H x = none) (hd : H dx = none) (k : Kept x (upd (upd H dx (.own x)) x o) H') : Same H H' := fun b u e => k b u (ne_of_none e hx) (by rw [upd_ne (ne_of_none e hx), upd_ne (ne_of_none e hd)]; exact e)
theorem fresh_own {H : Hp} {p d : Addr} {o : HO} (np : H p = none) (ne : d ≠ p) : upd H d o p = none := by
  rw [upd_ne (Ne.symm ne)]
  exact np
theorem RowsAt.append {C : Addr} {H : Hp} {xs ys : List V} {rs qs : List RD} (h : RowsAt C H xs rs) (g : RowsAt C H ys qs) : RowsAt C H (xs ++ ys) (rs ++ qs) := by
  refine ⟨by rw [List.length_append, List.length_append, h.1, g.1], fun r hr => ?_, fun i x r hx hr => ?_⟩
  · rcases List.mem_append.mp hr with hr | hr
    · exact h.2.1 r hr
    · exact g.2.1 r hr
  · by_cases hi : i < xs.length
    · rw [List.getElem?_append_left hi] at hx
      rw [List.getElem?_append_left (by rw [← h.1]; exact hi)] at hr
      exact h.2.2 i x r hx hr
    · rw [List.getElem?_append_right (by omega)] at hx
      rw [List.getElem?_append_right (by rw [← h.1]; omega), ← h.1] at hr
      exact g.2.2 _ x r hx hr
theorem RowsAt.isP {K : PySem.W.Frag} {C : Addr} {H : Hp} {xs : List V} {rs : List RD} (c : ClsI K C) (h : RowsAt C H xs rs) : ∀ v ∈ xs, IsP K C H v true := fun v hv => by
  obtain ⟨i, hi⟩ := List.mem_iff_getElem?.mp hv
  have li := (List.getElem?_eq_some_iff.mp hi).1
  rw [h.1] at li
  obtain ⟨q, rfl, hq⟩ := h.2.2 i v rs[i] hi (by simp [li])
  exact hq.isP c
def spLenT (K : PySem.W.Frag) (C CT : Addr) : Sp := fun vs H Q _ => ∃ (p : Addr) (rs : List RD) (s : Bool), vs = [.ref p] ∧ ToolAt K C CT H p rs s ∧ Q (.int rs.length) H
def spEqT (K : PySem.W.Frag) (C CT : Addr) : Sp := fun vs H Q _ => ∃ (p q : Addr) (rs qs : List RD) (s t : Bool), vs = [.ref p, .ref q] ∧ ToolAt K C CT H p rs s ∧ ToolAt K C CT H q qs t ∧ ∀ H', Same H H' → Q (.bl (decide (V.str (toolText rs s) = V.str (toolText qs t)))) H'
/-- at p a tool of rs, its rows xs in the tuple t -/
def ToolX (K : PySem.W.Frag) (C CT : Addr) (H : Hp) (p t : Addr) (xs : List V) (rs : List RD) (s : Bool) : Prop := ∃ dx, H p = some (.ins CT dx (toolF t (.bl s))) ∧ TupG K H t xs ∧ RowsAt C H xs rs ∧ TB rs s
theorem ToolX.at {K : PySem.W.Frag} {C CT : Addr} {H : Hp} {p t : Addr} {xs : List V} {rs : List RD} {s : Bool} (h : ToolX K C CT H p t xs rs s) : ToolAt K C CT H p rs s := by
  obtain ⟨dx, h⟩ := h
  exact ⟨dx, t, xs, h⟩
theorem ToolX.same {K : PySem.W.Frag} {C CT : Addr} {H H' : Hp} {p t : Addr} {xs : List V} {rs : List RD} {s : Bool} (e : Same H H') (h : ToolX K C CT H p t xs rs s) : ToolX K C CT H' p t xs rs s := by
  obtain ⟨dx, h1, h2, h3, h4⟩ := h
  exact ⟨dx, e _ _ h1, h2.same e, h3.same e, h4⟩
theorem ToolAt.x {K : PySem.W.Frag} {C CT : Addr} {H : Hp} {p : Addr} {rs : List RD} {s : Bool} (h : ToolAt K C CT H p rs s) : ∃ t xs, ToolX K C CT H p t xs rs s := by
  obtain ⟨dx, t, xs, h⟩ := h
  exact ⟨t, xs, dx, h⟩
abbrev sLenT : Stmt := inClass (top 22) 3
abbrev sAddT : Stmt := inClass (top 22) 6
abbrev sEqT : Stmt := inClass (top 22) 7
section
variable {P : Program} {w : World} {K : PySem.W.Frag} {mg : Str → Option Value} {base : Heap}
theorem scLenT : FnScope ["self"] ["self"] (defScope sLenT) := ⟨rfl, rfl, rfl, by decide +kernel, rfl, by decide +kernel, by decide +kernel⟩
theorem ok_lenT {f C CT : Addr} {fd : FuncData} (F : Fun K "__len__" "Tool.__len__" sLenT f fd) (hlen : mg "len" = none) (Z : ToolC K CT) : FnOk P w K mg base CX0 1 f fd ["self"] (spLenT K C CT) := by
  refine F.ok scLenT (fun vs H Q E h => ?_) (fun cdv A outer s H vs Q E hr h => ?_)
  · obtain ⟨p, rs, b, rfl, _⟩ := h
    rfl
  · obtain ⟨p, rs, b, rfl, ⟨dx, t, xs, hp, ht, hr', hl⟩, k⟩ := h
    refine ⟨_, pss_one (ps_ret (pe_callB call_len_seq (by rfl) hlen PySem.boot_len (pa_cons (pe_fld (pv 0) rfl) pa_nil))), ?_⟩
    refine ⟨_, rfl, p, CT, dx, _, _, rfl, hp, Z.cl, Z.rows, rfl, t, xs, rfl, .inr ht.sqT, ?_⟩
    rw [hr'.1]
    exact k
theorem scEqT : FnScope ["self", "other"] ["self", "other"] (defScope sEqT) := ⟨rfl, rfl, rfl, by decide +kernel, rfl, by decide +kernel, by decide +kernel⟩
theorem ok_eqT {f fS C CT : Addr} {fd fdS : FuncData} (F : Fun K "__eq__" "Tool.__eq__" sEqT f fd) (T : TxtK mg) (c : ClsI K CT) (gT : mg "Tool" = some (.ref CT))
    (GS : FnOk P w K mg base CX0 5 fS fdS ["self"] (spStrTool K C CT)) (hs : PySem.W.findIn K (.ref CT) "__str__" = some (some (.ref fS))) (hf : PySem.W.isFn K (.ref fS) = true) (bS : Binds K fdS ["self"] []) : FnOk P w K mg base CX0 8 f fd ["self", "other"] (spEqT K C CT) := by
  refine F.ok scEqT (fun vs H Q E h => ?_) (fun cdv A outer s H vs Q E hr h => ?_)
  · obtain ⟨p, q, rs, qs, b, b2, rfl, _⟩ := h
    rfl
  · obtain ⟨p, q, rs, qs, b, b2, rfl, hp, hq, k⟩ := h
    refine ⟨_, pss_one (ps_ret (pe_and (pe_callB call_isi (by rfl) T.isinstance (by decide +kernel) (pa_cons (pv 1) (pa_cons (pe_glob (v := .ref CT) (by rfl) gT rfl) pa_nil)))
      (pe_one (pe_cmpR op_eq (pe_callTy (call_strOwn GS hs hf hr bS pass0) (by rfl) T.str (by decide +kernel) (pa_cons (pv 0) pa_nil)) (pe_callTy (call_strOwn GS hs hf hr bS pass0) (by rfl) T.str (by decide +kernel) (pa_cons (pv 1) pa_nil)) (nomark _))))), ?_⟩
    obtain ⟨dx2, t2, xs2, hq2, _⟩ := id hq
    obtain ⟨dx1, t1, xs1, hp1, _⟩ := id hp
    refine ⟨_, rfl, _, _, _, _, true, rfl, .own _, c.at hq2, kit_same, _, rfl, iteY rfl ?_⟩
    refine ⟨_, rfl, p, dx1, _, rfl, hp1, p, rs, b, rfl, hp, fun H1 s1 => ⟨_, rfl, _, rfl, q, dx2, _, rfl, s1 _ _ hq2, q, qs, b2, rfl, hq.same s1, fun H2 s2 => ⟨_, rfl, rfl, k H2 (s1.trans s2)⟩⟩⟩
end
end Lay
set_option Elab.async false
set_option linter.all false
set_option maxRecDepth 100000
set_option maxHeartbeats 4000000
namespace Lay
open PySem L2
theorem str_assoc (a b c : Str) : (a ++ b) ++ c = a ++ (b ++ c) := by
  cases a
  cases b
  cases c
  show Str.mk _ = Str.mk _
  congr 1
  exact Array.append_assoc
/-- the law's text of a row -/
theorem rowText_none {r : RD} (h : r.ws = []) : rowText r = (Str.ofString "" ++ Str.ofString "do ") ++ Txt.join " then " r.us := by
  unfold rowText rowWords
  rw [if_pos h, TL.join_eq]
  show Str.ofString "do" ++ Str.ofString " " ++ Txt.join " then " r.us = _
  rw [show Str.ofString "do" ++ Str.ofString " " = Str.ofString "" ++ Str.ofString "do " from by decide +kernel]
theorem rowText_some {r : RD} (h : ¬ r.ws = []) : rowText r = (((Str.ofString "if " ++ Txt.join " and " r.ws) ++ Str.ofString " ") ++ Str.ofString "do ") ++ Txt.join " then " r.us := by
  unfold rowText rowWords
  rw [if_neg h, TL.join_eq]
  show Str.ofString "if" ++ Str.ofString " " ++ (Txt.join " and " r.ws ++ Str.ofString " " ++ (Str.ofString "do" ++ Str.ofString " " ++ Txt.join " then " r.us)) = _
  rw [show Str.ofString "if " = Str.ofString "if" ++ Str.ofString " " from by decide +kernel, show Str.ofString "do " = Str.ofString "do" ++ Str.ofString " " from by decide +kernel]
  simp only [str_assoc]
/-- a pair of tests and deeds -/
def PrAt (H : Hp) (p : Addr) (r : RD) : Prop := ∃ t d, H p = some (.tup [.ref t, .ref d]) ∧ H t = some (.tup (r.ws.map V.str)) ∧ H d = some (.tup (r.us.map V.str))
theorem PrAt.same {H H' : Hp} {p : Addr} {r : RD} (s : Same H H') (h : PrAt H p r) : PrAt H' p r := by
  obtain ⟨t, d, h1, h2, h3⟩ := h
  exact ⟨t, d, s _ _ h1, s _ _ h2, s _ _ h3⟩
def spRowText : Sp := fun vs H Q _ => ∃ (p : Addr) (r : RD), vs = [.ref p] ∧ PrAt H p r ∧ r.Ok ∧ ∀ H', Same H H' → Q (.str (rowText r)) H'
abbrev sRowText : Stmt := top 32
theorem strs_dp {K : PySem.W.Frag} {H : Hp} : ∀ ws : List Str, DpAll K H (ws.map V.str) (ws.map PyData.str)
  | [] => .nil
  | w :: ws => .cons (.str w) (strs_dp ws)
theorem canLay_strs : ∀ ws : List Str, (∀ z ∈ ws, PyData.strOk z = true) → PyData.canLayAll0 (ws.map PyData.str) = true
  | [], _ => by simp [PyData.canLayAll0]
  | n :: r, h => by simp [PyData.canLayAll0, PyData.canLay0, h n List.mem_cons_self, canLay_strs r fun z hz => h z (List.mem_cons_of_mem _ hz)]
theorem depth_strs : ∀ ws : List Str, PyData.depthAll (ws.map PyData.str) ≤ 1
  | [] => by simp [PyData.depthAll]
  | n :: r => by
    have := depth_strs r
    simp only [List.map_cons, PyData.depthAll, PyData.depth]
    omega
theorem shaped_strs (ws : List Str) (h : ∀ z ∈ ws, PyData.strOk z = true) : PySem.SeqAt.shaped (.tuple (ws.map PyData.str)) = true := by
  have h1 := depth_strs ws
  have h2 : PyData.depth (.tuple (ws.map PyData.str)) ≤ 64 := by simp only [PyData.depth]; omega
  show (PyData.canLay0 (.tuple (ws.map PyData.str)) && decide (PyData.depth (.tuple (ws.map PyData.str)) ≤ 64)) = true
  rw [Bool.and_eq_true]
  exact ⟨by simp only [PyData.canLay0]; exact canLay_strs ws h, decide_eq_true h2⟩
theorem eqv_tup (ws : List Str) : PyData.eqv (.tuple (ws.map .str)) (.tuple []) = ws.isEmpty := by
  cases ws <;> rfl
section
variable {P : Program} {w : World} {K : PySem.W.Frag} {mg : Str → Option Value} {base : Heap}
theorem scRowText : FnScope ["_law_row"] ["_law_row"] (defScope sRowText) := ⟨rfl, rfl, rfl, by decide +kernel, rfl, by decide +kernel, by decide +kernel⟩
theorem ok_rowText {f : Addr} {fd : FuncData} (F : Fun K "_law_row_text" "_law_row_text" sRowText f fd) : FnOk P w K mg base CX0 1 f fd ["_law_row"] spRowText := by
  refine F.ok scRowText (fun vs H Q E h => ?_) (fun cdv A outer s H vs Q E hr h => ?_)
  · obtain ⟨p, r, rfl, _⟩ := h
    rfl
  · obtain ⟨p, r, rfl, ⟨t, d, hp, ht, hd⟩, o, k⟩ := h
    refine ⟨_, pss_one (ps_ret (pe_op op_add_str (pe_op op_add_str (pe_ifExp (pt_cmpR (op_neD hr.units) (pe_ix ix_tup (pv 0) pe_int (fun _ _ => rfl)) (pe_tup pa_nil) (nomark _))
        (pe_op op_add_str (pe_op op_add_str pe_str (pe_bm PySem.F.plainAttrs_str PySem.F.slot_str_join PySem.F.type_str_join mt_join pe_str (pa_cons (pe_ix ix_tup (pv 0) pe_int (fun _ _ => rfl)) pa_nil))) pe_str) pe_str) pe_str)
      (pe_bm PySem.F.plainAttrs_str PySem.F.slot_str_join PySem.F.type_str_join mt_join pe_str (pa_cons (pe_ix ix_tup (pv 0) pe_int (fun _ _ => rfl)) pa_nil)))), ?_⟩
    have hsum := sum_few o.u
    have hsum2 := sum_few o.w
    have lw := o.lw
    have lu := o.lu
    have h1 := join_le " then " r.us
    have h2 := join_le " and " r.ws
    have j1 : (Str.ofString " then ").length = 6 := by decide
    have j2 : (Str.ofString " and ").length = 5 := by decide
    have j3 : (Str.ofString "if ").length = 3 := by decide
    have j4 : (Str.ofString " ").length = 1 := by decide
    have j5 : (Str.ofString "do ").length = 3 := by decide
    have j6 : (Str.ofString "").length = 0 := by decide
    rw [j1] at h1
    rw [j2] at h2
    refine ⟨_, rfl, p, _, 0, .ref t, rfl, rfl, SqT.of hp, rfl, (by show 0 ≤ sizeLine; exact Nat.zero_le _), fun q nq => ?_⟩
    have sq := Same.new nq (o := .tup [])
    refine ⟨.tuple (r.ws.map .str), .tuple [], .tup (SqT.of (sq _ _ ht)) (strs_dp r.ws), .tup (SqT.of upd_same) .nil, shaped_strs r.ws o.k, rfl, _, rfl, ?_⟩
    rw [eqv_tup]
    by_cases e : r.ws = []
    · refine iteN (by rw [e]; rfl) ?_
      refine ⟨_, _, rfl, rfl, fits (by rw [j6, j5]; decide), rfl, _, rfl, p, _, 1, .ref d, rfl, rfl, SqT.of (sq _ _ hp), rfl, _, d, r.us, rfl, rfl, .inr (SqT.of (sq _ _ hd)), by rw [j1]; omega, _, _, rfl, rfl, fits (by rw [Str.length_append, j6, j5]; omega), ?_⟩
      rw [← rowText_none e]
      exact k _ sq
    · refine iteY (by cases h : r.ws with
        | nil => exact absurd h e
        | cons z zs => rfl) ?_
      refine ⟨rfl, _, rfl, p, _, 0, .ref t, rfl, rfl, SqT.of (sq _ _ hp), rfl, _, t, r.ws, rfl, rfl, .inr (SqT.of (sq _ _ ht)), by rw [j2]; omega, _, _, rfl, rfl, fits (by rw [j3]; omega), _, _, rfl, rfl, fits (by rw [Str.length_append, j3, j4]; omega), _, _, rfl, rfl, fits (by rw [Str.length_append, Str.length_append, j3, j4, j5]; omega),
        rfl, _, rfl, p, _, 1, .ref d, rfl, rfl, SqT.of (sq _ _ hp), rfl, _, d, r.us, rfl, rfl, .inr (SqT.of (sq _ _ hd)), by rw [j1]; omega, _, _, rfl, rfl, fits (by rw [Str.length_append, Str.length_append, Str.length_append, j3, j4, j5]; omega), ?_⟩
      rw [← rowText_some e]
      exact k _ sq
end
end Lay
set_option Elab.async false
set_option linter.all false
set_option maxRecDepth 100000
set_option maxHeartbeats 4000000
namespace Lay
open PySem L2
section
variable {X : Cx} {K : PySem.W.Frag}
theorem pg_tupK {es : List Expr} {k : Nat} {t : TGs} {n : Nat} {pos : Pos} (hK : X.K = K) (hc : X.calm = true) (h : PGs X es t) (hn : (assignEach es X.env).length = n := by rfl) (hst : (assignEach es X.env).findIdx? (·.1) = none := by rfl) : PG X (.Tuple es k pos) (gTup K n t) := by
  subst hK
  exact pg_tup hc h hn hst
end
/-- pairs that stand in a tuple -/
def PrsAt (H : Hp) (xs : List V) (rs : List RD) : Prop := xs.length = rs.length ∧ (∀ r ∈ rs, r.Ok ∧ (∀ z ∈ r.ws, progT z = true) ∧ ∀ z ∈ r.us, progD z = true) ∧ ∀ (i : Nat) (x : V) (r : RD), xs[i]? = some x → rs[i]? = some r → ∃ q, x = .ref q ∧ PrAt H q r
theorem PrsAt.same {H H' : Hp} {xs : List V} {rs : List RD} (s : Same H H') (h : PrsAt H xs rs) : PrsAt H' xs rs := ⟨h.1, h.2.1, fun i x r h1 h2 => by
  obtain ⟨q, e, hq⟩ := h.2.2 i x r h1 h2
  exact ⟨q, e, hq.same s⟩⟩
/-- at p the law's tool: pairs and a bool -/
def LawAt (H : Hp) (p : Addr) (rs : List RD) (s : Bool) : Prop := ∃ t xs, H p = some (.tup [.ref t, .bl s]) ∧ H t = some (.tup xs) ∧ PrsAt H xs rs ∧ TB rs s
theorem LawAt.same {H H' : Hp} {p : Addr} {rs : List RD} {s : Bool} (e : Same H H') (h : LawAt H p rs s) : LawAt H' p rs s := by
  obtain ⟨t, xs, h1, h2, h3, h4⟩ := h
  exact ⟨t, xs, e _ _ h1, e _ _ h2, h3.same e, h4⟩
def spToolText : Sp := fun vs H Q _ => ∃ (p : Addr) (rs : List RD) (s : Bool), vs = [.ref p] ∧ LawAt H p rs s ∧ ∀ H', Same H H' → Q (.str (toolText rs s)) H'
def spToolOf (K : PySem.W.Frag) (C CT : Addr) : Sp := fun vs H Q _ => ∃ (p : Addr) (rs : List RD) (s : Bool), vs = [.ref p] ∧ LawAt H p rs s ∧ ∀ c H', Same H H' → H c = none → ToolAt K C CT H' c rs s → Q (.ref c) H'
abbrev sToolText : Stmt := top 33
abbrev sToolOf : Stmt := top 34
section
variable {P : Program} {w : World} {K : PySem.W.Frag} {mg : Str → Option Value} {base : Heap}
theorem scToolText : FnScope ["_law_tool_here", "_law_row"] ["_law_tool_here"] (defScope sToolText) := ⟨rfl, rfl, rfl, by decide +kernel, rfl, by decide +kernel, by decide +kernel⟩
theorem ok_toolText {f fR : Addr} {fd fdR : FuncData} (F : Fun K "_law_tool_text" "_law_tool_text" sToolText f fd) (GR : FnOk P w K mg base CX0 1 fR fdR ["_law_row"] spRowText) (gR : mg "_law_row_text" = some (.ref fR)) (kR : PySem.W.keepIn K (.ref fR) = true) (bR : Binds K fdR ["_law_row"] []) :
    FnOk P w K mg base CX0 2 f fd ["_law_tool_here"] spToolText := by
  refine F.ok scToolText (fun vs H Q E h => ?_) (fun cdv A outer s H vs Q E hr h => ?_)
  · obtain ⟨p, rs, b, rfl, _⟩ := h
    rfl
  · obtain ⟨p, rs, b, rfl, hT, k⟩ := h
    refine ⟨_, pss_one (ps_ret (pe_bm PySem.F.plainAttrs_str PySem.F.slot_str_join PySem.F.type_str_join mt_join pe_str (pa_cons (pe_op op_cat (pe_lst (pa_cons (pe_ifExp (pt_val (pe_ix ix_tup (pv 0) pe_int (fun _ _ => rfl))) pe_str pe_str) pa_nil))
      (pe_lc (own := [("_law_row", 1)]) (g := gName 1) (tt := tYes) (by rfl) scToolText.nd (pi_tup (pe_ix ix_tup (pv 0) pe_int (fun _ _ => rfl))) (blkOk_by (N := ["_law_tool_here", "_law_row"]) (sc := defScope sToolText) (by decide +kernel)) (fun _ _ _ _ _ => pg_name (i := 1) scToolText.nd rfl (Or.inl rfl)) (fun _ _ _ _ _ => pts_nil)
        (fun _ _ _ _ _ => pe_call GR hr (by rfl) gR kR bR .nil pass0 (pa_cons (pv 1) pa_nil)))) pa_nil))), ?_⟩
    obtain ⟨t, xs, hp, ht, hrows, hl⟩ := id hT
    have lx : xs.length ≤ 100000 := by rw [hrows.1]; exact hl.1
    have hl1 := hl.1
    refine ⟨rfl, _, rfl, p, _, 1, .bl b, rfl, rfl, SqT.of hp, rfl, _, rfl, ?_⟩
    cases b with
    | true =>
      refine iteY rfl ⟨by show 1 ≤ sizeLine; decide, fun A1 nA => ?_⟩
      have sA := Same.new nA (o := .lst [.str (firstS true)])
      have hA : upd H A1 (.lst [.str (firstS true)]) A1 = some (.lst [.str (firstS true)]) := upd_same
      refine ⟨_, rfl, p, _, 0, .ref t, rfl, rfl, SqT.of (sA _ _ hp), rfl, t, rfl, ⟨_, SqT.of (sA _ _ ht)⟩, fun D nD => lc_tup (xs := xs) (fun i G => Same (upd H A1 (.lst [.str (firstS true)])) G ∧ G D = some (.lst ((rs.take i).map fun r => V.str (rowText r)))) ⟨Same.new nD, upd_same⟩ (fun i G _ q => SqT.of (q.1 _ _ (sA _ _ ht))) ?_ ?_⟩
      · rintro i x G hi ⟨sG, hD⟩
        have li := (List.getElem?_eq_some_iff.mp hi).1
        rw [hrows.1] at li
        have er : rs[i]? = some rs[i] := by simp [li]
        obtain ⟨q, rfl, hq⟩ := ((hrows.same sA).same sG).2.2 i x _ hi er
        refine ⟨rfl, _, rfl, q, rs[i], rfl, hq, (hrows.2.1 _ (List.getElem_mem li)).1, fun G2 s2 => ⟨_, s2 _ _ hD, ?_, fun c u e => ?_, ?_⟩⟩
        · rw [List.length_map, List.length_take]
          exact smallT (by omega)
        · rw [upd_ne (ne_of_none e nD)]
          exact s2 _ _ (sG _ _ e)
        · rw [upd_same, List.take_succ, er, List.map_append]
          rfl
      · rintro G ⟨sG, hD⟩
        rw [hrows.1, List.take_length] at hD
        refine ⟨A1, D, _, _, rfl, rfl, sG _ _ hA, hD, fits (by rw [List.length_map]; show 1 + _ ≤ 16000000; omega), fun l nl => ?_⟩
        have sl := Same.new nl (o := .lst ([V.str (firstS true)] ++ rs.map fun r => V.str (rowText r)))
        refine ⟨_, l, firstS true :: rs.map rowText, rfl, rfl, .inl (SqL.of ?_), ?_, k _ ((sA.trans sG).trans sl)⟩
        · rw [upd_same, List.map_cons, List.map_map]
          rfl
        · have j : (Str.ofString "\n").length = 1 := by decide
          have s1 := sum_le_join "\n" (firstS true :: rs.map rowText)
          have s2 : (Txt.join "\n" (firstS true :: rs.map rowText)).length ≤ 100000 := hl.2
          rw [j] at s1 ⊢
          omega
    | false =>
      refine iteN rfl ⟨by show 1 ≤ sizeLine; decide, fun A1 nA => ?_⟩
      have sA := Same.new nA (o := .lst [.str (firstS false)])
      have hA : upd H A1 (.lst [.str (firstS false)]) A1 = some (.lst [.str (firstS false)]) := upd_same
      refine ⟨_, rfl, p, _, 0, .ref t, rfl, rfl, SqT.of (sA _ _ hp), rfl, t, rfl, ⟨_, SqT.of (sA _ _ ht)⟩, fun D nD => lc_tup (xs := xs) (fun i G => Same (upd H A1 (.lst [.str (firstS false)])) G ∧ G D = some (.lst ((rs.take i).map fun r => V.str (rowText r)))) ⟨Same.new nD, upd_same⟩ (fun i G _ q => SqT.of (q.1 _ _ (sA _ _ ht))) ?_ ?_⟩
      · rintro i x G hi ⟨sG, hD⟩
        have li := (List.getElem?_eq_some_iff.mp hi).1
        rw [hrows.1] at li
        have er : rs[i]? = some rs[i] := by simp [li]
        obtain ⟨q, rfl, hq⟩ := ((hrows.same sA).same sG).2.2 i x _ hi er
        refine ⟨rfl, _, rfl, q, rs[i], rfl, hq, (hrows.2.1 _ (List.getElem_mem li)).1, fun G2 s2 => ⟨_, s2 _ _ hD, ?_, fun c u e => ?_, ?_⟩⟩
        · rw [List.length_map, List.length_take]
          exact smallT (by omega)
        · rw [upd_ne (ne_of_none e nD)]
          exact s2 _ _ (sG _ _ e)
        · rw [upd_same, List.take_succ, er, List.map_append]
          rfl
      · rintro G ⟨sG, hD⟩
        rw [hrows.1, List.take_length] at hD
        refine ⟨A1, D, _, _, rfl, rfl, sG _ _ hA, hD, fits (by rw [List.length_map]; show 1 + _ ≤ 16000000; omega), fun l nl => ?_⟩
        have sl := Same.new nl (o := .lst ([V.str (firstS false)] ++ rs.map fun r => V.str (rowText r)))
        refine ⟨_, l, firstS false :: rs.map rowText, rfl, rfl, .inl (SqL.of ?_), ?_, k _ ((sA.trans sG).trans sl)⟩
        · rw [upd_same, List.map_cons, List.map_map]
          rfl
        · have j : (Str.ofString "\n").length = 1 := by decide
          have s1 := sum_le_join "\n" (firstS false :: rs.map rowText)
          have s2 : (Txt.join "\n" (firstS false :: rs.map rowText)).length ≤ 100000 := hl.2
          rw [j] at s1 ⊢
          omega
end
end Lay
set_option Elab.async false
set_option linter.all false
set_option maxRecDepth 100000
set_option maxHeartbeats 4000000
/-! x += y by __add__; sequences of the same objects compared. -/
namespace Lay
open PySem PySem.Spec PyProof.Rows L2
theorem refs_eq : ∀ {xs : List V} {as bs : List Value}, (∀ v ∈ xs, ∃ p, v = V.ref p) → Vals xs as → Vals xs bs → as = bs
  | [], _, _, _, ra, rb => by
    cases ra
    cases rb
    rfl
  | x :: xs, _, _, h, ra, rb => by
    obtain ⟨p, rfl⟩ := h x List.mem_cons_self
    cases ra with
    | cons r1 ra =>
      cases rb with
      | cons r2 rb =>
        cases r1
        cases r2
        rw [refs_eq (fun v hv => h v (List.mem_cons_of_mem _ hv)) ra rb]
section
variable {X : Cx}
theorem op_neSameT (hu : X.A.units + 64 < cLine) : OpR X (compareOp .NotEq) (fun x y H Q => ∃ a b xs, x = .ref a ∧ y = .ref b ∧ SqT X.K H a xs ∧ SqT X.K H b xs ∧ (∀ v ∈ xs, ∃ p, v = V.ref p) ∧ Q (.bl false) H) := by
  intro pins s σ H x y v u Q I rx ry h
  obtain ⟨a, b, xs, rfl, rfl, ha, hb, hr, q⟩ := h
  cases rx
  cases ry
  obtain ⟨its, r, p1, _⟩ := I.tuple ha
  obtain ⟨its2, r2, p2, _⟩ := I.tuple hb
  obtain rfl := refs_eq hr r r2
  refine SeqAt.RcNeAt.tuples (A := X.A) (e := fun _ => true) p1 p2 (by omega) (fun j h1 h2 => SeqAt.EqAt.same _) X.prog X.w X.xe (EP X pins σ Q) ?_
  have : (!((List.range (min its.toArray.size its.toArray.size)).all (fun _ => true) && its.toArray.size == its.toArray.size)) = false := by simp
  rw [this]
  exact ⟨.bl false, H, I, rfl, q⟩
theorem op_eqSameT (hu : X.A.units + 64 < cLine) : OpR X (compareOp .Eq) (fun x y H Q => ∃ a b xs, x = .ref a ∧ y = .ref b ∧ SqT X.K H a xs ∧ SqT X.K H b xs ∧ (∀ v ∈ xs, ∃ p, v = V.ref p) ∧ Q (.bl true) H) := by
  intro pins s σ H x y v u Q I rx ry h
  obtain ⟨a, b, xs, rfl, rfl, ha, hb, hr, q⟩ := h
  cases rx
  cases ry
  obtain ⟨its, r, p1, _⟩ := I.tuple ha
  obtain ⟨its2, r2, p2, _⟩ := I.tuple hb
  obtain rfl := refs_eq hr r r2
  refine SeqAt.RcAt.tuples (A := X.A) (e := fun _ => true) p1 p2 (by omega) (fun j h1 h2 => SeqAt.EqAt.same _) X.prog X.w X.xe (EP X pins σ Q) ?_
  have : ((List.range (min its.toArray.size its.toArray.size)).all (fun _ => true) && its.toArray.size == its.toArray.size) = true := by simp
  rw [this]
  exact ⟨.bl true, H, I, rfl, q⟩
theorem op_neSameL (hu : X.A.units + 64 < cLine) : OpR X (compareOp .NotEq) (fun x y H Q => ∃ a b xs, x = .ref a ∧ y = .ref b ∧ SqL X.K H a xs ∧ SqL X.K H b xs ∧ (∀ v ∈ xs, ∃ p, v = V.ref p) ∧ Q (.bl false) H) := by
  intro pins s σ H x y v u Q I rx ry h
  obtain ⟨a, b, xs, rfl, rfl, ha, hb, hr, q⟩ := h
  cases rx
  cases ry
  obtain ⟨its, r, p1, _⟩ := I.list ha
  obtain ⟨its2, r2, p2, _⟩ := I.list hb
  obtain rfl := refs_eq hr r r2
  refine SeqAt.RcNeAt.lists (A := X.A) (e := fun _ => true) p1.isList p2.isList rfl (by omega) (fun j h1 h2 => SeqAt.EqAt.same _) X.prog X.w X.xe (EP X pins σ Q) ?_
  have : (!((List.range its.toArray.size).all (fun _ => true))) = false := by simp
  rw [this]
  exact ⟨.bl false, H, I, rfl, q⟩
end
section
variable {prog : Program} {w : World} {A : Around} {E : Value → Shared → Prop} {s : Shared} {K : PySem.W.Frag} {x C L f : Addr} {h₀ : Heap} {m : Str → Option Value} {ox : Obj} {od : Option Obj}
theorem fillsI_K {M : Model} {h : Heap} {cd : ClassData} {nm : String} {b : Bool} (X : K.In h) (hc : PySem.W.clsIn K C = some cd) (hm : cd.mro = [.ref C, .type "object"]) (h1 : PySem.W.findIn K (.ref C) (PySem.dunderI nm) = some none)
    (h2 : PySem.W.findIn K (.type "object") (PySem.dunderI nm) = some none) : PySem.W.Looks M h (fillsInplaceSlot (.ref C) nm b) false := by
  intro A Q E s k q
  unfold fillsInplaceSlot
  refine wpAny_bind ((PySem.W.looks_clsIn X hc).andThen (f := fun cd => pure cd.mro) .now A _ E s k ?_)
  rw [hm, List.anyM_cons]
  refine wpAny_bind (wpAny_bind (PySem.W.looks_findIn X h1 A _ E s k ?_))
  refine wpAny_pure ?_
  rw [if_neg Bool.false_ne_true, List.anyM_cons]
  refine wpAny_bind (wpAny_bind (PySem.W.looks_findIn X h2 A _ E s k ?_))
  refine wpAny_pure ?_
  rw [if_neg Bool.false_ne_true]
  exact wpAny_pure q
theorem iop_K {op : Operator} {b : Value} {cd : ClassData} {Q : Value → Shared → Prop} (F : PyProof.Rows.Fr h₀ L s.heap m) (X₀ : K.In h₀) (I : PySem.W.InstAt s.heap x ox C od) (hb : PySem.W.Looks (model prog w) s.heap (typeOf b) (.ref C)) (hcd : PySem.W.clsIn K C = some cd) (hm : cd.mro = [.ref C, .type "object"])
    (h1 : PySem.W.findIn K (.ref C) (PySem.dunderI op.info.2) = some none) (h2 : PySem.W.findIn K (.type "object") (PySem.dunderI op.info.2) = some none)
    (hs : PySem.W.findIn K (.ref C) (PySem.dunder op.info.2) = some (some (.ref f))) (hf : PySem.W.isFn K (.ref f) = true)
    (h : wpAny (model prog w) A (call (.ref f) [.ref x, b]) (PySem.W.CmpBack Q) E s) : wpAny (model prog w) A (inplaceOp op (.ref x) b) Q E s := by
  have X := X₀.keeps F.keep
  unfold inplaceOp
  refine wpAny_holding (wpAny_bind (I.type.here (wpAny_bind ((fillsI_K X hcd hm h1 h2).here ?_))))
  simp only [Bool.false_eq_true, if_false]
  refine wpAny_bind ?_
  unfold binaryOp1
  refine wpAny_bind (I.type.here (wpAny_bind (hb.here (wpAny_bind ((PySem.W.fills_K X hcd hm hs).here ?_)))))
  simp only [beq_self_eq_true, if_true]
  refine wpAny_bind (wpAny_pure ?_)
  simp only [Bool.and_false, Bool.false_eq_true, if_false, Bool.false_and]
  refine wpAny_bind (wpAny_pure ?_)
  simp only [Bool.false_eq_true, if_false]
  refine wpAny_bind (m := tryMethod (.ref x) _ b) ?_
  unfold tryMethod
  refine wpAny_bind (PySem.W.special_fn X I hs (beq_iff_eq.mp hf) (wpAny_mono h (fun v s' hv => ?_) fun _ _ e => e))
  cases v <;> first | exact hv.elim | exact wpAny_pure (wpAny_pure (wpAny_pure hv))
end
section
variable {X : Cx} {CX : CXT} {C f : Addr} {n : Nat} {fd : FuncData} {ps : List Str} {sp : Sp}
/-- x += y, two instances of the class, by its __add__ -/
theorem ip_addOwn {cd : ClassData} (F : FnOk X.prog X.w X.K X.mg X.base CX n f fd ps sp) (hs : PySem.W.findIn X.K (.ref C) "__add__" = some (some (.ref f))) (hcd : PySem.W.clsIn X.K C = some cd) (hm : cd.mro = [.ref C, .type "object"]) (h1 : PySem.W.findIn X.K (.ref C) "__iadd__" = some none)
    (h2 : PySem.W.findIn X.K (.type "object") "__iadd__" = some none) (hf : PySem.W.isFn X.K (.ref f) = true) (hr : Room n X.A) (hb : Binds X.K fd ps []) (hx : Passes CX X E0) :
    PIp X .Add (fun x y H Q => ∃ (a b dx dy : Addr) (fs gs : List (Str × V)), x = .ref a ∧ y = .ref b ∧ H a = some (.ins C dx fs) ∧ H b = some (.ins C dy gs) ∧ sp [.ref a, .ref b] H (fun v H' => ∃ c, v = .ref c ∧ Q (.ref c) H') E0) := by
  intro pins s σ H x y v u Q I rx ry h
  obtain ⟨a, b, dx, dy, fs, gs, rfl, rfl, ha, hb2, q⟩ := h
  cases rx
  cases ry
  obtain ⟨mA, J, _⟩ := ins_get I.hok ha
  obtain ⟨mB, J', _⟩ := ins_get I.hok hb2
  obtain ⟨od, J, _⟩ := J.look
  obtain ⟨od', J', _⟩ := J'.look
  obtain ⟨m, hF⟩ := I.fr
  have sb : Sub X n X.A := ⟨hr, rfl⟩
  refine iop_K (op := .Add) hF I.ok.mod.kin J J'.type hcd hm h1 h2 hs hf (run_sub (vs := [V.ref a, V.ref b]) F sb hb hx I (.cons rfl (.cons rfl .nil)) q fun v u H' s' I' rv hq => ?_)
  obtain ⟨c, rfl, hq⟩ := hq
  cases rv
  exact ⟨.ref c, H', I', rfl, hq⟩
end
end Lay
set_option Elab.async false
set_option linter.all false
set_option maxRecDepth 100000
set_option maxHeartbeats 4000000
/-! Tools, by rules: +, !=, ==, str, len, .rows, .sorts, without, Tool(..). -/
namespace Lay
open PySem PySem.Spec PyProof.Rows L2
/-- a reading with a weaker wish -/
def clo (t : TE) : TE := fun σ H Q => ∃ R : VK, t σ H R ∧ ∀ v H1, R v H1 → Q v H1
def cloA (t : TA) : TA := fun σ H Q => ∃ R : List V → Hp → Prop, t σ H R ∧ ∀ v H1, R v H1 → Q v H1
section
variable {X : Cx} {e : Expr} {es : List Expr} {ta : TE} {t : TA}
theorem pe_clo (he : PE X e ta) : PE X e (clo ta) := ⟨fun pins s σ H Q I h => by
  obtain ⟨R, hR, m⟩ := h
  refine thn (he.run pins s σ H R I hR) fun v s' hv => ?_
  obtain ⟨x, H', I', r, q⟩ := hv
  exact ⟨x, H', I', r, m _ _ q⟩⟩
theorem pa_clo (ha : PA X es t) : PA X es (cloA t) := ⟨fun pos pins s σ H Q I h => by
  obtain ⟨R, hR, m⟩ := h
  refine thn (ha.run pos pins s σ H R I hR) fun v s' hv => ?_
  obtain ⟨x, H', I', r, q⟩ := hv
  exact ⟨x, H', I', r, m _ _ q⟩⟩
end
/-- what is had of the class Tool -/
structure TlF (P : Program) (w : World) (K : PySem.W.Frag) (mg : Str → Option Value) (base : Heap) (C CT : Addr) : Prop where
  c0 : ClsI K C
  Z : ToolC K CT
  g : mg "Tool" = some (.ref CT)
  str : ∃ f fd, FnOk P w K mg base CX0 5 f fd ["self"] (spStrTool K C CT) ∧ PySem.W.findIn K (.ref CT) "__str__" = some (some (.ref f)) ∧ PySem.W.isFn K (.ref f) = true ∧ Binds K fd ["self"] []
  len : ∃ f fd, FnOk P w K mg base CX0 1 f fd ["self"] (spLenT K C CT) ∧ PySem.W.findIn K (.ref CT) "__len__" = some (some (.ref f)) ∧ PySem.W.isFn K (.ref f) = true ∧ Binds K fd ["self"] []
  eq : ∃ f fd, FnOk P w K mg base CX0 8 f fd ["self", "other"] (spEqT K C CT) ∧ PySem.W.findIn K (.ref CT) "__eq__" = some (some (.ref f)) ∧ PySem.W.isFn K (.ref f) = true ∧ Binds K fd ["self", "other"] []
  ne : PySem.W.findIn K (.ref CT) "__ne__" = some (some (.builtin "object.__ne__"))
  mo : PySem.W.mroIn K CT (.type "object") = some true
  made : ∃ f fd, Mk K CT f ∧ FnOk P w K mg base CX0 3 f fd ["self", "rows", "sorts"] (spToolG K C CT) ∧ Binds K fd ["self", "rows", "sorts"] [] ∧ (∃ ds, Vals [V.bl false] ds ∧ Binds K fd ["self", "rows", "sorts"] ds) ∧
    ∃ e ds, Vals [V.ref e, V.bl false] ds ∧ Binds K fd ["self", "rows", "sorts"] ds ∧ ∀ H : Hp, TupG K H e []
section
variable {X : Cx} {C CT : Addr}
variable (T : TlF X.prog X.w X.K X.mg X.base C CT)
include T
theorem op_eqTl (hr : Room 8 X.A) : OpR X (compareOp .Eq) (fun x y H Q => ∃ p q rs qs s t, x = .ref p ∧ y = .ref q ∧ ToolAt X.K C CT H p rs s ∧ ToolAt X.K C CT H q qs t ∧ ∀ H', Same H H' → Q (.bl (decide (V.str (toolText rs s) = V.str (toolText qs t)))) H') := by
  obtain ⟨f, fd, ok, hs, fn, b⟩ := T.eq
  intro pins s σ H x y v u Q I rx ry h
  obtain ⟨p, q, rs, qs, sp, sq, rfl, rfl, hp, hq, k⟩ := h
  obtain ⟨d1, _, _, h1, _⟩ := id hp
  obtain ⟨d2, _, _, h2, _⟩ := id hq
  exact op_eqOwn ok hs fn hr b pass0 pins s σ H _ _ v u Q I rx ry ⟨p, q, d1, d2, _, _, rfl, rfl, h1, h2, p, q, rs, qs, sp, sq, rfl, hp, hq, fun H' s' => ⟨_, rfl, k H' s'⟩⟩
theorem op_neTl (hr : Room 9 X.A) : OpR X (compareOp .NotEq) (fun x y H Q => ∃ p q rs qs s t, x = .ref p ∧ y = .ref q ∧ ToolAt X.K C CT H p rs s ∧ ToolAt X.K C CT H q qs t ∧ ∀ H', Same H H' → Q (.bl (!decide (V.str (toolText rs s) = V.str (toolText qs t)))) H') := by
  obtain ⟨f, fd, ok, hs, fn, b⟩ := T.eq
  intro pins s σ H x y v u Q I rx ry h
  obtain ⟨p, q, rs, qs, sp, sq, rfl, rfl, hp, hq, k⟩ := h
  obtain ⟨d1, _, _, h1, _⟩ := id hp
  obtain ⟨d2, _, _, h2, _⟩ := id hq
  exact op_neOwn ok hs T.ne T.mo fn hr b pass0 pins s σ H _ _ v u Q I rx ry ⟨p, q, d1, d2, _, _, rfl, rfl, h1, h2, p, q, rs, qs, sp, sq, rfl, hp, hq, fun H' s' => ⟨_, rfl, k H' s'⟩⟩
theorem call_strTl (hr : Room 7 X.A) : CallR X (.type "str") (fun xs H Q => ∃ p rs s, xs = [.ref p] ∧ ToolAt X.K C CT H p rs s ∧ ∀ H', Same H H' → Q (.str (toolText rs s)) H') := by
  obtain ⟨f, fd, ok, hs, fn, b⟩ := T.str
  intro pins s σ H xs us Q I r h
  obtain ⟨p, rs, sp, rfl, hp, k⟩ := h
  obtain ⟨d1, _, _, h1, _⟩ := id hp
  exact call_strOwn ok hs fn hr b pass0 pins s σ H _ us Q I r ⟨p, d1, _, rfl, h1, p, rs, sp, rfl, hp, fun H' s' => ⟨_, rfl, k H' s'⟩⟩
theorem call_lenTl (hr : Room 2 X.A) : CallR X (.builtin "len") (fun xs H Q => ∃ p rs s, xs = [.ref p] ∧ ToolAt X.K C CT H p rs s ∧ Q (.int rs.length) H) := by
  obtain ⟨f, fd, ok, hs, fn, b⟩ := T.len
  intro pins s σ H xs us Q I r h
  obtain ⟨p, rs, sp, rfl, hp, k⟩ := h
  obtain ⟨d1, _, _, h1, _, _, hl⟩ := id hp
  have hl := hl.1
  exact call_lenOwn ok hs fn hr b pass0 pins s σ H _ us Q I r ⟨p, d1, _, rfl, h1, p, rs, sp, rfl, hp, rs.length, rfl, by omega, by omega, k⟩
omit T in
theorem pe_fldX {e : Expr} {ta : TE} {f : Str} {pos : Pos} (he : PE X e ta) (c : Cls X.K CT) (nf : NoAttr X.K CT f) (hb : attributeBase e f X.env (eval e X.env) = eval e X.env := by rfl) :
    PE X (.Attribute e f pos) (fun σ H Q => ta σ H fun x H1 => ∃ p dx fs v, x = .ref p ∧ H1 p = some (.ins CT dx fs) ∧ fs.lookup f = some v ∧ Q v H1) := by
  refine pe_mono (pe_fld (pe_clo he) hb) fun σ H Q h => ⟨_, h, fun v H1 q => ?_⟩
  obtain ⟨p, dx, fs, y, rfl, hp, hl, q⟩ := q
  exact ⟨p, CT, dx, fs, y, rfl, hp, c, nf, hl, q⟩
theorem pe_rowsT {e : Expr} {ta : TE} {pos : Pos} (he : PE X e ta) (hb : attributeBase e "rows" X.env (eval e X.env) = eval e X.env := by rfl) :
    PE X (.Attribute e "rows" pos) (fun σ H Q => ta σ H fun x H1 => ∃ p t xs rs s, x = .ref p ∧ ToolX X.K C CT H1 p t xs rs s ∧ Q (.ref t) H1) := by
  refine pe_mono (pe_fldX (pe_clo he) T.Z.cl T.Z.rows hb) fun σ H Q h => ⟨_, h, fun v H1 q => ?_⟩
  obtain ⟨p, t, xs, rs, s, rfl, ⟨dx, hp, _⟩, q⟩ := q
  exact ⟨p, dx, _, _, rfl, hp, rfl, q⟩
theorem pe_sortsT {e : Expr} {ta : TE} {pos : Pos} (he : PE X e ta) (hb : attributeBase e "sorts" X.env (eval e X.env) = eval e X.env := by rfl) :
    PE X (.Attribute e "sorts" pos) (fun σ H Q => ta σ H fun x H1 => ∃ p rs s, x = .ref p ∧ ToolAt X.K C CT H1 p rs s ∧ Q (.bl s) H1) := by
  refine pe_mono (pe_fldX (pe_clo he) T.Z.cl T.Z.sorts hb) fun σ H Q h => ⟨_, h, fun v H1 q => ?_⟩
  obtain ⟨p, rs, s, rfl, ⟨dx, t, xs, hp, _⟩, q⟩ := q
  exact ⟨p, dx, _, _, rfl, hp, rfl, q⟩
/-- Tool(rows, sorts) -/
theorem pe_mkT {e : Expr} {es : List Expr} {t : TA} {x : Str} {p pos : Pos} (hx : x = "Tool") (hr : Room 4 X.A) (hg : Gl X x) (ha : PA X (e :: es) t) (he : starEach (e :: es) X.env = (false, eval e X.env) :: starEach es X.env := by rfl) (hpl : (backTo pos (starEach es X.env)).any (·.1) = false := by rfl) :
    PE X (.Call (.Name x p) (e :: es) [] pos) (fun σ H Q => t σ H fun vs H1 => ∃ a xs rs s, vs = [.ref a, .bl s] ∧ SqG X.K H1 a xs ∧ RowsAt C H1 xs rs ∧ TB rs s ∧ ∀ c u H', Same H1 H' → H1 c = none → ToolX X.K C CT H' c u xs rs s → Q (.ref c) H') := by
  subst hx
  obtain ⟨f, fd, M, ok, b, _⟩ := T.made
  refine pe_mono (pe_make M ok hr hg T.g b .nil pass0 (pa_clo ha) (by decide) he hpl) fun σ H Q h => ⟨_, h, fun vs H1 q => ?_⟩
  obtain ⟨a, xs, rs, sb, rfl, hs, hR, hl, k⟩ := q
  intro y dx nx nd ne
  have zz := (Same.new nd (o := .own y)).trans (Same.new (fresh_own (o := .own y) nx ne) (o := .ins CT dx []))
  refine ⟨y, dx, a, xs, sb, rfl, upd_same, hs.same zz, by rw [hR.1]; exact hl.1, (hR.same zz).isP T.c0, fun H2 u hu kp hx => ⟨rfl, ?_⟩⟩
  have s2 := made_same nx nd kp
  exact k y u H2 s2 nx ⟨dx, hx, hu, hR.same s2, hl⟩
/-- Tool(rows) -/
theorem pe_mkT1 {e : Expr} {t : TA} {x : Str} {p pos : Pos} (hx : x = "Tool") (hr : Room 4 X.A) (hg : Gl X x) (ha : PA X [e] t) (he : starEach [e] X.env = (false, eval e X.env) :: starEach [] X.env := by rfl) (hpl : (backTo pos (starEach [] X.env)).any (·.1) = false := by rfl) :
    PE X (.Call (.Name x p) [e] [] pos) (fun σ H Q => t σ H fun vs H1 => ∃ a xs rs, vs = [.ref a] ∧ SqG X.K H1 a xs ∧ RowsAt C H1 xs rs ∧ TB rs false ∧ ∀ c u H', Same H1 H' → H1 c = none → ToolX X.K C CT H' c u xs rs false → Q (.ref c) H') := by
  subst hx
  obtain ⟨f, fd, M, ok, _, ⟨ds, hd, b⟩, _⟩ := T.made
  refine pe_mono (pe_make M ok hr hg T.g b hd pass0 (pa_clo ha) (by decide) he hpl) fun σ H Q h => ⟨_, h, fun vs H1 q => ?_⟩
  obtain ⟨a, xs, rs, rfl, hs, hR, hl, k⟩ := q
  intro y dx nx nd ne
  have zz := (Same.new nd (o := .own y)).trans (Same.new (fresh_own (o := .own y) nx ne) (o := .ins CT dx []))
  refine ⟨y, dx, a, xs, false, rfl, upd_same, hs.same zz, by rw [hR.1]; exact hl.1, (hR.same zz).isP T.c0, fun H2 u hu kp hx => ⟨rfl, ?_⟩⟩
  have s2 := made_same nx nd kp
  exact k y u H2 s2 nx ⟨dx, hx, hu, hR.same s2, hl⟩
/-- Tool() -/
theorem pe_mkT0 {x : Str} {p pos : Pos} (hx : x = "Tool") (hr : Room 4 X.A) (hg : Gl X x) :
    PE X (.Call (.Name x p) [] [] pos) (fun σ H Q => ∀ c u H', Same H H' → H c = none → ToolX X.K C CT H' c u [] [] false → Q (.ref c) H') := by
  subst hx
  obtain ⟨f, fd, M, ok, _, _, e, ds, hd, b, he⟩ := T.made
  refine pe_mono (pe_make0 M ok hr hg T.g b hd pass0 (by decide)) fun σ H Q k => ?_
  intro y dx nx nd ne
  have zz := (Same.new nd (o := .own y)).trans (Same.new (fresh_own (o := .own y) nx ne) (o := .ins CT dx []))
  refine ⟨y, dx, e, [], false, rfl, upd_same, .inr (he _), Nat.zero_le _, fun v h => (List.not_mem_nil h).elim, fun H2 u hu kp hx => ⟨rfl, ?_⟩⟩
  have s2 := made_same nx nd kp
  exact k y u H2 s2 nx ⟨dx, hx, hu, ⟨rfl, fun r h => (List.not_mem_nil h).elim, fun i x r h _ => by cases h⟩, by decide, by decide +kernel⟩
end
section
variable {X : Cx}
/-- t + u, tracked tuples -/
theorem op_catH : OpR X (binaryOp .Add) (fun x y H Q => ∃ a b xs ys, x = .ref a ∧ y = .ref b ∧ H a = some (.tup xs) ∧ H b = some (.tup ys) ∧ xs.length + ys.length ≤ 1000 ∧ ∀ p H', Same H H' → H' p = some (.tup (xs ++ ys)) → Q (.ref p) H') := by
  intro pins s σ H x y v u Q I rx ry h
  obtain ⟨a, b, xs, ys, rfl, rfl, ha, hb, hl, q⟩ := h
  refine op_catA pins s σ H _ _ v u Q I rx ry ⟨a, b, xs, ys, rfl, rfl, SqT.of ha, SqT.of hb, fits (by omega), fun e => ?_, fun _ e => ?_, fun _ _ p np => q p _ (Same.new np) upd_same⟩
  · subst e
    exact q b H (Same.refl H) hb
  · subst e
    exact q a H (Same.refl H) (by rw [List.append_nil]; exact ha)
end
end Lay
set_option Elab.async false
set_option linter.all false
set_option maxRecDepth 100000
set_option maxHeartbeats 4000000
namespace Lay
open PySem L2 in
abbrev sToolOf2 : Stmt := top 34
open PySem L2
section
variable {P : Program} {w : World} {K : PySem.W.Frag} {mg : Str → Option Value} {base : Heap}
theorem scToolOf : FnScope ["_law_tool_here", "_law_tests_here", "_law_deeds_here"] ["_law_tool_here"] (defScope sToolOf2) := ⟨rfl, rfl, rfl, by decide +kernel, rfl, by decide +kernel, by decide +kernel⟩
theorem ok_toolOf {f fR fT C CT : Addr} {fd fdR fdT : FuncData} (F : Fun K "_law_tool_of" "_law_tool_of" sToolOf2 f fd) (c0 : ClsI K C) (MR : Mk K C fR) (GR : FnOk P w K mg base CX0 3 fR fdR ["self", "tests", "deeds"] (spRowG K C)) (gR : mg "Row" = some (.ref C)) (bR : Binds K fdR ["self", "tests", "deeds"] [])
    (MT : Mk K CT fT) (GT : FnOk P w K mg base CX0 3 fT fdT ["self", "rows", "sorts"] (spToolG K C CT)) (gT : mg "Tool" = some (.ref CT)) (bT : Binds K fdT ["self", "rows", "sorts"] []) : FnOk P w K mg base CX0 5 f fd ["_law_tool_here"] (spToolOf K C CT) := by
  refine F.ok scToolOf (fun vs H Q E h => ?_) (fun cdv A outer s H vs Q E hr h => ?_)
  · obtain ⟨p, rs, b, rfl, _⟩ := h
    rfl
  · obtain ⟨p, rs, b, rfl, hT, k⟩ := h
    refine ⟨_, pss_one (ps_ret (pe_make MT GT hr (by rfl) gT bT .nil pass0 (pa_cons
      (pe_lc (own := [("_law_tests_here", 1), ("_law_deeds_here", 2)]) (tt := tYes) (by rfl) scToolOf.nd (pi_tup (pe_ix ix_tup (pv 0) pe_int (fun _ _ => rfl))) (blkOk_by (N := ["_law_tool_here", "_law_tests_here", "_law_deeds_here"]) (sc := defScope sToolOf2) (by decide +kernel))
        (fun _ _ _ _ _ => pg_tupK (K := K) (n := 2) rfl rfl (pgs_cons (pg_name (i := 1) scToolOf.nd rfl (Or.inl rfl)) (pgs_cons (pg_name (i := 2) scToolOf.nd rfl (Or.inl rfl)) pgs_nil))) (fun _ _ _ _ _ => pts_nil)
        (fun _ _ _ _ _ => pe_make MR GR hr (by rfl) gR bR .nil pass0 (pa_cons (pv 1) (pa_cons (pv 2) pa_nil))))
      (pa_cons (pe_ix ix_tup (pv 0) pe_int (fun _ _ => rfl)) pa_nil)))), ?_⟩
    obtain ⟨t, xs, hp, ht, hrows, hl⟩ := id hT
    have lx : xs.length ≤ 100000 := by rw [hrows.1]; exact hl.1
    have hl1 := hl.1
    refine ⟨_, rfl, p, _, 0, .ref t, rfl, rfl, SqT.of hp, rfl, t, rfl, ⟨_, SqT.of ht⟩, fun D nD => lc_tup (xs := xs) (fun i G => ∃ acc : List V, Same H G ∧ G D = some (.lst acc) ∧ RowsAt C G acc (rs.take i)) ⟨[], Same.new nD, upd_same, rfl, fun r h => (List.not_mem_nil h).elim, fun i x r h => by simp at h⟩ (fun i G _ q => by obtain ⟨acc, q, _⟩ := q; exact SqT.of (q _ _ ht)) ?_ ?_⟩
    · rintro i x G hi ⟨acc, sG, hD, ra⟩
      have li0 := (List.getElem?_eq_some_iff.mp hi).1
      have li : i < rs.length := by rw [← hrows.1]; exact li0
      have er : rs[i]? = some rs[i] := by simp [li]
      obtain ⟨q, rfl, tt, d, h1, h2, h3⟩ := (hrows.same sG).2.2 i x _ hi er
      obtain ⟨o, gt, gd⟩ := hrows.2.1 _ (List.getElem_mem li)
      refine ⟨q, _, rfl, SqT.of h1, rfl, _, _, rfl, _, _, rfl, rfl, rfl, _, rfl, _, rfl, fun y dx ny nd ne => ?_⟩
      have zz := (Same.new nd (o := .own y)).trans (Same.new (fresh_own (o := .own y) ny ne) (o := .ins C dx []))
      refine ⟨y, dx, tt, d, rs[i], rfl, upd_same, .inr (zz _ _ h2), .inr (zz _ _ h3), o, gt, gd, fun G2 kp hy => ⟨rfl, acc, ?_, ?_, acc ++ [.ref y], fun c u e => ?_, upd_same, ?_⟩⟩
      · exact made_same ny nd kp _ _ hD
      · rw [ra.1, List.length_take]
        exact smallT (by omega)
      · rw [upd_ne (ne_of_none e nD)]
        exact made_same ny nd kp _ _ (sG _ _ e)
      · have sm := made_same ny nd kp
        have hD2 := sm _ _ hD
        have r1 : RowsAt C G2 [V.ref y] [rs[i]] := ⟨rfl, fun r h => by
          rw [List.mem_singleton] at h
          rw [h]
          exact o, fun n x r hx hr => by
          cases n with
          | zero =>
            cases hx
            cases hr
            exact ⟨y, rfl, hy⟩
          | succ n => cases hx⟩
        have r2 := (ra.same sm).append r1
        rw [List.take_succ, er]
        refine ⟨r2.1, r2.2.1, fun n x r hx hr => ?_⟩
        obtain ⟨q2, e2, dx2, t2, d2, g1, g2, g3⟩ := r2.2.2 n x r hx hr
        exact ⟨q2, e2, dx2, t2, d2, by rw [upd_ne (ne_of g1 hD2 (fun z => nomatch z))]; exact g1, by rw [upd_ne (ne_of g2 hD2 (fun z => nomatch z))]; exact g2, by rw [upd_ne (ne_of g3 hD2 (fun z => nomatch z))]; exact g3⟩
    · rintro G ⟨acc, sG, hD, ra⟩
      rw [hrows.1, List.take_length] at ra
      refine ⟨_, rfl, p, _, 1, .bl b, rfl, rfl, SqT.of (sG _ _ hp), rfl, fun y dx ny nd ne => ?_⟩
      have zz := (Same.new nd (o := .own y)).trans (Same.new (fresh_own (o := .own y) ny ne) (o := .ins CT dx []))
      refine ⟨y, dx, D, acc, b, rfl, upd_same, .inl (zz _ _ hD), by rw [ra.1]; omega, (ra.same zz).isP c0, fun G2 tt htt kp hy => ⟨rfl, ?_⟩⟩
      have sm := made_same ny nd kp
      exact k y G2 (sG.trans sm) (sG.free ny) ⟨dx, tt, acc, hy, htt, ra.same sm, hl⟩
end
end Lay
set_option Elab.async false
set_option linter.all false
set_option maxRecDepth 100000
set_option maxHeartbeats 4000000
/-! Texts cut up again. -/
namespace TxL
open PySem PySem.StrLaws Builtin Builtin.Str
def L (x : Str) : List Nat := x.cps.toList
theorem L_len (x : Str) : (L x).length = x.length := by simp [L, Str.length]
theorem L_app (a b : Str) : L (a ++ b) = L a ++ L b := by simp [L, Str.cps_append]
theorem L_inj {a b : Str} (h : L a = L b) : a = b := Str.ext' (Array.toList_inj.mp h)
theorem L_sub (s : Str) (i j : Nat) : L (strSub s i j) = ((L s).drop i).take (j - i) := strSub_toList s i j
theorem at_iff {x y : Str} {i : Nat} : At x y x.length i ↔ i + y.length ≤ x.length ∧ ((L x).drop i).take y.length = L y := by
  unfold At
  rw [subAt_eq]
  exact and_congr_right fun _ => beq_iff_eq
/-- the j-th sign of what stands at i -/
theorem at_get {x y : Str} {i j c : Nat} (h : At x y x.length i) (hj : (L y)[j]? = some c) : (L x)[i + j]? = some c := by
  obtain ⟨_, e⟩ := at_iff.mp h
  rw [← e] at hj
  have hlt : j < y.length := by
    have := (List.getElem?_eq_some_iff.mp hj).1
    rw [List.length_take] at this
    omega
  rw [List.getElem?_take_of_lt hlt, List.getElem?_drop] at hj
  exact hj
theorem at_mid (a y b : Str) : At (a ++ y ++ b) y (a ++ y ++ b).length a.length := by
  rw [at_iff, L_app, L_app, Str.length_append, Str.length_append]
  refine ⟨by omega, ?_⟩
  rw [List.append_assoc, ← L_len a, List.drop_left, ← L_len y, List.take_left]
theorem free_get {l : List Nat} {c i : Nat} (h : c ∉ l) : l[i]? ≠ some c := fun e => h (List.mem_of_getElem? e)
/-- x.partition(y), where y's sign c stands in nothing before -/
theorem part_at {a y b : Str} {j c : Nat} (hj : (L y)[j]? = some c) (bef : ∀ i, i < j → (L y)[i]? ≠ some c) (free : c ∉ L a) : Txt.partition (a ++ y ++ b) y = (a, y, b) := by
  have hm := at_mid a y b
  have key : ∀ k, k < a.length → ¬ At (a ++ y ++ b) y (a ++ y ++ b).length k := fun k hk h => by
    have g := at_get h hj
    rw [L_app, L_app, List.append_assoc] at g
    by_cases q : k + j < a.length
    · rw [List.getElem?_append_left (by rw [L_len]; exact q)] at g
      exact free_get free g
    · rw [List.getElem?_append_right (by rw [L_len]; omega), L_len] at g
      have hy : j < (L y).length := (List.getElem?_eq_some_iff.mp hj).1
      rw [List.getElem?_append_left (by omega)] at g
      exact bef _ (by omega) g
  unfold Txt.partition
  rcases occ_head (a ++ y ++ b) y 1 (Nat.le_refl 1) with ⟨_, hn⟩ | ⟨i, r, e, hi, hk⟩
  · exact absurd hm (hn _)
  · rw [e]
    have ei : i = a.length := by
      rcases Nat.lt_trichotomy i a.length with h | h | h
      · exact absurd hi (key i h)
      · exact h
      · exact absurd hm (hk _ h)
    subst ei
    have e1 : strSub (a ++ y ++ b) 0 a.length = a := L_inj (by rw [L_sub, L_app, L_app, List.append_assoc, List.drop_zero, Nat.sub_zero, ← L_len a, List.take_left])
    have e2 : strSub (a ++ y ++ b) (a.length + y.length) (a ++ y ++ b).length = b := L_inj (by
      rw [L_sub, L_app, L_app, Str.length_append, Str.length_append, show a.length + y.length = (L a ++ L y).length by rw [List.length_append, L_len, L_len], List.drop_left]
      refine List.take_of_length_le ?_
      rw [List.length_append, L_len, L_len, L_len]
      omega)
    show (strSub (a ++ y ++ b) 0 a.length, y, strSub (a ++ y ++ b) (a.length + y.length) (a ++ y ++ b).length) = _
    rw [e1, e2]
theorem part_no {x y : Str} {c : Nat} (hc : c ∈ L y) (free : c ∉ L x) : Txt.partition x y = (x, Str.empty, Str.empty) := by
  unfold Txt.partition
  rcases occ_head x y 1 (Nat.le_refl 1) with ⟨e, _⟩ | ⟨i, r, e, hi, _⟩
  · rw [e]
  · obtain ⟨j, hj⟩ := List.mem_iff_getElem?.mp hc
    exact absurd (at_get hi hj) (free_get free)
theorem start_iff {x y : Str} : Txt.startswith x y = true ↔ (L x).take y.length = L y := by
  unfold Txt.startswith
  rw [subAt_eq, Bool.and_eq_true, decide_eq_true_eq, beq_iff_eq]
  show _ ∧ ((L x).drop 0).take y.length = L y ↔ _
  rw [List.drop_zero]
  constructor
  · exact fun h => h.2
  · intro h
    have := congrArg List.length h
    rw [List.length_take, L_len, L_len] at this
    exact ⟨by omega, h⟩
theorem start_app (a b : Str) : Txt.startswith (a ++ b) a = true := by
  rw [start_iff, L_app, ← L_len a, List.take_left]
theorem start_no {x y : Str} {c : Nat} (hy : (L y)[0]? = some c) (hx : (L x)[0]? ≠ some c) : Txt.startswith x y = false := by
  cases h : Txt.startswith x y with
  | false => rfl
  | true =>
    have e := start_iff.mp h
    rw [← e] at hy
    have hlt := (List.getElem?_eq_some_iff.mp hy).1
    rw [List.length_take] at hlt
    rw [List.getElem?_take_of_lt (by omega)] at hy
    exact absurd hy hx
theorem pre_app (a b : Str) : Txt.removeprefix (a ++ b) a = b := by
  rw [removeprefix_eq]
  have h := start_app a b
  unfold Txt.startswith at h
  rw [if_pos h]
  refine L_inj ?_
  show ((L (a ++ b)).drop a.length).take ((a ++ b).length - a.length) = L b
  rw [L_app, ← L_len a, List.drop_left]
  refine List.take_of_length_le ?_
  rw [L_len, Str.length_append, L_len]
  omega
theorem pre_no {x y : Str} (h : Txt.startswith x y = false) : Txt.removeprefix x y = x := by
  rw [removeprefix_eq]
  unfold Txt.startswith at h
  rw [if_neg (by rw [h]; decide)]
theorem end_iff {x y : Str} : Txt.endswith x y = true ↔ y.length ≤ x.length ∧ (L x).drop (x.length - y.length) = L y := by
  unfold Txt.endswith
  rw [subAt_eq, Bool.and_eq_true, decide_eq_true_eq, beq_iff_eq, Nat.zero_add]
  refine and_congr_right fun h => ?_
  show ((L x).drop (x.length - y.length)).take y.length = L y ↔ _
  rw [List.take_of_length_le (by rw [List.length_drop, L_len]; omega)]
theorem end_app (a b : Str) : Txt.endswith (a ++ b) b = true := by
  rw [end_iff, Str.length_append, L_app]
  refine ⟨by omega, ?_⟩
  rw [show a.length + b.length - b.length = (L a).length by rw [L_len]; omega, List.drop_left]
theorem suf_app (a b : Str) : Txt.removesuffix (a ++ b) b = a := by
  rw [removesuffix_eq]
  have h := end_app a b
  unfold Txt.endswith at h
  rw [if_pos h]
  refine L_inj ?_
  show ((L (a ++ b)).drop 0).take ((a ++ b).length - b.length - 0) = L a
  rw [List.drop_zero, L_app, Str.length_append, show a.length + b.length - b.length - 0 = (L a).length by rw [L_len]; omega, List.take_left]
theorem suf_no {x y : Str} (h : Txt.endswith x y = false) : Txt.removesuffix x y = x := by
  rw [removesuffix_eq]
  unfold Txt.endswith at h
  rw [if_neg (by rw [h]; decide)]
/-- the last sign is another one -/
theorem end_no {x : Str} {c : Nat} (h : (L x).getLast? ≠ some c) : Txt.endswith x ⟨#[c]⟩ = false := by
  cases e : Txt.endswith x ⟨#[c]⟩ with
  | false => rfl
  | true =>
    obtain ⟨h1, h2⟩ := end_iff.mp e
    have h3 : (⟨#[c]⟩ : Str).length = 1 := rfl
    rw [h3] at h1 h2
    exfalso
    apply h
    rw [← List.take_append_drop (x.length - 1) (L x), h2]
    show (List.take (x.length - 1) (L x) ++ [c]).getLast? = some c
    rw [List.getLast?_concat]
/-! ### split -/
theorem drop_join {sep p q : Str} {r : List Str} : L (Str.join sep (p :: q :: r)) = L p ++ (L sep ++ L (Str.join sep (q :: r))) := by
  show L (p ++ sep ++ Str.join sep (q :: r)) = _
  rw [L_app, L_app, List.append_assoc]
theorem parts_are {x sep : Str} {c : Nat} (h0 : (L sep)[0]? = some c) : ∀ (ps : List Str) (a f : Nat) (cuts : List Nat), ps ≠ [] → (∀ p ∈ ps, c ∉ L p) → (L x).drop a = L (Str.join sep ps) → ChainG x sep x.length a cuts f → (∀ k, f ≤ k → ¬ At x sep x.length k) →
    partsFrom x sep.length a cuts = ps
  | [], _, _, _, h, _, _, _, _ => absurd rfl h
  | [p], a, f, cuts, _, fr, e, ch, no => by
    have e' : (L x).drop a = L p := e
    have none : ∀ k, a ≤ k → ¬ At x sep x.length k := fun k hk h => by
      have g := at_get h h0
      rw [Nat.add_zero, show k = a + (k - a) by omega, ← List.getElem?_drop, e'] at g
      exact free_get (fr p List.mem_cons_self) g
    cases cuts with
    | nil =>
      show [strSub x a x.length] = [p]
      rw [L_inj (a := strSub x a x.length) (b := p) (by rw [L_sub, e']; exact List.take_of_length_le (by rw [← e', List.length_drop, L_len]; exact Nat.le_refl _))]
    | cons c1 r => exact absurd ch.2.1 (none _ ch.1)
  | p :: q :: r, a, f, cuts, _, fr, e, ch, no => by
    rw [drop_join] at e
    have lx : x.length - a = p.length + (sep.length + (Str.join sep (q :: r)).length) := by
      have := congrArg List.length e
      rw [List.length_drop, List.length_append, List.length_append, L_len, L_len, L_len, L_len] at this
      exact this
    have sl : 0 < sep.length := by
      have := (List.getElem?_eq_some_iff.mp h0).1
      rw [L_len] at this
      exact this
    have hat : At x sep x.length (a + p.length) := by
      rw [at_iff]
      refine ⟨by omega, ?_⟩
      rw [← List.drop_drop, e, ← L_len p, List.drop_left, ← L_len sep, List.take_left]
    have lo : ∀ k, a ≤ k → k < a + p.length → ¬ At x sep x.length k := fun k hk hl h => by
      have g := at_get h h0
      rw [Nat.add_zero, show k = a + (k - a) by omega, ← List.getElem?_drop, e, List.getElem?_append_left (by rw [L_len]; omega)] at g
      exact free_get (fr p List.mem_cons_self) g
    cases cuts with
    | nil =>
      have ef : f = a := ch
      exact absurd hat (no _ (by omega))
    | cons c1 t =>
      obtain ⟨h1, h2, h3, h4⟩ := ch
      have ec : c1 = a + p.length := by
        rcases Nat.lt_trichotomy c1 (a + p.length) with h | h | h
        · exact absurd h2 (lo _ h1 h)
        · exact h
        · exact absurd hat (h3 _ (by omega) h)
      subst ec
      have e1 : strSub x a (a + p.length) = p := L_inj (by rw [L_sub, e, show a + p.length - a = (L p).length by rw [L_len]; omega, List.take_left])
      have e2 : (L x).drop (a + p.length + sep.length) = L (Str.join sep (q :: r)) := by
        rw [← List.drop_drop, ← List.drop_drop, e, ← L_len p, List.drop_left, ← L_len sep, List.drop_left]
      have ih := parts_are h0 (q :: r) _ f t (by simp) (fun z hz => fr z (List.mem_cons_of_mem _ hz)) e2 h4 no
      show strSub x a (a + p.length) :: partsFrom x sep.length (a + p.length + sep.length) t = _
      rw [e1, ih]
theorem split_join {sep : Str} {c : Nat} (h0 : (L sep)[0]? = some c) (hk : PySem.Builtin.Str.strKind sep = 1) {ps : List Str} (ne : ps ≠ []) (fr : ∀ p ∈ ps, c ∉ L p) : Txt.split (Txt.join sep ps) sep = ps := by
  have ej : Txt.join sep ps = Str.join sep ps := glued_eq_join sep ps
  rw [ej]
  have sl : 1 ≤ sep.length := by
    have := (List.getElem?_eq_some_iff.mp h0).1
    rw [L_len] at this
    exact this
  obtain ⟨f, ch, no⟩ := occ_tight (Str.join sep ps) sep sl
  have key := parts_are h0 ps 0 f _ ne fr (by rw [List.drop_zero]) ch no
  unfold Txt.split
  have k1 : ¬ PySem.Builtin.Str.strKind (Str.join sep ps) < PySem.Builtin.Str.strKind sep := by
    rw [hk]
    unfold PySem.Builtin.Str.strKind
    split
    · decide
    · split <;> decide
  by_cases hl : (Str.join sep ps).length < sep.length
  · rw [if_pos (by rw [decide_eq_true hl]; rfl)]
    cases ps with
    | nil => exact absurd rfl ne
    | cons p r =>
      cases r with
      | nil => rfl
      | cons q t =>
        have := congrArg List.length (drop_join (sep := sep) (p := p) (q := q) (r := t))
        rw [List.length_append, List.length_append, L_len, L_len, L_len] at this
        omega
  · rw [if_neg (by rw [decide_eq_false hl, decide_eq_false k1]; decide)]
    by_cases he : (occurrences (Str.join sep ps) sep 0 (Str.join sep ps).length ((Str.join sep ps).length + 1)).isEmpty = true
    · rw [if_pos he]
      rw [List.isEmpty_iff.mp he] at key
      refine Eq.trans ?_ key
      show [Str.join sep ps] = [strSub (Str.join sep ps) 0 (Str.join sep ps).length]
      rw [L_inj (a := strSub (Str.join sep ps) 0 (Str.join sep ps).length) (b := Str.join sep ps) (by rw [L_sub, List.drop_zero]; exact List.take_of_length_le (by rw [L_len]; exact Nat.le_refl _))]
    · rw [if_neg he, partsBetween_eq]
      exact key
end TxL
set_option Elab.async false
set_option linter.all false
set_option maxRecDepth 100000
set_option maxHeartbeats 4000000
set_option pp.maxSteps 900
namespace Lay
open PySem TxL
/-! Rows cut up: what a cut tells of the row. -/
theorem s_assoc (a b c : Str) : a ++ b ++ c = a ++ (b ++ c) := L_inj (by rw [L_app, L_app, L_app, L_app, List.append_assoc])
theorem start_inv {x y : Str} (h : Txt.startswith x y = true) : x = y ++ Txt.removeprefix x y := by
  have h1 := start_iff.mp h
  have e : x = y ++ ⟨((L x).drop y.length).toArray⟩ := L_inj (by
    rw [L_app, ← h1]
    show L x = _ ++ (((L x).drop y.length).toArray).toList
    rw [List.toList_toArray, List.take_append_drop])
  rw [e, pre_app]
theorem end_inv {x y : Str} (h : Txt.endswith x y = true) : x = Txt.removesuffix x y ++ y := by
  obtain ⟨h0, h1⟩ := end_iff.mp h
  have e : x = ⟨((L x).take (x.length - y.length)).toArray⟩ ++ y := L_inj (by
    rw [L_app, ← h1]
    show L x = (((L x).take (x.length - y.length)).toArray).toList ++ _
    rw [List.toList_toArray, List.take_append_drop])
  rw [e, suf_app]
theorem part_inv {x y : Str} (h : (Txt.partition x y).2.1.length ≠ 0) : x = (Txt.partition x y).1 ++ y ++ (Txt.partition x y).2.2 ∧ (Txt.partition x y).2.1 = y ∧ ∀ k, k < (Txt.partition x y).1.length → ¬ StrLaws.At x y x.length k := by
  unfold Txt.partition at h ⊢
  rcases StrLaws.occ_head x y 1 (Nat.le_refl 1) with ⟨e, _⟩ | ⟨i, r, e, hi, hk⟩
  · rw [e] at h
    exact absurd rfl h
  · rw [e]
    obtain ⟨h1, h2⟩ := at_iff.mp hi
    refine ⟨L_inj ?_, rfl, fun k hl => hk k ?_⟩
    · show L x = L (Builtin.Str.strSub x 0 i ++ y ++ Builtin.Str.strSub x (i + y.length) x.length)
      rw [L_app, L_app, L_sub, L_sub, List.drop_zero, Nat.sub_zero, ← h2]
      rw [List.take_of_length_le (l := List.drop (i + y.length) (L x)) (by rw [List.length_drop, L_len]; exact Nat.le_refl _), List.append_assoc, ← List.drop_drop, List.take_append_drop, List.take_append_drop]
    · have : (Builtin.Str.strSub x 0 i).length = i := by
        rw [← L_len, L_sub, List.drop_zero, Nat.sub_zero, List.length_take, L_len]
        omega
      rw [this] at hl
      exact hl
theorem part_inv0 {x y : Str} (hy : y.length ≠ 0) (h : (Txt.partition x y).2.1.length = 0) : (Txt.partition x y).1 = x ∧ (Txt.partition x y).2.2 = Str.ofString "" ∧ ∀ k, ¬ StrLaws.At x y x.length k := by
  unfold Txt.partition at h ⊢
  rcases StrLaws.occ_head x y 1 (Nat.le_refl 1) with ⟨e, hn⟩ | ⟨i, r, e, hi, hk⟩
  · rw [e]
    exact ⟨rfl, rfl, hn⟩
  · rw [e] at h
    exact absurd h hy
/-! ### slices -/
section
variable {z : Str}
theorem cL (lo hi : Option Int) : L (Txt.slice z lo hi) = ((L z).drop (HT.sIx z.length 0 lo)).take (HT.sIx z.length z.length hi - HT.sIx z.length 0 lo) := by
  rw [← C8.cutS_slice]
  unfold L L2.cutS
  rw [List.toList_toArray]
theorem c_pre (n : Nat) : L (Txt.slice z none (some (n : Int))) = (L z).take n := by
  rw [cL, HT.sIx_none, HT.sIx_nat, List.drop_zero, Nat.sub_zero, ← L_len]
  rcases Nat.le_total n (L z).length with h | h
  · rw [Nat.min_eq_left h]
  · rw [Nat.min_eq_right h, List.take_length, List.take_of_length_le h]
theorem c_suf (n : Nat) : L (Txt.slice z (some (n : Int)) none) = (L z).drop n := by
  rw [cL, HT.sIx_none, HT.sIx_nat, ← L_len]
  rcases Nat.le_total n (L z).length with h | h
  · rw [Nat.min_eq_left h, List.take_of_length_le (by rw [List.length_drop]; exact Nat.le_refl _)]
  · rw [Nat.min_eq_right h, List.drop_length, List.drop_of_length_le h, List.take_nil]
theorem c_mid (i j : Nat) : L (Txt.slice z (some (i : Int)) (some (j : Int))) = ((L z).drop i).take (j - i) := by
  rw [cL, HT.sIx_nat, HT.sIx_nat, ← L_len]
  rcases Nat.le_total i (L z).length with h | h
  · rw [Nat.min_eq_left h]
    rcases Nat.le_total j (L z).length with h2 | h2
    · rw [Nat.min_eq_left h2]
    · rw [Nat.min_eq_right h2, List.take_of_length_le (by rw [List.length_drop]; exact Nat.le_refl _), List.take_of_length_le (by rw [List.length_drop]; omega)]
  · rw [Nat.min_eq_right h, List.drop_length, List.drop_of_length_le h, List.take_nil, List.take_nil]
theorem six_m1 (n d : Nat) : HT.sIx n d (some (-1)) = n - 1 := by
  show (if (-1 : Int) < 0 then ((-1 : Int) + (n : Int)).toNat else min (-1 : Int).toNat n) = n - 1
  rw [if_pos (by decide)]
  omega
theorem c_init : L (Txt.slice z none (some (-1))) = (L z).take (z.length - 1) := by
  rw [cL, HT.sIx_none, six_m1, List.drop_zero, Nat.sub_zero]
theorem c_last : L (Txt.slice z (some (-1)) none) = (L z).drop (z.length - 1) := by
  rw [cL, HT.sIx_none, six_m1, List.take_of_length_le]
  rw [List.length_drop, L_len]
  omega
theorem c_midm (i : Nat) : L (Txt.slice z (some (i : Int)) (some (-1))) = ((L z).take (z.length - 1)).drop i := by
  rw [cL, six_m1, HT.sIx_nat, List.drop_take]
  rcases Nat.le_total i z.length with h | h
  · rw [Nat.min_eq_left h]
  · rw [Nat.min_eq_right h, List.drop_of_length_le (l := L z) (i := i) (by rw [L_len]; exact h), List.drop_of_length_le (l := L z) (i := z.length) (by rw [L_len]; exact Nat.le_refl _), List.take_nil, List.take_nil]
end
/-! ### find -/
theorem mem_first {c : Nat} {x : Str} (h : c ∈ L x) : ∃ a b : Str, x = a ++ ⟨#[c]⟩ ++ b ∧ c ∉ L a := by
  obtain ⟨as, bs, e, hn⟩ := List.eq_append_cons_of_mem h
  refine ⟨⟨as.toArray⟩, ⟨bs.toArray⟩, L_inj ?_, by show c ∉ as.toArray.toList; rw [List.toList_toArray]; exact hn⟩
  rw [L_app, L_app, e]
  show _ = as.toArray.toList ++ [c] ++ bs.toArray.toList
  rw [List.toList_toArray, List.toList_toArray, List.append_assoc]
  rfl
theorem find_at {a b : Str} {c : Nat} (h : c ∉ L a) : Txt.find (a ++ ⟨#[c]⟩ ++ b) ⟨#[c]⟩ = a.length := by
  unfold Txt.find
  rcases StrLaws.occ_head (a ++ ⟨#[c]⟩ ++ b) ⟨#[c]⟩ 1 (Nat.le_refl 1) with ⟨_, hn⟩ | ⟨i, r, e, hi, hk⟩
  · exact absurd (at_mid a ⟨#[c]⟩ b) (hn _)
  · rw [e]
    have ei : i = a.length := by
      rcases Nat.lt_trichotomy i a.length with l | l | l
      · have g := at_get (j := 0) (c := c) hi rfl
        rw [Nat.add_zero, L_app, L_app, List.append_assoc, List.getElem?_append_left (by rw [L_len]; exact l)] at g
        exact absurd (List.mem_of_getElem? g) h
      · exact l
      · exact absurd (at_mid a ⟨#[c]⟩ b) (hk _ l)
    rw [ei]
theorem find_no {x : Str} {c : Nat} (h : c ∉ L x) : Txt.find x ⟨#[c]⟩ = -1 := by
  unfold Txt.find
  rcases StrLaws.occ_head x ⟨#[c]⟩ 1 (Nat.le_refl 1) with ⟨e, hn⟩ | ⟨i, r, e, hi, hk⟩
  · rw [e]
  · have g := at_get (j := 0) (c := c) hi rfl
    exact absurd (List.mem_of_getElem? g) h
end Lay
set_option Elab.async false
set_option linter.all false
set_option maxRecDepth 100000
set_option maxHeartbeats 4000000
set_option pp.maxSteps 900
/-! y = [f(..) for .. in ..] where f raises: the exception leaves the block of names, then the def. -/
namespace Lay
open PySem PySem.Spec PyProof.Rows L2
section
variable {X : Cx} {pins : List (Addr × Obj)} {σ : L2.St} {H : Hp} {s : Shared}
/-- the state of a context has nothing to do with what is let out -/
theorem inv_xe {xe : Value → Shared → Prop} (I : Inv X pins σ H s) : Inv { X with xe := xe } pins σ H s :=
  ⟨⟨I.ok.mod, I.ok.kind, I.ok.glob, I.ok.blt, I.ok.above, I.ok.inj, I.ok.has, I.ok.cab, I.ok.hd, I.ok.frames, I.ok.stk, I.ok.exf, I.ok.bs, I.ok.bsz, I.ok.noex, I.ok.exfs, I.ok.funs, I.ok.frf⟩, I.os, I.bare, I.base, I.loc, I.cell, I.free, I.freeC, I.pin, I.hok, I.len⟩
theorem inv_ex {xe : Value → Shared → Prop} (I : Inv { X with xe := xe } pins σ H s) : Inv X pins σ H s :=
  ⟨⟨I.ok.mod, I.ok.kind, I.ok.glob, I.ok.blt, I.ok.above, I.ok.inj, I.ok.has, I.ok.cab, I.ok.hd, I.ok.frames, I.ok.stk, I.ok.exf, I.ok.bs, I.ok.bsz, I.ok.noex, I.ok.exfs, I.ok.funs, I.ok.frf⟩, I.os, I.bare, I.base, I.loc, I.cell, I.free, I.freeC, I.pin, I.hok, I.len⟩
theorem mem_ne {C : Addr} {h1 h2 : Heap} {a : Addr} {o : Obj} {vs : Array Value} {m : Str → Option Value} (hn : h1.Ns C m) (he : h1.get? a = some o) (hd : o.data = .fields vs) : a ≠ C := fun z => by
  obtain ⟨oL, es, ep, hoL, hdL, _⟩ := hn
  rw [z, hoL] at he
  cases he
  rw [hdL] at hd
  cases hd
/-- an exception over the def's frames goes out of the block of names at C -/
theorem comp_out {W : WX} {u : Value} {s' : Shared} {cenv : Env} {m : Str → Option Value} {H0 : Hp} (hst : X.stack = X.env :: X.outer) (hf : X.env.frame = some X.env.locals) (tk : Takes X W) (hcf : cenv.frame = X.env.frame) (fC : FpOk X [] H0 cenv.locals)
    (x : XE X (fun cls d σ H => W cls d σ H ∧ H cenv.locals = none) u s') (hn : s'.heap.Ns cenv.locals m) : notedBy (model X.prog X.w) X.A cenv (CompFails (model X.prog X.w) X.A X.xe cenv) u s' := by
  obtain ⟨a, B, sI, pins, σ, H, cls, d, rfl, I, nb, up, sky, na, os, ag, w, hC0⟩ := x
  have hfr : X.A.frames = some (X.env :: X.outer) := by rw [I.ok.frames, hst]
  obtain ⟨_, fC1, fC2, fC3, fC4, fC5⟩ := fC
  show wpAny _ _ (noteFrame (.ref a) cenv) _ _ s'
  rw [noteFrame_env _ hcf]
  rw [hst] at sky
  have fin : ∀ h1, HandSPX.HeldZ B (X.env :: X.outer) a (Zc cls d) X.env.locals h1 → s'.heap.UpToSlots h1 → CompFails (model X.prog X.w) X.A X.xe cenv (.ref a) { s' with heap := h1 } := by
    intro h1 hh up1
    have hn1 : h1.Ns cenv.locals m := hn.upToSlots fun b o e nf => up1 b o e nf
    refine ⟨m, hn1, fun h2 m2 hn2 hs2 => ?_⟩
    obtain ⟨k1, k2, k3, oe, vs, T, oT, ts, he, hz, hd, hd1, hnT, hTe, hT, hdT, h3⟩ := hh
    have aC : a ≠ cenv.locals := mem_ne (h2 := h2) hn1 he hd
    have TC : T ≠ cenv.locals := mem_ne (h2 := h2) hn1 hT hdT
    have hide : ∀ {G : Heap} {b : Addr} {o : Obj}, (PySem.W.hideAll G [cenv.locals]).get? b = some o → G.get? b = some o ∧ b ≠ cenv.locals := fun {G b o} e => by
      refine ⟨PySem.W.of_hideAll _ e, fun z => ?_⟩
      rw [PySem.W.hideAll_none [cenv.locals] (by rw [z]; exact List.mem_singleton.mpr rfl)] at e
      cases e
    have gone : ∀ {G : Heap} {b : Addr}, G.get? b = none → (PySem.W.hideAll G [cenv.locals]).get? b = none := fun {G b} e => by
      cases q : (PySem.W.hideAll G [cenv.locals]).get? b with
      | none => rfl
      | some o =>
        have z := (hide q).1
        rw [e] at z
        cases z
    have left : ∀ {G : Heap} {b : Addr} {o : Obj}, b ≠ cenv.locals → G.get? b = some o → (PySem.W.hideAll G [cenv.locals]).get? b = some o := fun {G b o} n e => PySem.W.hideAll_get _ e (by simpa using n)
    have ff : h2.FunFrames B (X.env :: X.outer) := Heap.FunFrames.sameBut hs2 hn2 k3
    have held : HandSPX.HeldZ (PySem.W.hideAll B [cenv.locals]) (X.env :: X.outer) a (Zc cls d) X.env.locals h2 := by
      refine ⟨fun b o e => ?_, gone k2, funFrames_none ff fun L hL => gone (ff.mem hL).1, oe, vs, T, oT, ts, (hs2.2 a aC).trans he, hz, hd, hd1, gone hnT, hTe, (hs2.2 T TC).trans hT, hdT, h3⟩
      obtain ⟨e1, n⟩ := hide e
      exact (hs2.2 b n).trans (k1 b o e1)
    unfold PySem.passOn
    refine wpAny_bind (wpAny_field ((hs2.2 a aC).trans he) hd hd1 ?_)
    rw [if_neg (show ¬ ((Value.ref T == Value.none) = true) from by simp), hcf, hf]
    refine wpAny_bind (HandSPX.setFlight_onZ held fun h3 hh3 up3 => ?_)
    refine wpAny_throw (tk _ _ ?_)
    have I0 : Inv X [] σ H sI := (show Inv X ([] ++ pins) σ H sI from I).unpinned
    refine ⟨a, PySem.W.hideAll B [cenv.locals], { sI with heap := PySem.W.hideAll sI.heap [cenv.locals] }, [], σ, H, cls, d, rfl, I0.turned (t' := sI.toks) (it := cenv.locals) (fun b o n e => left n e) hC0 fC1 fC3 fC4 fC5, fun b o e hb => ?_, fun b o e nf => ?_, .inr (.inr (by rw [hst]; exact hh3)), na, os, ag, w⟩
    · obtain ⟨e1, n⟩ := hide e
      exact left n (nb b o e1 hb)
    · obtain ⟨e1, n⟩ := hide e
      obtain ⟨sl, e2⟩ := up b o e1 nf
      obtain ⟨sl2, e3⟩ := up1 b _ e2 nf
      have e4 : h2.get? b = _ := (hs2.2 b n).trans e3
      obtain ⟨sl3, e5⟩ := up3 b _ e4 nf
      exact ⟨sl3, e5⟩
  rcases sky with ⟨hB, hn', hl, oe, vs, he, hz, hd, h1⟩ | fl | hh
  · exact HandSPX.look_newZ Zc.steady hfr hl hf he hB hn' hd h1 hz fin
  · exact HandSPX.looks_onZ Zc.steady hfr hf fl fin
  · exact HandSPX.againZ hf hh.2.2.2 (fin s'.heap hh (Heap.UpToSlots.refl _))
/-- a call in the block lets an exception out: it's in the def's air, the block's names stand -/
theorem blk_out {s3 : Shared} {H3 Hb : Hp} {scope : Scope} {ce : Env} {fp : List Addr} {pb : List (Addr × Obj)} {σb : L2.St} {sb s' : Shared} {u : Value} {E : XK} (I3 : Inv X pins σ H3 s3) (Ib : Inv (X.blk s3 H3 scope ce fp) pb σb Hb sb) (fC : FpOk X [] H3 ce.locals)
    (f3 : ∀ b ∈ fp, FpOk X pins H3 b) (c : L2.CX X.prog X.w X.stack Hb sb E u s') : XE X (fun cls d _ H => E cls d H ∧ H ce.locals = none) u s' ∧ ∃ m, s'.heap.Ns ce.locals m := by
  have I7 : Inv X pins σ Hb sb := I3.call' (ch := fp) Ib.os Ib.base Ib.hok Ib.bare fun b hb => ⟨(f3 b hb).2.2.2.1, (f3 b hb).2.1, (f3 b hb).2.2.2.2.1, (f3 b hb).2.2.2.2.2⟩
  have nC : Hb ce.locals = none := Ib.free
  obtain ⟨m, hn, _⟩ := Ib.loc
  have hn : sb.heap.Ns ce.locals m := hn
  obtain ⟨oL, es, ep, hoL, r⟩ := hn
  have nf : ce.locals ∉ frs X.stack := fun hm => by
    rcases List.mem_cons.mp (I7.stkSub _ hm) with z | z
    · exact fC.2.1 z
    · exact fC.2.2.1 z
  obtain ⟨a, B, H', cls, d, rfl, fl, hok, ub, na, os, ag, hE⟩ := c
  have e1 : s'.heap.get? ce.locals = some oL := fl.1 _ _ (ub.keep _ _ hoL nC nf)
  exact ⟨XE.of_call (E := fun cls d H => E cls d H ∧ H ce.locals = none) I7 (fun _ _ _ h => h) ⟨a, B, H', cls, d, rfl, fl, hok, ub, na, os, ag, hE, ub.free _ _ hoL nC⟩, m, oL, es, ep, e1, r⟩
/-- y = [f(..) for tg in iter], where f may raise E -/
theorem ps_setLcX {i : Nat} {y : Str} {py : Pos} {elt tg iter : Expr} {scope : Scope} {own : List (Str × Nat)} {pos spos : Pos} {wi : TI} {g : TG} {te : TE} {W : WX} {E : XK} (hst : X.stack = X.env :: X.outer) (hf : X.env.frame = some X.env.locals) (tk : Takes X W) (hW : ∀ cls d σ H, E cls d H → W cls d σ H)
    (hc : X.calm = true) (hN : X.N.Nodup) (hy : X.N[i]? = some y) (hyl : X.env.scope.names.lookup y = some .local) (hsw : swapsWith (.ListComp elt [⟨tg, iter, [], 0⟩] scope pos) (some (.Name y py)) spos.line X.env = pure true) (hi : PI X tg iter wi) (ok : BlkOk X.N X.env.scope scope own)
    (hg : ∀ (s : Shared) (H : Hp) (C : Addr) (cl : List (Str × Addr)) (fp : List Addr), PG (X.blk s H scope (compEnvC scope cl C X.env) fp) tg g)
    (he : ∀ (s : Shared) (H : Hp) (C : Addr) (cl : List (Str × Addr)) (fp : List Addr) (xe : Value → Shared → Prop), Passes (L2.CX X.prog X.w) { X.blk s H scope (compEnvC scope cl C X.env) fp with xe := xe } E → PE { X.blk s H scope (compEnvC scope cl C X.env) fp with xe := xe } elt te)
    (hs : ∀ x, foldedSetIterable iter X.env x = pure x := by intro _; rfl) : PS X (.Assign [.Name y py] (.ListComp elt [⟨tg, iter, [], 0⟩] scope pos) spos) (tAsg (tLc wi g tYes te (own.map (·.2))) (gName i)) := by
  refine ⟨fun pins s σ H D I h => ?_⟩
  rw [exec_Assign_Name_used _ _ _ _ hsw]
  refine wpAny_bind (wpAny_standAt (wpAny_bind ?_))
  show wpAny _ X.A (do let _ ← comprehension (.ListComp elt [⟨tg, iter, [], 0⟩] scope pos) scope X.env (firstIterPos [⟨tg, iter, [], 0⟩] pos) (newList []) false (eval iter X.env) (some (assign (.Name y py) X.env))) _ _ s
  have hfree : ∀ z ∈ scope.names, z.2 = .free → ∃ c, X.env.cells.lookup z.1 = some c := fun z hz e => I.ok.has _ (ok.free z hz e)
  have h : tLc wi g tYes te (own.map (·.2)) σ H (fun x H1 => gName i x σ H1 D.nx) := h
  refine wpAny_bind (thn (comprehension_at (use := some (assign (.Name y py) X.env)) (Q := fun _ s' => SP X pins D .next s') rfl hs (closure_ok hfree) ok.kind (fun z hz e => by rw [ok.uniq z hz, e])
    (thn (hi.run pins s σ H _ I h) fun xv s1 hx => thn hx fun itv s2 h2 => ?_)) fun _ s' hq => wpAny_pure (wpAny_pure hq))
  obtain ⟨it, fp, tn, J, H2, e, I2, T, st2, f2, q⟩ := h2
  subst e
  refine wpAny_newObj_type (newEnv_comp ?_) (by show 0 ≤ sizeLine; decide)
  generalize hD : s2.heap.objs.size = Dn
  have nD : H2 Dn = none := I2.hok.fresh (Nat.le_of_eq hD)
  obtain ⟨Wm, ⟨m0, w0⟩, turn⟩ := q Dn nD
  generalize hs3 : ({ s2 with heap := s2.heap.push { cls := .type "list", data := .seq ([] : List Value).toArray } } : Shared) = s3
  have e3 : s3.heap = s2.heap.push { cls := .type "list", data := .seq ([] : List Value).toArray } := by rw [← hs3]
  have old : ∀ b o, s2.heap.get? b = some o → s3.heap.get? b = some o := fun b o e => by rw [e3]; exact Heap.get?_push_of_some _ e
  have I3 : Inv X pins σ (upd H2 Dn (.lst [])) s3 := by
    rw [← hs3]
    refine I2.laid (t' := s2.toks) (fun b o e => Heap.get?_push_of_some _ e) (Nat.le_of_eq hD) ⟨Nat.zero_le _, [], 0, .nil, ?_⟩
    rw [← hD]
    exact Heap.get?_push_size _ rfl
  have f3 : ∀ b ∈ fp, FpOk X pins (upd H2 Dn (.lst [])) b ∧ b < s3.heap.objs.size := fun b hb => by
    obtain ⟨o, eo, _⟩ := T.obj _ _ st2 b hb
    have lb := Heap.lt_size eo
    refine ⟨⟨?_, (f2 b hb).2⟩, Heap.lt_size (old b o eo)⟩
    rw [upd_ne (by rw [← hD]; exact Nat.ne_of_lt lb)]
    exact (f2 b hb).1
  have st3 : tn 0 s3.heap := T.keep _ _ _ st2 fun b _ o e => old b o e
  have I4 := block_start I3 ok hN f3
  have fC0 : FpOk X pins (upd H2 Dn (.lst [])) s3.heap.objs.size := I3.fpOk (Nat.le_refl _) (I3.hok.fresh (Nat.le_refl _))
  have fC : FpOk X [] (upd H2 Dn (.lst [])) s3.heap.objs.size := ⟨fC0.1, fC0.2.1, fC0.2.2.1, fC0.2.2.2.1, fC0.2.2.2.2.1, fun p hp => fC0.2.2.2.2.2 p (by rw [List.append_nil] at hp; exact List.mem_append_left _ hp)⟩
  show codeAny _ _ (.compStart (.ListComp elt [⟨tg, iter, [], 0⟩] scope pos) 0 (.ref it) (.ref Dn) (compEnvC scope (cellsFrom (s3.heap.objs.size + 1) scope.names (cloFrom X.env.cells scope.names [])) s3.heap.objs.size X.env))
    (compEnds (model X.prog X.w) X.A X.xe (some (assign (.Name y py) X.env)) (fun _ s' => SP X pins D .next s') (.ref Dn) (compEnvC scope (cellsFrom (s3.heap.objs.size + 1) scope.names (cloFrom X.env.cells scope.names [])) s3.heap.objs.size X.env)) { s3 with heap := pushCells (s3.heap.push { cls := .type "dict", data := .dict #[] }) scope.names }
  have pg := hg s3 (upd H2 Dn (.lst [])) s3.heap.objs.size (cellsFrom (s3.heap.objs.size + 1) scope.names (cloFrom X.env.cells scope.names [])) fp
  have pe := he s3 (upd H2 Dn (.lst [])) s3.heap.objs.size (cellsFrom (s3.heap.objs.size + 1) scope.names (cloFrom X.env.cells scope.names [])) fp
  generalize hce : compEnvC scope (cellsFrom (s3.heap.objs.size + 1) scope.names (cloFrom X.env.cells scope.names [])) s3.heap.objs.size X.env = ce at I4 pg pe ⊢
  have cL : ce.locals = s3.heap.objs.size := by subst hce; rfl
  have cF : ce.frame = X.env.frame := by subst hce; rfl
  rw [← cL] at fC
  generalize hH3 : upd H2 Dn (.lst []) = H3 at I3 I4 pg pe w0 f3 fC
  generalize hs4 : ({ s3 with heap := pushCells (s3.heap.push { cls := .type "dict", data := .dict #[] }) scope.names } : Shared) = s4 at I4 ⊢
  have st4 : tn 0 s4.heap := T.keep _ _ _ st3 fun b _ o e => by rw [← hs4]; exact pushCells_keeps _ _ _ _ (Heap.get?_push_of_some _ e)
  have out : Passes (L2.CX X.prog X.w) { X.blk s3 H3 scope ce fp with xe := notedBy (model X.prog X.w) X.A ce fun e s' => compEnds (model X.prog X.w) X.A X.xe (some (assign (.Name y py) X.env)) (fun _ s' => SP X pins D .next s') (.ref Dn) ce (.error e) s' } E := fun pb σb Hb sb e s' Ib c => by
    obtain ⟨x, m, hn⟩ := blk_out I3 (inv_ex Ib) fC (fun b hb => (f3 b hb).1) c
    exact comp_out hst hf (tk.imp fun _ _ _ _ z => z) cF fC (by
      obtain ⟨a, B, sI, p, σ', H', cls, d, z1, z2, z3, z4, z5, z6, z7, z8, z9, z10⟩ := x
      exact ⟨a, B, sI, p, σ', H', cls, d, z1, z2, z3, z4, z5, z6, z7, z8, hW _ _ _ _ z9, z10⟩) hn
  have pe := pe _ out
  have stat : ∀ {σ' : L2.St} {H' : Hp} {s' : Shared}, Inv (X.blk s3 H3 scope ce fp) [] σ' H' s' → (∀ b ∈ fp, H' b = none) → ∀ b ∈ fp, FpOk (X.blk s3 H3 scope ce fp) [] H' b := fun {σ' H' s'} I' hn b hb =>
    ⟨hn b hb, (I'.ok.exf b hb).1, I'.ok.exfs b hb, .inl hb, fun x c e => (I'.ok.exf b hb).2 x c e, fun p hp => absurd hp (by simp)⟩
  have loop : codeAny (model X.prog X.w) X.A (.compLoop (.ListComp elt [⟨tg, iter, [], 0⟩] scope pos) 0 (.ref it) (.ref Dn) ce) (compEnds (model X.prog X.w) X.A X.xe (some (assign (.Name y py) X.env)) (fun _ s' => SP X pins D .next s') (.ref Dn) ce) s4 := by
    refine compLoop_any (fun n s' => ∃ i H', Inv (X.blk s3 H3 scope ce fp) [] (wipe σ (own.map (·.2))) H' s' ∧ tn i s'.heap ∧ (∀ b ∈ fp, H' b = none) ∧ Wm i n H') ?_ m0 ⟨0, H3, I4, st4, fun b hb => (f3 b hb).1.1, w0⟩
    rintro n s5 ⟨i5, H5, I5, st5, n5, w5⟩
    rcases turn i5 n H5 w5 with ⟨stop, qq⟩ | ⟨go, Nx, hNx, step⟩
    · refine thnF (T.done (X.blk s3 H3 scope ce fp) rfl rfl rfl hc i5 [] s5 _ H5 (fun _ _ => False) I5 (stat I5 n5) st5 stop) fun r s6 ⟨hr, I6⟩ => ?_
      subst hr
      have I7 : Inv X pins σ H5 s6 := I3.call' (ch := fp) I6.os I6.base I6.hok I6.bare fun b hb => ⟨(f3 b hb).1.2.2.2.1, (f3 b hb).1.2.1, (f3 b hb).1.2.2.2.2.1, (f3 b hb).1.2.2.2.2.2⟩
      obtain ⟨m, hn, _⟩ := I6.loc
      have hn : s6.heap.Ns ce.locals m := hn
      have nC : H5 ce.locals = none := I6.free
      show wpAny _ _ (assign (.Name y py) X.env (.ref Dn)) _ _ _
      refine wpAny_assign_Name (store_ok2 (v := V.ref Dn) I7 hN hy (.inl hyl) rfl (fun s8 I8 ⟨a, sb, ha⟩ => ?_) (.inr hyl))
      have haC : ce.locals ≠ a := by
        rcases ha with z | z
        · rw [z]; exact fC.2.1
        · exact fun e => fC.2.2.2.2.1 y a z e.symm
      refine ⟨m, hn.sameBut sb haC, fun h9 sb9 => ?_⟩
      exact ⟨_, H5, I8.turned (t' := s8.toks) (fun b o hb e => (sb9.2 b hb).trans e) nC fC.2.1 fC.2.2.2.1 fC.2.2.2.2.1 (by rw [cL]; exact fC0.2.2.2.2.2), qq⟩
    · refine thnF (T.item (X.blk s3 H3 scope ce fp) rfl rfl rfl hc i5 [] s5 _ H5 (fun _ _ => False) I5 (stat I5 n5) st5 go) fun r s6 ⟨u, hr, h6⟩ => ?_
      subst hr
      refine thnF h6 fun _ s7 ⟨x, H7, I7, r7, y7, st7, n7⟩ => ?_
      have I7' := I7.pinned (stat I7 n7) (T.obj _ _ st7)
      refine thnF (pg.run _ s7 _ H7 x u _ I7' r7 (step x H7 y7)) fun _ s8 ⟨σ8, H8, I8, hw8, q8⟩ => ?_
      refine wpAny_tests_nil ?_
      rw [if_pos rfl]
      have q8 := q8
      refine thn (pe.run _ s8 σ8 H8 _ (inv_xe I8) q8) fun z s10 ⟨yv, H10, I10, r10, acc, hD10, hz10, nx⟩ => ?_
      refine app_ok (X := X.blk s3 H3 scope ce fp) (inv_ex I10) hD10 hz10 r10 fun s11 I11 => ?_
      obtain ⟨m', hm, w'⟩ := hNx _ nx
      refine ⟨m', hm, i5 + 1, _, (I11.unpinned (pins := [])).weak (by rw [← hw8, wipe_length]) (fun j v e => ?_), T.keep _ _ _ st7 fun b hb o e => ?_, fun b hb => ?_, w'⟩
      · rw [← hw8] at e
        exact (wipe_some e).1
      · exact (I11.pin (b, o) (List.mem_append_right _ (List.mem_append_right _ (mem_pinsAt hb e)))).1
      · obtain ⟨o, e, _⟩ := T.obj _ _ st7 b hb
        exact (I11.pin (b, o) (List.mem_append_right _ (List.mem_append_right _ (mem_pinsAt hb e)))).2.1
  exact codeAny_compStart_list loop (T.self X.A 0 _ _ _ st4 loop)
end
end Lay
set_option Elab.async false
set_option linter.all false
set_option maxRecDepth 100000
set_option maxHeartbeats 4000000
set_option pp.maxSteps 900
/-! a, *b = a list of one thing or more -/
namespace Lay
open PySem PySem.Spec PyProof.Rows L2
section
variable {prog : Program} {w : World} {A : Around} {E : Value → Shared → Prop} {s : Shared}
theorem star_items {l : Addr} {x : Value} {xs : List Value} {Q : List Value → Shared → Prop} (hh : A.handled = none) (hl : s.heap.IsList l (x :: xs).toArray) (hz : (x :: xs).length ≤ sizeLine)
    (h : ∀ (h₂ : Heap) (tk : Nat), (∀ b o, s.heap.get? b = some o → h₂.get? b = some o) → Q [x, .ref h₂.objs.size] { s with heap := h₂.push { cls := .type "list", data := .seq xs.toArray }, toks := tk }) :
    wpAny (model prog w) A (unpackItems (.ref l) 2 (some 1)) Q E s := by
  have hlt : l ≠ s.heap.objs.size := by obtain ⟨o, ho, _⟩ := hl; exact Nat.ne_of_lt (Heap.lt_size ho)
  unfold unpackItems notIterableAtAll
  refine wpAny_bind (wpAny_bind (wpAny_specialOf hl.typeIs slot_list_iter.lookup (wpAny_pure ?_)))
  simp only [Bool.false_eq_true, if_false]
  refine wpAny_bind (wpAny_holding (wpAny_pyIter_list hl ?_))
  refine wpAny_bind (wpAny_holding (PySem.W.kun_draw hlt 1 0 _ _ ⟨_, Heap.get?_push_size _ rfl, rfl, rfl⟩ (hl.push _) (by simp) fun h₁ hit₁ hs₁ => ?_))
  have hl₁ : h₁.IsList l (x :: xs).toArray := (hl.push _).extBut hs₁.extBut hlt
  obtain ⟨oi, hoi, _⟩ := id hit₁
  obtain ⟨ol, hol, _⟩ := id hl₁
  have e1 : List.take 1 (List.drop 0 (x :: xs).toArray.toList) = [x] := by simp
  rw [e1, if_neg (by simp)]
  refine wpAny_bind (wpAny_holding (PySem.W.kun_collect (s := { s with heap := h₁ }) (T := "list_iterator") (.inr (.inr (.inl rfl))) (Walks.list (A := A.in1) hh s.heap.objs.size l hlt (x :: xs).toArray) (fun j u st => st.1.typeIs) (k := 1) (by simp) ⟨hit₁, hl₁⟩ (Heap.lt_size hoi) (Heap.lt_size hol) (fun h₂ tk hk => ?_) (by simpa using hz)))
  have e2 : List.drop 1 (x :: xs).toArray.toList = xs := by simp
  rw [e2]
  have keep : ∀ b o, s.heap.get? b = some o → h₂.get? b = some o := fun b o e => by
    have lb := Nat.ne_of_lt (Heap.lt_size e)
    exact hk b o lb (hs₁.extBut b o lb (Heap.get?_push_of_some _ e))
  simp only [List.length_cons, List.length_nil, Nat.reduceSub, Nat.reduceAdd, Nat.not_lt_zero, if_false, Nat.sub_zero]
  rw [List.take_length, List.drop_length]
  refine wpAny_bind (wpAny_newObj_type (wpAny_pure (h h₂ tk keep)) ?_)
  show xs.toArray.size ≤ sizeLine
  have : xs.length + 1 ≤ sizeLine := hz
  rw [List.size_toArray]
  omega
end
/-- the first, and a new list of the others -/
def gStar (K : PySem.W.Frag) (g1 g2 : TG) : TG := fun v σ H Q => ∃ l x xs, v = .ref l ∧ SqL K H l (x :: xs) ∧ xs.length < sizeLine ∧ ∀ D, H D = none → g1 x σ (upd H D (.lst xs)) fun σ1 H1 => g2 (.ref D) σ1 H1 Q
section
variable {X : Cx}
theorem pg_star {a b : Expr} {k : Nat} {pos p2 : Pos} {g1 g2 : TG} (hc : X.calm = true) (h1 : PG X a g1) (h2 : PG X b g2)
    (he : assignEach [a, .Starred b p2] X.env = [(false, assign a X.env), (true, assign b X.env)] := by rfl) : PG X (.Tuple [a, .Starred b p2] k pos) (gStar X.K g1 g2) := by
  refine ⟨fun pins s σ H v u Q I r hw => ?_⟩
  obtain ⟨l, x, xs, e1, hq, hz, hw⟩ := hw
  subst e1
  cases r
  obtain ⟨its, rv, ht, hz2⟩ := I.list hq
  cases rv with
  | cons rx rxs =>
    rw [assign_Tuple]
    refine wpAny_bind (wpAny_standAt ?_)
    unfold unpack
    rw [he]
    have lx := rxs.length
    refine wpAny_bind (wpAny_holding (star_items (I.ok.hd hc) ht.isList (by rw [List.length_cons, ← lx]; exact hz) fun h₂ tk keep => ?_))
    have I1 : Inv X pins σ H { s with heap := h₂, toks := tk } := I.kept (t' := tk) keep
    have nD : H h₂.objs.size = none := I1.hok.fresh (Nat.le_refl _)
    have I2 : Inv X pins σ (upd H h₂.objs.size (.lst xs)) { s with heap := h₂.push { cls := .type "list", data := .seq _ }, toks := tk } := I1.laid (t' := tk) (fun b o e => Heap.get?_push_of_some _ e) (Nat.le_refl _) ⟨Nat.le_of_lt hz, _, 0, rxs, Heap.get?_push_size _ rfl⟩
    refine assignInOrder_cons (thn (h1.run pins _ σ _ _ _ _ I2 rx (hw _ nD)) fun _ s1 ⟨σ1, H1, I3, q1⟩ => ?_)
    refine assignInOrder_cons (thn (h2.run pins _ σ1 _ (V.ref h₂.objs.size) _ _ I3 rfl q1) fun _ s2 ⟨σ2, H2, I4, q2⟩ => ?_)
    exact assignInOrder_nil ⟨σ2, H2, I4, q2⟩
end
end Lay
set_option Elab.async false
set_option linter.all false
set_option maxRecDepth 100000
set_option maxHeartbeats 4000000
set_option pp.maxSteps 900
/-! enumerate(list, start=k) -/
namespace Lay
open PySem PySem.Spec PyProof.Rows L2
/-- the list at a as it stands at each turn, each item in a new pair, the count from k on -/
def IteS (K : PySem.W.Frag) (a : Addr) (k : Nat) : It :=
  ⟨fun i H => ∃ (xs : List V) (x : V), SqL K H a xs ∧ xs[i]? = some x, fun i H v H' => ∃ T x, v = .ref T ∧ H T = none ∧ H' = upd H T (.tup [.int ((k + i : Nat) : Int), x]) ∧ ∀ xs, SqL K H a xs → xs[i]? = some x, fun i H => ∃ xs : List V, SqL K H a xs ∧ i = xs.length⟩
theorem turn_enumS {P : Program} {w : World} {K : PySem.W.Frag} {elts : List Expr} {kk k : Nat} {tpos : Pos} (a e it : Addr) :
    Turn P w K (.Tuple elts kk tpos) (IteS K a k) [e, it] e (fun i h => (∃ old, IsEnum h e it ((k + i : Nat) : Int) old) ∧ h.IsListIter it a i ∧ e ≠ it) where
  mem := List.mem_cons_self
  obj := fun i h st b hb => by
    obtain ⟨⟨old, he⟩, ⟨o, ho, hc, hd⟩, _⟩ := st
    rcases List.mem_cons.mp hb with rfl | hb
    · exact ⟨_, he, fun v q => nomatch q⟩
    · rw [List.mem_singleton.mp hb]
      exact ⟨o, ho, fun v q => by rw [hd] at q; cases q⟩
  keep := fun i h h' st q => by
    obtain ⟨⟨old, he⟩, hi, hne⟩ := st
    exact ⟨⟨old, q e (by simp) _ he⟩, hi.at fun o z => q it (by simp) o z, hne⟩
  item := by
    intro X hP hw hK hc i pins s σ H E I hf st hg
    subst hP hw hK
    obtain ⟨⟨old, he⟩, hit, hne⟩ := st
    obtain ⟨xs, x, hq, hx⟩ := hg
    obtain ⟨its, rv, p, hz⟩ := I.list hq
    obtain ⟨u, hu, ru⟩ := rv.get hx
    have eL : e < s.heap.objs.size := Heap.lt_size he
    have p' : s.heap.IsList a its.toArray := p.isList
    have itL : it < s.heap.objs.size := by
      obtain ⟨_, q, _⟩ := hit
      exact Heap.lt_size q
    have ta : a ≠ it := fun z => by
      obtain ⟨o1, q1, c1, _⟩ := hit
      obtain ⟨o2, q2, c2, _⟩ := p'
      rw [← z, q2] at q1
      cases q1
      rw [c2] at c1
      exact absurd c1 (by decide)
    have te : a ≠ e := fun z => by
      obtain ⟨o2, q2, c2, _⟩ := p'
      rw [z, he] at q2
      cases q2
      have c3 : Value.type "enumerate" = Value.type "list" := c2
      exact absurd c3 (by decide)
    have hlt : i < its.toArray.size := by
      have := (List.getElem?_eq_some_iff.mp hu).1
      simpa using this
    refine wpAny_pyNext_enum_itemC (Draws.list (prog := X.prog) (w := X.w) (A := X.A.in1) (I.ok.hd hc) it a ta its.toArray) he ⟨hit, p'⟩ hlt hne (by simp [hne, Ne.symm te]) fun y h' tk hy ho hst hT hsz hk => ?_
    obtain rfl : y = u := by
      have q : its[i]? = some y := by simpa using hy
      rw [hu] at q
      exact (Option.some.inj q).symm
    refine ⟨_, rfl, wpAny_letOwnedTupleGo_enum (s := { s with heap := h', toks := tk + 1 }) ho fun h'' he' sb => ?_⟩
    have hT2 : h''.get? s.heap.objs.size = some { cls := .type "tuple", data := .seq #[.int ((k + i : Nat) : Int) tk, y] } := (sb.2 _ (Nat.ne_of_gt eL)).trans hT
    have new : ObjOk X.prog X.w (upd H s.heap.objs.size (.tup [.int ((k + i : Nat) : Int), x])) h'' s.heap.objs.size (.tup [.int ((k + i : Nat) : Int), x]) :=
      ⟨by show 2 ≤ sizeLine; decide, [.int ((k + i : Nat) : Int) tk, y], .cons ⟨_, rfl⟩ (.cons ru .nil), ⟨_, hT2, rfl, _, rfl⟩⟩
    have J : Inv X pins σ (upd H s.heap.objs.size (.tup [.int ((k + i : Nat) : Int), x])) { s with heap := h'', toks := tk + 1 } :=
      I.turnedNew (ch := [e, it]) (fun b ob hb q => (sb.2 b (fun z => hb (by simp [z]))).trans (hk b ob (fun z => hb (by simp [z])) (fun z => hb (by simp [z])) q)) hf (Nat.le_refl _) new
    refine ⟨.ref s.heap.objs.size, _, J, rfl, ⟨_, x, rfl, I.hok.fresh (Nat.le_refl _), rfl, fun ys hy => by rw [I.list_inj hy hq]; exact hx⟩, ⟨⟨y, ?_⟩, hst.1.at fun o q => (sb.2 it (Ne.symm hne)).trans q, hne⟩, fun b hb => ?_⟩
    · have e1 : ((k + (i + 1) : Nat) : Int) = ((k + i : Nat) : Int) + 1 := by omega
      rw [e1]
      exact he'
    · have bL : b < s.heap.objs.size := by
        rcases List.mem_cons.mp hb with z | hb
        · rw [z]
          exact eL
        · rw [List.mem_singleton.mp hb]
          exact itL
      rw [upd_ne (Nat.ne_of_lt bL)]
      exact (hf b hb).1
  done := by
    intro X hP hw hK hc i pins s σ H E I hf st hg
    subst hP hw hK
    obtain ⟨⟨old, he⟩, hit, hne⟩ := st
    obtain ⟨xs, hq, hx⟩ := hg
    obtain ⟨its, rv, p, hz⟩ := I.list hq
    obtain ⟨f0, f1, f2, f3, f4, f5⟩ := hf it (by simp)
    have hl := rv.length
    have p' : s.heap.IsList a its.toArray := p.isList
    have ta : a ≠ it := fun z => by
      obtain ⟨o1, q1, c1, _⟩ := hit
      obtain ⟨o2, q2, c2, _⟩ := p'
      rw [← z, q2] at q1
      cases q1
      rw [c2] at c1
      exact absurd c1 (by decide)
    have hn : i = its.toArray.size := by
      simp
      omega
    exact wpAny_pyNext_enum_endD (Draws.list (prog := X.prog) (w := X.w) (A := X.A.in1) (I.ok.hd hc) it a ta its.toArray) he (by rw [← hn]; exact ⟨hit, p'⟩) fun h' eb => ⟨rfl, I.turned (t' := s.toks) (fun b o hb q => eb b o hb q) f0 f1 f3 f4 f5⟩
  self := fun A i s Q E st h => by
    obtain ⟨⟨_, he⟩, _⟩ := st
    exact wpAny_pyIter_enum he h
/-- what enumerate goes over -/
def iEnumS (K : PySem.W.Frag) (k : Nat) (ta : TA) : TI := fun σ H R => ta σ H fun vs H1 => ∃ (a : Addr) (xs : List V), vs = [.ref a] ∧ SqL K H1 a xs ∧ R (IteS K a k) H1
theorem pi_enumS {X : Cx} {e : Expr} {ta : TA} {p pos tpos q1 q2 : Pos} {j : Nat} {elts : List Expr} {kk k : Nat} (hg : Gl X "enumerate") (hm : X.mg "enumerate" = none) (ha : PA X [e] ta) (hk : k < 1000 := by decide) (hs : starEach [e] X.env = [(false, eval e X.env)] := by rfl) :
    PI X (.Tuple elts kk tpos) (.Call (.Name "enumerate" p) [e] [⟨some "start", .Constant (.int k) j q1, q2⟩] pos) (iEnumS X.K k ta) := by
  refine ⟨fun pins s σ H R I h => ?_⟩
  refine wpAny_Call_Name_kw (ld_blt I hg hm boot_enumerate ?_)
  refine PySem.W.callWith_of (P := fun _ => True) (by rw [hs]; rfl) (fun h _ => ⟨.machine, .inr (.inl rfl), .now⟩) (evalArgs_kw2 rfl (thn (ha.run pos pins s σ H _ I h) fun us s1 ⟨vs, H1, I1, r1, q1⟩ => ?_) hs)
  obtain ⟨a, xs, ex, hq, q⟩ := q1
  subst ex
  obtain ⟨u, rfl, ru⟩ := vals1 r1
  cases ru
  refine kwAll_cons (wpAny_Constant_int (kwAll_nil ⟨trivial, ?_⟩))
  have young : ∀ b, b ∈ [s1.heap.objs.size + 1, s1.heap.objs.size] → FpOk X pins H1 b := fun b hb => by
    have hle : s1.heap.objs.size ≤ b := by
      rcases List.mem_cons.mp hb with z | hb
      · rw [z]
        exact Nat.le_add_right _ _
      · rw [List.mem_singleton.mp hb]
        exact Nat.le_refl _
    exact I1.fpOk hle (I1.hok.fresh hle)
  obtain ⟨its, rv, p', hz⟩ := I1.list hq
  refine enum_begins_start (k := (k : Int)) (s := { s1 with toks := s1.toks + 1 }) (begins_list a its.toArray) p'.isList (by omega) (by omega) fun h' he hit hsz hk => wpAny_pyIter_enum he ?_
  have I2 : Inv X pins σ H1 { s1 with heap := h', toks := s1.toks + 1 } := I1.kept (t' := s1.toks + 1) hk
  exact ⟨s1.heap.objs.size + 1, [s1.heap.objs.size + 1, s1.heap.objs.size], _, _, H1, rfl, I2, turn_enumS a (s1.heap.objs.size + 1) s1.heap.objs.size, ⟨⟨.none, he⟩, ⟨_, hit, rfl, rfl⟩, Nat.succ_ne_self _⟩, young, q⟩
end Lay
set_option Elab.async false
set_option linter.all false
set_option maxRecDepth 100000
set_option maxHeartbeats 4000000
set_option pp.maxSteps 900
namespace Lay
open PySem PySem.StrLaws Builtin Builtin.Str TxL L2
/-! ### cutting up, by what no word holds -/
/-- sep does not begin within p, where sep stands behind p -/
def freeB (sep p : Str) : Bool := (List.range p.length).all fun k => ((L p ++ L sep).drop k).take sep.length != L sep
theorem free_at {sep p : Str} {rest : List Nat} {k : Nat} (h : freeB sep p = true) (hk : k < p.length) : ((L p ++ (L sep ++ rest)).drop k).take sep.length ≠ L sep := fun e => by
  have := List.all_eq_true.mp h k (List.mem_range.mpr hk)
  have e2 : ((L p ++ L sep).drop k).take sep.length = L sep := by
    refine Eq.trans ?_ e
    rw [← List.append_assoc, List.drop_append_of_le_length (l₁ := L p ++ L sep) (by rw [List.length_append, L_len]; omega), List.take_append_of_le_length (by rw [List.length_drop, List.length_append, L_len, L_len]; omega)]
  rw [e2] at this
  simp at this
theorem free_end {sep p : Str} {k : Nat} (h : freeB sep p = true) (hs : 0 < sep.length) (hk : k + sep.length ≤ p.length) : ((L p).drop k).take sep.length ≠ L sep := fun e => by
  have := List.all_eq_true.mp h k (List.mem_range.mpr (by omega))
  have e2 : ((L p ++ L sep).drop k).take sep.length = L sep := by
    rw [List.drop_append_of_le_length (by rw [L_len]; omega), List.take_append_of_le_length (by rw [List.length_drop, L_len]; omega), e]
  rw [e2] at this
  simp at this
theorem parts_areG {x sep : Str} (sl : 0 < sep.length) : ∀ (ps : List Str) (a f : Nat) (cuts : List Nat), ps ≠ [] → (∀ p ∈ ps, freeB sep p = true) → (L x).drop a = L (Str.join sep ps) → ChainG x sep x.length a cuts f → (∀ k, f ≤ k → ¬ At x sep x.length k) →
    partsFrom x sep.length a cuts = ps
  | [], _, _, _, h, _, _, _, _ => absurd rfl h
  | [p], a, f, cuts, _, fr, e, ch, no => by
    have e' : (L x).drop a = L p := e
    have none : ∀ k, a ≤ k → ¬ At x sep x.length k := fun k hk h => by
      obtain ⟨h1, h2⟩ := at_iff.mp h
      rw [show k = a + (k - a) by omega, ← List.drop_drop, e'] at h2
      have lp := congrArg List.length e'
      rw [List.length_drop, L_len, L_len] at lp
      exact free_end (fr p List.mem_cons_self) sl (by omega) h2
    cases cuts with
    | nil =>
      show [strSub x a x.length] = [p]
      rw [L_inj (a := strSub x a x.length) (b := p) (by rw [L_sub, e']; exact List.take_of_length_le (by rw [← e', List.length_drop, L_len]; exact Nat.le_refl _))]
    | cons c1 r => exact absurd ch.2.1 (none _ ch.1)
  | p :: q :: r, a, f, cuts, _, fr, e, ch, no => by
    rw [drop_join] at e
    have lx : x.length - a = p.length + (sep.length + (Str.join sep (q :: r)).length) := by
      have := congrArg List.length e
      rw [List.length_drop, List.length_append, List.length_append, L_len, L_len, L_len, L_len] at this
      exact this
    have hat : At x sep x.length (a + p.length) := by
      rw [at_iff]
      refine ⟨by omega, ?_⟩
      rw [← List.drop_drop, e, ← L_len p, List.drop_left, ← L_len sep, List.take_left]
    have lo : ∀ k, a ≤ k → k < a + p.length → ¬ At x sep x.length k := fun k hk hl h => by
      obtain ⟨_, h2⟩ := at_iff.mp h
      rw [show k = a + (k - a) by omega, ← List.drop_drop, e] at h2
      exact free_at (fr p List.mem_cons_self) (by omega) h2
    cases cuts with
    | nil =>
      have ef : f = a := ch
      exact absurd hat (no _ (by omega))
    | cons c1 t =>
      obtain ⟨h1, h2, h3, h4⟩ := ch
      have ec : c1 = a + p.length := by
        rcases Nat.lt_trichotomy c1 (a + p.length) with h | h | h
        · exact absurd h2 (lo _ h1 h)
        · exact h
        · exact absurd hat (h3 _ (by omega) h)
      subst ec
      have e1 : strSub x a (a + p.length) = p := L_inj (by rw [L_sub, e, show a + p.length - a = (L p).length by rw [L_len]; omega, List.take_left])
      have e2 : (L x).drop (a + p.length + sep.length) = L (Str.join sep (q :: r)) := by
        rw [← List.drop_drop, ← List.drop_drop, e, ← L_len p, List.drop_left, ← L_len sep, List.drop_left]
      have ih := parts_areG sl (q :: r) _ f t (by simp) (fun z hz => fr z (List.mem_cons_of_mem _ hz)) e2 h4 no
      show strSub x a (a + p.length) :: partsFrom x sep.length (a + p.length + sep.length) t = _
      rw [e1, ih]
theorem split_joinG {sep : Str} (sl : 0 < sep.length) (hk : PySem.Builtin.Str.strKind sep = 1) {ps : List Str} (ne : ps ≠ []) (fr : ∀ p ∈ ps, freeB sep p = true) : Txt.split (Txt.join sep ps) sep = ps := by
  have ej : Txt.join sep ps = Str.join sep ps := glued_eq_join sep ps
  rw [ej]
  obtain ⟨f, ch, no⟩ := occ_tight (Str.join sep ps) sep sl
  have key := parts_areG sl ps 0 f _ ne fr (by rw [List.drop_zero]) ch no
  unfold Txt.split
  have k1 : ¬ PySem.Builtin.Str.strKind (Str.join sep ps) < PySem.Builtin.Str.strKind sep := by
    rw [hk]
    unfold PySem.Builtin.Str.strKind
    split
    · decide
    · split <;> decide
  by_cases hl : (Str.join sep ps).length < sep.length
  · rw [if_pos (by rw [decide_eq_true hl]; rfl)]
    cases ps with
    | nil => exact absurd rfl ne
    | cons p r =>
      cases r with
      | nil => rfl
      | cons q t =>
        have := congrArg List.length (drop_join (sep := sep) (p := p) (q := q) (r := t))
        rw [List.length_append, List.length_append, L_len, L_len, L_len] at this
        omega
  · rw [if_neg (by rw [decide_eq_false hl, decide_eq_false k1]; decide)]
    by_cases he : (occurrences (Str.join sep ps) sep 0 (Str.join sep ps).length ((Str.join sep ps).length + 1)).isEmpty = true
    · rw [if_pos he]
      rw [List.isEmpty_iff.mp he] at key
      refine Eq.trans ?_ key
      show [Str.join sep ps] = [strSub (Str.join sep ps) 0 (Str.join sep ps).length]
      rw [L_inj (a := strSub (Str.join sep ps) 0 (Str.join sep ps).length) (b := Str.join sep ps) (by rw [L_sub, List.drop_zero]; exact List.take_of_length_le (by rw [L_len]; exact Nat.le_refl _))]
    · rw [if_neg he, partsBetween_eq]
      exact key
theorem split_ne {x sep : Str} (h : sep.length ≠ 0) : Txt.split x sep ≠ [] := by
  intro z
  have e := StrLaws.join_split x sep
  rw [z] at e
  have e2 : x = Str.ofString "" := by rw [← e]; rfl
  rw [e2] at z
  unfold Txt.split at z
  rw [if_pos (by rw [decide_eq_true (by show 0 < sep.length; omega)]; rfl)] at z
  cases z
theorem joinT (sep : Str) (ps : List Str) : Txt.join sep ps = Str.join sep ps := glued_eq_join sep ps
theorem join_split' (x sep : Str) : Txt.join sep (Txt.split x sep) = x := by
  rw [joinT]
  exact StrLaws.join_split x sep
theorem part_atG {a y b : Str} (no : ∀ k, k < a.length → ¬ At (a ++ y ++ b) y (a ++ y ++ b).length k) : Txt.partition (a ++ y ++ b) y = (a, y, b) := by
  have hm := at_mid a y b
  unfold Txt.partition
  rcases occ_head (a ++ y ++ b) y 1 (Nat.le_refl 1) with ⟨_, hn⟩ | ⟨i, r, e, hi, hk⟩
  · exact absurd hm (hn _)
  · rw [e]
    have ei : i = a.length := by
      rcases Nat.lt_trichotomy i a.length with h | h | h
      · exact absurd hi (no i h)
      · exact h
      · exact absurd hm (hk _ h)
    subst ei
    have e1 : strSub (a ++ y ++ b) 0 a.length = a := L_inj (by rw [L_sub, L_app, L_app, List.append_assoc, List.drop_zero, Nat.sub_zero, ← L_len a, List.take_left])
    have e2 : strSub (a ++ y ++ b) (a.length + y.length) (a ++ y ++ b).length = b := L_inj (by
      rw [L_sub, L_app, L_app, Str.length_append, Str.length_append, show a.length + y.length = (L a ++ L y).length by rw [List.length_append, L_len, L_len], List.drop_left]
      refine List.take_of_length_le ?_
      rw [List.length_append, L_len, L_len, L_len]
      omega)
    show (strSub (a ++ y ++ b) 0 a.length, y, strSub (a ++ y ++ b) (a.length + y.length) (a ++ y ++ b).length) = _
    rw [e1, e2]
/-! ### no `do` -/
def np : List Nat → Bool
  | [] => true
  | x :: r => !(x == 100 && r.head? == some 111) && np r
theorem np_get : ∀ {l : List Nat} {k : Nat}, np l = true → l[k]? = some 100 → l[k + 1]? ≠ some 111
  | x :: r, 0, h, e, e2 => by
    unfold np at h
    have ex : x = 100 := by simpa using e
    have er : r.head? = some 111 := by
      cases r with
      | nil => cases e2
      | cons y t => simpa using e2
    rw [ex, er] at h
    simp at h
  | x :: r, k + 1, h, e, e2 => by
    unfold np at h
    rw [Bool.and_eq_true] at h
    exact np_get (k := k) h.2 (by simpa using e) (by simpa using e2)
theorem np_app : ∀ {a b : List Nat}, np a = true → np b = true → b.head? ≠ some 111 → np (a ++ b) = true
  | [], b, _, h, _ => h
  | x :: r, b, ha, hb, hh => by
    unfold np at ha
    rw [Bool.and_eq_true] at ha
    have ih := np_app ha.2 hb hh
    show (!(x == 100 && (r ++ b).head? == some 111) && np (r ++ b)) = true
    rw [ih, Bool.and_true]
    cases r with
    | nil =>
      have e : ([] ++ b).head? = b.head? := rfl
      rw [e]
      have : (b.head? == some 111) = false := by simpa using hh
      rw [this, Bool.and_false]
      rfl
    | cons y t => exact ha.1
def okW (p : Str) : Bool := np (L p) && (match L p with | [] => false | c :: _ => c != 111)
theorem okW_iff {p : Str} (h : okW p = true) : np (L p) = true ∧ (L p).head? ≠ some 111 ∧ L p ≠ [] := by
  unfold okW at h
  rw [Bool.and_eq_true] at h
  refine ⟨h.1, ?_⟩
  have h2 := h.2
  cases e : L p with
  | nil => rw [e] at h2; cases h2
  | cons c t =>
    rw [e] at h2
    refine ⟨fun z => ?_, fun z => by cases z⟩
    have : c = 111 := by simpa using z
    rw [this] at h2
    simp at h2
theorem np_join {sep : Str} (hs : okW sep = true) : ∀ ps : List Str, (∀ p ∈ ps, okW p = true) → np (L (Str.join sep ps)) = true ∧ (L (Str.join sep ps)).head? ≠ some 111
  | [], _ => ⟨rfl, fun e => by cases e⟩
  | [p], h => ⟨(okW_iff (h p List.mem_cons_self)).1, (okW_iff (h p List.mem_cons_self)).2.1⟩
  | p :: q :: r, h => by
    obtain ⟨i1, i2⟩ := np_join hs (q :: r) fun z hz => h z (List.mem_cons_of_mem _ hz)
    obtain ⟨p1, p2, p3⟩ := okW_iff (h p List.mem_cons_self)
    obtain ⟨s1, s2, s3⟩ := okW_iff hs
    rw [drop_join]
    refine ⟨np_app p1 (np_app s1 i1 i2) ?_, ?_⟩
    · cases e : L sep with
      | nil => exact absurd e s3
      | cons c t =>
        rw [e] at s2
        exact s2
    · cases e : L p with
      | nil => exact absurd e p3
      | cons c t =>
        rw [e] at p2
        exact p2
end Lay
set_option Elab.async false
set_option linter.all false
set_option maxRecDepth 100000
set_option maxHeartbeats 4000000
set_option pp.maxSteps 900
namespace Lay
open PySem PySem.StrLaws Builtin Builtin.Str TxL L2
/-! ### words -/
def everyL : List Str := testL ++ testL.map fun z => Str.ofString "not " ++ z
theorem inV_iff {z : Str} {zs : List Str} : inV (.str z) (zs.map V.str) = true ↔ z ∈ zs := by
  unfold inV
  rw [List.any_eq_true]
  constructor
  · rintro ⟨y, hy, e⟩
    obtain ⟨a, ha, rfl⟩ := List.mem_map.mp hy
    have : V.str a = V.str z := by simpa [eqV] using e
    cases this
    exact ha
  · intro h
    exact ⟨.str z, List.mem_map.mpr ⟨z, h, rfl⟩, by simp [eqV]⟩
theorem every_prog : ∀ z ∈ everyL, progT z = true := by decide +kernel
theorem progT_iff {z : Str} : progT z = true ↔ z ∈ everyL := by
  constructor
  · intro h
    unfold progT at h
    have m := inV_iff.mp h
    unfold everyL
    cases s : Txt.startswith z "not " with
    | true =>
      have e := start_inv s
      exact List.mem_append_right _ (List.mem_map.mpr ⟨_, m, e.symm⟩)
    | false =>
      rw [pre_no s] at m
      exact List.mem_append_left _ m
  · exact every_prog z
theorem progD_iff {z : Str} : progD z = true ↔ z ∈ deedL := inV_iff
def inEv (z : Str) : Bool := inV (.str z) (everyL.map V.str)
theorem inEv_eq (z : Str) : inEv z = progT z := by
  have h : inEv z = true ↔ progT z = true := inV_iff.trans progT_iff.symm
  cases a : inEv z <;> cases b : progT z <;> simp_all
structure WordT (z : Str) : Prop where
  len : z.length ≤ 20
  ok : PyData.strOk z = true
  and_ : freeB " and " z = true
  w : okW z = true
structure WordD (z : Str) : Prop where
  len : z.length ≤ 20
  then_ : freeB " then " z = true
  w : okW z = true
def wordTB (z : Str) : Bool := decide (z.length ≤ 20) && (PyData.strOk z && (freeB " and " z && okW z))
def wordDB (z : Str) : Bool := decide (z.length ≤ 20) && (freeB " then " z && okW z)
theorem every_word : ∀ z ∈ everyL, wordTB z = true := by decide +kernel
theorem deed_word : ∀ z ∈ deedL, wordDB z = true := by decide +kernel
theorem wordT {z : Str} (h : progT z = true) : WordT z := by
  have := every_word z (progT_iff.mp h)
  unfold wordTB at this
  simp only [Bool.and_eq_true, decide_eq_true_eq] at this
  exact ⟨this.1, this.2.1, this.2.2.1, this.2.2.2⟩
theorem wordD {z : Str} (h : progD z = true) : WordD z := by
  have := deed_word z (progD_iff.mp h)
  unfold wordDB at this
  simp only [Bool.and_eq_true, decide_eq_true_eq] at this
  exact ⟨this.1, this.2.1, this.2.2⟩
/-! ### rows -/
/-- tests and deeds of the package -/
structure RD.Good (r : RD) : Prop where
  t : ∀ z ∈ r.ws, progT z = true
  d : ∀ z ∈ r.us, progD z = true
  nu : r.us ≠ []
def askedOf (line : Str) : Str := (Txt.partition (Txt.removeprefix line "if ") "do ").1
def doneOf (line : Str) : Str := (Txt.partition (Txt.removeprefix line "if ") "do ").2.2
def testsOf (asked : Str) : List Str := if asked.length = 0 then [] else Txt.split (Txt.removesuffix asked " ") " and "
def rowOf (line : Str) : RD := ⟨testsOf (askedOf line), Txt.split (doneOf line) " then "⟩
def goodL (line : Str) : Bool := (rowOf line).ws.all progT && ((rowOf line).us.all progD && decide (rowText (rowOf line) = line))
theorem spl_ts {r : RD} (g : r.Good) (h : r.ws ≠ []) : Txt.split (Txt.join " and " r.ws) " and " = r.ws := split_joinG (by decide) (by decide +kernel) h fun p hp => (wordT (g.t p hp)).and_
theorem spl_us {r : RD} (g : r.Good) : Txt.split (Txt.join " then " r.us) " then " = r.us := split_joinG (by decide) (by decide +kernel) g.nu fun p hp => (wordD (g.d p hp)).then_
theorem np_ts {r : RD} (g : r.Good) : np (L (Txt.join " and " r.ws)) = true := by
  rw [joinT]
  exact (np_join (sep := " and ") (by decide +kernel) r.ws fun p hp => (wordT (g.t p hp)).w).1
theorem np_us {r : RD} (g : r.Good) : np (L (Txt.join " then " r.us)) = true := by
  rw [joinT]
  exact (np_join (sep := " then ") (by decide +kernel) r.us fun p hp => (wordD (g.d p hp)).w).1
theorem np_sp {a : Str} (h : np (L a) = true) : np (L (a ++ Str.ofString " ")) = true := by
  rw [L_app]
  exact np_app h (by decide +kernel) (by decide +kernel)
theorem no_do {a b : Str} (h : np (L a) = true) : ∀ k, k < a.length → ¬ At (a ++ Str.ofString "do " ++ b) (Str.ofString "do ") (a ++ Str.ofString "do " ++ b).length k := fun k hk hat => by
  have g0 := at_get (j := 0) (c := 100) hat (by decide +kernel)
  have g1 := at_get (j := 1) (c := 111) hat (by decide +kernel)
  rw [L_app, L_app, List.append_assoc] at g0 g1
  rw [Nat.add_zero, List.getElem?_append_left (by rw [L_len]; exact hk)] at g0
  by_cases q : k + 1 < a.length
  · rw [List.getElem?_append_left (by rw [L_len]; exact q)] at g1
    exact np_get h g0 g1
  · have e : k + 1 = (L a).length := by rw [L_len]; omega
    rw [e, List.getElem?_append_right (Nat.le_refl _), Nat.sub_self] at g1
    have : (L (Str.ofString "do ") ++ L b)[0]? = some 100 := by
      have e2 : L (Str.ofString "do ") = [100, 111, 32] := by decide +kernel
      rw [e2]
      rfl
    rw [this] at g1
    cases g1
theorem rowOf_text {r : RD} (g : r.Good) : rowOf (rowText r) = r := by
  by_cases e : r.ws = []
  · have h1 : Txt.removeprefix (rowText r) "if " = (Str.ofString "" ++ Str.ofString "do ") ++ Txt.join " then " r.us := by
      rw [rowText_none e]
      refine pre_no (start_no (c := 105) (by decide +kernel) ?_)
      rw [L_app]
      have e2 : L (Str.ofString "" ++ Str.ofString "do ") = [100, 111, 32] := by decide +kernel
      rw [e2]
      intro z
      cases z
    have h2 : Txt.partition (Txt.removeprefix (rowText r) "if ") "do " = (Str.ofString "", Str.ofString "do ", Txt.join " then " r.us) := by
      rw [h1]
      exact part_atG (no_do (a := Str.ofString "") rfl)
    unfold rowOf askedOf doneOf
    rw [h2]
    show RD.mk (testsOf (Str.ofString "")) (Txt.split (Txt.join " then " r.us) " then ") = r
    rw [spl_us g]
    have h3 : testsOf (Str.ofString "") = r.ws := by rw [e]; rfl
    rw [h3]
  · have h1 : Txt.removeprefix (rowText r) "if " = (Txt.join " and " r.ws ++ Str.ofString " ") ++ Str.ofString "do " ++ Txt.join " then " r.us := by
      have e1 : rowText r = Str.ofString "if " ++ ((Txt.join " and " r.ws ++ Str.ofString " ") ++ Str.ofString "do " ++ Txt.join " then " r.us) := by
        rw [rowText_some e]
        simp only [str_assoc]
      rw [e1]
      exact pre_app _ _
    have h2 : Txt.partition (Txt.removeprefix (rowText r) "if ") "do " = (Txt.join " and " r.ws ++ Str.ofString " ", Str.ofString "do ", Txt.join " then " r.us) := by
      rw [h1]
      exact part_atG (no_do (np_sp (np_ts g)))
    unfold rowOf askedOf doneOf
    rw [h2]
    show RD.mk (testsOf (Txt.join " and " r.ws ++ Str.ofString " ")) (Txt.split (Txt.join " then " r.us) " then ") = r
    rw [spl_us g]
    have h3 : testsOf (Txt.join " and " r.ws ++ Str.ofString " ") = r.ws := by
      unfold testsOf
      rw [if_neg (by rw [Str.length_append]; have : (Str.ofString " ").length = 1 := by decide
                     omega)]
      have : Txt.removesuffix (Txt.join " and " r.ws ++ Str.ofString " ") " " = Txt.join " and " r.ws := suf_app _ _
      rw [this, spl_ts g e]
    rw [h3]
theorem good_iff {line : Str} : goodL line = true ↔ ∃ r : RD, r.Good ∧ rowText r = line := by
  constructor
  · intro h
    unfold goodL at h
    simp only [Bool.and_eq_true, List.all_eq_true, decide_eq_true_eq] at h
    exact ⟨rowOf line, ⟨h.1, h.2.1, split_ne (by decide)⟩, h.2.2⟩
  · rintro ⟨r, g, rfl⟩
    unfold goodL
    rw [rowOf_text g]
    simp only [Bool.and_eq_true, List.all_eq_true, decide_eq_true_eq]
    exact ⟨g.t, g.d, trivial⟩
theorem goodL_row {line : Str} (h : goodL line = true) : (rowOf line).Good ∧ rowText (rowOf line) = line := by
  unfold goodL at h
  simp only [Bool.and_eq_true, List.all_eq_true, decide_eq_true_eq] at h
  exact ⟨⟨h.1, h.2.1, split_ne (by decide)⟩, h.2.2⟩
/-- the law's way to tell a row's text -/
def lawLine (line : Str) : Bool :=
  if Txt.slice line none (some 3) = Str.ofString "if " then
    decide ((Txt.split (Txt.slice line (some 3) none) " do ").length = 2) && ((Txt.split ((Txt.split (Txt.slice line (some 3) none) " do ").getD 0 Str.empty) " and ").all progT && (Txt.split ((Txt.split (Txt.slice line (some 3) none) " do ").getD 1 Str.empty) " then ").all progD)
  else decide (Txt.slice line none (some 3) = Str.ofString "do ") && (Txt.split (Txt.slice line (some 3) none) " then ").all progD
theorem cut3 (line : Str) : line = Txt.slice line none (some 3) ++ Txt.slice line (some 3) none := L_inj (by
  rw [L_app]
  have h1 := c_pre (z := line) 3
  have h2 := c_suf (z := line) 3
  rw [show ((3 : Nat) : Int) = 3 from rfl] at h1 h2
  rw [h1, h2, List.take_append_drop])
theorem cut3_app {a b : Str} (h : a.length = 3) : Txt.slice (a ++ b) none (some 3) = a ∧ Txt.slice (a ++ b) (some 3) none = b := by
  have h1 := c_pre (z := a ++ b) 3
  have h2 := c_suf (z := a ++ b) 3
  rw [show ((3 : Nat) : Int) = 3 from rfl] at h1 h2
  refine ⟨L_inj ?_, L_inj ?_⟩
  · rw [h1, L_app, ← h, ← L_len, List.take_left]
  · rw [h2, L_app, ← h, ← L_len, List.drop_left]
theorem free_do {a : Str} (h : np (L a) = true) : freeB " do " a = true := by
  unfold freeB
  rw [List.all_eq_true]
  intro k hk
  have lk : k < a.length := List.mem_range.mp hk
  have e2 : L (Str.ofString " do ") = [32, 100, 111, 32] := by decide +kernel
  have l4 : (Str.ofString " do ").length = 4 := by decide
  show (((L a ++ L (Str.ofString " do ")).drop k).take (Str.ofString " do ").length != L (Str.ofString " do ")) = true
  rw [bne_iff_ne]
  intro z
  have get : ∀ j, j < 4 → (L a ++ L (Str.ofString " do "))[k + j]? = (L (Str.ofString " do "))[j]? := fun j hj => by
    rw [← z, List.getElem?_take_of_lt (by rw [l4]; exact hj), List.getElem?_drop, z]
  have g1 := get 1 (by decide)
  have g2 := get 2 (by decide)
  rw [e2] at g1 g2
  have g1 : (L a ++ [32, 100, 111, 32])[k + 1]? = some 100 := g1
  have g2 : (L a ++ [32, 100, 111, 32])[k + 2]? = some 111 := g2
  rcases Nat.lt_trichotomy (k + 1) a.length with q | q | q
  · rw [List.getElem?_append_left (by rw [L_len]; exact q)] at g1
    by_cases q2 : k + 2 < a.length
    · rw [List.getElem?_append_left (by rw [L_len]; exact q2)] at g2
      exact np_get h g1 g2
    · have e : k + 2 = (L a).length := by rw [L_len]; omega
      rw [e, List.getElem?_append_right (Nat.le_refl _), Nat.sub_self] at g2
      cases g2
  · have e : k + 1 = (L a).length := by rw [L_len]; omega
    rw [e, List.getElem?_append_right (Nat.le_refl _), Nat.sub_self] at g1
    cases g1
  · omega
theorem law_iff {line : Str} : lawLine line = true ↔ ∃ r : RD, r.Good ∧ rowText r = line := by
  constructor
  · intro h
    have ec := cut3 line
    unfold lawLine at h
    split at h
    · rename_i e3
      simp only [Bool.and_eq_true, List.all_eq_true, decide_eq_true_eq] at h
      obtain ⟨l2, ht, hd⟩ := h
      have ej := join_split' (Txt.slice line (some 3) none) " do "
      generalize hps : Txt.split (Txt.slice line (some 3) none) " do " = ps at *
      obtain ⟨p, q, rfl⟩ : ∃ p q, ps = [p, q] := by
        match ps, l2 with
        | [p, q], _ => exact ⟨p, q, rfl⟩
      refine ⟨⟨Txt.split p " and ", Txt.split q " then "⟩, ⟨ht, hd, split_ne (by decide)⟩, ?_⟩
      rw [rowText_some (r := ⟨Txt.split p " and ", Txt.split q " then "⟩) (split_ne (by decide))]
      show (((Str.ofString "if " ++ Txt.join " and " (Txt.split p " and ")) ++ Str.ofString " ") ++ Str.ofString "do ") ++ Txt.join " then " (Txt.split q " then ") = line
      rw [join_split', join_split', ec, e3, ← ej, joinT]
      show _ = Str.ofString "if " ++ (p ++ Str.ofString " do " ++ q)
      rw [show Str.ofString " do " = Str.ofString " " ++ Str.ofString "do " from by decide +kernel]
      simp only [str_assoc]
    · simp only [Bool.and_eq_true, List.all_eq_true, decide_eq_true_eq] at h
      obtain ⟨e3, hd⟩ := h
      refine ⟨⟨[], Txt.split (Txt.slice line (some 3) none) " then "⟩, ⟨fun z hz => (List.not_mem_nil hz).elim, hd, split_ne (by decide)⟩, ?_⟩
      rw [rowText_none (r := ⟨[], Txt.split (Txt.slice line (some 3) none) " then "⟩) rfl]
      show (Str.ofString "" ++ Str.ofString "do ") ++ Txt.join " then " (Txt.split (Txt.slice line (some 3) none) " then ") = line
      rw [join_split', show Str.ofString "" ++ Str.ofString "do " = Str.ofString "do " from by decide +kernel, ← e3]
      exact ec.symm
  · rintro ⟨r, g, rfl⟩
    unfold lawLine
    by_cases e : r.ws = []
    · have ex : rowText r = Str.ofString "do " ++ Txt.join " then " r.us := by
        rw [rowText_none e, show Str.ofString "" ++ Str.ofString "do " = Str.ofString "do " from by decide +kernel]
      obtain ⟨c1, c2⟩ := cut3_app (a := Str.ofString "do ") (b := Txt.join " then " r.us) (by decide)
      rw [ex, c1, c2, if_neg (by decide +kernel), spl_us g]
      simp only [Bool.and_eq_true, List.all_eq_true, decide_eq_true_eq]
      exact ⟨trivial, g.d⟩
    · have ex : rowText r = Str.ofString "if " ++ (Txt.join " and " r.ws ++ Str.ofString " do " ++ Txt.join " then " r.us) := by
        rw [rowText_some e, show Str.ofString " do " = Str.ofString " " ++ Str.ofString "do " from by decide +kernel]
        simp only [str_assoc]
      obtain ⟨c1, c2⟩ := cut3_app (a := Str.ofString "if ") (b := Txt.join " and " r.ws ++ Str.ofString " do " ++ Txt.join " then " r.us) (by decide)
      have es : Txt.split (Txt.join " and " r.ws ++ Str.ofString " do " ++ Txt.join " then " r.us) " do " = [Txt.join " and " r.ws, Txt.join " then " r.us] := by
        have := split_joinG (sep := " do ") (ps := [Txt.join " and " r.ws, Txt.join " then " r.us]) (by decide) (by decide +kernel) (by simp) (fun p hp => by
          simp only [List.mem_cons, List.not_mem_nil, or_false] at hp
          rcases hp with rfl | rfl
          · exact free_do (np_ts g)
          · exact free_do (np_us g))
        rw [joinT] at this
        exact this
      rw [ex, c1, c2, if_pos rfl, es]
      simp only [Bool.and_eq_true, List.all_eq_true, decide_eq_true_eq]
      refine ⟨rfl, ?_, ?_⟩
      · show ∀ z ∈ Txt.split (Txt.join " and " r.ws) " and ", progT z = true
        rw [spl_ts g e]
        exact g.t
      · show ∀ z ∈ Txt.split (Txt.join " then " r.us) " then ", progD z = true
        rw [spl_us g]
        exact g.d
theorem law_good (line : Str) : lawLine line = goodL line := by
  have h : lawLine line = true ↔ goodL line = true := law_iff.trans good_iff.symm
  cases a : lawLine line <;> cases b : goodL line <;> simp_all
end Lay
set_option Elab.async false
set_option linter.all false
set_option maxRecDepth 100000
set_option maxHeartbeats 4000000
set_option pp.maxSteps 900
namespace Lay
open PySem TxL L2
/-! ### texts of tools -/
def badAt : List Str → Nat → Option Nat
  | [], _ => none
  | l :: r, i => if goodL l = true then badAt r (i + 1) else some i
def headB (z : Str) : Bool := inV (.str z) ([Str.ofString "tool", Str.ofString "tool sorts"].map V.str)
def readT (t : Str) : Option Nat := match Txt.split t "\n" with
  | [] => some 0
  | f :: ls => if headB f = true then badAt ls 1 else some 0
def rowsOf (ls : List Str) : List RD := ls.map rowOf
theorem badAt_none {i : Nat} : ∀ {ls : List Str} {i : Nat}, badAt ls i = none → ∀ l ∈ ls, goodL l = true
  | [], _, _, l, h => (List.not_mem_nil h).elim
  | z :: r, i, e, l, h => by
    unfold badAt at e
    split at e
    · rename_i g
      rcases List.mem_cons.mp h with rfl | h
      · exact g
      · exact badAt_none (i := i) e l h
    · cases e
theorem badAt_good : ∀ {ls : List Str} {i : Nat}, (∀ l ∈ ls, goodL l = true) → badAt ls i = none
  | [], _, _ => rfl
  | z :: r, i, h => by
    unfold badAt
    rw [if_pos (h z List.mem_cons_self)]
    exact badAt_good fun l hl => h l (List.mem_cons_of_mem _ hl)
/-- the first that is none -/
theorem badAt_some : ∀ {ls : List Str} {i n : Nat}, badAt ls i = some n → ∃ j l, n = i + j ∧ ls[j]? = some l ∧ goodL l = false ∧ ∀ j' l', j' < j → ls[j']? = some l' → goodL l' = true
  | [], _, _, h => by cases h
  | z :: r, i, n, h => by
    unfold badAt at h
    split at h
    · rename_i g
      obtain ⟨j, l, e1, e2, e3, e4⟩ := badAt_some (ls := r) h
      refine ⟨j + 1, l, by omega, by simpa using e2, e3, fun j' l' hj hl => ?_⟩
      cases j' with
      | zero =>
        cases hl
        exact g
      | succ j' => exact e4 j' l' (by omega) (by simpa using hl)
    · rename_i g
      cases h
      exact ⟨0, z, rfl, rfl, by simpa using g, fun j' l' hj => absurd hj (Nat.not_lt_zero _)⟩
theorem head_iff {z : Str} : headB z = true ↔ z = Str.ofString "tool" ∨ z = Str.ofString "tool sorts" := by
  unfold headB
  rw [inV_iff]
  simp
theorem row_text {ls : List Str} (h : ∀ l ∈ ls, goodL l = true) : (rowsOf ls).map rowText = ls := by
  unfold rowsOf
  rw [List.map_map]
  refine List.map_congr_left (g := id) (fun l hl => (goodL_row (h l hl)).2) |>.trans (List.map_id _)
theorem first_text {z : Str} (h : headB z = true) : firstS (decide (V.str z = V.str "tool sorts")) = z := by
  rcases head_iff.mp h with rfl | rfl
  · decide +kernel
  · decide +kernel
theorem tool_text {f : Str} {ls : List Str} {t : Str} (e : Txt.split t "\n" = f :: ls) (hf : headB f = true) (h : ∀ l ∈ ls, goodL l = true) : toolText (rowsOf ls) (decide (V.str f = V.str "tool sorts")) = t := by
  unfold toolText
  rw [row_text h, first_text hf, ← e, join_split']
/-! a drawn tool's text -/
theorem mem_join {c : Nat} (sep : Str) : ∀ ps : List Str, c ∈ L (Str.join sep ps) → c ∈ L sep ∨ ∃ p ∈ ps, c ∈ L p
  | [], h => by cases h
  | [p], h => .inr ⟨p, List.mem_cons_self, h⟩
  | p :: q :: r, h => by
    rw [drop_join] at h
    rcases List.mem_append.mp h with h | h
    · exact .inr ⟨p, List.mem_cons_self, h⟩
    · rcases List.mem_append.mp h with h | h
      · exact .inl h
      · rcases mem_join sep (q :: r) h with h | ⟨z, hz, h⟩
        · exact .inl h
        · exact .inr ⟨z, List.mem_cons_of_mem _ hz, h⟩
theorem every_10 : ∀ z ∈ everyL, 10 ∉ L z := by decide +kernel
theorem deed_10 : ∀ z ∈ deedL, 10 ∉ L z := by decide +kernel
theorem row_10 {r : RD} (g : r.Good) : 10 ∉ L (rowText r) := by
  have h1 : 10 ∉ L (Txt.join " and " r.ws) := fun h => by
    rw [joinT] at h
    rcases mem_join _ _ h with h | ⟨z, hz, h⟩
    · exact absurd h (by decide +kernel)
    · exact every_10 z (progT_iff.mp (g.t z hz)) h
  have h2 : 10 ∉ L (Txt.join " then " r.us) := fun h => by
    rw [joinT] at h
    rcases mem_join _ _ h with h | ⟨z, hz, h⟩
    · exact absurd h (by decide +kernel)
    · exact deed_10 z (progD_iff.mp (g.d z hz)) h
  by_cases e : r.ws = []
  · rw [rowText_none e, L_app]
    intro h
    rcases List.mem_append.mp h with h | h
    · exact absurd h (by decide +kernel)
    · exact h2 h
  · rw [rowText_some e, L_app, L_app, L_app, L_app]
    simp only [List.mem_append, not_or]
    exact ⟨⟨⟨⟨by decide +kernel, h1⟩, by decide +kernel⟩, by decide +kernel⟩, h2⟩
theorem first_10 (s : Bool) : 10 ∉ L (firstS s) := by cases s <;> decide +kernel
theorem split_text {rs : List RD} {s : Bool} (h : ∀ r ∈ rs, r.Good) : Txt.split (toolText rs s) "\n" = firstS s :: rs.map rowText := by
  refine TxL.split_join (c := 10) (by decide +kernel) (by decide +kernel) (by simp) fun p hp => ?_
  rcases List.mem_cons.mp hp with rfl | hp
  · exact first_10 s
  · obtain ⟨r, hr, rfl⟩ := List.mem_map.mp hp
    exact row_10 (h r hr)
theorem first_head (s : Bool) : headB (firstS s) = true := by cases s <;> decide +kernel
theorem read_text {rs : List RD} {s : Bool} (h : ∀ r ∈ rs, r.Good) : readT (toolText rs s) = none := by
  unfold readT
  rw [split_text h]
  show (if headB (firstS s) = true then badAt (rs.map rowText) 1 else some 0) = none
  rw [if_pos (first_head s)]
  refine badAt_good fun l hl => ?_
  obtain ⟨r, hr, rfl⟩ := List.mem_map.mp hl
  exact good_iff.mpr ⟨r, h r hr, rfl⟩
end Lay
set_option Elab.async false
set_option linter.all false
set_option maxRecDepth 100000
set_option maxHeartbeats 4000000
set_option pp.maxSteps 900
namespace Lay
open PySem PySem.Spec PyProof.Rows L2
/-! one row read -/
/-- what is raised with a number -/
def RaisedN (D : Addr) (H : Hp) (v : V) (E : XK) : Prop := ∀ H' d, Same H H' → H d = none → H' d = some (.xd [("at", v)]) → E (.ref D) (some d) H'
theorem RaisedN.same {D : Addr} {H H' : Hp} {v : V} {E : XK} (s : Same H H') (h : RaisedN D H v E) : RaisedN D H' v E := fun G d s2 n e => h G d (s.trans s2) (s.free n) e
theorem ans_list {f : Str → Bool} {more : List V → Bool} {K : PySem.W.Frag} {H : Hp} {a : Addr} {ws : List Str} (ha : H a = some (.lst (ws.map V.str))) (l : ws.length ≤ 100000) (m : more (ws.map V.str) = true) (lz : ∀ z ∈ ws, z.length ≤ 100000) : AnsV f more K H (.ref a) (ws.all f) := by
  refine .inr ⟨a, _, ws.map f, rfl, .inl ha, by rw [List.length_map]; exact l, ⟨by rw [List.length_map, List.length_map], fun i x b hx hb => ?_⟩, ?_⟩
  · obtain ⟨z, hz, rfl⟩ := str_at hx
    rw [List.getElem?_map, hz] at hb
    cases hb
    exact .inl ⟨z, rfl, lz z (List.mem_of_getElem? hz), rfl⟩
  · rw [m, Bool.true_and]
    cases h : ws.all f with
    | true =>
      symm
      rw [List.all_eq_true] at h ⊢
      intro b hb
      obtain ⟨z, hz, rfl⟩ := List.mem_map.mp hb
      exact h z hz
    | false =>
      symm
      rw [List.all_eq_false] at h ⊢
      obtain ⟨z, hz, hf⟩ := h
      exact ⟨f z, List.mem_map.mpr ⟨z, hz, rfl⟩, hf⟩
theorem pre_len (x y : Str) : (Txt.removeprefix x y).length ≤ x.length := by
  cases h : Txt.startswith x y with
  | true =>
    have := congrArg Str.length (start_inv h)
    rw [Str.length_append] at this
    omega
  | false =>
    rw [TxL.pre_no h]
    exact Nat.le_refl _
theorem suf_len (x y : Str) : (Txt.removesuffix x y).length ≤ x.length := by
  cases h : Txt.endswith x y with
  | true =>
    have := congrArg Str.length (end_inv h)
    rw [Str.length_append] at this
    omega
  | false =>
    rw [TxL.suf_no h]
    exact Nat.le_refl _
theorem sub_len (x : Str) (i j : Nat) : (Builtin.Str.strSub x i j).length ≤ x.length := by
  rw [← TxL.L_len, TxL.L_sub, List.length_take, List.length_drop, TxL.L_len]
  omega
theorem part_len (x y : Str) : (Txt.partition x y).1.length ≤ x.length ∧ (Txt.partition x y).2.2.length ≤ x.length := by
  unfold Txt.partition
  split
  · exact ⟨sub_len _ _ _, sub_len _ _ _⟩
  · exact ⟨Nat.le_refl _, by show 0 ≤ _; exact Nat.zero_le _⟩
theorem split_few {x sep : Str} (h : 0 < sep.length) : (Txt.split x sep).length ≤ x.length + 1 := by
  have key : ∀ ps : List Str, ps.length ≤ (Str.join sep ps).length + 1 := by
    intro ps
    induction ps with
    | nil => exact Nat.zero_le _
    | cons p r ih =>
      cases r with
      | nil => show 1 ≤ p.length + 1; omega
      | cons q r =>
        have e := congrArg List.length (TxL.drop_join (sep := sep) (p := p) (q := q) (r := r))
        rw [List.length_append, List.length_append, TxL.L_len, TxL.L_len, TxL.L_len, TxL.L_len] at e
        rw [List.length_cons]
        omega
  have := key (Txt.split x sep)
  rw [StrLaws.join_split] at this
  exact this
theorem split_each {x sep : Str} : ∀ p ∈ Txt.split x sep, p.length ≤ x.length := by
  have key : ∀ (ps : List Str), ∀ p ∈ ps, p.length ≤ (Str.join sep ps).length := by
    intro ps
    induction ps with
    | nil => intro p hp; exact (List.not_mem_nil hp).elim
    | cons q r ih =>
      intro p hp
      cases r with
      | nil =>
        rw [List.mem_singleton] at hp
        rw [hp]
        exact Nat.le_refl _
      | cons y ys =>
        have e := congrArg List.length (TxL.drop_join (sep := sep) (p := q) (q := y) (r := ys))
        rw [List.length_append, List.length_append, TxL.L_len, TxL.L_len, TxL.L_len, TxL.L_len] at e
        rcases List.mem_cons.mp hp with hp | hp
        · rw [hp]
          omega
        · have := ih p hp
          omega
  intro p hp
  have := key _ p hp
  rw [StrLaws.join_split] at this
  exact this
theorem Good_ok {r : RD} (g : r.Good) (lw : r.ws.length ≤ 100000) (lu : r.us.length ≤ 100000) : r.Ok :=
  ⟨fun z hz => (wordT (g.t z hz)).len, fun z hz => (wordD (g.d z hz)).len, lw, lu, List.length_pos_iff.mpr g.nu, fun z hz => (wordT (g.t z hz)).ok⟩
theorem rowOf_few {line : Str} (h : line.length ≤ 90000) : (rowOf line).ws.length ≤ 100000 ∧ (rowOf line).us.length ≤ 100000 ∧ (∀ z ∈ (rowOf line).ws, z.length ≤ 100000) ∧ ∀ z ∈ (rowOf line).us, z.length ≤ 100000 := by
  have p1 := pre_len line "if "
  have p2 := part_len (Txt.removeprefix line "if ") "do "
  have s1 := suf_len (askedOf line) " "
  have a1 : (askedOf line).length ≤ 90000 := by unfold askedOf; omega
  have d1 : (doneOf line).length ≤ 90000 := by unfold doneOf; omega
  refine ⟨?_, ?_, ?_, ?_⟩
  · show (testsOf (askedOf line)).length ≤ _
    unfold testsOf
    split
    · exact Nat.zero_le _
    · have := split_few (x := Txt.removesuffix (askedOf line) " ") (sep := " and ") (by decide)
      omega
  · have := split_few (x := doneOf line) (sep := " then ") (by decide)
    show (Txt.split (doneOf line) " then ").length ≤ _
    omega
  · intro z hz
    have hz : z ∈ testsOf (askedOf line) := hz
    unfold testsOf at hz
    split at hz
    · exact (List.not_mem_nil hz).elim
    · have := split_each z hz
      omega
  · intro z hz
    have := split_each (x := doneOf line) z hz
    omega
theorem goodL_false {line : Str} (h : ¬ ((rowOf line).ws.all progT = true ∧ (rowOf line).us.all progD = true ∧ rowText (rowOf line) = line)) : goodL line = false := by
  cases g : goodL line with
  | false => rfl
  | true =>
    unfold goodL at g
    simp only [Bool.and_eq_true, decide_eq_true_eq] at g
    exact absurd g h
abbrev sReadRow : Stmt := top 20
def rrN : List Str := ["line", "at", "asked", "_", "done", "tests", "deeds", "row"]
def spRR (K : PySem.W.Frag) (C D : Addr) : Sp := fun vs H Q E => ∃ (line : Str) (n : Nat), vs = [.str line, .int n] ∧ line.length ≤ 90000 ∧ ((goodL line = true ∧ ∀ p H', Same H H' → RowAt C H' p (rowOf line) → Q (.ref p) H') ∨ (goodL line = false ∧ RaisedN D H (.int n) E))
section
variable {P : Program} {w : World} {K : PySem.W.Frag} {mg : Str → Option Value} {base : Heap}
theorem scReadRow : FnScope rrN ["line", "at"] (defScope sReadRow) := ⟨rfl, rfl, rfl, by decide +kernel, rfl, by decide +kernel, by decide +kernel⟩
theorem ok_readRow {f fT fD fI fR fS C D : Addr} {fd fdT fdD fdI fdR fdS : FuncData} (F : Fun K "read_row" "read_row" sReadRow f fd) (T : TxtK mg)
    (GT : FnOk P w K mg base CX0 2 fT fdT ["value"] (spAre progT yes K)) (gT : mg "are_tests" = some (.ref fT)) (kT : PySem.W.keepIn K (.ref fT) = true) (bT : Binds K fdT ["value"] [])
    (GD : FnOk P w K mg base CX0 2 fD fdD ["value"] (spAre progD full K)) (gD : mg "are_deeds" = some (.ref fD)) (kD : PySem.W.keepIn K (.ref fD) = true) (bD : Binds K fdD ["value"] [])
    (Y : XC K mg D fI "InvalidTool" "at") (GI : FnOk P w K mg base CX0 1 fI fdI ["self", "at"] (spInit K D "at")) (bI : Binds K fdI ["self", "at"] [])
    (MR : Mk K C fR) (GR : FnOk P w K mg base CX0 3 fR fdR ["self", "tests", "deeds"] (spRowG K C)) (gR : mg "Row" = some (.ref C)) (bR : Binds K fdR ["self", "tests", "deeds"] [])
    (GS : FnOk P w K mg base CX0 2 fS fdS ["self"] (spStrRow C)) (hs : PySem.W.findIn K (.ref C) "__str__" = some (some (.ref fS))) (hf : PySem.W.isFn K (.ref fS) = true) (bS : Binds K fdS ["self"] []) :
    FnOk P w K mg base (L2.CX P w) 5 f fd ["line", "at"] (spRR K C D) := by
  refine F.okX scReadRow (fun vs H Q E h => ?_) (fun cdv A outer s H vs Q E hr h => ?_)
  · obtain ⟨line, n, rfl, _⟩ := h
    rfl
  · obtain ⟨line, n, rfl, ll, h⟩ := h
    have hr2 := hr.mono (show 2 ≤ 4 by decide)
    refine ⟨_, (pss_cons (ps_asg (pe_bm PySem.F.plainAttrs_str PySem.F.slot_str_partition PySem.F.type_str_partition mt_partition (pe_bm PySem.F.plainAttrs_str PySem.F.slot_str_removeprefix PySem.F.type_str_removeprefix mt_removeprefix (pv 0) (pa_cons pe_str pa_nil)) (pa_cons pe_str pa_nil)) (pg_tup rfl (pgs_cons (pg_name (i := 2) scReadRow.nd rfl (.inl rfl)) (pgs_cons (pg_name (i := 3) scReadRow.nd rfl (.inl rfl)) (pgs_cons (pg_name (i := 4) scReadRow.nd rfl (.inl rfl)) pgs_nil)))))
      (C8.pss_cut (ps_set (i := 5) scReadRow.nd rfl (.inl rfl) (pe_ifExp (pt_truth (pv 2) (by intro _; rfl)) (pe_bm PySem.F.plainAttrs_str PySem.F.slot_str_split PySem.F.type_str_split mt_split (pe_bm PySem.F.plainAttrs_str PySem.F.slot_str_removesuffix PySem.F.type_str_removesuffix mt_removesuffix (pv 2) (pa_cons pe_str pa_nil)) (pa_cons pe_str pa_nil)) (pe_lst pa_nil)))
      (pss_cons (ps_set (i := 6) scReadRow.nd rfl (.inl rfl) (pe_bm PySem.F.plainAttrs_str PySem.F.slot_str_split PySem.F.type_str_split mt_split (pv 4) (pa_cons pe_str pa_nil)))
      (pss_cons (ps_if (PW.pt (pw_or (pt_not (pt_val (pe_call GT hr2 (by rfl) gT kT bT .nil pass0 (pa_cons (pv 5) pa_nil)))) (pw_or1 (pt_not (pt_val (pe_call GD hr2 (by rfl) gD kD bD .nil pass0 (pa_cons (pv 6) pa_nil)))))))
        (pss_one (ps_raise rfl (takes_of rfl rfl rfl rfl) (pmk_oex Y.oex Y.init Y.tI GI hr2 bI .nil pass0 (by rfl) Y.gC (pa_cons (pv 1) pa_nil)))) pss_nil)
      (pss_cons (ps_set (i := 7) scReadRow.nd rfl (.inl rfl) (pe_make MR GR hr (by rfl) gR bR .nil pass0 (pa_cons (pv 5) (pa_cons (pv 6) pa_nil))))
      (pss_cons (ps_if (pt_cmpR op_ne (pe_callTy (call_strOwn GS hs hf hr bS pass0) (by rfl) T.str (by decide +kernel) (pa_cons (pv 7) pa_nil)) (pv 0) (nomark _))
        (pss_one (ps_raise rfl (takes_of rfl rfl rfl rfl) (pmk_oex Y.oex Y.init Y.tI GI hr2 bI .nil pass0 (by rfl) Y.gC (pa_cons (pv 1) pa_nil)))) pss_nil)
      (pss_one (ps_ret (pv 7))))))))), ?_⟩
    have p1 := pre_len line "if "
    have p2 := part_len (Txt.removeprefix line "if ") "do "
    have s1 := suf_len (askedOf line) " "
    have a1 : (askedOf line).length ≤ 90000 := by unfold askedOf; omega
    have d1 : (doneOf line).length ≤ 90000 := by unfold doneOf; omega
    obtain ⟨few1, few2, few3, few4⟩ := rowOf_few ll
    refine ⟨_, rfl, rfl, _, _, rfl, rfl, fits (by omega), rfl, _, _, rfl, rfl, rfl, fits (by omega), fun p np => ?_⟩
    have sP := Same.new np (o := .tup [.str (askedOf line), .str (Txt.partition (Txt.removeprefix line "if ") "do ").2.1, .str (doneOf line)])
    refine ⟨p, _, rfl, SqT.of upd_same, rfl, _, _, rfl, _, _, rfl, _, _, rfl, rfl, ?_⟩
    refine ⟨fun σ G => ∃ (lt : Addr) (x3 : V), σ = [some (.str line), some (.int n), some (.str (askedOf line)), some x3, some (.str (doneOf line)), some (.ref lt), none, none] ∧ Same H G ∧ G lt = some (.lst ((testsOf (askedOf line)).map V.str)), ?_, ?_⟩
    · refine ⟨_, rfl, ((askedOf line).length : Int) != 0, ⟨fits (by show (askedOf line).length ≤ _; omega), rfl⟩, ?_⟩
      unfold testsOf
      refine ite2 (fun q => ?_) (fun q => ?_)
      · have q : (askedOf line).length ≠ 0 := by
          intro z
          rw [z] at q
          exact absurd q (by decide)
        refine ⟨_, rfl, rfl, _, _, rfl, rfl, fits (by show (askedOf line).length ≤ _; omega), rfl, _, _, rfl, rfl, rfl, fits (by show (Txt.removesuffix (askedOf line) " ").length + 2 ≤ _; omega), fun lt nl => ?_⟩
        rw [if_neg q]
        exact ⟨lt, _, rfl, sP.trans (Same.new nl), upd_same⟩
      · have q : (askedOf line).length = 0 := by
          have e := Bool.eq_false_iff.mpr q
          simp at e
          omega
        refine ⟨(by show 0 ≤ sizeLine; exact Nat.zero_le _), fun lt nl => ?_⟩
        rw [if_pos q]
        exact ⟨lt, _, rfl, sP.trans (Same.new nl), upd_same⟩
    rintro σ G ⟨lt, x3, rfl, sG, hlt⟩
    refine ⟨_, rfl, rfl, _, _, rfl, rfl, rfl, fits (by omega), fun ld nld => ?_⟩
    have sD := sG.trans (Same.new nld (o := .lst ((Txt.split (doneOf line) " then ").map V.str)))
    have hld : upd G ld (.lst ((Txt.split (doneOf line) " then ").map V.str)) ld = some (.lst ((Txt.split (doneOf line) " then ").map V.str)) := upd_same
    have hlt2 := Same.new nld (o := .lst ((Txt.split (doneOf line) " then ").map V.str)) _ _ hlt
    generalize upd G ld (.lst ((Txt.split (doneOf line) " then ").map V.str)) = G2 at *
    have usne : 0 < ((Txt.split (doneOf line) " then ").map V.str).length := by
      rw [List.length_map]
      exact List.length_pos_iff.mpr (split_ne (by decide))
    have at_ : AnsV progT yes K G2 (.ref lt) ((rowOf line).ws.all progT) := ans_list (ws := (rowOf line).ws) hlt2 few1 rfl few3
    have ad_ : AnsV progD full K G2 (.ref ld) ((rowOf line).us.all progD) := ans_list (ws := (rowOf line).us) hld few2 (decide_eq_true usne) few4
    have bad : ∀ {H' : Hp}, Same H H' → goodL line = false → RaisedN D H' (.int n) E := fun s' z => by
      rcases h with ⟨g, _⟩ | ⟨_, h⟩
      · rw [g] at z
        cases z
      · exact h.same s'
    refine ⟨_, rfl, _, _, rfl, at_, fun H1 t1 => ⟨_, rfl, ?_⟩⟩
    have sH1 := sD.trans t1
    cases et : (rowOf line).ws.all progT with
    | false =>
      refine iteY rfl ?_
      refine iteY rfl ⟨_, rfl, (by show 1 ≤ 1000; decide), fun a ha => raised_at Y.oex Y.no ha (bad sH1 (goodL_false fun z => by rw [et] at z; cases z.1))⟩
    | true =>
      refine iteN rfl ?_
      refine ⟨_, rfl, _, _, rfl, ad_.same t1, fun H2 t2 => ⟨_, rfl, ?_⟩⟩
      have sH2 := sH1.trans t2
      cases ed : (rowOf line).us.all progD with
      | false => exact iteY rfl ⟨_, rfl, (by show 1 ≤ 1000; decide), fun a ha => raised_at Y.oex Y.no ha (bad sH2 (goodL_false fun z => by rw [ed] at z; cases z.2.1))⟩
      | true =>
        refine iteN rfl ?_
        have g : (rowOf line).Good := ⟨fun z hz => List.all_eq_true.mp et z hz, fun z hz => List.all_eq_true.mp ed z hz, split_ne (by decide)⟩
        have o := Good_ok g few1 few2
        have t12 := t1.trans t2
        refine ⟨_, rfl, _, rfl, fun y dx nx nd ne => ?_⟩
        have zz := (Same.new nd (o := .own y)).trans (Same.new (fresh_own (o := .own y) nx ne) (o := .ins C dx []))
        refine ⟨y, dx, lt, ld, rowOf line, rfl, upd_same, .inl (zz _ _ (t12 _ _ hlt2)), .inl (zz _ _ (t12 _ _ hld)), o, g.t, g.d, fun H3 kp hrow => ⟨rfl, ?_⟩⟩
        have s3 := made_same nx nd kp
        have sH3 := sH2.trans s3
        obtain ⟨dx2, t2', d2, hp2, _⟩ := id hrow
        refine ⟨_, rfl, y, dx2, _, rfl, hp2, y, rowOf line, rfl, hrow, o, fun H4 t4 => ⟨_, rfl, _, rfl, rfl, ?_⟩⟩
        have sH4 := sH3.trans t4
        refine ⟨_, rfl, ?_⟩
        by_cases e : rowText (rowOf line) = line
        · refine iteN (by rw [e]; simp) ?_
          rcases h with ⟨_, k⟩ | ⟨z, _⟩
          · exact ⟨_, rfl, k y H4 sH4 (hrow.same t4)⟩
          · have : goodL line = true := by
              unfold goodL
              rw [et, ed, decide_eq_true e]
              rfl
            rw [this] at z
            cases z
        · exact iteY (by simp [e]) ⟨_, rfl, (by show 1 ≤ 1000; decide), fun a ha => raised_at Y.oex Y.no ha (bad sH4 (goodL_false fun z => e z.2.2))⟩
end
end Lay
set_option Elab.async false
set_option linter.all false
set_option maxRecDepth 100000
set_option maxHeartbeats 4000000
set_option pp.maxSteps 900
namespace Lay
open PySem PySem.Spec PyProof.Rows L2
/-! a class called by a local name; what a comprehension over enumerate comes to -/
section
variable {X : Cx} {CX : CXT} {k i : Nat} {f C : Addr} {fd : FuncData} {ps : List Str} {sp : Sp} {dvs : List V} {ds : List Value} {E : XK} {x : Str} {p pos : Pos} {e : Expr} {es : List Expr} {t : TA}
def tMakeL (i : Nat) (C : Addr) (sp : Sp) (dvs : List V) (E : XK) (t : TA) : TE := fun σ H Q => σ[i]? = some (some (.ref C)) ∧ tMake C sp dvs E t σ H Q
theorem pe_makeL (M : Mk X.K C f) (F : FnOk X.prog X.w X.K X.mg X.base CX k f fd ps sp) (hr : Room (k + 1) X.A) (hN : X.N[i]? = some x) (hv : Vis X.env.scope x) (hb : Binds X.K fd ps ds) (hd : Vals dvs ds) (hx : Passes CX X E) (ha : PA X (e :: es) t)
    (hdb : (x == ("__debug__" : Str)) = false := by decide) (hcd : (x == ("__classdict__" : Str)) = false := by decide)
    (he : starEach (e :: es) X.env = (false, eval e X.env) :: starEach es X.env := by rfl) (hpl : (backTo pos (starEach es X.env)).any (·.1) = false := by rfl) : PE X (.Call (.Name x p) (e :: es) [] pos) (tMakeL i C sp dvs E t) := by
  refine ⟨fun pins s σ H Q I h => ?_⟩
  obtain ⟨hs, ht⟩ := h
  refine wpAny_Call_Name_kw (thn ((pe_var (pos := p) hN hv hdb hcd).run pins s σ H (fun v H1 => v = .ref C ∧ H1 = H) I ⟨.ref C, hs, rfl, rfl⟩) fun u s1 ⟨v, H1, I1, r1, q1⟩ => ?_)
  obtain ⟨rfl, rfl⟩ := q1
  cases r1
  refine PySem.W.callWith_K (h₀ := X.base) I1.ok.mod.kin M.kp (thn (ha.run pos pins s1 σ _ _ I1 ht) fun us s2 ⟨vs, H2, I2, r, q⟩ => ⟨I2.kIn, ?_⟩) he hpl
  exact run_make M F hr hb hd hx I2 r q
end
theorem lc_enumS {K : PySem.W.Frag} {a : Addr} {k : Nat} {xs : List V} {g : TG} {te : TE} {vs : List Nat} {σ : L2.St} {H1 : Hp} {D : Addr} {Qd : Hp → Prop} (Pv : Nat → Hp → Prop) (h0 : Pv 0 (upd H1 D (.lst []))) (hl : ∀ i H, i ≤ xs.length → Pv i H → SqL K H a xs)
    (step : ∀ i x H T, xs[i]? = some x → Pv i H → H T = none → g (.ref T) (wipe σ vs) (upd H T (.tup [.int ((k + i : Nat) : Int), x])) fun σ2 H2 => wipe σ2 vs = wipe σ vs ∧ te σ2 H2 fun y H4 => ∃ acc, H4 D = some (.lst acc) ∧ acc.length < sizeLine ∧ Pv (i + 1) (upd H4 D (.lst (acc ++ [y]))))
    (fin : ∀ H, Pv xs.length H → Qd H) : ∃ W : Nat → Nat → Hp → Prop, (∃ m, W 0 m (upd H1 D (.lst []))) ∧ ∀ i m H, W i m H →
      ((IteS K a k).stop i H ∧ Qd H) ∨ ((IteS K a k).go i H ∧ ∃ Nx : Hp → Prop, (∀ H', Nx H' → ∃ m', m' < m ∧ W (i + 1) m' H') ∧ ∀ x H', (IteS K a k).yld i H x H' → g x (wipe σ vs) H' fun σ2 H2 => wipe σ2 vs = wipe σ vs ∧ tYes σ2 H2 fun b H3 =>
        if b = true then te σ2 H3 fun y H4 => ∃ acc, H4 D = some (.lst acc) ∧ acc.length < sizeLine ∧ Nx (upd H4 D (.lst (acc ++ [y]))) else Nx H3) := by
  refine ⟨fun i m H => i ≤ xs.length ∧ m = xs.length - i ∧ Pv i H, ⟨_, Nat.zero_le _, rfl, h0⟩, ?_⟩
  rintro i m H ⟨hi, rfl, hp⟩
  have hs := hl i H hi hp
  rcases Nat.lt_or_ge i xs.length with lt | ge
  · refine .inr ⟨⟨xs, xs[i], hs, by simp [lt]⟩, fun H' => Pv (i + 1) H', fun H' q => ⟨_, by omega, lt, rfl, q⟩, ?_⟩
    rintro v H' ⟨T, x, rfl, hT, rfl, hx⟩
    exact step i x H T (hx xs hs) hp hT
  · obtain rfl : i = xs.length := by omega
    exact .inl ⟨⟨xs, hs, rfl⟩, fin H hp⟩
end Lay
set_option Elab.async false
set_option linter.all false
set_option maxRecDepth 100000
set_option maxHeartbeats 4000000
set_option pp.maxSteps 900
namespace Lay
open PySem PySem.Spec PyProof.Rows L2
/-! a tool read -/
theorem badAt_at {z : Str} : ∀ {ls : List Str} {i k : Nat}, (∀ l ∈ ls.take i, goodL l = true) → ls[i]? = some z → goodL z = false → badAt ls k = some (k + i)
  | [], _, _, _, h, _ => by cases h
  | y :: r, 0, k, _, h, g => by
    cases h
    unfold badAt
    rw [if_neg (by rw [g]; decide)]
    rfl
  | y :: r, i + 1, k, a, h, g => by
    unfold badAt
    rw [if_pos (a y (by simp)), badAt_at (i := i) (k := k + 1) (fun l hl => a l (by rw [List.take_succ_cons]; exact List.mem_cons_of_mem _ hl)) (by simpa using h) g]
    congr 1
    omega
theorem RowAt.lset {C D : Addr} {G : Hp} {p : Addr} {r : RD} {xs ys : List V} (hD : G D = some (.lst xs)) (h : RowAt C G p r) : RowAt C (upd G D (.lst ys)) p r := by
  obtain ⟨dx, t, d, h1, h2, h3⟩ := h
  exact ⟨dx, t, d, by rw [upd_ne (ne_of h1 hD (fun z => nomatch z))]; exact h1, by rw [upd_ne (ne_of h2 hD (fun z => nomatch z))]; exact h2, by rw [upd_ne (ne_of h3 hD (fun z => nomatch z))]; exact h3⟩
theorem RowsAt.lset {C D : Addr} {G : Hp} {xs ys zs : List V} {rs : List RD} (hD : G D = some (.lst xs)) (h : RowsAt C G zs rs) : RowsAt C (upd G D (.lst ys)) zs rs := ⟨h.1, h.2.1, fun i x r h1 h2 => by
  obtain ⟨q, e, hq⟩ := h.2.2 i x r h1 h2
  exact ⟨q, e, hq.lset hD⟩⟩
theorem RowsAt.one {C : Addr} {G : Hp} {p : Addr} {r : RD} (o : r.Ok) (h : RowAt C G p r) : RowsAt C G [.ref p] [r] := ⟨rfl, fun q hq => by rw [List.mem_singleton.mp hq]; exact o, fun i x q h1 h2 => by
  cases i with
  | zero =>
    cases h1
    cases h2
    exact ⟨p, rfl, h⟩
  | succ i => simp at h1⟩
abbrev sIT : Stmt := inClass (top 4) 0
abbrev sRead : Stmt := inClass (top 22) 1
def readN : List Str := ["cls", "text", "first", "lines", "rows", "at", "line"]
def spTR (K : PySem.W.Frag) (C CT D : Addr) : Sp := fun vs H Q E => ∃ x, vs = [.ref CT, x] ∧ ((IsT K H x "str" false ∧ RaisedN D H (.int 0) E) ∨ ∃ (t f : Str) (ls : List Str), x = .str t ∧ t.length ≤ 80000 ∧ Txt.split t "\n" = f :: ls ∧
  ((readT t = none ∧ ∀ p u xs H', Same H H' → H p = none → ToolX K C CT H' p u xs (rowsOf ls) (decide (V.str f = V.str "tool sorts")) → Q (.ref p) H') ∨ ∃ n : Nat, readT t = some n ∧ RaisedN D H (.int n) E))
section
variable {P : Program} {w : World} {K : PySem.W.Frag} {mg : Str → Option Value} {base : Heap}
theorem scIT : FnScope ["self", "at"] ["self", "at"] (defScope sIT) := ⟨rfl, rfl, rfl, by decide +kernel, rfl, by decide +kernel, by decide +kernel⟩
theorem ok_iT {f C : Addr} {fd : FuncData} (F : Fun K "__init__" "InvalidTool.__init__" sIT f fd) : FnOk P w K mg base CX0 1 f fd ["self", "at"] (spInit K C "at") := by
  refine F.ok scIT (fun vs H Q E h => ?_) (fun cdv A outer s H vs Q E hr h => ?_)
  · obtain ⟨a, v, rfl, _⟩ := h
    rfl
  · obtain ⟨a, v, rfl, T, no, ha, k⟩ := h
    exact ⟨_, pss_one (ps_ost (pv 0) (pv 1)), _, rfl, _, rfl, a, C, rfl, T, no, .inl ⟨ha, fun dx h1 h2 => k dx h1 h2⟩⟩
theorem scRead : FnScope readN ["cls", "text"] (defScope sRead) := ⟨rfl, rfl, rfl, by decide +kernel, rfl, by decide +kernel, by decide +kernel⟩
theorem ok_read {f fI fR fT C CT D : Addr} {fd fdI fdR fdT : FuncData} (F : Fun K "read" "Tool.read" sRead f fd) (T : TxtK mg) (henum : mg "enumerate" = none) (c0 : ClsI K C)
    (Y : XC K mg D fI "InvalidTool" "at") (GI : FnOk P w K mg base CX0 1 fI fdI ["self", "at"] (spInit K D "at")) (bI : Binds K fdI ["self", "at"] [])
    (GR : FnOk P w K mg base (L2.CX P w) 5 fR fdR ["line", "at"] (spRR K C D)) (gR : mg "read_row" = some (.ref fR)) (kR : PySem.W.keepIn K (.ref fR) = true) (bR : Binds K fdR ["line", "at"] [])
    (MT : Mk K CT fT) (GT : FnOk P w K mg base CX0 3 fT fdT ["self", "rows", "sorts"] (spToolG K C CT)) (bT : Binds K fdT ["self", "rows", "sorts"] []) :
    FnOk P w K mg base (L2.CX P w) 6 f fd ["cls", "text"] (spTR K C CT D) := by
  refine F.okX scRead (fun vs H Q E h => ?_) (fun cdv A outer s H vs Q E hr h => ?_)
  · obtain ⟨x, rfl, _⟩ := h
    rfl
  · obtain ⟨x, rfl, h⟩ := h
    have hr2 := hr.mono (show 2 ≤ 5 by decide)
    have hr4 := hr.mono (show 4 ≤ 5 by decide)
    refine ⟨_, (pss_cons (ps_if (pt_not (pt_val (pe_callB (call_isiK (K := K) rfl) (by rfl) T.isinstance (by decide +kernel) (pa_cons (pv 1) (pa_cons (pe_bltn (v := .ty "str") (by rfl) T.str (by decide +kernel) rfl) pa_nil))))) (pss_one (ps_raise rfl (takes_of rfl rfl rfl rfl) (pmk_oex Y.oex Y.init Y.tI GI hr2 bI .nil pass0 (by rfl) Y.gC (pa_cons pe_int pa_nil)))) pss_nil)
      (pss_cons (ps_asg (pe_bm PySem.F.plainAttrs_str PySem.F.slot_str_split PySem.F.type_str_split mt_split (pv 1) (pa_cons pe_str pa_nil)) (pg_star rfl (pg_name (i := 2) scRead.nd rfl (.inl rfl)) (pg_name (i := 3) scRead.nd rfl (.inl rfl))))
      (pss_cons (ps_if (pt_cmpR op_notIn_seq (pv 2) (pe_tup (pa_cons pe_str (pa_cons pe_str pa_nil))) (by rfl)) (pss_one (ps_raise rfl (takes_of rfl rfl rfl rfl) (pmk_oex Y.oex Y.init Y.tI GI hr2 bI .nil pass0 (by rfl) Y.gC (pa_cons pe_int pa_nil)))) pss_nil)
      (pss_cons (ps_setLcX (i := 4) (own := [("at", 5), ("line", 6)]) rfl rfl (takes_of rfl rfl rfl rfl) (fun _ _ _ _ h => h) rfl scRead.nd rfl rfl (sw_true rfl rfl rfl (by decide +kernel)) (pi_enumS (k := 1) (by rfl) henum (pa_cons (pv 3) pa_nil)) (blkOk_by (N := readN) (sc := defScope sRead) (by decide +kernel))
        (fun _ _ _ _ _ => pg_tupK (K := K) (n := 2) rfl rfl (pgs_cons (pg_name (i := 5) scRead.nd rfl (Or.inl rfl)) (pgs_cons (pg_name (i := 6) scRead.nd rfl (Or.inl rfl)) pgs_nil)))
        (fun _ _ _ _ _ xe hx => pe_call GR hr (by rfl) gR kR bR .nil hx (pa_cons (pv 6) (pa_cons (pv 5) pa_nil))))
      (pss_one (ps_ret (pe_makeL (i := 0) (E := E0) MT GT hr4 rfl (by first | exact .inl rfl | exact .inr rfl) bT .nil pass0 (pa_cons (pv 4) (pa_cons (pe_cmpR op_eq (pv 2) pe_str (nomark _)) pa_nil))))))))), ?_⟩
    rcases h with ⟨⟨ty0, ty, e⟩, k⟩ | ⟨t, f0, ls, rfl, tl, esp, h⟩
    · exact ⟨_, rfl, _, _, _, _, _, rfl, .ty _, ty, e, _, rfl, iteY rfl ⟨(by show 1 ≤ 1000; decide), fun a ha => raised_at Y.oex Y.no ha k⟩⟩
    obtain ⟨ty0, ty, e⟩ := isT_str (K := K) (H := H) (z := t)
    refine ⟨_, rfl, _, _, _, _, _, rfl, .ty _, ty, e, _, rfl, iteN rfl ?_⟩
    refine ⟨_, rfl, rfl, _, _, rfl, rfl, rfl, fits (by omega), fun l nl => ?_⟩
    have few := split_few (x := t) (sep := "\n") (by decide)
    have each : ∀ z ∈ Txt.split t "\n", z.length ≤ t.length := split_each
    rw [esp] at few each
    have lls : ls.length ≤ 80001 := by
      rw [List.length_cons] at few
      omega
    have s1 := Same.new nl (o := .lst ((Txt.split t "\n").map V.str))
    refine ⟨l, .str f0, ls.map V.str, rfl, SqL.of (by rw [upd_same, esp]; rfl), by rw [List.length_map]; exact smallT (by omega), fun l2 n2 => ?_⟩
    have s2 := s1.trans (Same.new n2 (o := .lst (ls.map V.str)))
    have h2 : upd (upd H l (.lst ((Txt.split t "\n").map V.str))) l2 (.lst (ls.map V.str)) l2 = some (.lst (ls.map V.str)) := upd_same
    generalize upd (upd H l (.lst ((Txt.split t "\n").map V.str))) l2 (.lst (ls.map V.str)) = G at *
    have re : readT t = if headB f0 = true then badAt ls 1 else some 0 := by
      unfold readT
      rw [esp]
    refine ⟨_, rfl, (by show 2 ≤ sizeLine; decide), fun p3 n3 => ?_⟩
    have s3 := s2.trans (Same.new n3 (o := .tup [.str "tool", .str "tool sorts"]))
    have h3 := Same.new n3 (o := .tup [.str "tool", .str "tool sorts"]) _ _ h2
    refine ⟨p3, _, rfl, .inr (SqT.of upd_same), rfl, rfl, _, rfl, ?_⟩
    generalize upd G p3 (.tup [.str "tool", .str "tool sorts"]) = G3 at *
    have eh : inV (.str f0) [.str "tool", .str "tool sorts"] = headB f0 := rfl
    rw [if_pos rfl, eh]
    cases hb : headB f0 with
    | false =>
      rw [hb, if_neg (by decide)] at re
      rcases h with ⟨z, _⟩ | ⟨n, z, k⟩
      · rw [re] at z
        cases z
      · rw [re] at z
        cases z
        exact iteY rfl ⟨(by show 1 ≤ 1000; decide), fun a ha => raised_at Y.oex Y.no ha (k.same s3)⟩
    | true =>
      rw [hb, if_pos rfl] at re
      refine iteN rfl ?_
      refine ⟨_, rfl, l2, ls.map V.str, rfl, SqL.of h3, fun D1 nD => ?_⟩
      refine lc_enumS (xs := ls.map V.str) (fun i G => ∃ acc : List V, Same G3 G ∧ G D1 = some (.lst acc) ∧ RowsAt C G acc (rowsOf (ls.take i)) ∧ ∀ z ∈ ls.take i, goodL z = true) ⟨[], Same.new nD, upd_same, ⟨rfl, fun r h => (List.not_mem_nil h).elim, fun i x r h => by simp at h⟩, fun z hz => (List.not_mem_nil hz).elim⟩
        (fun i G _ q => by obtain ⟨acc, q, _⟩ := q; exact SqL.of (q _ _ h3)) ?_ ?_
      · rintro i x G4 T0 hx ⟨acc, s4, hD, ra, ga⟩ nT
        obtain ⟨z, hz, rfl⟩ := str_at hx
        have li := (List.getElem?_eq_some_iff.mp hz).1
        have sT := Same.new nT (o := .tup [.int ((1 + i : Nat) : Int), .str z])
        have lz := each z (List.mem_cons_of_mem _ (List.mem_of_getElem? hz))
        have lacc : acc.length = i := by
          rw [ra.1]
          unfold rowsOf
          rw [List.length_map, List.length_take]
          omega
        refine ⟨T0, _, rfl, SqT.of upd_same, rfl, _, _, rfl, _, _, rfl, rfl, rfl, ?_⟩
        refine ⟨_, rfl, _, rfl, z, 1 + i, rfl, by omega, ?_⟩
        cases gz : goodL z with
        | true =>
          refine .inl ⟨rfl, fun p H' s5 hrow => ⟨acc, s5 _ _ (sT _ _ hD), smallT (by omega), acc ++ [.ref p], fun b o e => ?_, upd_same, ?_, ?_⟩⟩
          · have nb : b ≠ D1 := ne_of_none e nD
            rw [upd_ne nb]
            exact s5 _ _ (sT _ _ (s4 _ _ e))
          · have hD5 := s5 _ _ (sT _ _ hD)
            have e1 : rowsOf (ls.take (i + 1)) = rowsOf (ls.take i) ++ [rowOf z] := by
              unfold rowsOf
              rw [List.take_succ, hz, List.map_append]
              rfl
            rw [e1]
            obtain ⟨gd, _⟩ := goodL_row gz
            obtain ⟨f1, f2, _⟩ := rowOf_few (line := z) (by omega)
            exact (((ra.same sT).same s5).lset hD5).append (RowsAt.one (Good_ok gd f1 f2) (hrow.lset hD5))
          · intro y hy
            rw [List.take_succ, hz] at hy
            rcases List.mem_append.mp hy with hy | hy
            · exact ga y hy
            · have : y = z := by simpa using hy
              rw [this]
              exact gz
        | false =>
          have eb : readT t = some (1 + i) := by rw [re]; exact badAt_at ga hz gz
          rcases h with ⟨e0, _⟩ | ⟨n, e0, k⟩
          · rw [eb] at e0
            cases e0
          · rw [eb] at e0
            cases e0
            exact .inr ⟨rfl, k.same ((s3.trans s4).trans sT)⟩
      · rintro G4 ⟨acc, s4, hD, ra, ga⟩
        rw [List.length_map, List.take_length] at ra ga
        have en : readT t = none := by rw [re]; exact badAt_good ga
        rcases h with ⟨_, k⟩ | ⟨n, e0, _⟩
        · refine ⟨rfl, _, rfl, _, rfl, rfl, fun y dx nx nd ne => ?_⟩
          have zz := (Same.new nd (o := .own y)).trans (Same.new (fresh_own (o := .own y) nx ne) (o := .ins CT dx []))
          have lr : (rowsOf ls).length = ls.length := by unfold rowsOf; rw [List.length_map]
          have tx := tool_text esp hb ga
          refine ⟨y, dx, D1, acc, _, rfl, upd_same, .inl (zz _ _ hD), by rw [ra.1, lr]; omega, (ra.same zz).isP c0, fun H2 u hu kp hy => ⟨rfl, ?_⟩⟩
          have s5 := made_same nx nd kp
          exact k y u acc H2 ((s3.trans s4).trans s5) ((s3.trans s4).free nx) ⟨dx, hy, hu, ra.same s5, by rw [lr]; omega, by rw [tx]; omega⟩
        · rw [en] at e0
          cases e0
end
end Lay
set_option Elab.async false
set_option linter.all false
set_option maxRecDepth 100000
set_option maxHeartbeats 4000000
set_option pp.maxSteps 900
namespace Lay
open PySem PySem.Spec PyProof.Rows L2
/-! the law's is_line, wrong -/
abbrev sIsLine : Stmt := top 35
def ilN : List Str := ["_law_line", "_law_tests_here", "_law_every", "_law_deeds_here", "_law_parts", "_law_word"]
def spIsLine : Sp := fun vs H Q _ => ∃ line : Str, vs = [.str line] ∧ line.length ≤ 90000 ∧ ∀ H', Same H H' → Q (.bl (goodL line)) H'
theorem lc_filter {K : PySem.W.Frag} {a : Addr} {zs : List Str} {q : Str → Bool} {tt : TT} {te : TE} {vs : List Nat} {v : Nat} {σ : L2.St} {H1 : Hp} {D : Addr} {Qd : Hp → Prop} (few : zs.length ≤ 1000000) (n : H1 D = none) (ha : SqL K H1 a (zs.map V.str))
    (hw : ∀ x, wipe ((wipe σ vs).set v (some x)) vs = wipe σ vs) (ht : ∀ z G R, z ∈ zs → Same H1 G → R (q z) G → tt ((wipe σ vs).set v (some (.str z))) G R) (he : ∀ z G R, R (V.str z) G → te ((wipe σ vs).set v (some (.str z))) G R)
    (fin : ∀ G, Same H1 G → G D = some (.lst ((zs.filter q).map V.str)) → Qd G) : ∃ W : Nat → Nat → Hp → Prop, (∃ m, W 0 m (upd H1 D (.lst []))) ∧ ∀ i m H, W i m H →
      ((Itl K a).stop i H ∧ Qd H) ∨ ((Itl K a).go i H ∧ ∃ Nx : Hp → Prop, (∀ H', Nx H' → ∃ m', m' < m ∧ W (i + 1) m' H') ∧ ∀ x H', (Itl K a).yld i H x H' → gName v x (wipe σ vs) H' fun σ2 H2 => wipe σ2 vs = wipe σ vs ∧ tt σ2 H2 fun b H3 =>
        if b = true then te σ2 H3 fun y H4 => ∃ acc, H4 D = some (.lst acc) ∧ acc.length < sizeLine ∧ Nx (upd H4 D (.lst (acc ++ [y]))) else Nx H3) := lc_list (K := K) (a := a) (xs := zs.map V.str) (g := gName v) (tt := tt) (te := te) (vs := vs) (σ := σ) (H1 := H1) (D := D) (Qd := Qd) (fun i G => Same H1 G ∧ G D = some (.lst (((zs.take i).filter q).map V.str))) ⟨Same.new n, upd_same⟩ (fun i G _ p => SqL.same p.1 ha)
    (fun i x G hx p => by
      obtain ⟨z, hz, rfl⟩ := str_at hx
      have lf : (((zs.take i).filter q).map V.str).length ≤ 1000000 := by
        rw [List.length_map]
        refine Nat.le_trans (List.length_filter_le _ _) ?_
        rw [List.length_take]
        omega
      refine ⟨hw _, ht z G _ (List.mem_of_getElem? hz) p.1 ?_⟩
      cases e : q z with
      | true =>
        refine iteY rfl (he z G _ ⟨_, p.2, smallT (by omega), fun b o eb => ?_, ?_⟩)
        · rw [upd_ne (ne_of_none eb n)]
          exact p.1 _ _ eb
        · rw [upd_same, List.take_succ, hz, List.filter_append, List.map_append]
          simp [e]
      | false =>
        refine iteN rfl ⟨p.1, ?_⟩
        rw [p.2, List.take_succ, hz, List.filter_append, List.map_append]
        simp [e])
    (fun G p => by
      rw [List.length_map, List.take_length] at p
      exact fin G p.1 p.2)
theorem filt_all (f g : Str → Bool) (h : ∀ z, g z = !f z) : ∀ zs : List Str, ((zs.filter g).map V.str).isEmpty = zs.all f
  | [] => rfl
  | z :: r => by
    have ih := filt_all f g h r
    rw [List.filter_cons, List.all_cons, h z]
    cases f z with
    | true =>
      rw [if_neg (by decide), Bool.true_and]
      exact ih
    | false => rfl
section
variable {P : Program} {w : World} {K : PySem.W.Frag} {mg : Str → Option Value} {base : Heap}
theorem scIsLine : FnScope ilN ["_law_line"] (defScope sIsLine) := ⟨rfl, rfl, rfl, by decide +kernel, rfl, by decide +kernel, by decide +kernel⟩
theorem ok_isLine {f : Addr} {fd : FuncData} (F : Fun K "_law_is_line" "_law_is_line" sIsLine f fd) (T : TxtK mg) : FnOk P w K mg base CX0 1 f fd ["_law_line"] spIsLine := by
  refine F.ok scIsLine (fun vs H Q E h => ?_) (fun cdv A outer s H vs Q E hr h => ?_)
  · obtain ⟨line, rfl, _⟩ := h
    rfl
  · obtain ⟨line, rfl, ll, k⟩ := h
    refine ⟨_, (pss_cons (ps_set (i := 1) scIsLine.nd rfl (.inl rfl) (pe_lst (pa_cons pe_str (pa_cons pe_str (pa_cons pe_str (pa_cons pe_str (pa_cons pe_str (pa_cons pe_str (pa_cons pe_str (pa_cons pe_str (pa_cons pe_str (pa_cons pe_str pa_nil)))))))))))) 
      (pss_cons (ps_set (i := 2) scIsLine.nd rfl (.inr rfl) (pe_op op_cat (pv 1) (pe_lc (own := [("_law_word", 5)]) (g := gName 5) (tt := tYes) (by rfl) scIsLine.nd (pi_list (pv 1)) (blkOk_by (N := ilN) (sc := defScope sIsLine) (by decide +kernel)) (fun _ _ _ _ _ => pg_name (i := 5) scIsLine.nd rfl (Or.inl rfl)) (fun _ _ _ _ _ => pts_nil) (fun _ _ _ _ _ => pe_op op_add_str pe_str (pv 5)))))
      (pss_cons (ps_set (i := 3) scIsLine.nd rfl (.inr rfl) (pe_lst (pa_cons pe_str (pa_cons pe_str (pa_cons pe_str (pa_cons pe_str (pa_cons pe_str (pa_cons pe_str (pa_cons pe_str (pa_cons pe_str pa_nil))))))))))
      (pss_cons (ps_if (pt_cmpR op_eq (pe_slice sl_str (pv 0) po_none (po_some pe_int)) pe_str (nomark _))
        (pss_cons (ps_set (i := 4) scIsLine.nd rfl (.inl rfl) (pe_bm PySem.F.plainAttrs_str PySem.F.slot_str_split PySem.F.type_str_split mt_split (pe_slice sl_str (pv 0) (po_some pe_int) po_none) (pa_cons pe_str pa_nil)))
        (pss_cons (ps_if (PW.pt (pw_or (pt_cmpR op_ne (pe_callB call_len_seq (by rfl) T.len PySem.boot_len (pa_cons (pv 4) pa_nil)) pe_int (nomark _)) (pw_or1 (pt_cmpR (op_neNil hr.units) (pe_lc (own := [("_law_word", 5)]) (g := gName 5) (by rfl) scIsLine.nd (pi_list (pe_bm PySem.F.plainAttrs_str PySem.F.slot_str_split PySem.F.type_str_split mt_split (pe_ix ix_list (pv 4) pe_int (fun _ _ => rfl)) (pa_cons pe_str pa_nil))) (blkOk_by (N := ilN) (sc := defScope sIsLine) (by decide +kernel)) (fun _ _ _ _ _ => pg_name (i := 5) scIsLine.nd rfl (Or.inl rfl)) (fun _ _ _ _ _ => pts_one (pt_cmpR (op_notInK (K := K) rfl) (pv 5) (pv 2) (by rfl))) (fun _ _ _ _ _ => pv 5)) (pe_lst pa_nil) (nomark _)))))
          (pss_one (ps_ret pe_bl)) pss_nil)
        (pss_one (ps_ret (pe_cmpR (op_eqNil hr.units) (pe_lc (own := [("_law_word", 5)]) (g := gName 5) (by rfl) scIsLine.nd (pi_list (pe_bm PySem.F.plainAttrs_str PySem.F.slot_str_split PySem.F.type_str_split mt_split (pe_ix ix_list (pv 4) pe_int (fun _ _ => rfl)) (pa_cons pe_str pa_nil))) (blkOk_by (N := ilN) (sc := defScope sIsLine) (by decide +kernel)) (fun _ _ _ _ _ => pg_name (i := 5) scIsLine.nd rfl (Or.inl rfl)) (fun _ _ _ _ _ => pts_one (pt_cmpR (op_notInK (K := K) rfl) (pv 5) (pv 3) (by rfl))) (fun _ _ _ _ _ => pv 5)) (pe_lst pa_nil) (nomark _))))))
        pss_nil)
      (pss_one (ps_ret (pe_and (pe_cmpR op_eq (pe_slice sl_str (pv 0) po_none (po_some pe_int)) pe_str (nomark _)) (pe_one (pe_cmpR (op_eqNil hr.units) (pe_lc (own := [("_law_word", 5)]) (g := gName 5) (by rfl) scIsLine.nd (pi_list (pe_bm PySem.F.plainAttrs_str PySem.F.slot_str_split PySem.F.type_str_split mt_split (pe_slice sl_str (pv 0) (po_some pe_int) po_none) (pa_cons pe_str pa_nil))) (blkOk_by (N := ilN) (sc := defScope sIsLine) (by decide +kernel)) (fun _ _ _ _ _ => pg_name (i := 5) scIsLine.nd rfl (Or.inl rfl)) (fun _ _ _ _ _ => pts_one (pt_cmpR (op_notInK (K := K) rfl) (pv 5) (pv 3) (by rfl))) (fun _ _ _ _ _ => pv 5)) (pe_lst pa_nil) (nomark _)))))))))), ?_⟩
    refine ⟨(by show 10 ≤ sizeLine; decide), fun l1 n1 => ?_⟩
    have s1 := Same.new n1 (o := .lst (testL.map V.str))
    have h1 : upd H l1 (.lst (testL.map V.str)) l1 = some (.lst (testL.map V.str)) := upd_same
    show tSeq _ _ _ _ (upd H l1 (.lst (testL.map V.str)))
    generalize upd H l1 (.lst (testL.map V.str)) = G1 at *
    refine ⟨_, rfl, _, rfl, l1, rfl, ⟨_, SqL.of h1⟩, fun D nD => lc_list (K := K) (a := l1) (xs := testL.map V.str) (fun i G => Same G1 G ∧ G D = some (.lst ((testL.take i).map fun z => V.str (Str.ofString "not " ++ z)))) ⟨Same.new nD, upd_same⟩ (fun i G _ q => SqL.of (q.1 _ _ h1)) ?_ ?_⟩
    · rintro i x G hx ⟨sG, hD⟩
      obtain ⟨z, hz, rfl⟩ := str_at hx
      have li := (List.getElem?_eq_some_iff.mp hz).1
      have l10 : testL.length = 10 := rfl
      have lz : z.length ≤ 20 := (wordT (every_prog z (List.mem_append_left _ (List.mem_of_getElem? hz)))).len
      refine ⟨rfl, _, rfl, _, _, rfl, rfl, fits (by show 4 + z.length ≤ _; omega), _, hD, smallT (by rw [List.length_map, List.length_take]; omega), fun b o e => by rw [upd_ne (ne_of_none e nD)]; exact sG _ _ e, ?_⟩
      rw [upd_same, List.take_succ, hz, List.map_append]
      rfl
    rintro G2 ⟨sG, hD⟩
    rw [List.length_map, List.take_length] at hD
    refine ⟨l1, D, _, _, rfl, rfl, sG _ _ h1, hD, fits (by decide), fun l2 n2 => ?_⟩
    have e2 : testL.map V.str ++ testL.map (fun z => V.str (Str.ofString "not " ++ z)) = everyL.map V.str := rfl
    rw [e2]
    have s2 := (s1.trans sG).trans (Same.new n2 (o := .lst (everyL.map V.str)))
    have h2 : upd G2 l2 (.lst (everyL.map V.str)) l2 = some (.lst (everyL.map V.str)) := upd_same
    generalize upd G2 l2 (.lst (everyL.map V.str)) = G3 at *
    refine ⟨(by show 8 ≤ sizeLine; decide), fun l3 n3 => ?_⟩
    have s3 := s2.trans (Same.new n3 (o := .lst (deedL.map V.str)))
    have h3 : upd G3 l3 (.lst (deedL.map V.str)) l3 = some (.lst (deedL.map V.str)) := upd_same
    have h2' := Same.new n3 (o := .lst (deedL.map V.str)) _ _ h2
    show tSeq _ _ _ _ (upd G3 l3 (.lst (deedL.map V.str)))
    generalize upd G3 l3 (.lst (deedL.map V.str)) = G4 at *
    have lw : lawLine line = goodL line := law_good line
    refine ⟨_, rfl, _, rfl, line, rfl, fits (by omega), rfl, _, rfl, ?_⟩
    have c3 := cut3 line
    have lB : (Txt.slice line (some 3) none).length ≤ 90000 := by
      have := congrArg Str.length c3
      rw [Str.length_append] at this
      omega
    have cs : L2.cutS line (some 3) none = Txt.slice line (some 3) none := C8.cutS_slice _ _ _
    have ca : L2.cutS line none (some 3) = Txt.slice line none (some 3) := C8.cutS_slice _ _ _
    rw [ca]
    by_cases e3 : Txt.slice line none (some 3) = Str.ofString "if "
    · refine iteY (by rw [e3]; simp) ?_
      refine ⟨_, rfl, _, rfl, line, rfl, fits (by omega), rfl, _, _, rfl, rfl, rfl, fits (by rw [cs]; omega), fun lp np => ?_⟩
      rw [cs]
      have few := split_few (x := Txt.slice line (some 3) none) (sep := " do ") (by decide)
      have each : ∀ z ∈ Txt.split (Txt.slice line (some 3) none) " do ", z.length ≤ (Txt.slice line (some 3) none).length := split_each
      unfold lawLine at lw
      rw [if_pos e3] at lw
      generalize Txt.split (Txt.slice line (some 3) none) " do " = ps at *
      have sp := s3.trans (Same.new np (o := .lst (ps.map V.str)))
      have hp : upd G4 lp (.lst (ps.map V.str)) lp = some (.lst (ps.map V.str)) := upd_same
      have h2p := Same.new np (o := .lst (ps.map V.str)) _ _ h2'
      have h3p := Same.new np (o := .lst (ps.map V.str)) _ _ h3
      generalize upd G4 lp (.lst (ps.map V.str)) = G5 at *
      refine ⟨_, rfl, lp, _, rfl, .inl (SqL.of hp), rfl, _, rfl, ?_⟩
      rw [List.length_map]
      by_cases pl : ps.length = 2
      · refine iteN (by rw [pl]; rfl) ?_
        obtain ⟨p, q, rfl⟩ : ∃ p q, ps = [p, q] := by
          match ps, pl with
          | [p, q], _ => exact ⟨p, q, rfl⟩
        have lp1 := each p (by simp)
        have lq1 := each q (by simp)
        refine ⟨_, rfl, lp, _, 0, .str p, rfl, rfl, SqL.of hp, rfl, rfl, _, _, rfl, rfl, rfl, fits (by omega), fun la na => ?_⟩
        have few2 := split_few (x := p) (sep := " and ") (by decide)
        have sa := Same.new na (o := .lst ((Txt.split p " and ").map V.str))
        have s5 := sp.trans sa
        refine ⟨la, rfl, ⟨_, SqL.of upd_same⟩, fun D2 nD2 => lc_filter (q := fun z => !inEv z) (by omega) nD2 (SqL.of upd_same) (fun _ => rfl) (fun z G R hz sG r => ⟨_, rfl, _, rfl, l2, _, rfl, .inl (SqL.of (sG _ _ (sa _ _ h2p))), rfl, flat_strs _, _, rfl, r⟩) (fun z G R r => ⟨_, rfl, r⟩) fun G6 s6 hD6 => ⟨(by show 0 ≤ sizeLine; exact Nat.zero_le _), fun l0 n0 => ⟨D2, l0, _, rfl, rfl, SqL.of (Same.new n0 _ _ hD6), upd_same, _, rfl, ?_⟩⟩⟩
        have s7 := (s5.trans s6).trans (Same.new n0 (o := .lst []))
        have h3q := Same.new n0 (o := .lst []) _ _ (s6 _ _ (sa _ _ h3p))
        have hpq := Same.new n0 (o := .lst []) _ _ (s6 _ _ (sa _ _ hp))
        rw [filt_all progT _ (fun z => by rw [inEv_eq])]
        have lw : ((Txt.split p " and ").all progT && (Txt.split q " then ").all progD) = goodL line := lw
        cases ea : (Txt.split p " and ").all progT with
        | false =>
          rw [ea, Bool.false_and] at lw
          rw [← lw] at k
          exact iteY rfl (k _ s7)
        | true =>
          rw [ea, Bool.true_and] at lw
          refine iteN rfl ?_
          refine ⟨_, rfl, lp, _, 1, .str q, rfl, rfl, SqL.of hpq, rfl, rfl, _, _, rfl, rfl, rfl, fits (by omega), fun lb nb => ?_⟩
          have few3 := split_few (x := q) (sep := " then ") (by decide)
          have sb := Same.new nb (o := .lst ((Txt.split q " then ").map V.str))
          refine ⟨lb, rfl, ⟨_, SqL.of upd_same⟩, fun D3 nD3 => lc_filter (q := fun z => !progD z) (by omega) nD3 (SqL.of upd_same) (fun _ => rfl) (fun z G R hz sG r => ⟨_, rfl, _, rfl, l3, _, rfl, .inl (SqL.of (sG _ _ (sb _ _ h3q))), rfl, flat_strs _, _, rfl, r⟩) (fun z G R r => ⟨_, rfl, r⟩) fun G8 s8 hD8 => ⟨(by show 0 ≤ sizeLine; exact Nat.zero_le _), fun l4 n4 => ⟨D3, l4, _, rfl, rfl, SqL.of (Same.new n4 _ _ hD8), upd_same, ?_⟩⟩⟩
          rw [filt_all progD _ (fun z => rfl), lw]
          exact k _ (((s7.trans sb).trans s8).trans (Same.new n4))
      · refine iteY (by simp; omega) ?_
        rw [decide_eq_false pl, Bool.false_and] at lw
        rw [← lw] at k
        exact iteY rfl (k _ sp)
    · refine iteN (by simp [e3]) ?_
      unfold lawLine at lw
      rw [if_neg e3] at lw
      refine ⟨_, rfl, _, rfl, line, rfl, fits (by omega), rfl, _, rfl, ?_⟩
      rw [ca]
      by_cases e4 : Txt.slice line none (some 3) = Str.ofString "do "
      · refine iteY (by rw [e4]; simp) ?_
        rw [decide_eq_true e4, Bool.true_and] at lw
        refine ⟨_, rfl, _, rfl, line, rfl, fits (by omega), rfl, _, _, rfl, rfl, rfl, fits (by rw [cs]; omega), fun lb nb => ?_⟩
        rw [cs]
        have few3 := split_few (x := Txt.slice line (some 3) none) (sep := " then ") (by decide)
        have sb := Same.new nb (o := .lst ((Txt.split (Txt.slice line (some 3) none) " then ").map V.str))
        refine ⟨lb, rfl, ⟨_, SqL.of upd_same⟩, fun D3 nD3 => lc_filter (q := fun z => !progD z) (by omega) nD3 (SqL.of upd_same) (fun _ => rfl) (fun z G R hz sG r => ⟨_, rfl, _, rfl, l3, _, rfl, .inl (SqL.of (sG _ _ (sb _ _ h3))), rfl, flat_strs _, _, rfl, r⟩) (fun z G R r => ⟨_, rfl, r⟩) fun G8 s8 hD8 => ⟨(by show 0 ≤ sizeLine; exact Nat.zero_le _), fun l4 n4 => ⟨D3, l4, _, rfl, rfl, SqL.of (Same.new n4 _ _ hD8), upd_same, ?_⟩⟩⟩
        rw [filt_all progD _ (fun z => rfl), lw]
        exact k _ (((s3.trans sb).trans s8).trans (Same.new n4))
      · refine iteN (by simp [e4]) ?_
        rw [decide_eq_false e4, Bool.false_and] at lw
        rw [← lw] at k
        exact k _ s3
end
end Lay
set_option Elab.async false
set_option linter.all false
set_option maxRecDepth 100000
set_option maxHeartbeats 4000000
set_option pp.maxSteps 900
namespace Lay
open PySem PySem.Spec PyProof.Rows L2
abbrev sWrong : Stmt := top 36
def wrN : List Str := ["_law_text", "_law_lines", "_law_bad", "_law_at"]
def badL : List Str → Nat → List Nat
  | [], _ => []
  | l :: r, i => if goodL l = true then badL r (i + 1) else i :: badL r (i + 1)
theorem badL_snoc {z : Str} : ∀ (ls : List Str) (i : Nat), badL (ls ++ [z]) i = badL ls i ++ (if goodL z = true then [] else [i + ls.length])
  | [], i => by
    show (if goodL z = true then badL [] (i + 1) else i :: badL [] (i + 1)) = _
    unfold badL
    split <;> simp
  | y :: r, i => by
    have ih := badL_snoc (z := z) r (i + 1)
    show (if goodL y = true then badL (r ++ [z]) (i + 1) else i :: badL (r ++ [z]) (i + 1)) = (if goodL y = true then badL r (i + 1) else i :: badL r (i + 1)) ++ _
    rw [ih, List.length_cons, show i + 1 + r.length = i + (r.length + 1) by omega]
    split <;> rfl
theorem badL_len : ∀ (ls : List Str) (i : Nat), (badL ls i).length ≤ ls.length
  | [], _ => Nat.le_refl _
  | y :: r, i => by
    have := badL_len r (i + 1)
    unfold badL
    split
    · rw [List.length_cons]; omega
    · rw [List.length_cons, List.length_cons]; omega
theorem badL_head : ∀ (ls : List Str) (i : Nat), (badL ls i).head? = badAt ls i
  | [], _ => rfl
  | y :: r, i => by
    unfold badL badAt
    split
    · exact badL_head r (i + 1)
    · rfl
def wrongI (t : Str) : Int := match readT t with
  | none => -1
  | some n => n
def spWrong : Sp := fun vs H Q _ => ∃ t : Str, vs = [.str t] ∧ t.length ≤ 80000 ∧ ∀ H', Same H H' → Q (.int (wrongI t)) H'
section
variable {X : Cx} {K : PySem.W.Frag}
theorem ix_listK (hK : X.K = K) : IxR X (rIxL K) := by
  subst hK
  exact ix_list
end
section
variable {P : Program} {w : World} {K : PySem.W.Frag} {mg : Str → Option Value} {base : Heap}
theorem scWrong : FnScope wrN ["_law_text"] (defScope sWrong) := ⟨rfl, rfl, rfl, by decide +kernel, rfl, by decide +kernel, by decide +kernel⟩
theorem ok_wrong {f fL : Addr} {fd fdL : FuncData} (F : Fun K "_law_wrong" "_law_wrong" sWrong f fd) (T : TxtK mg) (hrange : mg "range" = none) (GL : FnOk P w K mg base CX0 1 fL fdL ["_law_line"] spIsLine) (gL : mg "_law_is_line" = some (.ref fL)) (kL : PySem.W.keepIn K (.ref fL) = true) (bL : Binds K fdL ["_law_line"] []) :
    FnOk P w K mg base CX0 2 f fd ["_law_text"] spWrong := by
  refine F.ok scWrong (fun vs H Q E h => ?_) (fun cdv A outer s H vs Q E hr h => ?_)
  · obtain ⟨t, rfl, _⟩ := h
    rfl
  · obtain ⟨t, rfl, tl, k⟩ := h
    refine ⟨_, (pss_cons (ps_set (i := 1) scWrong.nd rfl (.inr rfl) (pe_bm PySem.F.plainAttrs_str PySem.F.slot_str_split PySem.F.type_str_split mt_split (pv 0) (pa_cons pe_str pa_nil)))
      (pss_cons (ps_if (pt_cmpR op_notIn_seq (pe_ix ix_list (pv 1) pe_int (fun _ _ => rfl)) (pe_tup (pa_cons pe_str (pa_cons pe_str pa_nil))) (by rfl)) (pss_one (ps_ret pe_int)) pss_nil)
      (pss_cons (ps_setLc (i := 2) (own := [("_law_at", 3)]) (g := gName 3) rfl scWrong.nd rfl rfl (sw_true rfl rfl rfl (by decide +kernel)) (pi_range2 (by rfl) hrange (pa_cons pe_int (pa_cons (pe_callB call_len_seq (by rfl) T.len PySem.boot_len (pa_cons (pv 1) pa_nil)) pa_nil))) (blkOk_by (N := wrN) (sc := defScope sWrong) (by decide +kernel)) (fun _ _ _ _ _ => pg_name (i := 3) scWrong.nd rfl (Or.inl rfl))
        (fun _ _ _ _ _ => pts_one (pt_not (pt_val (pe_call GL hr (by rfl) gL kL bL .nil pass0 (pa_cons (pe_ix (ix_listK (K := K) rfl) (pv 1) (pv 3) (fun _ _ => rfl)) pa_nil))))) (fun _ _ _ _ _ => pv 3))
      (pss_one (ps_ret (pe_ix ix_list (pe_op op_cat (pv 2) (pe_lst (pa_cons (pe_op op_sub pe_int pe_int) pa_nil))) pe_int (fun _ _ => rfl))))))), ?_⟩
    refine ⟨_, rfl, rfl, _, _, rfl, rfl, rfl, fits (by omega), fun l nl => ?_⟩
    have few := split_few (x := t) (sep := "\n") (by decide)
    have each : ∀ z ∈ Txt.split t "\n", z.length ≤ t.length := split_each
    have re : wrongI t = match readT t with | none => -1 | some n => (n : Int) := rfl
    unfold readT at re
    have ne : Txt.split t "\n" ≠ [] := split_ne (by decide)
    generalize Txt.split t "\n" = ls0 at *
    obtain ⟨f0, ls, rfl⟩ : ∃ f0 ls, ls0 = f0 :: ls := by
      cases ls0 with
      | nil => exact absurd rfl ne
      | cons a b => exact ⟨a, b, rfl⟩
    have s1 := Same.new nl (o := .lst ((f0 :: ls).map V.str))
    have h1 : upd H l (.lst ((f0 :: ls).map V.str)) l = some (.lst ((f0 :: ls).map V.str)) := upd_same
    generalize upd H l (.lst ((f0 :: ls).map V.str)) = G1 at *
    rw [List.length_cons] at few
    refine ⟨_, rfl, l, _, 0, .str f0, rfl, rfl, SqL.of h1, L2.atI_nat (j := 0) rfl, (by show 2 ≤ sizeLine; decide), fun p3 n3 => ?_⟩
    have s3 := s1.trans (Same.new n3 (o := .tup [.str "tool", .str "tool sorts"]))
    have h3 := Same.new n3 (o := .tup [.str "tool", .str "tool sorts"]) _ _ h1
    refine ⟨p3, _, rfl, .inr (SqT.of upd_same), rfl, rfl, _, rfl, ?_⟩
    generalize upd G1 p3 (.tup [.str "tool", .str "tool sorts"]) = G3 at *
    have eh : inV (.str f0) [.str "tool", .str "tool sorts"] = headB f0 := rfl
    rw [if_pos rfl, eh]
    cases hb : headB f0 with
    | false =>
      have re : wrongI t = 0 := by rw [re]; simp only [hb]; rfl
      rw [re] at k
      exact iteY rfl (k _ s3)
    | true =>
      refine iteN rfl ?_
      have re : wrongI t = match badAt ls 1 with | none => -1 | some n => (n : Int) := by rw [re]; simp only [hb]; rfl
      have e1 : ((((f0 :: ls).map V.str).length : Int) - 1).toNat = ls.length := by
        rw [List.length_map, List.length_cons]
        omega
      refine ⟨_, rfl, l, _, rfl, .inl (SqL.of h3), 1, _, rfl, ⟨by omega, by omega, by omega, by rw [List.length_map, List.length_cons]; omega⟩, ?_⟩
      rw [e1]
      intro D nD
      refine lc_range (lo := 1) (n := ls.length) (fun i G => Same G3 G ∧ G D = some (.lst ((badL (ls.take i) 1).map fun n : Nat => V.int (n : Int)))) ⟨Same.new nD, upd_same⟩ ?_ ?_
      · rintro i G li ⟨sG, hD⟩
        obtain ⟨z, hz⟩ : ∃ z, ls[i]? = some z := ⟨ls[i], by simp [li]⟩
        have lz := each z (List.mem_cons_of_mem _ (List.mem_of_getElem? hz))
        have ez : ((f0 :: ls).map V.str)[i + 1]? = some (V.str z) := by
          rw [List.getElem?_map, List.getElem?_cons_succ, hz]
          rfl
        have lb : (badL (ls.take i) 1).length ≤ 80001 := by
          have := badL_len (ls.take i) 1
          rw [List.length_take] at this
          omega
        have lt : (ls.take i).length = i := by rw [List.length_take]; omega
        have e2 : badL (ls.take (i + 1)) 1 = badL (ls.take i) 1 ++ (if goodL z = true then [] else [1 + i]) := by
          rw [List.take_succ, hz]
          have := badL_snoc (z := z) (ls.take i) 1
          rw [lt] at this
          exact this
        refine ⟨rfl, _, rfl, _, rfl, l, _, _, .str z, rfl, rfl, SqL.of (sG _ _ h3), at_of (j := i + 1) (by omega) ez, z, rfl, by omega, fun G4 s4 => ⟨_, rfl, ?_⟩⟩
        cases gz : goodL z with
        | true =>
          refine iteN rfl ⟨sG.trans s4, ?_⟩
          rw [e2, gz, if_pos rfl, List.append_nil]
          exact s4 _ _ hD
        | false =>
          refine iteY rfl ⟨_, rfl, _, s4 _ _ hD, smallT (by rw [List.length_map]; omega), fun b o e => by rw [upd_ne (ne_of_none e nD)]; exact s4 _ _ (sG _ _ e), ?_⟩
          rw [upd_same, e2, gz, if_neg (by decide), List.map_append]
          show some (HO.lst (_ ++ [V.int (1 + (i : Int))])) = some (HO.lst (_ ++ [V.int ((1 + i : Nat) : Int)]))
          rw [show ((1 + i : Nat) : Int) = 1 + (i : Int) by omega]
      rintro G ⟨sG, hD⟩
      rw [List.take_length] at hD
      have lb := badL_len ls 1
      refine ⟨_, rfl, _, _, rfl, rfl, (by show 1 ≤ sizeLine; decide), fun l5 n5 => ?_⟩
      have hD5 := Same.new n5 (o := .lst [.int (0 - 1)]) _ _ hD
      refine ⟨D, l5, _, _, rfl, rfl, hD5, upd_same, fits (by rw [List.length_map]; show _ + 1 ≤ 16000000; omega), fun l6 n6 => ?_⟩
      have s6 := ((s3.trans sG).trans (Same.new n5 (o := .lst [.int (0 - 1)]))).trans (Same.new n6 (o := .lst ((badL ls 1).map (fun n : Nat => V.int (n : Int)) ++ [.int (0 - 1)])))
      refine ⟨l6, _, 0, .int (wrongI t), rfl, rfl, SqL.of upd_same, L2.atI_nat (j := 0) ?_, k _ s6⟩
      have hh := badL_head ls 1
      rw [re, ← hh]
      cases badL ls 1 with
      | nil => rfl
      | cons a b => rfl
end
end Lay
set_option Elab.async false
set_option linter.all false
set_option maxRecDepth 100000
set_option maxHeartbeats 4000000
set_option pp.maxSteps 900
namespace Lay
open PySem PySem.Spec PyProof.Rows L2
section
variable {X : Cx} {CX : CXT} {k : Nat} {C p g : Addr} {mc : Value} {sp : Sp} {E : L2.St → XK} {o e : Expr} {es : List Expr} {m : Str} {pos apos : Pos} {ta : TE} {t : TA} {pl : Sem Bool}
theorem run_fnRS {pins : List (Addr × Obj)} {σ : L2.St} {H : Hp} {s : Shared} {Q : VK} {us : List Value} {vs : List V} (F : FnR X.prog X.w X.K X.mg X.base CX k g sp) (hr : Room k X.A) (hx : PassesAt CX X σ (E σ)) (I : Inv X pins σ H s) (r : Vals vs us) (h : sp vs H Q (E σ)) :
    codeAny (model X.prog X.w) X.A (.call (.ref g) ⟨us, []⟩) (fun r s' => match r with | .ok (.ret v) => EP X pins σ Q v s' | .ok _ => False | .error e => X.xe e s') s := by
  refine codeAny_mono (F X.A X.stack s H us vs Q (E σ) hr I.env0 r h) fun r s' hq => ?_
  cases r with
  | error e => exact hx pins H s e s' I hq
  | ok fl =>
    cases fl with
    | ret u => exact I.after hq
    | next => exact False.elim hq
    | brk => exact False.elim hq
    | cont => exact False.elim hq
def tCMethS (C : Addr) (sp : Sp) (E : L2.St → XK) (ta : TE) (t : TA) : TE := fun σ H Q => ta σ H fun x H1 => x = .ref C ∧ t σ H1 fun vs H2 => sp (.ref C :: vs) H2 Q (E σ)
theorem pe_cmethS (he : PE X o ta) (r : ClX.CRead X.K C mc) (c : ClX.CMet X.K C mc m p g) (F : FnR X.prog X.w X.K X.mg X.base CX k g sp) (hr : Room k X.A) (hx : ∀ σ, PassesAt CX X σ (E σ)) (ha : PA X (e :: es) t)
    (hst : starEach (e :: es) X.env = (false, eval e X.env) :: starEach es X.env := by rfl) (hpl : (backTo pos (starEach es X.env)).any (·.1) = false := by rfl)
    (ht : eval (.Call (.Attribute o m apos) (e :: es) [] pos) X.env = (do
      let ov ← eval o X.env
      standAt apos.atName
      let (f, first) ← holding [ov] (getMethod ov m pl)
      callWith pos f first (backTo pos (starEach (e :: es) X.env)) (backToKw pos (keywordEach [] X.env))) := by rfl) :
    PE X (.Call (.Attribute o m apos) (e :: es) [] pos) (tCMethS C sp E ta t) := by
  refine ⟨fun pins s σ H Q I h => ?_⟩
  refine PySem.W.methodCall_KW (pl := pl) (thn (he.run pins s σ H _ I h) fun u s1 ⟨x, H1, I1, rx, ex, q⟩ => ?_) ht
  subst ex
  obtain rfl : u = Value.ref C := rx
  refine ClX.getmethcm_ok I1 r c fun s2 I2 => ?_
  refine ClX.callwith_cm I2 (ClX.base_none I1 (Nat.le_refl _)) c.fi (thn (ha.run pos _ s2 σ H1 _ I2 q) fun us s3 ⟨vs, H2, I3, rv, q2⟩ => ⟨⟨ClX.pin_at I3, I3.kIn⟩, ?_⟩) hst hpl
  have z : wpAny (model X.prog X.w) X.A (call (.ref s1.heap.objs.size) us) (EP X ((s1.heap.objs.size, PySem.W.methodObj (.ref g) (.ref C)) :: pins) σ Q) X.xe s3 :=
    wpAny_call (PySem.W.method_call (ClX.pin_at I3) (run_fnRS (us := .ref C :: us) (vs := .ref C :: vs) F hr (hx σ) I3 (.cons rfl rv) q2))
  exact thn z fun _ _ y => ClX.unpinE y
end
def rStrTl (K : PySem.W.Frag) (C CT : Addr) : List V → Hp → VK → Prop := fun xs H Q => ∃ p rs s, xs = [.ref p] ∧ ToolAt K C CT H p rs s ∧ ∀ H', Same H H' → Q (.str (toolText rs s)) H'
section
variable {X : Cx} {K : PySem.W.Frag} {C CT : Addr}
theorem call_strTlK (hK : X.K = K) (T : TlF X.prog X.w K X.mg X.base C CT) (hr : Room 7 X.A) : CallR X (.type "str") (rStrTl K C CT) := by
  subst hK
  exact call_strTl T hr
end
/-- the class D is a LayError, and no InvalidRow -/
structure KinT (K : PySem.W.Frag) (mg : Str → Option Value) (D L DR : Addr) : Prop where
  gL : mg "LayError" = some (.ref L)
  gDR : mg "InvalidRow" = some (.ref DR)
  kL : PySem.W.kitOne K (.ref D) (.ref L) = some true
  kT : PySem.W.kitOne K (.ref D) (.ref DR) = some false
  ex : PySem.W.exmOne K (.ref D) (.ref D) = some true
abbrev sHeard : Stmt := top 37
def heardV (t : Str) : V := match readT t with
  | none => .str t
  | some n => .int n
def spHeard (K : PySem.W.Frag) : Sp := fun vs H Q _ => ∃ x, vs = [x] ∧ ((IsT K H x "str" false ∧ ∀ H', Same H H' → Q (.int 0) H') ∨ ∃ t, x = .str t ∧ t.length ≤ 80000 ∧ ∀ H', Same H H' → Q (heardV t) H')
section
variable {P : Program} {w : World} {K : PySem.W.Frag} {mg : Str → Option Value} {base : Heap}
theorem scHeard : FnScope ["_law_value", "_law_found", "e"] ["_law_value"] (defScope sHeard) := ⟨rfl, rfl, rfl, by decide +kernel, rfl, by decide +kernel, by decide +kernel⟩
theorem ok_heard {f fI C CT D L DR pR gR : Addr} {fd : FuncData} {mc : Value} (F : Fun K "_law_heard" "_law_heard" sHeard f fd) (T : TxtK mg) (U : TlF P w K mg base C CT) (Y : XC K mg D fI "InvalidTool" "at") (N : KinT K mg D L DR) (cr : ClX.CRead K CT mc) (cm : ClX.CMet K CT mc "read" pR gR)
    (R : FnR P w K mg base (L2.CX P w) 6 gR (spTR K C CT D)) : FnOk P w K mg base CX0 9 f fd ["_law_value"] (spHeard K) := by
  refine F.ok scHeard (fun vs H Q E h => ?_) (fun cdv A outer s H vs Q E hr h => ?_)
  · obtain ⟨x, rfl, _⟩ := h
    rfl
  · obtain ⟨x, rfl, h⟩ := h
    refine ⟨_, (pss_cons (ps_set (i := 1) scHeard.nd rfl (.inl rfl) pe_str)
      (pss_cons (ps_try_as (i := 2) rfl rfl scHeard.nd rfl (by rfl) ⟨by rfl, by decide, .inl Y.gC⟩ takes0
        (fun W pn xe tk hp => pss_one (ps_set (i := 1) scHeard.nd rfl (.inl rfl) (pe_callTy (call_strTlK (K := K) rfl U (hr.mono (by decide))) (by rfl) T.str (by decide +kernel) (pa_cons (pe_cmethS (E := WE W) (pe_glob (v := .ref CT) (by rfl) U.g rfl) cr cm R (hr.mono (by decide)) (fun σ => passAt tk σ) (pa_cons (pv 0) pa_nil)) pa_nil))))
        (fun a oe cls d pn hz hf => pss_one (ps_set (i := 1) scHeard.nd rfl (.inl rfl) (pe_ifExp (PW.pt (pw_and (pt_val (pe_callB (call_isEX hz hf) (by rfl) T.isinstance (by decide +kernel) (pa_cons (pv 2) (pa_cons (pe_glob (v := .ref L) (by rfl) N.gL rfl) pa_nil))))
          (pw_and1 (pt_not (pt_val (pe_callB (call_isEX hz hf) (by rfl) T.isinstance (by decide +kernel) (pa_cons (pv 2) (pa_cons (pe_glob (v := .ref DR) (by rfl) N.gDR rfl) pa_nil))))))))
          (pe_xf Y.xf Y.no hz hf (pv 2)) pe_str))))
      (pss_one (ps_ret (pv 1))))), ?_⟩
    have raise : ∀ {H1 : Hp} {n : Int}, Same H H1 → (∀ H', Same H H' → Q (.int n) H') → True := fun _ _ => trivial
    rcases h with ⟨h, k⟩ | ⟨t, rfl, tl, k⟩
    · refine ⟨rfl, _, rfl, x, rfl, .inl ⟨h, fun G d s2 n e => ⟨true, N.ex, fun _ a ha => ?_, fun z => nomatch z⟩⟩⟩
      refine ⟨_, rfl, D, d, _, _, _, _, rfl, rfl, rfl, e, Y.isC, .own _, N.kL, _, rfl, ?_⟩
      refine ⟨_, rfl, D, d, _, _, _, _, rfl, rfl, rfl, e, Y.isC, .own _, N.kT, _, rfl, ?_⟩
      exact ⟨_, rfl, rfl, rfl, d, _, _, rfl, e, rfl, _, rfl, k G s2⟩
    · obtain ⟨f0, ls, es⟩ : ∃ f0 ls, Txt.split t "\n" = f0 :: ls := by
        have ne : Txt.split t "\n" ≠ [] := split_ne (by decide)
        cases e : Txt.split t "\n" with
        | nil => exact absurd e ne
        | cons a b => exact ⟨a, b, rfl⟩
      refine ⟨rfl, _, rfl, .str t, rfl, .inr ⟨t, f0, ls, rfl, tl, es, ?_⟩⟩
      cases hr2 : readT t with
      | none =>
        refine .inl ⟨rfl, fun p u xs H' s' np hp => ⟨p, _, _, rfl, hp.at, fun H2 s2 => ⟨_, rfl, ?_⟩⟩⟩
        have hg : headB f0 = true ∧ ∀ l ∈ ls, goodL l = true := by
          unfold readT at hr2
          rw [es] at hr2
          have hr2 : (if headB f0 = true then badAt ls 1 else some 0) = none := hr2
          by_cases hb : headB f0 = true
          · rw [if_pos hb] at hr2
            exact ⟨hb, @badAt_none 0 _ _ hr2⟩
          · rw [if_neg hb] at hr2
            cases hr2
        have k1 := k H2 (s'.trans s2)
        unfold heardV at k1
        rw [hr2] at k1
        rw [tool_text es hg.1 hg.2]
        exact k1
      | some n =>
        refine .inr ⟨n, rfl, fun G d s2 nn e => ⟨true, N.ex, fun _ a ha => ?_, fun z => nomatch z⟩⟩
        refine ⟨_, rfl, D, d, _, _, _, _, rfl, rfl, rfl, e, Y.isC, .own _, N.kL, _, rfl, ?_⟩
        refine ⟨_, rfl, D, d, _, _, _, _, rfl, rfl, rfl, e, Y.isC, .own _, N.kT, _, rfl, ?_⟩
        have k1 := k G s2
        unfold heardV at k1
        rw [hr2] at k1
        exact ⟨_, rfl, rfl, rfl, d, _, _, rfl, e, rfl, _, rfl, k1⟩
end
end Lay
set_option Elab.async false
set_option linter.all false
set_option maxRecDepth 100000
set_option maxHeartbeats 4000000
set_option pp.maxSteps 900
namespace Lay
open PySem PySem.Spec PyProof.Rows L2
abbrev sBent : Stmt := top 38
def beN : List Str := ["_law_box", "_law_text", "_law_lines", "_law_form", "_law_at", "_law_spot", "_law_odd"]
def odd9 : List Str := ["", "tool", "tool sorts", "do", "do ", "if do join", "if long join", "if long and do join", "do join then"]
def odd5 : List Str := ["if not not long do join", "do join and mark", "if long do join do mark", " do join", "do  join"]
def sign5 : List Str := [" ", "a", "\n", "D", "t"]
theorem odd_len : ∀ z ∈ odd9 ++ odd5, z.length ≤ 30 := by decide +kernel
theorem sign_len : ∀ z ∈ sign5, z.length ≤ 1 := by decide +kernel
def szs (ls : List Str) : Nat := (ls.map (·.length)).sum + ls.length
theorem szs_app (a b : List Str) : szs (a ++ b) = szs a + szs b := by
  unfold szs
  rw [List.map_append, List.sum_append, List.length_append]
  omega
theorem szs_drop (ls : List Str) (n : Nat) : szs (ls.drop n) ≤ szs ls := by
  have := szs_app (ls.take n) (ls.drop n)
  rw [List.take_append_drop] at this
  omega
theorem szs_cut (ls : List Str) {a b : Nat} (h : a ≤ b) : szs (ls.take a) + szs (ls.drop b) ≤ szs ls := by
  have h1 := szs_app (ls.take a) (ls.drop a)
  rw [List.take_append_drop] at h1
  have h2 := szs_drop (ls.drop a) (b - a)
  rw [List.drop_drop, show a + (b - a) = b by omega] at h2
  omega
theorem szs_join (ls : List Str) : (Txt.join "\n" ls).length ≤ szs ls := by
  have := join_le "\n" ls
  have j : (Str.ofString "\n").length = 1 := by decide
  rw [j] at this
  unfold szs
  omega
theorem szs_split (t : Str) : szs (Txt.split t "\n") ≤ t.length + 1 := by
  have := sum_le_join "\n" (Txt.split t "\n")
  have j : (Str.ofString "\n").length = 1 := by decide
  rw [join_split', j] at this
  unfold szs
  omega
theorem szs_one (z : Str) : szs [z] = z.length + 1 := by simp [szs]
theorem szs_sum (ls : List Str) : (ls.map (·.length)).sum + ls.length * (Str.ofString "\n").length = szs ls := by
  have j : (Str.ofString "\n").length = 1 := by decide
  rw [j]
  unfold szs
  omega
theorem cut_lo {xs : List V} {n : Nat} : cutV xs none (some (n : Int)) = xs.take n := by
  unfold cutV
  rw [HT.sIx_none, HT.sIx_nat, List.drop_zero, Nat.sub_zero]
  rcases Nat.le_total n xs.length with h | h
  · rw [Nat.min_eq_left h]
  · rw [Nat.min_eq_right h, List.take_length, List.take_of_length_le h]
theorem cut_hi {xs : List V} {n : Nat} : cutV xs (some (n : Int)) none = xs.drop n := by
  unfold cutV
  rw [HT.sIx_none, HT.sIx_nat]
  rcases Nat.le_total n xs.length with h | h
  · rw [Nat.min_eq_left h, List.take_of_length_le]
    rw [List.length_drop]
    exact Nat.le_refl _
  · rw [Nat.min_eq_right h, List.drop_length, List.drop_of_length_le h, List.take_nil]
theorem cut_one {xs : List V} {n : Nat} (h : n < xs.length) : cutV xs (some (n : Int)) (some ((n + 1 : Nat) : Int)) = (xs.drop n).take 1 := by
  unfold cutV
  rw [HT.sIx_nat, HT.sIx_nat, Nat.min_eq_left (by omega), Nat.min_eq_left (by omega)]
  congr 1
  omega
/-- plain signs -/
def Sm (z : Str) : Prop := ∀ c ∈ TxL.L z, c < 200
theorem mem_of_join {c : Nat} (sep : Str) : ∀ (ps : List Str) (p : Str), p ∈ ps → c ∈ TxL.L p → c ∈ TxL.L (Str.join sep ps)
  | [], p, h, _ => (List.not_mem_nil h).elim
  | [q], p, h, hc => by
    rw [List.mem_singleton] at h
    rw [h] at hc
    exact hc
  | q :: y :: r, p, h, hc => by
    rw [TxL.drop_join]
    rcases List.mem_cons.mp h with h | h
    · rw [h] at hc
      exact List.mem_append_left _ hc
    · exact List.mem_append_right _ (List.mem_append_right _ (mem_of_join sep (y :: r) p h hc))
theorem Sm.split {t : Str} (h : Sm t) : ∀ z ∈ Txt.split t "\n", Sm z := fun z hz c hc => by
  have := mem_of_join "\n" _ z hz hc
  rw [StrLaws.join_split] at this
  exact h c this
theorem Sm.join {sep : Str} (h : Sm sep) {ls : List Str} (hl : ∀ z ∈ ls, Sm z) : Sm (Txt.join sep ls) := fun c hc => by
  rw [joinT] at hc
  rcases mem_join sep ls hc with hc | ⟨p, hp, hc⟩
  · exact h c hc
  · exact hl p hp c hc
theorem sm_nl : Sm (Str.ofString "\n") := by unfold Sm; decide +kernel
theorem Sm.app {a b : Str} (ha : Sm a) (hb : Sm b) : Sm (a ++ b) := fun c hc => by
  rw [TxL.L_app] at hc
  rcases List.mem_append.mp hc with hc | hc
  · exact ha c hc
  · exact hb c hc
theorem Sm.pre {t : Str} (h : Sm t) (n : Nat) : Sm (Txt.slice t none (some (n : Int))) := fun c hc => by
  rw [c_pre] at hc
  exact h c (List.mem_of_mem_take hc)
theorem Sm.suf {t : Str} (h : Sm t) (n : Nat) : Sm (Txt.slice t (some (n : Int)) none) := fun c hc => by
  rw [c_suf] at hc
  exact h c (List.mem_of_mem_drop hc)
theorem odd_sm : ∀ z ∈ odd9 ++ odd5, Sm z := by
  have : ∀ z ∈ odd9 ++ odd5, ∀ c ∈ TxL.L z, c < 200 := by decide +kernel
  exact this
theorem sign_sm : ∀ z ∈ sign5, Sm z := by
  have : ∀ z ∈ sign5, ∀ c ∈ TxL.L z, c < 200 := by decide +kernel
  exact this
def spBentT (K : PySem.W.Frag) : Sp := fun vs H Q _ => ∃ (b gr : Addr) (t : Str), vs = [.ref b, .str t] ∧ BoxD H b gr ∧ t.length ≤ 30000 ∧ Sm t ∧ ∀ (t2 : Str) (H' : Hp), t2.length ≤ 2 * t.length + 40 → Sm t2 → K2 b gr H H' → BoxD H' b gr → Q (.str t2) H'
section
variable {P : Program} {w : World} {K : PySem.W.Frag} {mg : Str → Option Value} {base : Heap} {fT fK : Addr} {dT dK : FuncData}
theorem scBent : FnScope beN ["_law_box", "_law_text"] (defScope sBent) := ⟨rfl, rfl, rfl, by decide +kernel, rfl, by decide +kernel, by decide +kernel⟩
theorem ok_bent {f : Addr} {fd : FuncData} (F : Fun K "_law_bent" "_law_bent" sBent f fd) (D : Draws P w K mg base fT fK dT dK) (hlen : mg "len" = none) : FnOk P w K mg base CX0 3 f fd ["_law_box", "_law_text"] (spBentT K) := by
  refine F.ok scBent (fun vs H Q E h => ?_) (fun cdv A outer s H vs Q E hr h => ?_)
  · obtain ⟨b, gr, t, rfl, _⟩ := h
    rfl
  · obtain ⟨b, gr, t, rfl, bx, tl, sm, k⟩ := h
    have hr1 := hr.mono (show 1 ≤ 2 by decide)
    refine ⟨_, (C8.pss_cut (ps_par (i := 2) (j := 3) (by rfl) scBent.nd rfl rfl (by decide) rfl rfl (pa_cons (pe_bm PySem.F.plainAttrs_str PySem.F.slot_str_split PySem.F.type_str_split mt_split (pv 1) (pa_cons pe_str pa_nil)) (pa_cons (pe_call D.okT hr1 (by rfl) D.gT D.kT D.bT .nil pass0 (pa_cons (pv 0) (pa_cons pe_int pa_nil))) pa_nil)) (by rfl))
      (C8.pss_cut (ps_par (i := 4) (j := 5) (by rfl) scBent.nd rfl rfl (by decide) rfl rfl (pa_cons (pe_call D.okT hr1 (by rfl) D.gT D.kT D.bT .nil pass0 (pa_cons (pv 0) (pa_cons (pe_callB call_len_seq (by rfl) hlen PySem.boot_len (pa_cons (pv 2) pa_nil)) pa_nil))) (pa_cons (pe_call D.okT hr1 (by rfl) D.gT D.kT D.bT .nil pass0 (pa_cons (pv 0) (pa_cons (pe_op op_add (pe_callB call_len_str (by rfl) hlen PySem.boot_len (pa_cons (pv 1) pa_nil)) pe_int) pa_nil))) pa_nil)) (by rfl))
      (C8.pss_cut (ps_set (i := 6) scBent.nd rfl (.inl rfl) (pe_lst (pa_cons pe_str (pa_cons pe_str (pa_cons pe_str (pa_cons pe_str (pa_cons pe_str (pa_cons pe_str (pa_cons pe_str (pa_cons pe_str (pa_cons pe_str pa_nil)))))))))))
      (C8.pss_cut (ps_set (i := 6) scBent.nd rfl (.inl rfl) (pe_op op_cat (pv 6) (pe_lst (pa_cons pe_str (pa_cons pe_str (pa_cons pe_str (pa_cons pe_str (pa_cons pe_str pa_nil))))))))
      (C8.pss_cut (ps_if (pt_cmpR op_eq (pv 3) pe_int (nomark _)) (pss_one (ps_ret (pe_bm PySem.F.plainAttrs_str PySem.F.slot_str_join PySem.F.type_str_join mt_join pe_str (pa_cons (pe_op op_cat (pe_slice sl_list (pv 2) po_none (po_some (pv 4))) (pe_slice sl_list (pv 2) (po_some (pe_op op_add (pv 4) pe_int)) po_none)) pa_nil)))) pss_nil)
      (C8.pss_cut (ps_if (pt_cmpR op_eq (pv 3) pe_int (nomark _)) (pss_one (ps_ret (pe_bm PySem.F.plainAttrs_str PySem.F.slot_str_join PySem.F.type_str_join mt_join pe_str (pa_cons (pe_op op_cat (pe_op op_cat (pe_slice sl_list (pv 2) po_none (po_some (pv 4))) (pe_lst (pa_cons (pe_call D.okK hr (by rfl) D.gK D.kK D.bK .nil pass0 (pa_cons (pv 0) (pa_cons (pv 6) pa_nil))) pa_nil))) (pe_slice sl_list (pv 2) (po_some (pv 4)) po_none)) pa_nil)))) pss_nil)
      (C8.pss_cut (ps_if (pt_cmpR op_eq (pv 3) pe_int (nomark _)) (pss_one (ps_ret (pe_bm PySem.F.plainAttrs_str PySem.F.slot_str_join PySem.F.type_str_join mt_join pe_str (pa_cons (pe_op op_cat (pe_op op_cat (pe_slice sl_list (pv 2) po_none (po_some (pv 4))) (pe_slice sl_list (pv 2) (po_some (pv 4)) (po_some (pe_op op_add (pv 4) pe_int)))) (pe_slice sl_list (pv 2) (po_some (pv 4)) po_none)) pa_nil)))) pss_nil)
      (C8.pss_cut (ps_if (pt_cmpR op_eq (pv 3) pe_int (nomark _)) (pss_one (ps_ret (pe_op op_add_str (pe_slice sl_str (pv 1) po_none (po_some (pv 5))) (pe_slice sl_str (pv 1) (po_some (pe_op op_add (pv 5) pe_int)) po_none)))) pss_nil)
      (pss_one (ps_ret (pe_op op_add_str (pe_op op_add_str (pe_slice sl_str (pv 1) po_none (po_some (pv 5))) (pe_call D.okK hr (by rfl) D.gK D.kK D.bK .nil pass0 (pa_cons (pv 0) (pa_cons (pe_lst (pa_cons pe_str (pa_cons pe_str (pa_cons pe_str (pa_cons pe_str (pa_cons pe_str pa_nil)))))) pa_nil)))) (pe_slice sl_str (pv 1) (po_some (pe_op op_add (pv 5) (pe_op op_mod (pv 3) pe_int))) po_none)))))))))))), ?_⟩
    have zz := szs_split t
    have few := split_few (x := t) (sep := "\n") (by decide)
    have each : ∀ z ∈ Txt.split t "\n", z.length ≤ t.length := split_each
    have ne : Txt.split t "\n" ≠ [] := split_ne (by decide)
    have sml := sm.split
    generalize hls : Txt.split t "\n" = ls at *
    have pos : 0 < ls.length := List.length_pos_iff.mpr ne
    refine ⟨fun σ G => ∃ (l : Addr) (fm : Int), σ = [some (.ref b), some (.str t), some (.ref l), some (.int fm), none, none, none] ∧ K2 b gr H G ∧ BoxD G b gr ∧ l ≠ b ∧ l ≠ gr ∧ G l = some (.lst (ls.map V.str)) ∧ 0 ≤ fm ∧ fm < 7, ?_, ?_⟩
    · refine ⟨_, rfl, rfl, _, _, rfl, rfl, rfl, fits (by omega), fun l nl => ?_⟩
      rw [hls]
      have s1 := Same.new nl (o := .lst (ls.map V.str))
      have lb := bx.fresh nl
      refine ⟨_, rfl, b, gr, 7, rfl, bx.same s1, by decide, by decide, fun r G r0 r7 bG kG => ⟨_, _, rfl, l, r, rfl, (K2.of_same s1).trans kG, bG, lb.1, lb.2, kG _ _ lb.1 lb.2 upd_same, r0, r7⟩⟩
    rintro σ G1 ⟨l, fm, rfl, k1, b1, lb, lg, hl1, f0, f7⟩
    refine ⟨fun σ G => ∃ at1 sp : Nat, σ = [some (.ref b), some (.str t), some (.ref l), some (.int fm), some (.int (at1 : Int)), some (.int (sp : Int)), none] ∧ K2 b gr H G ∧ BoxD G b gr ∧ G l = some (.lst (ls.map V.str)) ∧ at1 < ls.length, ?_, ?_⟩
    · refine ⟨_, rfl, _, rfl, l, _, rfl, .inl (SqL.of hl1), b, gr, _, rfl, b1, by rw [List.length_map]; omega, by rw [List.length_map]; omega, fun r G r0 r1 bG kG => ?_⟩
      rw [List.length_map] at r1
      refine ⟨_, rfl, _, rfl, t, rfl, fits (by omega), _, _, rfl, rfl, b, gr, _, rfl, bG, by omega, by omega, fun r' G' r0' r1' bG' kG' => ⟨_, _, rfl, r.toNat, r'.toNat, ?_, (k1.trans kG).trans kG', bG', kG' _ _ lb lg (kG _ _ lb lg hl1), by omega⟩⟩
      rw [Int.toNat_of_nonneg r0, Int.toNat_of_nonneg r0']
      rfl
    clear k1 b1 hl1 G1
    rintro σ G2 ⟨at1, sp, rfl, k2, b2, hl2, atl⟩
    refine ⟨fun σ G => ∃ o, σ = [some (.ref b), some (.str t), some (.ref l), some (.int fm), some (.int (at1 : Int)), some (.int (sp : Int)), some (.ref o)] ∧ K2 b gr H G ∧ BoxD G b gr ∧ G l = some (.lst (ls.map V.str)) ∧ G o = some (.lst (odd9.map V.str)), ?_, ?_⟩
    · refine ⟨(by show 9 ≤ sizeLine; decide), fun o no => ?_⟩
      have s1 := Same.new no (o := .lst (odd9.map V.str))
      exact ⟨o, rfl, k2.trans (K2.of_same s1), b2.same s1, s1 _ _ hl2, upd_same⟩
    clear k2 b2 hl2 G2
    rintro σ G2 ⟨o1, rfl, k2, b2, hl2, ho1⟩
    refine ⟨fun σ G => ∃ o, σ = [some (.ref b), some (.str t), some (.ref l), some (.int fm), some (.int (at1 : Int)), some (.int (sp : Int)), some (.ref o)] ∧ K2 b gr H G ∧ BoxD G b gr ∧ G l = some (.lst (ls.map V.str)) ∧ G o = some (.lst ((odd9 ++ odd5).map V.str)) ∧ o ≠ b ∧ o ≠ gr, ?_, ?_⟩
    · refine ⟨_, rfl, (by show 5 ≤ sizeLine; decide), fun o2 no2 => ?_⟩
      have s1 := Same.new no2 (o := .lst (odd5.map V.str))
      refine ⟨o1, o2, _, _, rfl, rfl, s1 _ _ ho1, upd_same, (by show 9 + 5 ≤ sizeLine; decide), fun o no => ?_⟩
      have s2 := Same.new no (o := .lst (odd9.map V.str ++ odd5.map V.str))
      have b3 := b2.same s1
      have ob := b3.fresh no
      exact ⟨o, rfl, (k2.trans (K2.of_same s1)).trans (K2.of_same s2), b3.same s2, s2 _ _ (s1 _ _ hl2), by rw [upd_same, List.map_append]; rfl, ob.1, ob.2⟩
    clear k2 b2 hl2 ho1 o1 G2
    rintro σ G3 ⟨o, rfl, k3, b3, hl3, ho, ob, og⟩
    have c1 : cutV (ls.map V.str) none (some (at1 : Int)) = (ls.take at1).map V.str := by rw [cut_lo, List.map_take]
    have c2 : cutV (ls.map V.str) (some (at1 : Int)) none = (ls.drop at1).map V.str := by rw [cut_hi, List.map_drop]
    have c3 : cutV (ls.map V.str) (some ((at1 : Int) + 1)) none = (ls.drop (at1 + 1)).map V.str := by
      rw [show (at1 : Int) + 1 = ((at1 + 1 : Nat) : Int) by omega, cut_hi, List.map_drop]
    have z1 := szs_cut ls (Nat.le_refl at1)
    have z2 : szs (ls.take at1) + szs (ls.drop (at1 + 1)) ≤ szs ls := szs_cut ls (Nat.le_succ at1)
    obtain ⟨x0, hx0⟩ : ∃ x0, ls[at1]? = some x0 := ⟨ls[at1], by simp [atl]⟩
    have lx0 := each x0 (List.mem_of_getElem? hx0)
    have ex0 : (ls.drop at1).take 1 = [x0] := by
      rw [List.drop_eq_getElem_cons atl]
      have : ls[at1] = x0 := Option.some.inj ((List.getElem?_eq_getElem atl).symm.trans hx0)
      rw [this]
      rfl
    have c4 : cutV (ls.map V.str) (some (at1 : Int)) (some ((at1 : Int) + 1)) = [V.str x0] := by
      rw [show (at1 : Int) + 1 = ((at1 + 1 : Nat) : Int) by omega, cut_one (by rw [List.length_map]; exact atl), ← List.map_drop, ← List.map_take, ex0]
      rfl
    have t1 : (ls.take at1).length ≤ ls.length := by rw [List.length_take]; omega
    have d1 : (ls.drop at1).length ≤ ls.length := by rw [List.length_drop]; omega
    have d2 : (ls.drop (at1 + 1)).length ≤ ls.length := by rw [List.length_drop]; omega
    refine ⟨fun σ G => σ = [some (.ref b), some (.str t), some (.ref l), some (.int fm), some (.int (at1 : Int)), some (.int (sp : Int)), some (.ref o)] ∧ G = G3, ?_, ?_⟩
    · refine ⟨_, rfl, rfl, _, rfl, ?_⟩
      refine ite2 (fun q => ?_) (fun q => ⟨rfl, rfl⟩)
      refine ⟨rfl, _, rfl, _, rfl, _, rfl, l, _, rfl, SqL.of hl3, fun p1 np1 => ?_⟩
      have s1 := Same.new np1 (o := .lst (cutV (ls.map V.str) none (some (at1 : Int))))
      refine ⟨_, rfl, _, rfl, _, _, rfl, rfl, _, rfl, l, _, rfl, SqL.of (s1 _ _ hl3), fun p2 np2 => ?_⟩
      have s2 := Same.new np2 (o := .lst (cutV (ls.map V.str) (some ((at1 : Int) + 1)) none))
      refine ⟨p1, p2, _, _, rfl, rfl, s2 _ _ upd_same, upd_same, by rw [c1, c3, List.length_map, List.length_map]; exact fits (by omega), fun p np => ?_⟩
      have s4 := (s1.trans s2).trans (Same.new np (o := .lst (cutV (ls.map V.str) none (some (at1 : Int)) ++ cutV (ls.map V.str) (some ((at1 : Int) + 1)) none)))
      have zy := szs_app (ls.take at1) (ls.drop (at1 + 1))
      have jy := szs_join (ls.take at1 ++ ls.drop (at1 + 1))
      refine ⟨_, p, ls.take at1 ++ ls.drop (at1 + 1), rfl, rfl, .inl (SqL.of (by rw [upd_same, c1, c3, List.map_append])), by rw [szs_sum]; omega, k _ _ (by omega) (sm_nl.join fun y hy => by
        rcases List.mem_append.mp hy with hy | hy
        · exact sml y (List.mem_of_mem_take hy)
        · exact sml y (List.mem_of_mem_drop hy)) (k3.trans (K2.of_same s4)) (b3.same s4)⟩
    rintro σ G ⟨rfl, rfl⟩
    refine ⟨fun σ G' => σ = [some (.ref b), some (.str t), some (.ref l), some (.int fm), some (.int (at1 : Int)), some (.int (sp : Int)), some (.ref o)] ∧ G' = G, ?_, ?_⟩
    · refine ⟨_, rfl, rfl, _, rfl, ?_⟩
      refine ite2 (fun q => ?_) (fun q => ⟨rfl, rfl⟩)
      refine ⟨rfl, _, rfl, _, rfl, _, rfl, l, _, rfl, SqL.of hl3, fun p1 np1 => ?_⟩
      have s1 := Same.new np1 (o := .lst (cutV (ls.map V.str) none (some (at1 : Int))))
      have b4 := b3.same s1
      have p1b := b3.fresh np1
      have hp1 : upd G p1 (.lst (cutV (ls.map V.str) none (some (at1 : Int)))) p1 = some (.lst (cutV (ls.map V.str) none (some (at1 : Int)))) := upd_same
      refine ⟨_, rfl, _, rfl, b, gr, o, (odd9 ++ odd5).map V.str, rfl, b4, ob, og, .inl (s1 _ _ ho), (by show 0 < 14; decide), (by show 14 ≤ 1000; decide), fun v G5 hv b5 k5 => ?_⟩
      obtain ⟨z, hz, rfl⟩ := mem_strs hv
      have lz := odd_len z hz
      have hp5 := k5 _ _ p1b.1 p1b.2 hp1
      have hl5 := k5 _ _ lb lg (s1 _ _ hl3)
      refine ⟨(by show 1 ≤ sizeLine; decide), fun p2 np2 => ?_⟩
      have s2 := Same.new np2 (o := .lst [.str z])
      refine ⟨p1, p2, _, _, rfl, rfl, s2 _ _ hp5, upd_same, by rw [c1, List.length_map]; exact fits (by show _ + 1 ≤ 16000000; omega), fun p3 np3 => ?_⟩
      have s3 := Same.new np3 (o := .lst (cutV (ls.map V.str) none (some (at1 : Int)) ++ [.str z]))
      refine ⟨_, rfl, _, rfl, _, rfl, l, _, rfl, SqL.of (s3 _ _ (s2 _ _ hl5)), fun p4 np4 => ?_⟩
      have s4 := Same.new np4 (o := .lst (cutV (ls.map V.str) (some (at1 : Int)) none))
      refine ⟨p3, p4, _, _, rfl, rfl, s4 _ _ upd_same, upd_same, by rw [c1, c2, List.length_append, List.length_map, List.length_map]; exact fits (by show _ + 1 + _ ≤ 16000000; omega), fun p np => ?_⟩
      have s5 := ((s2.trans s3).trans s4).trans (Same.new np (o := .lst ((cutV (ls.map V.str) none (some (at1 : Int)) ++ [.str z]) ++ cutV (ls.map V.str) (some (at1 : Int)) none)))
      have zy := szs_app (ls.take at1 ++ [z]) (ls.drop at1)
      have zx := szs_app (ls.take at1) [z]
      have zo := szs_one z
      have jy := szs_join (ls.take at1 ++ [z] ++ ls.drop at1)
      refine ⟨_, p, ls.take at1 ++ [z] ++ ls.drop at1, rfl, rfl, .inl (SqL.of (by rw [upd_same, c1, c2, List.map_append, List.map_append]; rfl)), by rw [szs_sum]; omega, k _ _ (by omega) (sm_nl.join fun y hy => by
        rcases List.mem_append.mp hy with hy | hy
        · rcases List.mem_append.mp hy with hy | hy
          · exact sml y (List.mem_of_mem_take hy)
          · rw [List.mem_singleton.mp hy]
            exact odd_sm z hz
        · exact sml y (List.mem_of_mem_drop hy)) (((k3.trans (K2.of_same s1)).trans k5).trans (K2.of_same s5)) (b5.same s5)⟩
    rintro σ G ⟨rfl, rfl⟩
    refine ⟨fun σ G' => σ = [some (.ref b), some (.str t), some (.ref l), some (.int fm), some (.int (at1 : Int)), some (.int (sp : Int)), some (.ref o)] ∧ G' = G, ?_, ?_⟩
    · refine ⟨_, rfl, rfl, _, rfl, ?_⟩
      refine ite2 (fun q => ?_) (fun q => ⟨rfl, rfl⟩)
      refine ⟨rfl, _, rfl, _, rfl, _, rfl, l, _, rfl, SqL.of hl3, fun p1 np1 => ?_⟩
      have s1 := Same.new np1 (o := .lst (cutV (ls.map V.str) none (some (at1 : Int))))
      refine ⟨_, rfl, _, rfl, _, rfl, _, rfl, _, _, rfl, rfl, _, rfl, l, _, rfl, SqL.of (s1 _ _ hl3), fun p2 np2 => ?_⟩
      have s2 := Same.new np2 (o := .lst (cutV (ls.map V.str) (some (at1 : Int)) (some ((at1 : Int) + 1))))
      refine ⟨p1, p2, _, _, rfl, rfl, s2 _ _ upd_same, upd_same, by rw [c1, c4, List.length_map]; exact fits (by show _ + 1 ≤ 16000000; omega), fun p3 np3 => ?_⟩
      have s3 := Same.new np3 (o := .lst (cutV (ls.map V.str) none (some (at1 : Int)) ++ cutV (ls.map V.str) (some (at1 : Int)) (some ((at1 : Int) + 1))))
      have s123 := (s1.trans s2).trans s3
      refine ⟨_, rfl, _, rfl, _, rfl, l, _, rfl, SqL.of (s123 _ _ hl3), fun p4 np4 => ?_⟩
      have s4 := Same.new np4 (o := .lst (cutV (ls.map V.str) (some (at1 : Int)) none))
      refine ⟨p3, p4, _, _, rfl, rfl, s4 _ _ upd_same, upd_same, by rw [c1, c2, c4, List.length_append, List.length_map, List.length_map]; exact fits (by show _ + 1 + _ ≤ 16000000; omega), fun p np => ?_⟩
      have s5 := (s123.trans s4).trans (Same.new np (o := .lst ((cutV (ls.map V.str) none (some (at1 : Int)) ++ cutV (ls.map V.str) (some (at1 : Int)) (some ((at1 : Int) + 1))) ++ cutV (ls.map V.str) (some (at1 : Int)) none)))
      have zy := szs_app (ls.take at1 ++ [x0]) (ls.drop at1)
      have zx := szs_app (ls.take at1) [x0]
      have zo := szs_one x0
      have jy := szs_join (ls.take at1 ++ [x0] ++ ls.drop at1)
      refine ⟨_, p, ls.take at1 ++ [x0] ++ ls.drop at1, rfl, rfl, .inl (SqL.of (by rw [upd_same, c1, c2, c4, List.map_append, List.map_append]; rfl)), by rw [szs_sum]; omega, k _ _ (by omega) (sm_nl.join fun y hy => by
        rcases List.mem_append.mp hy with hy | hy
        · rcases List.mem_append.mp hy with hy | hy
          · exact sml y (List.mem_of_mem_take hy)
          · rw [List.mem_singleton.mp hy]
            exact sml x0 (List.mem_of_getElem? hx0)
        · exact sml y (List.mem_of_mem_drop hy)) (k3.trans (K2.of_same s5)) (b3.same s5)⟩
    rintro σ G ⟨rfl, rfl⟩
    have ca : L2.cutS t none (some (sp : Int)) = Txt.slice t none (some (sp : Int)) := C8.cutS_slice _ _ _
    have la : (Txt.slice t none (some (sp : Int))).length = min sp t.length := by
      rw [← TxL.L_len, c_pre, List.length_take, TxL.L_len]
    refine ⟨fun σ G' => σ = [some (.ref b), some (.str t), some (.ref l), some (.int fm), some (.int (at1 : Int)), some (.int (sp : Int)), some (.ref o)] ∧ G' = G, ?_, ?_⟩
    · refine ⟨_, rfl, rfl, _, rfl, ?_⟩
      refine ite2 (fun q => ?_) (fun q => ⟨rfl, rfl⟩)
      have cb : L2.cutS t (some ((sp : Int) + 1)) none = Txt.slice t (some ((sp + 1 : Nat) : Int)) none := by
        rw [show (sp : Int) + 1 = ((sp + 1 : Nat) : Int) by omega]
        exact C8.cutS_slice _ _ _
      have lb2 : (Txt.slice t (some ((sp + 1 : Nat) : Int)) none).length = t.length - (sp + 1) := by
        rw [← TxL.L_len, c_suf, List.length_drop, TxL.L_len]
      refine ⟨_, rfl, _, rfl, _, rfl, t, rfl, fits (by omega), _, rfl, _, rfl, _, _, rfl, rfl, _, rfl, t, rfl, fits (by omega), ?_⟩
      rw [ca, cb]
      exact ⟨_, _, rfl, rfl, fits (by omega), k _ _ (by rw [Str.length_append]; omega) ((sm.pre sp).app (sm.suf (sp + 1))) k3 b3⟩
    rintro σ G ⟨rfl, rfl⟩
    refine ⟨_, rfl, _, rfl, _, rfl, t, rfl, fits (by omega), _, rfl, (by show 5 ≤ sizeLine; decide), fun p1 np1 => ?_⟩
    rw [ca]
    have s1 := Same.new np1 (o := .lst (sign5.map V.str))
    have p1b := b3.fresh np1
    refine ⟨b, gr, p1, sign5.map V.str, rfl, b3.same s1, p1b.1, p1b.2, .inl upd_same, (by show 0 < 5; decide), (by show 5 ≤ 1000; decide), fun v G5 hv b5 k5 => ?_⟩
    obtain ⟨z, hz, rfl⟩ := mem_strs hv
    have lz := sign_len z hz
    refine ⟨_, _, rfl, rfl, fits (by omega), ?_⟩
    refine ⟨_, rfl, _, rfl, _, rfl, _, _, rfl, rfl, (by show (0 : Int) < 2; decide), _, _, rfl, rfl, _, rfl, t, rfl, fits (by omega), ?_⟩
    have e2 : (sp : Int) + fm % 2 = ((sp + (fm % 2).toNat : Nat) : Int) := by omega
    have cb : L2.cutS t (some ((sp : Int) + fm % 2)) none = Txt.slice t (some ((sp + (fm % 2).toNat : Nat) : Int)) none := by
      rw [e2]
      exact C8.cutS_slice _ _ _
    have lb2 : (Txt.slice t (some ((sp + (fm % 2).toNat : Nat) : Int)) none).length = t.length - (sp + (fm % 2).toNat) := by
      rw [← TxL.L_len, c_suf, List.length_drop, TxL.L_len]
    rw [cb]
    exact ⟨_, _, rfl, rfl, fits (by rw [Str.length_append]; omega), k _ _ (by rw [Str.length_append, Str.length_append]; omega) (((sm.pre sp).app (sign_sm z hz)).app (sm.suf _)) ((k3.trans (K2.of_same s1)).trans k5) b5⟩
end
end Lay
set_option Elab.async false
set_option linter.all false
set_option maxRecDepth 100000
set_option maxHeartbeats 4000000
set_option pp.maxSteps 900
namespace Lay
open PySem PySem.Spec PyProof.Rows L2
/-! drawn tools: good, short, of plain signs; repr of a text -/
theorem prs_of {H : Hp} : ∀ {ys : List V}, (∀ y ∈ ys, PairAt H y) → ∃ rs, PrsAt H ys rs ∧ ∀ r ∈ rs, r.ws.length ≤ 10 ∧ r.us.length ≤ 10
  | [], _ => ⟨[], ⟨rfl, fun r h => (List.not_mem_nil h).elim, fun i x r h _ => by cases h⟩, fun r h => (List.not_mem_nil h).elim⟩
  | y :: ys, h => by
    obtain ⟨rs, ⟨h1, h2, h3⟩, h4⟩ := prs_of fun z hz => h z (List.mem_cons_of_mem _ hz)
    obtain ⟨p, t, d, ws, us, rfl, hp, ht, hd, gw, gu, lw, lu, nu⟩ := h y List.mem_cons_self
    refine ⟨⟨ws, us⟩ :: rs, ⟨by rw [List.length_cons, List.length_cons, h1], fun r hr => ?_, fun i x r hx hr => ?_⟩, fun r hr => ?_⟩
    · rcases List.mem_cons.mp hr with rfl | hr
      · refine ⟨⟨fun z hz => ?_, fun z hz => ?_, by show ws.length ≤ 100000; omega, by show us.length ≤ 100000; omega, nu, fun z hz => ?_⟩, fun z hz => ?_, fun z hz => ?_⟩
        · exact of_decide_eq_true (Bool.and_eq_true_iff.mp (Bool.and_eq_true_iff.mp (gw z hz)).2).2
        · exact of_decide_eq_true (Bool.and_eq_true_iff.mp (gu z hz)).2
        · exact (Bool.and_eq_true_iff.mp (Bool.and_eq_true_iff.mp (gw z hz)).2).1
        · exact (Bool.and_eq_true_iff.mp (gw z hz)).1
        · exact (Bool.and_eq_true_iff.mp (gu z hz)).1
      · exact h2 r hr
    · cases i with
      | zero =>
        cases hx
        cases hr
        exact ⟨p, rfl, t, d, hp, ht, hd⟩
      | succ i => exact h3 i x r hx hr
    · rcases List.mem_cons.mp hr with rfl | hr
      · exact ⟨lw, lu⟩
      · exact h4 r hr
theorem PrsAt.good {H : Hp} {ys : List V} {rs : List RD} (h : PrsAt H ys rs) : ∀ r ∈ rs, r.Good := fun r hr => by
  obtain ⟨o, t, d⟩ := h.2.1 r hr
  exact ⟨t, d, List.length_pos_iff.mp o.nu⟩
theorem PrsAt.k2 {b gr : Addr} {G G' : Hp} {ys : List V} {rs : List RD} (x : BoxD G b gr) (k : K2 b gr G G') (h : PrsAt G ys rs) : PrsAt G' ys rs := ⟨h.1, h.2.1, fun i y r h1 h2 => by
  obtain ⟨q, e, t, d, p1, p2, p3⟩ := h.2.2 i y r h1 h2
  exact ⟨q, e, t, d, k _ _ (x.tup_ne p1).1 (x.tup_ne p1).2 p1, k _ _ (x.tup_ne p2).1 (x.tup_ne p2).2 p2, k _ _ (x.tup_ne p3).1 (x.tup_ne p3).2 p3⟩⟩
theorem LawAt.k2 {b gr : Addr} {G G' : Hp} {p : Addr} {rs : List RD} {s : Bool} (x : BoxD G b gr) (k : K2 b gr G G') (h : LawAt G p rs s) : LawAt G' p rs s := by
  obtain ⟨t, xs, h1, h2, h3, h4⟩ := h
  exact ⟨t, xs, k _ _ (x.tup_ne h1).1 (x.tup_ne h1).2 h1, k _ _ (x.tup_ne h2).1 (x.tup_ne h2).2 h2, h3.k2 x k, h4⟩
theorem same_k2 {b gr : Addr} {G0 G G' : Hp} (s : Same G0 G) (k : K2 b gr G G') (nb : G0 b = none) (ng : G0 gr = none) : Same G0 G' := fun a o e => k a o (ne_of_none e nb) (ne_of_none e ng) (s a o e)
theorem text_short {r : RD} (g : r.Good) (lw : r.ws.length ≤ 10) (lu : r.us.length ≤ 10) : (rowText r).length ≤ 600 := by
  have h1 := join_le " then " r.us
  have h2 := join_le " and " r.ws
  have s1 := sum_few (zs := r.us) (n := 20) fun z hz => (wordD (g.d z hz)).len
  have s2 := sum_few (zs := r.ws) (n := 20) fun z hz => (wordT (g.t z hz)).len
  have j1 : (Str.ofString " then ").length = 6 := by decide
  have j2 : (Str.ofString " and ").length = 5 := by decide
  have j3 : (Str.ofString "if ").length = 3 := by decide
  have j4 : (Str.ofString " ").length = 1 := by decide
  have j5 : (Str.ofString "do ").length = 3 := by decide
  have j6 : (Str.ofString "").length = 0 := by decide
  rw [j1] at h1
  rw [j2] at h2
  by_cases e : r.ws = []
  · rw [rowText_none e, Str.length_append, Str.length_append, j5, j6]
    omega
  · rw [rowText_some e, Str.length_append, Str.length_append, Str.length_append, Str.length_append, j3, j4, j5]
    omega
theorem tool_short {rs : List RD} {s : Bool} (g : ∀ r ∈ rs, r.Good) (l : ∀ r ∈ rs, r.ws.length ≤ 10 ∧ r.us.length ≤ 10) (n : rs.length ≤ 8) : (toolText rs s).length ≤ 5000 := by
  unfold toolText
  have h := join_le "\n" (firstS s :: rs.map rowText)
  have j : (Str.ofString "\n").length = 1 := by decide
  have s1 := sum_few (zs := rs.map rowText) (n := 600) fun z hz => by
    obtain ⟨r, hr, rfl⟩ := List.mem_map.mp hz
    exact text_short (g r hr) (l r hr).1 (l r hr).2
  have f1 : (firstS s).length ≤ 10 := by cases s <;> decide
  rw [j, List.map_cons, List.sum_cons, List.length_cons, List.length_map] at h
  rw [List.length_map] at s1
  omega
theorem tool_tb {rs : List RD} {s : Bool} (g : ∀ r ∈ rs, r.Good) (l : ∀ r ∈ rs, r.ws.length ≤ 10 ∧ r.us.length ≤ 10) (n : rs.length ≤ 8) : TB rs s := ⟨by omega, by have := tool_short (s := s) g l n; omega⟩
theorem every_sm : ∀ z ∈ everyL, Sm z := by
  have : ∀ z ∈ everyL, ∀ c ∈ TxL.L z, c < 200 := by decide +kernel
  exact this
theorem deed_sm : ∀ z ∈ deedL, Sm z := by
  have : ∀ z ∈ deedL, ∀ c ∈ TxL.L z, c < 200 := by decide +kernel
  exact this
theorem lit_sm (z : Str) (h : (TxL.L z).all (fun c => decide (c < 200)) = true) : Sm z := fun c hc => of_decide_eq_true (List.all_eq_true.mp h c hc)
theorem row_sm {r : RD} (g : r.Good) : Sm (rowText r) := by
  have h1 : Sm (Txt.join " and " r.ws) := (lit_sm " and " (by decide +kernel)).join fun z hz => every_sm z (progT_iff.mp (g.t z hz))
  have h2 : Sm (Txt.join " then " r.us) := (lit_sm " then " (by decide +kernel)).join fun z hz => deed_sm z (progD_iff.mp (g.d z hz))
  by_cases e : r.ws = []
  · rw [rowText_none e]
    exact (lit_sm _ (by decide +kernel)).app h2
  · rw [rowText_some e]
    exact ((((lit_sm _ (by decide +kernel)).app h1).app (lit_sm _ (by decide +kernel))).app (lit_sm _ (by decide +kernel))).app h2
theorem tool_sm {rs : List RD} {s : Bool} (g : ∀ r ∈ rs, r.Good) : Sm (toolText rs s) := by
  unfold toolText
  refine sm_nl.join fun z hz => ?_
  rcases List.mem_cons.mp hz with rfl | hz
  · cases s
    · exact lit_sm _ (by decide +kernel)
    · exact lit_sm _ (by decide +kernel)
  · obtain ⟨r, hr, rfl⟩ := List.mem_map.mp hz
    exact row_sm (g r hr)
theorem repr_short {z : Str} (h : Sm z) (l : z.length ≤ 100000) : (reprText z).length ≤ sizeLine := by
  have := StrLaws.reprText_len z fun c hc => Nat.lt_trans (h c hc) (by decide)
  exact fits (by omega)
/-- what repr says of a text, a number -/
def reprV : V → Str
  | .str z => reprText z
  | .int i => toString i
  | _ => Str.empty
def ReprOk (v : V) : Prop := (∃ z, v = .str z ∧ (reprText z).length ≤ sizeLine) ∨ ∃ i, v = .int i ∧ i.natAbs.log2 < 1920
section
variable {X : Cx}
theorem call_reprV : CallR X (.builtin "repr") (fun xs H Q => ∃ v, xs = [v] ∧ ReprOk v ∧ Q (.str (reprV v)) H) := by
  intro pins s σ H xs us Q I r h
  obtain ⟨v, rfl, h, q⟩ := h
  rcases h with ⟨z, rfl, hz⟩ | ⟨i, rfl, hi⟩
  · obtain ⟨u, rfl, t, rfl⟩ := vals1 r
    exact PySem.P.repr_of_str ⟨.str _, H, I.tok _, ⟨_, rfl⟩, q⟩ hz
  · obtain ⟨u, rfl, t, rfl⟩ := vals1 r
    exact PySem.P.repr_of_int hi ⟨.str _, H, I.tok _, ⟨_, rfl⟩, q⟩
end
theorem badAt_le : ∀ {ls : List Str} {i n : Nat}, badAt ls i = some n → n ≤ i + ls.length := fun h => by
  obtain ⟨j, l, e, hj, _⟩ := badAt_some h
  have := (List.getElem?_eq_some_iff.mp hj).1
  omega
theorem readT_le {t : Str} {n : Nat} (h : readT t = some n) : n ≤ t.length + 2 := by
  unfold readT at h
  have few := split_few (x := t) (sep := "\n") (by decide)
  cases e : Txt.split t "\n" with
  | nil => rw [e] at h; cases h; omega
  | cons f ls =>
    rw [e] at h few
    have h : (if headB f = true then badAt ls 1 else some 0) = some n := h
    rw [List.length_cons] at few
    by_cases hb : headB f = true
    · rw [if_pos hb] at h
      have := badAt_le h
      omega
    · rw [if_neg hb] at h
      cases h
      omega
theorem nat_log {n : Nat} (h : n < 2 ^ 40) : n.log2 < 1920 := by
  by_cases e : n = 0
  · subst e
    decide
  · have := (Nat.log2_lt e).mpr h
    omega
end Lay
set_option Elab.async false
set_option linter.all false
set_option maxRecDepth 100000
set_option maxHeartbeats 8000000
set_option pp.maxSteps 700
namespace Lay
open PySem PySem.Spec PyProof.Rows L2
abbrev sLaw : Stmt := top 39
def lawN : List Str := ["_law_script", "_law_base", "_law_box", "_law_turn", "_law_told", "_law_text", "_law_again", "_law_bent_here", "_law_wrong_here", "_law_value"]
structure TxtL (mg : Str → Option Value) : Prop where
  range : mg "range" = none
  max : mg "max" = none
  min : mg "min" = none
  len : mg "len" = none
  repr : mg "repr" = none
theorem passF {X : Cx} {σ : L2.St} : PassesAt (L2.CX X.prog X.w) X σ (fun _ _ _ => False) := fun _ _ _ _ _ _ c => by
  obtain ⟨_, _, _, _, _, _, _, _, _, _, _, _, z⟩ := c
  exact z.elim
def spLaw (K : PySem.W.Frag) : Sp := fun vs H Q _ => ∃ (a : Addr) (ns : List Int), vs = [.ref a] ∧ SqL K H a (ns.map V.int) ∧ ns.length ≤ 63 ∧ ∀ H', Q (.bl true) H'
theorem scLaw : FnScope lawN ["_law_script"] (defScope sLaw) := ⟨rfl, rfl, rfl, by decide +kernel, rfl, by decide +kernel, by decide +kernel⟩
section
variable {P : Program} {w : World} {K : PySem.W.Frag} {mg : Str → Option Value} {base : Heap} {C CT : Addr}
theorem ok_law {f fF fT fX fK fO fH fB fW D pR gR : Addr} {fx dF dT dX dK dO dH dB dW : FuncData} {mc : Value} (F : Fun K "law" "law" sLaw f fx) (L : TxtL mg) (T : TlF P w K mg base C CT)
    (ok_feed : FnOk P w K mg base CX0 1 fF dF ["_law_script", "_law_base"] (spFeed K)) (g_feed : mg "_law_feed" = some (.ref fF)) (k_feed : PySem.W.keepIn K (.ref fF) = true) (b_feed : Binds K dF ["_law_script", "_law_base"] [])
    (ok_tool : FnOk P w K mg base CX0 4 fT dT ["_law_box", "_law_most"] spTool) (g_tool : mg "_law_tool" = some (.ref fT)) (k_tool : PySem.W.keepIn K (.ref fT) = true) (b_tool : Binds K dT ["_law_box", "_law_most"] [])
    (ok_take : FnOk P w K mg base CX0 1 fK dK ["_law_box", "_law_wide"] spTake) (g_take : mg "_law_take" = some (.ref fK)) (k_take : PySem.W.keepIn K (.ref fK) = true) (b_take : Binds K dK ["_law_box", "_law_wide"] [])
    (ok_tt : FnOk P w K mg base CX0 2 fX dX ["_law_tool_here"] spToolText) (g_tt : mg "_law_tool_text" = some (.ref fX)) (k_tt : PySem.W.keepIn K (.ref fX) = true) (b_tt : Binds K dX ["_law_tool_here"] [])
    (ok_of : FnOk P w K mg base CX0 5 fO dO ["_law_tool_here"] (spToolOf K C CT)) (g_of : mg "_law_tool_of" = some (.ref fO)) (k_of : PySem.W.keepIn K (.ref fO) = true) (b_of : Binds K dO ["_law_tool_here"] [])
    (ok_heard : FnOk P w K mg base CX0 9 fH dH ["_law_value"] (spHeard K)) (g_heard : mg "_law_heard" = some (.ref fH)) (k_heard : PySem.W.keepIn K (.ref fH) = true) (b_heard : Binds K dH ["_law_value"] [])
    (ok_bent : FnOk P w K mg base CX0 3 fB dB ["_law_box", "_law_text"] (spBentT K)) (g_bent : mg "_law_bent" = some (.ref fB)) (k_bent : PySem.W.keepIn K (.ref fB) = true) (b_bent : Binds K dB ["_law_box", "_law_text"] [])
    (ok_wrong : FnOk P w K mg base CX0 2 fW dW ["_law_text"] spWrong) (g_wrong : mg "_law_wrong" = some (.ref fW)) (k_wrong : PySem.W.keepIn K (.ref fW) = true) (b_wrong : Binds K dW ["_law_text"] [])
    (cr : ClX.CRead K CT mc) (cm : ClX.CMet K CT mc "read" pR gR) (R : FnR P w K mg base (L2.CX P w) 6 gR (spTR K C CT D)) (nstr : PySem.W.kitOne K (.ref CT) (.type "str") = some false) (cT : ClsI K CT) : FnOk P w K mg base CX0 10 f fx ["_law_script"] (spLaw K) := by
  refine F.ok scLaw (fun vs H Q E h => ?_) (fun cdv A outer s H vs Q E hr h => ?_)
  · obtain ⟨a, ns, rfl, _⟩ := h
    rfl
  · obtain ⟨a, ns, rfl, hs, hl, k⟩ := h
    have hr1 := hr.mono (show 1 ≤ 9 by decide)
    have hr2 := hr.mono (show 2 ≤ 9 by decide)
    have hr3 := hr.mono (show 3 ≤ 9 by decide)
    have hr4 := hr.mono (show 4 ≤ 9 by decide)
    have hr5 := hr.mono (show 5 ≤ 9 by decide)
    have hr6 := hr.mono (show 6 ≤ 9 by decide)
    have hr9 := hr
    refine ⟨_, (pss_cons (ps_for PassesOwn.never rfl (pi_range1 (by rfl) L.range (pa_cons (pe_callB (call_max2 rfl) (by rfl) L.max (by decide +kernel) (pa_cons pe_int (pa_cons (pe_callB (call_min2 rfl) (by rfl) L.min (by decide +kernel) (pa_cons pe_int (pa_cons (pe_callB call_len_seq (by rfl) L.len (by decide +kernel) (pa_cons (pv 0) pa_nil)) pa_nil))) pa_nil))) pa_nil)) (pg_name (i := 1) scLaw.nd rfl (.inl rfl))
      (pss_cons (ps_set (i := 2) scLaw.nd rfl (.inl rfl) (pe_call ok_feed hr1 (by rfl) g_feed k_feed b_feed .nil pass0 (pa_cons (pv 0) (pa_cons (pv 1) pa_nil))))
      (C8.pss_cut (ps_for PassesOwn.never rfl (pi_range1 (by rfl) L.range (pa_cons pe_int pa_nil)) (pg_name (i := 3) scLaw.nd rfl (.inl rfl))
        (pss_cons (ps_set (i := 4) scLaw.nd rfl (.inl rfl) (pe_call ok_tool hr4 (by rfl) g_tool k_tool b_tool .nil pass0 (pa_cons (pv 2) (pa_cons pe_int pa_nil))))
        (pss_cons (ps_set (i := 5) scLaw.nd rfl (.inl rfl) (pe_call ok_tt hr2 (by rfl) g_tt k_tt b_tt .nil pass0 (pa_cons (pv 4) pa_nil)))
        (pss_cons (ps_if (PW.pt (pw_or (pt_cmpR op_ne (pe_call ok_heard hr9 (by rfl) g_heard k_heard b_heard .nil pass0 (pa_cons (pv 5) pa_nil)) (pv 5) (nomark _)) (pw_or1 (pt_cmpR (op_neTl T hr9) (pe_cmethS (E := fun _ _ _ _ => False) (pe_glob (v := .ref CT) (by rfl) T.g rfl) cr cm R hr6 (fun σ => passF) (pa_cons (pv 5) pa_nil)) (pe_call ok_of hr5 (by rfl) g_of k_of b_of .nil pass0 (pa_cons (pv 4) pa_nil)) (nomark _))))) (pss_one (ps_ret pe_bl)) pss_nil)
        (pss_one (ps_for PassesOwn.never rfl (pi_range1 (by rfl) L.range (pa_cons pe_int pa_nil)) (pg_name (i := 6) scLaw.nd rfl (.inl rfl))
          (pss_cons (ps_set (i := 7) scLaw.nd rfl (.inl rfl) (pe_call ok_bent hr3 (by rfl) g_bent k_bent b_bent .nil pass0 (pa_cons (pv 2) (pa_cons (pv 5) pa_nil))))
          (C8.pss_cut (ps_set (i := 7) scLaw.nd rfl (.inl rfl) (pe_ifExp (pt_cmpR op_eq (pe_call ok_take hr1 (by rfl) g_take k_take b_take .nil pass0 (pa_cons (pv 2) (pa_cons pe_int pa_nil))) pe_int (nomark _)) (pe_call ok_bent hr3 (by rfl) g_bent k_bent b_bent .nil pass0 (pa_cons (pv 2) (pa_cons (pv 7) pa_nil))) (pv 7)))
          (pss_cons (ps_set (i := 8) scLaw.nd rfl (.inl rfl) (pe_call ok_wrong hr2 (by rfl) g_wrong k_wrong b_wrong .nil pass0 (pa_cons (pv 7) pa_nil)))
          (pss_one (ps_if (pt_cmpR op_ne (pe_callB call_reprV (by rfl) L.repr (by decide +kernel) (pa_cons (pe_call ok_heard hr9 (by rfl) g_heard k_heard b_heard .nil pass0 (pa_cons (pv 7) pa_nil)) pa_nil)) (pe_callB call_reprV (by rfl) L.repr (by decide +kernel) (pa_cons (pe_ifExp (pt_cmpR op_lt (pv 8) pe_int (nomark _)) (pv 7) (pv 8)) pa_nil)) (nomark _)) (pss_one (ps_ret pe_bl)) pss_nil)))))))))))
      (pss_one (ps_if (pt_cmpR (op_neD hr.units) (pe_lc (own := [("_law_value", 9)]) (g := gName 9) (tt := tYes) (by rfl) scLaw.nd (pi_tup (pe_tup (pa_cons pe_non (pa_cons pe_int (pa_cons pe_bl (pa_cons (pe_lst (pa_cons pe_str pa_nil)) (pa_cons (pe_tup (pa_cons pe_str pa_nil)) (pa_cons (pe_mkT0 T rfl hr4 (by rfl)) pa_nil)))))))) (blkOk_by (N := lawN) (sc := defScope sLaw) (by decide +kernel)) (fun _ _ _ _ _ => pg_name (i := 9) scLaw.nd rfl (Or.inl rfl)) (fun _ _ _ _ _ => pts_nil)
        (fun _ _ _ _ _ => pe_call ok_heard hr9 (by rfl) g_heard k_heard b_heard .nil pass0 (pa_cons (pv 9) pa_nil))) (pe_op op_rep (pe_lst (pa_cons pe_int pa_nil)) pe_int) (nomark _)) (pss_one (ps_ret pe_bl)) pss_nil)))))
      (pss_one (ps_ret (pe_and (pe_cmpR op_eq (pe_call ok_heard hr9 (by rfl) g_heard k_heard b_heard .nil pass0 (pa_cons pe_str pa_nil)) pe_int (nomark _)) (pe_and (pe_cmpR op_eq (pe_call ok_heard hr9 (by rfl) g_heard k_heard b_heard .nil pass0 (pa_cons pe_str pa_nil)) pe_int (nomark _)) (pe_one (pe_cmpR op_eq (pe_call ok_heard hr9 (by rfl) g_heard k_heard b_heard .nil pass0 (pa_cons pe_str pa_nil)) pe_int (nomark _)))))))), ?_⟩
    have hmap : (ns.map V.int).length = ns.length := List.length_map ..
    refine ⟨_, rfl, a, _, rfl, .inl hs, _, _, rfl, _, _, rfl, _, rfl, ?_, ?_, for_range (lo := 0) (n := Int.toNat _) (fun i σ G => ∃ x1 x2 x3 x4 x5 x6 x7 x8 x9 : Option V, σ = [some (.ref a), x1, x2, x3, x4, x5, x6, x7, x8, x9] ∧ Same H G)
      ⟨none, none, none, none, none, none, none, none, none, rfl, Same.refl H⟩ ?_ ?_⟩
    · split <;> split <;> omega
    · split <;> split <;> omega
    · rintro i σ G0 hi ⟨x1, x2, x3, x4, x5, x6, x7, x8, x9, rfl, sG⟩
      have hi3 : i ≤ 2 := by
        revert hi
        split <;> split <;> omega
      refine ⟨_, rfl, _, rfl, a, ns, 0 + (i : Int), rfl, sG.seq hs, by omega, by omega, by omega, fun b gr G1 s1 nb ng b1 => ?_⟩
      refine ⟨fun σ G => ∃ x3 x4 x5 x6 x7 x8 x9 : Option V, σ = [some (.ref a), some (.int (0 + (i : Int))), some (.ref b), x3, x4, x5, x6, x7, x8, x9] ∧ Same G0 G ∧ BoxD G b gr, ?_, ?_⟩
      · refine ⟨4, rfl, by decide, by decide, for_range (lo := 0) (n := 4) (fun j σ G => ∃ x3 x4 x5 x6 x7 x8 x9 : Option V, σ = [some (.ref a), some (.int (0 + (i : Int))), some (.ref b), x3, x4, x5, x6, x7, x8, x9] ∧ Same G0 G ∧ BoxD G b gr)
          ⟨_, _, _, _, _, _, _, rfl, s1, b1⟩ ?_ (fun σ G z => z)⟩
        rintro j σ G2 hj ⟨y3, y4, y5, y6, y7, y8, y9, rfl, s2, b2⟩
        refine ⟨_, rfl, b, gr, 8, rfl, b2, by decide, by decide, fun q r0 sb ys G3 k3 b3 hq hr0 ly hy => ?_⟩
        have s3 : Same G0 G3 := same_k2 s2 k3 nb ng
        obtain ⟨rs, hrs, hsm⟩ := prs_of hy
        have gd := hrs.good
        have lr : rs.length ≤ 8 := by rw [← hrs.1]; omega
        have tb : TB rs sb := tool_tb gd hsm lr
        have tl := tool_short (s := sb) gd hsm lr
        have sm := tool_sm (s := sb) gd
        have tt := read_text (s := sb) gd
        have es := split_text (s := sb) gd
        have lw : LawAt G3 q rs sb := ⟨r0, ys, hq, hr0, hrs, tb⟩
        refine ⟨_, rfl, q, rs, sb, rfl, lw, fun G4 s4 => ?_⟩
        have s04 := s3.trans s4
        have b4 := b3.same s4
        have lw4 := lw.same s4
        have tx : toolText (rowsOf (rs.map rowText)) (decide (V.str (firstS sb) = V.str "tool sorts")) = toolText rs sb := tool_text es (first_head sb) fun l hl => by
          obtain ⟨r, hr, rfl⟩ := List.mem_map.mp hl
          exact good_iff.mpr ⟨r, gd r hr, rfl⟩
        generalize ht : toolText rs sb = t at *
        have hv : heardV t = .str t := by
          unfold heardV
          rw [tt]
        clear s3 k3 b3 hq hr0 ly hy lw s2 b2 s1 b1
        refine ⟨_, rfl, .str t, rfl, .inr ⟨t, rfl, by omega, fun G5 s5 => ?_⟩⟩
        rw [hv]
        refine ⟨_, rfl, rfl, _, rfl, iteN (by simp) ?_⟩
        refine ⟨rfl, _, rfl, .str t, rfl, .inr ⟨t, _, _, rfl, by omega, es, .inl ⟨tt, fun p u xs G6 s6 n6 h6 => ?_⟩⟩⟩
        refine ⟨_, rfl, q, rs, sb, rfl, (lw4.same s5).same s6, fun c G7 s7 n7 h7 => ?_⟩
        refine ⟨p, c, _, rs, _, sb, rfl, rfl, (h6.at).same s7, h7, fun G8 s8 => ⟨_, rfl, iteN (by rw [tx, ht]; simp) ?_⟩⟩
        have s58 := ((s5.trans s6).trans s7).trans s8
        have s08 := s04.trans s58
        have b8 := b4.same s58
        clear h6 h7 s5 s6 s7 s8 n6 n7 lw4 s04 b4 s58 s4
        refine ⟨6, rfl, by decide, by decide, for_range (lo := 0) (n := 6) (fun m σ G => ∃ x6 x7 x8 x9 : Option V, σ = [some (.ref a), some (.int (0 + (i : Int))), some (.ref b), some (.int (0 + (j : Int))), some (.ref q), some (.str t), x6, x7, x8, x9] ∧ Same G0 G ∧ BoxD G b gr)
          ⟨_, _, _, _, rfl, s08, b8⟩ ?_ ?_⟩
        · rintro m σ G9 hm ⟨z6, z7, z8, z9, rfl, s9, b9⟩
          refine ⟨_, rfl, _, rfl, b, gr, t, rfl, b9, by omega, sm, fun t2 G10 l2 sm2 k10 b10 => ?_⟩
          have s10 : Same G0 G10 := same_k2 s9 k10 nb ng
          refine ⟨fun σ G => ∃ t3 : Str, t3.length ≤ 60000 ∧ Sm t3 ∧ σ = [some (.ref a), some (.int (0 + (i : Int))), some (.ref b), some (.int (0 + (j : Int))), some (.ref q), some (.str t), some (.int (0 + (m : Int))), some (.str t3), z8, z9] ∧ Same G0 G ∧ BoxD G b gr, ?_, ?_⟩
          · refine ⟨_, rfl, b, gr, 3, rfl, b10, by decide, by decide, fun r G11 r0 r1 b11 k11 => ⟨rfl, _, rfl, ?_⟩⟩
            have s11 : Same G0 G11 := same_k2 s10 k11 nb ng
            refine ite2 (fun _ => ?_) (fun _ => ⟨_, rfl, t2, by omega, sm2, rfl, s11, b11⟩)
            exact ⟨_, rfl, _, rfl, b, gr, t2, rfl, b11, by omega, sm2, fun t3 G12 l3 sm3 k12 b12 => ⟨t3, by omega, sm3, rfl, same_k2 s11 k12 nb ng, b12⟩⟩
          · clear s10 b10 k10 sm2 l2 t2 G10
            rintro σ G10 ⟨t3, l3, sm3, rfl, s10, b10⟩
            refine ⟨_, rfl, t3, rfl, by omega, fun G11 s11 => ?_⟩
            refine ⟨_, rfl, .str t3, rfl, .inr ⟨t3, rfl, by omega, fun G12 s12 => ?_⟩⟩
            have s012 := (s10.trans s11).trans s12
            have b12 := (b10.same s11).same s12
            have rsh := repr_short sm3 (by omega)
            unfold heardV wrongI
            cases er : readT t3 with
            | none =>
              refine ⟨.str t3, rfl, .inl ⟨t3, rfl, rsh⟩, _, rfl, _, _, rfl, rfl, _, rfl, ?_⟩
              exact iteY rfl ⟨_, rfl, .str t3, rfl, .inl ⟨t3, rfl, rsh⟩, rfl, _, rfl, iteN (by simp) ⟨_, _, _, _, rfl, s012, b12⟩⟩
            | some n =>
              have ln := readT_le er
              have lg : (n : Int).natAbs.log2 < 1920 := by
                rw [Int.natAbs_natCast]
                exact nat_log (by omega)
              refine ⟨.int n, rfl, .inr ⟨n, rfl, lg⟩, _, rfl, _, _, rfl, rfl, _, rfl, ?_⟩
              exact iteN (decide_eq_false (by show ¬ (n : Int) < 0; omega)) ⟨_, rfl, .int n, rfl, .inr ⟨n, rfl, lg⟩, rfl, _, rfl, iteN (by simp) ⟨_, _, _, _, rfl, s012, b12⟩⟩
        · rintro σ G9 ⟨z6, z7, z8, z9, rfl, s9, b9⟩
          exact ⟨_, _, _, _, _, _, _, rfl, s9, b9⟩
      · rintro σ G2 ⟨y3, y4, y5, y6, y7, y8, y9, rfl, s2, b2⟩
        refine ⟨(by show 1 ≤ sizeLine; decide), fun l1 n1 => ⟨(by show 1 ≤ sizeLine; decide), fun p1 m1 => fun c u G3 s3 n3 h3 => ⟨(by show 6 ≤ sizeLine; decide), fun p np => ?_⟩⟩⟩
        have u1 := Same.new n1 (o := .lst [.str "tool"])
        have u2 := Same.new m1 (o := .tup [.str "tool"])
        have u3 := Same.new np (o := .tup [.non, .int 0, .bl true, .ref l1, .ref p1, .ref c])
        have e1 := u3 _ _ (s3 _ _ (u2 _ _ (upd_same (H := G2) (a := l1) (o := .lst [.str "tool"]))))
        have e2 := u3 _ _ (s3 _ _ (upd_same (a := p1) (o := .tup [.str "tool"])))
        have e3 := h3.same u3
        have sA := ((s2.trans u1).trans u2).trans (s3.trans u3)
        have e0 : upd G3 p (.tup [.non, .int 0, .bl true, .ref l1, .ref p1, .ref c]) p = some (.tup [.non, .int 0, .bl true, .ref l1, .ref p1, .ref c]) := upd_same
        generalize upd G3 p (.tup [.non, .int 0, .bl true, .ref l1, .ref p1, .ref c]) = G4 at *
        refine ⟨p, rfl, ⟨_, SqT.of e0⟩, fun D1 nD => lc_tup (xs := [.non, .int 0, .bl true, .ref l1, .ref p1, .ref c]) (fun i G => Same G4 G ∧ G D1 = some (.lst ((List.replicate i (0 : Int)).map V.int))) ⟨Same.new nD, upd_same⟩ (fun i G _ q => SqT.of (q.1 _ _ e0)) ?_ ?_⟩
        · rintro n x G hx ⟨sG4, hD⟩
          have ln : n < 6 := (List.getElem?_eq_some_iff.mp hx).1
          have ist : IsT K G x "str" false := by
            have hm := List.mem_of_getElem? hx
            simp only [List.mem_cons, List.not_mem_nil, or_false] at hm
            rcases hm with rfl | rfl | rfl | rfl | rfl | rfl
            · exact ⟨_, .base .non, kit_ty (by decide +kernel)⟩
            · exact ⟨_, .base (.int 0), kit_ty (by decide +kernel)⟩
            · exact ⟨_, .base (.bl true), kit_ty (by decide +kernel)⟩
            · exact ⟨_, .base (.lst (sG4 _ _ e1)), kit_ty (by decide +kernel)⟩
            · exact ⟨_, .base (.tup (sG4 _ _ e2)), kit_ty (by decide +kernel)⟩
            · obtain ⟨dx, hc, _⟩ := e3.same sG4
              exact ⟨_, cT.at hc, nstr⟩
          refine ⟨rfl, _, rfl, x, rfl, .inl ⟨ist, fun G' s' => ⟨_, s' _ _ hD, smallT (by rw [List.length_map, List.length_replicate]; omega), fun z o ez => ?_, ?_⟩⟩⟩
          · rw [upd_ne (ne_of_none ez nD)]
            exact s' _ _ (sG4 _ _ ez)
          · rw [upd_same, List.replicate_succ', List.map_append]
            rfl
        · rintro G ⟨sG4, hD⟩
          have hD : G D1 = some (.lst ((List.replicate 6 (0 : Int)).map V.int)) := hD
          refine ⟨(by show 1 ≤ sizeLine; decide), fun l2 n2 => ?_⟩
          have v1 := Same.new n2 (o := .lst [.int 0])
          refine ⟨l2, 6, _, rfl, rfl, upd_same, by decide, by decide, fits (by decide), fun l3 m3 => ?_⟩
          have v2 := Same.new m3 (o := .lst ((List.replicate 6 (0 : Int)).map V.int))
          have hE := v2 _ _ (v1 _ _ hD)
          have hF : upd (upd G l2 (.lst [.int 0])) l3 (.lst ((List.replicate 6 (0 : Int)).map V.int)) l3 = some (.lst ((List.replicate 6 (0 : Int)).map V.int)) := upd_same
          refine ⟨_, _, ints_dp (SqL.of hE), ints_dp (SqL.of hF), rfl, rfl, _, rfl, iteN rfl ?_⟩
          exact ⟨_, _, _, _, _, _, _, _, _, rfl, sG.trans ((sA.trans sG4).trans (v1.trans v2))⟩
    · rintro σ G0 ⟨x1, x2, x3, x4, x5, x6, x7, x8, x9, rfl, sG⟩
      have r0 : heardV (Str.ofString "") = .int 0 := by
        unfold heardV
        rw [show readT (Str.ofString "") = some 0 from by decide +kernel]
        rfl
      have r1 : heardV (Str.ofString "tool\n") = .int 1 := by
        unfold heardV
        rw [show readT (Str.ofString "tool\n") = some 1 from by decide +kernel]
        rfl
      have r2 : heardV (Str.ofString "tools") = .int 0 := by
        unfold heardV
        rw [show readT (Str.ofString "tools") = some 0 from by decide +kernel]
        rfl
      refine ⟨.str "", rfl, .inr ⟨_, rfl, by decide, fun G1 s1 => ?_⟩⟩
      rw [r0]
      refine ⟨rfl, _, rfl, iteY rfl ?_⟩
      refine ⟨.str "tool\n", rfl, .inr ⟨_, rfl, by decide, fun G2 s2 => ?_⟩⟩
      rw [r1]
      refine ⟨rfl, _, rfl, iteY rfl ?_⟩
      refine ⟨.str "tools", rfl, .inr ⟨_, rfl, by decide, fun G3 s3 => ?_⟩⟩
      rw [r2]
      exact ⟨rfl, k G3⟩
end
end Lay
set_option Elab.async false
set_option linter.all false
set_option maxRecDepth 100000
set_option maxHeartbeats 8000000
namespace Lay
open PySem L2

theorem kit_cls {K : PySem.W.Frag} {C : Addr} {t : Value} {b : Bool} (hd : PySem.W.hasDictIn K C = true) (ty : PySem.W.typeIn K (.ref C) = some (.type "type")) (s : PySem.W.subIn K t (.ref C) = some b) (e : t = .ref C → b = true) : PySem.W.kitOne K t (.ref C) = some b := by
  unfold PySem.W.kitOne
  by_cases h : (t == Value.ref C) = true
  · rw [if_pos h, e (beq_iff_eq.mp h)]
  · rw [if_neg h]
    obtain ⟨cd, hc, _⟩ := PySem.W.any_some hd
    unfold PySem.W.kitCls
    dsimp only
    rw [if_pos (by rw [hc, ty]; rfl)]
    exact s
theorem kit_type {K : PySem.W.Frag} {C : Addr} {n : String} {b : Bool} (hm : PySem.W.kitMeta n = true) (s : PySem.W.subIn K (.ref C) (.type n) = some b) : PySem.W.kitOne K (.ref C) (.type n) = some b := by
  unfold PySem.W.kitOne
  rw [if_neg (fun h => by have q := beq_iff_eq.mp h; cases q)]
  unfold PySem.W.kitCls
  dsimp only
  rw [if_pos hm]
  exact s
theorem np_none {C : Addr} : (PySem.fastBuiltinMro "NoneType").map (·.contains (Value.ref C)) = some false := by
  have e : PySem.fastBuiltinMro "NoneType" = some [.type "NoneType", .type "object"] := by decide +kernel
  rw [e]
  rfl
theorem np_int {C : Addr} : (PySem.fastBuiltinMro "int").map (·.contains (Value.ref C)) = some false := by
  have e : PySem.fastBuiltinMro "int" = some [.type "int", .type "object"] := by decide +kernel
  rw [e]
  rfl
theorem np_bool {C : Addr} : (PySem.fastBuiltinMro "bool").map (·.contains (Value.ref C)) = some false := by
  have e : PySem.fastBuiltinMro "bool" = some [.type "bool", .type "int", .type "object"] := by decide +kernel
  rw [e]
  rfl
theorem np_str {C : Addr} : (PySem.fastBuiltinMro "str").map (·.contains (Value.ref C)) = some false := by
  have e : PySem.fastBuiltinMro "str" = some [.type "str", .type "object"] := by decide +kernel
  rw [e]
  rfl
theorem np_list {C : Addr} : (PySem.fastBuiltinMro "list").map (·.contains (Value.ref C)) = some false := by
  have e : PySem.fastBuiltinMro "list" = some [.type "list", .type "object"] := by decide +kernel
  rw [e]
  rfl
theorem np_tuple {C : Addr} : (PySem.fastBuiltinMro "tuple").map (·.contains (Value.ref C)) = some false := by
  have e : PySem.fastBuiltinMro "tuple" = some [.type "tuple", .type "object"] := by decide +kernel
  rw [e]
  rfl

theorem refs_ok (L : Addr) : PySem.HandSPX.refsVE [.ref L, .type "ValueError", .type "Exception", .type "BaseException", .type "object"] = true := by
  show PySem.HandSPX.refsVE [.type "ValueError", .type "Exception", .type "BaseException", .type "object"] = true
  decide +kernel

theorem binds_row {K : PySem.W.Frag} {f e1 e2 : Addr} {fd : FuncData} (F : FunD K "__init__" "Row.__init__" (defArgs sRowI) (defBody sRowI) (defScope sRowI) [.ref e1, .ref e2] [] f fd) : Binds K fd ["self", "tests", "deeds"] [] := by
  obtain ⟨ds, h1, h2⟩ := F.binds1 (ps := ["self", "tests", "deeds"]) 3 2 (fun z => nomatch z) rfl fun T kV doc pm an cdv ct us its h1 h2 => match us, its, h1, h2 with
    | [_, _, _], [_, _], _, _ => ⟨_, rfl, rfl⟩
  cases h1
  exact h2
theorem binds_tool {K : PySem.W.Frag} {f e1 : Addr} {fd : FuncData} (F : FunD K "__init__" "Tool.__init__" (defArgs sToolI) (defBody sToolI) (defScope sToolI) [.ref e1, .bl false] [] f fd) : Binds K fd ["self", "rows", "sorts"] [] := by
  obtain ⟨ds, h1, h2⟩ := F.binds1 (ps := ["self", "rows", "sorts"]) 3 2 (fun z => nomatch z) rfl fun T kV doc pm an cdv ct us its h1 h2 => match us, its, h1, h2 with
    | [_, _, _], [_, _], _, _ => ⟨_, rfl, rfl⟩
  cases h1
  exact h2
theorem binds_tool1 {K : PySem.W.Frag} {f e1 : Addr} {fd : FuncData} (F : FunD K "__init__" "Tool.__init__" (defArgs sToolI) (defBody sToolI) (defScope sToolI) [.ref e1, .bl false] [] f fd) : ∃ ds, Vals [V.bl false] ds ∧ Binds K fd ["self", "rows", "sorts"] ds :=
  F.binds1 (ps := ["self", "rows", "sorts"]) 2 1 (fun z => nomatch z) rfl fun T kV doc pm an cdv ct us its h1 h2 => match us, its, h1, h2 with
    | [_, _], [_, _], _, _ => ⟨_, rfl, rfl⟩
theorem binds_tool0 {K : PySem.W.Frag} {f e1 : Addr} {fd : FuncData} (F : FunD K "__init__" "Tool.__init__" (defArgs sToolI) (defBody sToolI) (defScope sToolI) [.ref e1, .bl false] [] f fd) : ∃ ds, Vals [V.ref e1, V.bl false] ds ∧ Binds K fd ["self", "rows", "sorts"] ds :=
  F.binds1 (ps := ["self", "rows", "sorts"]) 1 0 (fun z => nomatch z) rfl fun T kV doc pm an cdv ct us its h1 h2 => match us, its, h1, h2 with
    | [_], [_, _], _, _ => ⟨_, rfl, rfl⟩

theorem all_mk {l : PySem.W.OpenLaw} {w : World} {K : PySem.W.Frag} {h : Heap} {mg : Str → Option Value} {fa L C TC eP eQ fR CT TCT eR fT tT tD fsR fsT flT feT IT fXI IR pR gR g_seq g_test g_deed g_areT g_areD g_areR g_rw g_first g_rr g_feed g_take g_pick g_mixed g_tests g_deeds g_usual g_tool g_rt g_tt g_lof g_isl g_wr g_he g_be g_law : Addr} (X : K.In h) (G : h.Ns mainGlobals mg) (hfa : mg "law" = some (.ref fa))
    {od_Ci an_Ci : Option Addr} {sl_Ci : Array (Option Value)} {oc_Ci kV_Ci dc_Ci pm_Ci cd_Ci ct_Ci : Value}
    {oc_TC : Value} {od_TC : Option Addr} {n_TC : Nat} {sl_TC : Array (Option Value)}
    {od_CTi an_CTi : Option Addr} {sl_CTi : Array (Option Value)} {oc_CTi kV_CTi dc_CTi pm_CTi cd_CTi ct_CTi : Value}
    {oc_TCT : Value} {od_TCT : Option Addr} {n_TCT : Nat} {sl_TCT : Array (Option Value)}
    {od_eR : Option Addr} {n_eR : Nat} {sl_eR : Array (Option Value)}
    {od_tT : Option Addr} {n_tT tT0 tT1 tT2 tT3 tT4 tT5 tT6 tT7 tT8 tT9 : Nat} {sl_tT : Array (Option Value)}
    {od_tD : Option Addr} {n_tD tD0 tD1 tD2 tD3 tD4 tD5 tD6 tD7 : Nat} {sl_tD : Array (Option Value)}
    {od_sR an_sR : Option Addr} {sl_sR : Array (Option Value)} {oc_sR kV_sR dc_sR pm_sR cd_sR ct_sR : Value}
    {od_sT an_sT : Option Addr} {sl_sT : Array (Option Value)} {oc_sT kV_sT dc_sT pm_sT cd_sT ct_sT : Value}
    {od_lT an_lT : Option Addr} {sl_lT : Array (Option Value)} {oc_lT kV_lT dc_lT pm_lT cd_lT ct_lT : Value}
    {od_eT an_eT : Option Addr} {sl_eT : Array (Option Value)} {oc_eT kV_eT dc_eT pm_eT cd_eT ct_eT : Value}
    {nm_X qn_X : Str} {N0_X : Addr} {bs_X : List Value} {sn_X : List Str} {sub0_X : List Value} {ab_X : Bool} {col_X : Option Bool} {dd_X : Option Addr} {m0_X m1_X m2_X m3_X m5_X : Option Value}
    {od_X an_X : Option Addr} {sl_X : Array (Option Value)} {oc_X kV_X dc_X pm_X cd_X ct_X : Value}
    {restR : List Value}
    {od_read an_read : Option Addr} {sl_read : Array (Option Value)} {oc_read kV_read dc_read pm_read cd_read ct_read : Value}
    {od_seq an_seq : Option Addr} {sl_seq : Array (Option Value)} {oc_seq kV_seq dc_seq pm_seq cd_seq ct_seq : Value}
    {od_test an_test : Option Addr} {sl_test : Array (Option Value)} {oc_test kV_test dc_test pm_test cd_test ct_test : Value}
    {od_deed an_deed : Option Addr} {sl_deed : Array (Option Value)} {oc_deed kV_deed dc_deed pm_deed cd_deed ct_deed : Value}
    {od_areT an_areT : Option Addr} {sl_areT : Array (Option Value)} {oc_areT kV_areT dc_areT pm_areT cd_areT ct_areT : Value}
    {od_areD an_areD : Option Addr} {sl_areD : Array (Option Value)} {oc_areD kV_areD dc_areD pm_areD cd_areD ct_areD : Value}
    {od_areR an_areR : Option Addr} {sl_areR : Array (Option Value)} {oc_areR kV_areR dc_areR pm_areR cd_areR ct_areR : Value}
    {od_rw an_rw : Option Addr} {sl_rw : Array (Option Value)} {oc_rw kV_rw dc_rw pm_rw cd_rw ct_rw : Value}
    {od_first an_first : Option Addr} {sl_first : Array (Option Value)} {oc_first kV_first dc_first pm_first cd_first ct_first : Value}
    {od_rr an_rr : Option Addr} {sl_rr : Array (Option Value)} {oc_rr kV_rr dc_rr pm_rr cd_rr ct_rr : Value}
    {od_feed an_feed : Option Addr} {sl_feed : Array (Option Value)} {oc_feed kV_feed dc_feed pm_feed cd_feed ct_feed : Value}
    {od_take an_take : Option Addr} {sl_take : Array (Option Value)} {oc_take kV_take dc_take pm_take cd_take ct_take : Value}
    {od_pick an_pick : Option Addr} {sl_pick : Array (Option Value)} {oc_pick kV_pick dc_pick pm_pick cd_pick ct_pick : Value}
    {od_mixed an_mixed : Option Addr} {sl_mixed : Array (Option Value)} {oc_mixed kV_mixed dc_mixed pm_mixed cd_mixed ct_mixed : Value}
    {od_tests an_tests : Option Addr} {sl_tests : Array (Option Value)} {oc_tests kV_tests dc_tests pm_tests cd_tests ct_tests : Value}
    {od_deeds an_deeds : Option Addr} {sl_deeds : Array (Option Value)} {oc_deeds kV_deeds dc_deeds pm_deeds cd_deeds ct_deeds : Value}
    {od_usual an_usual : Option Addr} {sl_usual : Array (Option Value)} {oc_usual kV_usual dc_usual pm_usual cd_usual ct_usual : Value}
    {od_tool an_tool : Option Addr} {sl_tool : Array (Option Value)} {oc_tool kV_tool dc_tool pm_tool cd_tool ct_tool : Value}
    {od_rt an_rt : Option Addr} {sl_rt : Array (Option Value)} {oc_rt kV_rt dc_rt pm_rt cd_rt ct_rt : Value}
    {od_tt an_tt : Option Addr} {sl_tt : Array (Option Value)} {oc_tt kV_tt dc_tt pm_tt cd_tt ct_tt : Value}
    {od_lof an_lof : Option Addr} {sl_lof : Array (Option Value)} {oc_lof kV_lof dc_lof pm_lof cd_lof ct_lof : Value}
    {od_isl an_isl : Option Addr} {sl_isl : Array (Option Value)} {oc_isl kV_isl dc_isl pm_isl cd_isl ct_isl : Value}
    {od_wr an_wr : Option Addr} {sl_wr : Array (Option Value)} {oc_wr kV_wr dc_wr pm_wr cd_wr ct_wr : Value}
    {od_he an_he : Option Addr} {sl_he : Array (Option Value)} {oc_he kV_he dc_he pm_he cd_he ct_he : Value}
    {od_be an_be : Option Addr} {sl_be : Array (Option Value)} {oc_be kV_be dc_be pm_be cd_be ct_be : Value}
    {od_law an_law : Option Addr} {sl_law : Array (Option Value)} {oc_law kV_law dc_law pm_law cd_law ct_law : Value}
    (aL : PySem.W.nsIn K mainGlobals "LayError" = some (some (.ref L)))
    (tL : PySem.W.typeIn K (.ref L) = some (.type "type"))
    (hL : PySem.W.hasDictIn K L = true)
    (hn : PySem.W.specialIn K (.builtin "object.__class__") "__get__" = some (some (.builtin "getset_descriptor.__get__")))
    (ht : PySem.W.takesIn K (.builtin "object.__class__") = some true)
    (aC : PySem.W.nsIn K mainGlobals "Row" = some (some (.ref C)))
    (pgC : PySem.W.plainGet K C Str.empty = true)
    (hdC : PySem.W.hasDictIn K C = true)
    (poC : PySem.W.plainOver K C = true)
    (saC : PySem.W.findIn K (.ref C) "__setattr__" = some (some (.builtin "object.__setattr__")))
    (caC : PySem.W.findIn K (.ref C) "__class__" = some (some (.builtin "object.__class__")))
    (moC : PySem.W.mroIn K C (.type "object") = some true)
    (nlC : PySem.W.subIn K (.ref C) (.type "list") = some false)
    (ntC : PySem.W.subIn K (.ref C) (.type "tuple") = some false)
    (nbC : PySem.W.subIn K (.ref C) (.type "bool") = some false)
    (tyC : PySem.W.typeIn K (.ref C) = some (.type "type"))
    (noC_tests : PySem.W.findIn K (.ref C) "tests" = some none)
    (noC_deeds : PySem.W.findIn K (.ref C) "deeds" = some none)
    (mkC : PySem.W.makesIn K C = true)
    (inC : PySem.W.findIn K (.ref C) "__init__" = some (some (.ref fR)))
    (fiC : PySem.W.isFn K (.ref fR) = true)
    (kpC : PySem.W.keepIn K (.ref C) = true)
    (l_Ci : K.lookup fR = some ⟨oc_Ci, od_Ci, .func (PySem.W.fnOf "__init__" "Row.__init__" (defArgs sRowI) (defBody sRowI) (defScope sRowI) (.ref TC) kV_Ci dc_Ci pm_Ci an_Ci cd_Ci ct_Ci), sl_Ci⟩)
    (c_Ci : PySem.W.codeIn K cd_Ci "Row.__init__" = true)
    (k_Ci : PySem.W.keepIn K (.ref fR) = true)
    (l_TC : K.lookup TC = some ⟨oc_TC, od_TC, .seq [.ref eP, .ref eQ].toArray n_TC, sl_TC⟩)
    (aCT : PySem.W.nsIn K mainGlobals "Tool" = some (some (.ref CT)))
    (pgCT : PySem.W.plainGet K CT Str.empty = true)
    (hdCT : PySem.W.hasDictIn K CT = true)
    (poCT : PySem.W.plainOver K CT = true)
    (saCT : PySem.W.findIn K (.ref CT) "__setattr__" = some (some (.builtin "object.__setattr__")))
    (caCT : PySem.W.findIn K (.ref CT) "__class__" = some (some (.builtin "object.__class__")))
    (moCT : PySem.W.mroIn K CT (.type "object") = some true)
    (nlCT : PySem.W.subIn K (.ref CT) (.type "list") = some false)
    (ntCT : PySem.W.subIn K (.ref CT) (.type "tuple") = some false)
    (nbCT : PySem.W.subIn K (.ref CT) (.type "bool") = some false)
    (tyCT : PySem.W.typeIn K (.ref CT) = some (.type "type"))
    (noCT_rows : PySem.W.findIn K (.ref CT) "rows" = some none)
    (noCT_sorts : PySem.W.findIn K (.ref CT) "sorts" = some none)
    (mkCT : PySem.W.makesIn K CT = true)
    (inCT : PySem.W.findIn K (.ref CT) "__init__" = some (some (.ref fT)))
    (fiCT : PySem.W.isFn K (.ref fT) = true)
    (kpCT : PySem.W.keepIn K (.ref CT) = true)
    (l_CTi : K.lookup fT = some ⟨oc_CTi, od_CTi, .func (PySem.W.fnOf "__init__" "Tool.__init__" (defArgs sToolI) (defBody sToolI) (defScope sToolI) (.ref TCT) kV_CTi dc_CTi pm_CTi an_CTi cd_CTi ct_CTi), sl_CTi⟩)
    (c_CTi : PySem.W.codeIn K cd_CTi "Tool.__init__" = true)
    (k_CTi : PySem.W.keepIn K (.ref fT) = true)
    (l_TCT : K.lookup TCT = some ⟨oc_TCT, od_TCT, .seq [.ref eR, .bool false].toArray n_TCT, sl_TCT⟩)
    (l_eR : K.lookup eR = some ⟨.type "tuple", od_eR, .seq [].toArray n_eR, sl_eR⟩)
    (a_tT : PySem.W.nsIn K mainGlobals "TESTS" = some (some (.ref tT)))
    (l_tT : K.lookup tT = some ⟨.type "tuple", od_tT, .seq [.str "broken" tT0, .str "marked" tT1, .str "left" tT2, .str "ahead" tT3, .str "behind" tT4, .str "blank" tT5, .str "long" tT6, .str "first" tT7, .str "afterbroken" tT8, .str "afterbehind" tT9].toArray n_tT, sl_tT⟩)
    (a_tD : PySem.W.nsIn K mainGlobals "DEEDS" = some (some (.ref tD)))
    (l_tD : K.lookup tD = some ⟨.type "tuple", od_tD, .seq [.str "break" tD0, .str "join" tD1, .str "mark" tD2, .str "unmark" tD3, .str "lift" tD4, .str "lower" tD5, .str "space" tD6, .str "close" tD7].toArray n_tD, sl_tD⟩)
    (s_sR : PySem.W.findIn K (.ref C) "__str__" = some (some (.ref fsR)))
    (f_sR : PySem.W.isFn K (.ref fsR) = true)
    (l_sR : K.lookup fsR = some ⟨oc_sR, od_sR, .func (PySem.W.fnOf "__str__" "Row.__str__" (defArgs sStrRow) (defBody sStrRow) (defScope sStrRow) .none kV_sR dc_sR pm_sR an_sR cd_sR ct_sR), sl_sR⟩)
    (c_sR : PySem.W.codeIn K cd_sR "Row.__str__" = true)
    (k_sR : PySem.W.keepIn K (.ref fsR) = true)
    (s_sT : PySem.W.findIn K (.ref CT) "__str__" = some (some (.ref fsT)))
    (f_sT : PySem.W.isFn K (.ref fsT) = true)
    (l_sT : K.lookup fsT = some ⟨oc_sT, od_sT, .func (PySem.W.fnOf "__str__" "Tool.__str__" (defArgs sStrTool) (defBody sStrTool) (defScope sStrTool) .none kV_sT dc_sT pm_sT an_sT cd_sT ct_sT), sl_sT⟩)
    (c_sT : PySem.W.codeIn K cd_sT "Tool.__str__" = true)
    (k_sT : PySem.W.keepIn K (.ref fsT) = true)
    (s_lT : PySem.W.findIn K (.ref CT) "__len__" = some (some (.ref flT)))
    (f_lT : PySem.W.isFn K (.ref flT) = true)
    (l_lT : K.lookup flT = some ⟨oc_lT, od_lT, .func (PySem.W.fnOf "__len__" "Tool.__len__" (defArgs sLenT) (defBody sLenT) (defScope sLenT) .none kV_lT dc_lT pm_lT an_lT cd_lT ct_lT), sl_lT⟩)
    (c_lT : PySem.W.codeIn K cd_lT "Tool.__len__" = true)
    (k_lT : PySem.W.keepIn K (.ref flT) = true)
    (s_eT : PySem.W.findIn K (.ref CT) "__eq__" = some (some (.ref feT)))
    (f_eT : PySem.W.isFn K (.ref feT) = true)
    (l_eT : K.lookup feT = some ⟨oc_eT, od_eT, .func (PySem.W.fnOf "__eq__" "Tool.__eq__" (defArgs sEqT) (defBody sEqT) (defScope sEqT) .none kV_eT dc_eT pm_eT an_eT cd_eT ct_eT), sl_eT⟩)
    (c_eT : PySem.W.codeIn K cd_eT "Tool.__eq__" = true)
    (k_eT : PySem.W.keepIn K (.ref feT) = true)
    (neT : PySem.W.findIn K (.ref CT) "__ne__" = some (some (.builtin "object.__ne__")))
    (aIT : PySem.W.nsIn K mainGlobals "InvalidTool" = some (some (.ref IT)))
    (tyX : PySem.W.typeIn K (.ref IT) = some (.type "type"))
    (kIT : PySem.W.keepIn K (.ref IT) = true)
    (exX : PySem.W.subIn K (.ref IT) (.type "BaseException") = some true)
    (sLX : PySem.W.subIn K (.ref IT) (.ref L) = some true)
    (sSX : PySem.W.subIn K (.ref IT) (.ref IT) = some true)
    (gaX : PySem.W.findIn K (.ref IT) "__getattribute__" = some (some (.builtin "BaseException.__getattribute__")))
    (ggX : PySem.W.findIn K (.ref IT) "__getattr__" = some none)
    (hdX : PySem.W.hasDictIn K IT = true)
    (caX : PySem.W.findIn K (.ref IT) "__class__" = some (some (.builtin "object.__class__")))
    (moX : PySem.W.mroIn K IT (.type "object") = some true)
    (xLX : K.lookup IT = some (excClassObj nm_X qn_X IT N0_X bs_X [.ref L, .type "ValueError", .type "Exception", .type "BaseException", .type "object"] true sn_X sub0_X ab_X col_X dd_X m0_X m1_X m2_X m3_X m5_X "ValueError.__new__"))
    (saX : PySem.W.findIn K (.ref IT) "__setattr__" = some (some (.builtin "object.__setattr__")))
    (iniX : PySem.W.findIn K (.ref IT) "__init__" = some (some (.ref fXI)))
    (tiX : PySem.W.typeIn K (.ref fXI) = some (.type "function"))
    (noX : PySem.W.findIn K (.ref IT) "at" = some none)
    (l_X : K.lookup fXI = some ⟨oc_X, od_X, .func (PySem.W.fnOf "__init__" "InvalidTool.__init__" (defArgs sIT) (defBody sIT) (defScope sIT) .none kV_X dc_X pm_X an_X cd_X ct_X), sl_X⟩)
    (c_X : PySem.W.codeIn K cd_X "InvalidTool.__init__" = true)
    (k_X : PySem.W.keepIn K (.ref fXI) = true)
    (aIR : PySem.W.nsIn K mainGlobals "InvalidRow" = some (some (.ref IR)))
    (tIR : PySem.W.typeIn K (.ref IR) = some (.type "type"))
    (hIR : PySem.W.hasDictIn K IR = true)
    (sTR : PySem.W.subIn K (.ref IT) (.ref IR) = some false)
    (sTS : PySem.W.subIn K (.ref CT) (.type "str") = some false)
    (r_rd : PySem.W.readsIn K CT (.type "type") = true)
    (r_ga : PySem.W.specialIn K (.ref CT) "__getattribute__" = some (some (.builtin "type.__getattribute__")))
    (r_at : PySem.W.findCls K (.ref CT) (.type "type") "read" = some (.get (.builtin "classmethod.__get__") (.ref pR) .none (.ref CT)))
    (r_rc : PySem.W.recIn K pR "classmethod" = some (.ref gR :: restR))
    (r_fi : PySem.W.fnIn K gR = true)
    (l_read : K.lookup gR = some ⟨oc_read, od_read, .func (PySem.W.fnOf "read" "Tool.read" (defArgs sRead) (defBody sRead) (defScope sRead) .none kV_read dc_read pm_read an_read cd_read ct_read), sl_read⟩)
    (c_read : PySem.W.codeIn K cd_read "Tool.read" = true)
    (k_read : PySem.W.keepIn K (.ref gR) = true)
    (a_seq : PySem.W.nsIn K mainGlobals "is_sequence" = some (some (.ref g_seq)))
    (l_seq : K.lookup g_seq = some ⟨oc_seq, od_seq, .func (PySem.W.fnOf "is_sequence" "is_sequence" (defArgs sSeq) (defBody sSeq) (defScope sSeq) .none kV_seq dc_seq pm_seq an_seq cd_seq ct_seq), sl_seq⟩)
    (c_seq : PySem.W.codeIn K cd_seq "is_sequence" = true)
    (k_seq : PySem.W.keepIn K (.ref g_seq) = true)
    (a_test : PySem.W.nsIn K mainGlobals "is_test" = some (some (.ref g_test)))
    (l_test : K.lookup g_test = some ⟨oc_test, od_test, .func (PySem.W.fnOf "is_test" "is_test" (defArgs sTest) (defBody sTest) (defScope sTest) .none kV_test dc_test pm_test an_test cd_test ct_test), sl_test⟩)
    (c_test : PySem.W.codeIn K cd_test "is_test" = true)
    (k_test : PySem.W.keepIn K (.ref g_test) = true)
    (a_deed : PySem.W.nsIn K mainGlobals "is_deed" = some (some (.ref g_deed)))
    (l_deed : K.lookup g_deed = some ⟨oc_deed, od_deed, .func (PySem.W.fnOf "is_deed" "is_deed" (defArgs sDeed) (defBody sDeed) (defScope sDeed) .none kV_deed dc_deed pm_deed an_deed cd_deed ct_deed), sl_deed⟩)
    (c_deed : PySem.W.codeIn K cd_deed "is_deed" = true)
    (k_deed : PySem.W.keepIn K (.ref g_deed) = true)
    (a_areT : PySem.W.nsIn K mainGlobals "are_tests" = some (some (.ref g_areT)))
    (l_areT : K.lookup g_areT = some ⟨oc_areT, od_areT, .func (PySem.W.fnOf "are_tests" "are_tests" (defArgs sAreT) (defBody sAreT) (defScope sAreT) .none kV_areT dc_areT pm_areT an_areT cd_areT ct_areT), sl_areT⟩)
    (c_areT : PySem.W.codeIn K cd_areT "are_tests" = true)
    (k_areT : PySem.W.keepIn K (.ref g_areT) = true)
    (a_areD : PySem.W.nsIn K mainGlobals "are_deeds" = some (some (.ref g_areD)))
    (l_areD : K.lookup g_areD = some ⟨oc_areD, od_areD, .func (PySem.W.fnOf "are_deeds" "are_deeds" (defArgs sAreD) (defBody sAreD) (defScope sAreD) .none kV_areD dc_areD pm_areD an_areD cd_areD ct_areD), sl_areD⟩)
    (c_areD : PySem.W.codeIn K cd_areD "are_deeds" = true)
    (k_areD : PySem.W.keepIn K (.ref g_areD) = true)
    (a_areR : PySem.W.nsIn K mainGlobals "are_rows" = some (some (.ref g_areR)))
    (l_areR : K.lookup g_areR = some ⟨oc_areR, od_areR, .func (PySem.W.fnOf "are_rows" "are_rows" (defArgs sAreR) (defBody sAreR) (defScope sAreR) .none kV_areR dc_areR pm_areR an_areR cd_areR ct_areR), sl_areR⟩)
    (c_areR : PySem.W.codeIn K cd_areR "are_rows" = true)
    (k_areR : PySem.W.keepIn K (.ref g_areR) = true)
    (a_rw : PySem.W.nsIn K mainGlobals "row_words" = some (some (.ref g_rw)))
    (l_rw : K.lookup g_rw = some ⟨oc_rw, od_rw, .func (PySem.W.fnOf "row_words" "row_words" (defArgs sRW) (defBody sRW) (defScope sRW) .none kV_rw dc_rw pm_rw an_rw cd_rw ct_rw), sl_rw⟩)
    (c_rw : PySem.W.codeIn K cd_rw "row_words" = true)
    (k_rw : PySem.W.keepIn K (.ref g_rw) = true)
    (a_first : PySem.W.nsIn K mainGlobals "first_line" = some (some (.ref g_first)))
    (l_first : K.lookup g_first = some ⟨oc_first, od_first, .func (PySem.W.fnOf "first_line" "first_line" (defArgs sFirst) (defBody sFirst) (defScope sFirst) .none kV_first dc_first pm_first an_first cd_first ct_first), sl_first⟩)
    (c_first : PySem.W.codeIn K cd_first "first_line" = true)
    (k_first : PySem.W.keepIn K (.ref g_first) = true)
    (a_rr : PySem.W.nsIn K mainGlobals "read_row" = some (some (.ref g_rr)))
    (l_rr : K.lookup g_rr = some ⟨oc_rr, od_rr, .func (PySem.W.fnOf "read_row" "read_row" (defArgs sReadRow) (defBody sReadRow) (defScope sReadRow) .none kV_rr dc_rr pm_rr an_rr cd_rr ct_rr), sl_rr⟩)
    (c_rr : PySem.W.codeIn K cd_rr "read_row" = true)
    (k_rr : PySem.W.keepIn K (.ref g_rr) = true)
    (a_feed : PySem.W.nsIn K mainGlobals "_law_feed" = some (some (.ref g_feed)))
    (l_feed : K.lookup g_feed = some ⟨oc_feed, od_feed, .func (PySem.W.fnOf "_law_feed" "_law_feed" (defArgs sFeed) (defBody sFeed) (defScope sFeed) .none kV_feed dc_feed pm_feed an_feed cd_feed ct_feed), sl_feed⟩)
    (c_feed : PySem.W.codeIn K cd_feed "_law_feed" = true)
    (k_feed : PySem.W.keepIn K (.ref g_feed) = true)
    (a_take : PySem.W.nsIn K mainGlobals "_law_take" = some (some (.ref g_take)))
    (l_take : K.lookup g_take = some ⟨oc_take, od_take, .func (PySem.W.fnOf "_law_take" "_law_take" (defArgs sTake) (defBody sTake) (defScope sTake) .none kV_take dc_take pm_take an_take cd_take ct_take), sl_take⟩)
    (c_take : PySem.W.codeIn K cd_take "_law_take" = true)
    (k_take : PySem.W.keepIn K (.ref g_take) = true)
    (a_pick : PySem.W.nsIn K mainGlobals "_law_pick" = some (some (.ref g_pick)))
    (l_pick : K.lookup g_pick = some ⟨oc_pick, od_pick, .func (PySem.W.fnOf "_law_pick" "_law_pick" (defArgs sPick) (defBody sPick) (defScope sPick) .none kV_pick dc_pick pm_pick an_pick cd_pick ct_pick), sl_pick⟩)
    (c_pick : PySem.W.codeIn K cd_pick "_law_pick" = true)
    (k_pick : PySem.W.keepIn K (.ref g_pick) = true)
    (a_mixed : PySem.W.nsIn K mainGlobals "_law_mixed" = some (some (.ref g_mixed)))
    (l_mixed : K.lookup g_mixed = some ⟨oc_mixed, od_mixed, .func (PySem.W.fnOf "_law_mixed" "_law_mixed" (defArgs sMixed) (defBody sMixed) (defScope sMixed) .none kV_mixed dc_mixed pm_mixed an_mixed cd_mixed ct_mixed), sl_mixed⟩)
    (c_mixed : PySem.W.codeIn K cd_mixed "_law_mixed" = true)
    (k_mixed : PySem.W.keepIn K (.ref g_mixed) = true)
    (a_tests : PySem.W.nsIn K mainGlobals "_law_tests" = some (some (.ref g_tests)))
    (l_tests : K.lookup g_tests = some ⟨oc_tests, od_tests, .func (PySem.W.fnOf "_law_tests" "_law_tests" (defArgs sTests) (defBody sTests) (defScope sTests) .none kV_tests dc_tests pm_tests an_tests cd_tests ct_tests), sl_tests⟩)
    (c_tests : PySem.W.codeIn K cd_tests "_law_tests" = true)
    (k_tests : PySem.W.keepIn K (.ref g_tests) = true)
    (a_deeds : PySem.W.nsIn K mainGlobals "_law_deeds" = some (some (.ref g_deeds)))
    (l_deeds : K.lookup g_deeds = some ⟨oc_deeds, od_deeds, .func (PySem.W.fnOf "_law_deeds" "_law_deeds" (defArgs sDeeds) (defBody sDeeds) (defScope sDeeds) .none kV_deeds dc_deeds pm_deeds an_deeds cd_deeds ct_deeds), sl_deeds⟩)
    (c_deeds : PySem.W.codeIn K cd_deeds "_law_deeds" = true)
    (k_deeds : PySem.W.keepIn K (.ref g_deeds) = true)
    (a_usual : PySem.W.nsIn K mainGlobals "_law_usual" = some (some (.ref g_usual)))
    (l_usual : K.lookup g_usual = some ⟨oc_usual, od_usual, .func (PySem.W.fnOf "_law_usual" "_law_usual" (defArgs sUsual) (defBody sUsual) (defScope sUsual) .none kV_usual dc_usual pm_usual an_usual cd_usual ct_usual), sl_usual⟩)
    (c_usual : PySem.W.codeIn K cd_usual "_law_usual" = true)
    (k_usual : PySem.W.keepIn K (.ref g_usual) = true)
    (a_tool : PySem.W.nsIn K mainGlobals "_law_tool" = some (some (.ref g_tool)))
    (l_tool : K.lookup g_tool = some ⟨oc_tool, od_tool, .func (PySem.W.fnOf "_law_tool" "_law_tool" (defArgs sTool) (defBody sTool) (defScope sTool) .none kV_tool dc_tool pm_tool an_tool cd_tool ct_tool), sl_tool⟩)
    (c_tool : PySem.W.codeIn K cd_tool "_law_tool" = true)
    (k_tool : PySem.W.keepIn K (.ref g_tool) = true)
    (a_rt : PySem.W.nsIn K mainGlobals "_law_row_text" = some (some (.ref g_rt)))
    (l_rt : K.lookup g_rt = some ⟨oc_rt, od_rt, .func (PySem.W.fnOf "_law_row_text" "_law_row_text" (defArgs sRowText) (defBody sRowText) (defScope sRowText) .none kV_rt dc_rt pm_rt an_rt cd_rt ct_rt), sl_rt⟩)
    (c_rt : PySem.W.codeIn K cd_rt "_law_row_text" = true)
    (k_rt : PySem.W.keepIn K (.ref g_rt) = true)
    (a_tt : PySem.W.nsIn K mainGlobals "_law_tool_text" = some (some (.ref g_tt)))
    (l_tt : K.lookup g_tt = some ⟨oc_tt, od_tt, .func (PySem.W.fnOf "_law_tool_text" "_law_tool_text" (defArgs sToolText) (defBody sToolText) (defScope sToolText) .none kV_tt dc_tt pm_tt an_tt cd_tt ct_tt), sl_tt⟩)
    (c_tt : PySem.W.codeIn K cd_tt "_law_tool_text" = true)
    (k_tt : PySem.W.keepIn K (.ref g_tt) = true)
    (a_lof : PySem.W.nsIn K mainGlobals "_law_tool_of" = some (some (.ref g_lof)))
    (l_lof : K.lookup g_lof = some ⟨oc_lof, od_lof, .func (PySem.W.fnOf "_law_tool_of" "_law_tool_of" (defArgs sToolOf2) (defBody sToolOf2) (defScope sToolOf2) .none kV_lof dc_lof pm_lof an_lof cd_lof ct_lof), sl_lof⟩)
    (c_lof : PySem.W.codeIn K cd_lof "_law_tool_of" = true)
    (k_lof : PySem.W.keepIn K (.ref g_lof) = true)
    (a_isl : PySem.W.nsIn K mainGlobals "_law_is_line" = some (some (.ref g_isl)))
    (l_isl : K.lookup g_isl = some ⟨oc_isl, od_isl, .func (PySem.W.fnOf "_law_is_line" "_law_is_line" (defArgs sIsLine) (defBody sIsLine) (defScope sIsLine) .none kV_isl dc_isl pm_isl an_isl cd_isl ct_isl), sl_isl⟩)
    (c_isl : PySem.W.codeIn K cd_isl "_law_is_line" = true)
    (k_isl : PySem.W.keepIn K (.ref g_isl) = true)
    (a_wr : PySem.W.nsIn K mainGlobals "_law_wrong" = some (some (.ref g_wr)))
    (l_wr : K.lookup g_wr = some ⟨oc_wr, od_wr, .func (PySem.W.fnOf "_law_wrong" "_law_wrong" (defArgs sWrong) (defBody sWrong) (defScope sWrong) .none kV_wr dc_wr pm_wr an_wr cd_wr ct_wr), sl_wr⟩)
    (c_wr : PySem.W.codeIn K cd_wr "_law_wrong" = true)
    (k_wr : PySem.W.keepIn K (.ref g_wr) = true)
    (a_he : PySem.W.nsIn K mainGlobals "_law_heard" = some (some (.ref g_he)))
    (l_he : K.lookup g_he = some ⟨oc_he, od_he, .func (PySem.W.fnOf "_law_heard" "_law_heard" (defArgs sHeard) (defBody sHeard) (defScope sHeard) .none kV_he dc_he pm_he an_he cd_he ct_he), sl_he⟩)
    (c_he : PySem.W.codeIn K cd_he "_law_heard" = true)
    (k_he : PySem.W.keepIn K (.ref g_he) = true)
    (a_be : PySem.W.nsIn K mainGlobals "_law_bent" = some (some (.ref g_be)))
    (l_be : K.lookup g_be = some ⟨oc_be, od_be, .func (PySem.W.fnOf "_law_bent" "_law_bent" (defArgs sBent) (defBody sBent) (defScope sBent) .none kV_be dc_be pm_be an_be cd_be ct_be), sl_be⟩)
    (c_be : PySem.W.codeIn K cd_be "_law_bent" = true)
    (k_be : PySem.W.keepIn K (.ref g_be) = true)
    (a_law : PySem.W.nsIn K mainGlobals "law" = some (some (.ref g_law)))
    (l_law : K.lookup g_law = some ⟨oc_law, od_law, .func (PySem.W.fnOf "law" "law" (defArgs sLaw) (defBody sLaw) (defScope sLaw) .none kV_law dc_law pm_law an_law cd_law ct_law), sl_law⟩)
    (c_law : PySem.W.codeIn K cd_law "law" = true)
    (k_law : PySem.W.keepIn K (.ref g_law) = true)
    (z_int : PySem.W.nsIn K mainGlobals "int" = some none)
    (z_str : PySem.W.nsIn K mainGlobals "str" = some none)
    (z_list : PySem.W.nsIn K mainGlobals "list" = some none)
    (z_tuple : PySem.W.nsIn K mainGlobals "tuple" = some none)
    (z_isinstance : PySem.W.nsIn K mainGlobals "isinstance" = some none)
    (z_len : PySem.W.nsIn K mainGlobals "len" = some none)
    (z_all : PySem.W.nsIn K mainGlobals "all" = some none)
    (z_abs : PySem.W.nsIn K mainGlobals "abs" = some none)
    (z_range : PySem.W.nsIn K mainGlobals "range" = some none)
    (z_max : PySem.W.nsIn K mainGlobals "max" = some none)
    (z_min : PySem.W.nsIn K mainGlobals "min" = some none)
    (z_bool : PySem.W.nsIn K mainGlobals "bool" = some none)
    (z_repr : PySem.W.nsIn K mainGlobals "repr" = some none)
    (z_enumerate : PySem.W.nsIn K mainGlobals "enumerate" = some none)
    : ∃ fd : FuncData, (∀ (s : Shared) (v : Value), BindsTo s fd ⟨[v], []⟩ [("_law_script", v)]) ∧ ∀ base : Heap, K.In base → base.Ns mainGlobals mg → FnOk l.prog w K mg base CX0 10 fa fd ["_law_script"] (spLaw K) := by
  have e := hfa.symm.trans (PySem.W.mg_of X G a_law)
  cases e
  have M : ∀ {x : Str} {a : Addr}, PySem.W.nsIn K mainGlobals x = some (some (.ref a)) → mg x = some (.ref a) := fun h => PySem.W.mg_of X G h
  have N : ∀ {x : Str}, PySem.W.nsIn K mainGlobals x = some none → mg x = none := fun h => PySem.W.mg_none_of X G h
  have F_seq := fun_mk (st := sSeq) l_seq c_seq k_seq
  have b_seq := F_seq.binds (ps := ["value"]) fun _ _ _ _ _ _ us hl => match us, hl with | [_], _ => rfl
  have F_test := fun_mk (st := sTest) l_test c_test k_test
  have b_test := F_test.binds (ps := ["value"]) fun _ _ _ _ _ _ us hl => match us, hl with | [_], _ => rfl
  have F_deed := fun_mk (st := sDeed) l_deed c_deed k_deed
  have b_deed := F_deed.binds (ps := ["value"]) fun _ _ _ _ _ _ us hl => match us, hl with | [_], _ => rfl
  have F_areT := fun_mk (st := sAreT) l_areT c_areT k_areT
  have b_areT := F_areT.binds (ps := ["value"]) fun _ _ _ _ _ _ us hl => match us, hl with | [_], _ => rfl
  have F_areD := fun_mk (st := sAreD) l_areD c_areD k_areD
  have b_areD := F_areD.binds (ps := ["value"]) fun _ _ _ _ _ _ us hl => match us, hl with | [_], _ => rfl
  have F_areR := fun_mk (st := sAreR) l_areR c_areR k_areR
  have b_areR := F_areR.binds (ps := ["value"]) fun _ _ _ _ _ _ us hl => match us, hl with | [_], _ => rfl
  have F_rw := fun_mk (st := sRW) l_rw c_rw k_rw
  have b_rw := F_rw.binds (ps := ["row"]) fun _ _ _ _ _ _ us hl => match us, hl with | [_], _ => rfl
  have F_first := fun_mk (st := sFirst) l_first c_first k_first
  have b_first := F_first.binds (ps := ["tool"]) fun _ _ _ _ _ _ us hl => match us, hl with | [_], _ => rfl
  have F_rr := fun_mk (st := sReadRow) l_rr c_rr k_rr
  have b_rr := F_rr.binds (ps := ["line", "at"]) fun _ _ _ _ _ _ us hl => match us, hl with | [_, _], _ => rfl
  have F_feed := fun_mk (st := sFeed) l_feed c_feed k_feed
  have b_feed := F_feed.binds (ps := ["_law_script", "_law_base"]) fun _ _ _ _ _ _ us hl => match us, hl with | [_, _], _ => rfl
  have F_take := fun_mk (st := sTake) l_take c_take k_take
  have b_take := F_take.binds (ps := ["_law_box", "_law_wide"]) fun _ _ _ _ _ _ us hl => match us, hl with | [_, _], _ => rfl
  have F_pick := fun_mk (st := sPick) l_pick c_pick k_pick
  have b_pick := F_pick.binds (ps := ["_law_box", "_law_some"]) fun _ _ _ _ _ _ us hl => match us, hl with | [_, _], _ => rfl
  have F_mixed := fun_mk (st := sMixed) l_mixed c_mixed k_mixed
  have b_mixed := F_mixed.binds (ps := ["_law_box", "_law_some"]) fun _ _ _ _ _ _ us hl => match us, hl with | [_, _], _ => rfl
  have F_tests := fun_mk (st := sTests) l_tests c_tests k_tests
  have b_tests := F_tests.binds (ps := ["_law_box", "_law_most"]) fun _ _ _ _ _ _ us hl => match us, hl with | [_, _], _ => rfl
  have F_deeds := fun_mk (st := sDeeds) l_deeds c_deeds k_deeds
  have b_deeds := F_deeds.binds (ps := ["_law_box", "_law_most"]) fun _ _ _ _ _ _ us hl => match us, hl with | [_, _], _ => rfl
  have F_usual := fun_mk (st := sUsual) l_usual c_usual k_usual
  have b_usual := F_usual.binds (ps := ["_law_box"]) fun _ _ _ _ _ _ us hl => match us, hl with | [_], _ => rfl
  have F_tool := fun_mk (st := sTool) l_tool c_tool k_tool
  have b_tool := F_tool.binds (ps := ["_law_box", "_law_most"]) fun _ _ _ _ _ _ us hl => match us, hl with | [_, _], _ => rfl
  have F_rt := fun_mk (st := sRowText) l_rt c_rt k_rt
  have b_rt := F_rt.binds (ps := ["_law_row"]) fun _ _ _ _ _ _ us hl => match us, hl with | [_], _ => rfl
  have F_tt := fun_mk (st := sToolText) l_tt c_tt k_tt
  have b_tt := F_tt.binds (ps := ["_law_tool_here"]) fun _ _ _ _ _ _ us hl => match us, hl with | [_], _ => rfl
  have F_lof := fun_mk (st := sToolOf2) l_lof c_lof k_lof
  have b_lof := F_lof.binds (ps := ["_law_tool_here"]) fun _ _ _ _ _ _ us hl => match us, hl with | [_], _ => rfl
  have F_isl := fun_mk (st := sIsLine) l_isl c_isl k_isl
  have b_isl := F_isl.binds (ps := ["_law_line"]) fun _ _ _ _ _ _ us hl => match us, hl with | [_], _ => rfl
  have F_wr := fun_mk (st := sWrong) l_wr c_wr k_wr
  have b_wr := F_wr.binds (ps := ["_law_text"]) fun _ _ _ _ _ _ us hl => match us, hl with | [_], _ => rfl
  have F_he := fun_mk (st := sHeard) l_he c_he k_he
  have b_he := F_he.binds (ps := ["_law_value"]) fun _ _ _ _ _ _ us hl => match us, hl with | [_], _ => rfl
  have F_be := fun_mk (st := sBent) l_be c_be k_be
  have b_be := F_be.binds (ps := ["_law_box", "_law_text"]) fun _ _ _ _ _ _ us hl => match us, hl with | [_, _], _ => rfl
  have F_law := fun_mk (st := sLaw) l_law c_law k_law
  have b_law := F_law.binds (ps := ["_law_script"]) fun _ _ _ _ _ _ us hl => match us, hl with | [_], _ => rfl
  have isCX : ExcC K IT := ⟨gaX, ggX, exX, hdX, caX, hn, ht, moX⟩
  have XX : XC K mg IT fXI "InvalidTool" "at" := ⟨⟨⟨_, _, _, _, _, _, _, _, _, _, _, _, _, _, _, xLX, refs_ok L⟩, saX, exX, tyX, kIT⟩, iniX, tiX, M aIT, noX, isCX, ⟨gaX, ggX, exX, hdX⟩⟩
  have F_X := fun_mk (st := sIT) l_X c_X k_X
  have b_X := F_X.binds (ps := ["self", "at"]) fun _ _ _ _ _ _ us hl => match us, hl with | [_, _], _ => rfl
  have FR : FunD K "__init__" "Row.__init__" (defArgs sRowI) (defBody sRowI) (defScope sRowI) [.ref eP, .ref eQ] [] fR _ :=
    ⟨⟨_, _, _, _, _, _, _, _, _, _, rfl, l_Ci, c_Ci, .inr ⟨(fun z => nomatch z), TC, _, _, _, rfl, l_TC, rfl, .cons rfl (.cons rfl .nil)⟩, .inl rfl⟩, k_Ci⟩
  have FT : FunD K "__init__" "Tool.__init__" (defArgs sToolI) (defBody sToolI) (defScope sToolI) [.ref eR, .bl false] [] fT _ :=
    ⟨⟨_, _, _, _, _, _, _, _, _, _, rfl, l_CTi, c_CTi, .inr ⟨(fun z => nomatch z), TCT, _, _, _, rfl, l_TCT, rfl, .cons rfl (.cons rfl .nil)⟩, .inl rfl⟩, k_CTi⟩
  have F_sR := fun_mk (st := sStrRow) l_sR c_sR k_sR
  have b_sR := F_sR.binds (ps := ["self"]) fun _ _ _ _ _ _ us hl => match us, hl with | [_], _ => rfl
  have F_sT := fun_mk (st := sStrTool) l_sT c_sT k_sT
  have b_sT := F_sT.binds (ps := ["self"]) fun _ _ _ _ _ _ us hl => match us, hl with | [_], _ => rfl
  have F_lT := fun_mk (st := sLenT) l_lT c_lT k_lT
  have b_lT := F_lT.binds (ps := ["self"]) fun _ _ _ _ _ _ us hl => match us, hl with | [_], _ => rfl
  have F_eT := fun_mk (st := sEqT) l_eT c_eT k_eT
  have b_eT := F_eT.binds (ps := ["self", "other"]) fun _ _ _ _ _ _ us hl => match us, hl with | [_, _], _ => rfl
  have D : TxtD mg := ⟨N z_int, N z_len, N z_abs, N z_range⟩
  have T : TxtK mg := ⟨N z_str, N z_list, N z_tuple, N z_isinstance, N z_len, N z_all⟩
  have c : ClsI K C := ⟨⟨pgC, hdC, poC, saC⟩, caC, hn, ht, moC⟩
  have ct : ClsI K CT := ⟨⟨pgCT, hdCT, poCT, saCT⟩, caCT, hn, ht, moCT⟩
  have mkR : Mk K C fR := ⟨mkC, inC, fiC, kpC⟩
  have bR := binds_row FR
  have mkT : Mk K CT fT := ⟨mkCT, inCT, fiCT, kpCT⟩
  have bT := binds_tool FT
  have bT1 := binds_tool1 FT
  have bT0 := binds_tool0 FT
  have emp : ∀ H : Hp, TupG K H eR [] := fun H => .inr ⟨_, _, _, l_eR, rfl, rfl, (by show 0 ≤ sizeLine; exact Nat.zero_le _), .nil⟩
  have hTests : ∀ H : Hp, SqT K H tT (testL.map V.str) := fun H => .inr ⟨_, _, _, l_tT, rfl, rfl, (by show 10 ≤ sizeLine; decide), (.cons ⟨_, rfl⟩ (.cons ⟨_, rfl⟩ (.cons ⟨_, rfl⟩ (.cons ⟨_, rfl⟩ (.cons ⟨_, rfl⟩ (.cons ⟨_, rfl⟩ (.cons ⟨_, rfl⟩ (.cons ⟨_, rfl⟩ (.cons ⟨_, rfl⟩ (.cons ⟨_, rfl⟩ .nil))))))))))⟩
  have hDeeds : ∀ H : Hp, SqT K H tD (deedL.map V.str) := fun H => .inr ⟨_, _, _, l_tD, rfl, rfl, (by show 8 ≤ sizeLine; decide), (.cons ⟨_, rfl⟩ (.cons ⟨_, rfl⟩ (.cons ⟨_, rfl⟩ (.cons ⟨_, rfl⟩ (.cons ⟨_, rfl⟩ (.cons ⟨_, rfl⟩ (.cons ⟨_, rfl⟩ (.cons ⟨_, rfl⟩ .nil))))))))⟩
  refine ⟨PySem.W.fnOf "law" "law" (defArgs sLaw) (defBody sLaw) (defScope sLaw) .none kV_law dc_law pm_law an_law cd_law ct_law, fun s v => .of_eq rfl, fun base _ _ => ?_⟩
  have okSeq : FnOk l.prog w K mg base CX0 1 g_seq _ ["value"] (spSeq K) := ok_seq F_seq T
  have okTest : FnOk l.prog w K mg base CX0 1 g_test _ ["value"] (spOne progT K) := ok_test F_test T (M a_tT) hTests
  have okDeed : FnOk l.prog w K mg base CX0 1 g_deed _ ["value"] (spOne progD K) := ok_deed F_deed T (M a_tD) hDeeds
  have okAT := ok_areT F_areT T okSeq (M a_seq) k_seq b_seq okTest (M a_test) k_test b_test
  have okAD := ok_areD F_areD T okSeq (M a_seq) k_seq b_seq okDeed (M a_deed) k_deed b_deed
  have RC : RowC K C := ⟨c.cl, noC_tests, noC_deeds⟩
  have okRG := ok_rowG FR T RC okAT (M a_areT) k_areT b_areT okAD (M a_areD) k_areD b_areD
  have okAR := ok_areR (C := C) F_areR T okSeq (M a_seq) k_seq b_seq (M aC)
  have TCc : ToolC K CT := ⟨ct.cl, noCT_rows, noCT_sorts⟩
  have okTG := ok_toolG FT T (N z_bool) TCc okAR (M a_areR) k_areR b_areR
  have okRW := ok_rowWords (P := l.prog) (w := w) (base := base) F_rw (N z_len) RC
  have okSR := ok_strRow F_sR okRW (M a_rw) k_rw b_rw
  have okFi := ok_first (P := l.prog) (w := w) (mg := mg) (base := base) (C := C) F_first TCc
  have okST := ok_strTool F_sT TCc (N z_str) okFi (M a_first) k_first b_first okSR s_sR f_sR b_sR
  have okLT := ok_lenT (P := l.prog) (w := w) (base := base) (C := C) F_lT (N z_len) TCc
  have okET := ok_eqT F_eT T ct (M aCT) okST s_sT f_sT b_sT
  have TF : TlF l.prog w K mg base C CT := ⟨c, TCc, M aCT, ⟨_, _, okST, s_sT, f_sT, b_sT⟩, ⟨_, _, okLT, s_lT, f_lT, b_lT⟩, ⟨_, _, okET, s_eT, f_eT, b_eT⟩, neT, moCT, ⟨_, _, mkT, okTG, bT, bT1, _, by
    obtain ⟨ds, h1, h2⟩ := bT0
    exact ⟨ds, h1, h2, emp⟩⟩⟩
  have F_read := fun_mk (st := sRead) l_read c_read k_read
  have b_read := F_read.binds (ps := ["cls", "text"]) fun _ _ _ _ _ _ us hl => match us, hl with | [_, _], _ => rfl
  have okXI := ok_iT (P := l.prog) (w := w) (mg := mg) (base := base) (C := IT) F_X
  have okRR := ok_readRow F_rr T okAT (M a_areT) k_areT b_areT okAD (M a_areD) k_areD b_areD XX okXI b_X mkR okRG (M aC) bR okSR s_sR f_sR b_sR
  have okRd := ok_read F_read T (N z_enumerate) c XX okXI b_X okRR (M a_rr) k_rr b_rr mkT okTG bT
  have rdR : FnR l.prog w K mg base (L2.CX l.prog w) 6 gR (spTR K C CT IT) := (okRd.raw b_read .nil).imp (fun vs H Q E h => by rw [List.append_nil]; exact h)
  have Kn : KinT K mg IT L IR := ⟨M aL, M aIR, kit_cls hL tL sLX (fun _ => rfl), kit_cls hIR tIR sTR (fun z => by
    injection z with z
    rw [← z, sSX] at sTR
    cases sTR), PySem.W.exm_ref exX hdX tyX sSX⟩
  have okTake : FnOk l.prog w K mg base CX0 1 g_take _ ["_law_box", "_law_wide"] spTake := ok_take F_take D
  have okPick := ok_pick F_pick D okTake (M a_take) k_take b_take
  have DR : Draws l.prog w K mg base g_take g_pick _ _ := ⟨N z_range, N z_tuple, okTake, M a_take, k_take, b_take, okPick, M a_pick, k_pick, b_pick⟩
  have okMixed := ok_mixed F_mixed DR (N z_list) (N z_len)
  have okUsual := ok_usual F_usual DR okMixed (M a_mixed) k_mixed b_mixed
  have okTool := ok_tool F_tool DR (N z_len) okUsual (M a_usual) k_usual b_usual (ok_tests F_tests DR) (M a_tests) k_tests b_tests (ok_deeds F_deeds DR) (M a_deeds) k_deeds b_deeds
  have okRT := ok_rowText (P := l.prog) (w := w) (mg := mg) (base := base) F_rt
  have okTT := ok_toolText F_tt okRT (M a_rt) k_rt b_rt
  have okOf := ok_toolOf F_lof c mkR okRG (M aC) bR mkT okTG (M aCT) bT
  have okIL := ok_isLine (P := l.prog) (w := w) (base := base) F_isl T
  have okWr := ok_wrong F_wr T (N z_range) okIL (M a_isl) k_isl b_isl
  have okHe := ok_heard F_he T TF XX Kn ⟨r_rd, r_ga⟩ ⟨r_at, ⟨_, r_rc⟩, r_fi⟩ rdR
  have okBe := ok_bent F_be DR (N z_len)
  exact ok_law F_law ⟨N z_range, N z_max, N z_min, N z_len, N z_repr⟩ TF (ok_feed F_feed D) (M a_feed) k_feed b_feed okTool (M a_tool) k_tool b_tool okTake (M a_take) k_take b_take okTT (M a_tt) k_tt b_tt okOf (M a_lof) k_lof b_lof okHe (M a_he) k_he b_he okBe (M a_be) k_be b_be okWr (M a_wr) k_wr b_wr ⟨r_rd, r_ga⟩ ⟨r_at, ⟨_, r_rc⟩, r_fi⟩ rdR (kit_type (by decide +kernel) sTS) ct
end Lay
open PySem PySem.W PyProof.Rows
set_option Elab.async false
set_option maxRecDepth 100000 in
set_option maxHeartbeats 0 in
theorem PySem.Challenge.cw_laytwice_k15_texts_of_tools_holds : PySem.Challenge.rw_laytwice_k15_texts_of_tools.Holds := by
  w_on; o_law; k_head; (case hw => w_witness2)
  k_fill
  refine L2.walk_of (l := PySem.Challenge.rw_laytwice_k15_texts_of_tools) (n := 63) (k := 10) (x := "_law_script") (CX := fun _ => L2.CX0) (sp := fun w => Lay.spLaw _) rfl (by decide) rfl ⟨rfl, by decide, by decide⟩ (fun w h Y => PySem.W.kIn_of Y) ?F (fun _ _ a ns hl _ hS => ⟨a, ns, rfl, hS, hl, fun _ => rfl⟩) (fun _ _ _ _ _ z => z.elim)
  case F =>
    intro w mg fa h KX G hmg
    refine' Lay.all_mk KX G hmg ?aL ?tL ?hL ?hn ?ht ?aC ?pgC ?hdC ?poC ?saC ?caC ?moC ?nlC ?ntC ?nbC ?tyC ?noC_tests ?noC_deeds ?mkC ?inC ?fiC ?kpC ?l_Ci ?c_Ci ?k_Ci ?l_TC ?aCT ?pgCT ?hdCT ?poCT ?saCT ?caCT ?moCT ?nlCT ?ntCT ?nbCT ?tyCT ?noCT_rows ?noCT_sorts ?mkCT ?inCT ?fiCT ?kpCT ?l_CTi ?c_CTi ?k_CTi ?l_TCT ?l_eR ?a_tT ?l_tT ?a_tD ?l_tD ?s_sR ?f_sR ?l_sR ?c_sR ?k_sR ?s_sT ?f_sT ?l_sT ?c_sT ?k_sT ?s_lT ?f_lT ?l_lT ?c_lT ?k_lT ?s_eT ?f_eT ?l_eT ?c_eT ?k_eT ?neT ?aIT ?tyX ?kIT ?exX ?sLX ?sSX ?gaX ?ggX ?hdX ?caX ?moX ?xLX ?saX ?iniX ?tiX ?noX ?l_X ?c_X ?k_X ?aIR ?tIR ?hIR ?sTR ?sTS ?r_rd ?r_ga ?r_at ?r_rc ?r_fi ?l_read ?c_read ?k_read ?a_seq ?l_seq ?c_seq ?k_seq ?a_test ?l_test ?c_test ?k_test ?a_deed ?l_deed ?c_deed ?k_deed ?a_areT ?l_areT ?c_areT ?k_areT ?a_areD ?l_areD ?c_areD ?k_areD ?a_areR ?l_areR ?c_areR ?k_areR ?a_rw ?l_rw ?c_rw ?k_rw ?a_first ?l_first ?c_first ?k_first ?a_rr ?l_rr ?c_rr ?k_rr ?a_feed ?l_feed ?c_feed ?k_feed ?a_take ?l_take ?c_take ?k_take ?a_pick ?l_pick ?c_pick ?k_pick ?a_mixed ?l_mixed ?c_mixed ?k_mixed ?a_tests ?l_tests ?c_tests ?k_tests ?a_deeds ?l_deeds ?c_deeds ?k_deeds ?a_usual ?l_usual ?c_usual ?k_usual ?a_tool ?l_tool ?c_tool ?k_tool ?a_rt ?l_rt ?c_rt ?k_rt ?a_tt ?l_tt ?c_tt ?k_tt ?a_lof ?l_lof ?c_lof ?k_lof ?a_isl ?l_isl ?c_isl ?k_isl ?a_wr ?l_wr ?c_wr ?k_wr ?a_he ?l_he ?c_he ?k_he ?a_be ?l_be ?c_be ?k_be ?a_law ?l_law ?c_law ?k_law ?z_int ?z_str ?z_list ?z_tuple ?z_isinstance ?z_len ?z_all ?z_abs ?z_range ?z_max ?z_min ?z_bool ?z_repr ?z_enumerate
    (case aL => k_is)
    (case tL => k_is)
    (case hL => k_is)
    (case hn => k_is)
    (case ht => k_is)
    (case aC => k_is)
    (case pgC => k_is)
    (case hdC => k_is)
    (case poC => k_is)
    (case saC => k_is)
    (case caC => k_is)
    (case moC => k_is)
    (case nlC => k_is)
    (case ntC => k_is)
    (case nbC => k_is)
    (case tyC => k_is)
    (case noC_tests => k_is)
    (case noC_deeds => k_is)
    (case mkC => k_is)
    (case inC => k_is)
    (case fiC => k_is)
    (case kpC => k_is)
    (case l_Ci => k_is)
    (case c_Ci => k_is)
    (case k_Ci => k_is)
    (case l_TC => k_is)
    (case aCT => k_is)
    (case pgCT => k_is)
    (case hdCT => k_is)
    (case poCT => k_is)
    (case saCT => k_is)
    (case caCT => k_is)
    (case moCT => k_is)
    (case nlCT => k_is)
    (case ntCT => k_is)
    (case nbCT => k_is)
    (case tyCT => k_is)
    (case noCT_rows => k_is)
    (case noCT_sorts => k_is)
    (case mkCT => k_is)
    (case inCT => k_is)
    (case fiCT => k_is)
    (case kpCT => k_is)
    (case l_CTi => k_is)
    (case c_CTi => k_is)
    (case k_CTi => k_is)
    (case l_TCT => k_is)
    (case l_eR => k_is)
    (case a_tT => k_is)
    (case l_tT => k_is)
    (case a_tD => k_is)
    (case l_tD => k_is)
    (case s_sR => k_is)
    (case f_sR => k_is)
    (case l_sR => k_is)
    (case c_sR => k_is)
    (case k_sR => k_is)
    (case s_sT => k_is)
    (case f_sT => k_is)
    (case l_sT => k_is)
    (case c_sT => k_is)
    (case k_sT => k_is)
    (case s_lT => k_is)
    (case f_lT => k_is)
    (case l_lT => k_is)
    (case c_lT => k_is)
    (case k_lT => k_is)
    (case s_eT => k_is)
    (case f_eT => k_is)
    (case l_eT => k_is)
    (case c_eT => k_is)
    (case k_eT => k_is)
    (case neT => k_is)
    (case aIT => k_is)
    (case tyX => k_is)
    (case kIT => k_is)
    (case exX => k_is)
    (case sLX => k_is)
    (case sSX => k_is)
    (case gaX => k_is)
    (case ggX => k_is)
    (case hdX => k_is)
    (case caX => k_is)
    (case moX => k_is)
    (case xLX => k_is)
    (case saX => k_is)
    (case iniX => k_is)
    (case tiX => k_is)
    (case noX => k_is)
    (case l_X => k_is)
    (case c_X => k_is)
    (case k_X => k_is)
    (case aIR => k_is)
    (case tIR => k_is)
    (case hIR => k_is)
    (case sTR => k_is)
    (case sTS => k_is)
    (case r_rd => k_is)
    (case r_ga => k_is)
    (case r_at => k_is)
    (case r_rc => k_is)
    (case r_fi => k_is)
    (case l_read => k_is)
    (case c_read => k_is)
    (case k_read => k_is)
    (case a_seq => k_is)
    (case l_seq => k_is)
    (case c_seq => k_is)
    (case k_seq => k_is)
    (case a_test => k_is)
    (case l_test => k_is)
    (case c_test => k_is)
    (case k_test => k_is)
    (case a_deed => k_is)
    (case l_deed => k_is)
    (case c_deed => k_is)
    (case k_deed => k_is)
    (case a_areT => k_is)
    (case l_areT => k_is)
    (case c_areT => k_is)
    (case k_areT => k_is)
    (case a_areD => k_is)
    (case l_areD => k_is)
    (case c_areD => k_is)
    (case k_areD => k_is)
    (case a_areR => k_is)
    (case l_areR => k_is)
    (case c_areR => k_is)
    (case k_areR => k_is)
    (case a_rw => k_is)
    (case l_rw => k_is)
    (case c_rw => k_is)
    (case k_rw => k_is)
    (case a_first => k_is)
    (case l_first => k_is)
    (case c_first => k_is)
    (case k_first => k_is)
    (case a_rr => k_is)
    (case l_rr => k_is)
    (case c_rr => k_is)
    (case k_rr => k_is)
    (case a_feed => k_is)
    (case l_feed => k_is)
    (case c_feed => k_is)
    (case k_feed => k_is)
    (case a_take => k_is)
    (case l_take => k_is)
    (case c_take => k_is)
    (case k_take => k_is)
    (case a_pick => k_is)
    (case l_pick => k_is)
    (case c_pick => k_is)
    (case k_pick => k_is)
    (case a_mixed => k_is)
    (case l_mixed => k_is)
    (case c_mixed => k_is)
    (case k_mixed => k_is)
    (case a_tests => k_is)
    (case l_tests => k_is)
    (case c_tests => k_is)
    (case k_tests => k_is)
    (case a_deeds => k_is)
    (case l_deeds => k_is)
    (case c_deeds => k_is)
    (case k_deeds => k_is)
    (case a_usual => k_is)
    (case l_usual => k_is)
    (case c_usual => k_is)
    (case k_usual => k_is)
    (case a_tool => k_is)
    (case l_tool => k_is)
    (case c_tool => k_is)
    (case k_tool => k_is)
    (case a_rt => k_is)
    (case l_rt => k_is)
    (case c_rt => k_is)
    (case k_rt => k_is)
    (case a_tt => k_is)
    (case l_tt => k_is)
    (case c_tt => k_is)
    (case k_tt => k_is)
    (case a_lof => k_is)
    (case l_lof => k_is)
    (case c_lof => k_is)
    (case k_lof => k_is)
    (case a_isl => k_is)
    (case l_isl => k_is)
    (case c_isl => k_is)
    (case k_isl => k_is)
    (case a_wr => k_is)
    (case l_wr => k_is)
    (case c_wr => k_is)
    (case k_wr => k_is)
    (case a_he => k_is)
    (case l_he => k_is)
    (case c_he => k_is)
    (case k_he => k_is)
    (case a_be => k_is)
    (case l_be => k_is)
    (case c_be => k_is)
    (case k_be => k_is)
    (case a_law => k_is)
    (case l_law => k_is)
    (case c_law => k_is)
    (case k_law => k_is)
    (case z_int => k_is)
    (case z_str => k_is)
    (case z_list => k_is)
    (case z_tuple => k_is)
    (case z_isinstance => k_is)
    (case z_len => k_is)
    (case z_all => k_is)
    (case z_abs => k_is)
    (case z_range => k_is)
    (case z_max => k_is)
    (case z_min => k_is)
    (case z_bool => k_is)
    (case z_repr => k_is)
    (case z_enumerate => k_is)
