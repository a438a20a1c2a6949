import PyProof.Rows.All
import Wide.All
import OpenK.AllK
import Wide.FinOn
import HandS.ForMost
import HandS.Codes
import HandS.ForExc
import HandS.ExcInit
import HandS.ExcField
import HandS.ExcIs
import HandS.IsInst
import HandS.ExcValue
import KE.KExcIs
import PySem.Challenge.RW_laytwice_k01_errors
set_option Elab.async false
set_option linter.all false
set_option maxRecDepth 100000
set_option maxHeartbeats 4000000
namespace Lay
open PySem L2
def top (i : Nat) : Stmt := PySem.Challenge.pw_laytwice_k01_errors.main.body.getD i (.Pass ⟨0, 0, 0, 0⟩)
abbrev sBox : Stmt := top 13
abbrev sTake : Stmt := top 14
abbrev sPick : Stmt := top 15
abbrev sVal : Stmt := top 16

/-! ### the box of draws -/
def Boxy (o : HO) : Prop := ∃ g s n : Int, o = .lst [.int g, .int s, .int n]
def BoxAt (H : Hp) (b : Addr) : Prop := ∃ o, H b = some o ∧ Boxy o
/-- all that is tracked beside b is as it was -/
def Kept (b : Addr) (H H' : Hp) : Prop := ∀ a o, a ≠ b → H a = some o → H' a = some o
theorem Kept.refl (b : Addr) (H : Hp) : Kept b H H := fun _ _ _ h => h
theorem Kept.trans {b : Addr} {H H1 H2 : Hp} (x : Kept b H H1) (y : Kept b H1 H2) : Kept b H H2 := fun a o n h => y a o n (x a o n h)
theorem Kept.of_same {b : Addr} {H H' : Hp} (x : Same H H') : Kept b H H' := fun a o _ h => x a o h
theorem Kept.box {b : Addr} {H : Hp} {o : HO} : Kept b H (upd H b o) := fun a u n h => by rw [upd_ne n]; exact h
theorem Kept.new {b a : Addr} {H : Hp} {o : HO} (h : H a = none) : Kept b H (upd H a o) := fun c u _ e => by
  rw [upd_ne (ne_of_none e h)]
  exact e
theorem Same.new {a : Addr} {H : Hp} {o : HO} (h : H a = none) : Same H (upd H a o) := fun c u e => by
  rw [upd_ne (ne_of_none e h)]
  exact e
theorem BoxAt.new {b a : Addr} {H : Hp} {o : HO} (x : BoxAt H b) (h : H a = none) : BoxAt (upd H a o) b := by
  obtain ⟨u, e, y⟩ := x
  exact ⟨u, Same.new h _ _ e, y⟩
theorem BoxAt.box {b : Addr} {H : Hp} {o : HO} (y : Boxy o) : BoxAt (upd H b o) b := ⟨o, upd_same, y⟩
theorem BoxAt.ne {b a : Addr} {H : Hp} (x : BoxAt H b) (h : H a = none) : a ≠ b := by
  obtain ⟨u, e, y⟩ := x
  exact (ne_of_none e h).symm

/-- what the draws want of the module's names -/
structure TxtD (mg : Str → Option Value) : Prop where
  int : mg "int" = none
  len : mg "len" = none
  abs : mg "abs" = none
  range : mg "range" = none

def spTake : Sp := fun vs H Q _ => ∃ (b : Addr) (m : Int), vs = [.ref b, .int m] ∧ BoxAt H b ∧ 0 < m ∧ m < 1073741824 ∧
  ∀ (r : Int) (o : HO), 0 ≤ r → r < m → Boxy o → Q (.int r) (upd H b o)
def spPick (K : PySem.W.Frag) : Sp := fun vs H Q _ => ∃ (b l : Addr) (xs : List V), vs = [.ref b, .ref l] ∧ BoxAt H b ∧ l ≠ b ∧ SqL K H l xs ∧ 0 < xs.length ∧ xs.length ≤ 1000 ∧
  ∀ (v : V) (o : HO), v ∈ xs → Boxy o → Q v (upd H b o)
theorem SqL.kept {K : PySem.W.Frag} {b a : Addr} {H H' : Hp} {xs : List V} (k : Kept b H H') (n : a ≠ b) (h : SqL K H a xs) : SqL K H' a xs := by
  rcases h with (h | ⟨o, h⟩) | h
  · exact .inl (.inl (k _ _ n h))
  · exact .inl (.inr ⟨o, k _ _ n h⟩)
  · exact .inr h
theorem SqT.kept {K : PySem.W.Frag} {b a : Addr} {H H' : Hp} {xs : List V} (k : Kept b H H') (n : a ≠ b) (h : SqT K H a xs) : SqT K H' a xs := by
  rcases h with (h | ⟨o, h⟩) | h
  · exact .inl (.inl (k _ _ n h))
  · exact .inl (.inr ⟨o, k _ _ n h⟩)
  · exact .inr h

theorem lt40 {m : Int} (h : m < 1073741824) : m < 2 ^ (40 : Int).toNat := by
  have e : (2 : Int) ^ (40 : Int).toNat = 1099511627776 := by decide
  omega
section
variable {P : Program} {w : World} {K : PySem.W.Frag} {mg : Str → Option Value} {base : Heap}
theorem scTake : FnScope ["_law_box_here", "_law_many", "_law_digit", "_law_raw", "_law_wide"] ["_law_box_here", "_law_many"] (defScope sTake) := ⟨rfl, rfl, rfl, by decide +kernel, rfl, by decide +kernel, by decide +kernel⟩
theorem ok_take {f : Addr} {fd : FuncData} (F : Fun K "_law_take" "_law_take" sTake f fd) (T : TxtD mg) : FnOk P w K mg base CX0 1 f fd ["_law_box_here", "_law_many"] spTake := by
  refine F.ok scTake (fun vs H Q E h => ?_) (fun cdv A outer s H vs Q E hr h => ?_)
  · obtain ⟨b, m, rfl, _⟩ := h
    rfl
  · obtain ⟨b, m, rfl, ⟨o, hb, g, s, n, rfl⟩, hm0, hm1, k⟩ := h
    refine ⟨_, (pss_cons (ps_if (pt_cmpR op_gt (pe_ix ix_list (pv 0) pe_int (fun _ _ => rfl)) pe_int (nomark _))
      (pss_cons (ps_set (i := 2) scTake.nd rfl (.inl rfl) (pe_op op_mod (pe_callTy call_int1 (by rfl) T.int (by decide +kernel) (pa_cons (pe_ix ix_list (pv 0) pe_int (fun _ _ => rfl)) pa_nil)) (pv 1)))
      (pss_cons (ps_asg (pe_op op_fdiv (pe_ix ix_list (pv 0) pe_int (fun _ _ => rfl)) (pv 1)) (pg_sub (pv 0) pe_int set_list))
      (pss_one (ps_ret (pv 2)))))
      pss_nil)
    (pss_cons (ps_asg (pe_op op_add (pe_ix ix_list (pv 0) pe_int (fun _ _ => rfl)) pe_int) (pg_sub (pv 0) pe_int set_list))
    (pss_cons (ps_set (i := 3) scTake.nd rfl (.inl rfl) (pe_op op_mod (pe_callTy call_int1 (by rfl) T.int (by decide +kernel) (pa_cons (pe_op op_mul (pe_op op_add (pe_ix ix_list (pv 0) pe_int (fun _ _ => rfl)) (pe_op op_mul pe_int (pe_ix ix_list (pv 0) pe_int (fun _ _ => rfl)))) pe_int) pa_nil)) pe_int))
    (pss_cons (ps_asg (pe_op op_add (pe_op op_mod (pe_callTy call_int1 (by rfl) T.int (by decide +kernel) (pa_cons (pe_op op_add (pe_op op_mul (pv 3) pe_int) pe_int) pa_nil)) pe_int) pe_int) (pg_sub (pv 0) pe_int set_list))
    (pss_cons (ps_if (pt_cmpR op_lt (pv 1) (pe_op op_pow pe_int pe_int) (nomark _))
      (pss_one (ps_ret (pe_op op_mod (pe_callTy call_int1 (by rfl) T.int (by decide +kernel) (pa_cons (pe_op op_fdiv (pe_op op_add (pe_op op_mul (pv 3) pe_int) (pe_ix ix_list (pv 0) pe_int (fun _ _ => rfl))) pe_int) pa_nil)) (pv 1))))
      pss_nil)
    pss_never))))), ?_⟩
    refine ⟨_, rfl, b, _, _, _, rfl, rfl, SqL.of hb, rfl, _, _, rfl, rfl, _, rfl, ?_⟩
    refine ite2 (fun h0 => ?_) (fun h0 => ?_)
    · refine ⟨_, rfl, b, _, _, _, rfl, rfl, SqL.of hb, rfl, .inl ⟨_, rfl, _, rfl, _, _, rfl, rfl, hm0, ?_⟩⟩
      refine ⟨_, rfl, b, _, _, _, rfl, rfl, SqL.of hb, rfl, _, rfl, _, _, rfl, rfl, ⟨hm0, hm1⟩, _, rfl, b, _, _, 0, rfl, rfl, hb, rfl, ?_⟩
      refine ⟨_, rfl, k _ _ (Int.emod_nonneg _ (by omega)) (Int.emod_lt_of_pos _ hm0) ⟨_, _, _, rfl⟩⟩
    · refine ⟨_, rfl, b, _, _, _, rfl, rfl, SqL.of hb, rfl, _, _, rfl, rfl, _, rfl, b, _, _, 2, rfl, rfl, hb, rfl, ?_⟩
      refine ⟨_, rfl, b, _, _, _, rfl, rfl, SqL.of upd_same, rfl, _, rfl, b, _, _, _, rfl, rfl, SqL.of upd_same, rfl, _, _, rfl, rfl, .inl ⟨by decide, by decide⟩, _, _, rfl, rfl, _, _, rfl, rfl, .inr ⟨by decide, by decide⟩, .inl ⟨_, rfl, _, _, rfl, rfl, (by show (0 : Int) < 2147483647; decide), ?_⟩⟩
      refine ⟨_, rfl, _, _, rfl, rfl, .inr ⟨by decide, by decide⟩, _, _, rfl, rfl, .inl ⟨_, rfl, _, _, rfl, rfl, (by show (0 : Int) < 2147483629; decide), _, _, rfl, rfl, _, rfl, b, _, _, 1, rfl, rfl, upd_same, rfl, ?_⟩⟩
      rw [upd_upd]
      refine ⟨_, rfl, _, _, rfl, rfl, ⟨by decide, by decide, by decide⟩, _, _, rfl, rfl, _, rfl, ?_⟩
      refine ite2 (fun _ => ?_) (fun h1 => absurd (decide_eq_true (lt40 hm1)) h1)
      refine ⟨_, rfl, _, _, rfl, rfl, .inr ⟨by decide, by decide⟩, _, rfl, b, _, _, _, rfl, rfl, SqL.of upd_same, rfl, _, _, rfl, rfl, _, _, rfl, rfl, ⟨by decide, by decide⟩, .inl ⟨_, rfl, _, rfl, _, _, rfl, rfl, hm0, ?_⟩⟩
      exact k _ _ (Int.emod_nonneg _ (by omega)) (Int.emod_lt_of_pos _ hm0) ⟨_, _, _, rfl⟩

theorem scPick : FnScope ["_law_box_here", "_law_items"] ["_law_box_here", "_law_items"] (defScope sPick) := ⟨rfl, rfl, rfl, by decide +kernel, rfl, by decide +kernel, by decide +kernel⟩
theorem ok_pick {f fT : Addr} {fd fdT : FuncData} (F : Fun K "_law_pick" "_law_pick" sPick f fd) (T : TxtD mg) (FT : Fun K "_law_take" "_law_take" sTake fT fdT) (bT : Binds K fdT ["_law_box_here", "_law_many"] []) (gT : mg "_law_take" = some (.ref fT)) :
    FnOk P w K mg base CX0 2 f fd ["_law_box_here", "_law_items"] (spPick K) := by
  have GT : FnOk P w K mg base CX0 1 fT fdT ["_law_box_here", "_law_many"] spTake := ok_take FT T
  refine F.ok scPick (fun vs H Q E h => ?_) (fun cdv A outer s H vs Q E hr h => ?_)
  · obtain ⟨b, l, xs, rfl, _⟩ := h
    rfl
  · obtain ⟨b, l, xs, rfl, hb, hl, hs, h0, h1, k⟩ := h
    refine ⟨_, (pss_one (ps_ret (pe_ix ix_list (pv 1) (pe_call GT hr (by rfl) gT FT.kp bT .nil pass0 (pa_cons (pv 0) (pa_cons (pe_callB call_len_seq (by rfl) T.len (by decide +kernel) (pa_cons (pv 1) pa_nil)) pa_nil))) (fun _ _ => rfl)))), ?_⟩
    refine ⟨_, rfl, _, rfl, _, rfl, l, xs, rfl, .inl hs, b, _, rfl, hb, by omega, by omega, fun r o r0 r1 ho => ?_⟩
    have hr' : r.toNat < xs.length := by omega
    have er : r = ((r.toNat : Nat) : Int) := by omega
    exact ⟨l, xs, r, xs[r.toNat], rfl, rfl, SqL.kept Kept.box hl hs, at_of er (by simp [hr']), k _ _ (List.getElem_mem hr') ho⟩

def spBox (K : PySem.W.Frag) : Sp := fun vs H Q _ => ∃ (a : Addr) (ns : List Int) (i j : Int), vs = [.ref a, .int i, .int j] ∧ SqL K H a (ns.map V.int) ∧ 0 ≤ i ∧ i ≤ 1000 ∧ 0 ≤ j ∧ j ≤ 1000 ∧ ns.length ≤ 1000 ∧
  ∀ (p : Addr) (H' : Hp), Same H H' → H p = none → BoxAt H' p → Q (.ref p) H'
theorem scBox : FnScope ["_law_script", "_law_k", "_law_own", "_law_cell", "_law_seed"] ["_law_script", "_law_k", "_law_own"] (defScope sBox) := ⟨rfl, rfl, rfl, by decide +kernel, rfl, by decide +kernel, by decide +kernel⟩
theorem ok_box {f : Addr} {fd : FuncData} (F : Fun K "_law_box" "_law_box" sBox f fd) (T : TxtD mg) : FnOk P w K mg base CX0 1 f fd ["_law_script", "_law_k", "_law_own"] (spBox K) := by
  refine F.ok scBox (fun vs H Q E h => ?_) (fun cdv A outer s H vs Q E hr h => ?_)
  · obtain ⟨a, ns, i, j, rfl, _⟩ := h
    rfl
  · obtain ⟨a, ns, i, j, rfl, hs, i0, i1, j0, j1, hn, k⟩ := h
    refine ⟨_, (pss_cons (ps_set (i := 3) scBox.nd rfl (.inl rfl) (pe_op op_add (pe_op op_add (pe_op op_mul pe_int (pv 1)) (pe_op op_mul pe_int (pv 2))) pe_int))
    (C8.pss_cut (ps_if (pt_cmpR op_lt (pv 1) (pe_callB call_len_seq (by rfl) T.len (by decide +kernel) (pa_cons (pv 0) pa_nil)) (nomark _))
      (pss_one (ps_set (i := 3) scBox.nd rfl (.inl rfl) (pe_callB call_abs (by rfl) T.abs (by decide +kernel) (pa_cons (pe_ix ix_list (pv 0) (pv 1) (fun _ _ => rfl)) pa_nil))))
      (pss_one (ps_if (pt_cmpR op_gt (pe_callB call_len_seq (by rfl) T.len (by decide +kernel) (pa_cons (pv 0) pa_nil)) pe_int (nomark _))
        (pss_one (ps_set (i := 3) scBox.nd rfl (.inl rfl) (pe_op op_add (pv 3) (pe_op op_mul (pe_op op_mod (pe_callTy call_int1 (by rfl) T.int (by decide +kernel) (pa_cons (pe_callB call_abs (by rfl) T.abs (by decide +kernel) (pa_cons (pe_ix ix_list (pv 0) (pe_op op_mod (pe_callTy call_int1 (by rfl) T.int (by decide +kernel) (pa_cons (pv 1) pa_nil)) (pe_callB call_len_seq (by rfl) T.len (by decide +kernel) (pa_cons (pv 0) pa_nil))) (fun _ _ => rfl)) pa_nil)) pa_nil)) pe_int) pe_int))))
        pss_nil)))
    (pss_cons (ps_set (i := 4) scBox.nd rfl (.inl rfl) (pe_op op_add (pe_op op_mod (pe_callTy call_int1 (by rfl) T.int (by decide +kernel) (pa_cons (pe_op op_add (pe_op op_mul (pe_op op_mod (pe_callTy call_int1 (by rfl) T.int (by decide +kernel) (pa_cons (pv 3) pa_nil)) pe_int) pe_int) (pe_op op_mul pe_int (pe_op op_add (pv 1) (pe_op op_mul pe_int (pv 2))))) pa_nil)) pe_int) pe_int))
    (pss_one (ps_ret (pe_lst (pa_cons (pe_ix ix_list (pe_lst (pa_cons pe_int (pa_cons (pv 3) pa_nil))) (pe_callTy call_int1 (by rfl) T.int (by decide +kernel) (pa_cons (pe_cmpR op_ge (pv 3) (pe_op op_pow pe_int pe_int) (nomark _)) pa_nil)) (fun _ _ => rfl)) (pa_cons (pv 4) (pa_cons pe_int pa_nil))))))))), ?_⟩
    refine ⟨_, rfl, _, _, rfl, rfl, .inl ⟨by decide, by decide⟩, _, rfl, _, _, rfl, rfl, .inl ⟨by decide, by decide⟩, _, _, rfl, rfl, _, _, rfl, rfl, ?_⟩
    refine ⟨fun σ' H' => H' = H ∧ ∃ c : Int, σ' = [some (.ref a), some (.int i), some (.int j), some (.int c), none], ?_, ?_⟩
    · have hl : (ns.map V.int).length = ns.length := List.length_map ..
      refine ⟨_, rfl, _, rfl, a, _, rfl, .inl hs, _, _, rfl, rfl, _, rfl, ?_⟩
      refine ite2 (fun h => ?_) (fun h => ?_)
      · have hi : i < (ns.map V.int).length := of_decide_eq_true h
        obtain ⟨z, hz⟩ : ∃ z, (ns.map V.int)[i.toNat]? = some (V.int z) := by
          refine ⟨ns[i.toNat]'(by omega), ?_⟩
          rw [List.getElem?_map, List.getElem?_eq_getElem (by omega)]
          rfl
        exact ⟨_, rfl, _, rfl, a, _, _, _, rfl, rfl, hs, at_of (by omega) hz, _, rfl, rfl, _, rfl⟩
      · refine ⟨_, rfl, a, _, rfl, .inl hs, _, _, rfl, rfl, _, rfl, ?_⟩
        refine ite2 (fun h2 => ?_) (fun _ => ⟨rfl, _, rfl⟩)
        have h2' : (0 : Int) < (ns.map V.int).length := of_decide_eq_true h2
        have m0 := Int.emod_nonneg i (show ((ns.map V.int).length : Int) ≠ 0 by omega)
        have m1 := Int.emod_lt_of_pos i h2'
        obtain ⟨z, hz⟩ : ∃ z, (ns.map V.int)[(i % ((ns.map V.int).length : Int)).toNat]? = some (V.int z) := by
          refine ⟨ns[(i % ((ns.map V.int).length : Int)).toNat]'(by omega), ?_⟩
          rw [List.getElem?_map, List.getElem?_eq_getElem (by omega)]
          rfl
        refine ⟨_, rfl, _, rfl, _, rfl, .inl ⟨_, rfl, _, rfl, a, _, rfl, .inl hs, _, _, rfl, rfl, h2', a, _, _, _, rfl, rfl, hs, at_of (by omega) hz, _, rfl, .inl ⟨_, rfl, _, _, rfl, rfl, (by show (0 : Int) < 2147483629; decide), _, _, rfl, rfl, .inr ⟨by decide, by decide⟩, _, _, rfl, rfl, rfl, _, rfl⟩⟩⟩
    · rintro σ' H' ⟨rfl, c, rfl⟩
      refine ⟨_, rfl, .inl ⟨_, rfl, _, _, rfl, rfl, (by show (0 : Int) < 2147483629; decide), _, _, rfl, rfl, .inr ⟨by decide, by decide⟩, _, rfl, _, rfl, _, _, rfl, rfl, .inl ⟨by decide, by decide⟩, _, _, rfl, rfl, _, _, rfl, rfl, .inl ⟨by decide, by decide⟩, _, _, rfl, rfl, .inl ⟨_, rfl, _, _, rfl, rfl, (by show (0 : Int) < 2147483629; decide), _, _, rfl, rfl, ?_⟩⟩⟩
      refine ⟨_, rfl, (by show 2 ≤ sizeLine; decide), fun l hl => ⟨_, rfl, _, _, rfl, rfl, ⟨by decide, by decide, by decide⟩, _, _, rfl, rfl, .inr ⟨_, rfl, l, _, _, if (decide ((10 : Int) ^ (18 : Int).toNat ≤ c)) = true then V.int c else V.int 0, rfl, rfl, SqL.of upd_same, ?_, ?_⟩⟩⟩
      · cases decide ((10 : Int) ^ (18 : Int).toNat ≤ c) <;> rfl
      · refine ⟨_, rfl, (by show 3 ≤ sizeLine; decide), fun p hp => ?_⟩
        refine k _ _ ((Same.new hl).trans (Same.new hp)) ((Same.new hl).free hp) ⟨_, upd_same, ?_⟩
        by_cases hc : (decide ((10 : Int) ^ (18 : Int).toNat ≤ c)) = true
        · rw [if_pos hc]
          exact ⟨_, _, _, rfl⟩
        · rw [if_neg hc]
          exact ⟨_, _, _, rfl⟩
end
end Lay
set_option Elab.async false
set_option linter.all false
set_option maxRecDepth 100000
set_option maxHeartbeats 4000000
namespace Lay
open PySem L2
/-! ### data, and how it lasts -/
/-- all that is tracked beside S is as it was -/
def KeptS (S : Addr → Prop) (H H' : Hp) : Prop := ∀ a o, ¬ S a → H a = some o → H' a = some o
theorem KeptS.refl (S : Addr → Prop) (H : Hp) : KeptS S H H := fun _ _ _ h => h
theorem KeptS.trans {S : Addr → Prop} {H H1 H2 : Hp} (x : KeptS S H H1) (y : KeptS S H1 H2) : KeptS S H H2 := fun a o n h => y a o n (x a o n h)
theorem KeptS.of_same {S : Addr → Prop} {H H' : Hp} (x : Same H H') : KeptS S H H' := fun a o _ h => x a o h
theorem KeptS.new {S : Addr → Prop} {a : Addr} {H : Hp} {o : HO} (h : H a = none) : KeptS S H (upd H a o) := fun c u _ e => by
  rw [upd_ne (ne_of_none e h)]
  exact e
theorem KeptS.at {S : Addr → Prop} {a : Addr} {H : Hp} {o : HO} (h : S a) : KeptS S H (upd H a o) := fun c u n e => by
  rw [upd_ne (fun z => n (by rw [z]; exact h))]
  exact e
theorem KeptS.of {S : Addr → Prop} {b : Addr} {H H' : Hp} (h : S b) (k : Kept b H H') : KeptS S H H' := fun a o n e => k a o (fun z => n (by rw [z]; exact h)) e
theorem KeptS.mono {S S' : Addr → Prop} {H H' : Hp} (h : ∀ a, S a → S' a) (k : KeptS S H H') : KeptS S' H H' := fun a o n e => k a o (fun z => n (h a z)) e
/-- S holds of what stands already -/
def Stands (S : Addr → Prop) (H : Hp) : Prop := ∀ a, S a → H a ≠ none
theorem Stands.same {S : Addr → Prop} {H H' : Hp} (x : Stands S H) (s : Same H H') : Stands S H' := fun a h e => by
  cases q : H a with
  | none => exact x a h q
  | some o =>
    rw [s a o q] at e
    cases e
theorem Stands.ne {S : Addr → Prop} {H H' : Hp} {a : Addr} (x : Stands S H) (s : Same H H') (h : H' a = none) : ¬ S a := fun z => x.same s a z h
theorem Stands.grow {S : Addr → Prop} {H H' : Hp} (x : Stands S H) (k : ∀ a, H a ≠ none → H' a ≠ none) : Stands S H' := fun a h => k a (x a h)
def okd (d : PyData) : Prop := d.showable = true ∧ d.hasDict = false ∧ d.depth ≤ 10 ∧ d.shown.length ≤ 100
/-- v is data, whatever happens at S -/
def Dat (K : PySem.W.Frag) (S : Addr → Prop) (H : Hp) (v : V) : Prop := ∃ d, okd d ∧ ∀ H', KeptS S H H' → Dp K H' v d
theorem Dat.kept {K : PySem.W.Frag} {b : Addr → Prop} {H H' : Hp} {v : V} (x : Dat K b H v) (k : KeptS b H H') : Dat K b H' v := by
  obtain ⟨d, o, h⟩ := x
  exact ⟨d, o, fun H2 k2 => h H2 (k.trans k2)⟩
def nestT : Nat → PyData
  | 0 => .tuple []
  | n + 1 => .tuple [nestT n]
theorem okd_nest : okd (nestT 7) := ⟨by decide +kernel, by decide +kernel, by decide +kernel, by decide +kernel⟩
/-- the atoms -/
theorem Dat.non {K : PySem.W.Frag} {b : Addr → Prop} {H : Hp} : Dat K b H .non := ⟨.none, ⟨by decide +kernel, by decide +kernel, by decide +kernel, by decide +kernel⟩, fun _ _ => .non⟩
theorem Dat.bl {K : PySem.W.Frag} {b : Addr → Prop} {H : Hp} (c : Bool) : Dat K b H (.bl c) := ⟨.bool c, by cases c <;> exact ⟨by decide +kernel, by decide +kernel, by decide +kernel, by decide +kernel⟩, fun _ _ => .bl c⟩
theorem Dat.int {K : PySem.W.Frag} {b : Addr → Prop} {H : Hp} (i : Int) (h : okd (.int i)) : Dat K b H (.int i) := ⟨.int i, h, fun _ _ => .int i⟩
theorem Dat.str {K : PySem.W.Frag} {b : Addr → Prop} {H : Hp} (x : Str) (h : okd (.str x)) : Dat K b H (.str x) := ⟨.str x, h, fun _ _ => .str x⟩
/-- atoms alone in a list or a tuple: their data whatever the heap -/
theorem Dat.lst {K : PySem.W.Frag} {b : Addr → Prop} {p : Addr} {H : Hp} {xs : List V} {ds : List PyData} (h : H p = some (.lst xs)) (n : ¬ b p) (a : ∀ H', DpAll K H' xs ds) (o : okd (.list ds)) : Dat K b H (.ref p) :=
  ⟨.list ds, o, fun H' k => .lst (SqL.of (k _ _ n h)) (a H')⟩
theorem Dat.tup {K : PySem.W.Frag} {b : Addr → Prop} {p : Addr} {H : Hp} {xs : List V} {ds : List PyData} (h : H p = some (.tup xs)) (n : ¬ b p) (a : ∀ H', DpAll K H' xs ds) (o : okd (.tuple ds)) : Dat K b H (.ref p) :=
  ⟨.tuple ds, o, fun H' k => .tup (SqT.of (k _ _ n h)) (a H')⟩
theorem SameN.box {b : Addr} {H H' : Hp} (s : Same H H') (x : BoxAt H b) : BoxAt H' b := by
  obtain ⟨u, e, y⟩ := x
  exact ⟨u, s _ _ e, y⟩
theorem ne_box {b a : Addr} {H H' : Hp} (s : Same H H') (x : BoxAt H b) (h : H' a = none) : a ≠ b := (SameN.box s x).ne h
def spVal (K : PySem.W.Frag) : Sp := fun vs H Q _ => ∃ (b : Addr) (S : Addr → Prop), vs = [.ref b] ∧ BoxAt H b ∧ S b ∧ Stands S H ∧ ∀ (v : V) (H' : Hp), Kept b H H' → BoxAt H' b → Dat K S H' v → Q v H'
section
variable {P : Program} {w : World} {K : PySem.W.Frag} {mg : Str → Option Value} {base : Heap}
theorem scVal : FnScope ["_law_box_here", "_law_some", "_law_deep", "_law_turn"] ["_law_box_here"] (defScope sVal) := ⟨rfl, rfl, rfl, by decide +kernel, rfl, by decide +kernel, by decide +kernel⟩
theorem ok_val {f fP : Addr} {fd fdP : FuncData} (F : Fun K "_law_value" "_law_value" sVal f fd) (T : TxtD mg) (GP : FnOk P w K mg base CX0 2 fP fdP ["_law_box_here", "_law_items"] (spPick K))
    (kP : PySem.W.keepIn K (.ref fP) = true) (bP : Binds K fdP ["_law_box_here", "_law_items"] []) (gP : mg "_law_pick" = some (.ref fP)) : FnOk P w K mg base CX0 3 f fd ["_law_box_here"] (spVal K) := by
  refine F.ok scVal (fun vs H Q E h => ?_) (fun cdv A outer s H vs Q E hr h => ?_)
  · obtain ⟨b, S, rfl, _⟩ := h
    rfl
  · obtain ⟨b, S, rfl, hb, Sb, st, k⟩ := h
    refine ⟨_, (pss_cons (ps_set (i := 1) scVal.nd rfl (.inl rfl) (pe_lst (pa_cons pe_int (pa_cons (pe_un un_neg pe_int) (pa_cons (pe_op op_pow pe_int pe_int) (pa_cons pe_str (pa_cons pe_str (pa_cons pe_non (pa_cons pe_bl (pa_cons pe_bl (pa_cons (pe_lst pa_nil) (pa_cons (pe_lst (pa_cons pe_int (pa_cons pe_str pa_nil))) (pa_cons (pe_tup (pa_cons pe_str (pa_cons pe_non pa_nil))) (pa_cons (pe_tup pa_nil) pa_nil))))))))))))))
    (C8.pss_cut (ps_par (i := 1) (j := 2) (by rfl) scVal.nd rfl rfl (by decide) rfl rfl (pa_cons (pe_op op_cat (pv 1) (pe_lst (pa_cons pe_str (pa_cons pe_int (pa_cons pe_str (pa_cons (pe_lst (pa_cons pe_str pa_nil)) (pa_cons pe_str pa_nil))))))) (pa_cons (pe_tup pa_nil) pa_nil)) (by rfl))
    (pss_cons (ps_for PassesOwn.never rfl (pi_range1 (by rfl) T.range (pa_cons pe_int pa_nil)) (pg_name (i := 3) scVal.nd rfl (.inl rfl))
      (pss_one (ps_set (i := 2) scVal.nd rfl (.inl rfl) (pe_tup (pa_cons (pv 2) pa_nil)))))
    (pss_one (ps_ret (pe_call GP hr (by rfl) gP kP bP .nil pass0 (pa_cons (pv 0) (pa_cons (pe_op op_cat (pv 1) (pe_lst (pa_cons (pv 2) pa_nil))) pa_nil)))))))), ?_⟩
    refine ⟨_, rfl, _, _, rfl, rfl, ⟨by decide, by decide, by decide⟩, Nat.zero_le _, fun l1 n1 => ⟨(by show 2 ≤ sizeLine; decide), fun l2 n2 => ⟨(by show 2 ≤ sizeLine; decide), fun t1 n3 => ⟨(by show 0 ≤ sizeLine; decide), fun t2 n4 => ⟨(by show 12 ≤ sizeLine; decide), fun l3 n5 => ?_⟩⟩⟩⟩⟩
    refine ⟨fun σ' H' => ∃ (l t : Addr) (xs : List V), σ' = [some (.ref b), some (.ref l), some (.ref t), none] ∧ Kept b H H' ∧ BoxAt H' b ∧ l ≠ b ∧ H' l = some (.lst xs) ∧ xs.length = 17 ∧ Stands S H' ∧ (∀ v ∈ xs, Dat K S H' v) ∧ ∀ H'', KeptS S H' H'' → Dp K H'' (.ref t) (nestT 0), ?_, ?_⟩
    · refine ⟨_, rfl, (by show 1 ≤ sizeLine; decide), fun l4 n6 => ⟨(by show 5 ≤ sizeLine; decide), fun l5 n7 => ?_⟩⟩
      refine ⟨_, _, _, _, rfl, rfl, Same.new n7 _ _ (Same.new n6 _ _ upd_same), upd_same, (by show 17 ≤ sizeLine; decide), fun l6 n8 => ⟨(by show 0 ≤ sizeLine; decide), fun t3 n9 => ⟨_, _, rfl, ?_⟩⟩⟩
      have s1 := Same.new n1 (o := .lst [])
      have s2 := s1.trans (Same.new n2 (o := .lst [.int 1, .str "a"]))
      have s3 := s2.trans (Same.new n3 (o := .tup [.str "x", .non]))
      have s4 := s3.trans (Same.new n4 (o := .tup []))
      have s5 := s4.trans (Same.new n5 (o := .lst [.int 0, .int (-3), .int (10 ^ (18 : Int).toNat), .str "", .str "break", .non, .bl true, .bl false, .ref l1, .ref l2, .ref t1, .ref t2]))
      have s6 := s5.trans (Same.new n6 (o := .lst [.str "x"]))
      have s7 := s6.trans (Same.new n7 (o := .lst [.str "ab", .int 2, .str "left", .ref l4, .str "# a"]))
      have s8 := s7.trans (Same.new n8 (o := .lst ([.int 0, .int (-3), .int (10 ^ (18 : Int).toNat), .str "", .str "break", .non, .bl true, .bl false, .ref l1, .ref l2, .ref t1, .ref t2] ++ [.str "ab", .int 2, .str "left", .ref l4, .str "# a"])))
      have s9 := s8.trans (Same.new n9 (o := .tup []))
      have e9 := Same.new n9 (o := .tup [])
      have e8 := (Same.new n8 (o := .lst ([.int 0, .int (-3), .int (10 ^ (18 : Int).toNat), .str "", .str "break", .non, .bl true, .bl false, .ref l1, .ref l2, .ref t1, .ref t2] ++ [.str "ab", .int 2, .str "left", .ref l4, .str "# a"]))).trans e9
      have e7 := (Same.new n7 (o := .lst [.str "ab", .int 2, .str "left", .ref l4, .str "# a"])).trans e8
      have e6 := (Same.new n6 (o := .lst [.str "x"])).trans e7
      have e5 := (Same.new n5 (o := .lst [.int 0, .int (-3), .int (10 ^ (18 : Int).toNat), .str "", .str "break", .non, .bl true, .bl false, .ref l1, .ref l2, .ref t1, .ref t2])).trans e6
      have e4 := (Same.new n4 (o := .tup [])).trans e5
      have e3 := (Same.new n3 (o := .tup [.str "x", .non])).trans e4
      have e2 := (Same.new n2 (o := .lst [.int 1, .str "a"])).trans e3
      refine ⟨l6, t3, _, rfl, Kept.of_same s9, SameN.box s9 hb, ne_box s7 hb n8, e9 _ _ upd_same, rfl, st.same s9, ?_, fun H'' kk => .tup (SqT.of (kk _ _ (st.ne s8 n9) upd_same)) .nil⟩
      have ok : ∀ d : PyData, (d.showable = true ∧ d.hasDict = false ∧ d.depth ≤ 10 ∧ d.shown.length ≤ 100) → okd d := fun _ h => h
      intro v hv
      simp only [List.cons_append, List.nil_append, List.mem_cons, List.not_mem_nil, or_false] at hv
      rcases hv with rfl | rfl | rfl | rfl | rfl | rfl | rfl | rfl | rfl | rfl | rfl | rfl | rfl | rfl | rfl | rfl | rfl
      · exact .int _ ⟨by decide +kernel, by decide +kernel, by decide +kernel, by decide +kernel⟩
      · exact .int _ ⟨by decide +kernel, by decide +kernel, by decide +kernel, by decide +kernel⟩
      · exact .int _ ⟨by decide +kernel, by decide +kernel, by decide +kernel, by decide +kernel⟩
      · exact .str _ ⟨by decide +kernel, by decide +kernel, by decide +kernel, by decide +kernel⟩
      · exact .str _ ⟨by decide +kernel, by decide +kernel, by decide +kernel, by decide +kernel⟩
      · exact .non
      · exact .bl _
      · exact .bl _
      · exact Dat.lst (ds := []) (e2 _ _ upd_same) (st.ne (Same.refl _) n1) (fun _ => .nil) ⟨by decide +kernel, by decide +kernel, by decide +kernel, by decide +kernel⟩
      · exact Dat.lst (ds := [.int 1, .str "a"]) (e3 _ _ upd_same) (st.ne s1 n2) (fun _ => .cons (.int _) (.cons (.str _) .nil)) ⟨by decide +kernel, by decide +kernel, by decide +kernel, by decide +kernel⟩
      · exact Dat.tup (ds := [.str "x", .none]) (e4 _ _ upd_same) (st.ne s2 n3) (fun _ => .cons (.str _) (.cons .non .nil)) ⟨by decide +kernel, by decide +kernel, by decide +kernel, by decide +kernel⟩
      · exact Dat.tup (ds := []) (e5 _ _ upd_same) (st.ne s3 n4) (fun _ => .nil) ⟨by decide +kernel, by decide +kernel, by decide +kernel, by decide +kernel⟩
      · exact .str _ ⟨by decide +kernel, by decide +kernel, by decide +kernel, by decide +kernel⟩
      · exact .int _ ⟨by decide +kernel, by decide +kernel, by decide +kernel, by decide +kernel⟩
      · exact .str _ ⟨by decide +kernel, by decide +kernel, by decide +kernel, by decide +kernel⟩
      · exact Dat.lst (ds := [.str "x"]) (e7 _ _ upd_same) (st.ne s5 n6) (fun _ => .cons (.str _) .nil) ⟨by decide +kernel, by decide +kernel, by decide +kernel, by decide +kernel⟩
      · exact .str _ ⟨by decide +kernel, by decide +kernel, by decide +kernel, by decide +kernel⟩
    · rintro σ' G ⟨l, t, xs, rfl, kG, bG, nl, hl, len, stG, dat, deep⟩
      refine ⟨7, rfl, by decide, by decide, for_range (n := 7) (fun i σ' H' => ∃ (t : Addr) (z : Option V), σ' = [some (.ref b), some (.ref l), some (.ref t), z] ∧ Same G H' ∧ ∀ H'', KeptS S H' H'' → Dp K H'' (.ref t) (nestT i))
        ⟨t, none, rfl, .refl _, deep⟩ ?_ ?_⟩
      · rintro i σ' H1 hi ⟨t, z, rfl, s1, d1⟩
        refine ⟨_, rfl, (by show 1 ≤ sizeLine; decide), fun p hp => ⟨p, _, rfl, s1.trans (Same.new hp), fun H'' kk => ?_⟩⟩
        exact .tup (SqT.of (kk _ _ (stG.ne s1 hp) upd_same)) (.cons (d1 _ ((KeptS.new hp).trans kk)) .nil)
      · rintro σ' H1 ⟨t, z, rfl, s1, d1⟩
        have b1 := SameN.box s1 bG
        refine ⟨_, rfl, _, rfl, _, rfl, (by show 1 ≤ sizeLine; decide), fun p hp => ?_⟩
        refine ⟨_, _, _, _, rfl, rfl, Same.new hp _ _ (s1 _ _ hl), upd_same, (by rw [len]; show 18 ≤ sizeLine; decide), fun q hq => ?_⟩
        have kq : Kept b H1 (upd (upd H1 p (.lst [.ref t])) q (.lst (xs ++ [.ref t]))) := (Kept.new hp).trans (.new hq)
        have bq : BoxAt (upd (upd H1 p (.lst [.ref t])) q (.lst (xs ++ [.ref t]))) b := (b1.new hp).new hq
        refine ⟨b, q, _, rfl, bq, (b1.new hp).ne hq, SqL.of upd_same, by rw [List.length_append, len]; show 0 < 18; decide, by rw [List.length_append, len]; show 18 ≤ 1000; decide, fun v o hv ho => ?_⟩
        have kz : Kept b H1 (upd (upd (upd H1 p (.lst [.ref t])) q (.lst (xs ++ [.ref t]))) b o) := kq.trans Kept.box
        have zz := KeptS.of (S := S) Sb kz
        refine k v _ (kG.trans ((Kept.of_same s1).trans kz)) (.box ho) ?_
        rcases List.mem_append.mp hv with hv | hv
        · exact (dat v hv).kept ((KeptS.of_same s1).trans zz)
        · rw [List.mem_singleton] at hv
          subst hv
          exact ⟨nestT 7, okd_nest, fun H'' kk => d1 _ (zz.trans kk)⟩
end
end Lay
set_option Elab.async false
set_option linter.all false
set_option maxRecDepth 100000
set_option maxHeartbeats 4000000
/-! Exceptions of one's own as values that are held; repr of data; isinstance of both. -/
namespace Lay
open PySem PySem.Spec PyProof.Rows L2
section
variable {X : Cx} {C fI : Addr} {k : Nat} {fd : FuncData} {ps : List Str} {sp : Sp} {e : Expr} {es : List Expr} {te : TE} {ta : TA} {x f : Str} {p pos : Pos}
/-- a class with an __init__ of its own, called with values: the exception is held -/
theorem run_xnew {pins : List (Addr × Obj)} {σ : L2.St} {H : Hp} {s : Shared} {Q : VK} {us : List Value} {vs : List V} (T : OexC X.K C) (iC : PySem.W.findIn X.K (.ref C) "__init__" = some (some (.ref fI)))
    (tI : PySem.W.typeIn X.K (.ref fI) = some (.type "function")) (G : FnOk X.prog X.w X.K X.mg X.base CX0 k fI fd ps sp) (hr : Room (k + 1) X.A) (hb : Binds X.K fd ps []) (I : Inv X pins σ H s) (r : Vals vs us) (hz : vs.length ≤ 1000)
    (q : ∀ a, H a = none → sp (.ref a :: vs) (upd H a (exo a C none)) (fun v H2 => v = .non ∧ Q (.ref a) H2) E0) : wpAny (model X.prog X.w) X.A (call (.ref C) us) (EP X pins σ Q) X.xe s := by
  obtain ⟨nm, qn, N, bs, bm, sn, sub, ab, col, dd, k0, k1, k2, k3, k5, hC, hbm⟩ := T.cls
  obtain ⟨hp, g, dr, tk, os⟩ := s
  have young : hp.objs.size ≤ hp.objs.size + 1 := Nat.le_succ _
  have goal := q _ (I.hok.fresh young)
  have keep2 : ∀ b o, hp.get? b = some o → ((hp.push (PySem.W.kdv_tup us)).push (PySem.HandSPX.excO C hp.objs.size)).get? b = some o := fun b o z =>
    Heap.get?_push_of_some _ (Heap.get?_push_of_some _ z)
  have there : ((hp.push (PySem.W.kdv_tup us)).push (PySem.HandSPX.excO C hp.objs.size)).get? (hp.objs.size + 1) = some (PySem.HandSPX.excO C hp.objs.size) := by heap_get
  have J := I.laid (t' := tk) (a := hp.objs.size + 1) (o := exo (hp.objs.size + 1) C none) keep2 young (exo_ok there)
  have hl : (Value.ref (hp.objs.size + 1) :: us).length = ps.length := by
    rw [← G.len _ _ _ _ goal, List.length_cons, List.length_cons, Paired.length r]
  have hus : us.length ≤ sizeLine := by
    rw [← Paired.length r, sizeLine_eq]
    omega
  have rall : Vals (V.ref (hp.objs.size + 1) :: vs) (Value.ref (hp.objs.size + 1) :: us) := .cons rfl r
  have bound := hb _ (Value.ref (hp.objs.size + 1) :: us) J.kIn (by rw [List.append_nil]; exact hl)
  rw [List.append_nil] at bound
  refine wpAny_call (PySem.HandSPX.call_own F.excBase_ValueError (fun Y => PySem.HandSPX.refsVE_contains Y bm hbm) (I.kIn _ _ hC) (PySem.W.looks_findIn I.kIn iC) (fun self => PySem.W.bind_fn I.kIn self tI) hus
    (codeAny_mono (G.run _ X.stack _ _ ⟨Value.ref (hp.objs.size + 1) :: us, []⟩ _ _ _ E0 (hr.make C us []) (J.env0.make C us []) bound rall goal) fun res s' h => ?_))
  cases res with
  | error er => exact h.elim
  | ok fl =>
    cases fl with
    | ret u =>
      obtain ⟨v, H2, I2, rv, ev, q2⟩ := J.after h
      subst ev
      exact ⟨rv, V.ref (hp.objs.size + 1), H2, I2, rfl, q2⟩
    | next => exact h.elim
    | brk => exact h.elim
    | cont => exact h.elim
end
end Lay
set_option Elab.async false
set_option linter.all false
set_option maxRecDepth 100000
set_option maxHeartbeats 4000000
/-! Defs that are called where no repr is under way (the law's own), and the law's end from such a promise. -/
namespace Lay
open PySem PySem.Spec PyProof.Rows L2
/-- a def's promise, where no repr is under way around it -/
structure FnG (P : Program) (w : World) (K : PySem.W.Frag) (mg : Str → Option Value) (base : Heap) (k : Nat) (f : Addr) (fd : FuncData) (ps : List Str) (sp : Sp) : Prop where
  len : ∀ vs H Q E, sp vs H Q E → vs.length = ps.length
  go : ∀ (A : Around) (outer : List Env) (s : Shared) (H : Hp) (args : Args) (us : List Value) (vs : List V) (Q : VK), A.guards = some [] → Room k A → Env0 P w K mg base A outer s H →
    BindsTo s fd args (ps.zip us) → Vals vs us → sp vs H Q E0 → codeAny (model P w) A (.call (.ref f) args) (CR CX0 outer P w H s Q E0) s
section
variable {P : Program} {w : World} {K : PySem.W.Frag} {mg : Str → Option Value} {base : Heap}
theorem FnOk.g {k : Nat} {f : Addr} {fd : FuncData} {ps : List Str} {sp : Sp} (F : FnOk P w K mg base CX0 k f fd ps sp) : FnG P w K mg base k f fd ps sp :=
  ⟨F.len, fun A outer s H args us vs Q _ hr e b r h => F.run A outer s H args us vs Q E0 hr e b r h⟩
/-- a def of the text, by its body, which may lean on the silence around it -/
theorem Fun.okG {x qual : Str} {st : Stmt} {f : Addr} {fd : FuncData} {N ps : List Str} {k : Nat} {sp : Sp} (F : Fun K x qual st f fd) (S : FnScope N ps (defScope st)) (len : ∀ vs H Q E, sp vs H Q E → vs.length = ps.length)
    (hbody : ∀ (cdv : Value) (A : Around) (outer : List Env) (s : Shared) (H : Hp) (vs : List V) (Q : VK), A.guards = some [] → Room k (A.deeper (envOfC qual (defScope st) s.heap.objs.size f cdv)) → sp vs H Q E0 →
      ∃ t, PSs (cxOf CX0 P w K mg base N qual (defScope st) f cdv A outer s H E0).nox (defBody st) t ∧ t { nx := fun _ H' => Q .non H', rt := Q } (start N vs) H) : FnG P w K mg base (k + 1) f fd ps sp := by
  obtain ⟨oc, od, kV, doc, pm, an, cdv, ct, osl, rfl, lk, code⟩ := F.ex
  refine ⟨len, fun A outer s H args us vs Q silent hr e0 hb r want => ?_⟩
  have many := len _ _ _ _ want
  have kin : K.In s.heap := e0.mod.kin.keeps fun b o z => (e0.bs b o z).1
  have lim : s.heap.NoLimit := e0.mod.nolimit.keeps fun b o z => (e0.bs b o z).1
  have kinds : ∀ y ∈ ps.zip us, (defScope st).names.lookup y.1 = some .local ∨ ((defScope st).names.lookup y.1 = some .cell ∧ ((cellsFrom (s.heap.objs.size + 1) (defScope st).names []).lookup y.1).isSome = true) := by
    rintro ⟨nm, vl⟩ hy
    refine (S.par nm (List.of_mem_zip hy).1).imp id fun c => ⟨c, ?_⟩
    exact PySem.W.cellsFrom_some _ _ _ (.inl c)
  refine codeAny_call_function hr.depth (kin _ _ lk) rfl S.co S.gen rfl (PySem.W.codeRec_of kin code) (hb _ _ _ _ ?_)
  refine wpAny_newFunctionEnv_cells S.kind kinds fun env ee s1 x => ?_
  subst ee
  refine ⟨lim.keeps x.toInCall.keep, codeAny_func ?_⟩
  obtain ⟨t, ht, hq⟩ := hbody cdv A outer s H vs Q silent (hr.deeper _) want
  have I : Inv (cxOf CX0 P w K mg base N qual (defScope st) f cdv A outer s H E0).nox [] (start N vs) H s1 := (inv_start S hr.hd e0 many r x).wish _
  refine wpAny_mono (ht.run [] s1 (start N vs) H _ I hq) (fun fl s' hs => ?_) fun _ _ z => z.elim
  cases fl with
  | ret u =>
    obtain ⟨v, σ', H', J, rv, q⟩ := hs
    exact ⟨v, H', J.os, J.bare, J.base, J.hok, rv, q⟩
  | next =>
    obtain ⟨σ', H', J, q⟩ := hs
    exact ⟨.non, H', J.os, J.bare, J.base, J.hok, rfl, q⟩
  | brk =>
    obtain ⟨_, _, _, q⟩ := hs
    exact q.elim
  | cont =>
    obtain ⟨_, _, _, q⟩ := hs
    exact q.elim
end
/-- the script as it is read at the entry: an object of the module, or one that is known -/
theorem script_seen {P : Program} {w : World} {K : PySem.W.Frag} {s : Shared} {a : Addr} {vs : List Value} {ns : List Int} (kin : K.In s.heap) (ha : s.heap.get? a = some { cls := .type "list", data := .seq vs.toArray }) (hi : IntsAre vs ns)
    (hl : ns.length ≤ sizeLine) : ∃ H : Hp, Only H ∧ SqL K H a (ns.map V.int) ∧ HOk P w H s.heap ∧ ∀ b, H b ≠ none → b = a ∧ K.lookup b = none := by
  have rv := vals_ints hi
  have lv := hi.length
  cases hk : K.lookup a with
  | some o =>
    have e := kin a o hk
    rw [ha] at e
    cases e
    refine ⟨fun _ => none, fun _ => .inl rfl, .inr ⟨_, vs.toArray, _, hk, rfl, rfl, rfl, ?_, by simpa using rv⟩, fun b u z => (nomatch z), fun b z => absurd rfl z⟩
    rw [List.size_toArray, lv]
    exact hl
  | none =>
    let o : Obj := { cls := .type "list", data := .seq vs.toArray }
    let u : HO := .frz o (.lst (ns.map V.int))
    refine ⟨upd (fun _ => none) a u, fun b => ?_, .inl (.inr ⟨o, upd_same⟩), fun b v z => ?_, fun b z => ?_⟩
    · by_cases e : b = a
      · exact .inr ⟨_, _, by rw [e]; exact upd_same⟩
      · exact .inl (upd_ne e)
    · by_cases e : b = a
      · subst e
        rw [upd_same] at z
        cases z
        exact ⟨ha, by rw [List.length_map]; exact hl, vs, _, rv, ha⟩
      · rw [upd_ne e] at z
        cases z
    · by_cases e : b = a
      · exact ⟨e, by rw [e]; exact hk⟩
      · exact absurd (upd_ne e) z
/-- the law's end -/
theorem walkG {l : PySem.W.OpenLaw} {n k : Nat} {q : Program} {loose : List Str} {XP : (Str → Option Value) → Heap → Prop} {YP : World → Heap → Prop} {d : DefRec} {K : Params → PySem.W.Frag} {sp : World → Sp} {x : Str}
    (hn : l.most = some n) (hn2 : n ≤ sizeLine) (hdf : d.params.defaults = []) (hr : Room k callerA) (hY : ∀ (w : World) (h : Heap), YP w h → (K w.params).In h)
    (F : ∀ (w : World) (mg : Str → Option Value) (fa : Addr) (h : Heap), (K w.params).In h → h.Ns mainGlobals mg → mg d.name = some (.ref fa) →
      ∃ fd : FuncData, (∀ (s : Shared) (u : Value), BindsTo s fd ⟨[u], []⟩ [(x, u)]) ∧ ∀ base : Heap, (K w.params).In base → base.Ns mainGlobals mg → FnG l.prog w (K w.params) mg base k fa fd [x] (sp w))
    (hsp : ∀ (w : World) (H : Hp) (a : Addr) (ns : List Int), ns.length ≤ n → Only H → SqL (K w.params) H a (ns.map V.int) → sp w [.ref a] H (fun v _ => v = .bl true) E0) :
    PySem.W.WalkO q loose XP YP l.row.toRowW d [] (fun f vs => PySem.call f vs) := by
  refine Att.attach_call hn hdf fun w s₀ s₁ mg mb fa o pm cd doc a vs ns G Y ho hd hcd hmg hobj hints hlen hg => ?_
  have kin := hY w _ Y
  obtain ⟨fd, hb, hF⟩ := F w mg fa _ kin G.T.g hmg
  obtain ⟨H, hO, hS, hok, hA⟩ := script_seen (P := l.prog) (w := w) kin hobj hints (Nat.le_trans hlen hn2)
  have unT : ∀ {b : Addr} {u : Obj}, s₁.heap.get? b = some u → (b = a → False) → H b = none := fun {b u} _ nb => by
    cases z : H b with
    | none => rfl
    | some v => exact (nb (hA b (by rw [z]; exact fun y => nomatch y)).1).elim
  have ns : ∀ {b : Addr} {m : Str → Option Value}, s₁.heap.Ns b m → (hidT s₁.heap H).Ns b m := fun {b m} ⟨u, es, ep, e, dd, r⟩ =>
    ⟨u, es, ep, hidT_get e (unT e fun z => by
      subst z
      rw [hobj] at e
      cases e
      exact absurd dd (fun y => nomatch (show Data.seq vs.toArray _ = Data.dict es ep from y))), dd, r⟩
  have kinB : (K w.params).In (hidT s₁.heap H) := fun b u e => hidT_get (kin b u e) (by
    cases z : H b with
    | none => rfl
    | some v =>
      have y := (hA b (by rw [z]; exact fun y => nomatch y)).2
      rw [e] at y
      cases y)
  obtain ⟨mc, lim1, lim2⟩ := G.T.nolimit
  have M : Mod (K w.params) mg (hidT s₁.heap H) := ⟨kinB, ns G.T.g, ⟨mb, ns G.T.b, G.T.builtins⟩, ⟨mc, ns lim1, lim2⟩⟩
  have e0 : Env0 l.prog w (K w.params) mg (hidT s₁.heap H) callerA [] s₁ H := ⟨rfl, M, fun b u e => of_hidT e, Nat.le_of_eq (hidT_size _ _), trivial, fun b z => (nomatch z), hok, .of_eq hg⟩
  refine codeAny_mono ((hF _ kinB (ns G.T.g)).go callerA [] s₁ H ⟨[.ref a], []⟩ [.ref a] [.ref a] _ rfl hr e0 (hb s₁ (.ref a)) (.cons rfl .nil) (hsp w H a _ hlen hO hS)) fun r s' h => ?_
  cases r with
  | error e => exact h.elim
  | ok fl =>
    cases fl with
    | next => exact h.elim
    | brk => exact h.elim
    | cont => exact h.elim
    | ret u =>
      obtain ⟨v, H', os, bare, un, hok', rv, qq⟩ := h
      subst qq
      cases rv
      refine ⟨rfl, OldK.of_keep fun b u e => ?_, os, bare⟩
      rcases hO b with z | ⟨ob, xs, z⟩
      · exact un.keep b u e z (fun y => nomatch y) (fun y => nomatch y)
      · obtain ⟨e1, _⟩ := hok b _ z
        obtain ⟨e2, _⟩ := hok' b _ (un.frzs b ob _ z)
        rw [e] at e1
        cases e1
        exact e2
end Lay
set_option Elab.async false
set_option linter.all false
set_option maxRecDepth 100000
set_option maxHeartbeats 4000000
/-! An exception class of one's own with an __init__, called by one keyword. -/
namespace Lay
open PySem PySem.Spec PyProof.Rows L2 PySem.HandSPX
section
variable {prog : Program} {w : World} {M : Model} {A : Around} {E : Value → Shared → Prop} {R : Result → Shared → Prop} {hp : Heap} {g : Array GenState} {d : Drawn} {t : Nat} {os : OsState}
variable {nm q : Str} {C N : Addr} {bs bm bmB : List Value} {hdct : Bool} {sn : List Str} {sub : List Value} {ab : Bool} {col : Option Bool} {dd : Option Addr} {k0 k1 k2 k3 k5 : Option Value} {B newId initId : String} {n : Str} {v : Value}
/-- is the class object at C -/
def ExcAtC (hp : Heap) (nm q : Str) (C N : Addr) (bs bm : List Value) (hdct : Bool) (sn : List Str) (sub : List Value) (ab : Bool) (col : Option Bool) (dd : Option Addr) (k0 k1 k2 k3 k5 : Option Value) (newId : String) : Prop :=
  hp.get? C = some (excClassObj nm q C N bs bm hdct sn sub ab col dd k0 k1 k2 k3 k5 newId)
theorem kw_check_new (F : ExcBaseFacts B newId initId bmB) (hT : ∀ Y : String, bm.contains (.type Y) = bmB.contains (.type Y)) {Q : Unit → Shared → Prop}
    (hC : ExcAtC hp nm q C N bs bm hdct sn sub ab col dd k0 k1 k2 k3 k5 newId) (fin : Q () ⟨hp, g, d, t, os⟩) : wpAny M A (checkBuiltinCall newId ⟨[.ref C], [(n, v)]⟩) Q E ⟨hp, g, d, t, os⟩ := by
  unfold ExcAtC at hC
  have below : (Value.ref C :: bm).contains (.type B) = true := by
    rw [List.contains_cons, hT, F.hasB, Bool.or_true]
  have star := F.noStar
  simp only [checkBuiltinCall, F.newKind, F.newSplit, F.newRow]
  repeat (first
    | refine wpAny_loadPart_at hC ?_
    | (refine wpAny_isSubtype_exc hC ?_
       rw [below])
    | refine wpAny_staticBase_exc hC ?_
    | refine wpAny_madeBy_exc hC ?_
    | simp only [bne_self_eq_false, Bool.false_eq_true, if_false]
    | wp_step)
  exact fin
theorem kw_check_call {Q : Unit → Shared → Prop} (hC : ExcAtC hp nm q C N bs bm hdct sn sub ab col dd k0 k1 k2 k3 k5 newId) (fin : Q () ⟨hp, g, d, t, os⟩) :
    wpAny M A (checkBuiltinCall "type.__call__" ⟨[.ref C], [(n, v)]⟩) Q E ⟨hp, g, d, t, os⟩ := by
  unfold ExcAtC at hC
  have y1 := tc_sub
  have y2 : (⟨hp, g, d, t, os⟩ : Shared).TypeIs (.ref C) "type" := ⟨_, hC, rfl⟩
  simp only [checkBuiltinCall, tc_kind, tc_split]
  repeat (any_goals (first
    | assumption
    | with_reducible refine wpAny_loadPart_at hC ?_
    | with_reducible refine wpAny_onRaise ?_
    | with_reducible refine wpAny_map ?_
    | wp_step))
theorem kw_new (F : ExcBaseFacts B newId initId bmB) (hT : ∀ Y : String, bm.contains (.type Y) = bmB.contains (.type Y)) (hC : ExcAtC hp nm q C N bs bm hdct sn sub ab col dd k0 k1 k2 k3 k5 newId)
    (fin : R (.ok (.ret (.ref (hp.objs.size + 1)))) ⟨(hp.push (PySem.W.kdv_tup [])).push (excO C hp.objs.size), g, d, t, os⟩) :
    codeAny (model prog w) A (.builtin newId ⟨[.ref C], [(n, v)]⟩) R ⟨hp, g, d, t, os⟩ := by
  unfold ExcAtC at hC
  have ends := F.ends
  have inB : (Value.ref C :: bm).contains (.type B) = true := by
    rw [List.contains_cons, hT, F.hasB, Bool.or_true]
  have inA : (Value.ref C :: bm).contains (.type "AttributeError") = false := by
    rw [List.contains_cons, hT, F.noAttr]
    rfl
  have inN : (Value.ref C :: bm).contains (.type "NameError") = false := by
    rw [List.contains_cons, hT, F.noName]
    rfl
  refine codeAny_builtinAt F.entry ?_
  unfold Builtin.«BaseException.__new__»
  refine PySem.wpAt_bind ?_
  show PySem.wpAt _ _ _ (stack >>= _) _ _ _
  refine PySem.wpAt_bind (PySem.wpAt_stack fun pp bb => PySem.wpAt_of_wpAny ?_)
  wp_walk
  refine PySem.wpAt_of_wpAny ?_
  rw [F.owner]
  repeat (first
    | with_reducible refine wpAny_madeHere_exc F.canon hC ?_
    | with_reducible refine wpAny_loadPart_at hC ?_
    | (with_reducible refine wpAny_isSubtype_exc hC ?_
       first
         | rw [inB]
         | rw [inA]
         | rw [inN])
    | wp_step)
  show R _ _
  rw [Heap.size_push]
  exact fin
theorem kw_type_call (F : ExcBaseFacts B newId initId bmB) (hT : ∀ Y : String, bm.contains (.type Y) = bmB.contains (.type Y)) {fI : Addr} {Q : Fin → Shared → Prop} (hC : ExcAtC hp nm q C N bs bm hdct sn sub ab col dd k0 k1 k2 k3 k5 newId)
    (hi : PySem.W.Looks (model prog w) hp (typeLookup (.ref C) "__init__") (some (.ref fI))) (hb : ∀ self, PySem.W.Looks (model prog w) hp (bindSpecial (.ref fI) self) (.ref fI, [self]))
    (fin : codeAny (model prog w) A (.call (.ref fI) ⟨[.ref (hp.objs.size + 1)], [(n, v)]⟩)
      (fun r s' => match r with
        | .ok (.ret u) => u = .none ∧ Q (.done (.ret (.ref (hp.objs.size + 1)))) s'
        | .ok _ => False
        | .error e => E e s') ⟨(hp.push (PySem.W.kdv_tup [])).push (excO C hp.objs.size), g, d, t, os⟩) :
    wpAny (model prog w) A (Builtin.«type.__call__» ⟨[.ref C], [(n, v)]⟩) Q E ⟨hp, g, d, t, os⟩ := by
  have hC' := hC
  unfold ExcAtC at hC
  repeat (first
    | with_reducible refine wpAny_loadPart_at hC ?_
    | with_reducible refine wpAny_madeBy_exc hC ?_
    | wp_step)
  refine codeAny_call_builtin_code (Code.quiet_builtin _ F.quiet) (kw_check_new F hT hC' ?_)
  refine kw_new F hT hC' ?_
  show wpAny _ _ _ _ _ _
  have kk : ∀ b o, hp.get? b = some o → ((hp.push (PySem.W.kdv_tup [])).push (excO C hp.objs.size)).get? b = some o := fun b o z =>
    Heap.get?_push_of_some _ (Heap.get?_push_of_some _ z)
  have hC2 := kk _ _ hC
  have at2 : ((hp.push (PySem.W.kdv_tup [])).push (excO C hp.objs.size)).get? (hp.objs.size + 1) = some (excO C hp.objs.size) := by heap_get
  have inC : (Value.ref C :: bm).contains (.ref C) = true := by simp
  have i2 := hi.keeps kk
  have b2 := (hb (.ref (hp.objs.size + 1))).keeps kk
  unfold isInstance
  repeat (first
    | with_reducible refine wpAny_loadPart_at at2 ?_
    | (with_reducible refine wpAny_isSubtype_exc hC2 ?_
       rw [inC])
    | wp_step)
  show wpAny _ _ (typeLookup (.ref C) _) _ _ _
  refine i2.at ?_
  refine wpAny_holding (wpAny_bind (b2.at ?_))
  refine wpAny_bind (wpAny_call (codeAny_mono fin fun r s' z => ?_))
  rcases r with e | (u | _ | _ | _) <;> first | exact z | exact z.elim | skip
  obtain ⟨rfl, z⟩ := z
  first
    | exact wpAny_pure (wpAny_pure z)
    | (wp_walk
       exact z)
theorem kw_call (F : ExcBaseFacts B newId initId bmB) (hT : ∀ Y : String, bm.contains (.type Y) = bmB.contains (.type Y)) {fI : Addr} (hC : ExcAtC hp nm q C N bs bm hdct sn sub ab col dd k0 k1 k2 k3 k5 newId)
    (hi : PySem.W.Looks (model prog w) hp (typeLookup (.ref C) "__init__") (some (.ref fI))) (hb : ∀ self, PySem.W.Looks (model prog w) hp (bindSpecial (.ref fI) self) (.ref fI, [self]))
    (fin : codeAny (model prog w) (A.under (.builtin "type.__call__" ⟨[.ref C], [(n, v)]⟩)) (.call (.ref fI) ⟨[.ref (hp.objs.size + 1)], [(n, v)]⟩) (PySem.W.InitBack (hp.objs.size + 1) R)
      ⟨(hp.push (PySem.W.kdv_tup [])).push (excO C hp.objs.size), g, d, t, os⟩) : codeAny (model prog w) A (.call (.ref C) ⟨[], [(n, v)]⟩) R ⟨hp, g, d, t, os⟩ := by
  have y1 := tc_lookup
  have y2 := tc_bind (.ref C)
  have hC' := hC
  unfold ExcAtC at hC
  have y3 : (⟨hp, g, d, t, os⟩ : Shared).TypeIs (.ref C) "type" := ⟨_, hC, rfl⟩
  refine codeAny_of_tree ?_
  show wpAny _ _ (callAny (.ref C) _) _ _ _
  repeat (any_goals (first
    | assumption
    | with_reducible refine wpAny_loadPart_at hC ?_
    | wp_step))
  refine ⟨rfl, ?_⟩
  refine codeAny_call_builtin_at (Code.quiet_builtin _ (by decide +kernel)) entry_typeCall (kw_check_call hC' (kw_type_call F hT hC' hi hb ?_))
  refine codeAny_mono fin fun r s' z => ?_
  rcases r with e | (u | _ | _ | _) <;> exact z
end
end Lay
set_option Elab.async false
set_option linter.all false
set_option maxRecDepth 100000
set_option maxHeartbeats 4000000
namespace Lay
open PySem PySem.Spec PyProof.Rows L2
/-! ### exceptions that are held -/
/-- at a an exception of the class at D is held, with these fields of its own -/
def HeldX (H : Hp) (a D : Addr) (fs : List (Str × V)) : Prop := (∃ d, H a = some (exo a D (some d)) ∧ H d = some (exd d fs)) ∨ (fs = [] ∧ H a = some (ExO (.ref D) a))
theorem HeldX.same {H H' : Hp} {a D : Addr} {fs : List (Str × V)} (x : HeldX H a D fs) (s : Same H H') : HeldX H' a D fs := by
  rcases x with ⟨d, h1, h2⟩ | ⟨h1, h2⟩
  · exact .inl ⟨d, s _ _ h1, s _ _ h2⟩
  · exact .inr ⟨h1, s _ _ h2⟩
theorem lst_ext {xs : List V} {φ : Heap → Prop} : HO.ext φ ≠ .lst xs := fun z => nomatch z
/-- what is changed at a list touches no exception -/
theorem HeldX.kept {H H' : Hp} {a b D : Addr} {fs : List (Str × V)} {xs : List V} (x : HeldX H a D fs) (k : Kept b H H') (hb : H b = some (.lst xs)) : HeldX H' a D fs := by
  rcases x with ⟨d, h1, h2⟩ | ⟨h1, h2⟩
  · exact .inl ⟨d, k _ _ (ne_of h1 hb lst_ext) h1, k _ _ (ne_of h2 hb lst_ext) h2⟩
  · exact .inr ⟨h1, k _ _ (ne_of h2 hb lst_ext) h2⟩
/-- the reading of C(e, ..) -/
def tXNew (sp : Sp) (C : Addr) (ta : TA) : TE := fun σ H Q => ta σ H fun vs H1 => vs.length ≤ 1000 ∧ ∀ a, H1 a = none → sp (.ref a :: vs) (upd H1 a (exo a C none)) (fun v H2 => v = .non ∧ Q (.ref a) H2) E0
def tXNewK (sp : Sp) (C : Addr) (te : TE) : TE := fun σ H Q => te σ H fun v H1 => ∀ a, H1 a = none → sp [.ref a, v] (upd H1 a (exo a C none)) (fun u H2 => u = .non ∧ Q (.ref a) H2) E0
section
variable {X : Cx} {C fI : Addr} {k : Nat} {fd : FuncData} {ps : List Str} {sp : Sp} {e : Expr} {es : List Expr} {te : TE} {ta : TA} {x f : Str} {p pos kpos : Pos}
theorem pe_xnew (T : OexC X.K C) (iC : PySem.W.findIn X.K (.ref C) "__init__" = some (some (.ref fI))) (tI : PySem.W.typeIn X.K (.ref fI) = some (.type "function")) (G : FnOk X.prog X.w X.K X.mg X.base CX0 k fI fd ps sp)
    (hr : Room (k + 1) X.A) (hb : Binds X.K fd ps []) (hg : Gl X x) (hm : X.mg x = some (.ref C)) (ha : PA X (e :: es) ta) (hdb : (x == ("__debug__" : Str)) = false := by decide)
    (he : starEach (e :: es) X.env = (false, eval e X.env) :: starEach es X.env := by rfl) (hpl : (backTo pos (starEach es X.env)).any (·.1) = false := by rfl) : PE X (.Call (.Name x p) (e :: es) [] pos) (tXNew sp C ta) := by
  refine ⟨fun pins s σ H Q I h => wpAny_Call_Name_kw (ld_glob I hg hm ?_ hdb)⟩
  refine PySem.W.callWith_K (h₀ := X.base) I.ok.mod.kin T.kC (thn (ha.run pos pins s σ H _ I h) fun us s1 ⟨vs, H1, I1, r, hz, q⟩ => ⟨I1.kIn, ?_⟩) he hpl
  exact run_xnew T iC tI G hr hb I1 r hz q
/-- C(n = e), one keyword -/
theorem pe_xnewK {n : Str} (T : OexC X.K C) (iC : PySem.W.findIn X.K (.ref C) "__init__" = some (some (.ref fI))) (tI : PySem.W.typeIn X.K (.ref fI) = some (.type "function")) (G : FnOk X.prog X.w X.K X.mg X.base CX0 k fI fd ps sp)
    (hr : Room (k + 1) X.A) (hb : ∀ (s : Shared) (u v : Value), BindsTo s fd ⟨[u], [(n, v)]⟩ (ps.zip [u, v])) (hg : Gl X x) (hm : X.mg x = some (.ref C)) (he : PE X e te) (hdb : (x == ("__debug__" : Str)) = false := by decide)
    (hall : (backToKw pos (keywordEach [⟨some n, e, kpos⟩] X.env)).all (·.1.isSome) = true := by rfl) (hks : (backToKw pos (keywordEach [⟨some n, e, kpos⟩] X.env)).filterMap (·.1) = [n] := by rfl)
    (hpl : ((backTo pos (starEach [] X.env)).any (·.1) || (backToKw pos (keywordEach [⟨some n, e, kpos⟩] X.env)).any (·.1.isNone)) = false := by rfl) :
    PE X (.Call (.Name x p) [] [⟨some n, e, kpos⟩] pos) (tXNewK sp C te) := by
  refine ⟨fun pins s σ H Q I h => wpAny_Call_Name_kw (ld_glob I hg hm ?_ hdb)⟩
  refine PySem.W.callWith_KW0 (h₀ := X.base) I.ok.mod.kin T.kC hall ?_ hpl
  refine thn ((pk_cons (nm := some n) (kpos := kpos) he pk_nil).run pos pins s σ H (fun vs H1 => ∃ v, vs = [v] ∧ ∀ a, H1 a = none → sp [.ref a, v] (upd H1 a (exo a C none)) (fun u H2 => u = .non ∧ Q (.ref a) H2) E0) I ?_) fun us s1 hh => ?_
  · have mono : ∀ {Q1 Q2 : VK}, Q1 = Q2 → te σ H Q1 → te σ H Q2 := fun z y => z ▸ y
    refine mono ?_ h
    funext v H1
    refine propext ⟨fun y => ⟨v, rfl, y⟩, fun y => ?_⟩
    obtain ⟨v', e1, y⟩ := y
    cases e1
    exact y
  obtain ⟨vs, H1, I1, r, v, ev, q⟩ := hh
  subst ev
  obtain ⟨u, rfl, rv⟩ := vals1 r
  refine ⟨I1.kIn, ?_⟩
  rw [hks]
  obtain ⟨nm, qn, N, bs, bm, sn, sub, ab, col, dd, k0, k1, k2, k3, k5, hC, hbm⟩ := T.cls
  obtain ⟨hp, g, dr, tk, os⟩ := s1
  have young : hp.objs.size ≤ hp.objs.size + 1 := Nat.le_succ _
  have goal := q _ (I1.hok.fresh young)
  have keep2 : ∀ b o, hp.get? b = some o → ((hp.push (PySem.W.kdv_tup [])).push (PySem.HandSPX.excO C hp.objs.size)).get? b = some o := fun b o z =>
    Heap.get?_push_of_some _ (Heap.get?_push_of_some _ z)
  have there : ((hp.push (PySem.W.kdv_tup [])).push (PySem.HandSPX.excO C hp.objs.size)).get? (hp.objs.size + 1) = some (PySem.HandSPX.excO C hp.objs.size) := by heap_get
  have J := I1.laid (t' := tk) (a := hp.objs.size + 1) (o := exo (hp.objs.size + 1) C none) keep2 young (exo_ok there)
  have rall : Vals [V.ref (hp.objs.size + 1), v] [Value.ref (hp.objs.size + 1), u] := .cons rfl (.cons rv .nil)
  refine wpAny_call (kw_call F.excBase_ValueError (fun Y => PySem.HandSPX.refsVE_contains Y bm hbm) (I1.kIn _ _ hC) (PySem.W.looks_findIn I1.kIn iC) (fun self => PySem.W.bind_fn I1.kIn self tI)
    (codeAny_mono (G.run _ X.stack _ _ ⟨[Value.ref (hp.objs.size + 1)], [(n, u)]⟩ _ _ _ E0 (hr.make C [] [(n, u)]) (J.env0.make C [] [(n, u)]) (hb _ _ _) rall goal) fun res s' y => ?_))
  cases res with
  | error er => exact y.elim
  | ok fl =>
    cases fl with
    | ret u =>
      obtain ⟨z, H2, I2, rz, ez, q2⟩ := J.after y
      subst ez
      exact ⟨rz, V.ref (hp.objs.size + 1), H2, I2, rfl, q2⟩
    | next => exact y.elim
    | brk => exact y.elim
    | cont => exact y.elim
/-- C(), an exception class without an __init__ of its own -/
theorem pe_xnew0 {bmB : List Value} {B newId initId : String} (F : ExcBaseFacts B newId initId bmB) (q : PySem.W.excIn X.K C bmB newId = true) (gC : X.mg x = some (.ref C)) (kC : PySem.W.keepIn X.K (.ref C) = true) (hg : Gl X x)
    (hdb : (x == ("__debug__" : Str)) = false := by decide) : PE X (.Call (.Name x p) [] [] pos) (fun _ H Q => ∀ a, H a = none → Q (.ref a) (upd H a (ExO (.ref C) a))) := by
  refine ⟨fun pins s σ H Q I h => ?_⟩
  refine wpAny_Call_Name_kw (ld_glob I hg gC ?_ hdb)
  refine PySem.W.callWith_KW0 (kws := []) (h₀ := X.base) I.ok.mod.kin kC rfl ?_ rfl
  refine wpAny_evalAll_nil ⟨I.kIn, ?_⟩
  show wpAny _ _ (call (.ref C) []) _ _ _
  obtain ⟨bm, N, nm, qn, bs, hdct, sn, sub, ab, col, dd, k0, k1, k2, k3, k5, mN, hC, hN, hni, T⟩ := exc_obj I.kIn q
  refine wpAny_call_exc_subT F T hC hN hni (fun h' a hm => ?_) (Nat.zero_le _)
  have fresh : H a = none := I.hok.gone hm.new
  obtain ⟨t, ht, _, _⟩ := hm.there
  exact ⟨.ref a, upd H a (ExO (.ref C) a), I.laidN hm.keeps hm.new fresh (exO_ok ht ⟨rfl, rfl⟩ rfl rfl rfl (show 4 < 6 by decide)), rfl, h a fresh⟩
/-- e.n, e an exception that is held -/
theorem pe_xfld {n : Str} (he : PE X e te) (hb : attributeBase e n X.env (eval e X.env) = eval e X.env := by rfl) :
    PE X (.Attribute e n pos) (fun σ H Q => te σ H fun x H1 => ∃ (a D : Addr) (fs : List (Str × V)) (v : V), x = .ref a ∧ HeldX H1 a D fs ∧ XfC X.K D ∧ PySem.W.findIn X.K (.ref D) n = some none ∧ fs.lookup n = some v ∧ Q v H1) := by
  refine ⟨fun pins s σ H Q I h => attr_of hb (thn (he.run pins s σ H _ I h) fun u s1 hh => ?_)⟩
  obtain ⟨x, H1, I1, rx, a, D, fs, v, ex, held, T, no, lk, q⟩ := hh
  subst ex
  cases rx
  rcases held with ⟨dd, h1, h2⟩ | ⟨h1, _⟩
  · obtain ⟨t1, ho⟩ := exo_at I1.hok h1
    obtain ⟨mA, hns, rel⟩ := exd_at I1.hok h2
    obtain ⟨od, hod, hl⟩ := lookIn_ns hns
    obtain ⟨u, hu, ru⟩ := RelO.some_of (v := v) (o := mA n) (by rw [← lk]; exact rel n)
    have J : PySem.W.InstAt s1.heap a _ D (some od) := ⟨ho, rfl, rfl, hod⟩
    exact HandSPX.exc_get I1.kIn J T.ga T.gg T.exC (PySem.W.findObj_own T.hdC no rfl (by rw [hl, hu])) (handed_of ru) ⟨v, H1, I1.tok _, ru, q⟩
  · rw [h1] at lk
    cases lk
/-- isinstance(e, c), e an exception that is held -/
def rIsX (K : PySem.W.Frag) : List V → Hp → VK → Prop := fun xs H Q => ∃ (a D : Addr) (fs : List (Str × V)) (c : V) (cv : Value) (b : Bool), xs = [.ref a, c] ∧ HeldX H a D fs ∧ ExcC K D ∧ ClsV c cv ∧ PySem.W.kitOne K (.ref D) cv = some b ∧ Q (.bl b) H
theorem call_isX : CallR X (.builtin "isinstance") (rIsX X.K) := by
  intro pins s σ H xs us Q I r h
  obtain ⟨a, D, fs, c, cv, b, rfl, held, C, k, e, q⟩ := h
  obtain ⟨u1, u2, rfl, r1, r2⟩ := vals2 r
  cases r1
  have e2 := k.eq r2
  subst e2
  have hcl : (PySem.W.clsIn X.K D).isSome = true := by
    obtain ⟨cd, hc, _⟩ := PySem.W.any_some C.hd
    rw [hc]
    rfl
  rcases held with ⟨dd, h1, h2⟩ | ⟨_, h1⟩
  · obtain ⟨t1, ho⟩ := exo_at I.hok h1
    obtain ⟨mA, ⟨od, es, ep, hod, _⟩, _⟩ := exd_at I.hok h2
    have J : PySem.W.InstAt s.heap a _ D (some od) := ⟨ho, rfl, rfl, hod⟩
    exact PySem.W.kia_one (PySem.W.kitx_exc hcl C.hg C.hk C.hs C.ha C.hn C.ht C.hm) I.kIn J e (fun z => nomatch z) fun tk => ⟨.bl b, H, I.tok tk, rfl, q⟩
  · obtain ⟨⟨oe, vs, ho, ⟨z1, z2⟩, hd, _⟩, _⟩ := I.hok a _ h1
    obtain ⟨oc, odd, oda, osl⟩ := oe
    dsimp only at z1 z2 hd
    subst z1 z2 hd
    have J : PySem.W.InstAt s.heap a _ D none := ⟨ho, rfl, rfl, trivial⟩
    exact PySem.W.kia_one (PySem.W.kitx_exc hcl C.hg C.hk C.hs C.ha C.hn C.ht C.hm) I.kIn J e (fun z => nomatch z) fun tk => ⟨.bl b, H, I.tok tk, rfl, q⟩
/-- repr of a list or a tuple of data, where no repr is under way -/
def rReprD (K : PySem.W.Frag) : List V → Hp → VK → Prop := fun xs H Q => ∃ (a : Addr) (d : PyData), xs = [.ref a] ∧ Dp K H (.ref a) d ∧ d.showable = true ∧ d.hasDict = false ∧ d.depth ≤ 60 ∧ d.shown.length ≤ sizeLine ∧ Q (.str d.shown) H
theorem call_reprD (silent : X.A.guards = some []) (hu : X.A.units + 64 < cLine) : CallR X (.builtin "repr") (rReprD X.K) := by
  intro pins s σ H xs us Q I r h
  obtain ⟨a, d, rfl, hd, h1, h2, h3, h4, q⟩ := h
  obtain ⟨u, rfl, ru⟩ := vals1 r
  cases ru
  obtain ⟨as, rd⟩ := Dp.reads I d (.ref a) (.ref a) hd rfl
  exact repr_of_reads' rd h1 (PyData.noDict_hsm h2) silent (by omega) (fun _ _ z => z) (fun h' u tk hk => ⟨.str _, H, I.kept hk, ⟨_, rfl⟩, q⟩) h4
end
end Lay
set_option Elab.async false
set_option linter.all false
set_option maxRecDepth 100000
set_option maxHeartbeats 4000000
namespace Lay
open PySem L2
/-- an error class with an __init__ of its own that keeps f -/
structure XC (K : PySem.W.Frag) (mg : Str → Option Value) (C fI : Addr) (x f : Str) : Prop where
  oex : OexC K C
  init : PySem.W.findIn K (.ref C) "__init__" = some (some (.ref fI))
  tI : PySem.W.typeIn K (.ref fI) = some (.type "function")
  gC : mg x = some (.ref C)
  no : PySem.W.findIn K (.ref C) f = some none
  isC : ExcC K C
  xf : XfC K C
/-- one without -/
structure YC (K : PySem.W.Frag) (mg : Str → Option Value) (C : Addr) (x : Str) : Prop where
  ex : PySem.W.excIn K C [.type "ValueError", .type "Exception", .type "BaseException", .type "object"] "ValueError.__new__" = true
  gC : mg x = some (.ref C)
  kC : PySem.W.keepIn K (.ref C) = true
  isC : ExcC K C
def spInit (K : PySem.W.Frag) (C : Addr) (f : Str) : Sp := fun vs H Q _ => ∃ (a : Addr) (v : V), vs = [.ref a, v] ∧ OexC K C ∧ PySem.W.findIn K (.ref C) f = some none ∧ H a = some (exo a C none) ∧
  ∀ dx, H dx = none → dx ≠ a → Q .non (upd (upd H dx (exd dx [(f, v)])) a (exo a C (some dx)))
/-- what a call of such a class comes to -/
theorem made_at {K : PySem.W.Frag} {mg : Str → Option Value} {C fI a : Addr} {x f : Str} {H : Hp} {v : V} {R : Hp → Prop} (X : XC K mg C fI x f) (ha : H a = none) (k : ∀ H', Same H H' → HeldX H' a C [(f, v)] → R H') :
    spInit K C f [.ref a, v] (upd H a (exo a C none)) (fun u H2 => u = .non ∧ R H2) E0 := by
  refine ⟨a, v, rfl, X.oex, X.no, upd_same, fun dx hd ne => ⟨rfl, k _ (fun b o e => ?_) (.inl ⟨dx, upd_same, ?_⟩)⟩⟩
  · have nb : b ≠ a := ne_of_none e ha
    have nd : b ≠ dx := fun z => by
      rw [z] at e
      rw [upd_ne ne, e] at hd
      cases hd
    rw [upd_ne nb, upd_ne nd, upd_ne nb]
    exact e
  · rw [upd_ne ne, upd_same]
section
variable {P : Program} {w : World} {K : PySem.W.Frag} {mg : Str → Option Value} {base : Heap}

abbrev sIInvalidPiece : Stmt := inClass (top 2) 0
theorem scIInvalidPiece : FnScope ["self", "word"] ["self", "word"] (defScope sIInvalidPiece) := ⟨rfl, rfl, rfl, by decide +kernel, rfl, by decide +kernel, by decide +kernel⟩
theorem ok_iInvalidPiece {f C : Addr} {fd : FuncData} (F : Fun K "__init__" "InvalidPiece.__init__" sIInvalidPiece f fd) : FnOk P w K mg base CX0 1 f fd ["self", "word"] (spInit K C "word") := by
  refine F.ok scIInvalidPiece (fun vs H Q E h => ?_) (fun cdv A outer s H vs Q E hr h => ?_)
  · obtain ⟨a, v, rfl, _⟩ := h
    rfl
  · obtain ⟨a, v, rfl, T, no, ha, k⟩ := h
    exact ⟨_, pss_one (ps_ost (pv 0) (pv 1)), _, rfl, _, rfl, a, C, rfl, T, no, .inl ⟨ha, fun dx h1 h2 => k dx h1 h2⟩⟩

abbrev sIInvalidProgram : Stmt := inClass (top 3) 0
theorem scIInvalidProgram : FnScope ["self", "at"] ["self", "at"] (defScope sIInvalidProgram) := ⟨rfl, rfl, rfl, by decide +kernel, rfl, by decide +kernel, by decide +kernel⟩
theorem ok_iInvalidProgram {f C : Addr} {fd : FuncData} (F : Fun K "__init__" "InvalidProgram.__init__" sIInvalidProgram f fd) : FnOk P w K mg base CX0 1 f fd ["self", "at"] (spInit K C "at") := by
  refine F.ok scIInvalidProgram (fun vs H Q E h => ?_) (fun cdv A outer s H vs Q E hr h => ?_)
  · obtain ⟨a, v, rfl, _⟩ := h
    rfl
  · obtain ⟨a, v, rfl, T, no, ha, k⟩ := h
    exact ⟨_, pss_one (ps_ost (pv 0) (pv 1)), _, rfl, _, rfl, a, C, rfl, T, no, .inl ⟨ha, fun dx h1 h2 => k dx h1 h2⟩⟩

abbrev sIInvalidText : Stmt := inClass (top 4) 0
theorem scIInvalidText : FnScope ["self", "at"] ["self", "at"] (defScope sIInvalidText) := ⟨rfl, rfl, rfl, by decide +kernel, rfl, by decide +kernel, by decide +kernel⟩
theorem ok_iInvalidText {f C : Addr} {fd : FuncData} (F : Fun K "__init__" "InvalidText.__init__" sIInvalidText f fd) : FnOk P w K mg base CX0 1 f fd ["self", "at"] (spInit K C "at") := by
  refine F.ok scIInvalidText (fun vs H Q E h => ?_) (fun cdv A outer s H vs Q E hr h => ?_)
  · obtain ⟨a, v, rfl, _⟩ := h
    rfl
  · obtain ⟨a, v, rfl, T, no, ha, k⟩ := h
    exact ⟨_, pss_one (ps_ost (pv 0) (pv 1)), _, rfl, _, rfl, a, C, rfl, T, no, .inl ⟨ha, fun dx h1 h2 => k dx h1 h2⟩⟩

abbrev sIInvalidRow : Stmt := inClass (top 5) 0
theorem scIInvalidRow : FnScope ["self", "part"] ["self", "part"] (defScope sIInvalidRow) := ⟨rfl, rfl, rfl, by decide +kernel, rfl, by decide +kernel, by decide +kernel⟩
theorem ok_iInvalidRow {f C : Addr} {fd : FuncData} (F : Fun K "__init__" "InvalidRow.__init__" sIInvalidRow f fd) : FnOk P w K mg base CX0 1 f fd ["self", "part"] (spInit K C "part") := by
  refine F.ok scIInvalidRow (fun vs H Q E h => ?_) (fun cdv A outer s H vs Q E hr h => ?_)
  · obtain ⟨a, v, rfl, _⟩ := h
    rfl
  · obtain ⟨a, v, rfl, T, no, ha, k⟩ := h
    exact ⟨_, pss_one (ps_ost (pv 0) (pv 1)), _, rfl, _, rfl, a, C, rfl, T, no, .inl ⟨ha, fun dx h1 h2 => k dx h1 h2⟩⟩

abbrev sIInvalidTool : Stmt := inClass (top 6) 0
theorem scIInvalidTool : FnScope ["self", "at"] ["self", "at"] (defScope sIInvalidTool) := ⟨rfl, rfl, rfl, by decide +kernel, rfl, by decide +kernel, by decide +kernel⟩
theorem ok_iInvalidTool {f C : Addr} {fd : FuncData} (F : Fun K "__init__" "InvalidTool.__init__" sIInvalidTool f fd) : FnOk P w K mg base CX0 1 f fd ["self", "at"] (spInit K C "at") := by
  refine F.ok scIInvalidTool (fun vs H Q E h => ?_) (fun cdv A outer s H vs Q E hr h => ?_)
  · obtain ⟨a, v, rfl, _⟩ := h
    rfl
  · obtain ⟨a, v, rfl, T, no, ha, k⟩ := h
    exact ⟨_, pss_one (ps_ost (pv 0) (pv 1)), _, rfl, _, rfl, a, C, rfl, T, no, .inl ⟨ha, fun dx h1 h2 => k dx h1 h2⟩⟩

abbrev sIRefused : Stmt := inClass (top 9) 0
theorem scIRefused : FnScope ["self", "word"] ["self", "word"] (defScope sIRefused) := ⟨rfl, rfl, rfl, by decide +kernel, rfl, by decide +kernel, by decide +kernel⟩
theorem ok_iRefused {f C : Addr} {fd : FuncData} (F : Fun K "__init__" "Refused.__init__" sIRefused f fd) : FnOk P w K mg base CX0 1 f fd ["self", "word"] (spInit K C "word") := by
  refine F.ok scIRefused (fun vs H Q E h => ?_) (fun cdv A outer s H vs Q E hr h => ?_)
  · obtain ⟨a, v, rfl, _⟩ := h
    rfl
  · obtain ⟨a, v, rfl, T, no, ha, k⟩ := h
    exact ⟨_, pss_one (ps_ost (pv 0) (pv 1)), _, rfl, _, rfl, a, C, rfl, T, no, .inl ⟨ha, fun dx h1 h2 => k dx h1 h2⟩⟩

abbrev sINoPiece : Stmt := inClass (top 10) 0
theorem scINoPiece : FnScope ["self", "at"] ["self", "at"] (defScope sINoPiece) := ⟨rfl, rfl, rfl, by decide +kernel, rfl, by decide +kernel, by decide +kernel⟩
theorem ok_iNoPiece {f C : Addr} {fd : FuncData} (F : Fun K "__init__" "NoPiece.__init__" sINoPiece f fd) : FnOk P w K mg base CX0 1 f fd ["self", "at"] (spInit K C "at") := by
  refine F.ok scINoPiece (fun vs H Q E h => ?_) (fun cdv A outer s H vs Q E hr h => ?_)
  · obtain ⟨a, v, rfl, _⟩ := h
    rfl
  · obtain ⟨a, v, rfl, T, no, ha, k⟩ := h
    exact ⟨_, pss_one (ps_ost (pv 0) (pv 1)), _, rfl, _, rfl, a, C, rfl, T, no, .inl ⟨ha, fun dx h1 h2 => k dx h1 h2⟩⟩

abbrev sINoRow : Stmt := inClass (top 11) 0
theorem scINoRow : FnScope ["self", "at"] ["self", "at"] (defScope sINoRow) := ⟨rfl, rfl, rfl, by decide +kernel, rfl, by decide +kernel, by decide +kernel⟩
theorem ok_iNoRow {f C : Addr} {fd : FuncData} (F : Fun K "__init__" "NoRow.__init__" sINoRow f fd) : FnOk P w K mg base CX0 1 f fd ["self", "at"] (spInit K C "at") := by
  refine F.ok scINoRow (fun vs H Q E h => ?_) (fun cdv A outer s H vs Q E hr h => ?_)
  · obtain ⟨a, v, rfl, _⟩ := h
    rfl
  · obtain ⟨a, v, rfl, T, no, ha, k⟩ := h
    exact ⟨_, pss_one (ps_ost (pv 0) (pv 1)), _, rfl, _, rfl, a, C, rfl, T, no, .inl ⟨ha, fun dx h1 h2 => k dx h1 h2⟩⟩

end
end Lay
set_option Elab.async false
set_option linter.all false
set_option maxRecDepth 100000
set_option maxHeartbeats 4000000
namespace Lay
open PySem L2
/-- an error class with its __init__, all that a call of it wants -/
structure XI (P : Program) (w : World) (K : PySem.W.Frag) (mg : Str → Option Value) (base : Heap) (C fI : Addr) (fd : FuncData) (x f : Str) : Prop where
  c : XC K mg C fI x f
  g : FnOk P w K mg base CX0 1 fI fd ["self", f] (spInit K C f)
  b : Binds K fd ["self", f] []
  kb : ∀ (s : Shared) (u v : Value), BindsTo s fd ⟨[u], [(f, v)]⟩ (([("self" : Str), f] : List Str).zip [u, v])
/-- the ten classes -/
structure Ten (P : Program) (w : World) (K : PySem.W.Frag) (mg : Str → Option Value) (base : Heap) (cs fi : Nat → Addr) (fd : Nat → FuncData) : Prop where
  x0 : XI P w K mg base (cs 0) (fi 0) (fd 0) "InvalidPiece" "word"
  x1 : XI P w K mg base (cs 1) (fi 1) (fd 1) "InvalidProgram" "at"
  x2 : XI P w K mg base (cs 2) (fi 2) (fd 2) "InvalidText" "at"
  x3 : XI P w K mg base (cs 3) (fi 3) (fd 3) "InvalidRow" "part"
  x4 : XI P w K mg base (cs 4) (fi 4) (fd 4) "InvalidTool" "at"
  x5 : XI P w K mg base (cs 5) (fi 5) (fd 5) "Refused" "word"
  x6 : XI P w K mg base (cs 6) (fi 6) (fd 6) "NoPiece" "at"
  x7 : XI P w K mg base (cs 7) (fi 7) (fd 7) "NoRow" "at"
  y8 : YC K mg (cs 8) "InvalidGoal"
  y9 : YC K mg (cs 9) "InvalidCommand"
  kit : ∀ i j, i < 10 → j < 10 → PySem.W.kitOne K (.ref (cs i)) (.ref (cs j)) = some (decide (i = j))
/-- what is kept by the i-th of the errors that were made of xs -/
def kept (xs : List V) (i : Nat) : List (Str × V) := match i with
  | 0 => [("word", xs.getD 0 .non)]
  | 1 => [("at", xs.getD 1 .non)]
  | 2 => [("at", xs.getD 2 .non)]
  | 3 => [("part", xs.getD 3 .non)]
  | 4 => [("at", xs.getD 4 .non)]
  | 5 => [("word", xs.getD 5 .non)]
  | 6 => [("at", xs.getD 6 .non)]
  | 7 => [("at", xs.getD 7 .non)]
  | _ => []
/-- the errors es were made of xs, one of each class -/
def Made (cs : Nat → Addr) (H : Hp) (es : List Addr) (xs : List V) (n : Nat) : Prop := es.length = n ∧ ∀ i e, es[i]? = some e → HeldX H e (cs i) (kept xs i)
theorem Made.nil {cs : Nat → Addr} {H : Hp} {xs : List V} : Made cs H [] xs 0 := ⟨rfl, fun i e h => by simp at h⟩
theorem Made.same {cs : Nat → Addr} {H H' : Hp} {es : List Addr} {xs : List V} {n : Nat} (x : Made cs H es xs n) (s : Same H H') : Made cs H' es xs n := ⟨x.1, fun i e h => (x.2 i e h).same s⟩
theorem Made.put {cs : Nat → Addr} {H : Hp} {es : List Addr} {xs : List V} {n : Nat} {e : Addr} {fs : List (Str × V)} (x : Made cs H es xs n) (h : HeldX H e (cs n) fs) (hf : fs = kept xs n) : Made cs H (es ++ [e]) xs (n + 1) := by
  refine ⟨by rw [List.length_append, x.1]; rfl, fun i e' hi => ?_⟩
  by_cases hn : i < es.length
  · rw [List.getElem?_append_left hn] at hi
    exact x.2 i e' hi
  · have hl := (List.getElem?_eq_some_iff.mp hi).1
    rw [List.length_append, List.length_singleton] at hl
    have : i = n := by rw [← x.1]; omega
    subst this
    rw [List.getElem?_append_right (by rw [x.1]; exact Nat.le_refl _), x.1, Nat.sub_self] at hi
    cases hi
    rw [← hf]
    exact h
def spMade (K : PySem.W.Frag) (cs : Nat → Addr) : Sp := fun vs H Q _ => ∃ (l : Addr) (xs : List V), vs = [.ref l] ∧ SqL K H l xs ∧ xs.length = 8 ∧
  ∀ (p : Addr) (es : List Addr) (H' : Hp), Same H H' → H p = none → H' p = some (.lst (es.map V.ref)) → Made cs H' es xs 10 → Q (.ref p) H'
theorem eight {xs : List V} (h : xs.length = 8) : ∃ v0 v1 v2 v3 v4 v5 v6 v7, xs = [v0, v1, v2, v3, v4, v5, v6, v7] := by
  match xs, h with
  | [v0, v1, v2, v3, v4, v5, v6, v7], _ => exact ⟨_, _, _, _, _, _, _, _, rfl⟩
theorem same_put {H H1 : Hp} {p : Addr} {o : HO} (s : Same H H1) (n : H p = none) : Same H (upd H1 p o) := fun b u e => by
  rw [upd_ne (ne_of_none e n)]
  exact s b u e
section
variable {P : Program} {w : World} {K : PySem.W.Frag} {mg : Str → Option Value} {base : Heap} {cs fi : Nat → Addr} {fd : Nat → FuncData}

abbrev sMade : Stmt := top 18
theorem scMade : FnScope ["_law_some", "_law_found"] ["_law_some"] (defScope sMade) := ⟨rfl, rfl, rfl, by decide +kernel, rfl, by decide +kernel, by decide +kernel⟩
theorem ok_law_made {f : Addr} {fx : FuncData} (F : Fun K "_law_made" "_law_made" sMade f fx) (Z : Ten P w K mg base cs fi fd) : FnOk P w K mg base CX0 3 f fx ["_law_some"] (spMade K cs) := by
  refine F.ok scMade (fun vs H Q E h => ?_) (fun cdv A outer s H vs Q E hr h => ?_)
  · obtain ⟨l, xs, rfl, _⟩ := h
    rfl
  · obtain ⟨l, xs, rfl, hs, hl, k⟩ := h
    refine ⟨_, (pss_cons (ps_set (i := 1) scMade.nd rfl (.inl rfl) (pe_lst (pa_cons (pe_xnew Z.x0.c.oex Z.x0.c.init Z.x0.c.tI Z.x0.g hr Z.x0.b (by rfl) Z.x0.c.gC (pa_cons (pe_ix ix_list (pv 0) pe_int (fun _ _ => rfl)) pa_nil)) (pa_cons (pe_xnew Z.x1.c.oex Z.x1.c.init Z.x1.c.tI Z.x1.g hr Z.x1.b (by rfl) Z.x1.c.gC (pa_cons (pe_ix ix_list (pv 0) pe_int (fun _ _ => rfl)) pa_nil)) (pa_cons (pe_xnew Z.x2.c.oex Z.x2.c.init Z.x2.c.tI Z.x2.g hr Z.x2.b (by rfl) Z.x2.c.gC (pa_cons (pe_ix ix_list (pv 0) pe_int (fun _ _ => rfl)) pa_nil)) (pa_cons (pe_xnew Z.x3.c.oex Z.x3.c.init Z.x3.c.tI Z.x3.g hr Z.x3.b (by rfl) Z.x3.c.gC (pa_cons (pe_ix ix_list (pv 0) pe_int (fun _ _ => rfl)) pa_nil)) pa_nil))))))
    (pss_cons (ps_expr (pe_bm PySem.F.plainAttrs_list PySem.F.slot_list_extend PySem.F.type_list_extend mt_extend (pv 1) (pa_cons (pe_lst (pa_cons (pe_xnew Z.x4.c.oex Z.x4.c.init Z.x4.c.tI Z.x4.g hr Z.x4.b (by rfl) Z.x4.c.gC (pa_cons (pe_ix ix_list (pv 0) pe_int (fun _ _ => rfl)) pa_nil)) (pa_cons (pe_xnew Z.x5.c.oex Z.x5.c.init Z.x5.c.tI Z.x5.g hr Z.x5.b (by rfl) Z.x5.c.gC (pa_cons (pe_ix ix_list (pv 0) pe_int (fun _ _ => rfl)) pa_nil)) (pa_cons (pe_xnew Z.x6.c.oex Z.x6.c.init Z.x6.c.tI Z.x6.g hr Z.x6.b (by rfl) Z.x6.c.gC (pa_cons (pe_ix ix_list (pv 0) pe_int (fun _ _ => rfl)) pa_nil)) (pa_cons (pe_xnew Z.x7.c.oex Z.x7.c.init Z.x7.c.tI Z.x7.g hr Z.x7.b (by rfl) Z.x7.c.gC (pa_cons (pe_ix ix_list (pv 0) pe_int (fun _ _ => rfl)) pa_nil)) pa_nil))))) pa_nil)))
    (pss_one (ps_ret (pe_op op_cat (pv 1) (pe_lst (pa_cons (pe_xnew0 PySem.F.excBase_ValueError Z.y8.ex Z.y8.gC Z.y8.kC (by rfl)) (pa_cons (pe_xnew0 PySem.F.excBase_ValueError Z.y9.ex Z.y9.gC Z.y9.kC (by rfl)) pa_nil)))))))), ?_⟩
    obtain ⟨v0, v1, v2, v3, v4, v5, v6, v7, rfl⟩ := eight hl
    have S0 := Same.refl H
    have M0 : Made cs H [] [v0, v1, v2, v3, v4, v5, v6, v7] 0 := Made.nil
    refine ⟨_, rfl, l, _, _, _, rfl, rfl, Same.seq S0 hs, rfl, (by show 1 ≤ 1000; decide), fun e0 n0 => made_at Z.x0.c n0 fun H0 s0 h0 => ?_⟩
    have S1 := S0.trans s0
    have M1 := (M0.same s0).put h0 rfl
    refine ⟨_, rfl, l, _, _, _, rfl, rfl, Same.seq S1 hs, rfl, (by show 1 ≤ 1000; decide), fun e1 n1 => made_at Z.x1.c n1 fun H1 s1 h1 => ?_⟩
    have S2 := S1.trans s1
    have M2 := (M1.same s1).put h1 rfl
    refine ⟨_, rfl, l, _, _, _, rfl, rfl, Same.seq S2 hs, rfl, (by show 1 ≤ 1000; decide), fun e2 n2 => made_at Z.x2.c n2 fun H2 s2 h2 => ?_⟩
    have S3 := S2.trans s2
    have M3 := (M2.same s2).put h2 rfl
    refine ⟨_, rfl, l, _, _, _, rfl, rfl, Same.seq S3 hs, rfl, (by show 1 ≤ 1000; decide), fun e3 n3 => made_at Z.x3.c n3 fun H3 s3 h3 => ?_⟩
    have S4 := S3.trans s3
    have M4 := (M3.same s3).put h3 rfl
    refine ⟨(by show 4 ≤ sizeLine; decide), fun p0 q0 => ?_⟩
    have np0 : H p0 = none := S4.free q0
    have t0 := Same.new q0 (o := .lst [V.ref e0, V.ref e1, V.ref e2, V.ref e3])
    have S4 := S4.trans t0
    have M4 := M4.same t0
    have LA : (upd H3 p0 (.lst [V.ref e0, V.ref e1, V.ref e2, V.ref e3])) p0 = some (.lst [V.ref e0, V.ref e1, V.ref e2, V.ref e3]) := upd_same
    refine ⟨_, rfl, .inl ⟨rfl, _, SqL.of LA⟩, ?_⟩
    refine ⟨_, rfl, l, _, _, _, rfl, rfl, Same.seq S4 hs, rfl, (by show 1 ≤ 1000; decide), fun e4 n4 => made_at Z.x4.c n4 fun H4 s4 h4 => ?_⟩
    have S5 := S4.trans s4
    have M5 := (M4.same s4).put h4 rfl
    have LA := s4 _ _ LA
    refine ⟨_, rfl, l, _, _, _, rfl, rfl, Same.seq S5 hs, rfl, (by show 1 ≤ 1000; decide), fun e5 n5 => made_at Z.x5.c n5 fun H5 s5 h5 => ?_⟩
    have S6 := S5.trans s5
    have M6 := (M5.same s5).put h5 rfl
    have LA := s5 _ _ LA
    refine ⟨_, rfl, l, _, _, _, rfl, rfl, Same.seq S6 hs, rfl, (by show 1 ≤ 1000; decide), fun e6 n6 => made_at Z.x6.c n6 fun H6 s6 h6 => ?_⟩
    have S7 := S6.trans s6
    have M7 := (M6.same s6).put h6 rfl
    have LA := s6 _ _ LA
    refine ⟨_, rfl, l, _, _, _, rfl, rfl, Same.seq S7 hs, rfl, (by show 1 ≤ 1000; decide), fun e7 n7 => made_at Z.x7.c n7 fun H7 s7 h7 => ?_⟩
    have S8 := S7.trans s7
    have M8 := (M7.same s7).put h7 rfl
    have LA := s7 _ _ LA
    refine ⟨(by show 4 ≤ sizeLine; decide), fun p1 q1 => ?_⟩
    have np1 : H p1 = none := S8.free q1
    have t1 := Same.new q1 (o := .lst [V.ref e4, V.ref e5, V.ref e6, V.ref e7])
    have LA := t1 _ _ LA
    refine ⟨p0, p1, _, _, rfl, rfl, LA, upd_same, (by show 8 ≤ sizeLine; decide), ?_⟩
    have y1 : HO.lst [V.ref e0, V.ref e1, V.ref e2, V.ref e3, V.ref e4, V.ref e5, V.ref e6, V.ref e7] = HO.lst [V.ref e0, V.ref e1, V.ref e2, V.ref e3, V.ref e4, V.ref e5, V.ref e6, V.ref e7] := rfl
    have S8 := same_put (S8.trans t1) np0 (o := .lst [V.ref e0, V.ref e1, V.ref e2, V.ref e3, V.ref e4, V.ref e5, V.ref e6, V.ref e7])
    have M8 : Made cs (upd (upd H7 p1 (.lst [V.ref e4, V.ref e5, V.ref e6, V.ref e7])) p0 (.lst [V.ref e0, V.ref e1, V.ref e2, V.ref e3, V.ref e4, V.ref e5, V.ref e6, V.ref e7])) [e0, e1, e2, e3, e4, e5, e6, e7] [v0, v1, v2, v3, v4, v5, v6, v7] 8 := ⟨rfl, fun j e hj => ((M8.same t1).2 j e hj).kept (b := p0) (fun c u nc z => by rw [upd_ne nc]; exact z) LA⟩
    have LA : (upd (upd H7 p1 (.lst [V.ref e4, V.ref e5, V.ref e6, V.ref e7])) p0 (.lst [V.ref e0, V.ref e1, V.ref e2, V.ref e3, V.ref e4, V.ref e5, V.ref e6, V.ref e7])) p0 = some (.lst [V.ref e0, V.ref e1, V.ref e2, V.ref e3, V.ref e4, V.ref e5, V.ref e6, V.ref e7]) := upd_same
    refine ⟨_, rfl, fun e8 n8 => ?_⟩
    have s8 := Same.new n8 (o := ExO (.ref (cs 8)) e8)
    have S9 := S8.trans s8
    have M9 := (M8.same s8).put (fs := []) (.inr ⟨rfl, upd_same⟩) rfl
    have LA := s8 _ _ LA
    intro e9 n9
    have s9 := Same.new n9 (o := ExO (.ref (cs 9)) e9)
    have S10 := S9.trans s9
    have M10 := (M9.same s9).put (fs := []) (.inr ⟨rfl, upd_same⟩) rfl
    have LA := s9 _ _ LA
    refine ⟨(by show 2 ≤ sizeLine; decide), fun p2 q2 => ?_⟩
    have t2 := Same.new q2 (o := .lst [V.ref e8, V.ref e9])
    have LA := t2 _ _ LA
    refine ⟨_, _, _, _, rfl, rfl, LA, upd_same, (by show 10 ≤ sizeLine; decide), fun r hr2 => ?_⟩
    exact k r [e0, e1, e2, e3, e4, e5, e6, e7, e8, e9] _ ((S10.trans t2).trans (Same.new hr2)) ((S10.trans t2).free hr2) upd_same (M10.same (t2.trans (Same.new hr2)))
def spNamed (K : PySem.W.Frag) (cs : Nat → Addr) : Sp := fun vs H Q _ => ∃ (l : Addr) (xs : List V), vs = [.ref l] ∧ SqL K H l xs ∧ xs.length = 8 ∧
  ∀ (p : Addr) (es : List Addr) (H' : Hp), Same H H' → H p = none → H' p = some (.lst (es.map V.ref)) → Made cs H' es xs 8 → Q (.ref p) H'

abbrev sNamed : Stmt := top 19
theorem scNamed : FnScope ["_law_some", "_law_found"] ["_law_some"] (defScope sNamed) := ⟨rfl, rfl, rfl, by decide +kernel, rfl, by decide +kernel, by decide +kernel⟩
theorem ok_law_named {f : Addr} {fx : FuncData} (F : Fun K "_law_named" "_law_named" sNamed f fx) (Z : Ten P w K mg base cs fi fd) : FnOk P w K mg base CX0 3 f fx ["_law_some"] (spNamed K cs) := by
  refine F.ok scNamed (fun vs H Q E h => ?_) (fun cdv A outer s H vs Q E hr h => ?_)
  · obtain ⟨l, xs, rfl, _⟩ := h
    rfl
  · obtain ⟨l, xs, rfl, hs, hl, k⟩ := h
    refine ⟨_, (pss_cons (ps_set (i := 1) scNamed.nd rfl (.inl rfl) (pe_lst (pa_cons (pe_xnewK Z.x0.c.oex Z.x0.c.init Z.x0.c.tI Z.x0.g hr Z.x0.kb (by rfl) Z.x0.c.gC (pe_ix ix_list (pv 0) pe_int (fun _ _ => rfl))) (pa_cons (pe_xnewK Z.x1.c.oex Z.x1.c.init Z.x1.c.tI Z.x1.g hr Z.x1.kb (by rfl) Z.x1.c.gC (pe_ix ix_list (pv 0) pe_int (fun _ _ => rfl))) (pa_cons (pe_xnewK Z.x2.c.oex Z.x2.c.init Z.x2.c.tI Z.x2.g hr Z.x2.kb (by rfl) Z.x2.c.gC (pe_ix ix_list (pv 0) pe_int (fun _ _ => rfl))) pa_nil)))))
    (pss_cons (ps_expr (pe_bm PySem.F.plainAttrs_list PySem.F.slot_list_extend PySem.F.type_list_extend mt_extend (pv 1) (pa_cons (pe_lst (pa_cons (pe_xnewK Z.x3.c.oex Z.x3.c.init Z.x3.c.tI Z.x3.g hr Z.x3.kb (by rfl) Z.x3.c.gC (pe_ix ix_list (pv 0) pe_int (fun _ _ => rfl))) (pa_cons (pe_xnewK Z.x4.c.oex Z.x4.c.init Z.x4.c.tI Z.x4.g hr Z.x4.kb (by rfl) Z.x4.c.gC (pe_ix ix_list (pv 0) pe_int (fun _ _ => rfl))) (pa_cons (pe_xnewK Z.x5.c.oex Z.x5.c.init Z.x5.c.tI Z.x5.g hr Z.x5.kb (by rfl) Z.x5.c.gC (pe_ix ix_list (pv 0) pe_int (fun _ _ => rfl))) pa_nil)))) pa_nil)))
    (pss_one (ps_ret (pe_op op_cat (pv 1) (pe_lst (pa_cons (pe_xnewK Z.x6.c.oex Z.x6.c.init Z.x6.c.tI Z.x6.g hr Z.x6.kb (by rfl) Z.x6.c.gC (pe_ix ix_list (pv 0) pe_int (fun _ _ => rfl))) (pa_cons (pe_xnewK Z.x7.c.oex Z.x7.c.init Z.x7.c.tI Z.x7.g hr Z.x7.kb (by rfl) Z.x7.c.gC (pe_ix ix_list (pv 0) pe_int (fun _ _ => rfl))) pa_nil)))))))), ?_⟩
    obtain ⟨v0, v1, v2, v3, v4, v5, v6, v7, rfl⟩ := eight hl
    have S0 := Same.refl H
    have M0 : Made cs H [] [v0, v1, v2, v3, v4, v5, v6, v7] 0 := Made.nil
    refine ⟨_, rfl, l, _, _, _, rfl, rfl, Same.seq S0 hs, rfl, fun e0 n0 => made_at Z.x0.c n0 fun H0 s0 h0 => ?_⟩
    have S1 := S0.trans s0
    have M1 := (M0.same s0).put h0 rfl
    refine ⟨_, rfl, l, _, _, _, rfl, rfl, Same.seq S1 hs, rfl, fun e1 n1 => made_at Z.x1.c n1 fun H1 s1 h1 => ?_⟩
    have S2 := S1.trans s1
    have M2 := (M1.same s1).put h1 rfl
    refine ⟨_, rfl, l, _, _, _, rfl, rfl, Same.seq S2 hs, rfl, fun e2 n2 => made_at Z.x2.c n2 fun H2 s2 h2 => ?_⟩
    have S3 := S2.trans s2
    have M3 := (M2.same s2).put h2 rfl
    refine ⟨(by show 3 ≤ sizeLine; decide), fun p0 q0 => ?_⟩
    have np0 : H p0 = none := S3.free q0
    have t0 := Same.new q0 (o := .lst [V.ref e0, V.ref e1, V.ref e2])
    have S3 := S3.trans t0
    have M3 := M3.same t0
    have LA : (upd H2 p0 (.lst [V.ref e0, V.ref e1, V.ref e2])) p0 = some (.lst [V.ref e0, V.ref e1, V.ref e2]) := upd_same
    refine ⟨_, rfl, .inl ⟨rfl, _, SqL.of LA⟩, ?_⟩
    refine ⟨_, rfl, l, _, _, _, rfl, rfl, Same.seq S3 hs, rfl, fun e3 n3 => made_at Z.x3.c n3 fun H3 s3 h3 => ?_⟩
    have S4 := S3.trans s3
    have M4 := (M3.same s3).put h3 rfl
    have LA := s3 _ _ LA
    refine ⟨_, rfl, l, _, _, _, rfl, rfl, Same.seq S4 hs, rfl, fun e4 n4 => made_at Z.x4.c n4 fun H4 s4 h4 => ?_⟩
    have S5 := S4.trans s4
    have M5 := (M4.same s4).put h4 rfl
    have LA := s4 _ _ LA
    refine ⟨_, rfl, l, _, _, _, rfl, rfl, Same.seq S5 hs, rfl, fun e5 n5 => made_at Z.x5.c n5 fun H5 s5 h5 => ?_⟩
    have S6 := S5.trans s5
    have M6 := (M5.same s5).put h5 rfl
    have LA := s5 _ _ LA
    refine ⟨(by show 3 ≤ sizeLine; decide), fun p1 q1 => ?_⟩
    have np1 : H p1 = none := S6.free q1
    have t1 := Same.new q1 (o := .lst [V.ref e3, V.ref e4, V.ref e5])
    have LA := t1 _ _ LA
    refine ⟨p0, p1, _, _, rfl, rfl, LA, upd_same, (by show 6 ≤ sizeLine; decide), ?_⟩
    have y1 : HO.lst [V.ref e0, V.ref e1, V.ref e2, V.ref e3, V.ref e4, V.ref e5] = HO.lst [V.ref e0, V.ref e1, V.ref e2, V.ref e3, V.ref e4, V.ref e5] := rfl
    have S6 := same_put (S6.trans t1) np0 (o := .lst [V.ref e0, V.ref e1, V.ref e2, V.ref e3, V.ref e4, V.ref e5])
    have M6 : Made cs (upd (upd H5 p1 (.lst [V.ref e3, V.ref e4, V.ref e5])) p0 (.lst [V.ref e0, V.ref e1, V.ref e2, V.ref e3, V.ref e4, V.ref e5])) [e0, e1, e2, e3, e4, e5] [v0, v1, v2, v3, v4, v5, v6, v7] 6 := ⟨rfl, fun j e hj => ((M6.same t1).2 j e hj).kept (b := p0) (fun c u nc z => by rw [upd_ne nc]; exact z) LA⟩
    have LA : (upd (upd H5 p1 (.lst [V.ref e3, V.ref e4, V.ref e5])) p0 (.lst [V.ref e0, V.ref e1, V.ref e2, V.ref e3, V.ref e4, V.ref e5])) p0 = some (.lst [V.ref e0, V.ref e1, V.ref e2, V.ref e3, V.ref e4, V.ref e5]) := upd_same
    refine ⟨_, rfl, ?_⟩
    refine ⟨_, rfl, l, _, _, _, rfl, rfl, Same.seq S6 hs, rfl, fun e6 n6 => made_at Z.x6.c n6 fun H6 s6 h6 => ?_⟩
    have S7 := S6.trans s6
    have M7 := (M6.same s6).put h6 rfl
    have LA := s6 _ _ LA
    refine ⟨_, rfl, l, _, _, _, rfl, rfl, Same.seq S7 hs, rfl, fun e7 n7 => made_at Z.x7.c n7 fun H7 s7 h7 => ?_⟩
    have S8 := S7.trans s7
    have M8 := (M7.same s7).put h7 rfl
    have LA := s7 _ _ LA
    refine ⟨(by show 2 ≤ sizeLine; decide), fun p2 q2 => ?_⟩
    have np2 : H p2 = none := S8.free q2
    have t2 := Same.new q2 (o := .lst [V.ref e6, V.ref e7])
    have LA := t2 _ _ LA
    refine ⟨_, _, _, _, rfl, rfl, LA, upd_same, (by show 8 ≤ sizeLine; decide), fun r hr2 => ?_⟩
    exact k r [e0, e1, e2, e3, e4, e5, e6, e7] _ ((S8.trans t2).trans (Same.new hr2)) ((S8.trans t2).free hr2) upd_same (M8.same (t2.trans (Same.new hr2)))
end
end Lay
set_option Elab.async false
set_option linter.all false
set_option maxRecDepth 100000
set_option maxHeartbeats 4000000
namespace Lay
open PySem L2
section
variable {P : Program} {w : World} {K : PySem.W.Frag} {mg : Str → Option Value} {base : Heap} {cs fi : Nat → Addr} {fd : Nat → FuncData}
theorem Ten.isC (Z : Ten P w K mg base cs fi fd) : ∀ j, j < 10 → ExcC K (cs j)
  | 0, _ => Z.x0.c.isC
  | 1, _ => Z.x1.c.isC
  | 2, _ => Z.x2.c.isC
  | 3, _ => Z.x3.c.isC
  | 4, _ => Z.x4.c.isC
  | 5, _ => Z.x5.c.isC
  | 6, _ => Z.x6.c.isC
  | 7, _ => Z.x7.c.isC
  | 8, _ => Z.y8.isC
  | 9, _ => Z.y9.isC
  | n + 10, h => absurd h (by omega)
def sortsOf (j : Nat) : List V := [.bl (decide (j = 0)), .bl (decide (j = 1)), .bl (decide (j = 2)), .bl (decide (j = 3)), .bl (decide (j = 4)), .bl (decide (j = 5)), .bl (decide (j = 6)), .bl (decide (j = 7)), .bl (decide (j = 8)), .bl (decide (j = 9))]
def spSorts (cs : Nat → Addr) : Sp := fun vs H Q _ => ∃ (a : Addr) (j : Nat) (fs : List (Str × V)), vs = [.ref a] ∧ j < 10 ∧ HeldX H a (cs j) fs ∧ ∀ (p : Addr) (H' : Hp), Same H H' → H p = none → H' p = some (.lst (sortsOf j)) → Q (.ref p) H'

abbrev sSorts : Stmt := top 17
theorem scSorts : FnScope ["_law_one", "_law_found"] ["_law_one"] (defScope sSorts) := ⟨rfl, rfl, rfl, by decide +kernel, rfl, by decide +kernel, by decide +kernel⟩
theorem ok_sorts {f : Addr} {fx : FuncData} (F : Fun K "_law_sorts" "_law_sorts" sSorts f fx) (hI : mg "isinstance" = none) (Z : Ten P w K mg base cs fi fd) : FnOk P w K mg base CX0 1 f fx ["_law_one"] (spSorts cs) := by
  refine F.ok scSorts (fun vs H Q E h => ?_) (fun cdv A outer s H vs Q E hr h => ?_)
  · obtain ⟨a, j, fs, rfl, _⟩ := h
    rfl
  · obtain ⟨a, j, fs, rfl, hj, held, k⟩ := h
    refine ⟨_, (pss_cons (ps_set (i := 1) scSorts.nd rfl (.inl rfl) (pe_lst (pa_cons (pe_callB call_isX (by rfl) hI (by decide +kernel) (pa_cons (pv 0) (pa_cons (pe_glob (v := .ref (cs 0)) (by rfl) Z.x0.c.gC rfl) pa_nil))) (pa_cons (pe_callB call_isX (by rfl) hI (by decide +kernel) (pa_cons (pv 0) (pa_cons (pe_glob (v := .ref (cs 1)) (by rfl) Z.x1.c.gC rfl) pa_nil))) (pa_cons (pe_callB call_isX (by rfl) hI (by decide +kernel) (pa_cons (pv 0) (pa_cons (pe_glob (v := .ref (cs 2)) (by rfl) Z.x2.c.gC rfl) pa_nil))) pa_nil)))))
    (pss_cons (ps_expr (pe_bm PySem.F.plainAttrs_list PySem.F.slot_list_extend PySem.F.type_list_extend mt_extend (pv 1) (pa_cons (pe_lst (pa_cons (pe_callB call_isX (by rfl) hI (by decide +kernel) (pa_cons (pv 0) (pa_cons (pe_glob (v := .ref (cs 3)) (by rfl) Z.x3.c.gC rfl) pa_nil))) (pa_cons (pe_callB call_isX (by rfl) hI (by decide +kernel) (pa_cons (pv 0) (pa_cons (pe_glob (v := .ref (cs 4)) (by rfl) Z.x4.c.gC rfl) pa_nil))) (pa_cons (pe_callB call_isX (by rfl) hI (by decide +kernel) (pa_cons (pv 0) (pa_cons (pe_glob (v := .ref (cs 5)) (by rfl) Z.x5.c.gC rfl) pa_nil))) pa_nil)))) pa_nil)))
    (pss_cons (ps_expr (pe_bm PySem.F.plainAttrs_list PySem.F.slot_list_extend PySem.F.type_list_extend mt_extend (pv 1) (pa_cons (pe_lst (pa_cons (pe_callB call_isX (by rfl) hI (by decide +kernel) (pa_cons (pv 0) (pa_cons (pe_glob (v := .ref (cs 6)) (by rfl) Z.x6.c.gC rfl) pa_nil))) (pa_cons (pe_callB call_isX (by rfl) hI (by decide +kernel) (pa_cons (pv 0) (pa_cons (pe_glob (v := .ref (cs 7)) (by rfl) Z.x7.c.gC rfl) pa_nil))) (pa_cons (pe_callB call_isX (by rfl) hI (by decide +kernel) (pa_cons (pv 0) (pa_cons (pe_glob (v := .ref (cs 8)) (by rfl) Z.y8.gC rfl) pa_nil))) pa_nil)))) pa_nil)))
    (pss_one (ps_ret (pe_op op_cat (pv 1) (pe_lst (pa_cons (pe_callB call_isX (by rfl) hI (by decide +kernel) (pa_cons (pv 0) (pa_cons (pe_glob (v := .ref (cs 9)) (by rfl) Z.y9.gC rfl) pa_nil))) pa_nil)))))))), ?_⟩
    have C := Z.isC j hj
    have S0 := Same.refl H
    refine ⟨_, rfl, a, cs j, fs, _, _, _, rfl, held.same S0, C, .own _, Z.kit j 0 hj (by decide), ?_⟩
    refine ⟨_, rfl, a, cs j, fs, _, _, _, rfl, held.same S0, C, .own _, Z.kit j 1 hj (by decide), ?_⟩
    refine ⟨_, rfl, a, cs j, fs, _, _, _, rfl, held.same S0, C, .own _, Z.kit j 2 hj (by decide), ?_⟩
    refine ⟨(by show 3 ≤ sizeLine; decide), fun p0 q0 => ?_⟩
    have t0 := Same.new q0 (o := .lst [V.bl (decide (j = 0)), V.bl (decide (j = 1)), V.bl (decide (j = 2))])
    have np : H p0 = none := q0
    have S1 := S0.trans t0
    have LA := upd_same (H := H) (a := p0) (o := .lst [V.bl (decide (j = 0)), V.bl (decide (j = 1)), V.bl (decide (j = 2))])
    refine ⟨_, rfl, .inl ⟨rfl, _, SqL.of LA⟩, ?_⟩
    refine ⟨_, rfl, a, cs j, fs, _, _, _, rfl, held.same S1, C, .own _, Z.kit j 3 hj (by decide), ?_⟩
    refine ⟨_, rfl, a, cs j, fs, _, _, _, rfl, held.same S1, C, .own _, Z.kit j 4 hj (by decide), ?_⟩
    refine ⟨_, rfl, a, cs j, fs, _, _, _, rfl, held.same S1, C, .own _, Z.kit j 5 hj (by decide), ?_⟩
    refine ⟨(by show 3 ≤ sizeLine; decide), fun p1 q1 => ?_⟩
    have t1 := Same.new q1 (o := .lst [V.bl (decide (j = 3)), V.bl (decide (j = 4)), V.bl (decide (j = 5))])
    have LA := t1 _ _ LA
    refine ⟨p0, p1, _, _, rfl, rfl, LA, upd_same, (by show 6 ≤ sizeLine; decide), ?_⟩
    have S2 := same_put (S1.trans t1) np (o := .lst [V.bl (decide (j = 0)), V.bl (decide (j = 1)), V.bl (decide (j = 2)), V.bl (decide (j = 3)), V.bl (decide (j = 4)), V.bl (decide (j = 5))])
    have LA : (upd (upd (upd H p0 (.lst [V.bl (decide (j = 0)), V.bl (decide (j = 1)), V.bl (decide (j = 2))])) p1 (.lst [V.bl (decide (j = 3)), V.bl (decide (j = 4)), V.bl (decide (j = 5))])) p0 (.lst [V.bl (decide (j = 0)), V.bl (decide (j = 1)), V.bl (decide (j = 2)), V.bl (decide (j = 3)), V.bl (decide (j = 4)), V.bl (decide (j = 5))])) p0 = some (.lst [V.bl (decide (j = 0)), V.bl (decide (j = 1)), V.bl (decide (j = 2)), V.bl (decide (j = 3)), V.bl (decide (j = 4)), V.bl (decide (j = 5))]) := upd_same
    refine ⟨_, rfl, .inl ⟨rfl, _, SqL.of LA⟩, ?_⟩
    refine ⟨_, rfl, a, cs j, fs, _, _, _, rfl, held.same S2, C, .own _, Z.kit j 6 hj (by decide), ?_⟩
    refine ⟨_, rfl, a, cs j, fs, _, _, _, rfl, held.same S2, C, .own _, Z.kit j 7 hj (by decide), ?_⟩
    refine ⟨_, rfl, a, cs j, fs, _, _, _, rfl, held.same S2, C, .own _, Z.kit j 8 hj (by decide), ?_⟩
    refine ⟨(by show 3 ≤ sizeLine; decide), fun p2 q2 => ?_⟩
    have t2 := Same.new q2 (o := .lst [V.bl (decide (j = 6)), V.bl (decide (j = 7)), V.bl (decide (j = 8))])
    have LA := t2 _ _ LA
    refine ⟨p0, p2, _, _, rfl, rfl, LA, upd_same, (by show 9 ≤ sizeLine; decide), ?_⟩
    have S3 := same_put (S2.trans t2) np (o := .lst [V.bl (decide (j = 0)), V.bl (decide (j = 1)), V.bl (decide (j = 2)), V.bl (decide (j = 3)), V.bl (decide (j = 4)), V.bl (decide (j = 5)), V.bl (decide (j = 6)), V.bl (decide (j = 7)), V.bl (decide (j = 8))])
    have LA : (upd (upd (upd (upd (upd H p0 (.lst [V.bl (decide (j = 0)), V.bl (decide (j = 1)), V.bl (decide (j = 2))])) p1 (.lst [V.bl (decide (j = 3)), V.bl (decide (j = 4)), V.bl (decide (j = 5))])) p0 (.lst [V.bl (decide (j = 0)), V.bl (decide (j = 1)), V.bl (decide (j = 2)), V.bl (decide (j = 3)), V.bl (decide (j = 4)), V.bl (decide (j = 5))])) p2 (.lst [V.bl (decide (j = 6)), V.bl (decide (j = 7)), V.bl (decide (j = 8))])) p0 (.lst [V.bl (decide (j = 0)), V.bl (decide (j = 1)), V.bl (decide (j = 2)), V.bl (decide (j = 3)), V.bl (decide (j = 4)), V.bl (decide (j = 5)), V.bl (decide (j = 6)), V.bl (decide (j = 7)), V.bl (decide (j = 8))])) p0 = some (.lst [V.bl (decide (j = 0)), V.bl (decide (j = 1)), V.bl (decide (j = 2)), V.bl (decide (j = 3)), V.bl (decide (j = 4)), V.bl (decide (j = 5)), V.bl (decide (j = 6)), V.bl (decide (j = 7)), V.bl (decide (j = 8))]) := upd_same
    refine ⟨_, rfl, ?_⟩
    refine ⟨_, rfl, a, cs j, fs, _, _, _, rfl, held.same S3, C, .own _, Z.kit j 9 hj (by decide), ?_⟩
    refine ⟨(by show 1 ≤ sizeLine; decide), fun p3 q3 => ?_⟩
    have t3 := Same.new q3 (o := .lst [V.bl (decide (j = 9))])
    have LA := t3 _ _ LA
    refine ⟨_, _, _, _, rfl, rfl, LA, upd_same, (by show 10 ≤ sizeLine; decide), fun r hr2 => ?_⟩
    exact k r _ ((S3.trans t3).trans (Same.new hr2)) ((S3.trans t3).free hr2) upd_same
theorem more {es : List Addr} (h : 8 ≤ es.length) : ∃ e0 e1 e2 e3 e4 e5 e6 e7 r, es = e0 :: e1 :: e2 :: e3 :: e4 :: e5 :: e6 :: e7 :: r := by
  match es, h with
  | e0 :: e1 :: e2 :: e3 :: e4 :: e5 :: e6 :: e7 :: r, _ => exact ⟨_, _, _, _, _, _, _, _, _, rfl⟩
def spHeld (K : PySem.W.Frag) (cs : Nat → Addr) : Sp := fun vs H Q _ => ∃ (p : Addr) (es : List Addr) (xs : List V) (n : Nat), vs = [.ref p] ∧ SqL K H p (es.map V.ref) ∧ 8 ≤ n ∧ Made cs H es xs n ∧ xs.length = 8 ∧
  ∀ (q : Addr) (H' : Hp), Same H H' → H q = none → H' q = some (.lst xs) → Q (.ref q) H'
abbrev sHeld : Stmt := top 20
theorem scHeld : FnScope ["_law_made_here", "_law_found"] ["_law_made_here"] (defScope sHeld) := ⟨rfl, rfl, rfl, by decide +kernel, rfl, by decide +kernel, by decide +kernel⟩
theorem ok_held {f : Addr} {fx : FuncData} (F : Fun K "_law_held" "_law_held" sHeld f fx) (Z : Ten P w K mg base cs fi fd) : FnOk P w K mg base CX0 1 f fx ["_law_made_here"] (spHeld K cs) := by
  refine F.ok scHeld (fun vs H Q E h => ?_) (fun cdv A outer s H vs Q E hr h => ?_)
  · obtain ⟨p, es, xs, n, rfl, _⟩ := h
    rfl
  · obtain ⟨p, es, xs, n, rfl, hs, hn, M, hl, k⟩ := h
    refine ⟨_, (pss_cons (ps_set (i := 1) scHeld.nd rfl (.inl rfl) (pe_lst (pa_cons (pe_xfld (pe_ix ix_list (pv 0) pe_int (fun _ _ => rfl))) (pa_cons (pe_xfld (pe_ix ix_list (pv 0) pe_int (fun _ _ => rfl))) (pa_cons (pe_xfld (pe_ix ix_list (pv 0) pe_int (fun _ _ => rfl))) (pa_cons (pe_xfld (pe_ix ix_list (pv 0) pe_int (fun _ _ => rfl))) (pa_cons (pe_xfld (pe_ix ix_list (pv 0) pe_int (fun _ _ => rfl))) (pa_cons (pe_xfld (pe_ix ix_list (pv 0) pe_int (fun _ _ => rfl))) pa_nil))))))))
    (pss_one (ps_ret (pe_op op_cat (pv 1) (pe_lst (pa_cons (pe_xfld (pe_ix ix_list (pv 0) pe_int (fun _ _ => rfl))) (pa_cons (pe_xfld (pe_ix ix_list (pv 0) pe_int (fun _ _ => rfl))) pa_nil))))))), ?_⟩
    obtain ⟨v0, v1, v2, v3, v4, v5, v6, v7, rfl⟩ := eight hl
    obtain ⟨e0, e1, e2, e3, e4, e5, e6, e7, rr, rfl⟩ := more (by rw [M.1]; exact hn)
    refine ⟨_, rfl, p, _, _, _, rfl, rfl, hs, at_of (j := 0) rfl rfl, e0, cs 0, _, _, rfl, M.2 0 e0 rfl, Z.x0.c.xf, Z.x0.c.no, rfl, ?_⟩
    refine ⟨_, rfl, p, _, _, _, rfl, rfl, hs, at_of (j := 1) rfl rfl, e1, cs 1, _, _, rfl, M.2 1 e1 rfl, Z.x1.c.xf, Z.x1.c.no, rfl, ?_⟩
    refine ⟨_, rfl, p, _, _, _, rfl, rfl, hs, at_of (j := 2) rfl rfl, e2, cs 2, _, _, rfl, M.2 2 e2 rfl, Z.x2.c.xf, Z.x2.c.no, rfl, ?_⟩
    refine ⟨_, rfl, p, _, _, _, rfl, rfl, hs, at_of (j := 3) rfl rfl, e3, cs 3, _, _, rfl, M.2 3 e3 rfl, Z.x3.c.xf, Z.x3.c.no, rfl, ?_⟩
    refine ⟨_, rfl, p, _, _, _, rfl, rfl, hs, at_of (j := 4) rfl rfl, e4, cs 4, _, _, rfl, M.2 4 e4 rfl, Z.x4.c.xf, Z.x4.c.no, rfl, ?_⟩
    refine ⟨_, rfl, p, _, _, _, rfl, rfl, hs, at_of (j := 5) rfl rfl, e5, cs 5, _, _, rfl, M.2 5 e5 rfl, Z.x5.c.xf, Z.x5.c.no, rfl, ?_⟩
    refine ⟨(by show 6 ≤ sizeLine; decide), fun p0 q0 => ?_⟩
    have t0 := Same.new q0 (o := .lst [v0, v1, v2, v3, v4, v5])
    have M := M.same t0
    refine ⟨_, rfl, ?_⟩
    refine ⟨_, rfl, p, _, _, _, rfl, rfl, t0.seq hs, at_of (j := 6) rfl rfl, e6, cs 6, _, _, rfl, M.2 6 e6 rfl, Z.x6.c.xf, Z.x6.c.no, rfl, ?_⟩
    refine ⟨_, rfl, p, _, _, _, rfl, rfl, t0.seq hs, at_of (j := 7) rfl rfl, e7, cs 7, _, _, rfl, M.2 7 e7 rfl, Z.x7.c.xf, Z.x7.c.no, rfl, ?_⟩
    refine ⟨(by show 2 ≤ sizeLine; decide), fun p1 q1 => ?_⟩
    have t1 := Same.new q1 (o := .lst [v6, v7])
    refine ⟨_, _, _, _, rfl, rfl, t1 _ _ upd_same, upd_same, (by show 8 ≤ sizeLine; decide), fun r hr2 => ?_⟩
    exact k r _ ((t0.trans t1).trans (Same.new hr2)) ((t0.trans t1).free hr2) upd_same
end
end Lay
set_option Elab.async false
set_option linter.all false
set_option maxRecDepth 100000
set_option maxHeartbeats 4000000
namespace Lay
open PySem L2
/-! ### lists of data, shown -/
theorem dats {K : PySem.W.Frag} {S : Addr → Prop} {H : Hp} : ∀ xs : List V, (∀ v ∈ xs, Dat K S H v) → ∃ ds : List PyData, ds.length = xs.length ∧ (∀ d ∈ ds, okd d) ∧ ∀ H', KeptS S H H' → DpAll K H' xs ds
  | [], _ => ⟨[], rfl, fun d h => (List.not_mem_nil h).elim, fun _ _ => DpAll.nil⟩
  | x :: xs, h => by
    obtain ⟨d, o, k⟩ := h x List.mem_cons_self
    obtain ⟨ds, l, os, ks⟩ := dats xs fun v hv => h v (List.mem_cons_of_mem _ hv)
    refine ⟨d :: ds, by rw [List.length_cons, List.length_cons, l], fun e he => ?_, fun H' z => DpAll.cons (k H' z) (ks H' z)⟩
    rcases List.mem_cons.mp he with rfl | he
    · exact o
    · exact os e he
theorem noDicts : ∀ ds : List PyData, (∀ d ∈ ds, d.hasDict = false) → PyData.hasDictAll ds = false
  | [], _ => by simp [PyData.hasDictAll]
  | d :: ds, h => by
    have h1 := h d List.mem_cons_self
    have h2 := noDicts ds fun e he => h e (List.mem_cons_of_mem _ he)
    simp [PyData.hasDictAll, h1, h2]
theorem deeps {n : Nat} : ∀ ds : List PyData, (∀ d ∈ ds, d.depth ≤ n) → PyData.depthAll ds ≤ n
  | [], _ => by simp [PyData.depthAll]
  | d :: ds, h => by
    have h1 := h d List.mem_cons_self
    have h2 := deeps ds fun e he => h e (List.mem_cons_of_mem _ he)
    simp only [PyData.depthAll]
    omega
theorem pile {n : Nat} : ∀ ds : List PyData, (∀ d ∈ ds, d.shown.length ≤ n) → piled (PyData.shownAll ds) ≤ (n + 2) * ds.length
  | [], _ => by simp [PyData.shownAll, piled_nil]
  | d :: ds, h => by
    have h1 := h d List.mem_cons_self
    have h2 := pile ds fun e he => h e (List.mem_cons_of_mem _ he)
    rw [PyData.shownAll_cons, piled_cons, List.length_cons, Nat.mul_succ]
    omega
theorem one_len : (Str.ofString "[").length = 1 ∧ (Str.ofString "]").length = 1 := by decide
theorem shown_fits {ds : List PyData} (hl : ds.length ≤ 1000) (h : ∀ d ∈ ds, d.shown.length ≤ 100) : (PyData.list ds).shown.length ≤ sizeLine := by
  have p := pile ds h
  have q : (Str.join ", " (PyData.shownAll ds)).length ≤ 102 * ds.length := by
    by_cases e : PyData.shownAll ds = []
    · rw [e]
      show (Str.join ", " []).length ≤ _
      have : (Str.join ", " []).length = 0 := by decide
      omega
    · have := join_length_add (PyData.shownAll ds) e
      omega
  rw [PyData.shown_list, Str.length_append, Str.length_append, one_len.1, one_len.2, sizeLine_eq]
  omega
/-- all that repr asks of a list of such data -/
theorem list_shows {ds : List PyData} (hl : ds.length ≤ 1000) (h : ∀ d ∈ ds, okd d) : (PyData.list ds).showable = true ∧ (PyData.list ds).hasDict = false ∧ (PyData.list ds).depth ≤ 60 ∧ (PyData.list ds).shown.length ≤ sizeLine := by
  refine ⟨?_, ?_, ?_, shown_fits hl fun d hd => (h d hd).2.2.2⟩
  · simp only [PyData.showable]
    exact Spec.showableAll_of fun d hd => (h d hd).1
  · simp only [PyData.hasDict]
    exact noDicts ds fun d hd => (h d hd).2.1
  · have := deeps (n := 10) ds fun d hd => (h d hd).2.2.1
    simp only [PyData.depth]
    omega
/-! ### tests that are known -/
theorem iteN {c : Bool} {A B : Prop} (h : c = false) (x : B) : if c = true then A else B := by
  rw [if_neg (by rw [h]; exact Bool.false_ne_true)]
  exact x
/-! ### for i, x in enumerate(list), the list stands still -/
theorem for_enum {K : PySem.W.Frag} {a : Addr} {xs : List V} {g : TG} {tb : TS} {D : Ends} {σ : L2.St} {H : Hp} (Pv : Nat → L2.St → Hp → Prop) (h0 : Pv 0 σ H) (hl : ∀ i σ H, i ≤ xs.length → Pv i σ H → SqL K H a xs)
    (hs : ∀ i x T σ H, xs[i]? = some x → Pv i σ H → H T = none → g (.ref T) σ (upd H T (.tup [.int (i : Nat), x])) fun σ2 H2 => tb { D with nx := Pv (i + 1), ct := Pv (i + 1), bk := D.nx } σ2 H2) (hd : ∀ σ H, Pv xs.length σ H → D.nx σ H) :
    ∃ W : Nat → Nat → L2.St → Hp → Prop, (∃ m, W 0 m σ H) ∧ ∀ i m σ H, W i m σ H → ((Ite K a).stop i H ∧ D.nx σ H) ∨
      ((Ite K a).go i H ∧ ∃ N : L2.St → Hp → Prop, (∀ σ' H', N σ' H' → ∃ m', m' < m ∧ W (i + 1) m' σ' H') ∧ ∀ x H', (Ite K a).yld i H x H' → g x σ H' fun σ2 H2 => tb { D with nx := N, ct := N, bk := D.nx } σ2 H2) := by
  refine ⟨fun i m σ H => m + i = xs.length ∧ Pv i σ H, ⟨xs.length, rfl, h0⟩, ?_⟩
  rintro i m σ H ⟨em, p⟩
  have q := hl i σ H (by omega) p
  rcases Nat.lt_or_ge i xs.length with hi | hi
  · refine .inr ⟨⟨xs, xs[i], q, by simp [hi]⟩, Pv (i + 1), fun σ' H' p' => ⟨m - 1, by omega, by omega, p'⟩, ?_⟩
    rintro x H' ⟨T, y, rfl, hT, rfl, hy⟩
    exact hs i y T σ H (hy xs q) p hT
  · have e : i = xs.length := by omega
    subst e
    exact .inl ⟨⟨xs, q, Nat.le_refl _⟩, hd σ H p⟩
end Lay
set_option Elab.async false
set_option linter.all false
set_option maxRecDepth 100000
set_option maxHeartbeats 8000000
namespace Lay
open PySem L2
abbrev sLaw : Stmt := top 21
def lawN : List Str := ["_law_script", "_law_k", "_law_box_here", "_law_some", "_law_made_here", "_law_spot", "_law_one", "_law_row", "_law_held_here", "_law_turn", "_law_other"]
/-- what the law wants of the module's names -/
structure TxtL (P : Program) (w : World) (K : PySem.W.Frag) (mg : Str → Option Value) (base : Heap) (cs fi : Nat → Addr) (fd : Nat → FuncData) (L fB fV fS fM fN fH : Addr) (dB dV dS dM dN dH : FuncData) : Prop where
  d : TxtD mg
  z : Ten P w K mg base cs fi fd
  isinstance : mg "isinstance" = none
  max : mg "max" = none
  min : mg "min" = none
  enumerate : mg "enumerate" = none
  repr : mg "repr" = none
  ve : mg "ValueError" = none
  gL : mg "LayError" = some (.ref L)
  kL : ∀ j, j < 10 → PySem.W.kitOne K (.ref (cs j)) (.ref L) = some true
  kV : ∀ j, j < 10 → PySem.W.kitOne K (.ref (cs j)) (.type "ValueError") = some true
  gB : mg "_law_box" = some (.ref fB)
  kB : PySem.W.keepIn K (.ref fB) = true
  bB : Binds K dB ["_law_script", "_law_k", "_law_own"] []
  okB : FnOk P w K mg base CX0 1 fB dB ["_law_script", "_law_k", "_law_own"] (spBox K)
  gV : mg "_law_value" = some (.ref fV)
  kVa : PySem.W.keepIn K (.ref fV) = true
  bV : Binds K dV ["_law_box_here"] []
  okV : FnOk P w K mg base CX0 3 fV dV ["_law_box_here"] (spVal K)
  gS : mg "_law_sorts" = some (.ref fS)
  kS : PySem.W.keepIn K (.ref fS) = true
  bS : Binds K dS ["_law_one"] []
  okS : FnOk P w K mg base CX0 1 fS dS ["_law_one"] (spSorts cs)
  gM : mg "_law_made" = some (.ref fM)
  kM : PySem.W.keepIn K (.ref fM) = true
  bM : Binds K dM ["_law_some"] []
  okM : FnOk P w K mg base CX0 3 fM dM ["_law_some"] (spMade K cs)
  gN : mg "_law_named" = some (.ref fN)
  kN : PySem.W.keepIn K (.ref fN) = true
  bN : Binds K dN ["_law_some"] []
  okN : FnOk P w K mg base CX0 3 fN dN ["_law_some"] (spNamed K cs)
  gH : mg "_law_held" = some (.ref fH)
  kH : PySem.W.keepIn K (.ref fH) = true
  bH : Binds K dH ["_law_made_here"] []
  okH : FnOk P w K mg base CX0 1 fH dH ["_law_made_here"] (spHeld K cs)
def spLaw (K : PySem.W.Frag) : Sp := fun vs H Q _ => ∃ (a : Addr) (ns : List Int), vs = [.ref a] ∧ SqL K H a (ns.map V.int) ∧ ns.length ≤ 63 ∧ ∀ H', Q (.bl true) H'
theorem scLaw : FnScope lawN ["_law_script"] (defScope sLaw) := ⟨rfl, rfl, rfl, by decide +kernel, rfl, by decide +kernel, by decide +kernel⟩
def bools (j : Nat) : PyData := .list ((List.range 10).map fun n => .bool (decide (j = n)))
theorem bools_dp {K : PySem.W.Frag} {H : Hp} {p : Addr} {j : Nat} (h : H p = some (.lst (sortsOf j))) : Dp K H (.ref p) (bools j) :=
  .lst (SqL.of h) (.cons (.bl _) (.cons (.bl _) (.cons (.bl _) (.cons (.bl _) (.cons (.bl _) (.cons (.bl _) (.cons (.bl _) (.cons (.bl _) (.cons (.bl _) (.cons (.bl _) .nil))))))))))
theorem sorts_range (j : Nat) : (List.range 10).map (fun n => V.bl (decide (j = n))) = sortsOf j := rfl
theorem ones_dp {K : PySem.W.Frag} {H : Hp} {p r : Addr} {ks : List Int} (h : H p = some (.lst [.ref r, .ref r, .ref r, .ref r, .ref r, .ref r, .ref r, .ref r])) (hr : H r = some (.lst (ks.map V.int))) :
    Dp K H (.ref p) (.list (List.replicate 8 (.list (ks.map .int)))) := by
  have one : Dp K H (.ref r) (.list (ks.map .int)) := .lst (SqL.of hr) (by
    clear h hr
    induction ks with
    | nil => exact .nil
    | cons n ks ih => exact .cons (.int n) ih)
  exact .lst (SqL.of h) (.cons one (.cons one (.cons one (.cons one (.cons one (.cons one (.cons one (.cons one .nil))))))))
section
variable {P : Program} {w : World} {K : PySem.W.Frag} {mg : Str → Option Value} {base : Heap} {cs fi : Nat → Addr} {fd : Nat → FuncData} {L fB fV fS fM fN fH : Addr} {dB dV dS dM dN dH : FuncData}
theorem ok_law {f : Addr} {fx : FuncData} (F : Fun K "law" "law" sLaw f fx) (T : TxtL P w K mg base cs fi fd L fB fV fS fM fN fH dB dV dS dM dN dH) : FnG P w K mg base 6 f fx ["_law_script"] (spLaw K) := by
  refine Fun.okG F scLaw (fun vs H Q E h => ?_) (fun cdv A outer s H vs Q silent hr h => ?_)
  · obtain ⟨a, ns, rfl, _⟩ := h
    rfl
  · obtain ⟨a, ns, rfl, hs, hl, k⟩ := h
    have hr1 := hr.mono (show 1 ≤ 5 by decide)
    have hr3 := hr.mono (show 3 ≤ 5 by decide)
    refine ⟨_, pss_cons (ps_for PassesOwn.never rfl (pi_range1 (by rfl) T.d.range (pa_cons (pe_callB (call_max2 rfl) (by rfl) T.max (by decide +kernel) (pa_cons pe_int (pa_cons (pe_callB (call_min2 rfl) (by rfl) T.min (by decide +kernel) (pa_cons pe_int (pa_cons (pe_callB call_len_seq (by rfl) T.d.len PySem.boot_len (pa_cons (pv 0) pa_nil)) pa_nil))) pa_nil))) pa_nil)) (pg_name (i := 1) scLaw.nd rfl (.inl rfl))
      (pss_cons (ps_set (i := 2) scLaw.nd rfl (.inr rfl) (pe_call T.okB hr1 (by rfl) T.gB T.kB T.bB .nil pass0 (pa_cons (pv 0) (pa_cons (pv 1) (pa_cons pe_int pa_nil)))))
      (C8.pss_cut (ps_setLc (i := 3) (own := [("_law_turn", 9)]) (g := gName 9) (tt := tYes) rfl scLaw.nd rfl rfl (sw_true rfl rfl rfl (by decide +kernel)) (pi_range1 (by rfl) T.d.range (pa_cons pe_int pa_nil)) (blkOk_by (N := lawN) (sc := defScope sLaw) (by decide +kernel)) (fun _ _ _ _ _ => pg_name (i := 9) scLaw.nd rfl (Or.inl rfl)) (fun _ _ _ _ _ => pts_nil)
        (fun _ _ _ _ _ => pe_call T.okV hr3 (by rfl) T.gV T.kVa T.bV .nil pass0 (pa_cons (pv 2) pa_nil)))
      (pss_cons (ps_set (i := 4) scLaw.nd rfl (.inl rfl) (pe_call T.okM hr3 (by rfl) T.gM T.kM T.bM .nil pass0 (pa_cons (pv 3) pa_nil)))
      (C8.pss_cut (ps_for PassesOwn.never rfl (pi_enum (by rfl) T.enumerate (pa_cons (pv 4) pa_nil)) (pg_tup rfl (pgs_cons (pg_name (i := 5) scLaw.nd rfl (.inr rfl)) (pgs_cons (pg_name (i := 6) scLaw.nd rfl (.inl rfl)) pgs_nil)))
        (pss_cons (ps_if (pt_cmpR (op_neD hr.units) (pe_call T.okS hr1 (by rfl) T.gS T.kS T.bS .nil pass0 (pa_cons (pv 6) pa_nil))
            (pe_lc (own := [("_law_other", 10)]) (g := gName 10) (tt := tYes) (by rfl) scLaw.nd (pi_range1 (by rfl) T.d.range (pa_cons pe_int pa_nil)) (blkOk_by (N := lawN) (sc := defScope sLaw) (by decide +kernel)) (fun _ _ _ _ _ => pg_name (i := 10) scLaw.nd rfl (Or.inl rfl)) (fun _ _ _ _ _ => pts_nil)
              (fun _ _ _ _ _ => pe_cmpR op_eq (pv 10) (pv 5) (nomark _))) (nomark _)) (pss_one (ps_ret pe_bl)) pss_nil)
        (pss_one (ps_if (PW.pt (pw_or (pt_not (pt_val (pe_callB call_isX (by rfl) T.isinstance (by decide +kernel) (pa_cons (pv 6) (pa_cons (pe_glob (v := .ref L) (by rfl) T.gL rfl) pa_nil)))))
          (pw_or1 (pt_not (pt_val (pe_callB call_isX (by rfl) T.isinstance (by decide +kernel) (pa_cons (pv 6) (pa_cons (pe_bltn (v := .ty "ValueError") (by rfl) T.ve PyProof.Rows.Boot.«ValueError» rfl) pa_nil)))))))) (pss_one (ps_ret pe_bl)) pss_nil))))
      (pss_cons (ps_if (PW.pt (pw_or (pt_cmpR op_ne (pe_callB (call_reprD silent hr.units) (by rfl) T.repr (by decide +kernel) (pa_cons (pe_call T.okH hr1 (by rfl) T.gH T.kH T.bH .nil pass0 (pa_cons (pv 4) pa_nil)) pa_nil)) (pe_callB (call_reprD silent hr.units) (by rfl) T.repr (by decide +kernel) (pa_cons (pv 3) pa_nil)) (nomark _))
        (pw_or1 (pt_cmpR op_ne (pe_callB (call_reprD silent hr.units) (by rfl) T.repr (by decide +kernel) (pa_cons (pe_call T.okH hr1 (by rfl) T.gH T.kH T.bH .nil pass0 (pa_cons (pe_call T.okN hr3 (by rfl) T.gN T.kN T.bN .nil pass0 (pa_cons (pv 3) pa_nil)) pa_nil)) pa_nil)) (pe_callB (call_reprD silent hr.units) (by rfl) T.repr (by decide +kernel) (pa_cons (pv 3) pa_nil)) (nomark _))))) (pss_one (ps_ret pe_bl)) pss_nil)
      (pss_cons (ps_set (i := 7) scLaw.nd rfl (.inl rfl) (pe_lst (pa_cons pe_int pa_nil)))
      (pss_cons (ps_set (i := 8) scLaw.nd rfl (.inl rfl) (pe_call T.okM hr3 (by rfl) T.gM T.kM T.bM .nil pass0 (pa_cons (pe_op op_rep (pe_lst (pa_cons (pv 7) pa_nil)) pe_int) pa_nil)))
      (pss_cons (ps_if (pt_cmpR (op_neD hr.units) (pe_call T.okH hr1 (by rfl) T.gH T.kH T.bH .nil pass0 (pa_cons (pv 8) pa_nil)) (pe_op op_rep (pe_lst (pa_cons (pe_lst (pa_cons pe_int pa_nil)) pa_nil)) pe_int) (nomark _)) (pss_one (ps_ret pe_bl)) pss_nil)
      (pss_cons (ps_expr (pe_bm PySem.F.plainAttrs_list PySem.F.slot_list_append PySem.F.type_list_append mt_append (pv 7) (pa_cons pe_int pa_nil)))
      (pss_one (ps_if (pt_cmpR (op_neD hr.units) (pe_call T.okH hr1 (by rfl) T.gH T.kH T.bH .nil pass0 (pa_cons (pv 8) pa_nil)) (pe_op op_rep (pe_lst (pa_cons (pe_lst (pa_cons pe_int (pa_cons pe_int pa_nil))) pa_nil)) pe_int) (nomark _)) (pss_one (ps_ret pe_bl)) pss_nil))))))))))))
      (pss_one (ps_ret pe_bl)), ?_⟩
    -- the turns: one to three
    have hmap : (ns.map V.int).length = ns.length := List.length_map ..
    refine ⟨_, rfl, a, _, rfl, .inl hs, _, _, rfl, _, _, rfl, _, rfl, ?_, ?_, for_range (lo := 0) (n := Int.toNat _) (fun i σ H' => ∃ x1 x2 x3 x4 x5 x6 x7 x8 x9 x10 : Option V, σ = [some (.ref a), x1, x2, x3, x4, x5, x6, x7, x8, x9, x10] ∧ Same H H')
      ⟨none, none, none, none, none, none, none, none, none, none, rfl, Same.refl H⟩ ?_ ?_⟩
    · split <;> split <;> omega
    · split <;> split <;> omega
    · rintro i σ G hi ⟨x1, x2, x3, x4, x5, x6, x7, x8, x9, x10, rfl, sG⟩
      have hi3 : i ≤ 2 := by
        revert hi
        split <;> split <;> omega
      refine ⟨_, rfl, _, rfl, a, ns, 0 + (i : Int), 1, rfl, sG.seq hs, by omega, by omega, by decide, by decide, by omega, fun b G1 s1 nb bb => ?_⟩
      -- _law_some
      refine ⟨fun σ' H' => ∃ (D : Addr) (acc : List V) (S : Addr → Prop), σ' = [some (.ref a), some (.int (0 + (i : Int))), some (.ref b), some (.ref D), x4, x5, x6, x7, x8, x9, x10] ∧ Same G H' ∧ H' D = some (.lst acc) ∧ acc.length = 8 ∧ ∀ v ∈ acc, Dat K S H' v, ?_, ?_⟩
      · refine ⟨8, rfl, by decide, by decide, fun D nD => lc_range (lo := 0) (n := 8) (fun i H' => ∃ acc : List V, H' D = some (.lst acc) ∧ acc.length = i ∧ BoxAt H' b ∧ KeptS (fun x => x = b ∨ x = D) G1 H' ∧ ∀ v ∈ acc, Dat K (fun x => x = b ∨ x = D) H' v) ?_ ?_ ?_⟩
        · exact ⟨[], upd_same, rfl, bb.new nD, KeptS.new nD, fun v hv => (List.not_mem_nil hv).elim⟩
        · rintro j H' hj ⟨acc, hD, len, bH, kH, dat⟩
          have Db : D ≠ b := bb.ne nD
          refine ⟨rfl, _, rfl, b, fun x => x = b ∨ x = D, rfl, bH, .inl rfl, ?_, fun v H2 kb b2 dv => ?_⟩
          · rintro x (rfl | rfl) z
            · obtain ⟨o, e, _⟩ := bH
              rw [e] at z
              cases z
            · rw [hD] at z
              cases z
          · have hD2 := kb _ _ Db hD
            have kS : KeptS (fun x => x = b ∨ x = D) H' (upd H2 D (.lst (acc ++ [v]))) := (KeptS.of (.inl rfl) kb).trans (KeptS.at (.inr rfl))
            refine ⟨acc, hD2, by rw [len]; exact small1000 (by omega), acc ++ [v], upd_same, by rw [List.length_append, len]; rfl, ?_, kH.trans kS, fun u hu => ?_⟩
            · obtain ⟨o, e, y⟩ := b2
              exact ⟨o, by rw [upd_ne (Ne.symm Db)]; exact e, y⟩
            · rcases List.mem_append.mp hu with hu | hu
              · exact (dat u hu).kept kS
              · rw [List.mem_singleton] at hu
                subst hu
                exact dv.kept (KeptS.at (.inr rfl))
        · rintro H' ⟨acc, hD, len, bH, kH, dat⟩
          refine ⟨D, acc, _, rfl, fun x o e => kH x o ?_ (s1 x o e), hD, len, dat⟩
          rintro (rfl | rfl)
          · rw [nb] at e
            cases e
          · rw [s1.free nD] at e
            cases e
      · rintro σ' H1 ⟨D, acc, S, rfl, sH1, hD, hlen, dat⟩
        obtain ⟨ds, dsl, dso, dsk⟩ := dats acc dat
        obtain ⟨w1, w2, w3, w4⟩ := list_shows (ds := ds) (by rw [dsl, hlen]; decide) dso
        refine ⟨_, rfl, D, acc, rfl, SqL.of hD, hlen, fun p es H2 s2 np hp M => ?_⟩
        -- for spot, one in enumerate(made)
        refine ⟨fun σ' H' => ∃ x5 x6 : Option V, σ' = [some (.ref a), some (.int (0 + (i : Int))), some (.ref b), some (.ref D), some (.ref p), x5, x6, x7, x8, x9, x10] ∧ Same H2 H', ?_, ?_⟩
        · have el : (es.map V.ref).length = 10 := by rw [List.length_map, M.1]
          refine ⟨_, rfl, p, _, rfl, SqL.of hp, for_enum (xs := es.map V.ref) (fun _ σ' H' => ∃ x5 x6 : Option V, σ' = [some (.ref a), some (.int (0 + (i : Int))), some (.ref b), some (.ref D), some (.ref p), x5, x6, x7, x8, x9, x10] ∧ Same H2 H')
            ⟨x5, x6, rfl, Same.refl _⟩ (fun _ _ _ _ ⟨_, _, _, s⟩ => SqL.of (s _ _ hp)) ?_ (fun _ _ q => q)⟩
          rintro j x T0 σ' H3 hx ⟨x5, x6, rfl, s3⟩ hT
          obtain ⟨e, he, rfl⟩ : ∃ e, es[j]? = some e ∧ x = V.ref e := by
            rw [List.getElem?_map] at hx
            cases q : es[j]? with
            | none =>
              rw [q] at hx
              cases hx
            | some e =>
              rw [q] at hx
              exact ⟨e, rfl, (Option.some.inj hx).symm⟩
          have hj : j < 10 := by
            have := (List.getElem?_eq_some_iff.mp he).1
            rw [M.1] at this
            exact this
          have sT := Same.new hT (o := .tup [.int (j : Int), .ref e])
          have held := ((M.2 j e he).same s3).same sT
          refine ⟨T0, _, rfl, SqT.of upd_same, rfl, _, _, rfl, _, _, rfl, rfl, ?_⟩
          refine ⟨_, rfl, e, j, _, rfl, hj, held, fun q H4 s4 nq hq => ⟨10, rfl, by decide, by decide, fun D2 nD2 => lc_range (lo := 0) (n := 10) (fun n H' => Same H4 H' ∧ H' D2 = some (.lst ((List.range n).map fun m => V.bl (decide (j = m))))) ?_ ?_ ?_⟩⟩
          · exact ⟨Same.new nD2, upd_same⟩
          · rintro n H' hn ⟨sH, hD2⟩
            refine ⟨rfl, _, rfl, _, rfl, rfl, _, hD2, ?_, same_put sH nD2, ?_⟩
            · rw [List.length_map, List.length_range]
              exact small1000 (by omega)
            · rw [upd_same, List.range_succ, List.map_append]
              have en : decide (V.int (0 + (n : Int)) = V.int (j : Int)) = decide (j = n) := by
                by_cases z : j = n
                · subst z
                  simp
                · have : ¬ (0 + (n : Int)) = (j : Int) := by omega
                  rw [decide_eq_false (fun y => this (V.int.inj y)), decide_eq_false z]
              rw [en]
              rfl
          · rintro H' ⟨sH, hD2⟩
            rw [sorts_range] at hD2
            refine ⟨bools j, bools j, bools_dp (sH _ _ hq), bools_dp hD2, rfl, rfl, _, rfl, iteN (by rw [PySem.SeqAt.eqv_refl _ rfl]; rfl) ?_⟩
            have hx := (held.same s4).same sH
            refine ⟨_, rfl, e, cs j, _, _, _, _, rfl, hx, T.z.isC j hj, .own _, T.kL j hj, _, rfl, iteN rfl ?_⟩
            refine ⟨_, rfl, e, cs j, _, _, _, _, rfl, hx, T.z.isC j hj, .ty _, T.kV j hj, _, rfl, iteN rfl ?_⟩
            exact ⟨_, _, rfl, ((s3.trans sT).trans s4).trans sH⟩
        · rintro σ' H3 ⟨x5, x6, rfl, s3⟩
          have s13 := s2.trans s3
          -- repr
          refine ⟨_, rfl, p, es, acc, 10, rfl, SqL.of (s3 _ _ hp), by decide, M.same s3, hlen, fun q H4 s4 nq hq => ⟨q, .list ds, rfl, .lst (SqL.of hq) (dsk _ (KeptS.of_same (s13.trans s4))), w1, w2, w3, w4, _, rfl, D, .list ds, rfl,
            .lst (SqL.of (s4 _ _ (s13 _ _ hD))) (dsk _ (KeptS.of_same (s13.trans s4))), w1, w2, w3, w4, rfl, _, rfl, iteN (by simp) ?_⟩⟩
          have s14 := s13.trans s4
          refine ⟨_, rfl, D, acc, rfl, SqL.of (s14 _ _ hD), hlen, fun p2 es2 H5 s5 np2 hp2 M2 => ⟨p2, es2, acc, 8, rfl, SqL.of hp2, by decide, M2, hlen, fun q2 H6 s6 nq2 hq2 => ⟨q2, .list ds, rfl, .lst (SqL.of hq2) (dsk _ (KeptS.of_same ((s14.trans s5).trans s6))), w1, w2, w3, w4, _, rfl, D, .list ds, rfl,
            .lst (SqL.of (s6 _ _ (s5 _ _ (s14 _ _ hD)))) (dsk _ (KeptS.of_same ((s14.trans s5).trans s6))), w1, w2, w3, w4, rfl, _, rfl, iteN (by simp) ?_⟩⟩⟩
          have s16 := (s14.trans s5).trans s6
          have sG6 := sH1.trans s16
          -- row = [1]
          refine ⟨(by show 1 ≤ sizeLine; decide), fun r nr => ?_⟩
          have nrG := (sG.trans sG6).free nr
          have t1 := Same.new nr (o := .lst [.int 1])
          refine ⟨_, rfl, (by show 1 ≤ sizeLine; decide), fun u nu => ⟨u, 8, _, rfl, rfl, upd_same, by decide, by decide, (by show 8 ≤ sizeLine; decide), fun x nx => ?_⟩⟩
          have t2 := (Same.new nu (o := .lst [.ref r])).trans (Same.new nx (o := .lst (List.replicate (8 : Int).toNat [V.ref r]).flatten))
          refine ⟨x, _, rfl, SqL.of upd_same, rfl, fun p3 es3 H7 s7 np3 hp3 M3 => ?_⟩
          have hr7 : H7 r = some (.lst [.int 1]) := s7 _ _ (t2 _ _ upd_same)
          have ne3 : p3 ≠ r := fun z => by
            rw [z, t2 _ _ upd_same] at np3
            cases np3
          refine ⟨_, rfl, p3, es3, _, 10, rfl, SqL.of hp3, by decide, M3, rfl, fun q3 H8 s8 nq3 hq3 => ⟨(by show 1 ≤ sizeLine; decide), fun y ny => ⟨(by show 1 ≤ sizeLine; decide), fun y2 ny2 => ⟨y2, 8, _, rfl, rfl, upd_same, by decide, by decide, (by show 8 ≤ sizeLine; decide), fun z nz => ?_⟩⟩⟩⟩
          have u1 := Same.new ny (o := .lst [.int 1])
          have u2 := (Same.new ny2 (o := .lst [.ref y])).trans (Same.new nz (o := .lst (List.replicate (8 : Int).toNat [V.ref y]).flatten))
          refine ⟨_, _, ones_dp (ks := [1]) (u2 _ _ (u1 _ _ hq3)) (u2 _ _ (u1 _ _ (s8 _ _ hr7))), ones_dp (ks := [1]) upd_same (u2 _ _ upd_same), rfl, rfl, _, rfl, iteN (by decide +kernel) ?_⟩
          -- row.append(2)
          have hr9 := u2 _ _ (u1 _ _ (s8 _ _ hr7))
          have hp9 := u2 _ _ (u1 _ _ (s8 _ _ hp3))
          have M9 := ((M3.same s8).same u1).same u2
          refine ⟨_, rfl, .inl ⟨rfl, _, SqL.of hr9⟩, r, _, _, rfl, rfl, hr9, small1000 (by decide), ?_⟩
          refine ⟨_, rfl, p3, es3, _, 10, rfl, SqL.of (by rw [upd_ne ne3]; exact hp9), by decide, ⟨M9.1, fun n e he => (M9.2 n e he).kept (b := r) (fun c v nc z => by rw [upd_ne nc]; exact z) hr9⟩, rfl, fun q4 H10 s10 nq4 hq4 => ⟨(by show 2 ≤ sizeLine; decide), fun v nv => ⟨(by show 1 ≤ sizeLine; decide), fun v2 nv2 => ⟨v2, 8, _, rfl, rfl, upd_same, by decide, by decide, (by show 8 ≤ sizeLine; decide), fun z4 nz4 => ?_⟩⟩⟩⟩
          have v1 := Same.new nv (o := .lst [.int 1, .int 2])
          have v3 := (Same.new nv2 (o := .lst [.ref v])).trans (Same.new nz4 (o := .lst (List.replicate (8 : Int).toNat [V.ref v]).flatten))
          refine ⟨_, _, ones_dp (ks := [1, 2]) (v3 _ _ (v1 _ _ hq4)) (v3 _ _ (v1 _ _ (s10 _ _ upd_same))), ones_dp (ks := [1, 2]) upd_same (v3 _ _ upd_same), rfl, rfl, _, rfl, iteN (by decide +kernel) ?_⟩
          refine ⟨_, _, _, _, _, _, _, _, _, _, rfl, ?_⟩
          have w0 : Same H _ := sG.trans (sG6.trans (t1.trans (t2.trans (s7.trans (s8.trans (u1.trans u2))))))
          exact (((same_put w0 nrG).trans s10).trans v1).trans v3
    · rintro σ H' _
      exact k _
end
end Lay
set_option Elab.async false
set_option linter.all false
set_option maxRecDepth 100000
set_option maxHeartbeats 8000000
namespace Lay
open PySem L2
theorem refs_ok (L : Addr) : PySem.HandSPX.refsVE [.ref L, .type "ValueError", .type "Exception", .type "BaseException", .type "object"] = true := by
  show PySem.HandSPX.refsVE [.type "ValueError", .type "Exception", .type "BaseException", .type "object"] = true
  decide +kernel
theorem kit_of {K : PySem.W.Frag} {C D : Addr} {b : Bool} (hd : PySem.W.hasDictIn K D = true) (ty : PySem.W.typeIn K (.ref D) = some (.type "type")) (s : PySem.W.subIn K (.ref C) (.ref D) = some b) (e : C = D → b = true) : PySem.W.kitOne K (.ref C) (.ref D) = some b := by
  unfold PySem.W.kitOne
  by_cases h : C = D
  · rw [if_pos (by simp [h]), e h]
  · rw [if_neg (by simp [h])]
    obtain ⟨cd, hc, _⟩ := PySem.W.any_some hd
    unfold PySem.W.kitCls
    dsimp only
    rw [if_pos (by rw [hc, ty]; rfl)]
    exact s
theorem kit_val {K : PySem.W.Frag} {C : Addr} (s : PySem.W.subIn K (.ref C) (.type "ValueError") = some true) : PySem.W.kitOne K (.ref C) (.type "ValueError") = some true := by
  unfold PySem.W.kitOne
  have n : ¬ (Value.ref C == Value.type "ValueError") = true := fun h => by
    have q := beq_iff_eq.mp h
    cases q
  rw [if_neg n]
  unfold PySem.W.kitCls
  dsimp only
  rw [if_pos (by decide +kernel)]
  exact s

theorem all_mk {l : PySem.W.OpenLaw} {w : World} {K : PySem.W.Frag} {h : Heap} {mg : Str → Option Value} {fa L c0 f0 c1 f1 c2 f2 c3 f3 c4 f4 c5 f5 c6 f6 c7 f7 c8 c9 g_box g_take g_pick g_val g_sorts g_made g_named g_held g_law : Addr} (X : K.In h) (G : h.Ns mainGlobals mg) (hfa : mg "law" = some (.ref fa))
    {nm0 qn0 : Str} {N0 : Addr} {bs0 : List Value} {sn0 : List Str} {sub0 : List Value} {ab0 : Bool} {col0 : Option Bool} {dd0 : Option Addr} {m00 m10 m20 m30 m50 : Option Value}
    {odI0 anI0 : Option Addr} {slI0 : Array (Option Value)} {ocI0 kVI0 dcI0 pmI0 cdI0 ctI0 : Value}
    {nm1 qn1 : Str} {N1 : Addr} {bs1 : List Value} {sn1 : List Str} {sub1 : List Value} {ab1 : Bool} {col1 : Option Bool} {dd1 : Option Addr} {m01 m11 m21 m31 m51 : Option Value}
    {odI1 anI1 : Option Addr} {slI1 : Array (Option Value)} {ocI1 kVI1 dcI1 pmI1 cdI1 ctI1 : Value}
    {nm2 qn2 : Str} {N2 : Addr} {bs2 : List Value} {sn2 : List Str} {sub2 : List Value} {ab2 : Bool} {col2 : Option Bool} {dd2 : Option Addr} {m02 m12 m22 m32 m52 : Option Value}
    {odI2 anI2 : Option Addr} {slI2 : Array (Option Value)} {ocI2 kVI2 dcI2 pmI2 cdI2 ctI2 : Value}
    {nm3 qn3 : Str} {N3 : Addr} {bs3 : List Value} {sn3 : List Str} {sub3 : List Value} {ab3 : Bool} {col3 : Option Bool} {dd3 : Option Addr} {m03 m13 m23 m33 m53 : Option Value}
    {odI3 anI3 : Option Addr} {slI3 : Array (Option Value)} {ocI3 kVI3 dcI3 pmI3 cdI3 ctI3 : Value}
    {nm4 qn4 : Str} {N4 : Addr} {bs4 : List Value} {sn4 : List Str} {sub4 : List Value} {ab4 : Bool} {col4 : Option Bool} {dd4 : Option Addr} {m04 m14 m24 m34 m54 : Option Value}
    {odI4 anI4 : Option Addr} {slI4 : Array (Option Value)} {ocI4 kVI4 dcI4 pmI4 cdI4 ctI4 : Value}
    {nm5 qn5 : Str} {N5 : Addr} {bs5 : List Value} {sn5 : List Str} {sub5 : List Value} {ab5 : Bool} {col5 : Option Bool} {dd5 : Option Addr} {m05 m15 m25 m35 m55 : Option Value}
    {odI5 anI5 : Option Addr} {slI5 : Array (Option Value)} {ocI5 kVI5 dcI5 pmI5 cdI5 ctI5 : Value}
    {nm6 qn6 : Str} {N6 : Addr} {bs6 : List Value} {sn6 : List Str} {sub6 : List Value} {ab6 : Bool} {col6 : Option Bool} {dd6 : Option Addr} {m06 m16 m26 m36 m56 : Option Value}
    {odI6 anI6 : Option Addr} {slI6 : Array (Option Value)} {ocI6 kVI6 dcI6 pmI6 cdI6 ctI6 : Value}
    {nm7 qn7 : Str} {N7 : Addr} {bs7 : List Value} {sn7 : List Str} {sub7 : List Value} {ab7 : Bool} {col7 : Option Bool} {dd7 : Option Addr} {m07 m17 m27 m37 m57 : Option Value}
    {odI7 anI7 : Option Addr} {slI7 : Array (Option Value)} {ocI7 kVI7 dcI7 pmI7 cdI7 ctI7 : Value}
    {od_box an_box : Option Addr} {sl_box : Array (Option Value)} {oc_box kV_box dc_box pm_box cd_box ct_box : Value}
    {od_take an_take : Option Addr} {sl_take : Array (Option Value)} {oc_take kV_take dc_take pm_take cd_take ct_take : Value}
    {od_pick an_pick : Option Addr} {sl_pick : Array (Option Value)} {oc_pick kV_pick dc_pick pm_pick cd_pick ct_pick : Value}
    {od_val an_val : Option Addr} {sl_val : Array (Option Value)} {oc_val kV_val dc_val pm_val cd_val ct_val : Value}
    {od_sorts an_sorts : Option Addr} {sl_sorts : Array (Option Value)} {oc_sorts kV_sorts dc_sorts pm_sorts cd_sorts ct_sorts : Value}
    {od_made an_made : Option Addr} {sl_made : Array (Option Value)} {oc_made kV_made dc_made pm_made cd_made ct_made : Value}
    {od_named an_named : Option Addr} {sl_named : Array (Option Value)} {oc_named kV_named dc_named pm_named cd_named ct_named : Value}
    {od_held an_held : Option Addr} {sl_held : Array (Option Value)} {oc_held kV_held dc_held pm_held cd_held ct_held : Value}
    {od_law an_law : Option Addr} {sl_law : Array (Option Value)} {oc_law kV_law dc_law pm_law cd_law ct_law : Value}
    (aL : PySem.W.nsIn K mainGlobals "LayError" = some (some (.ref L)))
    (tL : PySem.W.typeIn K (.ref L) = some (.type "type"))
    (hL : PySem.W.hasDictIn K L = true)
    (aC0 : PySem.W.nsIn K mainGlobals "InvalidPiece" = some (some (.ref c0)))
    (ty0 : PySem.W.typeIn K (.ref c0) = some (.type "type"))
    (kC0 : PySem.W.keepIn K (.ref c0) = true)
    (ex0 : PySem.W.subIn K (.ref c0) (.type "BaseException") = some true)
    (sL0 : PySem.W.subIn K (.ref c0) (.ref L) = some true)
    (sV0 : PySem.W.subIn K (.ref c0) (.type "ValueError") = some true)
    (ga0 : PySem.W.findIn K (.ref c0) "__getattribute__" = some (some (.builtin "BaseException.__getattribute__")))
    (gg0 : PySem.W.findIn K (.ref c0) "__getattr__" = some none)
    (hd0 : PySem.W.hasDictIn K c0 = true)
    (ca0 : PySem.W.findIn K (.ref c0) "__class__" = some (some (.builtin "object.__class__")))
    (mo0 : PySem.W.mroIn K c0 (.type "object") = some true)
    (xL0 : K.lookup c0 = some (excClassObj nm0 qn0 c0 N0 bs0 [.ref L, .type "ValueError", .type "Exception", .type "BaseException", .type "object"] true sn0 sub0 ab0 col0 dd0 m00 m10 m20 m30 m50 "ValueError.__new__"))
    (sa0 : PySem.W.findIn K (.ref c0) "__setattr__" = some (some (.builtin "object.__setattr__")))
    (in0 : PySem.W.findIn K (.ref c0) "__init__" = some (some (.ref f0)))
    (ti0 : PySem.W.typeIn K (.ref f0) = some (.type "function"))
    (no0 : PySem.W.findIn K (.ref c0) "word" = some none)
    (lI0 : K.lookup f0 = some ⟨ocI0, odI0, .func (PySem.W.fnOf "__init__" "InvalidPiece.__init__" (defArgs sIInvalidPiece) (defBody sIInvalidPiece) (defScope sIInvalidPiece) .none kVI0 dcI0 pmI0 anI0 cdI0 ctI0), slI0⟩)
    (cI0 : PySem.W.codeIn K cdI0 "InvalidPiece.__init__" = true)
    (kI0 : PySem.W.keepIn K (.ref f0) = true)
    (aC1 : PySem.W.nsIn K mainGlobals "InvalidProgram" = some (some (.ref c1)))
    (ty1 : PySem.W.typeIn K (.ref c1) = some (.type "type"))
    (kC1 : PySem.W.keepIn K (.ref c1) = true)
    (ex1 : PySem.W.subIn K (.ref c1) (.type "BaseException") = some true)
    (sL1 : PySem.W.subIn K (.ref c1) (.ref L) = some true)
    (sV1 : PySem.W.subIn K (.ref c1) (.type "ValueError") = some true)
    (ga1 : PySem.W.findIn K (.ref c1) "__getattribute__" = some (some (.builtin "BaseException.__getattribute__")))
    (gg1 : PySem.W.findIn K (.ref c1) "__getattr__" = some none)
    (hd1 : PySem.W.hasDictIn K c1 = true)
    (ca1 : PySem.W.findIn K (.ref c1) "__class__" = some (some (.builtin "object.__class__")))
    (mo1 : PySem.W.mroIn K c1 (.type "object") = some true)
    (xL1 : K.lookup c1 = some (excClassObj nm1 qn1 c1 N1 bs1 [.ref L, .type "ValueError", .type "Exception", .type "BaseException", .type "object"] true sn1 sub1 ab1 col1 dd1 m01 m11 m21 m31 m51 "ValueError.__new__"))
    (sa1 : PySem.W.findIn K (.ref c1) "__setattr__" = some (some (.builtin "object.__setattr__")))
    (in1 : PySem.W.findIn K (.ref c1) "__init__" = some (some (.ref f1)))
    (ti1 : PySem.W.typeIn K (.ref f1) = some (.type "function"))
    (no1 : PySem.W.findIn K (.ref c1) "at" = some none)
    (lI1 : K.lookup f1 = some ⟨ocI1, odI1, .func (PySem.W.fnOf "__init__" "InvalidProgram.__init__" (defArgs sIInvalidProgram) (defBody sIInvalidProgram) (defScope sIInvalidProgram) .none kVI1 dcI1 pmI1 anI1 cdI1 ctI1), slI1⟩)
    (cI1 : PySem.W.codeIn K cdI1 "InvalidProgram.__init__" = true)
    (kI1 : PySem.W.keepIn K (.ref f1) = true)
    (aC2 : PySem.W.nsIn K mainGlobals "InvalidText" = some (some (.ref c2)))
    (ty2 : PySem.W.typeIn K (.ref c2) = some (.type "type"))
    (kC2 : PySem.W.keepIn K (.ref c2) = true)
    (ex2 : PySem.W.subIn K (.ref c2) (.type "BaseException") = some true)
    (sL2 : PySem.W.subIn K (.ref c2) (.ref L) = some true)
    (sV2 : PySem.W.subIn K (.ref c2) (.type "ValueError") = some true)
    (ga2 : PySem.W.findIn K (.ref c2) "__getattribute__" = some (some (.builtin "BaseException.__getattribute__")))
    (gg2 : PySem.W.findIn K (.ref c2) "__getattr__" = some none)
    (hd2 : PySem.W.hasDictIn K c2 = true)
    (ca2 : PySem.W.findIn K (.ref c2) "__class__" = some (some (.builtin "object.__class__")))
    (mo2 : PySem.W.mroIn K c2 (.type "object") = some true)
    (xL2 : K.lookup c2 = some (excClassObj nm2 qn2 c2 N2 bs2 [.ref L, .type "ValueError", .type "Exception", .type "BaseException", .type "object"] true sn2 sub2 ab2 col2 dd2 m02 m12 m22 m32 m52 "ValueError.__new__"))
    (sa2 : PySem.W.findIn K (.ref c2) "__setattr__" = some (some (.builtin "object.__setattr__")))
    (in2 : PySem.W.findIn K (.ref c2) "__init__" = some (some (.ref f2)))
    (ti2 : PySem.W.typeIn K (.ref f2) = some (.type "function"))
    (no2 : PySem.W.findIn K (.ref c2) "at" = some none)
    (lI2 : K.lookup f2 = some ⟨ocI2, odI2, .func (PySem.W.fnOf "__init__" "InvalidText.__init__" (defArgs sIInvalidText) (defBody sIInvalidText) (defScope sIInvalidText) .none kVI2 dcI2 pmI2 anI2 cdI2 ctI2), slI2⟩)
    (cI2 : PySem.W.codeIn K cdI2 "InvalidText.__init__" = true)
    (kI2 : PySem.W.keepIn K (.ref f2) = true)
    (aC3 : PySem.W.nsIn K mainGlobals "InvalidRow" = some (some (.ref c3)))
    (ty3 : PySem.W.typeIn K (.ref c3) = some (.type "type"))
    (kC3 : PySem.W.keepIn K (.ref c3) = true)
    (ex3 : PySem.W.subIn K (.ref c3) (.type "BaseException") = some true)
    (sL3 : PySem.W.subIn K (.ref c3) (.ref L) = some true)
    (sV3 : PySem.W.subIn K (.ref c3) (.type "ValueError") = some true)
    (ga3 : PySem.W.findIn K (.ref c3) "__getattribute__" = some (some (.builtin "BaseException.__getattribute__")))
    (gg3 : PySem.W.findIn K (.ref c3) "__getattr__" = some none)
    (hd3 : PySem.W.hasDictIn K c3 = true)
    (ca3 : PySem.W.findIn K (.ref c3) "__class__" = some (some (.builtin "object.__class__")))
    (mo3 : PySem.W.mroIn K c3 (.type "object") = some true)
    (xL3 : K.lookup c3 = some (excClassObj nm3 qn3 c3 N3 bs3 [.ref L, .type "ValueError", .type "Exception", .type "BaseException", .type "object"] true sn3 sub3 ab3 col3 dd3 m03 m13 m23 m33 m53 "ValueError.__new__"))
    (sa3 : PySem.W.findIn K (.ref c3) "__setattr__" = some (some (.builtin "object.__setattr__")))
    (in3 : PySem.W.findIn K (.ref c3) "__init__" = some (some (.ref f3)))
    (ti3 : PySem.W.typeIn K (.ref f3) = some (.type "function"))
    (no3 : PySem.W.findIn K (.ref c3) "part" = some none)
    (lI3 : K.lookup f3 = some ⟨ocI3, odI3, .func (PySem.W.fnOf "__init__" "InvalidRow.__init__" (defArgs sIInvalidRow) (defBody sIInvalidRow) (defScope sIInvalidRow) .none kVI3 dcI3 pmI3 anI3 cdI3 ctI3), slI3⟩)
    (cI3 : PySem.W.codeIn K cdI3 "InvalidRow.__init__" = true)
    (kI3 : PySem.W.keepIn K (.ref f3) = true)
    (aC4 : PySem.W.nsIn K mainGlobals "InvalidTool" = some (some (.ref c4)))
    (ty4 : PySem.W.typeIn K (.ref c4) = some (.type "type"))
    (kC4 : PySem.W.keepIn K (.ref c4) = true)
    (ex4 : PySem.W.subIn K (.ref c4) (.type "BaseException") = some true)
    (sL4 : PySem.W.subIn K (.ref c4) (.ref L) = some true)
    (sV4 : PySem.W.subIn K (.ref c4) (.type "ValueError") = some true)
    (ga4 : PySem.W.findIn K (.ref c4) "__getattribute__" = some (some (.builtin "BaseException.__getattribute__")))
    (gg4 : PySem.W.findIn K (.ref c4) "__getattr__" = some none)
    (hd4 : PySem.W.hasDictIn K c4 = true)
    (ca4 : PySem.W.findIn K (.ref c4) "__class__" = some (some (.builtin "object.__class__")))
    (mo4 : PySem.W.mroIn K c4 (.type "object") = some true)
    (xL4 : K.lookup c4 = some (excClassObj nm4 qn4 c4 N4 bs4 [.ref L, .type "ValueError", .type "Exception", .type "BaseException", .type "object"] true sn4 sub4 ab4 col4 dd4 m04 m14 m24 m34 m54 "ValueError.__new__"))
    (sa4 : PySem.W.findIn K (.ref c4) "__setattr__" = some (some (.builtin "object.__setattr__")))
    (in4 : PySem.W.findIn K (.ref c4) "__init__" = some (some (.ref f4)))
    (ti4 : PySem.W.typeIn K (.ref f4) = some (.type "function"))
    (no4 : PySem.W.findIn K (.ref c4) "at" = some none)
    (lI4 : K.lookup f4 = some ⟨ocI4, odI4, .func (PySem.W.fnOf "__init__" "InvalidTool.__init__" (defArgs sIInvalidTool) (defBody sIInvalidTool) (defScope sIInvalidTool) .none kVI4 dcI4 pmI4 anI4 cdI4 ctI4), slI4⟩)
    (cI4 : PySem.W.codeIn K cdI4 "InvalidTool.__init__" = true)
    (kI4 : PySem.W.keepIn K (.ref f4) = true)
    (aC5 : PySem.W.nsIn K mainGlobals "Refused" = some (some (.ref c5)))
    (ty5 : PySem.W.typeIn K (.ref c5) = some (.type "type"))
    (kC5 : PySem.W.keepIn K (.ref c5) = true)
    (ex5 : PySem.W.subIn K (.ref c5) (.type "BaseException") = some true)
    (sL5 : PySem.W.subIn K (.ref c5) (.ref L) = some true)
    (sV5 : PySem.W.subIn K (.ref c5) (.type "ValueError") = some true)
    (ga5 : PySem.W.findIn K (.ref c5) "__getattribute__" = some (some (.builtin "BaseException.__getattribute__")))
    (gg5 : PySem.W.findIn K (.ref c5) "__getattr__" = some none)
    (hd5 : PySem.W.hasDictIn K c5 = true)
    (ca5 : PySem.W.findIn K (.ref c5) "__class__" = some (some (.builtin "object.__class__")))
    (mo5 : PySem.W.mroIn K c5 (.type "object") = some true)
    (xL5 : K.lookup c5 = some (excClassObj nm5 qn5 c5 N5 bs5 [.ref L, .type "ValueError", .type "Exception", .type "BaseException", .type "object"] true sn5 sub5 ab5 col5 dd5 m05 m15 m25 m35 m55 "ValueError.__new__"))
    (sa5 : PySem.W.findIn K (.ref c5) "__setattr__" = some (some (.builtin "object.__setattr__")))
    (in5 : PySem.W.findIn K (.ref c5) "__init__" = some (some (.ref f5)))
    (ti5 : PySem.W.typeIn K (.ref f5) = some (.type "function"))
    (no5 : PySem.W.findIn K (.ref c5) "word" = some none)
    (lI5 : K.lookup f5 = some ⟨ocI5, odI5, .func (PySem.W.fnOf "__init__" "Refused.__init__" (defArgs sIRefused) (defBody sIRefused) (defScope sIRefused) .none kVI5 dcI5 pmI5 anI5 cdI5 ctI5), slI5⟩)
    (cI5 : PySem.W.codeIn K cdI5 "Refused.__init__" = true)
    (kI5 : PySem.W.keepIn K (.ref f5) = true)
    (aC6 : PySem.W.nsIn K mainGlobals "NoPiece" = some (some (.ref c6)))
    (ty6 : PySem.W.typeIn K (.ref c6) = some (.type "type"))
    (kC6 : PySem.W.keepIn K (.ref c6) = true)
    (ex6 : PySem.W.subIn K (.ref c6) (.type "BaseException") = some true)
    (sL6 : PySem.W.subIn K (.ref c6) (.ref L) = some true)
    (sV6 : PySem.W.subIn K (.ref c6) (.type "ValueError") = some true)
    (ga6 : PySem.W.findIn K (.ref c6) "__getattribute__" = some (some (.builtin "BaseException.__getattribute__")))
    (gg6 : PySem.W.findIn K (.ref c6) "__getattr__" = some none)
    (hd6 : PySem.W.hasDictIn K c6 = true)
    (ca6 : PySem.W.findIn K (.ref c6) "__class__" = some (some (.builtin "object.__class__")))
    (mo6 : PySem.W.mroIn K c6 (.type "object") = some true)
    (xL6 : K.lookup c6 = some (excClassObj nm6 qn6 c6 N6 bs6 [.ref L, .type "ValueError", .type "Exception", .type "BaseException", .type "object"] true sn6 sub6 ab6 col6 dd6 m06 m16 m26 m36 m56 "ValueError.__new__"))
    (sa6 : PySem.W.findIn K (.ref c6) "__setattr__" = some (some (.builtin "object.__setattr__")))
    (in6 : PySem.W.findIn K (.ref c6) "__init__" = some (some (.ref f6)))
    (ti6 : PySem.W.typeIn K (.ref f6) = some (.type "function"))
    (no6 : PySem.W.findIn K (.ref c6) "at" = some none)
    (lI6 : K.lookup f6 = some ⟨ocI6, odI6, .func (PySem.W.fnOf "__init__" "NoPiece.__init__" (defArgs sINoPiece) (defBody sINoPiece) (defScope sINoPiece) .none kVI6 dcI6 pmI6 anI6 cdI6 ctI6), slI6⟩)
    (cI6 : PySem.W.codeIn K cdI6 "NoPiece.__init__" = true)
    (kI6 : PySem.W.keepIn K (.ref f6) = true)
    (aC7 : PySem.W.nsIn K mainGlobals "NoRow" = some (some (.ref c7)))
    (ty7 : PySem.W.typeIn K (.ref c7) = some (.type "type"))
    (kC7 : PySem.W.keepIn K (.ref c7) = true)
    (ex7 : PySem.W.subIn K (.ref c7) (.type "BaseException") = some true)
    (sL7 : PySem.W.subIn K (.ref c7) (.ref L) = some true)
    (sV7 : PySem.W.subIn K (.ref c7) (.type "ValueError") = some true)
    (ga7 : PySem.W.findIn K (.ref c7) "__getattribute__" = some (some (.builtin "BaseException.__getattribute__")))
    (gg7 : PySem.W.findIn K (.ref c7) "__getattr__" = some none)
    (hd7 : PySem.W.hasDictIn K c7 = true)
    (ca7 : PySem.W.findIn K (.ref c7) "__class__" = some (some (.builtin "object.__class__")))
    (mo7 : PySem.W.mroIn K c7 (.type "object") = some true)
    (xL7 : K.lookup c7 = some (excClassObj nm7 qn7 c7 N7 bs7 [.ref L, .type "ValueError", .type "Exception", .type "BaseException", .type "object"] true sn7 sub7 ab7 col7 dd7 m07 m17 m27 m37 m57 "ValueError.__new__"))
    (sa7 : PySem.W.findIn K (.ref c7) "__setattr__" = some (some (.builtin "object.__setattr__")))
    (in7 : PySem.W.findIn K (.ref c7) "__init__" = some (some (.ref f7)))
    (ti7 : PySem.W.typeIn K (.ref f7) = some (.type "function"))
    (no7 : PySem.W.findIn K (.ref c7) "at" = some none)
    (lI7 : K.lookup f7 = some ⟨ocI7, odI7, .func (PySem.W.fnOf "__init__" "NoRow.__init__" (defArgs sINoRow) (defBody sINoRow) (defScope sINoRow) .none kVI7 dcI7 pmI7 anI7 cdI7 ctI7), slI7⟩)
    (cI7 : PySem.W.codeIn K cdI7 "NoRow.__init__" = true)
    (kI7 : PySem.W.keepIn K (.ref f7) = true)
    (aC8 : PySem.W.nsIn K mainGlobals "InvalidGoal" = some (some (.ref c8)))
    (ty8 : PySem.W.typeIn K (.ref c8) = some (.type "type"))
    (kC8 : PySem.W.keepIn K (.ref c8) = true)
    (ex8 : PySem.W.subIn K (.ref c8) (.type "BaseException") = some true)
    (sL8 : PySem.W.subIn K (.ref c8) (.ref L) = some true)
    (sV8 : PySem.W.subIn K (.ref c8) (.type "ValueError") = some true)
    (ga8 : PySem.W.findIn K (.ref c8) "__getattribute__" = some (some (.builtin "BaseException.__getattribute__")))
    (gg8 : PySem.W.findIn K (.ref c8) "__getattr__" = some none)
    (hd8 : PySem.W.hasDictIn K c8 = true)
    (ca8 : PySem.W.findIn K (.ref c8) "__class__" = some (some (.builtin "object.__class__")))
    (mo8 : PySem.W.mroIn K c8 (.type "object") = some true)
    (xe8 : PySem.W.excIn K c8 [.type "ValueError", .type "Exception", .type "BaseException", .type "object"] "ValueError.__new__" = true)
    (aC9 : PySem.W.nsIn K mainGlobals "InvalidCommand" = some (some (.ref c9)))
    (ty9 : PySem.W.typeIn K (.ref c9) = some (.type "type"))
    (kC9 : PySem.W.keepIn K (.ref c9) = true)
    (ex9 : PySem.W.subIn K (.ref c9) (.type "BaseException") = some true)
    (sL9 : PySem.W.subIn K (.ref c9) (.ref L) = some true)
    (sV9 : PySem.W.subIn K (.ref c9) (.type "ValueError") = some true)
    (ga9 : PySem.W.findIn K (.ref c9) "__getattribute__" = some (some (.builtin "BaseException.__getattribute__")))
    (gg9 : PySem.W.findIn K (.ref c9) "__getattr__" = some none)
    (hd9 : PySem.W.hasDictIn K c9 = true)
    (ca9 : PySem.W.findIn K (.ref c9) "__class__" = some (some (.builtin "object.__class__")))
    (mo9 : PySem.W.mroIn K c9 (.type "object") = some true)
    (xe9 : PySem.W.excIn K c9 [.type "ValueError", .type "Exception", .type "BaseException", .type "object"] "ValueError.__new__" = true)
    (hn : PySem.W.specialIn K (.builtin "object.__class__") "__get__" = some (some (.builtin "getset_descriptor.__get__")))
    (ht : PySem.W.takesIn K (.builtin "object.__class__") = some true)
    (a_box : PySem.W.nsIn K mainGlobals "_law_box" = some (some (.ref g_box)))
    (l_box : K.lookup g_box = some ⟨oc_box, od_box, .func (PySem.W.fnOf "_law_box" "_law_box" (defArgs sBox) (defBody sBox) (defScope sBox) .none kV_box dc_box pm_box an_box cd_box ct_box), sl_box⟩)
    (c_box : PySem.W.codeIn K cd_box "_law_box" = true)
    (k_box : PySem.W.keepIn K (.ref g_box) = true)
    (a_take : PySem.W.nsIn K mainGlobals "_law_take" = some (some (.ref g_take)))
    (l_take : K.lookup g_take = some ⟨oc_take, od_take, .func (PySem.W.fnOf "_law_take" "_law_take" (defArgs sTake) (defBody sTake) (defScope sTake) .none kV_take dc_take pm_take an_take cd_take ct_take), sl_take⟩)
    (c_take : PySem.W.codeIn K cd_take "_law_take" = true)
    (k_take : PySem.W.keepIn K (.ref g_take) = true)
    (a_pick : PySem.W.nsIn K mainGlobals "_law_pick" = some (some (.ref g_pick)))
    (l_pick : K.lookup g_pick = some ⟨oc_pick, od_pick, .func (PySem.W.fnOf "_law_pick" "_law_pick" (defArgs sPick) (defBody sPick) (defScope sPick) .none kV_pick dc_pick pm_pick an_pick cd_pick ct_pick), sl_pick⟩)
    (c_pick : PySem.W.codeIn K cd_pick "_law_pick" = true)
    (k_pick : PySem.W.keepIn K (.ref g_pick) = true)
    (a_val : PySem.W.nsIn K mainGlobals "_law_value" = some (some (.ref g_val)))
    (l_val : K.lookup g_val = some ⟨oc_val, od_val, .func (PySem.W.fnOf "_law_value" "_law_value" (defArgs sVal) (defBody sVal) (defScope sVal) .none kV_val dc_val pm_val an_val cd_val ct_val), sl_val⟩)
    (c_val : PySem.W.codeIn K cd_val "_law_value" = true)
    (k_val : PySem.W.keepIn K (.ref g_val) = true)
    (a_sorts : PySem.W.nsIn K mainGlobals "_law_sorts" = some (some (.ref g_sorts)))
    (l_sorts : K.lookup g_sorts = some ⟨oc_sorts, od_sorts, .func (PySem.W.fnOf "_law_sorts" "_law_sorts" (defArgs sSorts) (defBody sSorts) (defScope sSorts) .none kV_sorts dc_sorts pm_sorts an_sorts cd_sorts ct_sorts), sl_sorts⟩)
    (c_sorts : PySem.W.codeIn K cd_sorts "_law_sorts" = true)
    (k_sorts : PySem.W.keepIn K (.ref g_sorts) = true)
    (a_made : PySem.W.nsIn K mainGlobals "_law_made" = some (some (.ref g_made)))
    (l_made : K.lookup g_made = some ⟨oc_made, od_made, .func (PySem.W.fnOf "_law_made" "_law_made" (defArgs sMade) (defBody sMade) (defScope sMade) .none kV_made dc_made pm_made an_made cd_made ct_made), sl_made⟩)
    (c_made : PySem.W.codeIn K cd_made "_law_made" = true)
    (k_made : PySem.W.keepIn K (.ref g_made) = true)
    (a_named : PySem.W.nsIn K mainGlobals "_law_named" = some (some (.ref g_named)))
    (l_named : K.lookup g_named = some ⟨oc_named, od_named, .func (PySem.W.fnOf "_law_named" "_law_named" (defArgs sNamed) (defBody sNamed) (defScope sNamed) .none kV_named dc_named pm_named an_named cd_named ct_named), sl_named⟩)
    (c_named : PySem.W.codeIn K cd_named "_law_named" = true)
    (k_named : PySem.W.keepIn K (.ref g_named) = true)
    (a_held : PySem.W.nsIn K mainGlobals "_law_held" = some (some (.ref g_held)))
    (l_held : K.lookup g_held = some ⟨oc_held, od_held, .func (PySem.W.fnOf "_law_held" "_law_held" (defArgs sHeld) (defBody sHeld) (defScope sHeld) .none kV_held dc_held pm_held an_held cd_held ct_held), sl_held⟩)
    (c_held : PySem.W.codeIn K cd_held "_law_held" = true)
    (k_held : PySem.W.keepIn K (.ref g_held) = true)
    (a_law : PySem.W.nsIn K mainGlobals "law" = some (some (.ref g_law)))
    (l_law : K.lookup g_law = some ⟨oc_law, od_law, .func (PySem.W.fnOf "law" "law" (defArgs sLaw) (defBody sLaw) (defScope sLaw) .none kV_law dc_law pm_law an_law cd_law ct_law), sl_law⟩)
    (c_law : PySem.W.codeIn K cd_law "law" = true)
    (k_law : PySem.W.keepIn K (.ref g_law) = true)
    (z_int : PySem.W.nsIn K mainGlobals "int" = some none)
    (z_len : PySem.W.nsIn K mainGlobals "len" = some none)
    (z_abs : PySem.W.nsIn K mainGlobals "abs" = some none)
    (z_range : PySem.W.nsIn K mainGlobals "range" = some none)
    (z_isinstance : PySem.W.nsIn K mainGlobals "isinstance" = some none)
    (z_max : PySem.W.nsIn K mainGlobals "max" = some none)
    (z_min : PySem.W.nsIn K mainGlobals "min" = some none)
    (z_enumerate : PySem.W.nsIn K mainGlobals "enumerate" = some none)
    (z_repr : PySem.W.nsIn K mainGlobals "repr" = some none)
    (z_ValueError : PySem.W.nsIn K mainGlobals "ValueError" = some none)
    (sub : ((List.range 10).all fun i => (List.range 10).all fun j => decide (PySem.W.subIn K (.ref ([c0, c1, c2, c3, c4, c5, c6, c7, c8, c9].getD i 0)) (.ref ([c0, c1, c2, c3, c4, c5, c6, c7, c8, c9].getD j 0)) = some (decide (i = j)))) = true)
    : ∃ fd : FuncData, (∀ (s : Shared) (v : Value), BindsTo s fd ⟨[v], []⟩ [("_law_script", v)]) ∧ ∀ base : Heap, K.In base → base.Ns mainGlobals mg → FnG l.prog w K mg base 6 fa fd ["_law_script"] (spLaw K) := by
  have e := hfa.symm.trans (PySem.W.mg_of X G a_law)
  cases e
  let cs : Nat → Addr := fun i => [c0, c1, c2, c3, c4, c5, c6, c7, c8, c9].getD i 0
  let fi : Nat → Addr := fun i => [f0, f1, f2, f3, f4, f5, f6, f7].getD i 0
  have isC0 : ExcC K c0 := ⟨ga0, gg0, ex0, hd0, ca0, hn, ht, mo0⟩
  have X0 : XC K mg c0 f0 "InvalidPiece" "word" := ⟨⟨⟨_, _, _, _, _, _, _, _, _, _, _, _, _, _, _, xL0, refs_ok L⟩, sa0, ex0, ty0, kC0⟩, in0, ti0, PySem.W.mg_of X G aC0, no0, isC0, ⟨ga0, gg0, ex0, hd0⟩⟩
  have FI0 := fun_mk (st := sIInvalidPiece) lI0 cI0 kI0
  have isC1 : ExcC K c1 := ⟨ga1, gg1, ex1, hd1, ca1, hn, ht, mo1⟩
  have X1 : XC K mg c1 f1 "InvalidProgram" "at" := ⟨⟨⟨_, _, _, _, _, _, _, _, _, _, _, _, _, _, _, xL1, refs_ok L⟩, sa1, ex1, ty1, kC1⟩, in1, ti1, PySem.W.mg_of X G aC1, no1, isC1, ⟨ga1, gg1, ex1, hd1⟩⟩
  have FI1 := fun_mk (st := sIInvalidProgram) lI1 cI1 kI1
  have isC2 : ExcC K c2 := ⟨ga2, gg2, ex2, hd2, ca2, hn, ht, mo2⟩
  have X2 : XC K mg c2 f2 "InvalidText" "at" := ⟨⟨⟨_, _, _, _, _, _, _, _, _, _, _, _, _, _, _, xL2, refs_ok L⟩, sa2, ex2, ty2, kC2⟩, in2, ti2, PySem.W.mg_of X G aC2, no2, isC2, ⟨ga2, gg2, ex2, hd2⟩⟩
  have FI2 := fun_mk (st := sIInvalidText) lI2 cI2 kI2
  have isC3 : ExcC K c3 := ⟨ga3, gg3, ex3, hd3, ca3, hn, ht, mo3⟩
  have X3 : XC K mg c3 f3 "InvalidRow" "part" := ⟨⟨⟨_, _, _, _, _, _, _, _, _, _, _, _, _, _, _, xL3, refs_ok L⟩, sa3, ex3, ty3, kC3⟩, in3, ti3, PySem.W.mg_of X G aC3, no3, isC3, ⟨ga3, gg3, ex3, hd3⟩⟩
  have FI3 := fun_mk (st := sIInvalidRow) lI3 cI3 kI3
  have isC4 : ExcC K c4 := ⟨ga4, gg4, ex4, hd4, ca4, hn, ht, mo4⟩
  have X4 : XC K mg c4 f4 "InvalidTool" "at" := ⟨⟨⟨_, _, _, _, _, _, _, _, _, _, _, _, _, _, _, xL4, refs_ok L⟩, sa4, ex4, ty4, kC4⟩, in4, ti4, PySem.W.mg_of X G aC4, no4, isC4, ⟨ga4, gg4, ex4, hd4⟩⟩
  have FI4 := fun_mk (st := sIInvalidTool) lI4 cI4 kI4
  have isC5 : ExcC K c5 := ⟨ga5, gg5, ex5, hd5, ca5, hn, ht, mo5⟩
  have X5 : XC K mg c5 f5 "Refused" "word" := ⟨⟨⟨_, _, _, _, _, _, _, _, _, _, _, _, _, _, _, xL5, refs_ok L⟩, sa5, ex5, ty5, kC5⟩, in5, ti5, PySem.W.mg_of X G aC5, no5, isC5, ⟨ga5, gg5, ex5, hd5⟩⟩
  have FI5 := fun_mk (st := sIRefused) lI5 cI5 kI5
  have isC6 : ExcC K c6 := ⟨ga6, gg6, ex6, hd6, ca6, hn, ht, mo6⟩
  have X6 : XC K mg c6 f6 "NoPiece" "at" := ⟨⟨⟨_, _, _, _, _, _, _, _, _, _, _, _, _, _, _, xL6, refs_ok L⟩, sa6, ex6, ty6, kC6⟩, in6, ti6, PySem.W.mg_of X G aC6, no6, isC6, ⟨ga6, gg6, ex6, hd6⟩⟩
  have FI6 := fun_mk (st := sINoPiece) lI6 cI6 kI6
  have isC7 : ExcC K c7 := ⟨ga7, gg7, ex7, hd7, ca7, hn, ht, mo7⟩
  have X7 : XC K mg c7 f7 "NoRow" "at" := ⟨⟨⟨_, _, _, _, _, _, _, _, _, _, _, _, _, _, _, xL7, refs_ok L⟩, sa7, ex7, ty7, kC7⟩, in7, ti7, PySem.W.mg_of X G aC7, no7, isC7, ⟨ga7, gg7, ex7, hd7⟩⟩
  have FI7 := fun_mk (st := sINoRow) lI7 cI7 kI7
  have isC8 : ExcC K c8 := ⟨ga8, gg8, ex8, hd8, ca8, hn, ht, mo8⟩
  have Y8 : YC K mg c8 "InvalidGoal" := ⟨xe8, PySem.W.mg_of X G aC8, kC8, isC8⟩
  have isC9 : ExcC K c9 := ⟨ga9, gg9, ex9, hd9, ca9, hn, ht, mo9⟩
  have Y9 : YC K mg c9 "InvalidCommand" := ⟨xe9, PySem.W.mg_of X G aC9, kC9, isC9⟩
  let fd : Nat → FuncData := fun i => [PySem.W.fnOf "__init__" "InvalidPiece.__init__" (defArgs sIInvalidPiece) (defBody sIInvalidPiece) (defScope sIInvalidPiece) .none kVI0 dcI0 pmI0 anI0 cdI0 ctI0, PySem.W.fnOf "__init__" "InvalidProgram.__init__" (defArgs sIInvalidProgram) (defBody sIInvalidProgram) (defScope sIInvalidProgram) .none kVI1 dcI1 pmI1 anI1 cdI1 ctI1, PySem.W.fnOf "__init__" "InvalidText.__init__" (defArgs sIInvalidText) (defBody sIInvalidText) (defScope sIInvalidText) .none kVI2 dcI2 pmI2 anI2 cdI2 ctI2, PySem.W.fnOf "__init__" "InvalidRow.__init__" (defArgs sIInvalidRow) (defBody sIInvalidRow) (defScope sIInvalidRow) .none kVI3 dcI3 pmI3 anI3 cdI3 ctI3, PySem.W.fnOf "__init__" "InvalidTool.__init__" (defArgs sIInvalidTool) (defBody sIInvalidTool) (defScope sIInvalidTool) .none kVI4 dcI4 pmI4 anI4 cdI4 ctI4, PySem.W.fnOf "__init__" "Refused.__init__" (defArgs sIRefused) (defBody sIRefused) (defScope sIRefused) .none kVI5 dcI5 pmI5 anI5 cdI5 ctI5, PySem.W.fnOf "__init__" "NoPiece.__init__" (defArgs sINoPiece) (defBody sINoPiece) (defScope sINoPiece) .none kVI6 dcI6 pmI6 anI6 cdI6 ctI6, PySem.W.fnOf "__init__" "NoRow.__init__" (defArgs sINoRow) (defBody sINoRow) (defScope sINoRow) .none kVI7 dcI7 pmI7 anI7 cdI7 ctI7].getD i (PySem.W.fnOf "__init__" "" (defArgs sLaw) (defBody sLaw) (defScope sLaw) .none kVI0 dcI0 pmI0 anI0 cdI0 ctI0)
  have F_box := fun_mk (st := sBox) l_box c_box k_box
  have b_box := F_box.binds (ps := ["_law_script", "_law_k", "_law_own"]) fun _ _ _ _ _ _ us hl => match us, hl with | [_, _, _], _ => rfl
  have F_take := fun_mk (st := sTake) l_take c_take k_take
  have b_take := F_take.binds (ps := ["_law_box_here", "_law_many"]) fun _ _ _ _ _ _ us hl => match us, hl with | [_, _], _ => rfl
  have F_pick := fun_mk (st := sPick) l_pick c_pick k_pick
  have b_pick := F_pick.binds (ps := ["_law_box_here", "_law_items"]) fun _ _ _ _ _ _ us hl => match us, hl with | [_, _], _ => rfl
  have F_val := fun_mk (st := sVal) l_val c_val k_val
  have b_val := F_val.binds (ps := ["_law_box_here"]) fun _ _ _ _ _ _ us hl => match us, hl with | [_], _ => rfl
  have F_sorts := fun_mk (st := sSorts) l_sorts c_sorts k_sorts
  have b_sorts := F_sorts.binds (ps := ["_law_one"]) fun _ _ _ _ _ _ us hl => match us, hl with | [_], _ => rfl
  have F_made := fun_mk (st := sMade) l_made c_made k_made
  have b_made := F_made.binds (ps := ["_law_some"]) fun _ _ _ _ _ _ us hl => match us, hl with | [_], _ => rfl
  have F_named := fun_mk (st := sNamed) l_named c_named k_named
  have b_named := F_named.binds (ps := ["_law_some"]) fun _ _ _ _ _ _ us hl => match us, hl with | [_], _ => rfl
  have F_held := fun_mk (st := sHeld) l_held c_held k_held
  have b_held := F_held.binds (ps := ["_law_made_here"]) fun _ _ _ _ _ _ us hl => match us, hl with | [_], _ => rfl
  have F_law := fun_mk (st := sLaw) l_law c_law k_law
  have b_law := F_law.binds (ps := ["_law_script"]) fun _ _ _ _ _ _ us hl => match us, hl with | [_], _ => rfl
  have N : ∀ {x : Str}, PySem.W.nsIn K mainGlobals x = some none → mg x = none := fun h => PySem.W.mg_none_of X G h
  have D : TxtD mg := ⟨N z_int, N z_len, N z_abs, N z_range⟩
  have pair : ∀ i j, i < 10 → j < 10 → PySem.W.subIn K (.ref (cs i)) (.ref (cs j)) = some (decide (i = j)) := fun i j hi hj => by
    have q := List.all_eq_true.mp sub i (List.mem_range.mpr hi)
    exact of_decide_eq_true (List.all_eq_true.mp q j (List.mem_range.mpr hj))
  have ty : ∀ i, i < 10 → PySem.W.typeIn K (.ref (cs i)) = some (.type "type") := fun i hi => match i, hi with
    | 0, _ => ty0
    | 1, _ => ty1
    | 2, _ => ty2
    | 3, _ => ty3
    | 4, _ => ty4
    | 5, _ => ty5
    | 6, _ => ty6
    | 7, _ => ty7
    | 8, _ => ty8
    | 9, _ => ty9
    | n + 10, h => absurd h (by omega)
  have hdd : ∀ i, i < 10 → PySem.W.hasDictIn K (cs i) = true := fun i hi => match i, hi with
    | 0, _ => hd0
    | 1, _ => hd1
    | 2, _ => hd2
    | 3, _ => hd3
    | 4, _ => hd4
    | 5, _ => hd5
    | 6, _ => hd6
    | 7, _ => hd7
    | 8, _ => hd8
    | 9, _ => hd9
    | n + 10, h => absurd h (by omega)
  have kL : ∀ i, i < 10 → PySem.W.kitOne K (.ref (cs i)) (.ref L) = some true := fun i hi => match i, hi with
    | 0, _ => kit_of hL tL sL0 fun _ => rfl
    | 1, _ => kit_of hL tL sL1 fun _ => rfl
    | 2, _ => kit_of hL tL sL2 fun _ => rfl
    | 3, _ => kit_of hL tL sL3 fun _ => rfl
    | 4, _ => kit_of hL tL sL4 fun _ => rfl
    | 5, _ => kit_of hL tL sL5 fun _ => rfl
    | 6, _ => kit_of hL tL sL6 fun _ => rfl
    | 7, _ => kit_of hL tL sL7 fun _ => rfl
    | 8, _ => kit_of hL tL sL8 fun _ => rfl
    | 9, _ => kit_of hL tL sL9 fun _ => rfl
    | n + 10, h => absurd h (by omega)
  have kV : ∀ i, i < 10 → PySem.W.kitOne K (.ref (cs i)) (.type "ValueError") = some true := fun i hi => match i, hi with
    | 0, _ => kit_val sV0
    | 1, _ => kit_val sV1
    | 2, _ => kit_val sV2
    | 3, _ => kit_val sV3
    | 4, _ => kit_val sV4
    | 5, _ => kit_val sV5
    | 6, _ => kit_val sV6
    | 7, _ => kit_val sV7
    | 8, _ => kit_val sV8
    | 9, _ => kit_val sV9
    | n + 10, h => absurd h (by omega)
  have kit : ∀ i j, i < 10 → j < 10 → PySem.W.kitOne K (.ref (cs i)) (.ref (cs j)) = some (decide (i = j)) := fun i j hi hj => kit_of (hdd j hj) (ty j hj) (pair i j hi hj) fun e => by
    have q := pair i i hi hi
    have q2 := pair i j hi hj
    rw [← e, q] at q2
    have q3 := Option.some.inj q2
    rw [← q3]
    simp
  refine ⟨PySem.W.fnOf "law" "law" (defArgs sLaw) (defBody sLaw) (defScope sLaw) .none kV_law dc_law pm_law an_law cd_law ct_law, fun s v => .of_eq rfl, fun base _ _ => ?_⟩
  have Z0 : XI l.prog w K mg base (cs 0) (fi 0) (fd 0) "InvalidPiece" "word" := ⟨X0, ok_iInvalidPiece FI0, FI0.binds (ps := ["self", "word"]) fun _ _ _ _ _ _ us hl => match us, hl with | [_, _], _ => rfl, fun s u v => .of_eq rfl⟩
  have Z1 : XI l.prog w K mg base (cs 1) (fi 1) (fd 1) "InvalidProgram" "at" := ⟨X1, ok_iInvalidProgram FI1, FI1.binds (ps := ["self", "at"]) fun _ _ _ _ _ _ us hl => match us, hl with | [_, _], _ => rfl, fun s u v => .of_eq rfl⟩
  have Z2 : XI l.prog w K mg base (cs 2) (fi 2) (fd 2) "InvalidText" "at" := ⟨X2, ok_iInvalidText FI2, FI2.binds (ps := ["self", "at"]) fun _ _ _ _ _ _ us hl => match us, hl with | [_, _], _ => rfl, fun s u v => .of_eq rfl⟩
  have Z3 : XI l.prog w K mg base (cs 3) (fi 3) (fd 3) "InvalidRow" "part" := ⟨X3, ok_iInvalidRow FI3, FI3.binds (ps := ["self", "part"]) fun _ _ _ _ _ _ us hl => match us, hl with | [_, _], _ => rfl, fun s u v => .of_eq rfl⟩
  have Z4 : XI l.prog w K mg base (cs 4) (fi 4) (fd 4) "InvalidTool" "at" := ⟨X4, ok_iInvalidTool FI4, FI4.binds (ps := ["self", "at"]) fun _ _ _ _ _ _ us hl => match us, hl with | [_, _], _ => rfl, fun s u v => .of_eq rfl⟩
  have Z5 : XI l.prog w K mg base (cs 5) (fi 5) (fd 5) "Refused" "word" := ⟨X5, ok_iRefused FI5, FI5.binds (ps := ["self", "word"]) fun _ _ _ _ _ _ us hl => match us, hl with | [_, _], _ => rfl, fun s u v => .of_eq rfl⟩
  have Z6 : XI l.prog w K mg base (cs 6) (fi 6) (fd 6) "NoPiece" "at" := ⟨X6, ok_iNoPiece FI6, FI6.binds (ps := ["self", "at"]) fun _ _ _ _ _ _ us hl => match us, hl with | [_, _], _ => rfl, fun s u v => .of_eq rfl⟩
  have Z7 : XI l.prog w K mg base (cs 7) (fi 7) (fd 7) "NoRow" "at" := ⟨X7, ok_iNoRow FI7, FI7.binds (ps := ["self", "at"]) fun _ _ _ _ _ _ us hl => match us, hl with | [_, _], _ => rfl, fun s u v => .of_eq rfl⟩
  have Z : Ten l.prog w K mg base cs fi fd := ⟨Z0, Z1, Z2, Z3, Z4, Z5, Z6, Z7, Y8, Y9, kit⟩
  have okP : FnOk l.prog w K mg base CX0 2 g_pick _ ["_law_box_here", "_law_items"] (spPick K) := ok_pick F_pick D F_take b_take (PySem.W.mg_of X G a_take)
  exact ok_law F_law (T := ⟨D, Z, N z_isinstance, N z_max, N z_min, N z_enumerate, N z_repr, N z_ValueError, PySem.W.mg_of X G aL, kL, kV,
    PySem.W.mg_of X G a_box, k_box, b_box, ok_box F_box D, PySem.W.mg_of X G a_val, k_val, b_val, ok_val F_val D okP k_pick b_pick (PySem.W.mg_of X G a_pick),
    PySem.W.mg_of X G a_sorts, k_sorts, b_sorts, ok_sorts F_sorts (N z_isinstance) Z, PySem.W.mg_of X G a_made, k_made, b_made, ok_law_made F_made Z,
    PySem.W.mg_of X G a_named, k_named, b_named, ok_law_named F_named Z, PySem.W.mg_of X G a_held, k_held, b_held, ok_held F_held Z⟩)
end Lay
open PySem PySem.W PyProof.Rows
set_option Elab.async false
set_option maxRecDepth 100000 in
set_option maxHeartbeats 0 in
theorem PySem.Challenge.cw_laytwice_k01_errors_holds : PySem.Challenge.rw_laytwice_k01_errors.Holds := by
  w_on; o_law; k_head; (case hw => w_witness2)
  k_fill
  refine Lay.walkG (l := PySem.Challenge.rw_laytwice_k01_errors) (n := 63) (k := 6) (x := "_law_script") (sp := fun w => Lay.spLaw _) rfl (by decide) rfl ⟨rfl, by decide, by decide⟩ (fun w h Y => PySem.W.kIn_of Y) ?F (fun _ _ a ns hl _ hS => ⟨a, ns, rfl, hS, hl, fun _ => rfl⟩)
  case F =>
    intro w mg fa h KX G hmg
    refine' Lay.all_mk KX G hmg ?aL ?tL ?hL ?aC0 ?ty0 ?kC0 ?ex0 ?sL0 ?sV0 ?ga0 ?gg0 ?hd0 ?ca0 ?mo0 ?xL0 ?sa0 ?in0 ?ti0 ?no0 ?lI0 ?cI0 ?kI0 ?aC1 ?ty1 ?kC1 ?ex1 ?sL1 ?sV1 ?ga1 ?gg1 ?hd1 ?ca1 ?mo1 ?xL1 ?sa1 ?in1 ?ti1 ?no1 ?lI1 ?cI1 ?kI1 ?aC2 ?ty2 ?kC2 ?ex2 ?sL2 ?sV2 ?ga2 ?gg2 ?hd2 ?ca2 ?mo2 ?xL2 ?sa2 ?in2 ?ti2 ?no2 ?lI2 ?cI2 ?kI2 ?aC3 ?ty3 ?kC3 ?ex3 ?sL3 ?sV3 ?ga3 ?gg3 ?hd3 ?ca3 ?mo3 ?xL3 ?sa3 ?in3 ?ti3 ?no3 ?lI3 ?cI3 ?kI3 ?aC4 ?ty4 ?kC4 ?ex4 ?sL4 ?sV4 ?ga4 ?gg4 ?hd4 ?ca4 ?mo4 ?xL4 ?sa4 ?in4 ?ti4 ?no4 ?lI4 ?cI4 ?kI4 ?aC5 ?ty5 ?kC5 ?ex5 ?sL5 ?sV5 ?ga5 ?gg5 ?hd5 ?ca5 ?mo5 ?xL5 ?sa5 ?in5 ?ti5 ?no5 ?lI5 ?cI5 ?kI5 ?aC6 ?ty6 ?kC6 ?ex6 ?sL6 ?sV6 ?ga6 ?gg6 ?hd6 ?ca6 ?mo6 ?xL6 ?sa6 ?in6 ?ti6 ?no6 ?lI6 ?cI6 ?kI6 ?aC7 ?ty7 ?kC7 ?ex7 ?sL7 ?sV7 ?ga7 ?gg7 ?hd7 ?ca7 ?mo7 ?xL7 ?sa7 ?in7 ?ti7 ?no7 ?lI7 ?cI7 ?kI7 ?aC8 ?ty8 ?kC8 ?ex8 ?sL8 ?sV8 ?ga8 ?gg8 ?hd8 ?ca8 ?mo8 ?xe8 ?aC9 ?ty9 ?kC9 ?ex9 ?sL9 ?sV9 ?ga9 ?gg9 ?hd9 ?ca9 ?mo9 ?xe9 ?hn ?ht ?a_box ?l_box ?c_box ?k_box ?a_take ?l_take ?c_take ?k_take ?a_pick ?l_pick ?c_pick ?k_pick ?a_val ?l_val ?c_val ?k_val ?a_sorts ?l_sorts ?c_sorts ?k_sorts ?a_made ?l_made ?c_made ?k_made ?a_named ?l_named ?c_named ?k_named ?a_held ?l_held ?c_held ?k_held ?a_law ?l_law ?c_law ?k_law ?z_int ?z_len ?z_abs ?z_range ?z_isinstance ?z_max ?z_min ?z_enumerate ?z_repr ?z_ValueError ?sub
    (case aL => k_is)
    (case tL => k_is)
    (case hL => k_is)
    (case aC0 => k_is)
    (case ty0 => k_is)
    (case kC0 => k_is)
    (case ex0 => k_is)
    (case sL0 => k_is)
    (case sV0 => k_is)
    (case ga0 => k_is)
    (case gg0 => k_is)
    (case hd0 => k_is)
    (case ca0 => k_is)
    (case mo0 => k_is)
    (case xL0 => k_is)
    (case sa0 => k_is)
    (case in0 => k_is)
    (case ti0 => k_is)
    (case no0 => k_is)
    (case lI0 => k_is)
    (case cI0 => k_is)
    (case kI0 => k_is)
    (case aC1 => k_is)
    (case ty1 => k_is)
    (case kC1 => k_is)
    (case ex1 => k_is)
    (case sL1 => k_is)
    (case sV1 => k_is)
    (case ga1 => k_is)
    (case gg1 => k_is)
    (case hd1 => k_is)
    (case ca1 => k_is)
    (case mo1 => k_is)
    (case xL1 => k_is)
    (case sa1 => k_is)
    (case in1 => k_is)
    (case ti1 => k_is)
    (case no1 => k_is)
    (case lI1 => k_is)
    (case cI1 => k_is)
    (case kI1 => k_is)
    (case aC2 => k_is)
    (case ty2 => k_is)
    (case kC2 => k_is)
    (case ex2 => k_is)
    (case sL2 => k_is)
    (case sV2 => k_is)
    (case ga2 => k_is)
    (case gg2 => k_is)
    (case hd2 => k_is)
    (case ca2 => k_is)
    (case mo2 => k_is)
    (case xL2 => k_is)
    (case sa2 => k_is)
    (case in2 => k_is)
    (case ti2 => k_is)
    (case no2 => k_is)
    (case lI2 => k_is)
    (case cI2 => k_is)
    (case kI2 => k_is)
    (case aC3 => k_is)
    (case ty3 => k_is)
    (case kC3 => k_is)
    (case ex3 => k_is)
    (case sL3 => k_is)
    (case sV3 => k_is)
    (case ga3 => k_is)
    (case gg3 => k_is)
    (case hd3 => k_is)
    (case ca3 => k_is)
    (case mo3 => k_is)
    (case xL3 => k_is)
    (case sa3 => k_is)
    (case in3 => k_is)
    (case ti3 => k_is)
    (case no3 => k_is)
    (case lI3 => k_is)
    (case cI3 => k_is)
    (case kI3 => k_is)
    (case aC4 => k_is)
    (case ty4 => k_is)
    (case kC4 => k_is)
    (case ex4 => k_is)
    (case sL4 => k_is)
    (case sV4 => k_is)
    (case ga4 => k_is)
    (case gg4 => k_is)
    (case hd4 => k_is)
    (case ca4 => k_is)
    (case mo4 => k_is)
    (case xL4 => k_is)
    (case sa4 => k_is)
    (case in4 => k_is)
    (case ti4 => k_is)
    (case no4 => k_is)
    (case lI4 => k_is)
    (case cI4 => k_is)
    (case kI4 => k_is)
    (case aC5 => k_is)
    (case ty5 => k_is)
    (case kC5 => k_is)
    (case ex5 => k_is)
    (case sL5 => k_is)
    (case sV5 => k_is)
    (case ga5 => k_is)
    (case gg5 => k_is)
    (case hd5 => k_is)
    (case ca5 => k_is)
    (case mo5 => k_is)
    (case xL5 => k_is)
    (case sa5 => k_is)
    (case in5 => k_is)
    (case ti5 => k_is)
    (case no5 => k_is)
    (case lI5 => k_is)
    (case cI5 => k_is)
    (case kI5 => k_is)
    (case aC6 => k_is)
    (case ty6 => k_is)
    (case kC6 => k_is)
    (case ex6 => k_is)
    (case sL6 => k_is)
    (case sV6 => k_is)
    (case ga6 => k_is)
    (case gg6 => k_is)
    (case hd6 => k_is)
    (case ca6 => k_is)
    (case mo6 => k_is)
    (case xL6 => k_is)
    (case sa6 => k_is)
    (case in6 => k_is)
    (case ti6 => k_is)
    (case no6 => k_is)
    (case lI6 => k_is)
    (case cI6 => k_is)
    (case kI6 => k_is)
    (case aC7 => k_is)
    (case ty7 => k_is)
    (case kC7 => k_is)
    (case ex7 => k_is)
    (case sL7 => k_is)
    (case sV7 => k_is)
    (case ga7 => k_is)
    (case gg7 => k_is)
    (case hd7 => k_is)
    (case ca7 => k_is)
    (case mo7 => k_is)
    (case xL7 => k_is)
    (case sa7 => k_is)
    (case in7 => k_is)
    (case ti7 => k_is)
    (case no7 => k_is)
    (case lI7 => k_is)
    (case cI7 => k_is)
    (case kI7 => k_is)
    (case aC8 => k_is)
    (case ty8 => k_is)
    (case kC8 => k_is)
    (case ex8 => k_is)
    (case sL8 => k_is)
    (case sV8 => k_is)
    (case ga8 => k_is)
    (case gg8 => k_is)
    (case hd8 => k_is)
    (case ca8 => k_is)
    (case mo8 => k_is)
    (case xe8 => k_exc)
    (case aC9 => k_is)
    (case ty9 => k_is)
    (case kC9 => k_is)
    (case ex9 => k_is)
    (case sL9 => k_is)
    (case sV9 => k_is)
    (case ga9 => k_is)
    (case gg9 => k_is)
    (case hd9 => k_is)
    (case ca9 => k_is)
    (case mo9 => k_is)
    (case xe9 => k_exc)
    (case hn => k_is)
    (case ht => k_is)
    (case a_box => k_is)
    (case l_box => k_is)
    (case c_box => k_is)
    (case k_box => k_is)
    (case a_take => k_is)
    (case l_take => k_is)
    (case c_take => k_is)
    (case k_take => k_is)
    (case a_pick => k_is)
    (case l_pick => k_is)
    (case c_pick => k_is)
    (case k_pick => k_is)
    (case a_val => k_is)
    (case l_val => k_is)
    (case c_val => k_is)
    (case k_val => k_is)
    (case a_sorts => k_is)
    (case l_sorts => k_is)
    (case c_sorts => k_is)
    (case k_sorts => k_is)
    (case a_made => k_is)
    (case l_made => k_is)
    (case c_made => k_is)
    (case k_made => k_is)
    (case a_named => k_is)
    (case l_named => k_is)
    (case c_named => k_is)
    (case k_named => k_is)
    (case a_held => k_is)
    (case l_held => k_is)
    (case c_held => k_is)
    (case k_held => k_is)
    (case a_law => k_is)
    (case l_law => k_is)
    (case c_law => k_is)
    (case k_law => k_is)
    (case z_int => k_is)
    (case z_len => k_is)
    (case z_abs => k_is)
    (case z_range => k_is)
    (case z_isinstance => k_is)
    (case z_max => k_is)
    (case z_min => k_is)
    (case z_enumerate => k_is)
    (case z_repr => k_is)
    (case z_ValueError => k_is)
    (case sub => kernel_rfl)
