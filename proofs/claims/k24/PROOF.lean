import PyProof.Rows.All
import Wide.All
import OpenK.AllK
import Wide.FinOn
import PyProof.EqAt
import PyProof.EqKinds
import PyProof.TupleCall
import PyProof.DictUpdate
import PyProof.ListStr
import OpenK.KEqL
import KE.GoesMore
import KE.KExcIs
import KE.KStar
import KE.KCallOwn
import KE.KParD
import HandS.Base
import HandS.Call
import HandS.List
import HandS.Dict
import HandS.More
import HandS.Exc
import HandS.Slots
import HandS.Star
import HandS.MakeKw
import HandS.ForMost
import HandS.Codes
import HandS.Walk
import HandS.WordsExc
import HandS.Style
import HandS.ExcIs
import HandS.ExcInit
import HandS.ExcField
import HandS.TupAny
import HandS.IsInst
import HandS.StrMore
import HandS.Defaults
import HandS.ExcOwn
import HandS.RaiseMore
import HandS.Text
import HandS.OwnEq
import HandS.NoneIn
import HandS.ExcValue
import HandS.Zip
import HandS.FStr
import HandS.Comp
import HandS.DictComp
import HandS.Property
import HandS.CallLocal
import HandS.WrittenGet
import PyProof.DictTable
import HandS.IterVal
import HandS.ForExc
import PyProof.StrLawsRepr
import Lean
import HandS.Head0
import HandS.Head1
import HandS.Head2
import HandS.HeadHook1
import HandS.HeadHook2
import HandS.HeadHook3
import PySem.Challenge.RW_laytwice_k24_forms_laid_out
set_option Elab.async false
set_option linter.all false
set_option maxRecDepth 100000
set_option maxHeartbeats 4000000
set_option pp.maxSteps 1500
/-! Keywords: a def with ** that is called with keywords, a class that is called with **. -/
namespace KwX
open PySem PySem.Spec PyProof.Rows L2 StX

/-! ### a dict merged into another one (mergeMapping) -/
section
variable {prog : Program} {w : World} {Kt : Type} [DecidableEq Kt] {knd : KeyKind prog w Kt} {A : Around} {E : Value → Shared → Prop} {s : Shared}
theorem wpAny_dictPut {d : Addr} {kvs : List (Kt × Value)} {k : Kt} {key v : Value} {Q : Unit → Shared → Prop} (hkey : knd.is k key = true) (hm : s.heap.DictOf knd d kvs)
    (hQ : ∀ h', h'.DictOf knd d (stored kvs k v) → Heap.SameBut d s.heap h' → Q () { s with heap := h' })
    (hsz : kvs.length ≤ sizeLine) :
    wpAny (model prog w) A (dictPut d (knd.hash k) key v) Q E s := by
  obtain ⟨o, es, ep, ho, hc, hd, hk, hp, hn⟩ := hm
  have hes : es.size ≤ sizeLine := by
    have e1 := hp.length
    have e2 : es.toList.length = es.size := by simp
    omega
  unfold dictPut
  refine wpAny_bind (wpAny_dictFind_of hkey ho hd hk ?_)
  have hidx : (es.findIdx? fun e => knd.is k e.key) = kvs.findIdx? fun kv => decide (kv.1 = k) := by
    rw [← hp.findIdx k]; obtain ⟨l⟩ := es; simp
  cases hi : es.findIdx? fun e => knd.is k e.key with
  | some i =>
    refine wpAny_updateDict ho hd (hQ _ ⟨_, _, ep, Heap.get?_update_self _ ho (Obj.isFreed_of_dict (Obj.data_mapDict hd _)),
      hc.mapDict _, Obj.data_mapDict hd _, hk.modify _ _, ?_, ?_⟩ (Heap.SameBut.update ..))
    · rw [stored, if_pos (any_of_findIdx_some (hidx ▸ hi))]
      have hl : (es.toList.findIdx? fun e => knd.is k e.key) = some i := by rw [← hi]; obtain ⟨l⟩ := es; simp
      have := hp.modify hn hl v
      obtain ⟨l⟩ := es
      simpa using this
    · rw [stored, if_pos (any_of_findIdx_some (hidx ▸ hi)), keys_map_store]; exact hn
  | none =>
    have hnot : k ∉ kvs.map (·.1) := not_mem_of_findIdx_none (hidx ▸ hi)
    have hany : ¬ (kvs.any fun kv => decide (kv.1 = k)) = true := by
      rw [List.any_eq_true]; rintro ⟨kv, hkv, he⟩
      exact hnot (List.mem_map.mpr ⟨kv, hkv, of_decide_eq_true he⟩)
    refine wpAny_updateDictKeys (hz := hes) ho hd (hQ _ ⟨_, _, ep + 1, Heap.get?_update_self _ ho (Obj.isFreed_of_dict (Obj.data_mapDictKeys hd _)),
      hc.mapDictKeys _, Obj.data_mapDictKeys hd _, hk.push hkey _, ?_, ?_⟩ (Heap.SameBut.update ..))
    · rw [stored, if_neg hany]
      have := hp.append hkey (knd.hash k) v
      obtain ⟨l⟩ := es
      simpa using this
    · rw [stored, if_neg hany, List.map_append, List.nodup_append]
      refine ⟨hn, by simp, ?_⟩
      intro a ha b hb
      simp only [List.map_cons, List.map_nil, List.mem_singleton] at hb
      subst hb
      exact fun e => hnot (e ▸ ha)

theorem wpAny_mergeMapping {u : Bool} {d o : Addr} {kvs more : List (Kt × Value)} {Q : Unit → Shared → Prop} (hdo : d ≠ o) (hoS : (o == sysModules) = false)
    (hd : s.heap.DictOf knd d kvs) (ho : s.heap.DictOf knd o more) (hu : u = true → ((kvs ++ more).map (·.1)).Nodup)
    (hQ : ∀ h', h'.DictOf knd d (merged kvs more) → h'.DictOf knd o more → Heap.SameBut d s.heap h' → Q () { s with heap := h' })
    (hsz : kvs.length + more.length ≤ sizeLine) :
    wpAny (model prog w) A (mergeMapping d (.ref o) u) Q E s := by
  obtain ⟨od, esd, epd, hod, hcd, hdd, hkd, hpd, hnd⟩ := id hd
  obtain ⟨oo, eso, epo, hoo, hco, hdo', hko, hpo, hno⟩ := id ho
  have hlen : more.length = eso.size := by rw [← hpo.length]; simp
  have hT : s.TypeIs (.ref o) "dict" := ⟨oo, hoo, hco.1⟩
  unfold mergeMapping
  refine wpAny_bind (wpAny_isInstance (T := "dict") hT PySem.F.sub_dict_dict ?_)
  dsimp only
  rw [if_pos rfl]
  refine wpAny_bind (wpAny_specialOf hT PySem.F.slot_dict_iter.lookup ?_)
  have hb : ((some (Value.builtin "dict.__iter__")) == some (Value.builtin "dict.__iter__")) = true := by decide +kernel
  refine wpAny_bind (wpAny_pure ?_)
  rw [hb]
  dsimp only
  rw [if_neg (by rw [hoS]; exact Bool.false_ne_true)]
  refine wpAny_bind (wpAny_dictEntries hod hdd ?_)
  have loop : wpAny (model prog w) A (do
      let l ← dictEntries o
      let epoch ← dictEpoch o
      forIn (List.range l.size) PUnit.unit fun i (_ : PUnit) => do
          let l' ← dictEntries o
          match l'[i]? with
            | some e => do
              holding [e.key, e.val]
                  (have jp := fun (_ : Unit) => dictPut d e.hash e.key e.val
                   if u = true then do
                     let f ← dictFind d e.key e.hash
                     if f.isSome = true then do
                       rule "dict.merge.duplicate-key"
                       let x ← newExc (Value.type "KeyError") [e.key]
                       let r ← raiseNew x
                       jp r
                     else jp ()
                   else jp ())
              let ep' ← dictEpoch o
              if (ep' != epoch) = true then do
                unsupported "dict.changed-during-merge"
                pure (ForInStep.yield PUnit.unit)
              else pure (ForInStep.yield PUnit.unit)
            | x => do
              unsupported "dict.changed-during-merge"
              pure (ForInStep.yield PUnit.unit)
      pure ()) Q E s := by
    refine wpAny_bind (wpAny_dictEntries hoo hdo' ?_)
    refine wpAny_bind (wpAny_dictEpoch hoo hdo' ?_)
    refine wpAny_bind ?_
    rw [List.range_eq_range']
    refine wpAny_forIn_list _
      (fun rest _ s' => ∃ h' i, s' = { s with heap := h' } ∧ rest = List.range' i (eso.size - i) ∧ i ≤ eso.size ∧ h'.DictOf knd d (merged kvs (more.take i)) ∧ h'.get? o = some oo ∧ Heap.SameBut d s.heap h')
      _ ?_ ?_ _ _ ⟨s.heap, 0, rfl, by simp, Nat.zero_le _, by simpa [merged] using hd, hoo, Heap.SameBut.refl _ _⟩
    · rintro x rest b s' ⟨h', i, rfl, hr, hi, hd', hoo', hs'⟩
      have hlt : i < eso.size := by
        rcases Nat.lt_or_ge i eso.size with h | h
        · exact h
        · rw [Nat.sub_eq_zero_of_le h] at hr; simp at hr
      obtain ⟨rfl, hrest⟩ : x = i ∧ rest = List.range' (i + 1) (eso.size - (i + 1)) := by
        have e : eso.size - i = (eso.size - (i + 1)) + 1 := by omega
        rw [e, List.range'_succ] at hr
        injection hr with h1 h2
        exact ⟨h1, h2⟩
      refine wpAny_bind (wpAny_dictEntries hoo' hdo' ?_)
      rw [Array.getElem?_eq_getElem hlt]
      obtain ⟨kv, hkv⟩ : ∃ kv, more[x]? = some kv := ⟨more[x]'(by rw [hlen]; exact hlt), List.getElem?_eq_getElem _⟩
      obtain ⟨k, v⟩ := kv
      obtain ⟨hkey, hval⟩ := hpo.get? (e := eso[x]) (by simp [hlt]) hkv
      obtain ⟨k', hkey', hhash⟩ := hko eso[x] (Array.getElem_mem hlt)
      obtain rfl : k' = k := knd.inj _ _ _ hkey' hkey
      have hmx : (merged kvs (more.take x)).length ≤ sizeLine := by
        have e1 := merged_length_le kvs (more.take x)
        have e2 : (more.take x).length ≤ more.length := by rw [List.length_take]; omega
        omega
      dsimp only
      rw [hhash, hval]
      refine wpAny_bind (wpAny_holding ?_)
      cases u
      case' true =>
        obtain ⟨o1, es1, ep1, ho1, hc1, hd1, hk1, hp1, hn1⟩ := id hd'
        rw [if_pos rfl]
        refine wpAny_bind (wpAny_dictFind_of hkey' ho1 hd1 hk1 ?_)
        have hno1 : (es1.findIdx? fun e => knd.is k' e.key) = none := by
          have e0 : (es1.findIdx? fun e => knd.is k' e.key) = es1.toList.findIdx? fun e => knd.is k' e.key := by obtain ⟨l⟩ := es1; simp
          rw [e0, hp1.findIdx k', List.findIdx?_eq_none_iff]
          intro kv hkv1
          refine decide_eq_false fun e => ?_
          have hN := hu rfl
          have eT : more = more.take x ++ (k', v) :: more.drop (x + 1) := by
            have l1 : x < more.length := by rw [hlen]; exact hlt
            have := List.getElem?_eq_some_iff.mp hkv
            obtain ⟨l2, e2⟩ := this
            rw [← e2]
            simp
          have hN2 : ((kvs ++ more.take x).map (·.1)).Nodup := by
            rw [eT, ← List.append_assoc, List.map_append] at hN
            exact (List.nodup_append.mp hN).1
          rw [merged_append_of_fresh _ _ hN2] at hkv1
          rw [eT, ← List.append_assoc, List.map_append] at hN
          exact (List.nodup_append.mp hN).2.2 kv.1 (List.mem_map_of_mem hkv1) k' (by simp) e
        rw [hno1]
      all_goals
        refine wpAny_dictPut hkey' hd' (fun h'' hd'' hs'' => ?_) hmx
        have hoo'' : h''.get? o = some oo := (hs''.2 o (Ne.symm hdo)).trans hoo'
        refine wpAny_bind (wpAny_dictEpoch hoo'' hdo' ?_)
        rw [if_neg (by simp)]
        exact wpAny_pure ⟨h'', x + 1, rfl, hrest, hlt, by rw [merged_take_succ kvs more x (k', v) hkv]; exact hd'', hoo'', hs'.trans hs''⟩
    · rintro b s' ⟨h', i, rfl, hr, hi, hd', hoo', hs'⟩
      have hin : i = eso.size := by
        rcases Nat.lt_or_ge i eso.size with h | h
        · have e : eso.size - i = (eso.size - (i + 1)) + 1 := by omega
          rw [e, List.range'_succ] at hr; exact nomatch hr
        · exact Nat.le_antisymm hi h
      refine wpAny_pure (hQ h' ?_ ⟨oo, eso, epo, hoo', hco, hdo', hko, hpo, hno⟩ hs')
      rw [hin, ← hlen, List.take_length] at hd'; exact hd'
  split
  · refine wpAny_bind (wpAny_dictEntries hoo hdo' ?_)
    refine wpAny_bind ?_
    have scan : ∀ (l : List DictEntry), (∀ e ∈ l, ∃ k, knd.is k e.key = true) → ∀ (g : DictEntry → PUnit → Sem (ForInStep PUnit)), (∀ e, (∀ a, e.key ≠ .ref a) → g e ⟨⟩ = pure (.yield ⟨⟩)) → ∀ {R : PUnit → Shared → Prop}, R ⟨⟩ s → wpAny (model prog w) A (forIn l PUnit.unit g) R E s := by
      intro l hl g hg R hR
      induction l with
      | nil => rw [List.forIn_nil]; exact wpAny_pure hR
      | cons e l ih =>
        obtain ⟨k, hk⟩ := hl e (List.mem_cons_self ..)
        rw [List.forIn_cons, hg e (fun a z => by have := knd.byValue k _ hk; rw [z] at this; cases this)]
        exact wpAny_bind (wpAny_pure (ih fun e he => hl e (List.mem_cons_of_mem _ he)))
    rw [← Array.forIn_toList]
    refine scan _ (fun e he => ?_) _ (fun e he => ?_) loop
    · obtain ⟨k, hk, _⟩ := hko e (Array.mem_def.mpr he)
      exact ⟨k, hk⟩
    · cases q : e.key with
      | ref a => exact absurd q (he a)
      | _ => rfl
  · exact loop
end
end KwX
set_option Elab.async false
set_option linter.all false
set_option maxRecDepth 100000
set_option maxHeartbeats 4000000
namespace Lay
open PySem L2
def top (i : Nat) : Stmt := PySem.Challenge.pw_laytwice_k24_forms_laid_out.main.body.getD i (.Pass ⟨0, 0, 0, 0⟩)
abbrev sBox : Stmt := top 48
abbrev sTake : Stmt := top 49
abbrev sPick : Stmt := top 50

/-! ### the box of draws -/
def Boxy (o : HO) : Prop := ∃ g s n : Int, o = .lst [.int g, .int s, .int n]
def BoxAt (H : Hp) (b : Addr) : Prop := ∃ o, H b = some o ∧ Boxy o
/-- all that is tracked beside b is as it was -/
def Kept (b : Addr) (H H' : Hp) : Prop := ∀ a o, a ≠ b → H a = some o → H' a = some o
theorem Kept.refl (b : Addr) (H : Hp) : Kept b H H := fun _ _ _ h => h
theorem Kept.trans {b : Addr} {H H1 H2 : Hp} (x : Kept b H H1) (y : Kept b H1 H2) : Kept b H H2 := fun a o n h => y a o n (x a o n h)
theorem Kept.of_same {b : Addr} {H H' : Hp} (x : Same H H') : Kept b H H' := fun a o _ h => x a o h
theorem Kept.box {b : Addr} {H : Hp} {o : HO} : Kept b H (upd H b o) := fun a u n h => by rw [upd_ne n]; exact h
theorem Kept.new {b a : Addr} {H : Hp} {o : HO} (h : H a = none) : Kept b H (upd H a o) := fun c u _ e => by
  rw [upd_ne (ne_of_none e h)]
  exact e
theorem Same.new {a : Addr} {H : Hp} {o : HO} (h : H a = none) : Same H (upd H a o) := fun c u e => by
  rw [upd_ne (ne_of_none e h)]
  exact e
theorem BoxAt.new {b a : Addr} {H : Hp} {o : HO} (x : BoxAt H b) (h : H a = none) : BoxAt (upd H a o) b := by
  obtain ⟨u, e, y⟩ := x
  exact ⟨u, Same.new h _ _ e, y⟩
theorem BoxAt.box {b : Addr} {H : Hp} {o : HO} (y : Boxy o) : BoxAt (upd H b o) b := ⟨o, upd_same, y⟩
theorem BoxAt.ne {b a : Addr} {H : Hp} (x : BoxAt H b) (h : H a = none) : a ≠ b := by
  obtain ⟨u, e, y⟩ := x
  exact (ne_of_none e h).symm

/-- what the draws want of the module's names -/
structure TxtD (mg : Str → Option Value) : Prop where
  int : mg "int" = none
  len : mg "len" = none
  abs : mg "abs" = none
  range : mg "range" = none

def spTake : Sp := fun vs H Q _ => ∃ (b : Addr) (m : Int), vs = [.ref b, .int m] ∧ BoxAt H b ∧ 0 < m ∧ m < 1073741824 ∧
  ∀ (r : Int) (o : HO), 0 ≤ r → r < m → Boxy o → Q (.int r) (upd H b o)
def spPick (K : PySem.W.Frag) : Sp := fun vs H Q _ => ∃ (b l : Addr) (xs : List V), vs = [.ref b, .ref l] ∧ BoxAt H b ∧ l ≠ b ∧ SqL K H l xs ∧ 0 < xs.length ∧ xs.length ≤ 1000 ∧
  ∀ (v : V) (o : HO), v ∈ xs → Boxy o → Q v (upd H b o)
theorem SqL.kept {K : PySem.W.Frag} {b a : Addr} {H H' : Hp} {xs : List V} (k : Kept b H H') (n : a ≠ b) (h : SqL K H a xs) : SqL K H' a xs := by
  rcases h with (h | ⟨o, h⟩) | h
  · exact .inl (.inl (k _ _ n h))
  · exact .inl (.inr ⟨o, k _ _ n h⟩)
  · exact .inr h
theorem SqT.kept {K : PySem.W.Frag} {b a : Addr} {H H' : Hp} {xs : List V} (k : Kept b H H') (n : a ≠ b) (h : SqT K H a xs) : SqT K H' a xs := by
  rcases h with (h | ⟨o, h⟩) | h
  · exact .inl (.inl (k _ _ n h))
  · exact .inl (.inr ⟨o, k _ _ n h⟩)
  · exact .inr h

theorem lt40 {m : Int} (h : m < 1073741824) : m < 2 ^ (40 : Int).toNat := by
  have e : (2 : Int) ^ (40 : Int).toNat = 1099511627776 := by decide
  omega
section
variable {P : Program} {w : World} {K : PySem.W.Frag} {mg : Str → Option Value} {base : Heap}
theorem scTake : FnScope ["_law_box_here", "_law_many", "_law_digit", "_law_raw", "_law_wide"] ["_law_box_here", "_law_many"] (defScope sTake) := ⟨rfl, rfl, rfl, by decide +kernel, rfl, by decide +kernel, by decide +kernel⟩
theorem ok_take {f : Addr} {fd : FuncData} (F : Fun K "_law_take" "_law_take" sTake f fd) (T : TxtD mg) : FnOk P w K mg base CX0 1 f fd ["_law_box_here", "_law_many"] spTake := by
  refine F.ok scTake (fun vs H Q E h => ?_) (fun cdv A outer s H vs Q E hr h => ?_)
  · obtain ⟨b, m, rfl, _⟩ := h
    rfl
  · obtain ⟨b, m, rfl, ⟨o, hb, g, s, n, rfl⟩, hm0, hm1, k⟩ := h
    refine ⟨_, (pss_cons (ps_if (pt_cmpR op_gt (pe_ix ix_list (pv 0) pe_int (fun _ _ => rfl)) pe_int (nomark _))
      (pss_cons (ps_set (i := 2) scTake.nd rfl (.inl rfl) (pe_op op_mod (pe_callTy call_int1 (by rfl) T.int (by decide +kernel) (pa_cons (pe_ix ix_list (pv 0) pe_int (fun _ _ => rfl)) pa_nil)) (pv 1)))
      (pss_cons (ps_asg (pe_op op_fdiv (pe_ix ix_list (pv 0) pe_int (fun _ _ => rfl)) (pv 1)) (pg_sub (pv 0) pe_int set_list))
      (pss_one (ps_ret (pv 2)))))
      pss_nil)
    (pss_cons (ps_asg (pe_op op_add (pe_ix ix_list (pv 0) pe_int (fun _ _ => rfl)) pe_int) (pg_sub (pv 0) pe_int set_list))
    (pss_cons (ps_set (i := 3) scTake.nd rfl (.inl rfl) (pe_op op_mod (pe_callTy call_int1 (by rfl) T.int (by decide +kernel) (pa_cons (pe_op op_mul (pe_op op_add (pe_ix ix_list (pv 0) pe_int (fun _ _ => rfl)) (pe_op op_mul pe_int (pe_ix ix_list (pv 0) pe_int (fun _ _ => rfl)))) pe_int) pa_nil)) pe_int))
    (pss_cons (ps_asg (pe_op op_add (pe_op op_mod (pe_callTy call_int1 (by rfl) T.int (by decide +kernel) (pa_cons (pe_op op_add (pe_op op_mul (pv 3) pe_int) pe_int) pa_nil)) pe_int) pe_int) (pg_sub (pv 0) pe_int set_list))
    (pss_cons (ps_if (pt_cmpR op_lt (pv 1) (pe_op op_pow pe_int pe_int) (nomark _))
      (pss_one (ps_ret (pe_op op_mod (pe_callTy call_int1 (by rfl) T.int (by decide +kernel) (pa_cons (pe_op op_fdiv (pe_op op_add (pe_op op_mul (pv 3) pe_int) (pe_ix ix_list (pv 0) pe_int (fun _ _ => rfl))) pe_int) pa_nil)) (pv 1))))
      pss_nil)
    pss_never))))), ?_⟩
    refine ⟨_, rfl, b, _, _, _, rfl, rfl, SqL.of hb, rfl, _, _, rfl, rfl, _, rfl, ?_⟩
    refine ite2 (fun h0 => ?_) (fun h0 => ?_)
    · refine ⟨_, rfl, b, _, _, _, rfl, rfl, SqL.of hb, rfl, .inl ⟨_, rfl, _, rfl, _, _, rfl, rfl, hm0, ?_⟩⟩
      refine ⟨_, rfl, b, _, _, _, rfl, rfl, SqL.of hb, rfl, _, rfl, _, _, rfl, rfl, ⟨hm0, hm1⟩, _, rfl, b, _, _, 0, rfl, rfl, hb, rfl, ?_⟩
      refine ⟨_, rfl, k _ _ (Int.emod_nonneg _ (by omega)) (Int.emod_lt_of_pos _ hm0) ⟨_, _, _, rfl⟩⟩
    · refine ⟨_, rfl, b, _, _, _, rfl, rfl, SqL.of hb, rfl, _, _, rfl, rfl, _, rfl, b, _, _, 2, rfl, rfl, hb, rfl, ?_⟩
      refine ⟨_, rfl, b, _, _, _, rfl, rfl, SqL.of upd_same, rfl, _, rfl, b, _, _, _, rfl, rfl, SqL.of upd_same, rfl, _, _, rfl, rfl, .inl ⟨by decide, by decide⟩, _, _, rfl, rfl, _, _, rfl, rfl, .inr ⟨by decide, by decide⟩, .inl ⟨_, rfl, _, _, rfl, rfl, (by show (0 : Int) < 2147483647; decide), ?_⟩⟩
      refine ⟨_, rfl, _, _, rfl, rfl, .inr ⟨by decide, by decide⟩, _, _, rfl, rfl, .inl ⟨_, rfl, _, _, rfl, rfl, (by show (0 : Int) < 2147483629; decide), _, _, rfl, rfl, _, rfl, b, _, _, 1, rfl, rfl, upd_same, rfl, ?_⟩⟩
      rw [upd_upd]
      refine ⟨_, rfl, _, _, rfl, rfl, ⟨by decide, by decide, by decide⟩, _, _, rfl, rfl, _, rfl, ?_⟩
      refine ite2 (fun _ => ?_) (fun h1 => absurd (decide_eq_true (lt40 hm1)) h1)
      refine ⟨_, rfl, _, _, rfl, rfl, .inr ⟨by decide, by decide⟩, _, rfl, b, _, _, _, rfl, rfl, SqL.of upd_same, rfl, _, _, rfl, rfl, _, _, rfl, rfl, ⟨by decide, by decide⟩, .inl ⟨_, rfl, _, rfl, _, _, rfl, rfl, hm0, ?_⟩⟩
      exact k _ _ (Int.emod_nonneg _ (by omega)) (Int.emod_lt_of_pos _ hm0) ⟨_, _, _, rfl⟩

theorem scPick : FnScope ["_law_box_here", "_law_items"] ["_law_box_here", "_law_items"] (defScope sPick) := ⟨rfl, rfl, rfl, by decide +kernel, rfl, by decide +kernel, by decide +kernel⟩
theorem ok_pick {f fT : Addr} {fd fdT : FuncData} (F : Fun K "_law_pick" "_law_pick" sPick f fd) (T : TxtD mg) (FT : Fun K "_law_take" "_law_take" sTake fT fdT) (bT : Binds K fdT ["_law_box_here", "_law_many"] []) (gT : mg "_law_take" = some (.ref fT)) :
    FnOk P w K mg base CX0 2 f fd ["_law_box_here", "_law_items"] (spPick K) := by
  have GT : FnOk P w K mg base CX0 1 fT fdT ["_law_box_here", "_law_many"] spTake := ok_take FT T
  refine F.ok scPick (fun vs H Q E h => ?_) (fun cdv A outer s H vs Q E hr h => ?_)
  · obtain ⟨b, l, xs, rfl, _⟩ := h
    rfl
  · obtain ⟨b, l, xs, rfl, hb, hl, hs, h0, h1, k⟩ := h
    refine ⟨_, (pss_one (ps_ret (pe_ix ix_list (pv 1) (pe_call GT hr (by rfl) gT FT.kp bT .nil pass0 (pa_cons (pv 0) (pa_cons (pe_callB call_len_seq (by rfl) T.len (by decide +kernel) (pa_cons (pv 1) pa_nil)) pa_nil))) (fun _ _ => rfl)))), ?_⟩
    refine ⟨_, rfl, _, rfl, _, rfl, l, xs, rfl, .inl hs, b, _, rfl, hb, by omega, by omega, fun r o r0 r1 ho => ?_⟩
    have hr' : r.toNat < xs.length := by omega
    have er : r = ((r.toNat : Nat) : Int) := by omega
    exact ⟨l, xs, r, xs[r.toNat], rfl, rfl, SqL.kept Kept.box hl hs, at_of er (by simp [hr']), k _ _ (List.getElem_mem hr') ho⟩

def spBox (K : PySem.W.Frag) : Sp := fun vs H Q _ => ∃ (a : Addr) (ns : List Int) (i j : Int), vs = [.ref a, .int i, .int j] ∧ SqL K H a (ns.map V.int) ∧ 0 ≤ i ∧ i ≤ 1000 ∧ 0 ≤ j ∧ j ≤ 1000 ∧ ns.length ≤ 1000 ∧
  ∀ (p : Addr) (H' : Hp), Same H H' → H p = none → BoxAt H' p → Q (.ref p) H'
theorem scBox : FnScope ["_law_script", "_law_k", "_law_own", "_law_cell", "_law_seed"] ["_law_script", "_law_k", "_law_own"] (defScope sBox) := ⟨rfl, rfl, rfl, by decide +kernel, rfl, by decide +kernel, by decide +kernel⟩
theorem ok_box {f : Addr} {fd : FuncData} (F : Fun K "_law_box" "_law_box" sBox f fd) (T : TxtD mg) : FnOk P w K mg base CX0 1 f fd ["_law_script", "_law_k", "_law_own"] (spBox K) := by
  refine F.ok scBox (fun vs H Q E h => ?_) (fun cdv A outer s H vs Q E hr h => ?_)
  · obtain ⟨a, ns, i, j, rfl, _⟩ := h
    rfl
  · obtain ⟨a, ns, i, j, rfl, hs, i0, i1, j0, j1, hn, k⟩ := h
    refine ⟨_, (pss_cons (ps_set (i := 3) scBox.nd rfl (.inl rfl) (pe_op op_add (pe_op op_add (pe_op op_mul pe_int (pv 1)) (pe_op op_mul pe_int (pv 2))) pe_int))
    (C8.pss_cut (ps_if (pt_cmpR op_lt (pv 1) (pe_callB call_len_seq (by rfl) T.len (by decide +kernel) (pa_cons (pv 0) pa_nil)) (nomark _))
      (pss_one (ps_set (i := 3) scBox.nd rfl (.inl rfl) (pe_callB call_abs (by rfl) T.abs (by decide +kernel) (pa_cons (pe_ix ix_list (pv 0) (pv 1) (fun _ _ => rfl)) pa_nil))))
      (pss_one (ps_if (pt_cmpR op_gt (pe_callB call_len_seq (by rfl) T.len (by decide +kernel) (pa_cons (pv 0) pa_nil)) pe_int (nomark _))
        (pss_one (ps_set (i := 3) scBox.nd rfl (.inl rfl) (pe_op op_add (pv 3) (pe_op op_mul (pe_op op_mod (pe_callTy call_int1 (by rfl) T.int (by decide +kernel) (pa_cons (pe_callB call_abs (by rfl) T.abs (by decide +kernel) (pa_cons (pe_ix ix_list (pv 0) (pe_op op_mod (pe_callTy call_int1 (by rfl) T.int (by decide +kernel) (pa_cons (pv 1) pa_nil)) (pe_callB call_len_seq (by rfl) T.len (by decide +kernel) (pa_cons (pv 0) pa_nil))) (fun _ _ => rfl)) pa_nil)) pa_nil)) pe_int) pe_int))))
        pss_nil)))
    (pss_cons (ps_set (i := 4) scBox.nd rfl (.inl rfl) (pe_op op_add (pe_op op_mod (pe_callTy call_int1 (by rfl) T.int (by decide +kernel) (pa_cons (pe_op op_add (pe_op op_mul (pe_op op_mod (pe_callTy call_int1 (by rfl) T.int (by decide +kernel) (pa_cons (pv 3) pa_nil)) pe_int) pe_int) (pe_op op_mul pe_int (pe_op op_add (pv 1) (pe_op op_mul pe_int (pv 2))))) pa_nil)) pe_int) pe_int))
    (pss_one (ps_ret (pe_lst (pa_cons (pe_ix ix_list (pe_lst (pa_cons pe_int (pa_cons (pv 3) pa_nil))) (pe_callTy call_int1 (by rfl) T.int (by decide +kernel) (pa_cons (pe_cmpR op_ge (pv 3) (pe_op op_pow pe_int pe_int) (nomark _)) pa_nil)) (fun _ _ => rfl)) (pa_cons (pv 4) (pa_cons pe_int pa_nil))))))))), ?_⟩
    refine ⟨_, rfl, _, _, rfl, rfl, .inl ⟨by decide, by decide⟩, _, rfl, _, _, rfl, rfl, .inl ⟨by decide, by decide⟩, _, _, rfl, rfl, _, _, rfl, rfl, ?_⟩
    refine ⟨fun σ' H' => H' = H ∧ ∃ c : Int, σ' = [some (.ref a), some (.int i), some (.int j), some (.int c), none], ?_, ?_⟩
    · have hl : (ns.map V.int).length = ns.length := List.length_map ..
      refine ⟨_, rfl, _, rfl, a, _, rfl, .inl hs, _, _, rfl, rfl, _, rfl, ?_⟩
      refine ite2 (fun h => ?_) (fun h => ?_)
      · have hi : i < (ns.map V.int).length := of_decide_eq_true h
        obtain ⟨z, hz⟩ : ∃ z, (ns.map V.int)[i.toNat]? = some (V.int z) := by
          refine ⟨ns[i.toNat]'(by omega), ?_⟩
          rw [List.getElem?_map, List.getElem?_eq_getElem (by omega)]
          rfl
        exact ⟨_, rfl, _, rfl, a, _, _, _, rfl, rfl, hs, at_of (by omega) hz, _, rfl, rfl, _, rfl⟩
      · refine ⟨_, rfl, a, _, rfl, .inl hs, _, _, rfl, rfl, _, rfl, ?_⟩
        refine ite2 (fun h2 => ?_) (fun _ => ⟨rfl, _, rfl⟩)
        have h2' : (0 : Int) < (ns.map V.int).length := of_decide_eq_true h2
        have m0 := Int.emod_nonneg i (show ((ns.map V.int).length : Int) ≠ 0 by omega)
        have m1 := Int.emod_lt_of_pos i h2'
        obtain ⟨z, hz⟩ : ∃ z, (ns.map V.int)[(i % ((ns.map V.int).length : Int)).toNat]? = some (V.int z) := by
          refine ⟨ns[(i % ((ns.map V.int).length : Int)).toNat]'(by omega), ?_⟩
          rw [List.getElem?_map, List.getElem?_eq_getElem (by omega)]
          rfl
        refine ⟨_, rfl, _, rfl, _, rfl, .inl ⟨_, rfl, _, rfl, a, _, rfl, .inl hs, _, _, rfl, rfl, h2', a, _, _, _, rfl, rfl, hs, at_of (by omega) hz, _, rfl, .inl ⟨_, rfl, _, _, rfl, rfl, (by show (0 : Int) < 2147483629; decide), _, _, rfl, rfl, .inr ⟨by decide, by decide⟩, _, _, rfl, rfl, rfl, _, rfl⟩⟩⟩
    · rintro σ' H' ⟨rfl, c, rfl⟩
      refine ⟨_, rfl, .inl ⟨_, rfl, _, _, rfl, rfl, (by show (0 : Int) < 2147483629; decide), _, _, rfl, rfl, .inr ⟨by decide, by decide⟩, _, rfl, _, rfl, _, _, rfl, rfl, .inl ⟨by decide, by decide⟩, _, _, rfl, rfl, _, _, rfl, rfl, .inl ⟨by decide, by decide⟩, _, _, rfl, rfl, .inl ⟨_, rfl, _, _, rfl, rfl, (by show (0 : Int) < 2147483629; decide), _, _, rfl, rfl, ?_⟩⟩⟩
      refine ⟨_, rfl, (by show 2 ≤ sizeLine; decide), fun l hl => ⟨_, rfl, _, _, rfl, rfl, ⟨by decide, by decide, by decide⟩, _, _, rfl, rfl, .inr ⟨_, rfl, l, _, _, if (decide ((10 : Int) ^ (18 : Int).toNat ≤ c)) = true then V.int c else V.int 0, rfl, rfl, SqL.of upd_same, ?_, ?_⟩⟩⟩
      · cases decide ((10 : Int) ^ (18 : Int).toNat ≤ c) <;> rfl
      · refine ⟨_, rfl, (by show 3 ≤ sizeLine; decide), fun p hp => ?_⟩
        refine k _ _ ((Same.new hl).trans (Same.new hp)) ((Same.new hl).free hp) ⟨_, upd_same, ?_⟩
        by_cases hc : (decide ((10 : Int) ^ (18 : Int).toNat ≤ c)) = true
        · rw [if_pos hc]
          exact ⟨_, _, _, rfl⟩
        · rw [if_neg hc]
          exact ⟨_, _, _, rfl⟩
end
end Lay
set_option Elab.async false
set_option linter.all false
set_option maxRecDepth 100000
set_option maxHeartbeats 4000000
set_option pp.maxSteps 700
namespace Lay
open PySem PySem.Spec PyProof.Rows L2
theorem iteN {c : Bool} {A B : Prop} (h : c = false) (x : B) : if c = true then A else B := by
  rw [if_neg (by rw [h]; exact Bool.false_ne_true)]
  exact x
theorem iteY {c : Bool} {A B : Prop} (h : c = true) (x : A) : if c = true then A else B := by
  rw [if_pos h]
  exact x
theorem same_put {H H1 : Hp} {p : Addr} {o : HO} (s : Same H H1) (n : H p = none) : Same H (upd H1 p o) := fun b u e => by
  rw [upd_ne (ne_of_none e n)]
  exact s _ _ e
theorem fits {n : Nat} (h : n ≤ 16000000) : n ≤ sizeLine := by
  rw [sizeLine_eq]
  omega
theorem smallT {n : Nat} (h : n ≤ 16000000) : n < sizeLine := by
  rw [sizeLine_eq]
  omega
theorem made_same {x dx : Addr} {H H' : Hp} {o : HO} (hx : H x = none) (hd : H dx = none) (k : Kept x (upd (upd H dx (.own x)) x o) H') : Same H H' := fun b u e => k b u (ne_of_none e hx) (by rw [upd_ne (ne_of_none e hx), upd_ne (ne_of_none e hd)]; exact e)
theorem fresh_own {H : Hp} {p d : Addr} {o : HO} (np : H p = none) (ne : d ≠ p) : upd H d o p = none := by
  rw [upd_ne (Ne.symm ne)]
  exact np
theorem Same.rfl {H : Hp} : Same H H := fun _ _ e => e
/-! defs by their names -/
/-- the module's names that must be Python's own -/
structure Bt (mg : Str → Option Value) : Prop where
  int : mg "int" = none
  bool : mg "bool" = none
  str : mg "str" = none
  list : mg "list" = none
  tuple : mg "tuple" = none
  dict : mg "dict" = none
  isinstance : mg "isinstance" = none
  len : mg "len" = none
  all : mg "all" = none
  any : mg "any" = none
  abs : mg "abs" = none
  range : mg "range" = none
  enumerate : mg "enumerate" = none
  zip : mg "zip" = none
  max : mg "max" = none
  min : mg "min" = none
  repr : mg "repr" = none
  sorted : mg "sorted" = none
/-- the def n as it stands behind the top -/
def Dfn (K : PySem.W.Frag) (mg : Str → Option Value) (n : Str) (st : Stmt) (ps : List Str) : Prop := ∃ f fd, Fun K n n st f fd ∧ mg n = some (.ref f) ∧ Binds K fd ps []
/-- the def n keeps a promise -/
def Has (P : Program) (w : World) (K : PySem.W.Frag) (mg : Str → Option Value) (base : Heap) (CX : CXT) (k : Nat) (n : Str) (ps : List Str) (sp : Sp) : Prop :=
  ∃ f fd, FnOk P w K mg base CX k f fd ps sp ∧ mg n = some (.ref f) ∧ PySem.W.keepIn K (.ref f) = true ∧ Binds K fd ps []
section
variable {P : Program} {w : World} {K : PySem.W.Frag} {mg : Str → Option Value} {base : Heap} {n : Str} {st : Stmt} {N ps : List Str} {k : Nat} {sp : Sp}
theorem Dfn.has (D : Dfn K mg n st ps) (S : FnScope N ps (defScope st)) (len : ∀ vs H Q E, sp vs H Q E → vs.length = ps.length)
    (hbody : ∀ (f : Addr) (cdv : Value) (A : Around) (outer : List Env) (s : Shared) (H : Hp) (vs : List V) (Q : VK) (E : XK), Room k (A.deeper (envOfC n (defScope st) s.heap.objs.size f cdv)) → sp vs H Q E →
      ∃ t, PSs (cxOf CX0 P w K mg base N n (defScope st) f cdv A outer s H E).nox (defBody st) t ∧ t { nx := fun _ H' => Q .non H', rt := Q } (start N vs) H) : Has P w K mg base CX0 (k + 1) n ps sp := by
  obtain ⟨f, fd, F, g, b⟩ := D
  exact ⟨f, fd, F.ok S len (hbody f), g, F.kp, b⟩
theorem Dfn.hasX (D : Dfn K mg n st ps) (S : FnScope N ps (defScope st)) (len : ∀ vs H Q E, sp vs H Q E → vs.length = ps.length)
    (hbody : ∀ (f : Addr) (cdv : Value) (A : Around) (outer : List Env) (s : Shared) (H : Hp) (vs : List V) (Q : VK) (E : XK), Room k (A.deeper (envOfC n (defScope st) s.heap.objs.size f cdv)) → sp vs H Q E →
      ∃ t, PSs (cxOf (L2.CX P w) P w K mg base N n (defScope st) f cdv A outer s H E) (defBody st) t ∧ t { nx := fun _ H' => Q .non H', rt := Q } (start N vs) H) : Has P w K mg base (L2.CX P w) (k + 1) n ps sp := by
  obtain ⟨f, fd, F, g, b⟩ := D
  exact ⟨f, fd, F.okX S len (hbody f), g, F.kp, b⟩
theorem Has.mono {CX : CXT} {j : Nat} (h : Has P w K mg base CX j n ps sp) (l : j ≤ k) : Has P w K mg base CX k n ps sp := by
  obtain ⟨f, fd, F, r⟩ := h
  exact ⟨f, fd, F.mono l, r⟩
theorem Has.imp {CX : CXT} {sp' : Sp} (h : Has P w K mg base CX k n ps sp) (i : ∀ vs H Q E, sp' vs H Q E → sp vs H Q E) : Has P w K mg base CX k n ps sp' := by
  obtain ⟨f, fd, F, r⟩ := h
  exact ⟨f, fd, F.imp i, r⟩
end
section
variable {X : Cx} {CX : CXT} {k : Nat} {ps : List Str} {sp : Sp} {E : XK} {n : Str} {p pos : Pos} {e : Expr} {es : List Expr} {t : TA}
theorem pe_callH (D : Has X.prog X.w X.K X.mg X.base CX k n ps sp) (hr : Room k X.A) (hg : Gl X n) (hx : Passes CX X E) (ha : PA X (e :: es) t) (hdb : (n == ("__debug__" : Str)) = false := by decide)
    (he : starEach (e :: es) X.env = (false, eval e X.env) :: starEach es X.env := by rfl) (hpl : (backTo pos (starEach es X.env)).any (·.1) = false := by rfl) : PE X (.Call (.Name n p) (e :: es) [] pos) (tCall sp [] E t) := by
  obtain ⟨f, fd, F, g, kp, b⟩ := D
  exact pe_call F hr hg g kp b .nil hx ha hdb he hpl
theorem pe_callH0 (D : Has X.prog X.w X.K X.mg X.base CX k n ps sp) (hr : Room k X.A) (hg : Gl X n) (hx : Passes CX X E) (hdb : (n == ("__debug__" : Str)) = false := by decide) : PE X (.Call (.Name n p) [] [] pos) (tCall sp [] E tNil) := by
  obtain ⟨f, fd, F, g, kp, b⟩ := D
  exact pe_call0 F hr hg g kp b .nil hx hdb
end
section
variable {X : Cx}
/-- xs == [], any xs -/
theorem op_eqNil (hu : X.A.units + 64 < cLine) : OpR X (compareOp .Eq) (fun x y H Q => ∃ a b xs, x = .ref a ∧ y = .ref b ∧ SqL X.K H a xs ∧ H b = some (.lst []) ∧ Q (.bl xs.isEmpty) H) := by
  intro pins s σ H x y v u Q I rx ry h
  obtain ⟨a, b, xs, rfl, rfl, ha, hb, q⟩ := h
  cases xs with
  | nil => exact op_eqD hu pins s σ H _ _ v u Q I rx ry ⟨.list [], .list [], .lst ha .nil, .lst (SqL.of hb) .nil, rfl, rfl, q⟩
  | cons z zs =>
    cases rx
    cases ry
    obtain ⟨its, r, p1, _⟩ := I.list ha
    obtain ⟨its2, r2, p2, _⟩ := I.list (SqL.of hb)
    cases r2
    refine SeqAt.eq_list_lengthsAt p1.isList p2.isList ?_ (by omega) ⟨.bl false, H, I, rfl, q⟩
    cases r
    rfl
end
/-! rules that name K -/
def rLenK (K : PySem.W.Frag) : List V → Hp → VK → Prop := fun xs H Q => ∃ p ys, xs = [.ref p] ∧ (SqL K H p ys ∨ SqT K H p ys) ∧ Q (.int ys.length) H
section
variable {X : Cx} {K : PySem.W.Frag}
theorem call_lenK (hK : X.K = K) : CallR X (.builtin "len") (rLenK K) := by
  subst hK
  exact call_len_seq
theorem call_isiK (hK : X.K = K) : CallR X (.builtin "isinstance") (rIsi K) := by
  subst hK
  exact call_isi
theorem call_isiTK (hK : X.K = K) : CallR X (.builtin "isinstance") (rIsiT K) := by
  subst hK
  exact call_isiT
theorem ix_listK (hK : X.K = K) : IxR X (rIxL K) := by
  subst hK
  exact ix_list
theorem op_inK (hK : X.K = K) : OpR X (compareOp .In) (rIn K false) := by
  subst hK
  exact op_in_seq
theorem op_notInK (hK : X.K = K) : OpR X (compareOp .NotIn) (rIn K true) := by
  subst hK
  exact op_notIn_seq
end
/-! a list or a tuple, walked -/
def SqK (K : PySem.W.Frag) (k : Bool) (H : Hp) (a : Addr) (xs : List V) : Prop := match k with
  | false => SqL K H a xs
  | true => SqT K H a xs
theorem SqK.same {K : PySem.W.Frag} {k : Bool} {H H' : Hp} {a : Addr} {xs : List V} (e : Same H H') (h : SqK K k H a xs) : SqK K k H' a xs := by
  cases k with
  | false =>
    rcases h with (h | ⟨o, h⟩) | h
    · exact .inl (.inl (e _ _ h))
    · exact .inl (.inr ⟨o, e _ _ h⟩)
    · exact .inr h
  | true =>
    rcases h with (h | ⟨o, h⟩) | h
    · exact .inl (.inl (e _ _ h))
    · exact .inl (.inr ⟨o, e _ _ h⟩)
    · exact .inr h
def iSq (K : PySem.W.Frag) (te : TE) : TI := fun σ H R => te σ H fun x H1 => ∃ (a : Addr) (xs : List V) (k : Bool), x = .ref a ∧ SqK K k H1 a xs ∧ ∀ J, Walk J xs.length (fun G => SqK K k G a xs) (YAt xs) → R J H1
theorem pi_sq {X : Cx} {K : PySem.W.Frag} (hK : X.K = K) {l tg : Expr} {te : TE} (hl : PE X l te) : PI X tg l (iSq K te) := by
  subst hK
  refine ⟨fun pins s σ H R I h => thn (hl.run pins s σ H _ I h) fun v s1 ⟨x, H1, I1, r1, a, xs, k, e, hq, q⟩ => ?_⟩
  subst e
  cases r1
  have done : ∀ b ∈ [s1.heap.objs.size], FpOk X pins H1 b := fun b hb => by
    rw [List.mem_singleton.mp hb]
    exact I1.fpOk (Nat.le_refl _) (I1.hok.fresh (Nat.le_refl _))
  cases k with
  | false =>
    obtain ⟨its, rv, p, hz⟩ := I1.list hq
    have q := q _ walk_list
    refine wpAny_pyIter_list p.isList ?_
    exact ⟨s1.heap.objs.size, [s1.heap.objs.size], _, _, H1, rfl, I1.kept (t' := s1.toks) fun b o e => Heap.get?_push_of_some _ e, turn_list a _, ⟨_, Heap.get?_push_size _ rfl, rfl, rfl⟩, done, q⟩
  | true =>
    obtain ⟨its, rv, p, hz⟩ := I1.tuple hq
    have q := q _ walk_tup
    refine wpAny_pyIter_tuple (show s1.heap.IsTuple a its.toArray from p) ?_
    exact ⟨s1.heap.objs.size, [s1.heap.objs.size], _, _, H1, rfl, I1.kept (t' := s1.toks) fun b o e => Heap.get?_push_of_some _ e, turn_tuple a _, ⟨_, Heap.get?_push_size _ rfl, rfl, rfl⟩, done, q⟩
end Lay
set_option Elab.async false
set_option linter.all false
set_option maxRecDepth 100000
set_option maxHeartbeats 4000000
namespace Lay
open PySem L2
/-- the names of the module that must be Python's own -/
structure TxtK (mg : Str → Option Value) : Prop where
  str : mg "str" = none
  list : mg "list" = none
  tuple : mg "tuple" = none
  isinstance : mg "isinstance" = none
  len : mg "len" = none
  all : mg "all" = none
theorem TyOf.same {K : PySem.W.Frag} {H H' : Hp} {x : V} {t : Value} (s : Same H H') (h : TyOf K H x t) : TyOf K H' x t := by
  cases h with
  | non => exact .non
  | bl b => exact .bl b
  | int i => exact .int i
  | str z => exact .str z
  | flt z => exact .flt z
  | lst e => exact .lst (s _ _ e)
  | frz e => exact .frz (s _ _ e)
  | tup e => exact .tup (s _ _ e)
  | dK e => exact .dK (s _ _ e)
  | dT e => exact .dT (s _ _ e)
  | ins e cl ha hn htk hm => exact .ins (s _ _ e) cl ha hn htk hm
theorem TyX.same {K : PySem.W.Frag} {H H' : Hp} {x : V} {t : Value} (s : Same H H') (h : TyX K H x t) : TyX K H' x t := by
  cases h with
  | base h => exact .base (TyOf.same s h)
  | byt b => exact .byt b
  | set e => exact .set (s _ _ e)
  | kList e c => exact .kList e c
  | kTuple e c => exact .kTuple e c
  | kDict e c => exact .kDict e c
  | fTuple e => exact .fTuple (s _ _ e)
  | fDict e => exact .fDict (s _ _ e)
/-- isinstance of the built-in class n -/
def IsT (K : PySem.W.Frag) (H : Hp) (x : V) (n : String) (b : Bool) : Prop := ∃ t, TyX K H x t ∧ PySem.W.kitOne K t (.type n) = some b
theorem IsT.same {K : PySem.W.Frag} {H H' : Hp} {x : V} {n : String} {b : Bool} (s : Same H H') (h : IsT K H x n b) : IsT K H' x n b := by
  obtain ⟨t, h1, h2⟩ := h
  exact ⟨t, TyX.same s h1, h2⟩
theorem isT_str {K : PySem.W.Frag} {H : Hp} {z : Str} : IsT K H (.str z) "str" true := ⟨_, .base (.str z), kit_ty (by decide +kernel)⟩
/-- is it a list or a tuple -/
def IsSeq (K : PySem.W.Frag) (H : Hp) (x : V) (b : Bool) : Prop := ∃ t, TyX K H x t ∧ PySem.W.kitAny K t [.type "list", .type "tuple"] = some b
theorem IsSeq.same {K : PySem.W.Frag} {H H' : Hp} {x : V} {b : Bool} (s : Same H H') (h : IsSeq K H x b) : IsSeq K H' x b := by
  obtain ⟨t, h1, h2⟩ := h
  exact ⟨t, TyX.same s h1, h2⟩
theorem kitAny_lt {K : PySem.W.Frag} {t : Value} {b c : Bool} (h1 : PySem.W.kitOne K t (.type "list") = some b) (h2 : PySem.W.kitOne K t (.type "tuple") = some c) : PySem.W.kitAny K t [.type "list", .type "tuple"] = some (b || c) := by
  refine kitAny_cons h1 (fun hb => ?_) (fun hb => by rw [hb]; rfl)
  subst hb
  exact kitAny_cons h2 (fun hc => by subst hc; exact kitAny_nil) (fun hc => by rw [hc]; rfl)
/-- what is a list or a tuple of xs -/
def SqX (H : Hp) (a : Addr) (xs : List V) : Prop := H a = some (.lst xs) ∨ H a = some (.tup xs)
theorem SqX.same {H H' : Hp} {a : Addr} {xs : List V} (s : Same H H') (h : SqX H a xs) : SqX H' a xs := h.imp (s _ _) (s _ _)
theorem SqX.seq {K : PySem.W.Frag} {H : Hp} {a : Addr} {xs : List V} (h : SqX H a xs) : IsSeq K H (.ref a) true := by
  rcases h with h | h
  · exact ⟨_, .base (.lst h), kitAny_lt (b := true) (c := false) (kit_ty (by decide +kernel)) (kit_ty (by decide +kernel))⟩
  · exact ⟨_, .base (.tup h), kitAny_lt (b := false) (c := true) (kit_ty (by decide +kernel)) (kit_ty (by decide +kernel))⟩
/-! ### words -/
def testL : List Str := ["broken", "marked", "left", "ahead", "behind", "blank", "long", "first", "afterbroken", "afterbehind"]
def deedL : List Str := ["break", "join", "mark", "unmark", "lift", "lower", "space", "close"]
def progT (z : Str) : Bool := inV (.str (Txt.removeprefix z "not ")) (testL.map V.str)
def progD (z : Str) : Bool := inV (.str z) (deedL.map V.str)
theorem flat_strs (zs : List Str) : (zs.map V.str).all flatV = true := by
  induction zs with
  | nil => rfl
  | cons z zs ih => exact (Bool.and_eq_true_iff.mpr ⟨rfl, ih⟩)
/-- what one thing's test answers: f of a text, no otherwise -/
def ItB (f : Str → Bool) (K : PySem.W.Frag) (H : Hp) (x : V) (b : Bool) : Prop := (∃ z, x = .str z ∧ z.length ≤ 100000 ∧ b = f z) ∨ (b = false ∧ IsT K H x "str" false)
theorem ItB.same {f : Str → Bool} {K : PySem.W.Frag} {H H' : Hp} {x : V} {b : Bool} (s : Same H H') (h : ItB f K H x b) : ItB f K H' x b := h.imp id fun ⟨e, t⟩ => ⟨e, t.same s⟩
def ItBs (f : Str → Bool) (K : PySem.W.Frag) (H : Hp) (xs : List V) (bs : List Bool) : Prop := bs.length = xs.length ∧ ∀ (i : Nat) (x : V) (b : Bool), xs[i]? = some x → bs[i]? = some b → ItB f K H x b
theorem ItBs.same {f : Str → Bool} {K : PySem.W.Frag} {H H' : Hp} {xs : List V} {bs : List Bool} (s : Same H H') (h : ItBs f K H xs bs) : ItBs f K H' xs bs := ⟨h.1, fun i x b h1 h2 => (h.2 i x b h1 h2).same s⟩
/-- what is said of a value: r, where more is what must hold of a sequence besides -/
def AnsV (f : Str → Bool) (more : List V → Bool) (K : PySem.W.Frag) (H : Hp) (x : V) (r : Bool) : Prop := (IsSeq K H x false ∧ r = false) ∨ ∃ a xs bs, x = .ref a ∧ SqX H a xs ∧ xs.length ≤ 100000 ∧ ItBs f K H xs bs ∧ r = (more xs && bs.all id)
theorem AnsV.same {f : Str → Bool} {more : List V → Bool} {K : PySem.W.Frag} {H H' : Hp} {x : V} {r : Bool} (s : Same H H') (h : AnsV f more K H x r) : AnsV f more K H' x r := by
  rcases h with ⟨h, e⟩ | ⟨a, xs, bs, e, h1, h2, h3, h4⟩
  · exact .inl ⟨h.same s, e⟩
  · exact .inr ⟨a, xs, bs, e, h1.same s, h2, h3.same s, h4⟩
def yes (_ : List V) : Bool := true
def full (xs : List V) : Bool := decide (0 < xs.length)
def spSeq (K : PySem.W.Frag) : Sp := fun vs H Q _ => ∃ x b, vs = [x] ∧ IsSeq K H x b ∧ ∀ H', Same H H' → Q (.bl b) H'
def spOne (f : Str → Bool) (K : PySem.W.Frag) : Sp := fun vs H Q _ => ∃ x b, vs = [x] ∧ ItB f K H x b ∧ Q (.bl b) H
def spAre (f : Str → Bool) (more : List V → Bool) (K : PySem.W.Frag) : Sp := fun vs H Q _ => ∃ x r, vs = [x] ∧ AnsV f more K H x r ∧ ∀ H', Same H H' → Q (.bl r) H'
abbrev sSeq : Stmt := top 9
abbrev sTest : Stmt := top 37
abbrev sDeed : Stmt := top 38
abbrev sAreT : Stmt := top 39
abbrev sAreD : Stmt := top 40
section
variable {P : Program} {w : World} {K : PySem.W.Frag} {mg : Str → Option Value} {base : Heap}
theorem scSeq : FnScope ["value"] ["value"] (defScope sSeq) := ⟨rfl, rfl, rfl, by decide +kernel, rfl, by decide +kernel, by decide +kernel⟩
theorem ok_seq {f : Addr} {fd : FuncData} (F : Fun K "is_sequence" "is_sequence" sSeq f fd) (T : TxtK mg) : FnOk P w K mg base CX0 1 f fd ["value"] (spSeq K) := by
  refine F.ok scSeq (fun vs H Q E h => ?_) (fun cdv A outer s H vs Q E hr h => ?_)
  · obtain ⟨x, b, rfl, _⟩ := h
    rfl
  · obtain ⟨x, b, rfl, ⟨t, ty, e⟩, k⟩ := h
    refine ⟨_, (pss_one (ps_ret (pe_callB call_isiT (by rfl) T.isinstance (by decide +kernel) (pa_cons (pv 0) (pa_cons (pe_tup (pa_cons (pe_bltn (v := .ty "list") (by rfl) T.list (by decide +kernel) rfl) (pa_cons (pe_bltn (v := .ty "tuple") (by rfl) T.tuple (by decide +kernel) rfl) pa_nil))) pa_nil))))), ?_⟩
    refine ⟨_, rfl, (by show 2 ≤ sizeLine; decide), fun p hp => ?_⟩
    exact ⟨x, p, _, t, _, b, rfl, upd_same, .cons (.ty _) (.cons (.ty _) .nil), TyX.same (Same.new hp) ty, e, k _ (Same.new hp)⟩
theorem scTest : FnScope ["value"] ["value"] (defScope sTest) := ⟨rfl, rfl, rfl, by decide +kernel, rfl, by decide +kernel, by decide +kernel⟩
theorem ok_test {f tT : Addr} {fd : FuncData} (F : Fun K "is_test" "is_test" sTest f fd) (T : TxtK mg) (gT : mg "TESTS" = some (.ref tT)) (hT : ∀ H : Hp, SqT K H tT (testL.map V.str)) : FnOk P w K mg base CX0 1 f fd ["value"] (spOne progT K) := by
  refine F.ok scTest (fun vs H Q E h => ?_) (fun cdv A outer s H vs Q E hr h => ?_)
  · obtain ⟨x, b, rfl, _⟩ := h
    rfl
  · obtain ⟨x, b, rfl, h, k⟩ := h
    refine ⟨_, (pss_one (ps_ret (pe_and (pe_callB call_isi (by rfl) T.isinstance (by decide +kernel) (pa_cons (pv 0) (pa_cons (pe_bltn (v := .ty "str") (by rfl) T.str (by decide +kernel) rfl) pa_nil)))
      (pe_one (pe_cmpR op_in_seq (pe_bm PySem.F.plainAttrs_str PySem.F.slot_str_removeprefix PySem.F.type_str_removeprefix mt_removeprefix (pv 0) (pa_cons pe_str pa_nil)) (pe_glob (v := .ref tT) (by rfl) gT rfl) (by rfl)))))), ?_⟩
    rcases h with ⟨z, rfl, hz, rfl⟩ | ⟨rfl, t, ty, e⟩
    · obtain ⟨t, ty, e⟩ := isT_str (K := K) (H := H) (z := z)
      refine ⟨_, rfl, _, _, _, _, _, rfl, .ty _, ty, e, _, rfl, ?_⟩
      exact iteY rfl ⟨_, rfl, rfl, z, "not ", rfl, rfl, fits (by omega), tT, _, rfl, .inr (hT _), rfl, flat_strs _, k⟩
    · exact ⟨_, rfl, _, _, _, _, _, rfl, .ty _, ty, e, _, rfl, iteN rfl k⟩
theorem scDeed : FnScope ["value"] ["value"] (defScope sDeed) := ⟨rfl, rfl, rfl, by decide +kernel, rfl, by decide +kernel, by decide +kernel⟩
theorem ok_deed {f tD : Addr} {fd : FuncData} (F : Fun K "is_deed" "is_deed" sDeed f fd) (T : TxtK mg) (gT : mg "DEEDS" = some (.ref tD)) (hT : ∀ H : Hp, SqT K H tD (deedL.map V.str)) : FnOk P w K mg base CX0 1 f fd ["value"] (spOne progD K) := by
  refine F.ok scDeed (fun vs H Q E h => ?_) (fun cdv A outer s H vs Q E hr h => ?_)
  · obtain ⟨x, b, rfl, _⟩ := h
    rfl
  · obtain ⟨x, b, rfl, h, k⟩ := h
    refine ⟨_, (pss_one (ps_ret (pe_and (pe_callB call_isi (by rfl) T.isinstance (by decide +kernel) (pa_cons (pv 0) (pa_cons (pe_bltn (v := .ty "str") (by rfl) T.str (by decide +kernel) rfl) pa_nil)))
      (pe_one (pe_cmpR op_in_seq (pv 0) (pe_glob (v := .ref tD) (by rfl) gT rfl) (by rfl)))))), ?_⟩
    rcases h with ⟨z, rfl, hz, rfl⟩ | ⟨rfl, t, ty, e⟩
    · obtain ⟨t, ty, e⟩ := isT_str (K := K) (H := H) (z := z)
      refine ⟨_, rfl, _, _, _, _, _, rfl, .ty _, ty, e, _, rfl, ?_⟩
      exact iteY rfl ⟨_, rfl, tD, _, rfl, .inr (hT _), rfl, flat_strs _, k⟩
    · exact ⟨_, rfl, _, _, _, _, _, rfl, .ty _, ty, e, _, rfl, iteN rfl k⟩
theorem scAreT : FnScope ["value", "one"] ["value"] (defScope sAreT) := ⟨rfl, rfl, rfl, by decide +kernel, rfl, by decide +kernel, by decide +kernel⟩
theorem ok_areT {f fS fO : Addr} {fd fdS fdO : FuncData} (F : Fun K "are_tests" "are_tests" sAreT f fd) (T : TxtK mg) (GS : FnOk P w K mg base CX0 1 fS fdS ["value"] (spSeq K)) (gS : mg "is_sequence" = some (.ref fS)) (kS : PySem.W.keepIn K (.ref fS) = true) (bS : Binds K fdS ["value"] [])
    (GO : FnOk P w K mg base CX0 1 fO fdO ["value"] (spOne progT K)) (gO : mg "is_test" = some (.ref fO)) (kO : PySem.W.keepIn K (.ref fO) = true) (bO : Binds K fdO ["value"] []) : FnOk P w K mg base CX0 2 f fd ["value"] (spAre progT yes K) := by
  refine F.ok scAreT (fun vs H Q E h => ?_) (fun cdv A outer s H vs Q E hr h => ?_)
  · obtain ⟨x, r, rfl, _⟩ := h
    rfl
  · obtain ⟨x, r, rfl, h, k⟩ := h
    rcases h with ⟨h, rfl⟩ | ⟨a, xs, bs, rfl, hx, hl, hb, rfl⟩
    · refine ⟨_, (pss_one (ps_ret (pe_and (pe_call GS hr (by rfl) gS kS bS .nil pass0 (pa_cons (pv 0) pa_nil)) (pe_one (pe_callB (cr_all rfl) (by rfl) T.all (by decide +kernel) (pa_cons
            (pe_lc (own := [("one", 1)]) (g := gName 1) (tt := tYes) (by rfl) scAreT.nd (pi_list (pv 0)) (blkOk_by (N := ["value", "one"]) (sc := defScope sAreT) (by decide +kernel)) (fun _ _ _ _ _ => pg_name (i := 1) scAreT.nd rfl (Or.inl rfl)) (fun _ _ _ _ _ => pts_nil) (fun _ _ _ _ _ => pe_call GO hr (by rfl) gO kO bO .nil pass0 (pa_cons (pv 1) pa_nil))) pa_nil)))))), ?_⟩
      exact ⟨_, rfl, _, false, rfl, h, fun H' s => ⟨_, rfl, iteN rfl (k H' s)⟩⟩
    · have lb : bs.length ≤ 100000 := by rw [hb.1]; exact hl
      rcases hx with hx | hx
      · refine ⟨_, (pss_one (ps_ret (pe_and (pe_call GS hr (by rfl) gS kS bS .nil pass0 (pa_cons (pv 0) pa_nil)) (pe_one (pe_callB (cr_all rfl) (by rfl) T.all (by decide +kernel) (pa_cons
            (pe_lc (own := [("one", 1)]) (g := gName 1) (tt := tYes) (by rfl) scAreT.nd (pi_list (pv 0)) (blkOk_by (N := ["value", "one"]) (sc := defScope sAreT) (by decide +kernel)) (fun _ _ _ _ _ => pg_name (i := 1) scAreT.nd rfl (Or.inl rfl)) (fun _ _ _ _ _ => pts_nil) (fun _ _ _ _ _ => pe_call GO hr (by rfl) gO kO bO .nil pass0 (pa_cons (pv 1) pa_nil))) pa_nil)))))), ?_⟩
        refine ⟨_, rfl, _, true, rfl, SqX.seq (.inl hx), fun H1 s1 => ⟨_, rfl, ?_⟩⟩
        refine iteY rfl ?_
        refine ⟨_, rfl, a, rfl, ⟨_, SqL.of (s1 _ _ hx)⟩, fun D nD => lc_list (K := K) (a := a) (xs := xs) (fun i G => Same H1 G ∧ G D = some (.lst ((bs.take i).map V.bl))) ⟨Same.new nD, upd_same⟩ (fun i G _ q => SqL.of (q.1 _ _ (s1 _ _ hx))) ?_ ?_⟩
        · rintro i x G hi ⟨sG, hD⟩
          have li := (List.getElem?_eq_some_iff.mp hi).1
          rw [← hb.1] at li
          have eb : bs[i]? = some bs[i] := by simp [li]
          refine ⟨rfl, _, rfl, x, bs[i], rfl, (hb.2 i x _ hi eb).same (s1.trans sG), _, hD, ?_, fun c u e => by rw [upd_ne (ne_of_none e nD)]; exact sG _ _ e, ?_⟩
          · rw [List.length_map, List.length_take]
            exact smallT (by omega)
          · rw [upd_same, List.take_succ, eb, List.map_append]
            rfl
        · rintro G ⟨sG, hD⟩
          rw [← hb.1, List.take_length] at hD
          exact ⟨D, bs, rfl, SqL.of hD, k G (s1.trans sG)⟩
      · refine ⟨_, (pss_one (ps_ret (pe_and (pe_call GS hr (by rfl) gS kS bS .nil pass0 (pa_cons (pv 0) pa_nil)) (pe_one (pe_callB (cr_all rfl) (by rfl) T.all (by decide +kernel) (pa_cons
            (pe_lc (own := [("one", 1)]) (g := gName 1) (tt := tYes) (by rfl) scAreT.nd (pi_tup (pv 0)) (blkOk_by (N := ["value", "one"]) (sc := defScope sAreT) (by decide +kernel)) (fun _ _ _ _ _ => pg_name (i := 1) scAreT.nd rfl (Or.inl rfl)) (fun _ _ _ _ _ => pts_nil) (fun _ _ _ _ _ => pe_call GO hr (by rfl) gO kO bO .nil pass0 (pa_cons (pv 1) pa_nil))) pa_nil)))))), ?_⟩
        refine ⟨_, rfl, _, true, rfl, SqX.seq (.inr hx), fun H1 s1 => ⟨_, rfl, ?_⟩⟩
        refine iteY rfl ?_
        refine ⟨_, rfl, a, rfl, ⟨_, SqT.of (s1 _ _ hx)⟩, fun D nD => lc_tup (K := K) (a := a) (xs := xs) (fun i G => Same H1 G ∧ G D = some (.lst ((bs.take i).map V.bl))) ⟨Same.new nD, upd_same⟩ (fun i G _ q => SqT.of (q.1 _ _ (s1 _ _ hx))) ?_ ?_⟩
        · rintro i x G hi ⟨sG, hD⟩
          have li := (List.getElem?_eq_some_iff.mp hi).1
          rw [← hb.1] at li
          have eb : bs[i]? = some bs[i] := by simp [li]
          refine ⟨rfl, _, rfl, x, bs[i], rfl, (hb.2 i x _ hi eb).same (s1.trans sG), _, hD, ?_, fun c u e => by rw [upd_ne (ne_of_none e nD)]; exact sG _ _ e, ?_⟩
          · rw [List.length_map, List.length_take]
            exact smallT (by omega)
          · rw [upd_same, List.take_succ, eb, List.map_append]
            rfl
        · rintro G ⟨sG, hD⟩
          rw [← hb.1, List.take_length] at hD
          exact ⟨D, bs, rfl, SqL.of hD, k G (s1.trans sG)⟩
theorem scAreD : FnScope ["value", "one"] ["value"] (defScope sAreD) := ⟨rfl, rfl, rfl, by decide +kernel, rfl, by decide +kernel, by decide +kernel⟩
theorem ok_areD {f fS fO : Addr} {fd fdS fdO : FuncData} (F : Fun K "are_deeds" "are_deeds" sAreD f fd) (T : TxtK mg) (GS : FnOk P w K mg base CX0 1 fS fdS ["value"] (spSeq K)) (gS : mg "is_sequence" = some (.ref fS)) (kS : PySem.W.keepIn K (.ref fS) = true) (bS : Binds K fdS ["value"] [])
    (GO : FnOk P w K mg base CX0 1 fO fdO ["value"] (spOne progD K)) (gO : mg "is_deed" = some (.ref fO)) (kO : PySem.W.keepIn K (.ref fO) = true) (bO : Binds K fdO ["value"] []) : FnOk P w K mg base CX0 2 f fd ["value"] (spAre progD full K) := by
  refine F.ok scAreD (fun vs H Q E h => ?_) (fun cdv A outer s H vs Q E hr h => ?_)
  · obtain ⟨x, r, rfl, _⟩ := h
    rfl
  · obtain ⟨x, r, rfl, h, k⟩ := h
    rcases h with ⟨h, rfl⟩ | ⟨a, xs, bs, rfl, hx, hl, hb, rfl⟩
    · refine ⟨_, (pss_one (ps_ret (pe_and (pe_call GS hr (by rfl) gS kS bS .nil pass0 (pa_cons (pv 0) pa_nil)) (pe_and (pe_cmpR op_gt (pe_callB call_len_seq (by rfl) T.len PySem.boot_len (pa_cons (pv 0) pa_nil)) pe_int (nomark _)) (pe_one (pe_callB (cr_all rfl) (by rfl) T.all (by decide +kernel) (pa_cons
            (pe_lc (own := [("one", 1)]) (g := gName 1) (tt := tYes) (by rfl) scAreD.nd (pi_list (pv 0)) (blkOk_by (N := ["value", "one"]) (sc := defScope sAreD) (by decide +kernel)) (fun _ _ _ _ _ => pg_name (i := 1) scAreD.nd rfl (Or.inl rfl)) (fun _ _ _ _ _ => pts_nil) (fun _ _ _ _ _ => pe_call GO hr (by rfl) gO kO bO .nil pass0 (pa_cons (pv 1) pa_nil))) pa_nil))))))), ?_⟩
      exact ⟨_, rfl, _, false, rfl, h, fun H' s => ⟨_, rfl, iteN rfl (k H' s)⟩⟩
    · have lb : bs.length ≤ 100000 := by rw [hb.1]; exact hl
      rcases hx with hx | hx
      · refine ⟨_, (pss_one (ps_ret (pe_and (pe_call GS hr (by rfl) gS kS bS .nil pass0 (pa_cons (pv 0) pa_nil)) (pe_and (pe_cmpR op_gt (pe_callB call_len_seq (by rfl) T.len PySem.boot_len (pa_cons (pv 0) pa_nil)) pe_int (nomark _)) (pe_one (pe_callB (cr_all rfl) (by rfl) T.all (by decide +kernel) (pa_cons
            (pe_lc (own := [("one", 1)]) (g := gName 1) (tt := tYes) (by rfl) scAreD.nd (pi_list (pv 0)) (blkOk_by (N := ["value", "one"]) (sc := defScope sAreD) (by decide +kernel)) (fun _ _ _ _ _ => pg_name (i := 1) scAreD.nd rfl (Or.inl rfl)) (fun _ _ _ _ _ => pts_nil) (fun _ _ _ _ _ => pe_call GO hr (by rfl) gO kO bO .nil pass0 (pa_cons (pv 1) pa_nil))) pa_nil))))))), ?_⟩
        refine ⟨_, rfl, _, true, rfl, SqX.seq (.inl hx), fun H1 s1 => ⟨_, rfl, ?_⟩⟩
        refine iteY rfl ?_
        refine ⟨_, rfl, a, xs, rfl, .inl (SqL.of (s1 _ _ hx)), _, _, rfl, rfl, _, rfl, ?_⟩
        have e0 : decide (((xs.length : Nat) : Int) > 0) = full xs := by
          unfold full
          by_cases q : 0 < xs.length
          · rw [decide_eq_true q, decide_eq_true (by omega)]
          · rw [decide_eq_false q, decide_eq_false (by omega)]
        refine ite2 (fun h1 => ?_) (fun h1 => ?_)
        · have h2 : full xs = true := by rw [← e0]; exact h1
          rw [h2] at k
          refine ⟨_, rfl, a, rfl, ⟨_, SqL.of (s1 _ _ hx)⟩, fun D nD => lc_list (K := K) (a := a) (xs := xs) (fun i G => Same H1 G ∧ G D = some (.lst ((bs.take i).map V.bl))) ⟨Same.new nD, upd_same⟩ (fun i G _ q => SqL.of (q.1 _ _ (s1 _ _ hx))) ?_ ?_⟩
          · rintro i x G hi ⟨sG, hD⟩
            have li := (List.getElem?_eq_some_iff.mp hi).1
            rw [← hb.1] at li
            have eb : bs[i]? = some bs[i] := by simp [li]
            refine ⟨rfl, _, rfl, x, bs[i], rfl, (hb.2 i x _ hi eb).same (s1.trans sG), _, hD, ?_, fun c u e => by rw [upd_ne (ne_of_none e nD)]; exact sG _ _ e, ?_⟩
            · rw [List.length_map, List.length_take]
              exact smallT (by omega)
            · rw [upd_same, List.take_succ, eb, List.map_append]
              rfl
          · rintro G ⟨sG, hD⟩
            rw [← hb.1, List.take_length] at hD
            exact ⟨D, bs, rfl, SqL.of hD, k G (s1.trans sG)⟩
        · have h2 : full xs = false := by rw [← e0]; simpa using h1
          rw [h2] at k
          exact k H1 s1
      · refine ⟨_, (pss_one (ps_ret (pe_and (pe_call GS hr (by rfl) gS kS bS .nil pass0 (pa_cons (pv 0) pa_nil)) (pe_and (pe_cmpR op_gt (pe_callB call_len_seq (by rfl) T.len PySem.boot_len (pa_cons (pv 0) pa_nil)) pe_int (nomark _)) (pe_one (pe_callB (cr_all rfl) (by rfl) T.all (by decide +kernel) (pa_cons
            (pe_lc (own := [("one", 1)]) (g := gName 1) (tt := tYes) (by rfl) scAreD.nd (pi_tup (pv 0)) (blkOk_by (N := ["value", "one"]) (sc := defScope sAreD) (by decide +kernel)) (fun _ _ _ _ _ => pg_name (i := 1) scAreD.nd rfl (Or.inl rfl)) (fun _ _ _ _ _ => pts_nil) (fun _ _ _ _ _ => pe_call GO hr (by rfl) gO kO bO .nil pass0 (pa_cons (pv 1) pa_nil))) pa_nil))))))), ?_⟩
        refine ⟨_, rfl, _, true, rfl, SqX.seq (.inr hx), fun H1 s1 => ⟨_, rfl, ?_⟩⟩
        refine iteY rfl ?_
        refine ⟨_, rfl, a, xs, rfl, .inr (SqT.of (s1 _ _ hx)), _, _, rfl, rfl, _, rfl, ?_⟩
        have e0 : decide (((xs.length : Nat) : Int) > 0) = full xs := by
          unfold full
          by_cases q : 0 < xs.length
          · rw [decide_eq_true q, decide_eq_true (by omega)]
          · rw [decide_eq_false q, decide_eq_false (by omega)]
        refine ite2 (fun h1 => ?_) (fun h1 => ?_)
        · have h2 : full xs = true := by rw [← e0]; exact h1
          rw [h2] at k
          refine ⟨_, rfl, a, rfl, ⟨_, SqT.of (s1 _ _ hx)⟩, fun D nD => lc_tup (K := K) (a := a) (xs := xs) (fun i G => Same H1 G ∧ G D = some (.lst ((bs.take i).map V.bl))) ⟨Same.new nD, upd_same⟩ (fun i G _ q => SqT.of (q.1 _ _ (s1 _ _ hx))) ?_ ?_⟩
          · rintro i x G hi ⟨sG, hD⟩
            have li := (List.getElem?_eq_some_iff.mp hi).1
            rw [← hb.1] at li
            have eb : bs[i]? = some bs[i] := by simp [li]
            refine ⟨rfl, _, rfl, x, bs[i], rfl, (hb.2 i x _ hi eb).same (s1.trans sG), _, hD, ?_, fun c u e => by rw [upd_ne (ne_of_none e nD)]; exact sG _ _ e, ?_⟩
            · rw [List.length_map, List.length_take]
              exact smallT (by omega)
            · rw [upd_same, List.take_succ, eb, List.map_append]
              rfl
          · rintro G ⟨sG, hD⟩
            rw [← hb.1, List.take_length] at hD
            exact ⟨D, bs, rfl, SqL.of hD, k G (s1.trans sG)⟩
        · have h2 : full xs = false := by rw [← e0]; simpa using h1
          rw [h2] at k
          exact k H1 s1
end
end Lay
set_option Elab.async false
set_option linter.all false
set_option maxRecDepth 100000
set_option maxHeartbeats 4000000
namespace Lay
open PySem PySem.Spec PyProof.Rows L2
/-! C(e, ..) where what is let out depends on the slots; isinstance of an exception that the suite holds, with a dict. -/
section
variable {X : Cx} {CX : CXT} {k : Nat} {f C : Addr} {fd : FuncData} {ps : List Str} {sp : Sp} {E : L2.St → XK} {x m : Str} {p pos : Pos} {e : Expr} {es : List Expr} {t : TA} {ds : List Value} {dvs : List V}
theorem run_makeS {pins : List (Addr × Obj)} {σ : L2.St} {H : Hp} {s : Shared} {Q : VK} {us : List Value} {vs : List V} (M : Mk X.K C f) (F : FnOk X.prog X.w X.K X.mg X.base CX k f fd ps sp) (hr : Room (k + 1) X.A) (hb : Binds X.K fd ps ds) (hd : Vals dvs ds)
    (hx : PassesAt CX X σ (E σ)) (I : Inv X pins σ H s) (r : Vals vs us)
    (h : ∀ x dx, H x = none → H dx = none → dx ≠ x → sp (.ref x :: (vs ++ dvs)) (upd (upd H dx (.own x)) x (.ins C dx [])) (fun v H2 => v = .non ∧ Q (.ref x) H2) (E σ)) :
    wpAny (model X.prog X.w) X.A (call (.ref C) us) (EP X pins σ Q) X.xe s := by
  have hq := h (s.heap.objs.size + 1) s.heap.objs.size (I.hok.fresh (Nat.le_succ _)) (I.hok.fresh (Nat.le_refl _)) (Nat.ne_of_lt (Nat.lt_succ_self _))
  have I2 := Inv.made (C := C) I
  have r2 : Vals (V.ref (s.heap.objs.size + 1) :: (vs ++ dvs)) (Value.ref (s.heap.objs.size + 1) :: (us ++ ds)) := .cons rfl (r.append hd)
  have hl : (Value.ref (s.heap.objs.size + 1) :: us ++ ds).length = ps.length := by
    have e := r2.length
    rw [F.len _ _ _ _ hq] at e
    exact e.symm
  refine wpAny_call (make_map (f := f) I.kIn M.makes M.init (beq_iff_eq.mp M.fn) (codeAny_mono (F.run _ X.stack _ _ ⟨Value.ref (s.heap.objs.size + 1) :: us, []⟩ (Value.ref (s.heap.objs.size + 1) :: (us ++ ds)) _ _ (E σ) (hr.make C us [])
    (I2.env0.make C us []) (hb _ (Value.ref (s.heap.objs.size + 1) :: us) I2.kIn hl) r2 hq) fun r s' hq' => ?_))
  cases r with
  | error e => exact hx pins _ _ e s' I2 hq'
  | ok fl =>
    cases fl with
    | ret u =>
      obtain ⟨v, H', I3, rv, ev, q3⟩ := I2.after hq'
      subst ev
      exact ⟨rv, ⟨V.ref (s.heap.objs.size + 1), H', I3, rfl, q3⟩⟩
    | next => exact False.elim hq'
    | brk => exact False.elim hq'
    | cont => exact False.elim hq'
def tMakeS (C : Addr) (sp : Sp) (dvs : List V) (E : L2.St → XK) (t : TA) : TE := fun σ H Q => t σ H fun vs H1 => ∀ x dx, H1 x = none → H1 dx = none → dx ≠ x → sp (.ref x :: (vs ++ dvs)) (upd (upd H1 dx (.own x)) x (.ins C dx [])) (fun v H2 => v = .non ∧ Q (.ref x) H2) (E σ)
theorem pe_makeS (M : Mk X.K C f) (F : FnOk X.prog X.w X.K X.mg X.base CX k f fd ps sp) (hr : Room (k + 1) X.A) (hg : Gl X x) (hm : X.mg x = some (.ref C)) (hb : Binds X.K fd ps ds) (hd : Vals dvs ds) (hx : ∀ σ, PassesAt CX X σ (E σ))
    (ha : PA X (e :: es) t) (hdb : (x == ("__debug__" : Str)) = false := by decide) (he : starEach (e :: es) X.env = (false, eval e X.env) :: starEach es X.env := by rfl) (hpl : (backTo pos (starEach es X.env)).any (·.1) = false := by rfl) :
    PE X (.Call (.Name x p) (e :: es) [] pos) (tMakeS C sp dvs E t) := by
  refine ⟨fun pins s σ H Q I h => ?_⟩
  refine wpAny_Call_Name_kw (ld_glob I hg hm ?_ hdb)
  refine PySem.W.callWith_K (h₀ := X.base) I.ok.mod.kin M.kp (thn (ha.run pos pins s σ H _ I h) fun us s1 ⟨vs, H1, I1, r, q⟩ => ⟨I1.kIn, ?_⟩) he hpl
  exact run_makeS M F hr hb hd (hx σ) I1 r q
/-- isinstance(e, c), e the exception that the suite holds, a dict with it -/
def rIsEX (K : PySem.W.Frag) (a : Addr) (cls : Value) (d : Option Addr) : List V → Hp → VK → Prop := fun xs H Q => ∃ (D dd : Addr) (fs : List (Str × V)) (c : V) (cv : Value) (b : Bool), xs = [.ref a, c] ∧ cls = .ref D ∧ d = some dd ∧ H dd = some (.xd fs) ∧ ExcC K D ∧ ClsV c cv ∧
  PySem.W.kitOne K (.ref D) cv = some b ∧ Q (.bl b) H
theorem call_isEX {a : Addr} {cls : Value} {d : Option Addr} {oe : Obj} {pn : List (Addr × Obj)} (hz : Zc cls d oe) (hf : ∃ vs, oe.data = .fields vs) : CallR (X.suite a ((a, oe) :: pn)) (.builtin "isinstance") (rIsEX X.K a cls d) := by
  intro pins s σ H xs us Q I r h
  obtain ⟨D, dd, fs, c, cv, b, rfl, ec, ed, hdd, C, k, e, q⟩ := h
  obtain ⟨u1, u2, rfl, r1, r2⟩ := vals2 r
  cases r1
  have e2 := k.eq r2
  subst e2 ec ed
  have hcl : (PySem.W.clsIn X.K D).isSome = true := by
    obtain ⟨cd, hc, _⟩ := PySem.W.any_some C.hd
    rw [hc]
    rfl
  obtain ⟨hget, _⟩ := I.pin (a, oe) (List.mem_append_left _ List.mem_cons_self)
  obtain ⟨vs, hv⟩ := hf
  have hx : ObjOk X.prog X.w H s.heap dd (.xd fs) := I.hok dd _ hdd
  obtain ⟨mA, hns, hrel⟩ := hx
  obtain ⟨od, ho, hl⟩ := lookIn_ns hns
  have J : PySem.W.InstAt s.heap a oe D (some od) := ⟨hget, hz.1, by unfold PySem.W.notCls; rw [hv] <;> rfl, by rw [hz.2]; exact ho⟩
  exact PySem.W.kia_one (PySem.W.kitx_exc hcl C.hg C.hk C.hs C.ha C.hn C.ht C.hm) I.kIn J e (fun z => nomatch z) fun tk => ⟨.bl b, H, I.kept (t' := tk) fun _ _ z => z, rfl, q⟩
end
section
variable {X : Cx}
/-- tuple(a list or a tuple) -/
theorem call_tupleX : CallR X (.type "tuple") (fun xs H Q => ∃ a ys, xs = [.ref a] ∧ SqX H a ys ∧ ∀ l H', Same H H' → H' l = some (.tup ys) → Q (.ref l) H') := by
  intro pins s σ H xs us Q I r h
  obtain ⟨a, ys, rfl, hs, q⟩ := h
  refine call_tuple_of pins s σ H _ us Q I r ⟨a, ys, rfl, ?_⟩
  rcases hs with hs | hs
  · exact .inl ⟨SqL.of hs, fun l nl => q l _ (Same.new nl) upd_same⟩
  · exact .inr ⟨SqT.of hs, q a H (Same.refl H) hs⟩
theorem call_listX : CallR X (.type "list") (fun xs H Q => ∃ a ys, xs = [.ref a] ∧ SqX H a ys ∧ ∀ l H', Same H H' → H l = none → H' l = some (.lst ys) → Q (.ref l) H') := by
  intro pins s σ H xs us Q I r h
  obtain ⟨a, ys, rfl, hs, q⟩ := h
  refine call_list_of pins s σ H _ us Q I r ⟨a, ys, rfl, ?_, fun l nl => q l _ (Same.new nl) nl upd_same⟩
  rcases hs with hs | hs
  · exact .inl (SqL.of hs)
  · exact .inr (SqT.of hs)
theorem op_catX : OpR X (binaryOp .Add) (fun x y H Q => ∃ a b xs ys, x = .ref a ∧ y = .ref b ∧ H a = some (.tup xs) ∧ H b = some (.tup ys) ∧ xs.length + ys.length ≤ 1000 ∧ ∀ p H', Same H H' → H' p = some (.tup (xs ++ ys)) → Q (.ref p) H') := by
  intro pins s σ H x y v u Q I rx ry h
  obtain ⟨a, b, xs, ys, rfl, rfl, ha, hb, hl, q⟩ := h
  refine op_catA pins s σ H _ _ v u Q I rx ry ⟨a, b, xs, ys, rfl, rfl, SqT.of ha, SqT.of hb, fits (by omega), fun e => ?_, fun _ e => ?_, fun _ _ p np => q p _ (Same.new np) upd_same⟩
  · subst e
    exact q b H (Same.refl H) hb
  · subst e
    exact q a H (Same.refl H) (by rw [List.append_nil]; exact ha)
theorem sl_tupX : SlR X (fun x lo hi H Q => ∃ a xs, x = .ref a ∧ H a = some (.tup xs) ∧ ∀ p H', Same H H' → H' p = some (.tup (cutV xs lo hi)) → Q (.ref p) H') := by
  intro pins s σ H x v vl vu lo hi sl Q I rx hs pl pu h
  obtain ⟨a, xs, rfl, ha, q⟩ := h
  refine sl_tupA pins s σ H _ v vl vu lo hi sl Q I rx hs pl pu ⟨a, xs, rfl, SqT.of ha, fun w => ?_, fun _ p np => q p _ (Same.new np) upd_same⟩
  refine q a H (Same.refl H) ?_
  unfold cutV
  rw [w.1, w.2]
  simpa using ha
end
/-- an error class with an __init__ of its own that keeps f -/
structure XC (K : PySem.W.Frag) (mg : Str → Option Value) (C fI : Addr) (x f : Str) : Prop where
  oex : OexC K C
  init : PySem.W.findIn K (.ref C) "__init__" = some (some (.ref fI))
  tI : PySem.W.typeIn K (.ref fI) = some (.type "function")
  gC : mg x = some (.ref C)
  no : PySem.W.findIn K (.ref C) f = some none
  isC : ExcC K C
  xf : XfC K C
def spInit (K : PySem.W.Frag) (C : Addr) (f : Str) : Sp := fun vs H Q _ => ∃ (a : Addr) (v : V), vs = [.ref a, v] ∧ OexC K C ∧ PySem.W.findIn K (.ref C) f = some none ∧ H a = some (exo a C none) ∧
  ∀ dx, H dx = none → dx ≠ a → Q .non (upd (upd H dx (exd dx [(f, v)])) a (exo a C (some dx)))
/-- what raising such a class comes to -/
theorem raised_at {K : PySem.W.Frag} {C a : Addr} {f : Str} {H : Hp} {v : V} {Q : XK} (T : OexC K C) (no : PySem.W.findIn K (.ref C) f = some none) (ha : H a = none)
    (k : ∀ H' d, Same H H' → H d = none → H' d = some (.xd [(f, v)]) → Q (.ref C) (some d) H') :
    spInit K C f [.ref a, v] (upd H a (exo a C none)) (fun u H2 => u = .non ∧ ∃ (d : Addr) (fs : List (Str × V)), H2 a = some (exo a C (some d)) ∧ H2 d = some (exd d fs) ∧ H d = none ∧ Q (.ref C) (some d) (upd (del H2 a) d (.xd fs))) (fun _ _ _ => False) := by
  refine ⟨a, v, rfl, T, no, upd_same, fun dx hd ne => ?_⟩
  have hd' : H dx = none := by
    rw [upd_ne ne] at hd
    exact hd
  refine ⟨rfl, dx, _, upd_same, by rw [upd_ne ne, upd_same], hd', k _ dx (fun b o e => ?_) hd' upd_same⟩
  have nb : b ≠ a := ne_of_none e ha
  have nd : b ≠ dx := ne_of_none e hd'
  rw [upd_ne nd, del_ne nb, upd_ne nb, upd_ne nd, upd_ne nb]
  exact e
/-- what is raised -/
def Raised (D : Addr) (H : Hp) (v : V) (E : XK) : Prop := ∀ H' d, Same H H' → H d = none → H' d = some (.xd [("part", v)]) → E (.ref D) (some d) H'
theorem Raised.same {D : Addr} {H H' : Hp} {v : V} {E : XK} (s : Same H H') (h : Raised D H v E) : Raised D H' v E := fun G d s2 n e => h G d (s.trans s2) (s.free n) e
/-- what the class Row says of itself -/
structure RowC (K : PySem.W.Frag) (C : Addr) : Prop where
  cl : Cls K C
  tests : NoAttr K C "tests"
  deeds : NoAttr K C "deeds"
def rowF (t d : Addr) : List (Str × V) := putF "deeds" (.ref d) (putF "tests" (.ref t) [])
def spRowI (K : PySem.W.Frag) (C D : Addr) : Sp := fun vs H Q E => ∃ (p dx : Addr) (x y : V) (rt rd : Bool), vs = [.ref p, x, y] ∧ H p = some (.ins C dx []) ∧ AnsV progT yes K H x rt ∧ AnsV progD full K H y rd ∧
  (rt = true → rd = true → ∀ H' t d ys, Kept p H H' → H' p = some (.ins C dx (rowF t d)) → H' d = some (.tup ys) → 0 < ys.length → Q .non H') ∧ (rt = false → Raised D H (.str "tests") E) ∧ (rt = true → rd = false → Raised D H (.str "deeds") E)
abbrev sIR : Stmt := inClass (top 3) 0
abbrev sRowI : Stmt := inClass (top 45) 0
section
variable {P : Program} {w : World} {K : PySem.W.Frag} {mg : Str → Option Value} {base : Heap}
theorem scIR : FnScope ["self", "part"] ["self", "part"] (defScope sIR) := ⟨rfl, rfl, rfl, by decide +kernel, rfl, by decide +kernel, by decide +kernel⟩
theorem ok_iR {f C : Addr} {fd : FuncData} (F : Fun K "__init__" "InvalidRow.__init__" sIR f fd) : FnOk P w K mg base CX0 1 f fd ["self", "part"] (spInit K C "part") := by
  refine F.ok scIR (fun vs H Q E h => ?_) (fun cdv A outer s H vs Q E hr h => ?_)
  · obtain ⟨a, v, rfl, _⟩ := h
    rfl
  · obtain ⟨a, v, rfl, T, no, ha, k⟩ := h
    exact ⟨_, pss_one (ps_ost (pv 0) (pv 1)), _, rfl, _, rfl, a, C, rfl, T, no, .inl ⟨ha, fun dx h1 h2 => k dx h1 h2⟩⟩
theorem scRowI : FnScope ["self", "tests", "deeds"] ["self", "tests", "deeds"] (defScope sRowI) := ⟨rfl, rfl, rfl, by decide +kernel, rfl, by decide +kernel, by decide +kernel⟩
theorem ok_rowI {f fT fD fI C D : Addr} {fd fdT fdD fdI : FuncData} {dvs : List V} (F : FunD K "__init__" "Row.__init__" (defArgs sRowI) (defBody sRowI) (defScope sRowI) dvs [] f fd) (T : TxtK mg) (Z : RowC K C)
    (GT : FnOk P w K mg base CX0 2 fT fdT ["value"] (spAre progT yes K)) (gT : mg "are_tests" = some (.ref fT)) (kT : PySem.W.keepIn K (.ref fT) = true) (bT : Binds K fdT ["value"] [])
    (GD : FnOk P w K mg base CX0 2 fD fdD ["value"] (spAre progD full K)) (gD : mg "are_deeds" = some (.ref fD)) (kD : PySem.W.keepIn K (.ref fD) = true) (bD : Binds K fdD ["value"] [])
    (Y : XC K mg D fI "InvalidRow" "part") (GI : FnOk P w K mg base CX0 1 fI fdI ["self", "part"] (spInit K D "part")) (bI : Binds K fdI ["self", "part"] []) : FnOk P w K mg base (L2.CX P w) 3 f fd ["self", "tests", "deeds"] (spRowI K C D) := by
  refine F.ok scRowI (fun vs H Q E h => ?_) (fun cdv A outer s H vs Q E hr h => ?_)
  · obtain ⟨p, dx, x, y, rt, rd, rfl, _⟩ := h
    rfl
  · obtain ⟨p, dx, x, y, rt, rd, rfl, hp, ht, hd, k1, k2, k3⟩ := h
    refine ⟨_, (pss_cons (ps_if (pt_not (pt_val (pe_call GT hr (by rfl) gT kT bT .nil pass0 (pa_cons (pv 1) pa_nil))))
      (pss_one (ps_raise rfl (takes_of rfl rfl rfl rfl) (pmk_oex Y.oex Y.init Y.tI GI hr bI .nil pass0 (by rfl) Y.gC (pa_cons pe_str pa_nil))))
      pss_nil)
    (pss_cons (ps_if (pt_not (pt_val (pe_call GD hr (by rfl) gD kD bD .nil pass0 (pa_cons (pv 2) pa_nil))))
      (pss_one (ps_raise rfl (takes_of rfl rfl rfl rfl) (pmk_oex Y.oex Y.init Y.tI GI hr bI .nil pass0 (by rfl) Y.gC (pa_cons pe_str pa_nil))))
      pss_nil)
    (pss_cons (ps_fld (pv 0) (pe_callTy call_tupleX (by rfl) T.tuple (by decide +kernel) (pa_cons (pv 1) pa_nil)) rfl)
    (pss_one (ps_fld (pv 0) (pe_callTy call_tupleX (by rfl) T.tuple (by decide +kernel) (pa_cons (pv 2) pa_nil)) rfl))))), ?_⟩
    refine ⟨_, rfl, x, rt, rfl, ht, fun H1 s1 => ⟨_, rfl, ?_⟩⟩
    cases rt with
    | false =>
      exact iteY rfl ⟨by show 1 ≤ 1000; decide, fun a ha => raised_at Y.oex Y.no ha (k2 rfl |>.same s1)⟩
    | true =>
      refine iteN rfl ⟨_, rfl, y, rd, rfl, hd.same s1, fun H2 s2 => ⟨_, rfl, ?_⟩⟩
      cases rd with
      | false =>
        exact iteY rfl ⟨by show 1 ≤ 1000; decide, fun a ha => raised_at Y.oex Y.no ha (k3 rfl rfl |>.same (s1.trans s2))⟩
      | true =>
        refine iteN rfl ?_
        have s12 := s1.trans s2
        rcases ht with ⟨_, z⟩ | ⟨a, xs, bs, rfl, hx, _⟩
        · cases z
        rcases hd with ⟨_, z⟩ | ⟨c, ys, ds, rfl, hy, _, _, ey⟩
        · cases z
        have n0 : 0 < ys.length := of_decide_eq_true (Bool.and_eq_true_iff.mp ey.symm).1
        refine ⟨_, rfl, a, xs, rfl, hx.same s12, fun t H3 s3 h3 => ⟨_, rfl, p, C, dx, _, rfl, s3 _ _ (s12 _ _ hp), Z.cl, Z.tests, (by show 0 < 1000; decide), ?_⟩⟩
        have ncp : c ≠ p := by
          rcases hy with hy | hy
          · exact ne_of hy hp (fun z => nomatch z)
          · exact ne_of hy hp (fun z => nomatch z)
        have k4 : Kept p H (upd H3 p (.ins C dx (putF "tests" (.ref t) []))) := (Kept.of_same (s12.trans s3)).trans Kept.box
        have hy4 : SqX (upd H3 p (.ins C dx (putF "tests" (.ref t) []))) c ys := by
          rcases hy with hy | hy
          · exact .inl (k4 _ _ ncp hy)
          · exact .inr (k4 _ _ ncp hy)
        refine ⟨_, rfl, c, ys, rfl, hy4, fun d H5 s5 h5 => ⟨_, rfl, p, C, dx, _, rfl, s5 _ _ upd_same, Z.cl, Z.deeds, ?_, ?_⟩⟩
        · exact Nat.lt_of_le_of_lt (length_putF _ _ []) (by show 0 + 1 < 1000; decide)
        · have ndp : d ≠ p := ne_of h5 (s5 _ _ upd_same) (fun z => nomatch z)
          exact k1 rfl rfl _ t d ys ((k4.trans (Kept.of_same s5)).trans Kept.box) upd_same (by rw [upd_ne ndp]; exact h5) n0
end
end Lay
set_option Elab.async false
set_option linter.all false
set_option maxRecDepth 100000
set_option maxHeartbeats 4000000
namespace Lay
open PySem PySem.Spec PyProof.Rows L2
section
variable {X : Cx}
end
section
variable {X : Cx} {K : PySem.W.Frag} {e : Expr} {ta : TE} {f : Str} {pos : Pos}
theorem pe_fldK (hK : X.K = K) (he : PE X e ta) (hb : attributeBase e f X.env (eval e X.env) = eval e X.env) : PE X (.Attribute e f pos) (tFld K ta f) := by
  subst hK
  exact pe_fld he hb
end
section
variable {X : Cx}
/-- xs != [], any xs -/
theorem op_neNil (hu : X.A.units + 64 < cLine) : OpR X (compareOp .NotEq) (fun x y H Q => ∃ a b xs, x = .ref a ∧ y = .ref b ∧ SqL X.K H a xs ∧ H b = some (.lst []) ∧ Q (.bl (!xs.isEmpty)) H) := by
  intro pins s σ H x y v u Q I rx ry h
  obtain ⟨a, b, xs, rfl, rfl, ha, hb, q⟩ := h
  cases xs with
  | nil => exact op_neD hu pins s σ H _ _ v u Q I rx ry ⟨.list [], .list [], .lst ha .nil, .lst (SqL.of hb) .nil, rfl, rfl, q⟩
  | cons z zs =>
    cases rx
    cases ry
    obtain ⟨its, r, p1, _⟩ := I.list ha
    obtain ⟨its2, r2, p2, _⟩ := I.list (SqL.of hb)
    cases r2
    have hsz : (its.toArray.size != ([] : List Value).toArray.size) = true := by
      cases r
      rfl
    exact (SeqAt.RcNeAt.lists_lengths p1.isList p2.isList hsz (by omega)) _ _ _ _ ⟨.bl true, H, I, rfl, q⟩
end
theorem str_at {zs : List Str} {i : Nat} {x : V} (h : (zs.map V.str)[i]? = some x) : ∃ z, zs[i]? = some z ∧ x = V.str z := by
  rw [List.getElem?_map] at h
  cases q : zs[i]? with
  | none => rw [q] at h; cases h
  | some z => rw [q] at h; exact ⟨z, rfl, (Option.some.inj h).symm⟩
end Lay
set_option Elab.async false
set_option linter.all false
set_option maxRecDepth 100000
set_option maxHeartbeats 4000000
namespace Lay
open PySem L2
/-- isinstance(x, Row) -/
def IsP (K : PySem.W.Frag) (C : Addr) (H : Hp) (x : V) (b : Bool) : Prop := ∃ t, TyX K H x t ∧ PySem.W.kitOne K t (.ref C) = some b
theorem IsP.same {K : PySem.W.Frag} {C : Addr} {H H' : Hp} {x : V} {b : Bool} (s : Same H H') (h : IsP K C H x b) : IsP K C H' x b := by
  obtain ⟨t, h1, h2⟩ := h
  exact ⟨t, TyX.same s h1, h2⟩
theorem SqT.same {K : PySem.W.Frag} {H H' : Hp} {a : Addr} {xs : List V} (e : Same H H') (h : SqT K H a xs) : SqT K H' a xs := by
  rcases h with (h | ⟨o, h⟩) | h
  · exact .inl (.inl (e _ _ h))
  · exact .inl (.inr ⟨o, e _ _ h⟩)
  · exact .inr h
theorem SqL.same {K : PySem.W.Frag} {H H' : Hp} {a : Addr} {xs : List V} (e : Same H H') (h : SqL K H a xs) : SqL K H' a xs := by
  rcases h with (h | ⟨o, h⟩) | h
  · exact .inl (.inl (e _ _ h))
  · exact .inl (.inr ⟨o, e _ _ h⟩)
  · exact .inr h
/-- a tuple that is tracked, or a written one -/
def TupG (K : PySem.W.Frag) (H : Hp) (a : Addr) (xs : List V) : Prop := H a = some (.tup xs) ∨ ∃ (o : Obj) (its : Array Value) (n : Nat), K.lookup a = some o ∧ o.cls = .type "tuple" ∧ o.data = .seq its n ∧ its.size ≤ sizeLine ∧ Vals xs its.toList
theorem TupG.sqT {K : PySem.W.Frag} {H : Hp} {a : Addr} {xs : List V} (h : TupG K H a xs) : SqT K H a xs := by
  rcases h with h | h
  · exact SqT.of h
  · exact .inr h
theorem TupG.same {K : PySem.W.Frag} {H H' : Hp} {a : Addr} {xs : List V} (s : Same H H') (h : TupG K H a xs) : TupG K H' a xs := h.imp (s _ _) id
theorem TupG.put_ins {K : PySem.W.Frag} {H : Hp} {a p C dx : Addr} {fs : List (Str × V)} {o : HO} {xs : List V} (h : TupG K H a xs) (hp : H p = some (.ins C dx fs)) : TupG K (upd H p o) a xs := by
  rcases h with h | h
  · exact .inl (by rw [upd_ne (ne_of h hp (fun z => nomatch z))]; exact h)
  · exact .inr h
theorem TupG.seq {K : PySem.W.Frag} {H : Hp} {a : Addr} {xs : List V} (h : TupG K H a xs) : IsSeq K H (.ref a) true := by
  rcases h with h | ⟨o, its, n, h1, h2, _⟩
  · exact SqX.seq (.inr h)
  · exact ⟨_, .kTuple h1 h2, kitAny_lt (b := false) (c := true) (kit_ty (by decide +kernel)) (kit_ty (by decide +kernel))⟩
/-- a list, or any tuple (the written ones, too) -/
def SqG (K : PySem.W.Frag) (H : Hp) (a : Addr) (xs : List V) : Prop := H a = some (.lst xs) ∨ TupG K H a xs
theorem SqG.same {K : PySem.W.Frag} {H H' : Hp} {a : Addr} {xs : List V} (s : Same H H') (h : SqG K H a xs) : SqG K H' a xs := h.imp (s _ _) fun q => q.same s
theorem SqG.seq {K : PySem.W.Frag} {H : Hp} {a : Addr} {xs : List V} (h : SqG K H a xs) : IsSeq K H (.ref a) true := by
  rcases h with h | h
  · exact SqX.seq (.inl h)
  · exact h.seq
theorem SqG.of {K : PySem.W.Frag} {H : Hp} {a : Addr} {xs : List V} (h : SqX H a xs) : SqG K H a xs := h.imp id .inl
def IsPs (K : PySem.W.Frag) (C : Addr) (H : Hp) (xs : List V) (bs : List Bool) : Prop := bs.length = xs.length ∧ ∀ (i : Nat) (x : V) (b : Bool), xs[i]? = some x → bs[i]? = some b → IsP K C H x b
theorem IsPs.same {K : PySem.W.Frag} {C : Addr} {H H' : Hp} {xs : List V} {bs : List Bool} (s : Same H H') (h : IsPs K C H xs bs) : IsPs K C H' xs bs := ⟨h.1, fun i x b h1 h2 => (h.2 i x b h1 h2).same s⟩
/-- whether a value is a sequence of rows -/
def AnsR (K : PySem.W.Frag) (C : Addr) (H : Hp) (x : V) (r : Bool) : Prop := (IsSeq K H x false ∧ r = false) ∨ ∃ a xs bs, x = .ref a ∧ SqG K H a xs ∧ xs.length ≤ 100000 ∧ IsPs K C H xs bs ∧ r = bs.all id
theorem AnsR.same {K : PySem.W.Frag} {C : Addr} {H H' : Hp} {x : V} {r : Bool} (s : Same H H') (h : AnsR K C H x r) : AnsR K C H' x r := by
  rcases h with ⟨h, e⟩ | ⟨a, xs, bs, e, h1, h2, h3, h4⟩
  · exact .inl ⟨h.same s, e⟩
  · exact .inr ⟨a, xs, bs, e, h1.same s, h2, h3.same s, h4⟩
def spAreR (K : PySem.W.Frag) (C : Addr) : Sp := fun vs H Q _ => ∃ x r, vs = [x] ∧ AnsR K C H x r ∧ ∀ H', Same H H' → Q (.bl r) H'
/-- whether a value is a bool -/
def SrtV (K : PySem.W.Frag) (H : Hp) (y : V) (sb : Bool) : Prop := (∃ z, y = .bl z ∧ sb = true) ∨ (sb = false ∧ IsT K H y "bool" false)
theorem SrtV.same {K : PySem.W.Frag} {H H' : Hp} {y : V} {sb : Bool} (s : Same H H') (h : SrtV K H y sb) : SrtV K H' y sb := h.imp id fun q => ⟨q.1, q.2.same s⟩
theorem SrtV.isT {K : PySem.W.Frag} {H : Hp} {y : V} {sb : Bool} (h : SrtV K H y sb) : IsT K H y "bool" sb := by
  rcases h with ⟨z, rfl, rfl⟩ | ⟨rfl, h⟩
  · exact ⟨_, .base (.bl z), kit_ty (by decide +kernel)⟩
  · exact h
abbrev sAreR : Stmt := top 41
abbrev sToolI : Stmt := inClass (top 46) 0
section
variable {P : Program} {w : World} {K : PySem.W.Frag} {mg : Str → Option Value} {base : Heap}
theorem scAreR : FnScope ["value", "one"] ["value"] (defScope sAreR) := ⟨rfl, rfl, rfl, by decide +kernel, rfl, by decide +kernel, by decide +kernel⟩
theorem ok_areR {f fS C : Addr} {fd fdS : FuncData} (F : Fun K "are_rows" "are_rows" sAreR f fd) (T : TxtK mg) (GS : FnOk P w K mg base CX0 1 fS fdS ["value"] (spSeq K)) (gS : mg "is_sequence" = some (.ref fS)) (kS : PySem.W.keepIn K (.ref fS) = true) (bS : Binds K fdS ["value"] [])
    (gC : mg "Row" = some (.ref C)) : FnOk P w K mg base CX0 2 f fd ["value"] (spAreR K C) := by
  refine F.ok scAreR (fun vs H Q E h => ?_) (fun cdv A outer s H vs Q E hr h => ?_)
  · obtain ⟨x, r, rfl, _⟩ := h
    rfl
  · obtain ⟨x, r, rfl, h, k⟩ := h
    rcases h with ⟨h, rfl⟩ | ⟨a, xs, bs, rfl, hx, hl, hb, rfl⟩
    · refine ⟨_, (pss_one (ps_ret (pe_and (pe_call GS hr (by rfl) gS kS bS .nil pass0 (pa_cons (pv 0) pa_nil)) (pe_one (pe_callB (cr_all rfl) (by rfl) T.all (by decide +kernel) (pa_cons
            (pe_lc (own := [("one", 1)]) (g := gName 1) (tt := tYes) (by rfl) scAreR.nd (pi_list (pv 0)) (blkOk_by (N := ["value", "one"]) (sc := defScope sAreR) (by decide +kernel)) (fun _ _ _ _ _ => pg_name (i := 1) scAreR.nd rfl (Or.inl rfl)) (fun _ _ _ _ _ => pts_nil) (fun _ _ _ _ _ => pe_callB (call_isiK (K := K) rfl) (by rfl) T.isinstance (by decide +kernel) (pa_cons (pv 1) (pa_cons (pe_glob (v := .ref C) (by rfl) gC rfl) pa_nil)))) pa_nil)))))), ?_⟩
      exact ⟨_, rfl, _, false, rfl, h, fun H' s => ⟨_, rfl, iteN rfl (k H' s)⟩⟩
    · have lb : bs.length ≤ 100000 := by rw [hb.1]; exact hl
      rcases hx with hx | hx
      · refine ⟨_, (pss_one (ps_ret (pe_and (pe_call GS hr (by rfl) gS kS bS .nil pass0 (pa_cons (pv 0) pa_nil)) (pe_one (pe_callB (cr_all rfl) (by rfl) T.all (by decide +kernel) (pa_cons
            (pe_lc (own := [("one", 1)]) (g := gName 1) (tt := tYes) (by rfl) scAreR.nd (pi_list (pv 0)) (blkOk_by (N := ["value", "one"]) (sc := defScope sAreR) (by decide +kernel)) (fun _ _ _ _ _ => pg_name (i := 1) scAreR.nd rfl (Or.inl rfl)) (fun _ _ _ _ _ => pts_nil) (fun _ _ _ _ _ => pe_callB (call_isiK (K := K) rfl) (by rfl) T.isinstance (by decide +kernel) (pa_cons (pv 1) (pa_cons (pe_glob (v := .ref C) (by rfl) gC rfl) pa_nil)))) pa_nil)))))), ?_⟩
        refine ⟨_, rfl, _, true, rfl, SqG.seq (.inl hx), fun H1 s1 => ⟨_, rfl, iteY rfl ?_⟩⟩
        have hx1 : SqL K H1 a xs := SqL.of (s1 _ _ hx)
        refine ⟨_, rfl, a, rfl, ⟨_, hx1⟩, fun D nD => lc_list (K := K) (a := a) (xs := xs) (fun i G => Same H1 G ∧ G D = some (.lst ((bs.take i).map V.bl))) ⟨Same.new nD, upd_same⟩ (fun i G _ q => SqL.same q.1 hx1) ?_ ?_⟩
        · rintro i x G hi ⟨sG, hD⟩
          have li := (List.getElem?_eq_some_iff.mp hi).1
          rw [← hb.1] at li
          have eb : bs[i]? = some bs[i] := by simp [li]
          obtain ⟨t, ty, et⟩ := (hb.2 i x _ hi eb).same (s1.trans sG)
          refine ⟨rfl, _, rfl, x, _, t, _, bs[i], rfl, .own _, ty, et, _, hD, ?_, fun c u e => by rw [upd_ne (ne_of_none e nD)]; exact sG _ _ e, ?_⟩
          · rw [List.length_map, List.length_take]
            exact smallT (by omega)
          · rw [upd_same, List.take_succ, eb, List.map_append]
            rfl
        · rintro G ⟨sG, hD⟩
          rw [← hb.1, List.take_length] at hD
          exact ⟨D, bs, rfl, SqL.of hD, k G (s1.trans sG)⟩
      · refine ⟨_, (pss_one (ps_ret (pe_and (pe_call GS hr (by rfl) gS kS bS .nil pass0 (pa_cons (pv 0) pa_nil)) (pe_one (pe_callB (cr_all rfl) (by rfl) T.all (by decide +kernel) (pa_cons
            (pe_lc (own := [("one", 1)]) (g := gName 1) (tt := tYes) (by rfl) scAreR.nd (pi_tup (pv 0)) (blkOk_by (N := ["value", "one"]) (sc := defScope sAreR) (by decide +kernel)) (fun _ _ _ _ _ => pg_name (i := 1) scAreR.nd rfl (Or.inl rfl)) (fun _ _ _ _ _ => pts_nil) (fun _ _ _ _ _ => pe_callB (call_isiK (K := K) rfl) (by rfl) T.isinstance (by decide +kernel) (pa_cons (pv 1) (pa_cons (pe_glob (v := .ref C) (by rfl) gC rfl) pa_nil)))) pa_nil)))))), ?_⟩
        refine ⟨_, rfl, _, true, rfl, SqG.seq (.inr hx), fun H1 s1 => ⟨_, rfl, iteY rfl ?_⟩⟩
        have hx1 : SqT K H1 a xs := SqT.same s1 hx.sqT
        refine ⟨_, rfl, a, rfl, ⟨_, hx1⟩, fun D nD => lc_tup (K := K) (a := a) (xs := xs) (fun i G => Same H1 G ∧ G D = some (.lst ((bs.take i).map V.bl))) ⟨Same.new nD, upd_same⟩ (fun i G _ q => SqT.same q.1 hx1) ?_ ?_⟩
        · rintro i x G hi ⟨sG, hD⟩
          have li := (List.getElem?_eq_some_iff.mp hi).1
          rw [← hb.1] at li
          have eb : bs[i]? = some bs[i] := by simp [li]
          obtain ⟨t, ty, et⟩ := (hb.2 i x _ hi eb).same (s1.trans sG)
          refine ⟨rfl, _, rfl, x, _, t, _, bs[i], rfl, .own _, ty, et, _, hD, ?_, fun c u e => by rw [upd_ne (ne_of_none e nD)]; exact sG _ _ e, ?_⟩
          · rw [List.length_map, List.length_take]
            exact smallT (by omega)
          · rw [upd_same, List.take_succ, eb, List.map_append]
            rfl
        · rintro G ⟨sG, hD⟩
          rw [← hb.1, List.take_length] at hD
          exact ⟨D, bs, rfl, SqL.of hD, k G (s1.trans sG)⟩
end
section
variable {X : Cx}
theorem call_tupleG : CallR X (.type "tuple") (fun xs H Q => ∃ a ys, xs = [.ref a] ∧ SqG X.K H a ys ∧ ∀ l H', Same H H' → TupG X.K H' l ys → Q (.ref l) H') := by
  intro pins s σ H xs us Q I r h
  obtain ⟨a, ys, rfl, hs, q⟩ := h
  refine call_tuple_of pins s σ H _ us Q I r ⟨a, ys, rfl, ?_⟩
  rcases hs with hs | hs
  · exact .inl ⟨SqL.of hs, fun l nl => q l _ (Same.new nl) (.inl upd_same)⟩
  · exact .inr ⟨hs.sqT, q a H (Same.refl H) hs⟩
end
structure ToolC (K : PySem.W.Frag) (C : Addr) : Prop where
  cl : Cls K C
  rows : NoAttr K C "rows"
  sorts : NoAttr K C "sorts"
def toolF (t : Addr) (y : V) : List (Str × V) := putF "sorts" y (putF "rows" (.ref t) [])
def spToolI (K : PySem.W.Frag) (C CT D : Addr) : Sp := fun vs H Q E => ∃ (p dx : Addr) (x y : V) (rr sb : Bool), vs = [.ref p, x, y] ∧ H p = some (.ins CT dx []) ∧ AnsR K C H x rr ∧ SrtV K H y sb ∧
  (rr = true → sb = true → ∀ H' t a xs, x = .ref a → SqG K H a xs → TupG K H' t xs → Kept p H H' → H' p = some (.ins CT dx (toolF t y)) → Q .non H') ∧ (rr = false → Raised D H (.str "rows") E) ∧ (rr = true → sb = false → Raised D H (.str "sorts") E)
section
variable {P : Program} {w : World} {K : PySem.W.Frag} {mg : Str → Option Value} {base : Heap}
theorem scToolI : FnScope ["self", "rows", "sorts"] ["self", "rows", "sorts"] (defScope sToolI) := ⟨rfl, rfl, rfl, by decide +kernel, rfl, by decide +kernel, by decide +kernel⟩
theorem ok_toolI {f fR fI C CT D : Addr} {fd fdR fdI : FuncData} {dvs : List V} (F : FunD K "__init__" "Tool.__init__" (defArgs sToolI) (defBody sToolI) (defScope sToolI) dvs [] f fd) (T : TxtK mg) (hbool : mg "bool" = none) (Z : ToolC K CT)
    (GR : FnOk P w K mg base CX0 2 fR fdR ["value"] (spAreR K C)) (gR : mg "are_rows" = some (.ref fR)) (kR : PySem.W.keepIn K (.ref fR) = true) (bR : Binds K fdR ["value"] [])
    (Y : XC K mg D fI "InvalidRow" "part") (GI : FnOk P w K mg base CX0 1 fI fdI ["self", "part"] (spInit K D "part")) (bI : Binds K fdI ["self", "part"] []) : FnOk P w K mg base (L2.CX P w) 3 f fd ["self", "rows", "sorts"] (spToolI K C CT D) := by
  refine F.ok scToolI (fun vs H Q E h => ?_) (fun cdv A outer s H vs Q E hr h => ?_)
  · obtain ⟨p, dx, x, y, rr, sb, rfl, _⟩ := h
    rfl
  · obtain ⟨p, dx, x, y, rr, sb, rfl, hp, hx, hy, k1, k2, k3⟩ := h
    refine ⟨_, (pss_cons (ps_if (pt_not (pt_val (pe_call GR hr (by rfl) gR kR bR .nil pass0 (pa_cons (pv 1) pa_nil))))
      (pss_one (ps_raise rfl (takes_of rfl rfl rfl rfl) (pmk_oex Y.oex Y.init Y.tI GI hr bI .nil pass0 (by rfl) Y.gC (pa_cons pe_str pa_nil))))
      pss_nil)
    (pss_cons (ps_if (pt_not (pt_val (pe_callB call_isi (by rfl) T.isinstance (by decide +kernel) (pa_cons (pv 2) (pa_cons (pe_bltn (v := .ty "bool") (by rfl) hbool (by decide +kernel) rfl) pa_nil)))))
      (pss_one (ps_raise rfl (takes_of rfl rfl rfl rfl) (pmk_oex Y.oex Y.init Y.tI GI hr bI .nil pass0 (by rfl) Y.gC (pa_cons pe_str pa_nil))))
      pss_nil)
    (pss_cons (ps_fld (pv 0) (pe_callTy call_tupleG (by rfl) T.tuple (by decide +kernel) (pa_cons (pv 1) pa_nil)) rfl)
    (pss_one (ps_fld (pv 0) (pv 2) rfl))))), ?_⟩
    refine ⟨_, rfl, x, rr, rfl, hx, fun H1 s1 => ⟨_, rfl, ?_⟩⟩
    cases rr with
    | false => exact iteY rfl ⟨by show 1 ≤ 1000; decide, fun a ha => raised_at Y.oex Y.no ha (k2 rfl |>.same s1)⟩
    | true =>
      obtain ⟨t, ty, et⟩ := (hy.isT).same s1
      refine iteN rfl ⟨_, rfl, _, _, t, _, sb, rfl, .ty _, ty, et, _, rfl, ?_⟩
      cases sb with
      | false => exact iteY rfl ⟨by show 1 ≤ 1000; decide, fun a ha => raised_at Y.oex Y.no ha (k3 rfl rfl |>.same s1)⟩
      | true =>
        refine iteN rfl ?_
        rcases hx with ⟨_, z⟩ | ⟨a, xs, bs, rfl, hs, _⟩
        · cases z
        refine ⟨_, rfl, a, xs, rfl, hs.same s1, fun l H2 s2 hl2 => ⟨_, rfl, p, CT, dx, _, rfl, s2 _ _ (s1 _ _ hp), Z.cl, Z.rows, (by show 0 < 1000; decide), ?_⟩⟩
        refine ⟨_, rfl, _, rfl, p, CT, dx, _, rfl, upd_same, Z.cl, Z.sorts, ?_, ?_⟩
        · exact Nat.lt_of_le_of_lt (length_putF _ _ []) (by show 0 + 1 < 1000; decide)
        · refine k1 rfl rfl _ l a xs rfl hs ?_ (((Kept.of_same (s1.trans s2)).trans Kept.box).trans Kept.box) upd_same
          exact (hl2.put_ins (s2 _ _ (s1 _ _ hp))).put_ins upd_same
end
end Lay
set_option Elab.async false
set_option linter.all false
set_option maxRecDepth 100000
set_option maxHeartbeats 4000000
namespace Lay
open PySem L2
/-- what a row is made of -/
structure RD where
  ws : List Str
  us : List Str
structure RD.Ok (r : RD) : Prop where
  w : ∀ z ∈ r.ws, z.length ≤ 20
  u : ∀ z ∈ r.us, z.length ≤ 20
  lw : r.ws.length ≤ 100000
  lu : r.us.length ≤ 100000
  nu : 0 < r.us.length
  k : ∀ z ∈ r.ws, PyData.strOk z = true
/-- at p a row of r -/
def RowAt (C : Addr) (H : Hp) (p : Addr) (r : RD) : Prop := ∃ dx t d, H p = some (.ins C dx (rowF t d)) ∧ H t = some (.tup (r.ws.map V.str)) ∧ H d = some (.tup (r.us.map V.str))
theorem RowAt.same {C : Addr} {H H' : Hp} {p : Addr} {r : RD} (s : Same H H') (h : RowAt C H p r) : RowAt C H' p r := by
  obtain ⟨dx, t, d, h1, h2, h3⟩ := h
  exact ⟨dx, t, d, s _ _ h1, s _ _ h2, s _ _ h3⟩
def RowsAt (C : Addr) (H : Hp) (xs : List V) (rs : List RD) : Prop := xs.length = rs.length ∧ (∀ r ∈ rs, r.Ok) ∧ ∀ (i : Nat) (x : V) (r : RD), xs[i]? = some x → rs[i]? = some r → ∃ q, x = .ref q ∧ RowAt C H q r
theorem RowsAt.same {C : Addr} {H H' : Hp} {xs : List V} {rs : List RD} (s : Same H H') (h : RowsAt C H xs rs) : RowsAt C H' xs rs := ⟨h.1, h.2.1, fun i x r h1 h2 => by
  obtain ⟨q, e, hq⟩ := h.2.2 i x r h1 h2
  exact ⟨q, e, hq.same s⟩⟩
end Lay
set_option Elab.async false
set_option linter.all false
set_option maxRecDepth 100000
set_option maxHeartbeats 4000000
namespace Lay
open PySem L2
structure ClsI (K : PySem.W.Frag) (C : Addr) : Prop where
  cl : Cls K C
  ha : PySem.W.findIn K (.ref C) "__class__" = some (some (.builtin "object.__class__"))
  hn : PySem.W.specialIn K (.builtin "object.__class__") "__get__" = some (some (.builtin "getset_descriptor.__get__"))
  htk : PySem.W.takesIn K (.builtin "object.__class__") = some true
  hm : PySem.W.mroIn K C (.type "object") = some true
theorem ClsI.at {K : PySem.W.Frag} {C a dx : Addr} {H : Hp} {fs : List (Str × V)} (c : ClsI K C) (h : H a = some (.ins C dx fs)) : TyX K H (.ref a) (.ref C) := .base (.ins h c.cl c.ha c.hn c.htk c.hm)
theorem kit_same {K : PySem.W.Frag} {C : Addr} : PySem.W.kitOne K (.ref C) (.ref C) = some true := by
  unfold PySem.W.kitOne
  rw [if_pos (by simp)]
theorem RowAt.isP {K : PySem.W.Frag} {C p : Addr} {H : Hp} {r : RD} (c : ClsI K C) (h : RowAt C H p r) : IsP K C H (.ref p) true := by
  obtain ⟨dx, t, d, h1, _⟩ := h
  exact ⟨_, c.at h1, kit_same⟩
section
variable {X : Cx}
theorem op_catG : OpR X (binaryOp .Add) (fun x y H Q => ∃ a b xs ys, x = .ref a ∧ y = .ref b ∧ TupG X.K H a xs ∧ TupG X.K H b ys ∧ xs.length + ys.length ≤ 1000 ∧ ∀ p H', Same H H' → TupG X.K H' p (xs ++ ys) → Q (.ref p) H') := by
  intro pins s σ H x y v u Q I rx ry h
  obtain ⟨a, b, xs, ys, rfl, rfl, ha, hb, hl, q⟩ := h
  refine op_catA pins s σ H _ _ v u Q I rx ry ⟨a, b, xs, ys, rfl, rfl, ha.sqT, hb.sqT, fits (by omega), fun e => ?_, fun _ e => ?_, fun _ _ p np => q p _ (Same.new np) (.inl upd_same)⟩
  · subst e
    exact q b H (Same.refl H) hb
  · subst e
    exact q a H (Same.refl H) (by rw [List.append_nil]; exact ha)
end
/-- a row that is let -/
def spRowG (K : PySem.W.Frag) (C : Addr) : Sp := fun vs H Q _ => ∃ (p dx a c : Addr) (r : RD), vs = [.ref p, .ref a, .ref c] ∧ H p = some (.ins C dx []) ∧ SqX H a (r.ws.map V.str) ∧ SqX H c (r.us.map V.str) ∧ r.Ok ∧ (∀ z ∈ r.ws, progT z = true) ∧ (∀ z ∈ r.us, progD z = true) ∧
  ∀ H', Kept p H H' → RowAt C H' p r → Q .non H'
theorem good_ans {f : Str → Bool} {more : List V → Bool} {K : PySem.W.Frag} {H : Hp} {t : Addr} {ws : List Str} (h : SqX H t (ws.map V.str)) (l : ws.length ≤ 100000) (m : more (ws.map V.str) = true) (g : ∀ z ∈ ws, f z = true ∧ z.length ≤ 100000) : AnsV f more K H (.ref t) true := by
  refine .inr ⟨t, _, ws.map f, rfl, h, by rw [List.length_map]; exact l, ⟨by rw [List.length_map, List.length_map], fun i x b hx hb => ?_⟩, ?_⟩
  · obtain ⟨z, hz, rfl⟩ := str_at hx
    rw [List.getElem?_map, hz] at hb
    cases hb
    exact .inl ⟨z, rfl, (g z (List.mem_of_getElem? hz)).2, rfl⟩
  · rw [m, Bool.true_and]
    symm
    rw [List.all_eq_true]
    intro b hb
    obtain ⟨z, hz, rfl⟩ := List.mem_map.mp hb
    exact (g z hz).1
/-- a tool that is let -/
def spToolG (K : PySem.W.Frag) (C CT : Addr) : Sp := fun vs H Q _ => ∃ (p dx a : Addr) (xs : List V) (s : Bool), vs = [.ref p, .ref a, .bl s] ∧ H p = some (.ins CT dx []) ∧ SqG K H a xs ∧ xs.length ≤ 100000 ∧ (∀ v ∈ xs, IsP K C H v true) ∧
  ∀ H' t, TupG K H' t xs → Kept p H H' → H' p = some (.ins CT dx (toolF t (.bl s))) → Q .non H'
section
variable {P : Program} {w : World} {K : PySem.W.Frag} {mg : Str → Option Value} {base : Heap}
theorem ok_rowG {f fT fD C : Addr} {fd fdT fdD : FuncData} {dvs : List V} (F : FunD K "__init__" "Row.__init__" (defArgs sRowI) (defBody sRowI) (defScope sRowI) dvs [] f fd) (T : TxtK mg) (Z : RowC K C)
    (GT : FnOk P w K mg base CX0 2 fT fdT ["value"] (spAre progT yes K)) (gT : mg "are_tests" = some (.ref fT)) (kT : PySem.W.keepIn K (.ref fT) = true) (bT : Binds K fdT ["value"] [])
    (GD : FnOk P w K mg base CX0 2 fD fdD ["value"] (spAre progD full K)) (gD : mg "are_deeds" = some (.ref fD)) (kD : PySem.W.keepIn K (.ref fD) = true) (bD : Binds K fdD ["value"] []) : FnOk P w K mg base CX0 3 f fd ["self", "tests", "deeds"] (spRowG K C) := by
  refine F.ok scRowI (fun vs H Q E h => ?_) (fun cdv A outer s H vs Q E hr h => ?_)
  · obtain ⟨p, dx, a, c, r, rfl, _⟩ := h
    rfl
  · obtain ⟨p, dx, a, c, r, rfl, hp, hx, hy, o, gt, gd, k⟩ := h
    refine ⟨_, (pss_cons (ps_if (pt_not (pt_val (pe_call GT hr (by rfl) gT kT bT .nil pass0 (pa_cons (pv 1) pa_nil)))) pss_never pss_nil)
    (pss_cons (ps_if (pt_not (pt_val (pe_call GD hr (by rfl) gD kD bD .nil pass0 (pa_cons (pv 2) pa_nil)))) pss_never pss_nil)
    (pss_cons (ps_fld (pv 0) (pe_callTy call_tupleX (by rfl) T.tuple (by decide +kernel) (pa_cons (pv 1) pa_nil)) rfl)
    (pss_one (ps_fld (pv 0) (pe_callTy call_tupleX (by rfl) T.tuple (by decide +kernel) (pa_cons (pv 2) pa_nil)) rfl))))), ?_⟩
    have lw := o.lw
    have lu := o.lu
    have at_ := good_ans (K := K) (more := yes) hx (by omega) rfl fun z h => ⟨gt z h, by have := o.w z h; omega⟩
    have ad_ := good_ans (K := K) (more := full) hy (by omega) (decide_eq_true (by rw [List.length_map]; exact o.nu)) fun z h => ⟨gd z h, by have := o.u z h; omega⟩
    refine ⟨_, rfl, _, true, rfl, at_, fun H1 s1 => ⟨_, rfl, iteN rfl ⟨_, rfl, _, true, rfl, ad_.same s1, fun H2 s2 => ⟨_, rfl, iteN rfl ?_⟩⟩⟩⟩
    have s12 := s1.trans s2
    have nap : a ≠ p := by
      rcases hx with h | h
      · exact ne_of h hp (fun z => nomatch z)
      · exact ne_of h hp (fun z => nomatch z)
    have ncp : c ≠ p := by
      rcases hy with h | h
      · exact ne_of h hp (fun z => nomatch z)
      · exact ne_of h hp (fun z => nomatch z)
    refine ⟨_, rfl, a, _, rfl, hx.same s12, fun t H3 s3 h3 => ⟨_, rfl, p, C, dx, _, rfl, s3 _ _ (s12 _ _ hp), Z.cl, Z.tests, (by show 0 < 1000; decide), ?_⟩⟩
    have k4 : Kept p H (upd H3 p (.ins C dx (putF "tests" (.ref t) []))) := (Kept.of_same (s12.trans s3)).trans Kept.box
    have hy4 : SqX (upd H3 p (.ins C dx (putF "tests" (.ref t) []))) c (r.us.map V.str) := hy.imp (k4 _ _ ncp) (k4 _ _ ncp)
    have ntp : t ≠ p := ne_of h3 (s3 _ _ (s12 _ _ hp)) (fun z => nomatch z)
    refine ⟨_, rfl, c, _, rfl, hy4, fun d H5 s5 h5 => ⟨_, rfl, p, C, dx, _, rfl, s5 _ _ upd_same, Z.cl, Z.deeds, ?_, ?_⟩⟩
    · exact Nat.lt_of_le_of_lt (length_putF _ _ []) (by show 0 + 1 < 1000; decide)
    · have ndp : d ≠ p := ne_of h5 (s5 _ _ upd_same) (fun z => nomatch z)
      refine k _ ((k4.trans (Kept.of_same s5)).trans Kept.box) ⟨dx, t, d, upd_same, ?_, ?_⟩
      · rw [upd_ne ntp]
        exact s5 _ _ (by rw [upd_ne ntp]; exact h3)
      · rw [upd_ne ndp]
        exact h5
theorem ok_toolG {f fR C CT : Addr} {fd fdR : FuncData} {dvs : List V} (F : FunD K "__init__" "Tool.__init__" (defArgs sToolI) (defBody sToolI) (defScope sToolI) dvs [] f fd) (T : TxtK mg) (hbool : mg "bool" = none) (Z : ToolC K CT)
    (GR : FnOk P w K mg base CX0 2 fR fdR ["value"] (spAreR K C)) (gR : mg "are_rows" = some (.ref fR)) (kR : PySem.W.keepIn K (.ref fR) = true) (bR : Binds K fdR ["value"] []) : FnOk P w K mg base CX0 3 f fd ["self", "rows", "sorts"] (spToolG K C CT) := by
  refine F.ok scToolI (fun vs H Q E h => ?_) (fun cdv A outer s H vs Q E hr h => ?_)
  · obtain ⟨p, dx, a, xs, b, rfl, _⟩ := h
    rfl
  · obtain ⟨p, dx, a, xs, b, rfl, hp, hs, hl, hi, k⟩ := h
    refine ⟨_, (pss_cons (ps_if (pt_not (pt_val (pe_call GR hr (by rfl) gR kR bR .nil pass0 (pa_cons (pv 1) pa_nil)))) pss_never pss_nil)
    (pss_cons (ps_if (pt_not (pt_val (pe_callB call_isi (by rfl) T.isinstance (by decide +kernel) (pa_cons (pv 2) (pa_cons (pe_bltn (v := .ty "bool") (by rfl) hbool (by decide +kernel) rfl) pa_nil))))) pss_never pss_nil)
    (pss_cons (ps_fld (pv 0) (pe_callTy call_tupleG (by rfl) T.tuple (by decide +kernel) (pa_cons (pv 1) pa_nil)) rfl)
    (pss_one (ps_fld (pv 0) (pv 2) rfl))))), ?_⟩
    have an : AnsR K C H (.ref a) true := by
      refine .inr ⟨a, xs, List.replicate xs.length true, rfl, hs, hl, ⟨List.length_replicate, fun n x b hx hb => ?_⟩, ?_⟩
      · rw [(List.mem_replicate.mp (List.mem_of_getElem? hb)).2]
        exact hi x (List.mem_of_getElem? hx)
      · symm
        rw [List.all_eq_true]
        intro b hb
        rw [(List.mem_replicate.mp hb).2]
        rfl
    refine ⟨_, rfl, _, true, rfl, an, fun H1 s1 => ⟨_, rfl, iteN rfl ⟨_, rfl, _, _, _, _, true, rfl, .ty _, .base (.bl b), kit_ty (by decide +kernel), _, rfl, iteN rfl ?_⟩⟩⟩
    refine ⟨_, rfl, a, xs, rfl, hs.same s1, fun l H2 s2 hl2 => ⟨_, rfl, p, CT, dx, _, rfl, s2 _ _ (s1 _ _ hp), Z.cl, Z.rows, (by show 0 < 1000; decide), ?_⟩⟩
    refine ⟨_, rfl, _, rfl, p, CT, dx, _, rfl, upd_same, Z.cl, Z.sorts, ?_, ?_⟩
    · exact Nat.lt_of_le_of_lt (length_putF _ _ []) (by show 0 + 1 < 1000; decide)
    · exact k _ l ((hl2.put_ins (s2 _ _ (s1 _ _ hp))).put_ins upd_same) (((Kept.of_same (s1.trans s2)).trans Kept.box).trans Kept.box) upd_same
end
end Lay
set_option Elab.async false
set_option linter.all false
set_option maxRecDepth 100000
set_option maxHeartbeats 400000
set_option pp.maxSteps 900
/-! {**d, k: v, ..} -/
namespace KwX
open PySem PySem.Spec PyProof.Rows L2 StX
section
variable {prog : Program} {w : World} {A : Around} {E : Value → Shared → Prop} {s : Shared} {env : Env}
theorem forIn_gatherS (d : Addr) (f : (Option (Sem Value) × Sem Value) → (Option Addr × List (Sem Value × Sem Value)) → Sem (ForInStep (Option Addr × List (Sem Value × Sem Value))))
    (hf : ∀ (p : Sem Value × Sem Value) (run : List (Sem Value × Sem Value)), run.length + 1 < 17 → f (some p.1, p.2) (some d, run) = pure (.yield (some d, run ++ [p]))) :
    ∀ (items run : List (Sem Value × Sem Value)), run.length + items.length < 17 → forIn (items.map fun p => (some p.1, p.2)) ((some d : Option Addr), run) f = pure (some d, run ++ items)
  | [], run, _ => by simp
  | p :: rest, run, h => by
    rw [List.map_cons, List.forIn_cons, hf p run (by simp at h; omega), pure_bind]
    have := forIn_gatherS d f hf rest (run ++ [p]) (by simp at h ⊢; omega)
    simpa using this
theorem wpAny_display_star {v : Sem Value} {pairs : List (Sem Value × Sem Value)} {Q : Value → Shared → Prop} (h0 : pairs ≠ []) (hlen : pairs.length < 17)
    (h : wpAny (model prog w) A v (fun m s1 => wpAny (model prog w) A (mergeMapping s.heap.objs.size m false) (fun _ s2 => wpAny (model prog w) A (subDict pairs) (fun sub s3 => wpAny (model prog w) A (mergeMapping s.heap.objs.size (.ref sub) false) (fun _ s4 => Q (.ref s.heap.objs.size) s4) (fun _ _ => False) s3) E s2) (fun _ _ => False) s1) E
      { s with heap := s.heap.push { cls := .type "dict", data := .dict #[] } }) :
    wpAny (model prog w) A (dictDisplay ((none, v) :: pairs.map fun p => (some p.1, p.2))) Q E s := by
  unfold dictDisplay
  dsimp only
  rw [List.forIn_cons]
  refine wpAny_bind ?_
  refine wpAny_bind ?_
  simp only [List.isEmpty_nil, if_true]
  refine wpAny_bind (wpAny_pure ?_)
  refine wpAny_bind (wpAny_alloc ?_)
  refine wpAny_bind (wpAny_holding (wpAny_mono h (fun m s1 h1 => ?_) fun _ _ z => z))
  refine wpAny_bind (wpAny_onRaise (wpAny_tryCatch (wpAny_onRaise (wpAny_holding (wpAny_mono h1 (fun _ s2 h2 => ?_) fun _ _ z => z.elim)))))
  refine wpAny_pure ?_
  dsimp only
  rw [forIn_gatherS _ _ (fun p run h => by
    have hne : ((run ++ [(p.1, p.2)]).length == 17) = false := by simp; omega
    simp only [hne, Bool.false_eq_true, if_false]) pairs [] (by simpa using hlen)]
  refine wpAny_pure ?_
  dsimp only
  rw [List.nil_append]
  have he : pairs.isEmpty = false := by cases pairs with | nil => exact absurd rfl h0 | cons _ _ => rfl
  rw [he, if_neg Bool.false_ne_true]
  refine wpAny_bind (wpAny_bind (wpAny_holding (wpAny_mono h2 (fun sub s3 h3 => ?_) fun _ _ z => z)))
  refine wpAny_bind (wpAny_onRaise (wpAny_holding (wpAny_mono h3 (fun _ s4 h4 => ?_) fun _ _ z => z.elim)))
  exact wpAny_pure (wpAny_pure h4)
theorem wpAny_Dict_star {keys : List (Option Expr)} {e : Expr} {values : List Expr} {pos : Pos} {Q : Value → Shared → Prop} (hall : keys.all (·.isSome) = true) (hl : keys.length = values.length) (h0 : keys ≠ []) (h15 : keys.length ≤ 15)
    (h : wpAny (model prog w) A (eval e env) (fun m s1 => wpAny (model prog w) A (mergeMapping s.heap.objs.size m false) (fun _ s2 => wpAny (model prog w) A (subDict (pairTrees keys values env pos)) (fun sub s3 => wpAny (model prog w) A (mergeMapping s.heap.objs.size (.ref sub) false) (fun _ s4 => Q (.ref s.heap.objs.size) s4) (fun _ _ => False) s3) E s2) (fun _ _ => False) s1) E
      { s with heap := s.heap.push { cls := .type "dict", data := .dict #[] } }) :
    wpAny (model prog w) A (eval (.Dict (none :: keys) (e :: values) pos) env) Q E s := by
  have hn := pairTrees_length keys values env pos hall hl
  rw [arm_eval_Dict]
  have hz : (evalEachOpt (none :: keys) env).zip ((evalEach (e :: values) env).map fun v => do let x ← v; standAt pos; pure x) = (none, (do let x ← eval e env; standAt pos; pure x)) :: (pairTrees keys values env pos).map fun p => (some p.1, p.2) := by
    rw [← zip_pairTrees keys values env pos hall hl]
    rfl
  rw [hz]
  refine wpAny_bind (wpAny_standAt (wpAny_display_star ?_ (by rw [hn]; omega) ?_))
  · intro he
    rw [he] at hn
    exact h0 (List.length_eq_zero_iff.mp hn.symm)
  · exact wpAny_bind (wpAny_mono h (fun m s1 h1 => wpAny_bind (wpAny_standAt (wpAny_pure h1))) fun _ _ z => z)
end
/-- {**e, k: v, ..}: a new dict p of e's pairs, and a second one q of the rest, merged into it -/
def tStar (te : TE) (trs : List (TE × TE)) : TE := fun σ H Q => ∀ p, H p = none → te σ (upd H p (.dK [])) fun x H1 => ∃ o kvs, x = .ref o ∧ H1 p = some (.dK []) ∧ H1 o = some (.dK kvs) ∧ o ≠ p ∧ kvs.length ≤ 1000 ∧
  ∀ q, (upd H1 p (.dK (mergeK [] kvs))) q = none → tPairs trs σ (upd (upd H1 p (.dK (mergeK [] kvs))) q (.dK [])) fun ps H2 => H2 q = some (.dK []) ∧ H2 p = some (.dK (mergeK [] kvs)) ∧ ∃ more : List (Key × V), ps = more.map (fun kv => (kV kv.1, kv.2)) ∧ more.length ≤ 15 ∧
    Q (.ref p) (upd (upd H2 q (.dK (mergeK [] more))) p (.dK (mergeK (mergeK [] kvs) (mergeK [] more))))
theorem pe_star {X : Cx} {pos : Pos} {e : Expr} {te : TE} {keys : List (Option Expr)} {values : List Expr} {trs : List (TE × TE)} (he : PE X e te) (h : PPs X pos keys values trs) (hall : keys.all (·.isSome) = true) (hl : keys.length = values.length) (h0 : keys ≠ [])
    (h15 : keys.length ≤ 15) : PE X (.Dict (none :: keys) (e :: values) pos) (tStar te trs) := by
  refine ⟨fun pins s σ H Q I q => ?_⟩
  have hn := I.hok.fresh (Nat.le_refl s.heap.objs.size)
  have I1 := I.laid (a := s.heap.objs.size) (o := .dK []) (h' := s.heap.push { cls := .type "dict", data := .dict #[] }) (t' := s.toks) (fun _ _ q => Heap.get?_push_of_some _ q) (Nat.le_refl _) (dk_empty s.heap I.big)
  refine wpAny_Dict_star hall hl h0 h15 (thn (he.run pins _ σ _ _ I1 (q _ hn)) fun v s2 ⟨x, H1, I2, rx, o, kvs, ex, hp, ho, hne, lk, q1⟩ => ?_)
  subst ex
  obtain rfl : v = Value.ref o := rx
  obtain ⟨z, hdS, vs, rel, dd⟩ := dk_of I2.hok hp
  obtain ⟨z2, hoS, vs2, rel2, dd2⟩ := dk_of I2.hok ho
  cases rel
  refine wpAny_mergeMapping (Ne.symm hne) hoS dd dd2 (fun z => nomatch z) (fun h' d1 d2 hs => ?_) (by rw [← rel2.length]; show 0 + _ ≤ _; omega)
  have he' : ∃ q, h'.get? s.heap.objs.size = some q := let ⟨q, _, _, hq, _⟩ := d1; ⟨q, hq⟩
  have hz : (mergeK [] kvs).length ≤ sizeLine := by
    have h1 := length_mergeK kvs []
    rw [List.length_nil] at h1
    rw [sizeLine_eq]
    omega
  have I3 := d_write (t' := s2.toks) (ob := .dK (mergeK [] kvs)) I2 (by rw [hp]; exact True.intro) hs he' (dk_new hz hdS (rel2.merge .nil) d1)
  have hn3 := I3.hok.fresh (Nat.le_refl _)
  have I4 := I3.laid (a := h'.objs.size) (o := .dK []) (h' := h'.push { cls := .type "dict", data := .dict #[] }) (t' := s2.toks) (fun _ _ q => Heap.get?_push_of_some _ q) (Nat.le_refl _) (dk_empty h' I3.big)
  refine wpAny_subDict (knd := mixKind X.prog X.w) (by rw [pairTrees_length keys values X.env pos hall hl]; exact h15) (thn (h.run pins _ σ _ _ I4 (q1 _ hn3)) fun ws s5 ⟨ps, H2, I5, rel5, hq, hp2, more, ep, lm, q2⟩ => ?_)
  subst ep
  obtain ⟨rs, c, rk⟩ := carries_of (P := X.prog) (w := X.w) rel5
  obtain ⟨z5, hqS, vs5, r5, dd5⟩ := dk_of I5.hok hq
  cases r5
  refine ⟨rs, c, dd5, fun h6 dd6 hs6 => ?_⟩
  have he6 : ∃ q, h6.get? h'.objs.size = some q := let ⟨q, _, _, hq, _⟩ := dd6; ⟨q, hq⟩
  have hz6 : (mergeK [] more).length ≤ sizeLine := by
    have h1 := length_mergeK more []
    rw [List.length_nil] at h1
    rw [sizeLine_eq]
    omega
  have I6 := d_write (t' := s5.toks + ws.length) (ob := .dK (mergeK [] more)) I5 (by rw [hq]; exact True.intro) hs6 he6 (dk_new hz6 hqS (rk.merge .nil) dd6)
  have nqp : h'.objs.size ≠ s.heap.objs.size := Ne.symm (ne_of_none (upd_same (H := H1) (a := s.heap.objs.size) (o := .dK (mergeK [] kvs))) hn3)
  obtain ⟨za, haS, va, ra, da⟩ := dk_of I6.hok (upd_same (H := H2) (a := h'.objs.size) (o := .dK (mergeK [] more)))
  have hp6 : upd H2 h'.objs.size (.dK (mergeK [] more)) s.heap.objs.size = some (.dK (mergeK [] kvs)) := by
    rw [upd_ne (Ne.symm nqp)]
    exact hp2
  obtain ⟨zb, hbS, vb, rb, db⟩ := dk_of I6.hok hp6
  have l1 := length_mergeK kvs []
  have l2 := length_mergeK more []
  have l3 := length_mergeK (mergeK [] more) (mergeK [] kvs)
  rw [List.length_nil] at l1 l2
  refine wpAny_mergeMapping (Ne.symm nqp) haS db da (fun z => nomatch z) (fun h8 d8 d9 hs8 => ?_) (by rw [← ra.length, ← rb.length, sizeLine_eq]; omega)
  have he8 : ∃ q, h8.get? s.heap.objs.size = some q := let ⟨q, _, _, hq, _⟩ := d8; ⟨q, hq⟩
  exact ⟨.ref s.heap.objs.size, _, d_write I6 (by rw [hp6]; exact True.intro) hs8 he8 (dk_new (by rw [sizeLine_eq]; omega) hbS (ra.merge rb) d8), rfl, q2⟩
end KwX
set_option Elab.async false
set_option linter.all false
set_option maxRecDepth 100000
set_option maxHeartbeats 400000
set_option pp.maxSteps 900
namespace Lay
open PySem PySem.Spec PyProof.Rows L2
/-! ### lanes of one: numbers 0 and 1 by names -/
def b2i (b : Bool) : Int := if b = true then 1 else 0
theorem and_b2i (a b : Bool) : Builtin.bitAnd (b2i a) (b2i b) = b2i (a && b) := by cases a <;> cases b <;> rfl
theorem andn_b2i (a b : Bool) : Builtin.bitAnd (b2i a) (Builtin.bitNot (b2i b)) = b2i (a && !b) := by cases a <;> cases b <;> rfl
theorem or_b2i (a b : Bool) : Builtin.bitOr (b2i a) (b2i b) = b2i (a || b) := by cases a <;> cases b <;> rfl
def lnK : List Str := ["broken", "marked", "left", "ahead", "behind", "blank", "two", "over", "overmarked", "overbehind", "overboth", "every", "first", "afterbroken", "afterbehind"]
def nm (i : Nat) : Str := lnK.getD i ""
theorem nm_inj : ∀ i < 15, ∀ j < 15, nm i = nm j → i = j := by decide +kernel
abbrev LS := Nat → Bool
def kvN (g : Bool → V) (n : Nat) (L : LS) : List (Key × V) := (List.range n).map fun i => (Sum.inr (nm i), g (L i))
def setL (L : LS) (i : Nat) (v : Bool) : LS := fun j => if j = i then v else L j
theorem kv_len {g : Bool → V} {n : Nat} {L : LS} : (kvN g n L).length = n := by
  unfold kvN
  rw [List.length_map, List.length_range]
theorem val_is {g : Bool → V} {L : LS} {i : Nat} : ∀ is : List Nat, (∀ j ∈ is, nm j = nm i → j = i) → i ∈ is → valV (is.map fun j => ((Sum.inr (nm j) : Key), g (L j))) (.inr (nm i)) = some (g (L i))
  | [], _, h => (List.not_mem_nil h).elim
  | j :: is, u, h => by
    rw [List.map_cons]
    by_cases e : nm j = nm i
    · have e2 := u j List.mem_cons_self e
      subst e2
      exact valV_pos rfl
    · rw [valV_neg (fun z => e (Sum.inr.inj z))]
      refine val_is is (fun k hk => u k (List.mem_cons_of_mem _ hk)) ?_
      rcases List.mem_cons.mp h with rfl | h
      · exact absurd rfl e
      · exact h
theorem val_kv {g : Bool → V} {n : Nat} {L : LS} {i : Nat} (hi : i < n) (hn : n ≤ 15) : valV (kvN g n L) (.inr (nm i)) = some (g (L i)) :=
  val_is _ (fun j hj e => nm_inj j (by have := List.mem_range.mp hj; omega) i (by omega) e) (List.mem_range.mpr hi)
theorem put_kv {g : Bool → V} {n : Nat} {L : LS} {i : Nat} {v : Bool} (hi : i < n) (hn : n ≤ 15) : putK (kvN g n L) (.inr (nm i)) (g v) = kvN g n (setL L i v) := by
  have a : (kvN g n L).any (fun kv => decide (kv.1 = (Sum.inr (nm i) : Key))) = true := by
    rw [valV_any, val_kv hi hn]
    rfl
  unfold putK
  rw [if_pos a]
  unfold kvN
  rw [List.map_map]
  refine List.map_congr_left fun j hj => ?_
  have hj := List.mem_range.mp hj
  show (if (Sum.inr (nm j) : Key) = Sum.inr (nm i) then ((Sum.inr (nm j) : Key), g v) else (Sum.inr (nm j), g (L j))) = (Sum.inr (nm j), g (setL L i v j))
  unfold setL
  by_cases e : j = i
  · subst e
    rw [if_pos rfl, if_pos rfl]
  · rw [if_neg e, if_neg fun z => e (nm_inj j (by omega) i (by omega) (Sum.inr.inj z))]
theorem put_new {g : Bool → V} {i : Nat} {L : LS} (hi : i < 15) : putK (kvN g i L) (.inr (nm i)) (g (L i)) = kvN g (i + 1) L := by
  have a : (kvN g i L).any (fun kv => decide (kv.1 = (Sum.inr (nm i) : Key))) = false := by
    rw [List.any_eq_false]
    intro kv hkv
    unfold kvN at hkv
    obtain ⟨j, hj, rfl⟩ := List.mem_map.mp hkv
    have hj := List.mem_range.mp hj
    rw [decide_eq_true_eq]
    intro z
    have := nm_inj j (by omega) i (by omega) (Sum.inr.inj z)
    omega
  unfold putK
  rw [a, if_neg Bool.false_ne_true]
  unfold kvN
  rw [List.range_succ, List.map_append]
  rfl
theorem merge_kv {g : Bool → V} {L : LS} : ∀ n, n ≤ 15 → mergeK [] (kvN g n L) = kvN g n L
  | 0, _ => rfl
  | n + 1, h => by
    have e : kvN g (n + 1) L = kvN g n L ++ [(Sum.inr (nm n), g (L n))] := by
      unfold kvN
      rw [List.range_succ, List.map_append]
      rfl
    rw [e]
    unfold mergeK
    rw [List.foldl_append]
    have ih := merge_kv (g := g) (L := L) n (by omega)
    unfold mergeK at ih
    rw [ih]
    show putK (kvN g n L) (.inr (nm n)) (g (L n)) = _
    rw [put_new (by omega), e]
/-- at l lanes of n names -/
def LnAt (n : Nat) (H : Hp) (l : Addr) (L : LS) : Prop := H l = some (.dK (kvN (fun b => .int (b2i b)) n L))
def FcAt (H : Hp) (l : Addr) (L : LS) : Prop := H l = some (.dK (kvN V.bl 11 L))
theorem LnAt.same {n : Nat} {H H' : Hp} {l : Addr} {L : LS} (s : Same H H') (h : LnAt n H l L) : LnAt n H' l L := s _ _ h
theorem LnAt.get {n : Nat} {H : Hp} {l : Addr} {L : LS} (h : LnAt n H l L) (i : Nat) (hi : i < n) (hn : n ≤ 15) : DGet H l (.str (nm i)) (some (.int (b2i (L i)))) := by
  have q := DGet.k (k := .inr (nm i)) h
  rw [val_kv hi hn] at q
  exact q
theorem LnAt.put {n : Nat} {H : Hp} {l : Addr} {L : LS} {v : Bool} (h : LnAt n H l L) (i : Nat) (hi : i < n) (hn : n ≤ 15) : DPut H l (.str (nm i)) (.int (b2i v)) (upd H l (.dK (kvN (fun b => .int (b2i b)) n (setL L i v)))) := by
  have q := DPut.k (k := .inr (nm i)) (v := .int (b2i v)) h (by rw [kv_len, sizeLine_eq]; omega)
  rw [put_kv (g := fun b => .int (b2i b)) hi hn] at q
  exact q
theorem LnAt.set {n : Nat} {H : Hp} {l : Addr} {L : LS} : LnAt n (upd H l (.dK (kvN (fun b => .int (b2i b)) n L))) l L := upd_same
theorem FcAt.get {H : Hp} {l : Addr} {L : LS} (h : FcAt H l L) (i : Nat) (hi : i < 11) : DGet H l (.str (nm i)) (some (.bl (L i))) := by
  have q := DGet.k (k := .inr (nm i)) h
  rw [val_kv hi (by omega)] at q
  exact q
/-! ### what tests and deeds come to -/
def longL (L : LS) : Bool := L 7 || (L 1 && L 8) || (L 4 && L 9) || ((L 1 && L 4) && L 10)
/-- the place of a test's word among the names -/
def wordN (z : Str) : Nat := lnK.idxOf z
def holdL (L : LS) (t : Str) : Bool :=
  let z := Txt.removeprefix t "not "
  let f := if z = "long" then longL L else L (wordN z)
  if z = t then f else L 11 && !f
def whereL (L : LS) : List Str → Bool → Bool
  | [], w => w
  | t :: ts, w => whereL L ts (w && holdL L t)
def doL (i : Nat) (w : Bool) (L : LS) : LS := match i with
  | 0 => setL L 0 (L 0 || w)
  | 1 => setL L 0 (L 0 && !w)
  | 2 => setL L 1 (L 1 || w)
  | 3 => setL L 1 (L 1 && !w)
  | 4 => setL (setL L 3 (L 3 || ((w && L 4) && !L 3))) 4 (L 4 && !((w && L 4) && !L 3))
  | 5 => setL (setL L 4 (L 4 || ((w && L 3) && !L 4))) 3 (L 3 && !((w && L 3) && !L 4))
  | 6 => setL (setL L 5 (L 5 || w)) 6 (L 6 && !w)
  | _ => setL (setL L 5 (L 5 && !w)) 6 (L 6 && !w)
def deedN (z : Str) : Nat := deedL.idxOf z
def deedsL (w : Bool) : List Str → LS → LS
  | [], L => L
  | d :: ds, L => deedsL w ds (doL (deedN d) w L)
def rowL (r : RD) (L : LS) : LS := deedsL (whereL L r.ws (L 11)) r.us L
def rowsL : List RD → LS → LS
  | [], L => L
  | r :: rs, L => rowsL rs (rowL r L)
end Lay
set_option Elab.async false
set_option linter.all false
set_option maxRecDepth 100000
set_option maxHeartbeats 400000
set_option pp.maxSteps 900
namespace Lay
open PySem PySem.Spec PyProof.Rows L2 KwX StX
section
variable {X : Cx}
theorem ip_or : PIp X .BitOr (ipI fun i j => Builtin.bitOr i j) := fun pins s σ H x y v u Q I rx ry h => iop_or pins s σ H x y v u Q I rx ry (by
  obtain ⟨i, j, e1, e2, q⟩ := h
  exact ⟨i, j, e1, e2, q⟩)
def rAndB : R2 := fun x y H Q => ∃ a b, x = .int (b2i a) ∧ y = .int (b2i b) ∧ Q (.int (b2i (a && b))) H
def rAndN : R2 := fun x y H Q => ∃ a b, x = .int (b2i a) ∧ y = .int (Builtin.bitNot (b2i b)) ∧ Q (.int (b2i (a && !b))) H
def rOrB : R2 := fun x y H Q => ∃ a b, x = .int (b2i a) ∧ y = .int (b2i b) ∧ Q (.int (b2i (a || b))) H
theorem op_andB : OpR X (binaryOp .BitAnd) rAndB := fun pins s σ H x y v u Q I rx ry ⟨a, b, e1, e2, q⟩ => op_and pins s σ H x y v u Q I rx ry ⟨_, _, e1, e2, by show Q (.int (Builtin.bitAnd _ _)) H; rw [and_b2i]; exact q⟩
theorem op_andN : OpR X (binaryOp .BitAnd) rAndN := fun pins s σ H x y v u Q I rx ry ⟨a, b, e1, e2, q⟩ => op_and pins s σ H x y v u Q I rx ry ⟨_, _, e1, e2, by show Q (.int (Builtin.bitAnd _ _)) H; rw [andn_b2i]; exact q⟩
theorem op_orB : OpR X (binaryOp .BitOr) rOrB := fun pins s σ H x y v u Q I rx ry ⟨a, b, e1, e2, q⟩ => op_or pins s σ H x y v u Q I rx ry ⟨_, _, e1, e2, by show Q (.int (Builtin.bitOr _ _)) H; rw [or_b2i]; exact q⟩
theorem in_orB : InOp X .BitOr rOrB := fun pins s σ H x y u v Q I rx ry ⟨a, b, e1, e2, q⟩ => iop_or pins s σ H x y u v Q I rx ry ⟨_, _, e1, e2, by show Q (.int (Builtin.bitOr _ _)) H; rw [or_b2i]; exact q⟩
theorem in_andN : InOp X .BitAnd rAndN := fun pins s σ H x y u v Q I rx ry ⟨a, b, e1, e2, q⟩ => iop_and pins s σ H x y u v Q I rx ry ⟨_, _, e1, e2, by show Q (.int (Builtin.bitAnd _ _)) H; rw [andn_b2i]; exact q⟩
end
def fcL (b m l a h : Bool) (n : Int) (o1 o2 o3 o4 : Bool) : LS := fun i => match i with
  | 0 => b | 1 => m | 2 => l | 3 => a | 4 => h | 5 => decide (n > 0) | 6 => decide (n > 1) | 7 => o1 | 8 => o2 | 9 => o3 | 10 => o4 | _ => false
abbrev sFacts : Stmt := top 11
abbrev sBits : Stmt := top 12
abbrev sLanes : Stmt := top 13
def spFacts (K : PySem.W.Frag) : Sp := fun vs H Q _ => ∃ (t : Addr) (b m a h l o1 o2 o3 o4 : Bool) (n : Int), vs = [.ref t, .bl o1, .bl o2, .bl o3, .bl o4] ∧ SqT K H t [.bl b, .bl m, .bl a, .bl h, .int n, .bl l] ∧ ∀ p H', Same H H' → FcAt H' p (fcL b m l a h n o1 o2 o3 o4) → Q (.ref p) H'
def spBits (K : PySem.W.Frag) : Sp := fun vs H Q _ => ∃ (a : Addr) (b : Bool), vs = [.ref a] ∧ SqL K H a [.bl b] ∧ ∀ H', Same H H' → Q (.int (b2i b)) H'
def spLanes (K : PySem.W.Frag) : Sp := fun vs H Q _ => ∃ (m f : Addr) (L : LS), vs = [.ref m] ∧ H m = some (.lst [.ref f]) ∧ FcAt H f L ∧ ∀ p H', Same H H' → LnAt 12 H' p (setL L 11 true) → Q (.ref p) H'
section
variable {P : Program} {w : World} {K : PySem.W.Frag} {mg : Str → Option Value} {base : Heap}
def factsN : List Str := ["shape", "over", "overmarked", "overbehind", "overboth", "broken", "marked", "ahead", "behind", "blanks", "left"]
abbrev factsP : List Str := ["shape", "over", "overmarked", "overbehind", "overboth"]
theorem scFacts : FnScope factsN factsP (defScope sFacts) := ⟨rfl, rfl, rfl, by decide +kernel, rfl, by decide +kernel, by decide +kernel⟩
theorem ok_facts {f : Addr} {fd : FuncData} (F : Fun K "facts_of" "facts_of" sFacts f fd) : FnOk P w K mg base CX0 1 f fd factsP (spFacts K) := by
  refine F.ok scFacts (fun vs H Q E h => ?_) (fun cdv A outer s H vs Q E hr h => ?_)
  · obtain ⟨t, b, m, a, h, l, o1, o2, o3, o4, n, rfl, _⟩ := h
    rfl
  · obtain ⟨t, b, m, a, h, l, o1, o2, o3, o4, n, rfl, ht, k⟩ := h
    refine ⟨_, (pss_cons (ps_asg (pv 0) (pg_tup rfl (pgs_cons (pg_name (i := 5) scFacts.nd rfl (.inl rfl)) (pgs_cons (pg_name (i := 6) scFacts.nd rfl (.inl rfl)) (pgs_cons (pg_name (i := 7) scFacts.nd rfl (.inl rfl)) (pgs_cons (pg_name (i := 8) scFacts.nd rfl (.inl rfl)) (pgs_cons (pg_name (i := 9) scFacts.nd rfl (.inl rfl)) (pgs_cons (pg_name (i := 10) scFacts.nd rfl (.inl rfl)) pgs_nil))))))))
    (pss_one (ps_ret (pe_disp (pps_cons pe_str (pv 5) (pps_cons pe_str (pv 6) (pps_cons pe_str (pv 10) (pps_cons pe_str (pv 7) (pps_cons pe_str (pv 8) (pps_cons pe_str (pe_cmpR op_gt (pv 9) pe_int (nomark _)) (pps_cons pe_str (pe_cmpR op_gt (pv 9) pe_int (nomark _)) (pps_cons pe_str (pv 1) (pps_cons pe_str (pv 2) (pps_cons pe_str (pv 3) (pps_cons pe_str (pv 4) pps_nil))))))))))) rfl rfl (by decide) (by decide))))), ?_⟩
    refine ⟨_, rfl, t, _, rfl, ht, rfl, _, _, rfl, _, _, rfl, _, _, rfl, _, _, rfl, _, _, rfl, _, _, rfl, rfl, fun p np => ?_⟩
    refine ⟨_, rfl, _, rfl, _, rfl, _, rfl, _, rfl, _, rfl, _, _, rfl, rfl, _, rfl, _, _, rfl, rfl, _, rfl, _, rfl, _, rfl, _, rfl, upd_same, kvN V.bl 11 (fcL b m l a h n o1 o2 o3 o4), rfl, by rw [kv_len]; decide, ?_⟩
    rw [merge_kv 11 (by decide), upd_upd]
    exact k p _ (Same.new np) upd_same
theorem scBits : FnScope ["answers", "number", "at", "answer"] ["answers"] (defScope sBits) := ⟨rfl, rfl, rfl, by decide +kernel, rfl, by decide +kernel, by decide +kernel⟩
theorem ok_bits {f : Addr} {fd : FuncData} (F : Fun K "bits_of" "bits_of" sBits f fd) (B : Bt mg) : FnOk P w K mg base CX0 1 f fd ["answers"] (spBits K) := by
  refine F.ok scBits (fun vs H Q E h => ?_) (fun cdv A outer s H vs Q E hr h => ?_)
  · obtain ⟨a, b, rfl, _⟩ := h
    rfl
  · obtain ⟨a, b, rfl, ha, k⟩ := h
    refine ⟨_, (pss_cons (ps_set (i := 1) scBits.nd rfl (.inl rfl) pe_int)
    (pss_cons (ps_for PassesOwn.never rfl (pi_enum (by rfl) B.enumerate (pa_cons (pv 0) pa_nil)) (pg_tup rfl (pgs_cons (pg_name (i := 2) scBits.nd rfl (.inl rfl)) (pgs_cons (pg_name (i := 3) scBits.nd rfl (.inl rfl)) pgs_nil)))
      (pss_one (ps_if (pt_val (pv 3))
        (pss_one (ps_aug (i := 1) scBits.nd rfl (.inl rfl) (pe_op op_shl pe_int (pv 2)) ip_or))
        pss_nil)))
    (pss_one (ps_ret (pv 1))))), ?_⟩
    refine ⟨_, rfl, a, _, rfl, ha, for_it walk_enum (fun i σ G => ∃ (x2 x3 : Option V), σ = [some (.ref a), some (.int (if i = 0 then 0 else b2i b)), x2, x3] ∧ Same H G) ⟨none, none, rfl, Same.rfl⟩ (fun i σ G _ z => by
      obtain ⟨_, _, _, z⟩ := z
      exact z.seq ha) ?_ ?_⟩
    · rintro i x σ G G' hi ⟨x2, x3, rfl, sG⟩ ⟨T, x, y, rfl, nT, rfl, e1, e2⟩
      have hi : i = 0 := by
        have : i < 1 := hi
        omega
      subst hi
      cases e1
      cases e2
      refine ⟨T, _, rfl, SqT.of upd_same, rfl, _, _, rfl, _, _, rfl, rfl, _, rfl, b, rfl, ?_⟩
      cases b with
      | true => exact iteY rfl ⟨_, rfl, _, rfl, _, _, rfl, rfl, ⟨by decide, by decide, by decide⟩, _, _, rfl, rfl, _, _, rfl, sG.trans (Same.new nT)⟩
      | false => exact iteN rfl ⟨_, _, rfl, sG.trans (Same.new nT)⟩
    · rintro σ G ⟨x2, x3, rfl, sG⟩
      exact ⟨_, rfl, k G sG⟩
end
end Lay
set_option Elab.async false
set_option linter.all false
set_option maxRecDepth 100000
set_option maxHeartbeats 400000
set_option pp.maxSteps 900
namespace Lay
open PySem PySem.Spec PyProof.Rows L2 KwX StX
section
variable {X : Cx}
theorem sw_trueD {kx vx : Expr} {gs : List Comprehension} {scope : Scope} {pos py : Pos} {y : Str} {l : Nat} {env : Env} (hk : env.scope.kind = .function) (hy : env.scope.names.lookup y = some .local) (hl : (py.line == pos.line) = true)
    (ha : (scope.names.any fun (n, k) => n == y && (k == .local || k == .cell)) = false) : swapsWith (.DictComp kx vx gs scope pos) (some (.Name y py)) l env = pure true := by
  have ky : env.kindOf y = some .local := hy
  have hb : env.blockKind = .function := by unfold Env.blockKind; rw [hk]; rfl
  unfold swapsWith
  simp only [hb, ky, ha, Expr.pos, hl]
  rfl
/-- name = {k: v for ..} on one line, the name a local -/
theorem ps_setDc {i : Nat} {y : Str} {py : Pos} {kx vx tg iter : Expr} {ifs : List Expr} {scope : Scope} {own : List (Str × Nat)} {pos spos : Pos} {wi : TI} {g : TG} {tt : TT} {tk tv : TE} (hc : X.calm = true) (hN : X.N.Nodup) (hy : X.N[i]? = some y) (hyl : X.env.scope.names.lookup y = some .local)
    (hsw : swapsWith (.DictComp kx vx [⟨tg, iter, ifs, 0⟩] scope pos) (some (.Name y py)) spos.line X.env = pure true) (hi : PI X tg iter wi) (ok : BlkOk X.N X.env.scope scope own)
    (hg : ∀ (s : Shared) (H : Hp) (C : Addr) (cl : List (Str × Addr)) (fp : List Addr), PG (X.blk s H scope (compEnvC scope cl C X.env) fp) tg g) (ht : ∀ (s : Shared) (H : Hp) (C : Addr) (cl : List (Str × Addr)) (fp : List Addr), PTs (X.blk s H scope (compEnvC scope cl C X.env) fp) ifs tt)
    (hk : ∀ (s : Shared) (H : Hp) (C : Addr) (cl : List (Str × Addr)) (fp : List Addr), PE (X.blk s H scope (compEnvC scope cl C X.env) fp) kx tk)
    (he : ∀ (s : Shared) (H : Hp) (C : Addr) (cl : List (Str × Addr)) (fp : List Addr), PE (X.blk s H scope (compEnvC scope cl C X.env) fp) vx tv) (hs : ∀ x, foldedSetIterable iter X.env x = pure x := by intro _; rfl) :
    PS X (.Assign [.Name y py] (.DictComp kx vx [⟨tg, iter, ifs, 0⟩] scope pos) spos) (tAsg (tDc wi g tt tk tv (own.map (·.2))) (gName i)) := by
  refine ⟨fun pins s σ H D I h => ?_⟩
  rw [exec_Assign_Name_used _ _ _ _ hsw]
  refine wpAny_bind (wpAny_standAt (wpAny_bind ?_))
  show wpAny _ X.A (do let _ ← comprehension (.DictComp kx vx [⟨tg, iter, ifs, 0⟩] scope pos) scope X.env (firstIterPos [⟨tg, iter, ifs, 0⟩] pos) newDict false (eval iter X.env) (some (assign (.Name y py) X.env))) _ _ s
  have h : tDc wi g tt tk tv (own.map (·.2)) σ H (fun x H1 => gName i x σ H1 D.nx) := h
  refine wpAny_bind (thn (dc_core (Qf := fun _ s' => SP X pins D .next s') hc hN I hi ok hg ht hk he hs h fun L C s' m H' I' q hn f => ?_) fun _ s' hq => wpAny_pure (wpAny_pure hq))
  show wpAny _ _ (assign (.Name y py) X.env (.ref L)) _ _ _
  refine wpAny_assign_Name (store_ok2 (v := V.ref L) I' hN hy (.inl hyl) rfl (fun s2 I2 ⟨a, sb, ha⟩ => ?_) (.inr hyl))
  obtain ⟨f0, f1, f2, f3, f4, f5⟩ := f
  have haC : C ≠ a := by
    rcases ha with z | z
    · rw [z]; exact f1
    · exact fun e => f4 y a z e.symm
  refine ⟨m, hn.sameBut sb haC, fun h3 sb3 => ?_⟩
  exact ⟨_, H', I2.turned (t' := s2.toks) (fun b o hb e => (sb3.2 b hb).trans e) f0 f1 f3 f4 f5, q⟩
end
/-- a dict comprehension over what is walked -/
theorem dc_it {J : It} {n : Nat} {G : Hp → Prop} {Y : Nat → Hp → V → Hp → Prop} (w : Walk J n G Y) {g : TG} {tt : TT} {tk tv : TE} {vs : List Nat} {σ : L2.St} {H1 : Hp} {D : Addr} {Qd : Hp → Prop} (Pv : Nat → Hp → Prop) (h0 : Pv 0 (upd H1 D (.dK []))) (hG : ∀ i H, i ≤ n → Pv i H → G H)
    (hs : ∀ i x H H', i < n → Pv i H → Y i H x H' → g x (wipe σ vs) H' fun σ2 H2 => wipe σ2 vs = wipe σ vs ∧ tt σ2 H2 fun b H3 =>
      if b = true then tk σ2 H3 fun y H4 => tv σ2 H4 fun z H5 => ∃ kvs k, y = kV k ∧ H5 D = some (.dK kvs) ∧ kvs.length < sizeLine ∧ Pv (i + 1) (upd H5 D (.dK (putK kvs k z))) else Pv (i + 1) H3) (hd : ∀ H, Pv n H → Qd H) :
    ∃ W : Nat → Nat → Hp → Prop, (∃ m, W 0 m (upd H1 D (.dK []))) ∧ ∀ i m H, W i m H →
      (J.stop i H ∧ Qd H) ∨ (J.go i H ∧ ∃ Nx : Hp → Prop, (∀ H', Nx H' → ∃ m', m' < m ∧ W (i + 1) m' H') ∧ ∀ x H', J.yld i H x H' → g x (wipe σ vs) H' fun σ2 H2 => wipe σ2 vs = wipe σ vs ∧ tt σ2 H2 fun b H3 =>
        if b = true then tk σ2 H3 fun y H4 => tv σ2 H4 fun z H5 => ∃ kvs k, y = kV k ∧ H5 D = some (.dK kvs) ∧ kvs.length < sizeLine ∧ Nx (upd H5 D (.dK (putK kvs k z))) else Nx H3) := by
  refine ⟨fun i m H => m = n - i ∧ i ≤ n ∧ Pv i H, ⟨n, by simp, Nat.zero_le _, h0⟩, ?_⟩
  rintro i m H ⟨rfl, hi, p⟩
  have q := hG i H hi p
  by_cases hlt : i < n
  · refine .inr ⟨w.goes i H hlt q, Pv (i + 1), fun H' p' => ⟨n - (i + 1), by omega, rfl, hlt, p'⟩, fun x H' y => hs i x H H' hlt p (w.yields i H x H' hlt q y)⟩
  · have e : i = n := by omega
    subst e
    exact .inl ⟨w.stops H q, hd H p⟩
theorem kv_at {g : Bool → V} {n : Nat} {L : LS} {i : Nat} (h : i < n) : (kvN g n L)[i]? = some (Sum.inr (nm i), g (L i)) := by
  unfold kvN
  rw [List.getElem?_map, List.getElem?_range h]
  rfl
theorem kv_congr {g : Bool → V} {n : Nat} {L L' : LS} (h : ∀ j, j < n → L j = L' j) : kvN g n L = kvN g n L' := by
  unfold kvN
  refine List.map_congr_left fun j hj => ?_
  rw [h j (List.mem_range.mp hj)]
theorem put_every {g : Bool → V} {L : LS} {v : Bool} {n : Nat} (hn : n < 15) : putK (kvN g n L) (.inr (nm n)) (g v) = kvN g (n + 1) (setL L n v) := by
  have e : kvN g n L = kvN g n (setL L n v) := kv_congr fun j hj => by
    unfold setL
    rw [if_neg (by omega)]
  have e2 : setL L n v n = v := if_pos rfl
  rw [e]
  have := put_new (g := g) (L := setL L n v) hn
  rw [e2] at this
  exact this
/-- all stays but f -/
def ButF (f : Addr) (H H' : Hp) : Prop := ∀ c o, c ≠ f → H c = some o → H' c = some o
theorem ButF.same {f : Addr} {H H1 H2 : Hp} (k : ButF f H H1) (s : Same H1 H2) : ButF f H H2 := fun c o n e => s _ _ (k c o n e)
theorem ButF.put {f D : Addr} {H H1 : Hp} {o : HO} (k : ButF f H H1) (n : H D = none) : ButF f H (upd H1 D o) := fun c u ne e => by
  rw [upd_ne (ne_of_none e n)]
  exact k c u ne e
theorem ButF.unlock {f : Addr} {H H1 : Hp} {u : HO} (k : ButF f H H1) (e : H f = some u) : Same H (upd H1 f u) := fun c o h => by
  by_cases q : c = f
  · subst q
    rw [upd_same, ← e, h]
  · rw [upd_ne q]
    exact k c o q h
def lanesN : List Str := ["many", "lanes", "facts", "word", "_"]
def dcScope (st : Stmt) : Scope := match defBody st with
  | .Assign _ (.DictComp _ _ _ sc _) _ :: _ => sc
  | _ => defScope st
def dcScope2 : Scope := { dcScope sLanes with names := (dcScope sLanes).names.map fun p => if p.2 = .free then (p.1, .cell) else p }
section
variable {P : Program} {w : World} {K : PySem.W.Frag} {mg : Str → Option Value} {base : Heap}
theorem scLanes : FnScope lanesN ["many"] (defScope sLanes) := ⟨rfl, rfl, rfl, by decide +kernel, rfl, by decide +kernel, by decide +kernel⟩
theorem ok_lanes {f : Addr} {fd : FuncData} (F : Fun K "lanes_of" "lanes_of" sLanes f fd) (DB : Has P w K mg base CX0 1 "bits_of" ["answers"] (spBits K)) : FnOk P w K mg base CX0 2 f fd ["many"] (spLanes K) := by
  refine F.ok scLanes (fun vs H Q E h => ?_) (fun cdv A outer s H vs Q E hr h => ?_)
  · obtain ⟨m, f, L, rfl, _⟩ := h
    rfl
  · obtain ⟨m, f, L, rfl, hm, hf, k⟩ := h
    have hu := hu_of hr
    refine ⟨_, (C8.pss_cut (ps_lock (ps_setDc (i := 1) (own := [("word", 3)]) (g := gName 3) (tt := tYes) rfl scLanes.nd rfl rfl (sw_trueD rfl rfl rfl (by decide +kernel)) (pi_keys (pe_ix ix_list (pv 0) pe_int (fun _ _ => rfl))) (blkOk_by (N := lanesN) (sc := defScope sLanes) (by decide +kernel)) (fun _ _ _ _ _ => pg_name (i := 3) scLanes.nd rfl (Or.inr rfl)) (fun _ _ _ _ _ => pts_nil) (fun _ _ _ _ _ => pv 3)
        (fun _ _ _ _ _ => pe_callH DB hr (by rfl) pass0 (pa_cons (pe_lc (own := [("facts", 2)]) (g := gName 2) (tt := tYes) (by rfl) scLanes.nd (pi_sq (K := K) rfl (pv 0)) (blkOk_by (N := lanesN) (sc := dcScope2) (by decide +kernel)) (fun _ _ _ _ _ => pg_name (i := 2) scLanes.nd rfl (Or.inl rfl)) (fun _ _ _ _ _ => pts_nil) (fun _ _ _ _ _ => pe_dget hu (pv 2) (pv 3) (fun _ _ => rfl))) pa_nil))))
    (pss_cons (ps_dput hu (pv 1) pe_str (pe_callH DB hr (by rfl) pass0 (pa_cons (pe_lc (own := [("_", 4)]) (g := gName 4) (tt := tYes) (by rfl) scLanes.nd (pi_list (pv 0)) (blkOk_by (N := lanesN) (sc := defScope sLanes) (by decide +kernel)) (fun _ _ _ _ _ => pg_name (i := 4) scLanes.nd rfl (Or.inl rfl)) (fun _ _ _ _ _ => pts_nil) (fun _ _ _ _ _ => pe_bl)) pa_nil)) (by rfl))
    (pss_one (ps_ret (pv 1))))), ?_⟩
    have nmf : m ≠ f := ne_of hm hf (fun z => nomatch z)
    refine ⟨fun σ G => ∃ D, σ = [some (.ref m), some (.ref D), none, none, none] ∧ Same H G ∧ LnAt 11 G D L ∧ H D = none, ?_, ?_⟩
    · refine ⟨f, _, hf, trivial, fun od => ?_⟩
      have k0 : ButF f H (upd H f (.frz od (.dK (kvN V.bl 11 L)))) := fun c o n e => by rw [upd_ne n]; exact e
      have z0 : upd H f (.frz od (.dK (kvN V.bl 11 L))) f = some (.frz od (.dK (kvN V.bl 11 L))) := upd_same
      have n0 : ∀ D, upd H f (.frz od (.dK (kvN V.bl 11 L))) D = none → H D = none := fun D e => by
        by_cases q : D = f
        · rw [q, z0] at e
          cases e
        · rw [upd_ne q] at e
          exact e
      generalize upd H f (.frz od (.dK (kvN V.bl 11 L))) = G0 at k0 z0 n0 ⊢
      refine ⟨_, rfl, m, _, _, _, rfl, rfl, SqL.of (k0 _ _ nmf hm), rfl, f, od, rfl, .inl ⟨_, z0, fun D nD => dc_it walk_keys (fun i G => ButF f H G ∧ G f = some (.frz od (.dK (kvN V.bl 11 L))) ∧ LnAt i G D L) ⟨k0.same (Same.new nD), Same.new nD _ _ z0, upd_same⟩ (fun i G _ p => p.2.1) ?_ ?_⟩⟩
      · rintro i x G G' hi ⟨k1, z1, hD⟩ ⟨rfl, key, v, ek, rfl⟩
        have hi : i < 11 := hi
        rw [kv_at hi] at ek
        cases ek
        refine ⟨rfl, _, rfl, _, rfl, m, [.ref f], false, rfl, SqL.of (k1 _ _ nmf hm), fun J wk D2 nD2 => lc_it wk (fun j G2 => Same G' G2 ∧ G2 D2 = some (.lst (if j = 0 then [] else [V.bl (L i)]))) ⟨Same.new nD2, upd_same⟩ (fun j G2 _ q => SqL.of (q.1 _ _ (k1 _ _ nmf hm))) ?_ ?_⟩
        · rintro j x G2 G3 hj ⟨s2, h2⟩ ⟨rfl, ex⟩
          have hj : j = 0 := by
            have : j < 1 := hj
            omega
          subst hj
          cases ex
          refine ⟨rfl, _, rfl, _, rfl, f, _, rfl, .inl ⟨_, .inr (nm i), .inr ⟨od, s2 _ _ z1⟩, rfl, (val_kv hi (by decide)).symm⟩, _, h2, (by show 0 < sizeLine; decide), same_put s2 nD2, upd_same⟩
        · rintro G2 ⟨s2, h2⟩
          refine ⟨D2, L i, rfl, SqL.of h2, fun G3 s3 => ⟨_, .inr (nm i), rfl, s3 _ _ (s2 _ _ hD), by rw [kv_len, sizeLine_eq]; omega, ?_, ?_, ?_⟩⟩
          · exact (k1.same (s2.trans s3)).put (n0 D nD)
          · rw [upd_ne (ne_of_none z0 nD)]
            exact s3 _ _ (s2 _ _ z1)
          · show upd G3 D _ D = _
            rw [upd_same, put_new (g := fun b => .int (b2i b)) (by omega)]
      · rintro G ⟨k1, z1, hD⟩
        refine ⟨z1, D, rfl, k1.unlock hf, ?_, n0 D nD⟩
        show upd G f _ D = _
        rw [upd_ne (Ne.symm (ne_of_none z0 nD))]
        exact hD
    rintro σ G ⟨D, rfl, s1, hD, nDH⟩
    have hm1 := s1 _ _ hm
    refine ⟨_, rfl, m, rfl, ⟨_, SqL.of hm1⟩, fun D2 nD2 => lc_list (K := K) (a := m) (xs := [.ref f]) (fun j G2 => Same G G2 ∧ G2 D2 = some (.lst (if j = 0 then [] else [V.bl true]))) ⟨Same.new nD2, upd_same⟩ (fun j G2 _ q => SqL.of (q.1 _ _ hm1)) ?_ ?_⟩
    · rintro j x G2 hj ⟨s2, h2⟩
      have hj : j = 0 := by
        have : j < 1 := (List.getElem?_eq_some_iff.mp hj).1
        omega
      subst hj
      exact ⟨rfl, _, h2, (by show 0 < sizeLine; decide), same_put s2 nD2, upd_same⟩
    · rintro G2 ⟨s2, h2⟩
      refine ⟨D2, true, rfl, SqL.of h2, fun G3 s3 => ⟨_, rfl, D, _, rfl, DPut.k (k := .inr (nm 11)) (v := .int (b2i true)) (s3 _ _ (s2 _ _ hD)) (by rw [kv_len, sizeLine_eq]; omega), ?_⟩⟩
      rw [put_every (g := fun b => .int (b2i b)) (by decide)]
      exact ⟨_, rfl, k D _ (same_put (s1.trans (s2.trans s3)) nDH) upd_same⟩
end
end Lay
set_option Elab.async false
set_option linter.all false
set_option maxRecDepth 100000
set_option maxHeartbeats 400000
set_option pp.maxSteps 900
namespace Lay
open PySem PySem.Spec PyProof.Rows L2 KwX StX
theorem ip_andB {X : Cx} : PIp X .BitAnd rAndB := fun pins s σ H x y v u Q I rx ry ⟨a, b, e1, e2, q⟩ => iop_and pins s σ H x y v u Q I rx ry ⟨_, _, e1, e2, by show Q (.int (Builtin.bitAnd _ _)) H; rw [and_b2i]; exact q⟩
theorem test_word : ∀ z ∈ testL, z = "long" ∨ (wordN z < 15 ∧ nm (wordN z) = z) := by decide +kernel
theorem inV_mem {z : Str} {zs : List Str} (h : inV (.str z) (zs.map V.str) = true) : z ∈ zs := by
  unfold inV at h
  rw [List.any_map, List.any_eq_true] at h
  obtain ⟨y, hy, e⟩ := h
  have : y = z := by
    have e : (y == z) = true := e
    exact beq_iff_eq.mp e
  exact this ▸ hy
theorem progT_word {t : Str} (h : progT t = true) : Txt.removeprefix t "not " ∈ testL := inV_mem h
def bfV : Option (Bool × Bool) → List V
  | none => []
  | some p => [.bl p.1, .bl p.2]
def bf1 : Option (Bool × Bool) → Bool
  | none => false
  | some p => p.1
def bf2 : Option (Bool × Bool) → Bool
  | none => false
  | some p => p.2
def behL (L : LS) (bf : Option (Bool × Bool)) : LS := setL (setL (setL L 12 (L 11 && bf.isNone)) 13 (L 11 && bf1 bf)) 14 (L 11 && bf2 bf)
theorem merge_more {x y z : V} : mergeK [] [((Sum.inr (nm 12) : Key), x), (.inr (nm 13), y), (.inr (nm 14), z)] = [(.inr (nm 12), x), (.inr (nm 13), y), (.inr (nm 14), z)] := by
  have e1 : ¬ (Sum.inr (nm 12) : Key) = Sum.inr (nm 13) := by decide +kernel
  have e2 : ¬ (Sum.inr (nm 12) : Key) = Sum.inr (nm 14) := by decide +kernel
  have e3 : ¬ (Sum.inr (nm 13) : Key) = Sum.inr (nm 14) := by decide +kernel
  simp [mergeK, putK, e1, e2, e3]
theorem merge_beh {g : Bool → V} {L : LS} {u v w : Bool} : mergeK (kvN g 12 L) [(.inr (nm 12), g u), (.inr (nm 13), g v), (.inr (nm 14), g w)] = kvN g 15 (setL (setL (setL L 12 u) 13 v) 14 w) := by
  unfold mergeK
  simp only [List.foldl_cons, List.foldl_nil]
  rw [put_every (by decide), put_every (by decide), put_every (by decide)]
abbrev sBeh : Stmt := top 15
abbrev sLong : Stmt := top 16
abbrev sHolds : Stmt := top 17
abbrev sDone : Stmt := top 18
def spBeh (K : PySem.W.Frag) : Sp := fun vs H Q _ => ∃ (t l : Addr) (bf : Option (Bool × Bool)) (L : LS), vs = [.ref t, .ref l] ∧ SqT K H t (bfV bf) ∧ LnAt 12 H l L ∧ ∀ p H', Same H H' → H p = none → LnAt 15 H' p (behL L bf) → Q (.ref p) H'
def spLong : Sp := fun vs H Q _ => ∃ (l : Addr) (L : LS), vs = [.ref l] ∧ LnAt 15 H l L ∧ Q (.int (b2i (longL L))) H
def spHolds : Sp := fun vs H Q _ => ∃ (l : Addr) (L : LS) (t : Str), vs = [.ref l, .str t] ∧ LnAt 15 H l L ∧ progT t = true ∧ t.length ≤ 20 ∧ Q (.int (b2i (holdL L t))) H
def spDone (C : Addr) : Sp := fun vs H Q _ => ∃ (l p : Addr) (L : LS) (r : RD), vs = [.ref l, .ref p] ∧ LnAt 15 H l L ∧ RowAt C H p r ∧ r.Ok ∧ (∀ z ∈ r.ws, progT z = true) ∧ Q (.int (b2i (whereL L r.ws (L 11)))) H
theorem if_lane {i j : Nat} {b e : Bool} {σ : L2.St} {H : Hp} {Q : VK} (h1 : σ[i]? = some (some (.bl b))) (h2 : σ[j]? = some (some (.int (b2i e)))) (k : Q (.int (b2i (e && b))) H) : tIf (tB (tVar i)) (tVar j) (tC (.int 0)) σ H Q := by
  refine ⟨_, h1, b, rfl, ?_⟩
  cases b with
  | true =>
    rw [Bool.and_true] at k
    exact iteY rfl ⟨_, h2, k⟩
  | false =>
    rw [Bool.and_false] at k
    exact iteN rfl k
section
variable {P : Program} {w : World} {K : PySem.W.Frag} {mg : Str → Option Value} {base : Heap}
theorem scBeh : FnScope ["before", "lanes", "every", "first", "broken", "behind"] ["before", "lanes"] (defScope sBeh) := ⟨rfl, rfl, rfl, by decide +kernel, rfl, by decide +kernel, by decide +kernel⟩
theorem ok_beh {f : Addr} {fd : FuncData} (F : Fun K "put_behind" "put_behind" sBeh f fd) (B : Bt mg) : FnOk P w K mg base CX0 1 f fd ["before", "lanes"] (spBeh K) := by
  refine F.ok scBeh (fun vs H Q E h => ?_) (fun cdv A outer s H vs Q E hr h => ?_)
  · obtain ⟨t, l, bf, L, rfl, _⟩ := h
    rfl
  · obtain ⟨t, l, bf, L, rfl, ht, hl, k⟩ := h
    have hu := hu_of hr
    refine ⟨_, (pss_cons (ps_set (i := 2) scBeh.nd rfl (.inl rfl) (pe_dget hu (pv 1) pe_str (fun _ _ => rfl)))
    (pss_cons (ps_set (i := 3) scBeh.nd rfl (.inl rfl) (pe_cmpR op_eq (pe_callB (call_lenK (K := K) rfl) (by rfl) B.len PySem.boot_len (pa_cons (pv 0) pa_nil)) pe_int (nomark _)))
    (C8.pss_cut (ps_asg (pe_ifExp (pt_val (pv 3)) (pe_tup (pa_cons pe_bl (pa_cons pe_bl pa_nil))) (pv 0)) (pg_tup rfl (pgs_cons (pg_name (i := 4) scBeh.nd rfl (.inl rfl)) (pgs_cons (pg_name (i := 5) scBeh.nd rfl (.inl rfl)) pgs_nil))))
    (pss_one (ps_ret (pe_star (pv 1) (pps_cons pe_str (pe_ifExp (pt_val (pv 3)) (pv 2) pe_int) (pps_cons pe_str (pe_ifExp (pt_val (pv 4)) (pv 2) pe_int) (pps_cons pe_str (pe_ifExp (pt_val (pv 5)) (pv 2) pe_int) pps_nil))) rfl rfl (by decide) (by decide))))))), ?_⟩
    refine ⟨_, rfl, l, _, rfl, hl.get 11 (by decide) (by decide), _, rfl, t, _, rfl, .inr ht, rfl, ?_⟩
    have e0 : decide (V.int ((bfV bf).length : Int) = V.int 0) = bf.isNone := by cases bf <;> rfl
    rw [e0]
    refine ⟨fun σ G => σ = [some (.ref t), some (.ref l), some (.int (b2i (L 11))), some (.bl bf.isNone), some (.bl (bf1 bf)), some (.bl (bf2 bf))] ∧ Same H G, ?_, ?_⟩
    · refine ⟨_, rfl, _, rfl, ?_⟩
      cases bf with
      | none => exact iteY rfl ⟨(by show 2 ≤ sizeLine; decide), fun q nq => ⟨q, _, rfl, SqT.of upd_same, rfl, _, _, rfl, _, _, rfl, rfl, rfl, Same.new nq⟩⟩
      | some p => exact iteN rfl ⟨_, rfl, t, _, rfl, ht, rfl, _, _, rfl, _, _, rfl, rfl, rfl, Same.rfl⟩
    rintro σ G ⟨rfl, sG⟩
    refine fun p np => ⟨_, rfl, l, _, rfl, upd_same, Same.new np _ _ (sG _ _ hl), ?_, by rw [kv_len]; decide, fun q nq => ?_⟩
    · exact ne_of_none (sG _ _ hl) np
    rw [merge_kv 12 (by decide)] at nq ⊢
    rw [upd_upd] at nq ⊢
    have v1 := Same.new np (o := .dK (kvN (fun b => .int (b2i b)) 12 L))
    have v2 := v1.trans (Same.new nq (o := .dK []))
    have pq : p ≠ q := ne_of_none upd_same nq
    refine if_lane rfl rfl ?_
    refine if_lane rfl rfl ?_
    refine if_lane rfl rfl ?_
    refine ⟨upd_same, by rw [upd_ne pq]; exact upd_same, [(.inr (nm 12), .int (b2i (L 11 && bf.isNone))), (.inr (nm 13), .int (b2i (L 11 && bf1 bf))), (.inr (nm 14), .int (b2i (L 11 && bf2 bf)))], rfl, (by show 3 ≤ 15; decide), ?_⟩
    rw [merge_more, merge_beh (g := fun b => .int (b2i b))]
    refine k p _ ?_ (sG.free np) upd_same
    exact same_put (sG.trans (same_put v2 (v1.free nq))) (sG.free np)
theorem scLong : FnScope ["lanes", "marked", "behind", "with_both"] ["lanes"] (defScope sLong) := ⟨rfl, rfl, rfl, by decide +kernel, rfl, by decide +kernel, by decide +kernel⟩
theorem ok_long {f : Addr} {fd : FuncData} (F : Fun K "where_long" "where_long" sLong f fd) : FnOk P w K mg base CX0 1 f fd ["lanes"] spLong := by
  refine F.ok scLong (fun vs H Q E h => ?_) (fun cdv A outer s H vs Q E hr h => ?_)
  · obtain ⟨l, L, rfl, _⟩ := h
    rfl
  · obtain ⟨l, L, rfl, hl, k⟩ := h
    have hu := hu_of hr
    refine ⟨_, (pss_cons (ps_set (i := 1) scLong.nd rfl (.inl rfl) (pe_dget hu (pv 0) pe_str (fun _ _ => rfl)))
    (pss_cons (ps_set (i := 2) scLong.nd rfl (.inl rfl) (pe_dget hu (pv 0) pe_str (fun _ _ => rfl)))
    (pss_cons (ps_set (i := 3) scLong.nd rfl (.inl rfl) (pe_op op_andB (pe_op op_andB (pv 1) (pv 2)) (pe_dget hu (pv 0) pe_str (fun _ _ => rfl))))
    (pss_one (ps_ret (pe_op op_orB (pe_op op_orB (pe_op op_orB (pe_dget hu (pv 0) pe_str (fun _ _ => rfl)) (pe_op op_andB (pv 1) (pe_dget hu (pv 0) pe_str (fun _ _ => rfl)))) (pe_op op_andB (pv 2) (pe_dget hu (pv 0) pe_str (fun _ _ => rfl)))) (pv 3))))))), ?_⟩
    have g := fun i hi => hl.get i hi (by decide)
    refine ⟨_, rfl, l, _, rfl, g 1 (by decide), _, rfl, l, _, rfl, g 4 (by decide), ?_⟩
    refine ⟨_, rfl, _, rfl, _, _, rfl, rfl, _, rfl, l, _, rfl, g 10 (by decide), _, _, rfl, rfl, ?_⟩
    refine ⟨_, rfl, l, _, rfl, g 7 (by decide), _, rfl, _, rfl, l, _, rfl, g 8 (by decide), _, _, rfl, rfl, _, _, rfl, rfl, _, rfl, _, rfl, l, _, rfl, g 9 (by decide), _, _, rfl, rfl, _, _, rfl, rfl, _, rfl, _, _, rfl, rfl, k⟩
theorem scHolds : FnScope ["lanes", "test", "word", "found"] ["lanes", "test"] (defScope sHolds) := ⟨rfl, rfl, rfl, by decide +kernel, rfl, by decide +kernel, by decide +kernel⟩
theorem ok_holds {f : Addr} {fd : FuncData} (F : Fun K "where_holds" "where_holds" sHolds f fd) (DL : Has P w K mg base CX0 1 "where_long" ["lanes"] spLong) : FnOk P w K mg base CX0 2 f fd ["lanes", "test"] spHolds := by
  refine F.ok scHolds (fun vs H Q E h => ?_) (fun cdv A outer s H vs Q E hr h => ?_)
  · obtain ⟨l, L, t, rfl, _⟩ := h
    rfl
  · obtain ⟨l, L, t, rfl, hl, pt, lt, k⟩ := h
    have hu := hu_of hr
    refine ⟨_, (pss_cons (ps_set (i := 2) scHolds.nd rfl (.inl rfl) (pe_bm PySem.F.plainAttrs_str PySem.F.slot_str_removeprefix PySem.F.type_str_removeprefix mt_removeprefix (pv 1) (pa_cons pe_str pa_nil)))
    (C8.pss_cut (ps_set (i := 3) scHolds.nd rfl (.inl rfl) (pe_ifExp (pt_cmpR op_eq (pv 2) pe_str (nomark _)) (pe_callH DL hr (by rfl) pass0 (pa_cons (pv 0) pa_nil)) (pe_dget hu (pv 0) (pv 2) (fun _ _ => rfl))))
    (pss_one (ps_ret (pe_ifExp (pt_cmpR op_eq (pv 2) (pv 1) (nomark _)) (pv 3) (pe_op op_andN (pe_dget hu (pv 0) pe_str (fun _ _ => rfl)) (pe_un un_inv (pv 3)))))))), ?_⟩
    have g := fun i hi => hl.get i hi (by decide)
    refine ⟨_, rfl, rfl, t, "not ", rfl, rfl, fits (by omega), ?_⟩
    have hw := progT_word pt
    generalize ez : Txt.removeprefix t "not " = z at hw ⊢
    refine ⟨fun σ G => σ = [some (.ref l), some (.str t), some (.str z), some (.int (b2i (if z = "long" then longL L else L (wordN z))))] ∧ G = H, ?_, ?_⟩
    · refine ⟨_, rfl, rfl, _, rfl, ?_⟩
      by_cases e : z = "long"
      · rw [if_pos e]
        exact iteY (by rw [e]; simp) ⟨_, rfl, l, L, rfl, hl, rfl, rfl⟩
      · rw [if_neg e]
        rcases test_word z hw with e2 | ⟨n1, n2⟩
        · exact absurd e2 e
        refine iteN (by simp [e]) ⟨_, rfl, _, rfl, l, _, rfl, ?_, rfl, rfl⟩
        have := g (wordN z) n1
        rw [n2] at this
        exact this
    rintro σ G ⟨rfl, rfl⟩
    refine ⟨_, rfl, _, rfl, rfl, _, rfl, ?_⟩
    unfold holdL at k
    simp only [ez] at k
    by_cases e : z = t
    · rw [if_pos e] at k
      exact iteY (by rw [e]; simp) ⟨_, rfl, k⟩
    · rw [if_neg e] at k
      exact iteN (by simp [e]) ⟨_, rfl, l, _, rfl, g 11 (by decide), _, rfl, _, rfl, _, _, rfl, rfl, k⟩
theorem scDone : FnScope ["lanes", "row", "where", "test"] ["lanes", "row"] (defScope sDone) := ⟨rfl, rfl, rfl, by decide +kernel, rfl, by decide +kernel, by decide +kernel⟩
theorem ok_done {f C : Addr} {fd : FuncData} (F : Fun K "where_done" "where_done" sDone f fd) (Z : RowC K C) (DH : Has P w K mg base CX0 2 "where_holds" ["lanes", "test"] spHolds) : FnOk P w K mg base CX0 3 f fd ["lanes", "row"] (spDone C) := by
  refine F.ok scDone (fun vs H Q E h => ?_) (fun cdv A outer s H vs Q E hr h => ?_)
  · obtain ⟨l, p, L, r, rfl, _⟩ := h
    rfl
  · obtain ⟨l, p, L, r, rfl, hl, ⟨dx, t, d, hp, ht, hd⟩, o, pt, k⟩ := h
    have hu := hu_of hr
    refine ⟨_, (pss_cons (ps_set (i := 2) scDone.nd rfl (.inl rfl) (pe_dget hu (pv 0) pe_str (fun _ _ => rfl)))
    (pss_cons (ps_for PassesOwn.never rfl (pi_tup (pe_fld (pv 1) rfl)) (pg_name (i := 3) scDone.nd rfl (.inl rfl))
      (pss_one (ps_aug (i := 2) scDone.nd rfl (.inl rfl) (pe_callH DH hr (by rfl) pass0 (pa_cons (pv 0) (pa_cons (pv 3) pa_nil))) ip_andB)))
    (pss_one (ps_ret (pv 2))))), ?_⟩
    refine ⟨_, rfl, l, _, rfl, hl.get 11 (by decide) (by decide), _, rfl, p, C, dx, _, _, rfl, hp, Z.cl, Z.tests, rfl, t, rfl, ⟨_, SqT.of ht⟩, for_tup (K := K) (xs := r.ws.map V.str) (fun i σ G => ∃ (b : Bool) (x3 : Option V), σ = [some (.ref l), some (.ref p), some (.int (b2i b)), x3] ∧ G = H ∧ whereL L (r.ws.drop i) b = whereL L r.ws (L 11)) ⟨_, _, rfl, rfl, rfl⟩ (fun i σ G _ z => by
      obtain ⟨_, _, _, z, _⟩ := z
      rw [z]
      exact SqT.of ht) ?_ ?_⟩
    · rintro i x σ G hi ⟨b, x3, rfl, rfl, e⟩
      obtain ⟨z, ez, rfl⟩ := str_at hi
      have hz := List.mem_of_getElem? ez
      have li := (List.getElem?_eq_some_iff.mp ez).1
      refine ⟨_, rfl, _, rfl, _, rfl, l, L, z, rfl, hl, pt z hz, o.w z hz, _, _, rfl, rfl, _, _, rfl, rfl, ?_⟩
      rw [List.drop_eq_getElem_cons li] at e
      have e3 : r.ws[i] = z := (List.getElem?_eq_some_iff.mp ez).2
      rw [e3] at e
      exact e
    · rintro σ G ⟨b, x3, rfl, rfl, e⟩
      rw [List.length_map, List.drop_length] at e
      have e : b = whereL L r.ws (L 11) := e
      subst e
      exact ⟨_, rfl, k⟩
end
end Lay
set_option Elab.async false
set_option linter.all false
set_option maxRecDepth 100000
set_option maxHeartbeats 400000
set_option pp.maxSteps 900
namespace Lay
open PySem PySem.Spec PyProof.Rows L2 KwX StX
/-! ### what is done to lanes -/
def lnO (L : LS) : HO := .dK (kvN (fun b => .int (b2i b)) 15 L)
def spDo (i : Nat) : Sp := fun vs H Q _ => ∃ (l : Addr) (L : LS) (w : Bool), vs = [.ref l, .int (b2i w)] ∧ LnAt 15 H l L ∧ Q .non (upd H l (lnO (doL i w L)))
section
variable {P : Program} {w : World} {K : PySem.W.Frag} {mg : Str → Option Value} {base : Heap}
abbrev sBreak : Stmt := top 19
theorem scBreak : FnScope ["lanes", "where"] ["lanes", "where"] (defScope sBreak) := ⟨rfl, rfl, rfl, by decide +kernel, rfl, by decide +kernel, by decide +kernel⟩
theorem ok_break {f : Addr} {fd : FuncData} (F : Fun K "do_break" "do_break" sBreak f fd) : FnOk P w K mg base CX0 1 f fd ["lanes", "where"] (spDo 0) := by
  refine F.ok scBreak (fun vs H Q E h => ?_) (fun cdv A outer s H vs Q E hr h => ?_)
  · obtain ⟨l, L, w0, rfl, _⟩ := h
    rfl
  · obtain ⟨l, L, w0, rfl, hl, k⟩ := h
    have hu := hu_of hr
    refine ⟨_, pss_one (ps_daug hu (pv 0) pe_str (pv 1) in_orB (fun _ _ _ => rfl)), ?_⟩
    refine ⟨_, rfl, l, _, rfl, hl.get 0 (by decide) (by decide), _, rfl, _, _, rfl, rfl, _, hl.put 0 (by decide) (by decide), ?_⟩
    exact k
abbrev sJoin : Stmt := top 20
theorem scJoin : FnScope ["lanes", "where"] ["lanes", "where"] (defScope sJoin) := ⟨rfl, rfl, rfl, by decide +kernel, rfl, by decide +kernel, by decide +kernel⟩
theorem ok_join {f : Addr} {fd : FuncData} (F : Fun K "do_join" "do_join" sJoin f fd) : FnOk P w K mg base CX0 1 f fd ["lanes", "where"] (spDo 1) := by
  refine F.ok scJoin (fun vs H Q E h => ?_) (fun cdv A outer s H vs Q E hr h => ?_)
  · obtain ⟨l, L, w0, rfl, _⟩ := h
    rfl
  · obtain ⟨l, L, w0, rfl, hl, k⟩ := h
    have hu := hu_of hr
    refine ⟨_, pss_one (ps_daug hu (pv 0) pe_str (pe_un un_inv (pv 1)) in_andN (fun _ _ _ => rfl)), ?_⟩
    refine ⟨_, rfl, l, _, rfl, hl.get 0 (by decide) (by decide), _, rfl, _, rfl, _, _, rfl, rfl, _, hl.put 0 (by decide) (by decide), ?_⟩
    exact k
abbrev sMark : Stmt := top 21
theorem scMark : FnScope ["lanes", "where"] ["lanes", "where"] (defScope sMark) := ⟨rfl, rfl, rfl, by decide +kernel, rfl, by decide +kernel, by decide +kernel⟩
theorem ok_mark {f : Addr} {fd : FuncData} (F : Fun K "do_mark" "do_mark" sMark f fd) : FnOk P w K mg base CX0 1 f fd ["lanes", "where"] (spDo 2) := by
  refine F.ok scMark (fun vs H Q E h => ?_) (fun cdv A outer s H vs Q E hr h => ?_)
  · obtain ⟨l, L, w0, rfl, _⟩ := h
    rfl
  · obtain ⟨l, L, w0, rfl, hl, k⟩ := h
    have hu := hu_of hr
    refine ⟨_, pss_one (ps_daug hu (pv 0) pe_str (pv 1) in_orB (fun _ _ _ => rfl)), ?_⟩
    refine ⟨_, rfl, l, _, rfl, hl.get 1 (by decide) (by decide), _, rfl, _, _, rfl, rfl, _, hl.put 1 (by decide) (by decide), ?_⟩
    exact k
abbrev sUnmark : Stmt := top 22
theorem scUnmark : FnScope ["lanes", "where"] ["lanes", "where"] (defScope sUnmark) := ⟨rfl, rfl, rfl, by decide +kernel, rfl, by decide +kernel, by decide +kernel⟩
theorem ok_unmark {f : Addr} {fd : FuncData} (F : Fun K "do_unmark" "do_unmark" sUnmark f fd) : FnOk P w K mg base CX0 1 f fd ["lanes", "where"] (spDo 3) := by
  refine F.ok scUnmark (fun vs H Q E h => ?_) (fun cdv A outer s H vs Q E hr h => ?_)
  · obtain ⟨l, L, w0, rfl, _⟩ := h
    rfl
  · obtain ⟨l, L, w0, rfl, hl, k⟩ := h
    have hu := hu_of hr
    refine ⟨_, pss_one (ps_daug hu (pv 0) pe_str (pe_un un_inv (pv 1)) in_andN (fun _ _ _ => rfl)), ?_⟩
    refine ⟨_, rfl, l, _, rfl, hl.get 1 (by decide) (by decide), _, rfl, _, rfl, _, _, rfl, rfl, _, hl.put 1 (by decide) (by decide), ?_⟩
    exact k
abbrev sLift : Stmt := top 23
theorem scLift : FnScope ["lanes", "where", "moved"] ["lanes", "where"] (defScope sLift) := ⟨rfl, rfl, rfl, by decide +kernel, rfl, by decide +kernel, by decide +kernel⟩
theorem ok_lift {f : Addr} {fd : FuncData} (F : Fun K "do_lift" "do_lift" sLift f fd) : FnOk P w K mg base CX0 1 f fd ["lanes", "where"] (spDo 4) := by
  refine F.ok scLift (fun vs H Q E h => ?_) (fun cdv A outer s H vs Q E hr h => ?_)
  · obtain ⟨l, L, w0, rfl, _⟩ := h
    rfl
  · obtain ⟨l, L, w0, rfl, hl, k⟩ := h
    have hu := hu_of hr
    refine ⟨_, pss_cons (ps_set (i := 2) scLift.nd rfl (.inl rfl) (pe_op op_andN (pe_op op_andB (pv 1) (pe_dget hu (pv 0) pe_str (fun _ _ => rfl))) (pe_un un_inv (pe_dget hu (pv 0) pe_str (fun _ _ => rfl)))))
      (pss_cons (ps_daug hu (pv 0) pe_str (pv 2) in_orB (fun _ _ _ => rfl))
      (pss_one (ps_daug hu (pv 0) pe_str (pe_un un_inv (pv 2)) in_andN (fun _ _ _ => rfl)))), ?_⟩
    refine ⟨_, rfl, _, rfl, l, _, rfl, hl.get 4 (by decide) (by decide), _, _, rfl, rfl, _, rfl, l, _, rfl, hl.get 3 (by decide) (by decide), _, rfl, _, _, rfl, rfl, ?_⟩
    refine ⟨_, rfl, l, _, rfl, hl.get 3 (by decide) (by decide), _, rfl, _, _, rfl, rfl, _, hl.put 3 (by decide) (by decide), ?_⟩
    refine ⟨_, rfl, l, _, rfl, (LnAt.set (n := 15)).get 4 (by decide) (by decide), _, rfl, _, rfl, _, _, rfl, rfl, _, (LnAt.set (n := 15)).put 4 (by decide) (by decide), ?_⟩
    rw [upd_upd]
    exact k
abbrev sLower : Stmt := top 24
theorem scLower : FnScope ["lanes", "where", "moved"] ["lanes", "where"] (defScope sLower) := ⟨rfl, rfl, rfl, by decide +kernel, rfl, by decide +kernel, by decide +kernel⟩
theorem ok_lower {f : Addr} {fd : FuncData} (F : Fun K "do_lower" "do_lower" sLower f fd) : FnOk P w K mg base CX0 1 f fd ["lanes", "where"] (spDo 5) := by
  refine F.ok scLower (fun vs H Q E h => ?_) (fun cdv A outer s H vs Q E hr h => ?_)
  · obtain ⟨l, L, w0, rfl, _⟩ := h
    rfl
  · obtain ⟨l, L, w0, rfl, hl, k⟩ := h
    have hu := hu_of hr
    refine ⟨_, pss_cons (ps_set (i := 2) scLower.nd rfl (.inl rfl) (pe_op op_andN (pe_op op_andB (pv 1) (pe_dget hu (pv 0) pe_str (fun _ _ => rfl))) (pe_un un_inv (pe_dget hu (pv 0) pe_str (fun _ _ => rfl)))))
      (pss_cons (ps_daug hu (pv 0) pe_str (pv 2) in_orB (fun _ _ _ => rfl))
      (pss_one (ps_daug hu (pv 0) pe_str (pe_un un_inv (pv 2)) in_andN (fun _ _ _ => rfl)))), ?_⟩
    refine ⟨_, rfl, _, rfl, l, _, rfl, hl.get 3 (by decide) (by decide), _, _, rfl, rfl, _, rfl, l, _, rfl, hl.get 4 (by decide) (by decide), _, rfl, _, _, rfl, rfl, ?_⟩
    refine ⟨_, rfl, l, _, rfl, hl.get 4 (by decide) (by decide), _, rfl, _, _, rfl, rfl, _, hl.put 4 (by decide) (by decide), ?_⟩
    refine ⟨_, rfl, l, _, rfl, (LnAt.set (n := 15)).get 3 (by decide) (by decide), _, rfl, _, rfl, _, _, rfl, rfl, _, (LnAt.set (n := 15)).put 3 (by decide) (by decide), ?_⟩
    rw [upd_upd]
    exact k
abbrev sSpace : Stmt := top 25
theorem scSpace : FnScope ["lanes", "where"] ["lanes", "where"] (defScope sSpace) := ⟨rfl, rfl, rfl, by decide +kernel, rfl, by decide +kernel, by decide +kernel⟩
theorem ok_space {f : Addr} {fd : FuncData} (F : Fun K "do_space" "do_space" sSpace f fd) : FnOk P w K mg base CX0 1 f fd ["lanes", "where"] (spDo 6) := by
  refine F.ok scSpace (fun vs H Q E h => ?_) (fun cdv A outer s H vs Q E hr h => ?_)
  · obtain ⟨l, L, w0, rfl, _⟩ := h
    rfl
  · obtain ⟨l, L, w0, rfl, hl, k⟩ := h
    have hu := hu_of hr
    refine ⟨_, pss_cons (ps_daug hu (pv 0) pe_str (pv 1) in_orB (fun _ _ _ => rfl))
      (pss_one (ps_daug hu (pv 0) pe_str (pe_un un_inv (pv 1)) in_andN (fun _ _ _ => rfl))), ?_⟩
    refine ⟨_, rfl, l, _, rfl, hl.get 5 (by decide) (by decide), _, rfl, _, _, rfl, rfl, _, hl.put 5 (by decide) (by decide), ?_⟩
    refine ⟨_, rfl, l, _, rfl, (LnAt.set (n := 15)).get 6 (by decide) (by decide), _, rfl, _, rfl, _, _, rfl, rfl, _, (LnAt.set (n := 15)).put 6 (by decide) (by decide), ?_⟩
    rw [upd_upd]
    exact k
abbrev sClose : Stmt := top 26
theorem scClose : FnScope ["lanes", "where"] ["lanes", "where"] (defScope sClose) := ⟨rfl, rfl, rfl, by decide +kernel, rfl, by decide +kernel, by decide +kernel⟩
theorem ok_close {f : Addr} {fd : FuncData} (F : Fun K "do_close" "do_close" sClose f fd) : FnOk P w K mg base CX0 1 f fd ["lanes", "where"] (spDo 7) := by
  refine F.ok scClose (fun vs H Q E h => ?_) (fun cdv A outer s H vs Q E hr h => ?_)
  · obtain ⟨l, L, w0, rfl, _⟩ := h
    rfl
  · obtain ⟨l, L, w0, rfl, hl, k⟩ := h
    have hu := hu_of hr
    refine ⟨_, pss_cons (ps_daug hu (pv 0) pe_str (pe_un un_inv (pv 1)) in_andN (fun _ _ _ => rfl))
      (pss_one (ps_daug hu (pv 0) pe_str (pe_un un_inv (pv 1)) in_andN (fun _ _ _ => rfl))), ?_⟩
    refine ⟨_, rfl, l, _, rfl, hl.get 5 (by decide) (by decide), _, rfl, _, rfl, _, _, rfl, rfl, _, hl.put 5 (by decide) (by decide), ?_⟩
    refine ⟨_, rfl, l, _, rfl, (LnAt.set (n := 15)).get 6 (by decide) (by decide), _, rfl, _, rfl, _, _, rfl, rfl, _, (LnAt.set (n := 15)).put 6 (by decide) (by decide), ?_⟩
    rw [upd_upd]
    exact k
end
end Lay
set_option Elab.async false
set_option linter.all false
set_option maxRecDepth 100000
set_option maxHeartbeats 400000
set_option pp.maxSteps 900
namespace Lay
open PySem PySem.Spec PyProof.Rows L2 KwX StX
/-! ### rows done -/
theorem pe_any {X : Cx} {e : Expr} {ι : Type} {t : ι → TE} (h : ∀ i, PE X e (t i)) : PE X e (fun σ H Q => ∃ i, t i σ H Q) := ⟨fun pins s σ H Q I ⟨i, q⟩ => (h i).run pins s σ H Q I q⟩
theorem upd_id {H : Hp} {a : Addr} {o : HO} (h : H a = some o) : upd H a o = H := funext fun b => by
  by_cases e : b = a
  · rw [e, upd_same, h]
  · rw [upd_ne e]
def dm (i : Nat) : Str := deedL.getD i ""
theorem deed_word : ∀ z ∈ deedL, deedN z < 8 ∧ dm (deedN z) = z := by decide +kernel
theorem progD_mem {z : Str} (h : progD z = true) : z ∈ deedL := inV_mem h
/-- the defs that stand in DOING -/
structure DoF (P : Program) (w : World) (K : PySem.W.Frag) (mg : Str → Option Value) (base : Heap) (DO : Addr) (fa : Nat → Addr) : Prop where
  ok : ∀ i < 8, FnR P w K mg base CX0 1 (fa i) (spDo i)
  kp : ∀ i < 8, PySem.W.keepIn K (.ref (fa i)) = true
  at_ : ∀ i < 8, KDct K w DO (dm i) (.ref (fa i))
theorem RowAt.put {C : Addr} {H : Hp} {p l : Addr} {r : RD} {L : LS} {o : HO} (h : RowAt C H p r) (hl : LnAt 15 H l L) : RowAt C (upd H l o) p r := by
  obtain ⟨dx, t, d, h1, h2, h3⟩ := h
  refine ⟨dx, t, d, ?_, ?_, ?_⟩
  · rw [upd_ne (ne_of h1 hl (fun z => nomatch z))]
    exact h1
  · rw [upd_ne (ne_of h2 hl (fun z => nomatch z))]
    exact h2
  · rw [upd_ne (ne_of h3 hl (fun z => nomatch z))]
    exact h3
abbrev sRow : Stmt := top 28
abbrev sRows : Stmt := top 29
def GoodR (r : RD) : Prop := r.Ok ∧ (∀ z ∈ r.ws, progT z = true) ∧ ∀ z ∈ r.us, progD z = true
def spRow (C : Addr) : Sp := fun vs H Q _ => ∃ (l p : Addr) (L : LS) (r : RD), vs = [.ref l, .ref p] ∧ LnAt 15 H l L ∧ RowAt C H p r ∧ GoodR r ∧ Q .non (upd H l (lnO (rowL r L)))
def spRows (K : PySem.W.Frag) (C : Addr) : Sp := fun vs H Q _ => ∃ (t b l : Addr) (xs : List V) (rs : List RD) (bf : Option (Bool × Bool)) (L : LS), vs = [.ref t, .ref b, .ref l] ∧ SqT K H t xs ∧ RowsAt C H xs rs ∧ (∀ r ∈ rs, GoodR r) ∧ SqT K H b (bfV bf) ∧ LnAt 12 H l L ∧
  ∀ p H', Same H H' → LnAt 15 H' p (rowsL rs (behL L bf)) → Q (.ref p) H'
section
variable {P : Program} {w : World} {K : PySem.W.Frag} {mg : Str → Option Value} {base : Heap}
theorem scRow : FnScope ["lanes", "row", "where", "word", "deed"] ["lanes", "row"] (defScope sRow) := ⟨rfl, rfl, rfl, by decide +kernel, rfl, by decide +kernel, by decide +kernel⟩
theorem ok_row {f C DO : Addr} {fa : Nat → Addr} {fd : FuncData} (F : Fun K "do_row" "do_row" sRow f fd) (Z : RowC K C) (D : DoF P w K mg base DO fa) (gDO : mg "DOING" = some (.ref DO)) (DW : Has P w K mg base CX0 3 "where_done" ["lanes", "row"] (spDone C)) : FnOk P w K mg base CX0 4 f fd ["lanes", "row"] (spRow C) := by
  refine F.ok scRow (fun vs H Q E h => ?_) (fun cdv A outer s H vs Q E hr h => ?_)
  · obtain ⟨l, p, L, r, rfl, _⟩ := h
    rfl
  · obtain ⟨l, p, L, r, rfl, hl, hp, ⟨o, pt, pd⟩, k⟩ := h
    have hr1 := hr.mono (show 1 ≤ 3 by decide)
    refine ⟨_, (pss_cons (ps_set (i := 2) scRow.nd rfl (.inl rfl) (pe_callH DW hr (by rfl) pass0 (pa_cons (pv 0) (pa_cons (pv 1) pa_nil))))
    (pss_one (ps_for PassesOwn.never rfl (pi_tup (pe_fld (pv 1) rfl)) (pg_name (i := 3) scRow.nd rfl (.inl rfl))
      (pss_cons (ps_set (i := 4) scRow.nd rfl (.inl rfl) (pe_ix ix_kdict (pe_glob (v := .ref DO) (by rfl) gDO rfl) (pv 3) (fun _ _ => rfl)))
      (pss_one (ps_expr (pe_any fun i : Fin 8 => ItX.pe_callV (i := 4) (D.ok i.1 i.2) hr1 (D.kp i.1 i.2) pass0 rfl (.inl rfl) (pa_cons (pv 0) (pa_cons (pv 2) pa_nil))))))))), ?_⟩
    refine ⟨_, rfl, _, rfl, l, p, L, r, rfl, hl, hp, o, pt, ?_⟩
    obtain ⟨dx, t, d, h1, h2, h3⟩ := id hp
    have e0 : upd H l (lnO L) = H := upd_id hl
    refine ⟨_, rfl, p, C, dx, _, _, rfl, h1, Z.cl, Z.deeds, rfl, d, rfl, ⟨_, SqT.of h3⟩, for_tup (K := K) (xs := r.us.map V.str) (fun i σ G => ∃ (M : LS) (x3 x4 : Option V), σ = [some (.ref l), some (.ref p), some (.int (b2i (whereL L r.ws (L 11)))), x3, x4] ∧ G = upd H l (lnO M) ∧ deedsL (whereL L r.ws (L 11)) (r.us.drop i) M = rowL r L) ⟨L, _, _, rfl, e0.symm, rfl⟩ (fun i σ G _ z => by
      obtain ⟨M, _, _, _, z, _⟩ := z
      rw [z]
      have h4 : upd H l (lnO M) d = some (.tup (r.us.map V.str)) := by
        rw [upd_ne (ne_of h3 hl (fun z => nomatch z))]
        exact h3
      exact SqT.of h4) ?_ ?_⟩
    · rintro i x σ G hi ⟨M, x3, x4, rfl, rfl, e⟩
      obtain ⟨z, ez, rfl⟩ := str_at hi
      have hz := List.mem_of_getElem? ez
      have li := (List.getElem?_eq_some_iff.mp ez).1
      obtain ⟨n8, nz⟩ := deed_word z (progD_mem (pd z hz))
      have ka := D.at_ _ n8
      rw [nz] at ka
      refine ⟨_, rfl, DO, z, _, rfl, rfl, ka, ⟨deedN z, n8⟩, rfl, _, rfl, _, rfl, l, M, _, rfl, upd_same, ?_⟩
      rw [upd_upd]
      rw [List.drop_eq_getElem_cons li, (List.getElem?_eq_some_iff.mp ez).2] at e
      exact ⟨_, _, _, rfl, rfl, e⟩
    · rintro σ G ⟨M, x3, x4, rfl, rfl, e⟩
      rw [List.length_map, List.drop_length] at e
      have e : M = rowL r L := e
      subst e
      exact k
theorem scRows : FnScope ["rows", "before", "lanes", "now", "row"] ["rows", "before", "lanes"] (defScope sRows) := ⟨rfl, rfl, rfl, by decide +kernel, rfl, by decide +kernel, by decide +kernel⟩
theorem ok_rows {f C : Addr} {fd : FuncData} (F : Fun K "rows_done" "rows_done" sRows f fd) (DB : Has P w K mg base CX0 1 "put_behind" ["before", "lanes"] (spBeh K)) (DR : Has P w K mg base CX0 4 "do_row" ["lanes", "row"] (spRow C)) : FnOk P w K mg base CX0 5 f fd ["rows", "before", "lanes"] (spRows K C) := by
  refine F.ok scRows (fun vs H Q E h => ?_) (fun cdv A outer s H vs Q E hr h => ?_)
  · obtain ⟨t, b, l, xs, rs, bf, L, rfl, _⟩ := h
    rfl
  · obtain ⟨t, b, l, xs, rs, bf, L, rfl, ht, hx, gd, hb, hl, k⟩ := h
    have hr1 := hr.mono (show 1 ≤ 4 by decide)
    refine ⟨_, (pss_cons (ps_set (i := 3) scRows.nd rfl (.inl rfl) (pe_callH DB hr1 (by rfl) pass0 (pa_cons (pv 1) (pa_cons (pv 2) pa_nil))))
    (pss_cons (ps_for PassesOwn.never rfl (pi_tup (pv 0)) (pg_name (i := 4) scRows.nd rfl (.inl rfl))
      (pss_one (ps_expr (pe_callH DR hr (by rfl) pass0 (pa_cons (pv 3) (pa_cons (pv 4) pa_nil))))))
    (pss_one (ps_ret (pv 3))))), ?_⟩
    refine ⟨_, rfl, _, rfl, b, l, bf, L, rfl, hb, hl, fun p H1 s1 np hp => ?_⟩
    refine ⟨_, rfl, t, rfl, ⟨_, SqT.same s1 ht⟩, for_tup (K := K) (xs := xs) (fun i σ G => ∃ (M : LS) (x4 : Option V), σ = [some (.ref t), some (.ref b), some (.ref l), some (.ref p), x4] ∧ Same H G ∧ LnAt 15 G p M ∧ rowsL (rs.drop i) M = rowsL rs (behL L bf)) ⟨_, _, rfl, s1, hp, rfl⟩ (fun i σ G _ z => by
      obtain ⟨_, _, _, z, _⟩ := z
      exact SqT.same z ht) ?_ ?_⟩
    · rintro i x σ G hi ⟨M, x4, rfl, sG, hG, e⟩
      have li := (List.getElem?_eq_some_iff.mp hi).1
      rw [hx.1] at li
      obtain ⟨r, er⟩ : ∃ r, rs[i]? = some r := ⟨_, List.getElem?_eq_getElem li⟩
      obtain ⟨q, rfl, hq⟩ := hx.2.2 i x r hi er
      refine ⟨_, rfl, _, rfl, p, q, M, r, rfl, hG, hq.same sG, gd r (List.mem_of_getElem? er), ?_⟩
      rw [List.drop_eq_getElem_cons li, (List.getElem?_eq_some_iff.mp er).2] at e
      exact ⟨_, _, rfl, same_put sG np, upd_same, e⟩
    · rintro σ G ⟨M, x4, rfl, sG, hG, e⟩
      rw [hx.1, List.drop_length] at e
      have e : M = rowsL rs (behL L bf) := e
      subst e
      exact ⟨_, rfl, k p G sG hG⟩
end
end Lay
set_option Elab.async false
set_option linter.all false
set_option maxRecDepth 100000
set_option maxHeartbeats 8000000
set_option pp.maxSteps 900
namespace Lay
open PySem PySem.Spec PyProof.Rows L2
/-! the forms, as data -/
structure Fm where
  sz : Nat
  b : Bool
  m : Bool
  a : Bool
  h : Bool
  n : Nat
  l : Bool
  deriving DecidableEq
/-- sizes in the order of texts -/
def sizeS : Nat → Str
  | 0 => "even"
  | 1 => "just"
  | 2 => "over"
  | 3 => "tight"
  | _ => "wide"
def Fm.data (f : Fm) : PyData := .tuple [.str (sizeS f.sz), .bool f.b, .bool f.m, .bool f.a, .bool f.h, .int f.n, .bool f.l]
/-- what the law makes of one number -/
def codeForms (c : Nat) : List Fm :=
  ([2, 0, 4] ++ (if (c / 4 % 2 == 1 || c / 8 % 2 == 1) = true then [3, 1] else [])).map fun s => ⟨s, c % 2 == 1, c / 2 % 2 == 1, c / 4 % 2 == 1, c / 8 % 2 == 1, c / 32, c / 16 % 2 == 1⟩
def lawForms : List Fm := (List.range 96).flatMap codeForms
theorem law_len : lawForms.length = 432 := by decide +kernel
theorem law_ok : (lawForms.all fun f => decide (f.sz < 5) && decide (f.n < 3)) = true := by decide +kernel
theorem law_fm {f : Fm} (h : f ∈ lawForms) : f.sz < 5 ∧ f.n < 3 := by
  have := law_ok
  rw [List.all_eq_true] at this
  have := this f h
  rw [Bool.and_eq_true] at this
  exact ⟨of_decide_eq_true this.1, of_decide_eq_true this.2⟩
end Lay
set_option Elab.async false
set_option linter.all false
set_option maxRecDepth 100000
set_option maxHeartbeats 4000000
set_option pp.maxSteps 1500
namespace Lay
open PySem PySem.Spec PyProof.Rows L2 KwX StX
/-! the law's forms -/
theorem op_catTK {X : Cx} {K : PySem.W.Frag} (hK : X.K = K) : OpR X (binaryOp .Add) (rCatT K) := by
  subst hK
  exact op_catT
def FmV (f : Fm) : List V := [.str (sizeS f.sz), .bl f.b, .bl f.m, .bl f.a, .bl f.h, .int f.n, .bl f.l]
def AtF (G : Hp) (p : Addr) (f : Fm) : Prop := G p = some (.tup (FmV f))
theorem AtF.dp {K : PySem.W.Frag} {G : Hp} {p : Addr} {f : Fm} (h : AtF G p f) : Dp K G (.ref p) f.data :=
  .tup (SqT.of h) (.cons (.str _) (.cons (.bl _) (.cons (.bl _) (.cons (.bl _) (.cons (.bl _) (.cons (.int _) (.cons (.bl _) .nil)))))))
theorem AtF.same {G G' : Hp} {p : Addr} {f : Fm} (s : Same G G') (h : AtF G p f) : AtF G' p f := s _ _ h
theorem AtF.put {G : Hp} {F p : Addr} {f : Fm} {xs : List V} {o : HO} (hF : G F = some (.lst xs)) (h : AtF G p f) : AtF (upd G F o) p f := by
  have ne : p ≠ F := ne_of h hF (fun z => nomatch z)
  show upd G F o p = _
  rw [upd_ne ne]
  exact h
abbrev sLFs : Stmt := top 55
def LFsN : List Str := ["_law_found", "_law_code", "_law_flags", "_law_left", "_law_at", "_law_rest", "_law_sizes", "_law_size"]
abbrev LFsP : List Str := []
def spLForms (K : PySem.W.Frag) : Sp := fun vs H Q _ => vs = [] ∧ ∀ F ps H', H F = none → Same H H' → H' F = some (.lst (ps.map V.ref)) → Paired (AtF H') ps lawForms → Q (.ref F) H'
def bitN (c j : Nat) : Bool := c / 2 ^ j % 2 == 1
theorem bit_of (n : Nat) : decide (V.int ((n : Int) % 2) = V.int 1) = (n % 2 == 1) := by
  rw [dec_int, Bool.eq_iff_iff, beq_iff_eq, beq_iff_eq]
  omega
theorem half_of (n : Nat) : (n : Int) / 2 = ((n / 2 : Nat) : Int) := by omega
theorem pow_half (c j : Nat) : c / 2 ^ j / 2 = c / 2 ^ (j + 1) := by rw [Nat.div_div_eq_div_mul, Nat.pow_succ]
/-- sizes of a number -/
def szL (c : Nat) : List Nat := [2, 0, 4] ++ (if (bitN c 2 || bitN c 3) = true then [3, 1] else [])
def restV (c : Nat) : List V := [.bl (bitN c 0), .bl (bitN c 1), .bl (bitN c 2), .bl (bitN c 3), .int ((c / 2 ^ 5 : Nat) : Int), .bl (bitN c 4)]
def fmC (c s : Nat) : Fm := ⟨s, bitN c 0, bitN c 1, bitN c 2, bitN c 3, c / 2 ^ 5, bitN c 4⟩
theorem code_eq (c : Nat) : codeForms c = (szL c).map (fmC c) := by
  have e : c / 2 ^ 0 = c := by rw [Nat.pow_zero, Nat.div_one]
  have e0 : bitN c 0 = (c % 2 == 1) := by unfold bitN; rw [e]
  unfold codeForms szL fmC
  rw [e0]
  rfl
theorem fmC_V (c s : Nat) : FmV (fmC c s) = [V.str (sizeS s)] ++ restV c := rfl
theorem pair_app {α β : Type} {F : α → β → Prop} : ∀ {a : List α} {b : List β} {c : List α} {d : List β}, Paired F a b → Paired F c d → Paired F (a ++ c) (b ++ d)
  | _, _, _, _, .nil, h => h
  | _, _, _, _, .cons x y, h => .cons x (pair_app y h)
theorem few_codes : ∀ i : Nat, ((List.range i).flatMap codeForms).length ≤ 5 * i
  | 0 => by simp
  | i + 1 => by
    have h := few_codes i
    have l5 : (codeForms i).length ≤ 5 := by
      rw [code_eq, List.length_map]
      unfold szL
      split <;> decide
    rw [List.range_succ, List.flatMap_append, List.flatMap_singleton, List.length_append]
    omega
section
variable {P : Program} {w : World} {K : PySem.W.Frag} {mg : Str → Option Value} {base : Heap}
theorem scLFs : FnScope LFsN LFsP (defScope sLFs) := ⟨rfl, rfl, rfl, by decide +kernel, rfl, by decide +kernel, by decide +kernel⟩
theorem ok_lforms {f : Addr} {fd : FuncData} (F : Fun K "_law_forms" "_law_forms" sLFs f fd) (B : Bt mg) : FnOk P w K mg base CX0 1 f fd LFsP (spLForms K) := by
  refine F.ok scLFs (fun vs H Q E h => ?_) (fun cdv A outer s H vs Q E hr h => ?_)
  · obtain ⟨rfl, _⟩ := h
    rfl
  · obtain ⟨rfl, k⟩ := h
    refine ⟨_, (pss_cons (ps_set (i := 0) scLFs.nd rfl (.inl rfl) (pe_lst pa_nil))
    (pss_cons (ps_for PassesOwn.never rfl (pi_range1 (by rfl) B.range (pa_cons pe_int pa_nil)) (pg_name (i := 1) scLFs.nd rfl (.inl rfl))
      (pss_cons (ps_par (i := 2) (j := 3) (by rfl) scLFs.nd rfl rfl (by decide) rfl rfl (pa_cons (pe_lst pa_nil) (pa_cons (pe_callTy call_int1 (by rfl) B.int (by decide +kernel) (pa_cons (pv 1) pa_nil)) pa_nil)) (by rfl))
      (pss_cons (ps_for PassesOwn.never rfl (pi_range1 (by rfl) B.range (pa_cons pe_int pa_nil)) (pg_name (i := 4) scLFs.nd rfl (.inl rfl))
        (pss_cons (ps_expr (pe_bm PySem.F.plainAttrs_list PySem.F.slot_list_append PySem.F.type_list_append mt_append (pv 2) (pa_cons (pe_cmpR op_eq (pe_op op_mod (pv 3) pe_int) pe_int (nomark _)) pa_nil)))
        (pss_one (ps_set (i := 3) scLFs.nd rfl (.inl rfl) (pe_op op_fdiv (pv 3) pe_int)))))
      (pss_cons (ps_set (i := 5) scLFs.nd rfl (.inr rfl) (pe_tup (pa_cons (pe_ix ix_list (pv 2) pe_int (fun _ _ => rfl)) (pa_cons (pe_ix ix_list (pv 2) pe_int (fun _ _ => rfl)) (pa_cons (pe_ix ix_list (pv 2) pe_int (fun _ _ => rfl)) (pa_cons (pe_ix ix_list (pv 2) pe_int (fun _ _ => rfl)) (pa_cons (pv 3) (pa_cons (pe_ix ix_list (pv 2) pe_int (fun _ _ => rfl)) pa_nil))))))))
      (pss_cons (ps_set (i := 6) scLFs.nd rfl (.inl rfl) (pe_lst (pa_cons pe_str (pa_cons pe_str (pa_cons pe_str pa_nil)))))
      (C8.pss_cut (ps_if (PW.pt (pw_or (pt_val (pe_ix ix_list (pv 2) pe_int (fun _ _ => rfl))) (pw_or1 (pt_val (pe_ix ix_list (pv 2) pe_int (fun _ _ => rfl))))))
        (pss_one (ps_set (i := 6) scLFs.nd rfl (.inl rfl) (pe_op op_cat (pv 6) (pe_lst (pa_cons pe_str (pa_cons pe_str pa_nil))))))
        pss_nil)
      (pss_one (ps_expr (pe_bm PySem.F.plainAttrs_list PySem.F.slot_list_extend PySem.F.type_list_extend mt_extend (pv 0) (pa_cons (pe_lc (own := [("_law_size", 7)]) (g := gName 7) (tt := tYes) (by rfl) scLFs.nd (pi_list (pv 6)) (blkOk_by (N := LFsN) (sc := defScope sLFs) (by decide +kernel)) (fun _ _ _ _ _ => pg_name (i := 7) scLFs.nd rfl (Or.inl rfl)) (fun _ _ _ _ _ => pts_nil) (fun _ _ _ _ _ => (pe_op (op_catTK (K := K) rfl) (pe_tup (pa_cons (pv 7) pa_nil)) (pv 5)))) pa_nil))))))))))
    (pss_one (ps_ret (pv 0))))), ?_⟩
    have hF0 : True := trivial
    refine ⟨(by show 0 ≤ sizeLine; exact Nat.zero_le _), fun F0 nF => ?_⟩
    have s0 := Same.new nF (o := .lst [])
    have h0 : upd H F0 (.lst []) F0 = some (.lst []) := upd_same
    generalize upd H F0 (.lst []) = H0 at s0 h0 ⊢
    refine ⟨_, rfl, by decide, by decide, for_range (lo := 0) (n := Int.toNat _) (fun i σ G => ∃ (x1 x2 x3 x4 x5 x6 x7 : Option V) (ps : List Addr), σ = [some (.ref F0), x1, x2, x3, x4, x5, x6, x7] ∧ Same H G ∧ G F0 = some (.lst (ps.map V.ref)) ∧ Paired (AtF G) ps ((List.range i).flatMap codeForms)) ⟨none, none, none, none, none, none, none, [], rfl, s0, h0, .nil⟩ ?_ ?_⟩
    · rintro i σ G hi ⟨x1, x2, x3, x4, x5, x6, x7, ps, rfl, sG, hG, hP⟩
      have hi : i < 96 := hi
      refine ⟨(by show 0 ≤ sizeLine; exact Nat.zero_le _), fun L nL => ⟨_, rfl, .inl ⟨_, rfl, ?_⟩⟩⟩
      have s1 := Same.new nL (o := .lst [])
      have hL : upd G L (.lst []) L = some (.lst []) := upd_same
      generalize upd G L (.lst []) = G1 at s1 hL ⊢
      refine ⟨_, _, rfl, ?_⟩
      refine ⟨_, rfl, by decide, by decide, for_range (lo := 0) (n := Int.toNat _) (fun j σ G' => ∃ (x4 : Option V), σ = [some (.ref F0), some (.int (0 + (i : Int))), some (.ref L), some (.int ((i / 2 ^ j : Nat) : Int)), x4, x5, x6, x7] ∧ Same G G' ∧ G' L = some (.lst ((List.range j).map fun t => V.bl (bitN i t)))) ⟨x4, ?_, s1, hL⟩ ?_ ?_⟩
      · rw [Nat.pow_zero, Nat.div_one]
        show _ = [some (V.ref F0), some (.int (0 + (i : Int))), some (.ref L), some (.int (i : Int)), x4, x5, x6, x7]
        rw [Int.zero_add]
        rfl
      · rintro j σ G' hj ⟨x4, rfl, s2, hL2⟩
        have hj : j < 5 := hj
        refine ⟨_, rfl, .inl ⟨rfl, _, SqL.of hL2⟩, _, rfl, _, _, rfl, rfl, (by show (0 : Int) < 2; decide), rfl, ?_⟩
        rw [bit_of]
        refine ⟨L, _, _, rfl, rfl, hL2, ?_, ?_⟩
        · rw [List.length_map, List.length_range]
          exact small1000 (by omega)
        refine ⟨_, rfl, _, _, rfl, rfl, ⟨(by decide), (by decide)⟩, ?_⟩
        refine ⟨some (.int (0 + (j : Int))), ?_, same_put s2 nL, ?_⟩
        · rw [← pow_half, ← half_of]
          rfl
        rw [upd_same, List.range_succ, List.map_append]
        rfl
      · rintro σ G2 ⟨x4, rfl, s2, hL2⟩
        have hL3 : G2 L = some (.lst [.bl (bitN i 0), .bl (bitN i 1), .bl (bitN i 2), .bl (bitN i 3), .bl (bitN i 4)]) := hL2
        clear hL2
        refine ⟨_, rfl, L, _, 0, _, rfl, rfl, SqL.of hL3, rfl, _, rfl, L, _, 1, _, rfl, rfl, SqL.of hL3, rfl, _, rfl, L, _, 2, _, rfl, rfl, SqL.of hL3, rfl, _, rfl, L, _, 3, _, rfl, rfl, SqL.of hL3, rfl, _, rfl, _, rfl, L, _, 4, _, rfl, rfl, SqL.of hL3, rfl, (by show 6 ≤ sizeLine; decide), fun R nR => ?_⟩
        have s3 := Same.new nR (o := .tup (restV i))
        have hR : upd G2 R (.tup (restV i)) R = some (.tup (restV i)) := upd_same
        change tSeq _ _ _ _ (upd G2 R (.tup (restV i)))
        generalize upd G2 R (.tup (restV i)) = G3 at s3 hR ⊢
        have hL4 := s3 _ _ hL3
        have s23 := s2.trans s3
        refine ⟨(by show 3 ≤ sizeLine; decide), fun Z nZ => ?_⟩
        have s4 := Same.new nZ (o := .lst [.str "over", .str "even", .str "wide"])
        have hZ : upd G3 Z (.lst [.str "over", .str "even", .str "wide"]) Z = some (.lst [.str "over", .str "even", .str "wide"]) := upd_same
        have hL5 := s4 _ _ hL4
        have hR5 := s4 _ _ hR
        have s24 := s23.trans s4
        generalize upd G3 Z (.lst [.str "over", .str "even", .str "wide"]) = G4 at hZ hL5 hR5 s24 ⊢
        clear s4 s23 s3 s2 hL4 hL3 hR
        refine ⟨fun σ G' => ∃ Z, σ = [some (.ref F0), some (.int (0 + (i : Int))), some (.ref L), some (.int ((i / 2 ^ 5 : Nat) : Int)), x4, some (.ref R), some (.ref Z), x7] ∧ Same G G' ∧ G' R = some (.tup (restV i)) ∧ G' Z = some (.lst ((szL i).map fun s => V.str (sizeS s))), ?_, ?_⟩
        · refine ⟨_, rfl, L, _, 2, _, rfl, rfl, SqL.of hL5, rfl, bitN i 2, rfl, ?_⟩
          have yes : (bitN i 2 || bitN i 3) = true → szL i = [2, 0, 4, 3, 1] := fun e => by
            unfold szL
            rw [if_pos e]
            rfl
          have grow : (bitN i 2 || bitN i 3) = true → ∀ u, G4 u = none → ∀ z, upd G4 u (.lst [.str "tight", .str "just"]) z = none → Same G (upd (upd G4 u (.lst [.str "tight", .str "just"])) z (.lst ([.str "over", .str "even", .str "wide"] ++ [.str "tight", .str "just"]))) ∧
              upd (upd G4 u (.lst [.str "tight", .str "just"])) z (.lst ([.str "over", .str "even", .str "wide"] ++ [.str "tight", .str "just"])) R = some (.tup (restV i)) ∧ upd (upd G4 u (.lst [.str "tight", .str "just"])) z (.lst ([.str "over", .str "even", .str "wide"] ++ [.str "tight", .str "just"])) z = some (.lst ((szL i).map fun s => V.str (sizeS s))) := fun e u nu z nz => by
            have v := (Same.new nu (o := .lst [.str "tight", .str "just"])).trans (Same.new nz (o := .lst ([.str "over", .str "even", .str "wide"] ++ [.str "tight", .str "just"])))
            refine ⟨s24.trans v, v _ _ hR5, ?_⟩
            rw [upd_same, yes e]
            rfl
          cases e2 : bitN i 2 with
          | true =>
            rw [e2] at grow
            refine iteY rfl (iteY rfl ⟨_, rfl, (by show 2 ≤ sizeLine; decide), fun u nu => ⟨Z, u, _, _, rfl, rfl, (Same.new nu) _ _ hZ, upd_same, (by show 5 ≤ sizeLine; decide), fun z nz => ?_⟩⟩)
            exact ⟨z, rfl, grow rfl u nu z nz⟩
          | false =>
            refine iteN rfl ⟨_, rfl, L, _, 3, _, rfl, rfl, SqL.of hL5, rfl, bitN i 3, rfl, ?_⟩
            rw [e2] at grow
            cases e3 : bitN i 3 with
            | true =>
              rw [e3] at grow
              refine iteY rfl ⟨_, rfl, (by show 2 ≤ sizeLine; decide), fun u nu => ⟨Z, u, _, _, rfl, rfl, (Same.new nu) _ _ hZ, upd_same, (by show 5 ≤ sizeLine; decide), fun z nz => ?_⟩⟩
              exact ⟨z, rfl, grow rfl u nu z nz⟩
            | false =>
              refine iteN rfl ⟨Z, rfl, s24, hR5, ?_⟩
              rw [hZ]
              unfold szL
              rw [e2, e3]
              rfl
        rintro σ G5 ⟨Z, rfl, s5, hR5, hZ⟩
        have hF5 := s5 _ _ hG
        have hP5 := Paired.mapP hP fun a b z => AtF.same s5 z
        refine ⟨_, rfl, .inl ⟨rfl, _, SqL.of hF5⟩, _, rfl, Z, rfl, ⟨_, SqL.of hZ⟩, fun D nD => lc_list (K := K) (a := Z) (xs := (szL i).map fun s => V.str (sizeS s)) (fun j G' => Same G5 G' ∧ ∃ qs : List Addr, G' D = some (.lst (qs.map V.ref)) ∧ qs.length ≤ 5 ∧ Paired (AtF G') qs ((codeForms i).take j)) ⟨Same.new nD, [], upd_same, Nat.zero_le _, .nil⟩ (fun j G' _ q => SqL.of (q.1 _ _ hZ)) ?_ ?_⟩
        · rintro j x G' hj ⟨sG', qs, hD, lq, hq⟩
          rw [List.getElem?_map] at hj
          obtain ⟨s1, es, rfl⟩ := Option.map_eq_some_iff.mp hj
          have ej : (codeForms i)[j]? = some (fmC i s1) := by rw [code_eq, List.getElem?_map, es]; rfl
          refine ⟨rfl, _, rfl, (by show 1 ≤ sizeLine; decide), fun t1 nt1 => ?_⟩
          have v1 := Same.new nt1 (o := .tup [.str (sizeS s1)])
          refine ⟨_, rfl, t1, R, _, _, rfl, rfl, SqT.of upd_same, SqT.of (v1 _ _ (sG' _ _ hR5)), (fun z => nomatch z), (by show 7 ≤ sizeLine; decide), (fun z => nomatch z), fun _ p1 np1 => ?_⟩
          have v2 := v1.trans (Same.new np1 (o := .tup ([V.str (sizeS s1)] ++ restV i)))
          have hD2 := v2 _ _ hD
          have h1 : AtF (upd (upd G' t1 (.tup [.str (sizeS s1)])) p1 (.tup ([V.str (sizeS s1)] ++ restV i))) p1 (fmC i s1) := by
            unfold AtF
            rw [fmC_V]
            exact upd_same
          have hq2 := Paired.mapP hq fun a b z => AtF.same v2 z
          have sv := sG'.trans v2
          generalize upd (upd G' t1 (.tup [.str (sizeS s1)])) p1 (.tup ([V.str (sizeS s1)] ++ restV i)) = G7 at hD2 h1 hq2 sv ⊢
          have j5 : j < (codeForms i).length := (List.getElem?_eq_some_iff.mp ej).1
          have l5 : (codeForms i).length ≤ 5 := by
            rw [code_eq, List.length_map]
            unfold szL
            split <;> decide
          have lq2 : qs.length = j := by
            have := Paired.length hq
            rw [List.length_take] at this
            omega
          refine ⟨_, hD2, ?_, same_put sv nD, qs ++ [p1], ?_, ?_, ?_⟩
          · rw [List.length_map]
            exact small1000 (by omega)
          · rw [upd_same, List.map_append]
            rfl
          · rw [List.length_append, List.length_singleton]
            omega
          · rw [List.take_succ, ej]
            exact Paired.snoc (Paired.mapP hq2 fun a b z => AtF.put hD2 z) (AtF.put hD2 h1)
        · rintro G' ⟨sG', qs, hD, lq, hq⟩
          rw [List.length_map, show (szL i).length = (codeForms i).length by rw [code_eq, List.length_map], List.take_length] at hq
          have hF6 := sG' _ _ hF5
          refine ⟨F0, D, _, _, rfl, rfl, hF6, hD, ?_, ?_⟩
          · rw [List.length_map, List.length_map]
            have : ps.length ≤ 5 * i := by
              rw [Paired.length hP]
              exact few_codes i
            exact fits (by omega)
          refine ⟨_, _, _, _, _, _, _, ps ++ qs, rfl, same_put ((sG.trans s5).trans sG') nF, ?_, ?_⟩
          · rw [upd_same, List.map_append]
          · rw [List.range_succ, List.flatMap_append, List.flatMap_singleton]
            exact pair_app (Paired.mapP (Paired.mapP hP5 fun a b z => AtF.same sG' z) fun a b z => AtF.put hF6 z) (Paired.mapP hq fun a b z => AtF.put hF6 z)
    · rintro σ G ⟨x1, x2, x3, x4, x5, x6, x7, ps, rfl, sG, hG, hP⟩
      exact ⟨_, rfl, k F0 ps G nF sG hG hP⟩
end
end Lay
set_option Elab.async false
set_option linter.all false
set_option maxRecDepth 100000
set_option maxHeartbeats 400000
set_option pp.maxSteps 900
namespace Lay
open PySem PySem.Spec PyProof.Rows L2 KwX StX
/-! ### a form laid out -/
def blanksN (L : LS) : Int := if L 6 = true then 2 else if L 5 = true then 1 else 0
def shapeV (L : LS) : List V := [.bl (L 0), .bl (L 1), .bl (L 3), .bl (L 4), .int (blanksN L), .bl (L 2)]
theorem bit_one (a : Bool) : decide (V.int (b2i (a && true)) = V.int 1) = a := by cases a <;> rfl
abbrev sShapeIn : Stmt := top 14
abbrev sFF : Stmt := top 32
abbrev sLay : Stmt := top 33
def spShapeIn : Sp := fun vs H Q _ => ∃ (l : Addr) (L : LS), vs = [.ref l] ∧ LnAt 15 H l L ∧ ∀ p H', Same H H' → H' p = some (.tup (shapeV L)) → Q (.ref p) H'
def fcOf (f : Fm) : LS := fcL f.b f.m f.l f.a f.h f.n (decide (V.str (sizeS f.sz) = V.str "over")) (inV (.str (sizeS f.sz)) [.str "over", .str "even"]) (inV (.str (sizeS f.sz)) [.str "over", .str "even", .str "tight"]) (!decide (V.str (sizeS f.sz) = V.str "wide"))
def spFF : Sp := fun vs H Q _ => ∃ (q : Addr) (f : Fm), vs = [.ref q] ∧ AtF H q f ∧ ∀ p H', Same H H' → FcAt H' p (fcOf f) → Q (.ref p) H'
def TlAt (K : PySem.W.Frag) (C CT : Addr) (H : Hp) (p : Addr) (rs : List RD) (s : Bool) : Prop := ∃ dx t xs, H p = some (.ins CT dx (toolF t (.bl s))) ∧ TupG K H t xs ∧ RowsAt C H xs rs
theorem TlAt.same {K : PySem.W.Frag} {C CT : Addr} {H H' : Hp} {p : Addr} {rs : List RD} {s : Bool} (e : Same H H') (h : TlAt K C CT H p rs s) : TlAt K C CT H' p rs s := by
  obtain ⟨dx, t, xs, h1, h2, h3⟩ := h
  exact ⟨dx, t, xs, e _ _ h1, h2.same e, h3.same e⟩
/-- lanes of a form when all is done -/
def layL (rs : List RD) (bf : Option (Bool × Bool)) (f : Fm) : LS := rowsL rs (behL (setL (fcOf f) 11 true) bf)
def spLay (K : PySem.W.Frag) (C CT : Addr) : Sp := fun vs H Q _ => ∃ (p b q : Addr) (rs : List RD) (s : Bool) (bf : Option (Bool × Bool)) (f : Fm), vs = [.ref p, .ref b, .ref q] ∧ TlAt K C CT H p rs s ∧ (∀ r ∈ rs, GoodR r) ∧ SqT K H b (bfV bf) ∧ AtF H q f ∧
  ∀ t H', Same H H' → H' t = some (.tup (.str (sizeS f.sz) :: shapeV (layL rs bf f))) → Q (.ref t) H'
theorem tail_fm (f : Fm) : cutV (FmV f) (some 1) none = [.bl f.b, .bl f.m, .bl f.a, .bl f.h, .int f.n, .bl f.l] := rfl
section
variable {P : Program} {w : World} {K : PySem.W.Frag} {mg : Str → Option Value} {base : Heap}
def shN : List Str := ["lanes", "told", "blanks", "word", "number"]
theorem scShapeIn : FnScope shN ["lanes"] (defScope sShapeIn) := ⟨rfl, rfl, rfl, by decide +kernel, rfl, by decide +kernel, by decide +kernel⟩
theorem ok_shapeIn {f : Addr} {fd : FuncData} (F : Fun K "shape_in" "shape_in" sShapeIn f fd) (B : Bt mg) : FnOk P w K mg base CX0 1 f fd ["lanes"] spShapeIn := by
  refine F.ok scShapeIn (fun vs H Q E h => ?_) (fun cdv A outer s H vs Q E hr h => ?_)
  · obtain ⟨l, L, rfl, _⟩ := h
    rfl
  · obtain ⟨l, L, rfl, hl, k⟩ := h
    have hu := hu_of hr
    refine ⟨_, (C8.pss_cut (ps_lock (ps_setDc (i := 1) (own := [("word", 3), ("number", 4)]) (g := gTup K 2 (gCons (gName 3) (gCons (gName 4) gNil))) (tt := tYes) rfl scShapeIn.nd rfl rfl (sw_trueD rfl rfl rfl (by decide +kernel)) (pi_items (pv 0)) (blkOk_by (N := shN) (sc := defScope sShapeIn) (by decide +kernel)) (fun _ _ _ _ _ => pg_tup rfl (pgs_cons (pg_name (i := 3) scShapeIn.nd rfl (Or.inl rfl)) (pgs_cons (pg_name (i := 4) scShapeIn.nd rfl (Or.inl rfl)) pgs_nil))) (fun _ _ _ _ _ => pts_nil) (fun _ _ _ _ _ => pv 3)
        (fun _ _ _ _ _ => pe_cmpR op_eq (pe_op op_andB (pv 4) pe_int) pe_int (nomark _))))
    (C8.pss_cut (ps_set (i := 2) scShapeIn.nd rfl (.inl rfl) (pe_ifExp (pt_val (pe_dget hu (pv 1) pe_str (fun _ _ => rfl))) pe_int (pe_callTy call_int1 (by rfl) B.int (by decide +kernel) (pa_cons (pe_dget hu (pv 1) pe_str (fun _ _ => rfl)) pa_nil))))
    (pss_one (ps_ret (pe_tup (pa_cons (pe_dget hu (pv 1) pe_str (fun _ _ => rfl)) (pa_cons (pe_dget hu (pv 1) pe_str (fun _ _ => rfl)) (pa_cons (pe_dget hu (pv 1) pe_str (fun _ _ => rfl)) (pa_cons (pe_dget hu (pv 1) pe_str (fun _ _ => rfl)) (pa_cons (pv 2) (pa_cons (pe_dget hu (pv 1) pe_str (fun _ _ => rfl)) pa_nil))))))))))), ?_⟩
    refine ⟨fun σ G => ∃ D, σ = [some (.ref l), some (.ref D), none, none, none] ∧ Same H G ∧ G D = some (.dK (kvN V.bl 15 L)), ?_, ?_⟩
    · refine ⟨l, _, hl, trivial, fun od => ?_⟩
      have k0 : ButF l H (upd H l (.frz od (lnO L))) := fun c o n e => by rw [upd_ne n]; exact e
      have z0 : upd H l (.frz od (lnO L)) l = some (.frz od (lnO L)) := upd_same
      have n0 : ∀ D, upd H l (.frz od (lnO L)) D = none → H D = none := fun D e => by
        by_cases q : D = l
        · rw [q, z0] at e
          cases e
        · rw [upd_ne q] at e
          exact e
      change tAsg _ _ _ _ (upd H l (.frz od (lnO L)))
      generalize upd H l (.frz od (lnO L)) = G0 at k0 z0 n0 ⊢
      refine ⟨_, rfl, l, od, _, rfl, z0, fun D nD => dc_it walk_items (fun i G => ButF l H G ∧ G l = some (.frz od (lnO L)) ∧ G D = some (.dK (kvN V.bl i L))) ⟨k0.same (Same.new nD), Same.new nD _ _ z0, upd_same⟩ (fun i G _ p => p.2.1) ?_ ?_⟩
      · rintro i x G G' hi ⟨k1, z1, hD⟩ ⟨T, x, y, rfl, nT, rfl, e1, e2⟩
        have hi : i < 15 := hi
        dsimp only at e1 e2
        rw [kv_at hi] at e1 e2
        cases e1
        cases e2
        have s1 := Same.new nT (o := .tup [kV (.inr (nm i)), .int (b2i (L i))])
        refine ⟨T, _, rfl, SqT.of upd_same, rfl, _, _, rfl, _, _, rfl, rfl, rfl, _, rfl, _, rfl, _, true, rfl, rfl, rfl, ?_⟩
        rw [bit_one]
        refine ⟨_, .inr (nm i), rfl, s1 _ _ hD, by rw [kv_len, sizeLine_eq]; omega, ?_, ?_, ?_⟩
        · exact (k1.same s1).put (n0 D nD)
        · rw [upd_ne (ne_of_none z0 nD)]
          exact s1 _ _ z1
        · rw [upd_same, put_new (g := V.bl) hi]
      · rintro G ⟨k1, z1, hD⟩
        refine ⟨z1, D, rfl, k1.unlock hl, ?_⟩
        rw [upd_ne (Ne.symm (ne_of_none z0 nD))]
        exact hD
    rintro σ G ⟨D, rfl, s1, hD⟩
    have g : ∀ i, i < 15 → DGet G D (.str (nm i)) (some (.bl (L i))) := fun i hi => by
      have q := DGet.k (k := .inr (nm i)) hD
      rw [val_kv hi (by decide)] at q
      exact q
    refine ⟨fun σ G' => σ = [some (.ref l), some (.ref D), some (.int (blanksN L)), none, none] ∧ G' = G, ?_, ?_⟩
    · refine ⟨_, rfl, D, _, rfl, g 6 (by decide), _, rfl, ?_⟩
      unfold blanksN
      refine ite2 (fun e => ?_) (fun e => ?_)
      · rw [if_pos e]
        exact ⟨rfl, rfl⟩
      · rw [if_neg e]
        exact ⟨_, rfl, D, _, rfl, g 5 (by decide), .inr ⟨_, rfl, rfl, rfl⟩⟩
    rintro σ G' ⟨rfl, rfl⟩
    refine ⟨_, rfl, D, _, rfl, g 0 (by decide), _, rfl, D, _, rfl, g 1 (by decide), _, rfl, D, _, rfl, g 3 (by decide), _, rfl, D, _, rfl, g 4 (by decide), _, rfl, _, rfl, D, _, rfl, g 2 (by decide), (by show 6 ≤ sizeLine; decide), fun t nt => ?_⟩
    exact k t _ (s1.trans (Same.new nt)) upd_same
theorem scFF : FnScope ["form", "size"] ["form"] (defScope sFF) := ⟨rfl, rfl, rfl, by decide +kernel, rfl, by decide +kernel, by decide +kernel⟩
theorem ok_ff {f : Addr} {fd : FuncData} (F : Fun K "facts_of_form" "facts_of_form" sFF f fd) (DF : Has P w K mg base CX0 1 "facts_of" factsP (spFacts K)) : FnOk P w K mg base CX0 2 f fd ["form"] spFF := by
  refine F.ok scFF (fun vs H Q E h => ?_) (fun cdv A outer s H vs Q E hr h => ?_)
  · obtain ⟨q, f, rfl, _⟩ := h
    rfl
  · obtain ⟨q, f, rfl, hq, k⟩ := h
    refine ⟨_, (pss_cons (ps_set (i := 1) scFF.nd rfl (.inl rfl) (pe_ix ix_tup (pv 0) pe_int (fun _ _ => rfl)))
    (pss_one (ps_ret (pe_callH DF hr (by rfl) pass0 (pa_cons (pe_slice sl_tupX (pv 0) (po_some pe_int) po_none) (pa_cons (pe_cmpR op_eq (pv 1) pe_str (nomark _)) (pa_cons (pe_cmpR (op_inK (K := K) rfl) (pv 1) (pe_tup (pa_cons pe_str (pa_cons pe_str pa_nil))) (by rfl)) (pa_cons (pe_cmpR (op_inK (K := K) rfl) (pv 1) (pe_tup (pa_cons pe_str (pa_cons pe_str (pa_cons pe_str pa_nil)))) (by rfl)) (pa_cons (pe_cmpR op_ne (pv 1) pe_str (nomark _)) pa_nil))))))))), ?_⟩
    refine ⟨_, rfl, q, _, _, _, rfl, rfl, SqT.of hq, rfl, ?_⟩
    refine ⟨_, rfl, _, rfl, q, _, rfl, hq, fun p1 H1 s1 h1 => ?_⟩
    rw [tail_fm] at h1
    refine ⟨_, rfl, rfl, _, rfl, (by show 2 ≤ sizeLine; decide), fun t2 n2 => ⟨t2, _, rfl, .inr (SqT.of upd_same), rfl, rfl, _, rfl, (by show 3 ≤ sizeLine; decide), fun t3 n3 => ⟨t3, _, rfl, .inr (SqT.of upd_same), rfl, rfl, _, rfl, rfl, ?_⟩⟩⟩
    have v := (Same.new n2 (o := .tup [.str "over", .str "even"])).trans (Same.new n3 (o := .tup [.str "over", .str "even", .str "tight"]))
    exact ⟨p1, f.b, f.m, f.a, f.h, f.l, _, _, _, _, f.n, rfl, SqT.of (v _ _ h1), fun p H' s' hp => k p H' ((s1.trans v).trans s') hp⟩
theorem scLay : FnScope ["tool", "before", "form", "lanes"] ["tool", "before", "form"] (defScope sLay) := ⟨rfl, rfl, rfl, by decide +kernel, rfl, by decide +kernel, by decide +kernel⟩
theorem ok_lay {f C CT : Addr} {fd : FuncData} (F : Fun K "lay" "lay" sLay f fd) (Z : ToolC K CT) (DFF : Has P w K mg base CX0 2 "facts_of_form" ["form"] spFF) (DL : Has P w K mg base CX0 2 "lanes_of" ["many"] (spLanes K)) (DR : Has P w K mg base CX0 5 "rows_done" ["rows", "before", "lanes"] (spRows K C)) (DS : Has P w K mg base CX0 1 "shape_in" ["lanes"] spShapeIn) : FnOk P w K mg base CX0 6 f fd ["tool", "before", "form"] (spLay K C CT) := by
  refine F.ok scLay (fun vs H Q E h => ?_) (fun cdv A outer s H vs Q E hr h => ?_)
  · obtain ⟨p, b, q, rs, s, bf, f, rfl, _⟩ := h
    rfl
  · obtain ⟨p, b, q, rs, sr, bf, f, rfl, ⟨dx, t, xs, hp, ht, hx⟩, gd, hb, hq, k⟩ := h
    have hr1 := hr.mono (show 1 ≤ 5 by decide)
    have hr2 := hr.mono (show 2 ≤ 5 by decide)
    refine ⟨_, (pss_cons (ps_set (i := 3) scLay.nd rfl (.inl rfl) (pe_callH DR hr (by rfl) pass0 (pa_cons (pe_fld (pv 0) rfl) (pa_cons (pv 1) (pa_cons (pe_callH DL hr2 (by rfl) pass0 (pa_cons (pe_lst (pa_cons (pe_callH DFF hr2 (by rfl) pass0 (pa_cons (pv 2) pa_nil)) pa_nil)) pa_nil)) pa_nil)))))
    (pss_one (ps_ret (pe_tup (pa_cons (pe_ix ix_tup (pv 2) pe_int (fun _ _ => rfl)) (StX.pa_star (pe_callH DS hr1 (by rfl) pass0 (pa_cons (pv 3) pa_nil)) pa_nil)))))), ?_⟩
    refine ⟨_, rfl, p, CT, dx, _, _, rfl, hp, Z.cl, Z.rows, rfl, _, rfl, _, rfl, q, f, rfl, hq, fun p1 H1 s1 h1 => ⟨(by show 1 ≤ sizeLine; decide), fun m nm => ?_⟩⟩
    have s2 := Same.new nm (o := .lst [.ref p1])
    refine ⟨m, p1, _, rfl, upd_same, s2 _ _ h1, fun l H3 s3 h3 => ?_⟩
    have s13 := (s1.trans s2).trans s3
    refine ⟨t, b, l, xs, rs, bf, _, rfl, (ht.same s13).sqT, hx.same s13, gd, SqT.same s13 hb, h3, fun l2 H4 s4 h4 => ?_⟩
    have s14 := s13.trans s4
    refine ⟨_, rfl, q, _, _, _, rfl, rfl, SqT.of (hq.same s14), rfl, _, rfl, l2, _, rfl, h4, fun p5 H5 s5 h5 => ⟨p5, _, rfl, .inl (SqT.of h5), (by show 7 ≤ sizeLine; decide), fun t6 n6 => ?_⟩⟩
    exact k t6 _ ((s14.trans s5).trans (Same.new n6)) upd_same
end
end Lay
set_option Elab.async false
set_option linter.all false
set_option maxRecDepth 100000
set_option maxHeartbeats 800000
set_option pp.maxSteps 900
namespace Lay
open PySem PySem.Spec PyProof.Rows L2 KwX StX
/-! ### tests, deeds and rows that the law draws -/
def tAll : List Str := testL ++ testL.map fun z => ("not " : Str) ++ z
theorem tAll_ok : ∀ z ∈ tAll, progT z = true ∧ z.length ≤ 20 ∧ PyData.strOk z = true := by decide +kernel
theorem dAll_ok : ∀ z ∈ deedL, progD z = true ∧ z.length ≤ 20 := by decide +kernel
structure Dr (r : RD) : Prop where
  w : ∀ z ∈ r.ws, z ∈ tAll
  u : ∀ z ∈ r.us, z ∈ deedL
  lw : r.ws.length ≤ 10
  lu : r.us.length ≤ 10
  nu : 0 < r.us.length
theorem Dr.good {r : RD} (h : Dr r) : GoodR r :=
  ⟨⟨fun z hz => (tAll_ok z (h.w z hz)).2.1, fun z hz => (dAll_ok z (h.u z hz)).2, by have := h.lw; omega, by have := h.lu; omega, h.nu, fun z hz => (tAll_ok z (h.w z hz)).2.2⟩, fun z hz => (tAll_ok z (h.w z hz)).1, fun z hz => (dAll_ok z (h.u z hz)).1⟩
def PrAt (H : Hp) (p : Addr) (r : RD) : Prop := ∃ t d, H p = some (.tup [.ref t, .ref d]) ∧ H t = some (.tup (r.ws.map V.str)) ∧ H d = some (.tup (r.us.map V.str))
theorem PrAt.same {H H' : Hp} {p : Addr} {r : RD} (s : Same H H') (h : PrAt H p r) : PrAt H' p r := by
  obtain ⟨t, d, h1, h2, h3⟩ := h
  exact ⟨t, d, s _ _ h1, s _ _ h2, s _ _ h3⟩
/-- a mutable list changes -/
theorem PrAt.put {H : Hp} {p b : Addr} {r : RD} {xs : List V} {o : HO} (hb : H b = some (.lst xs)) (h : PrAt H p r) : PrAt (upd H b o) p r := by
  obtain ⟨t, d, h1, h2, h3⟩ := h
  exact ⟨t, d, by rw [upd_ne (ne_of h1 hb (fun z => nomatch z))]; exact h1, by rw [upd_ne (ne_of h2 hb (fun z => nomatch z))]; exact h2, by rw [upd_ne (ne_of h3 hb (fun z => nomatch z))]; exact h3⟩
theorem tup_box {H : Hp} {a b : Addr} {xs : List V} (h : H a = some (.tup xs)) (bx : BoxAt H b) : a ≠ b := by
  obtain ⟨o, hb, g, s, n, rfl⟩ := bx
  exact ne_of h hb (fun z => nomatch z)
theorem PrAt.kept {H H' : Hp} {p b : Addr} {r : RD} (bx : BoxAt H b) (k : Kept b H H') (h : PrAt H p r) : PrAt H' p r := by
  obtain ⟨t, d, h1, h2, h3⟩ := h
  exact ⟨t, d, k _ _ (tup_box h1 bx) h1, k _ _ (tup_box h2 bx) h2, k _ _ (tup_box h3 bx) h3⟩
theorem BoxAt.same {b : Addr} {G G' : Hp} (s : Same G G') (h : BoxAt G b) : BoxAt G' b := by
  obtain ⟨o, e, y⟩ := h
  exact ⟨o, s _ _ e, y⟩
theorem BoxAt.at {b : Addr} {G : Hp} (h : BoxAt G b) : ∃ xs, G b = some (.lst xs) := by
  obtain ⟨o, e, g, s, n, rfl⟩ := h
  exact ⟨_, e⟩
theorem Kept.put {b D : Addr} {H G : Hp} {o : HO} (k : Kept b H G) (n : H D = none) : Kept b H (upd G D o) := fun a u ne e => by
  rw [upd_ne (ne_of_none e n)]
  exact k a u ne e
theorem Kept.free {b D : Addr} {H G : Hp} (k : Kept b H G) (hb : ∃ u, H b = some u) (bx : ∃ u, G b = some u) (n : G D = none) : H D = none := by
  cases e : H D with
  | none => rfl
  | some o =>
    by_cases q : D = b
    · obtain ⟨u, hu⟩ := bx
      rw [q, hu] at n
      cases n
    · rw [k D o q e] at n
      cases n
abbrev sLTest : Stmt := top 51
abbrev sLRow : Stmt := top 52
abbrev sLTool : Stmt := top 53
def spLTest : Sp := fun vs H Q _ => ∃ (b : Addr), vs = [.ref b] ∧ BoxAt H b ∧ ∀ z G, Kept b H G → BoxAt G b → z ∈ tAll → Q (.str z) G
def spLRow : Sp := fun vs H Q _ => ∃ (b : Addr), vs = [.ref b] ∧ BoxAt H b ∧ ∀ p r G, Kept b H G → BoxAt G b → PrAt G p r → Dr r → Q (.ref p) G
section
variable {P : Program} {w : World} {K : PySem.W.Frag} {mg : Str → Option Value} {base : Heap}
theorem scLTest : FnScope ["_law_box_here", "_law_some", "_law_test_here"] ["_law_box_here"] (defScope sLTest) := ⟨rfl, rfl, rfl, by decide +kernel, rfl, by decide +kernel, by decide +kernel⟩
theorem ok_ltest {f : Addr} {fd : FuncData} (F : Fun K "_law_test" "_law_test" sLTest f fd) (DK : Has P w K mg base CX0 2 "_law_pick" ["_law_box_here", "_law_items"] (spPick K)) (DT : Has P w K mg base CX0 1 "_law_take" ["_law_box_here", "_law_many"] spTake) : FnOk P w K mg base CX0 3 f fd ["_law_box_here"] spLTest := by
  refine F.ok scLTest (fun vs H Q E h => ?_) (fun cdv A outer s H vs Q E hr h => ?_)
  · obtain ⟨b, rfl, _⟩ := h
    rfl
  · obtain ⟨b, rfl, bx, k⟩ := h
    have hr1 := hr.mono (show 1 ≤ 2 by decide)
    refine ⟨_, (pss_cons (ps_set (i := 1) scLTest.nd rfl (.inl rfl) (pe_lst (pa_cons pe_str (pa_cons pe_str (pa_cons pe_str (pa_cons pe_str (pa_cons pe_str (pa_cons pe_str (pa_cons pe_str (pa_cons pe_str (pa_cons pe_str (pa_cons pe_str pa_nil))))))))))))
    (pss_cons (ps_set (i := 2) scLTest.nd rfl (.inl rfl) (pe_callH DK hr (by rfl) pass0 (pa_cons (pv 0) (pa_cons (pe_op op_cat (pv 1) (pe_lst (pa_cons pe_str (pa_cons pe_str (pa_cons pe_str pa_nil))))) pa_nil))))
    (pss_one (ps_ret (pe_ifExp (pt_cmpR op_eq (pe_callH DT hr1 (by rfl) pass0 (pa_cons (pv 0) (pa_cons pe_int pa_nil))) pe_int (nomark _)) (pe_op op_add_str pe_str (pv 2)) (pv 2)))))), ?_⟩
    refine ⟨(by show 10 ≤ sizeLine; decide), fun l nl => ?_⟩
    have s1 := Same.new nl (o := .lst (testL.map V.str))
    have hl : upd H l (.lst (testL.map V.str)) l = some (.lst (testL.map V.str)) := upd_same
    change tSeq _ _ _ _ (upd H l (.lst (testL.map V.str)))
    generalize upd H l (.lst (testL.map V.str)) = H1 at s1 hl ⊢
    refine ⟨_, rfl, _, rfl, (by show 3 ≤ sizeLine; decide), fun l2 n2 => ?_⟩
    have s2 := Same.new n2 (o := .lst [.str "long", .str "long", .str "marked"])
    refine ⟨l, l2, _, _, rfl, rfl, s2 _ _ hl, upd_same, (by show 13 ≤ sizeLine; decide), fun l3 n3 => ?_⟩
    have s3 := Same.new n3 (o := .lst (testL.map V.str ++ [.str "long", .str "long", .str "marked"]))
    have s13 := (s1.trans s2).trans s3
    have b3 := BoxAt.same s13 bx
    obtain ⟨xb, hxb⟩ := (BoxAt.same (s1.trans s2) bx).at
    refine ⟨b, l3, _, rfl, b3, (ne_of_none hxb n3).symm, SqL.of upd_same, (by show 0 < 13; decide), (by show 13 ≤ 1000; decide), fun v o hv ho => ?_⟩
    have hv : v ∈ (testL ++ (["long", "long", "marked"] : List Str)).map V.str := hv
    obtain ⟨z, hz, rfl⟩ := List.mem_map.mp hv
    have hz : z ∈ testL := (by decide +kernel : ∀ z ∈ testL ++ (["long", "long", "marked"] : List Str), z ∈ testL) z hz
    refine ⟨_, rfl, b, 3, rfl, BoxAt.box ho, by decide, by decide, fun r o2 r0 r1 ho2 => ?_⟩
    have kk : Kept b H _ := ((Kept.of_same s13).trans (Kept.box (o := o))).trans (Kept.box (o := o2))
    refine ⟨rfl, _, rfl, ?_⟩
    refine ite2 (fun _ => ?_) (fun _ => ?_)
    · have l20 := (tAll_ok z (List.mem_append_left _ hz)).2.1
      have j4 : (Str.ofString "not ").length = 4 := by decide
      exact ⟨_, rfl, _, _, rfl, rfl, by rw [j4]; exact fits (by omega), k _ _ kk (BoxAt.box ho2) (List.mem_append_right _ (List.mem_map_of_mem hz))⟩
    · exact ⟨_, rfl, k _ _ kk (BoxAt.box ho2) (List.mem_append_left _ hz)⟩
def lrowN : List Str := ["_law_box_here", "_law_deeds", "_law_tests", "_law_turn"]
theorem scLRow : FnScope lrowN ["_law_box_here"] (defScope sLRow) := ⟨rfl, rfl, rfl, by decide +kernel, rfl, by decide +kernel, by decide +kernel⟩
theorem ok_lrow {f : Addr} {fd : FuncData} (F : Fun K "_law_row" "_law_row" sLRow f fd) (B : Bt mg) (DX : Has P w K mg base CX0 3 "_law_test" ["_law_box_here"] spLTest) (DK : Has P w K mg base CX0 2 "_law_pick" ["_law_box_here", "_law_items"] (spPick K)) (DT : Has P w K mg base CX0 1 "_law_take" ["_law_box_here", "_law_many"] spTake) : FnOk P w K mg base CX0 4 f fd ["_law_box_here"] spLRow := by
  refine F.ok scLRow (fun vs H Q E h => ?_) (fun cdv A outer s H vs Q E hr h => ?_)
  · obtain ⟨b, rfl, _⟩ := h
    rfl
  · obtain ⟨b, rfl, bx, k⟩ := h
    have hr1 := hr.mono (show 1 ≤ 3 by decide)
    have hr2 := hr.mono (show 2 ≤ 3 by decide)
    refine ⟨_, (pss_cons (ps_set (i := 1) scLRow.nd rfl (.inr rfl) (pe_lst (pa_cons pe_str (pa_cons pe_str (pa_cons pe_str (pa_cons pe_str (pa_cons pe_str (pa_cons pe_str (pa_cons pe_str (pa_cons pe_str pa_nil))))))))))
    (C8.pss_cut (ps_setLc (i := 2) (own := [("_law_turn", 3)]) (g := gName 3) (tt := tYes) rfl scLRow.nd rfl rfl (sw_true rfl rfl rfl (by decide +kernel)) (pi_range1 (by rfl) B.range (pa_cons (pe_callH DT hr1 (by rfl) pass0 (pa_cons (pv 0) (pa_cons pe_int pa_nil))) pa_nil)) (blkOk_by (N := lrowN) (sc := defScope sLRow) (by decide +kernel)) (fun _ _ _ _ _ => pg_name (i := 3) scLRow.nd rfl (Or.inl rfl)) (fun _ _ _ _ _ => pts_nil) (fun _ _ _ _ _ => pe_callH DX hr (by rfl) pass0 (pa_cons (pv 0) pa_nil)))
    (pss_one (ps_ret (pe_tup (pa_cons (pe_callTy call_tuple_of (by rfl) B.tuple (by decide +kernel) (pa_cons (pv 2) pa_nil)) (pa_cons (pe_callTy call_tuple_of (by rfl) B.tuple (by decide +kernel) (pa_cons (pe_lc (own := [("_law_turn", 3)]) (g := gName 3) (tt := tYes) (by rfl) scLRow.nd (pi_range1 (by rfl) B.range (pa_cons (pe_op op_add pe_int (pe_callH DT hr1 (by rfl) pass0 (pa_cons (pv 0) (pa_cons pe_int pa_nil)))) pa_nil)) (blkOk_by (N := lrowN) (sc := defScope sLRow) (by decide +kernel)) (fun _ _ _ _ _ => pg_name (i := 3) scLRow.nd rfl (Or.inl rfl)) (fun _ _ _ _ _ => pts_nil) (fun _ _ _ _ _ => pe_callH DK hr2 (by rfl) pass0 (pa_cons (pv 0) (pa_cons (pv 1) pa_nil)))) pa_nil)) pa_nil))))))), ?_⟩
    obtain ⟨xb, hxb⟩ := bx.at
    refine ⟨(by show 8 ≤ sizeLine; decide), fun l nl => ?_⟩
    have s1 := Same.new nl (o := .lst (deedL.map V.str))
    have hl : upd H l (.lst (deedL.map V.str)) l = some (.lst (deedL.map V.str)) := upd_same
    change C8.tCut _ _ _ _ (upd H l (.lst (deedL.map V.str)))
    have b1 := BoxAt.same s1 bx
    have lb : l ≠ b := (ne_of_none hxb nl).symm
    generalize upd H l (.lst (deedL.map V.str)) = H1 at s1 hl b1 ⊢
    refine ⟨fun σ G => ∃ (D : Addr) (ws : List Str), σ = [some (.ref b), some (.ref l), some (.ref D), none] ∧ Kept b H1 G ∧ BoxAt G b ∧ G D = some (.lst (ws.map V.str)) ∧ D ≠ b ∧ ws.length ≤ 10 ∧ (∀ z ∈ ws, z ∈ tAll), ?_, ?_⟩
    · refine ⟨_, rfl, b, 3, rfl, b1, by decide, by decide, fun r o r0 r1 ho => ⟨r, rfl, by omega, by omega, fun D nD => ?_⟩⟩
      have bo : BoxAt (upd H1 b o) b := BoxAt.box ho
      have ko : Kept b H1 (upd H1 b o) := Kept.box
      generalize upd H1 b o = H2 at bo ko nD ⊢
      obtain ⟨xo, hxo⟩ := bo.at
      obtain ⟨x1, hx1⟩ := b1.at
      have nDb : D ≠ b := (ne_of_none hxo nD).symm
      have nD1 : H1 D = none := ko.free ⟨_, hx1⟩ ⟨_, hxo⟩ nD
      refine lc_range (lo := 0) (n := r.toNat) (fun i G => ∃ ws : List Str, Kept b H1 G ∧ BoxAt G b ∧ G D = some (.lst (ws.map V.str)) ∧ ws.length = i ∧ ∀ z ∈ ws, z ∈ tAll) ⟨[], ko.put nD1, BoxAt.same (Same.new nD) bo, upd_same, rfl, fun z hz => (List.not_mem_nil hz).elim⟩ ?_ ?_
      · rintro i G hi ⟨ws, kG, bG, hD, lw, hw⟩
        refine ⟨rfl, _, rfl, b, rfl, bG, fun z G2 k2 b2 hz => ?_⟩
        have hD2 := k2 _ _ nDb hD
        refine ⟨_, hD2, ?_, ws ++ [z], (kG.trans k2).put nD1, ?_, ?_, ?_, ?_⟩
        · rw [List.length_map]
          exact small1000 (by omega)
        · obtain ⟨ob, eb, yb⟩ := b2
          exact ⟨ob, by rw [upd_ne (Ne.symm nDb)]; exact eb, yb⟩
        · rw [upd_same, List.map_append]
          rfl
        · rw [List.length_append, lw]
          rfl
        · intro y hy
          rcases List.mem_append.mp hy with hy | hy
          · exact hw y hy
          · rw [List.mem_singleton] at hy
            rw [hy]
            exact hz
      · rintro G ⟨ws, kG, bG, hD, lw, hw⟩
        exact ⟨D, ws, rfl, kG, bG, hD, nDb, by omega, hw⟩
    rintro σ G ⟨D, ws, rfl, kG, bG, hD, nDb, lw, hw⟩
    have hlG := kG _ _ lb hl
    obtain ⟨xg, hxg⟩ := bG.at
    refine ⟨_, rfl, D, _, rfl, .inl ⟨SqL.of hD, fun t nt => ?_⟩⟩
    have st := Same.new nt (o := .tup (ws.map V.str))
    have b3 := BoxAt.same st bG
    have ht : upd G t (.tup (ws.map V.str)) t = some (.tup (ws.map V.str)) := upd_same
    have hl3 := st _ _ hlG
    have k3 := kG.trans (Kept.of_same (b := b) st)
    generalize upd G t (.tup (ws.map V.str)) = G3 at b3 ht hl3 k3 ⊢
    have tb := tup_box ht b3
    refine ⟨_, rfl, b, 2, rfl, b3, by decide, by decide, fun r o r0 r1 ho => ⟨_, _, rfl, rfl, 1 + r, rfl, by omega, by omega, fun D2 nD2 => ?_⟩⟩
    have bo : BoxAt (upd G3 b o) b := BoxAt.box ho
    have ko : Kept b G3 (upd G3 b o) := Kept.box
    generalize upd G3 b o = G4 at bo ko nD2 ⊢
    obtain ⟨xo, hxo⟩ := bo.at
    obtain ⟨x3, hx3⟩ := b3.at
    have nD2b : D2 ≠ b := (ne_of_none hxo nD2).symm
    have nD3 : G3 D2 = none := ko.free ⟨_, hx3⟩ ⟨_, hxo⟩ nD2
    refine lc_range (lo := 0) (n := (1 + r).toNat) (fun i G => ∃ us : List Str, Kept b G3 G ∧ BoxAt G b ∧ G D2 = some (.lst (us.map V.str)) ∧ us.length = i ∧ ∀ z ∈ us, z ∈ deedL) ⟨[], ko.put nD3, BoxAt.same (Same.new nD2) bo, upd_same, rfl, fun z hz => (List.not_mem_nil hz).elim⟩ ?_ ?_
    · rintro i G hi ⟨us, kG2, bG2, hD2, lu, hu⟩
      refine ⟨rfl, _, rfl, _, rfl, b, l, _, rfl, bG2, lb, SqL.of (kG2 _ _ lb hl3), (by show 0 < 8; decide), (by show 8 ≤ 1000; decide), fun v o2 hv ho2 => ?_⟩
      obtain ⟨z, hz, rfl⟩ := List.mem_map.mp hv
      refine ⟨_, by rw [upd_ne nD2b]; exact hD2, ?_, us ++ [z], (kG2.trans Kept.box).put nD3, ?_, ?_, ?_, ?_⟩
      · rw [List.length_map]
        exact small1000 (by omega)
      · exact ⟨o2, by rw [upd_ne (Ne.symm nD2b)]; exact upd_same, ho2⟩
      · rw [upd_same, List.map_append]
        rfl
      · rw [List.length_append, lu]
        rfl
      · intro y hy
        rcases List.mem_append.mp hy with hy | hy
        · exact hu y hy
        · rw [List.mem_singleton] at hy
          rw [hy]
          exact hz
    · rintro G5 ⟨us, k5, b5, h5, lu, hu⟩
      refine ⟨D2, _, rfl, .inl ⟨SqL.of h5, fun t2 nt2 => ⟨(by show 2 ≤ sizeLine; decide), fun p np => ?_⟩⟩⟩
      have s6 := Same.new nt2 (o := .tup (us.map V.str))
      have s7 := Same.new np (o := .tup [.ref t, .ref t2])
      have s67 := s6.trans s7
      refine k p ⟨ws, us⟩ _ ?_ (BoxAt.same s67 b5) ⟨t, t2, upd_same, s67 _ _ (k5 _ _ tb ht), s7 _ _ upd_same⟩ ⟨hw, hu, lw, by show us.length ≤ 10; omega, by show 0 < us.length; omega⟩
      exact (((Kept.of_same s1).trans k3).trans k5).trans (Kept.of_same s67)
end
end Lay
set_option Elab.async false
set_option linter.all false
set_option maxRecDepth 100000
set_option maxHeartbeats 800000
set_option pp.maxSteps 900
namespace Lay
open PySem PySem.Spec PyProof.Rows L2 KwX StX
/-! ### tools that the law draws -/
def PrG (G : Hp) (v : V) (r : RD) : Prop := ∃ p, v = .ref p ∧ PrAt G p r ∧ Dr r
def PrX (G : Hp) (v : V) : Prop := ∃ r, PrG G v r
theorem PrX.same {G G' : Hp} {v : V} (s : Same G G') (h : PrX G v) : PrX G' v := by
  obtain ⟨r, p, e, h1, h2⟩ := h
  exact ⟨r, p, e, h1.same s, h2⟩
theorem PrX.put {G : Hp} {b : Addr} {v : V} {xs : List V} {o : HO} (hb : G b = some (.lst xs)) (h : PrX G v) : PrX (upd G b o) v := by
  obtain ⟨r, p, e, h1, h2⟩ := h
  exact ⟨r, p, e, h1.put hb, h2⟩
theorem PrX.kept {G G' : Hp} {b : Addr} {v : V} (bx : BoxAt G b) (k : Kept b G G') (h : PrX G v) : PrX G' v := by
  obtain ⟨r, p, e, h1, h2⟩ := h
  exact ⟨r, p, e, h1.kept bx k, h2⟩
theorem pair_of {α β : Type} {P : α → β → Prop} : ∀ {xs : List α}, (∀ x ∈ xs, ∃ y, P x y) → ∃ ys : List β, Paired P xs ys
  | [], _ => ⟨[], .nil⟩
  | x :: xs, h => by
    obtain ⟨y, hy⟩ := h x List.mem_cons_self
    obtain ⟨ys, hs⟩ := pair_of (xs := xs) fun z hz => h z (List.mem_cons_of_mem _ hz)
    exact ⟨y :: ys, .cons hy hs⟩
def tStrs : List Str → TA
  | [] => tNil
  | w :: ws => tCons (tC (.str w)) (tStrs ws)
theorem tStrs_of : ∀ (ws : List Str) (σ : L2.St) (H : Hp) (Q : List V → Hp → Prop), Q (ws.map V.str) H → tStrs ws σ H Q
  | [], _, _, _, h => h
  | w :: ws, σ, H, Q, h => tStrs_of ws σ H (fun vs H' => Q (.str w :: vs) H') h
def tPair : TE := fun σ H Q => ∀ p H', Same H H' → PrX H' (.ref p) → Q (.ref p) H'
theorem pe_mono {X : Cx} {e : Expr} {t t' : TE} (h : PE X e t) (m : ∀ σ H Q, t' σ H Q → t σ H Q) : PE X e t' := ⟨fun pins s σ H Q I q => h.run pins s σ H Q I (m σ H Q q)⟩
theorem pe_pair {X : Cx} {es1 es2 : List Expr} {x1 x2 x3} {p1 p2 p3 : Pos} {ws us : List Str} (ha : PA X es1 (tStrs ws)) (hb : PA X es2 (tStrs us)) (gw : ∀ z ∈ ws, z ∈ tAll) (gu : ∀ z ∈ us, z ∈ deedL) (lw : ws.length ≤ 10) (lu : us.length ≤ 10) (nu : 0 < us.length) :
    PE X (.Tuple [.Tuple es1 x1 p1, .Tuple es2 x2 p2] x3 p3) tPair := by
  refine pe_mono (pe_tup (pa_cons (pe_tup ha) (pa_cons (pe_tup hb) pa_nil))) fun σ H Q q => ?_
  refine tStrs_of ws σ H _ ⟨by rw [List.length_map]; exact fits (by omega), fun t nt => tStrs_of us σ _ _ ⟨by rw [List.length_map]; exact fits (by omega), fun d nd => ⟨by show 2 ≤ sizeLine; decide, fun p np => ?_⟩⟩⟩
  have s1 := Same.new nt (o := .tup (ws.map V.str))
  have s2 := Same.new nd (o := .tup (us.map V.str))
  have s3 := Same.new np (o := .tup [.ref t, .ref d])
  exact q p _ ((s1.trans s2).trans s3) ⟨⟨ws, us⟩, p, rfl, ⟨t, d, upd_same, s3 _ _ (s2 _ _ upd_same), s3 _ _ upd_same⟩, gw, gu, lw, lu, nu⟩
/-- a list of pairs that is new -/
def NewL (H G : Hp) (U : Addr) (n : Nat) : Prop := H U = none ∧ Same H G ∧ ∃ xs : List V, G U = some (.lst xs) ∧ xs.length = n ∧ ∀ v ∈ xs, PrX G v
def spLTool : Sp := fun vs H Q _ => ∃ (b : Addr), vs = [.ref b] ∧ BoxAt H b ∧ ∀ p R (xs : List V) s G, Kept b H G → BoxAt G b → G p = some (.tup [.ref R, .bl s]) → G R = some (.lst xs) → R ≠ b → (∀ v ∈ xs, PrX G v) → xs.length ≤ 4 → Q (.ref p) G
section
variable {P : Program} {w : World} {K : PySem.W.Frag} {mg : Str → Option Value} {base : Heap}
theorem scLTool : FnScope ["_law_box_here", "_law_usual", "_law_rows", "_law_turn"] ["_law_box_here"] (defScope sLTool) := ⟨rfl, rfl, rfl, by decide +kernel, rfl, by decide +kernel, by decide +kernel⟩
theorem ok_ltool {f : Addr} {fd : FuncData} (F : Fun K "_law_tool" "_law_tool" sLTool f fd) (B : Bt mg) (DX : Has P w K mg base CX0 4 "_law_row" ["_law_box_here"] spLRow) (DK : Has P w K mg base CX0 2 "_law_pick" ["_law_box_here", "_law_items"] (spPick K)) (DT : Has P w K mg base CX0 1 "_law_take" ["_law_box_here", "_law_many"] spTake) : FnOk P w K mg base CX0 5 f fd ["_law_box_here"] spLTool := by
  refine F.ok scLTool (fun vs H Q E h => ?_) (fun cdv A outer s H vs Q E hr h => ?_)
  · obtain ⟨b, rfl, _⟩ := h
    rfl
  · obtain ⟨b, rfl, bx, k⟩ := h
    have hr1 := hr.mono (show 1 ≤ 4 by decide)
    have hr2 := hr.mono (show 2 ≤ 4 by decide)
    refine ⟨_, (C8.pss_cut (ps_set (i := 1) scLTool.nd rfl (.inl rfl) (pe_lst (pa_cons (pe_pair (ws := ["long"]) (us := ["break", "mark"]) (pa_cons pe_str pa_nil) (pa_cons pe_str (pa_cons pe_str pa_nil)) (by decide +kernel) (by decide +kernel) (by decide) (by decide) (by decide)) (pa_cons (pe_pair (ws := ["marked"]) (us := ["break"]) (pa_cons pe_str pa_nil) (pa_cons pe_str pa_nil) (by decide +kernel) (by decide +kernel) (by decide) (by decide) (by decide)) (pa_cons (pe_pair (ws := ["not long", "not marked"]) (us := ["join"]) (pa_cons pe_str (pa_cons pe_str pa_nil)) (pa_cons pe_str pa_nil) (by decide +kernel) (by decide +kernel) (by decide) (by decide) (by decide)) pa_nil)))))
    (C8.pss_cut (ps_set (i := 1) scLTool.nd rfl (.inl rfl) (pe_op op_cat (pv 1) (pe_lst (pa_cons (pe_pair (ws := ["long", "behind"]) (us := ["lift"]) (pa_cons pe_str (pa_cons pe_str pa_nil)) (pa_cons pe_str pa_nil) (by decide +kernel) (by decide +kernel) (by decide) (by decide) (by decide)) (pa_cons (pe_pair (ws := ["not long", "ahead"]) (us := ["lower"]) (pa_cons pe_str (pa_cons pe_str pa_nil)) (pa_cons pe_str pa_nil) (by decide +kernel) (by decide +kernel) (by decide) (by decide) (by decide)) pa_nil)))))
    (C8.pss_cut (ps_expr (pe_bm PySem.F.plainAttrs_list PySem.F.slot_list_append PySem.F.type_list_append mt_append (pv 1) (pa_cons (pe_pair (ws := ["afterbroken"]) (us := ["space"]) (pa_cons pe_str pa_nil) (pa_cons pe_str pa_nil) (by decide +kernel) (by decide +kernel) (by decide) (by decide) (by decide)) pa_nil)))
    (C8.pss_cut (ps_set (i := 1) scLTool.nd rfl (.inl rfl) (pe_op op_cat (pv 1) (pe_lst (pa_cons (pe_pair (ws := ["not broken"]) (us := ["unmark"]) (pa_cons pe_str pa_nil) (pa_cons pe_str pa_nil) (by decide +kernel) (by decide +kernel) (by decide) (by decide) (by decide)) (pa_cons (pe_pair (ws := ["broken"]) (us := ["mark"]) (pa_cons pe_str pa_nil) (pa_cons pe_str pa_nil) (by decide +kernel) (by decide +kernel) (by decide) (by decide) (by decide)) (pa_cons (pe_pair (ws := ["blank"]) (us := ["close"]) (pa_cons pe_str pa_nil) (pa_cons pe_str pa_nil) (by decide +kernel) (by decide +kernel) (by decide) (by decide) (by decide)) pa_nil))))))
    (pss_cons (ps_set (i := 2) scLTool.nd rfl (.inl rfl) (pe_lst pa_nil))
    (pss_cons (ps_for PassesOwn.never rfl (pi_range1 (by rfl) B.range (pa_cons (pe_callH DT hr1 (by rfl) pass0 (pa_cons (pv 0) (pa_cons pe_int pa_nil))) pa_nil)) (pg_name (i := 3) scLTool.nd rfl (.inl rfl))
      (pss_one (ps_expr (pe_bm PySem.F.plainAttrs_list PySem.F.slot_list_append PySem.F.type_list_append mt_append (pv 2) (pa_cons (pe_ifExp (pt_cmpR op_gt (pe_callH DT hr1 (by rfl) pass0 (pa_cons (pv 0) (pa_cons pe_int pa_nil))) pe_int (nomark _)) (pe_callH DK hr2 (by rfl) pass0 (pa_cons (pv 0) (pa_cons (pv 1) pa_nil))) (pe_callH DX hr (by rfl) pass0 (pa_cons (pv 0) pa_nil))) pa_nil)))))
    (pss_one (ps_ret (pe_tup (pa_cons (pv 2) (pa_cons (pe_cmpR op_eq (pe_callH DT hr1 (by rfl) pass0 (pa_cons (pv 0) (pa_cons pe_int pa_nil))) pe_int (nomark _)) pa_nil))))))))))), ?_⟩
    refine ⟨fun σ G => ∃ U, σ = [some (.ref b), some (.ref U), none, none] ∧ NewL H G U 3, ?_, ?_⟩
    · refine fun p1 H1 s1 a1 => fun p2 H2 s2 a2 => fun p3 H3 s3 a3 => ⟨(by show 3 ≤ sizeLine; decide), fun U nU => ?_⟩
      have s4 := Same.new nU (o := .lst [.ref p1, .ref p2, .ref p3])
      refine ⟨U, rfl, ((s1.trans s2).trans s3).free nU, ((s1.trans s2).trans s3).trans s4, _, upd_same, rfl, fun v hv => ?_⟩
      simp only [List.mem_cons, List.not_mem_nil, or_false] at hv
      rcases hv with rfl | rfl | rfl
      · exact a1.same ((s2.trans s3).trans s4)
      · exact a2.same (s3.trans s4)
      · exact a3.same s4
    rintro σ G ⟨U0, rfl, nU0, sG, xs, hU, lx, hx⟩
    refine ⟨fun σ G => ∃ U, σ = [some (.ref b), some (.ref U), none, none] ∧ NewL H G U 5, ?_, ?_⟩
    · refine ⟨_, rfl, fun p1 H1 s1 a1 => fun p2 H2 s2 a2 => ⟨(by show 2 ≤ sizeLine; decide), fun l nl => ?_⟩⟩
      have s4 := Same.new nl (o := .lst [.ref p1, .ref p2])
      have s14 := (s1.trans s2).trans s4
      refine ⟨U0, l, xs, _, rfl, rfl, s14 _ _ hU, upd_same, by rw [lx]; show 3 + 2 ≤ sizeLine; decide, fun U nU => ?_⟩
      have s5 := Same.new nU (o := .lst (xs ++ [.ref p1, .ref p2]))
      refine ⟨U, rfl, (sG.trans s14).free nU, (sG.trans s14).trans s5, _, upd_same, by rw [List.length_append, lx]; rfl, fun v hv => ?_⟩
      rcases List.mem_append.mp hv with hv | hv
      · exact (hx v hv).same (s14.trans s5)
      simp only [List.mem_cons, List.not_mem_nil, or_false] at hv
      rcases hv with rfl | rfl
      · exact a1.same ((s2.trans s4).trans s5)
      · exact a2.same (s4.trans s5)
    clear hU hx lx sG nU0
    rintro σ G ⟨U0, rfl, nU0, sG, xs, hU, lx, hx⟩
    refine ⟨fun σ G => ∃ U, σ = [some (.ref b), some (.ref U), none, none] ∧ NewL H G U 6, ?_, ?_⟩
    · refine ⟨_, rfl, .inl ⟨rfl, _, SqL.of hU⟩, fun p1 H1 s1 a1 => ⟨U0, xs, _, rfl, rfl, s1 _ _ hU, by rw [lx]; decide, U0, rfl, nU0, same_put (sG.trans s1) nU0, _, upd_same, by rw [List.length_append, lx]; rfl, fun v hv => ?_⟩⟩
      have hU1 := s1 _ _ hU
      rcases List.mem_append.mp hv with hv | hv
      · exact PrX.put hU1 ((hx v hv).same s1)
      · rw [List.mem_singleton] at hv
        subst hv
        exact PrX.put hU1 a1
    clear hU hx lx sG nU0
    rintro σ G ⟨U0, rfl, nU0, sG, xs, hU, lx, hx⟩
    refine ⟨fun σ G => ∃ U, σ = [some (.ref b), some (.ref U), none, none] ∧ NewL H G U 9, ?_, ?_⟩
    · refine ⟨_, rfl, fun p1 H1 s1 a1 => fun p2 H2 s2 a2 => fun p3 H3 s3 a3 => ⟨(by show 3 ≤ sizeLine; decide), fun l nl => ?_⟩⟩
      have s4 := Same.new nl (o := .lst [.ref p1, .ref p2, .ref p3])
      have s14 := ((s1.trans s2).trans s3).trans s4
      refine ⟨U0, l, xs, _, rfl, rfl, s14 _ _ hU, upd_same, by rw [lx]; show 6 + 3 ≤ sizeLine; decide, fun U nU => ?_⟩
      have s5 := Same.new nU (o := .lst (xs ++ [.ref p1, .ref p2, .ref p3]))
      refine ⟨U, rfl, (sG.trans s14).free nU, (sG.trans s14).trans s5, _, upd_same, by rw [List.length_append, lx]; rfl, fun v hv => ?_⟩
      rcases List.mem_append.mp hv with hv | hv
      · exact (hx v hv).same (s14.trans s5)
      simp only [List.mem_cons, List.not_mem_nil, or_false] at hv
      rcases hv with rfl | rfl | rfl
      · exact a1.same (((s2.trans s3).trans s4).trans s5)
      · exact a2.same ((s3.trans s4).trans s5)
      · exact a3.same (s4.trans s5)
    clear hU hx lx sG nU0
    rintro σ G ⟨U, rfl, nU, sG, xs, hU, lx, hx⟩
    obtain ⟨xb, hxb⟩ := bx.at
    have Ub : U ≠ b := (ne_of_none hxb nU).symm
    have bG := BoxAt.same sG bx
    refine ⟨(by show 0 ≤ sizeLine; exact Nat.zero_le _), fun R nR => ?_⟩
    have sR := Same.new nR (o := .lst [])
    have hR : upd G R (.lst []) R = some (.lst []) := upd_same
    have UR : U ≠ R := ne_of_none hU nR
    have Rb : R ≠ b := (ne_of_none (sG _ _ hxb) nR).symm
    have nR0 := sG.free nR
    have b1 := BoxAt.same sR bG
    have hU1 := sR _ _ hU
    have hx1 : ∀ v ∈ xs, PrX (upd G R (.lst [])) v := fun v hv => (hx v hv).same sR
    have s1 := sG.trans sR
    change tSeq _ _ _ _ (upd G R (.lst []))
    generalize upd G R (.lst []) = G1 at s1 hR b1 hU1 hx1 ⊢
    refine ⟨_, rfl, b, 5, rfl, b1, by decide, by decide, fun r o r0 r1 ho => ⟨r, rfl, by omega, by omega, for_range (lo := 0) (n := r.toNat) (fun i σ G => ∃ (x3 : Option V) (ys : List V), σ = [some (.ref b), some (.ref U), some (.ref R), x3] ∧ Kept b H G ∧ BoxAt G b ∧ G U = some (.lst xs) ∧ (∀ v ∈ xs, PrX G v) ∧ G R = some (.lst ys) ∧ (∀ v ∈ ys, PrX G v) ∧ ys.length = i) ⟨none, [], rfl, (Kept.of_same s1).trans Kept.box, BoxAt.box ho, Kept.box _ _ Ub hU1, fun v hv => (hx1 v hv).kept b1 Kept.box, Kept.box _ _ Rb hR, fun v hv => (List.not_mem_nil hv).elim, rfl⟩ ?_ ?_⟩⟩
    · rintro i σ G2 hi ⟨x3, ys, rfl, k2, b2, hU2, hx2, hR2, hy2, ly⟩
      refine ⟨_, rfl, .inl ⟨rfl, _, SqL.of hR2⟩, _, rfl, b, 3, rfl, b2, by decide, by decide, fun r' o' r0' r1' ho' => ⟨_, _, rfl, rfl, _, rfl, ?_⟩⟩
      have k3 : Kept b G2 (upd G2 b o') := Kept.box
      have b3 : BoxAt (upd G2 b o') b := BoxAt.box ho'
      generalize upd G2 b o' = G3 at k3 b3 ⊢
      have fin : ∀ v G4, Kept b G3 G4 → BoxAt G4 b → PrX G4 v → ∃ (x3 : Option V) (zs : List V), [some (V.ref b), some (.ref U), some (.ref R), some (.int (0 + (i : Int)))] = [some (.ref b), some (.ref U), some (.ref R), x3] ∧ Kept b H (upd G4 R (.lst (ys ++ [v]))) ∧ BoxAt (upd G4 R (.lst (ys ++ [v]))) b ∧ upd G4 R (.lst (ys ++ [v])) U = some (.lst xs) ∧ (∀ v' ∈ xs, PrX (upd G4 R (.lst (ys ++ [v]))) v') ∧ upd G4 R (.lst (ys ++ [v])) R = some (.lst zs) ∧ (∀ v' ∈ zs, PrX (upd G4 R (.lst (ys ++ [v]))) v') ∧ zs.length = i + 1 := fun v G4 k4 b4 hv => by
        have hR4 := k4 _ _ Rb (k3 _ _ Rb hR2)
        refine ⟨_, ys ++ [v], rfl, ((k2.trans k3).trans k4).put nR0, ?_, ?_, fun v' h' => ?_, upd_same, fun v' h' => ?_, by rw [List.length_append, ly]; rfl⟩
        · obtain ⟨ob, eb, yb⟩ := b4
          exact ⟨ob, by rw [upd_ne (Ne.symm Rb)]; exact eb, yb⟩
        · rw [upd_ne UR]
          exact k4 _ _ Ub (k3 _ _ Ub hU2)
        · exact (((hx2 v' h').kept b2 k3).kept b3 k4).put hR4
        · rcases List.mem_append.mp h' with h' | h'
          · exact (((hy2 v' h').kept b2 k3).kept b3 k4).put hR4
          · rw [List.mem_singleton] at h'
            rw [h']
            exact hv.put hR4
      refine ite2 (fun _ => ?_) (fun _ => ?_)
      · refine ⟨_, rfl, _, rfl, b, U, xs, rfl, b3, Ub, SqL.of (k3 _ _ Ub hU2), by rw [lx]; decide, by rw [lx]; decide, fun v ov hv hov => ?_⟩
        refine ⟨R, ys, _, rfl, rfl, Kept.box _ _ Rb (k3 _ _ Rb hR2), small1000 (by omega), fin v _ Kept.box (BoxAt.box hov) ?_⟩
        exact ((hx2 v hv).kept b2 k3).kept b3 Kept.box
      · refine ⟨_, rfl, b, rfl, b3, fun p rd G4 k4 b4 hp hd => ?_⟩
        exact ⟨R, ys, _, rfl, rfl, k4 _ _ Rb (k3 _ _ Rb hR2), small1000 (by omega), fin (.ref p) G4 k4 b4 ⟨rd, p, rfl, hp, hd⟩⟩
    · rintro σ G2 ⟨x3, ys, rfl, k2, b2, hU2, hx2, hR2, hy2, ly⟩
      refine ⟨_, rfl, _, rfl, b, 4, rfl, b2, by decide, by decide, fun r' o' r0' r1' ho' => ⟨rfl, (by show 2 ≤ sizeLine; decide), fun p np => ?_⟩⟩
      have k3 : Kept b G2 (upd G2 b o') := Kept.box
      have b3 : BoxAt (upd G2 b o') b := BoxAt.box ho'
      generalize upd G2 b o' = G3 at k3 b3 np ⊢
      have sp := Same.new np (o := .tup [.ref R, .bl (decide (V.int r' = V.int 0))])
      exact k p R ys _ _ ((k2.trans k3).trans (Kept.of_same sp)) (BoxAt.same sp b3) upd_same (sp _ _ (k3 _ _ Rb hR2)) Rb (fun v hv => ((hy2 v hv).kept b2 k3).same sp) (by omega)
end
end Lay
set_option Elab.async false
set_option linter.all false
set_option maxRecDepth 100000
set_option maxHeartbeats 800000
set_option pp.maxSteps 900
namespace Lay
open PySem PySem.Spec PyProof.Rows L2 KwX StX
theorem RowsAt.append {C : Addr} {H : Hp} {xs ys : List V} {rs qs : List RD} (h : RowsAt C H xs rs) (g : RowsAt C H ys qs) : RowsAt C H (xs ++ ys) (rs ++ qs) := by
  refine ⟨by rw [List.length_append, List.length_append, h.1, g.1], fun r hr => ?_, fun i x r hx hr => ?_⟩
  · rcases List.mem_append.mp hr with hr | hr
    · exact h.2.1 r hr
    · exact g.2.1 r hr
  · by_cases hi : i < xs.length
    · rw [List.getElem?_append_left hi] at hx
      rw [List.getElem?_append_left (by rw [← h.1]; exact hi)] at hr
      exact h.2.2 i x r hx hr
    · rw [List.getElem?_append_right (by omega)] at hx
      rw [List.getElem?_append_right (by rw [← h.1]; omega), ← h.1] at hr
      exact g.2.2 _ x r hx hr
theorem RowsAt.isP {K : PySem.W.Frag} {C : Addr} {H : Hp} {xs : List V} {rs : List RD} (c : ClsI K C) (h : RowsAt C H xs rs) : ∀ v ∈ xs, IsP K C H v true := fun v hv => by
  obtain ⟨i, hi⟩ := List.mem_iff_getElem?.mp hv
  have li := (List.getElem?_eq_some_iff.mp hi).1
  rw [h.1] at li
  obtain ⟨q, rfl, hq⟩ := h.2.2 i v rs[i] hi (by simp [li])
  exact hq.isP c
section
variable {X : Cx} {K : PySem.W.Frag}
theorem pg_tupK {es : List Expr} {k : Nat} {t : TGs} {n : Nat} {pos : Pos} (hK : X.K = K) (hc : X.calm = true) (h : PGs X es t) (hn : (assignEach es X.env).length = n := by rfl) (hst : (assignEach es X.env).findIdx? (·.1) = none := by rfl) : PG X (.Tuple es k pos) (gTup K n t) := by
  subst hK
  exact pg_tup hc h hn hst
end
theorem Paired.nth {α β : Type} {F : α → β → Prop} : ∀ {a : List α} {b : List β}, Paired F a b → ∀ {i : Nat} {x : α}, a[i]? = some x → ∃ y, b[i]? = some y ∧ F x y
  | _, _, .nil, i, x, e => by cases i <;> cases e
  | _, _, .cons h t, 0, x, e => by
    cases e
    exact ⟨_, rfl, h⟩
  | _, _, .cons h t, i + 1, x, e => Paired.nth t (i := i) e
abbrev sToolOf : Stmt := top 54
def spToolOf (K : PySem.W.Frag) (C CT : Addr) : Sp := fun vs H Q _ => ∃ (p R : Addr) (xs : List V) (rs : List RD) (s : Bool), vs = [.ref p] ∧ H p = some (.tup [.ref R, .bl s]) ∧ H R = some (.lst xs) ∧ Paired (PrG H) xs rs ∧ xs.length ≤ 100 ∧
  ∀ y G, Same H G → TlAt K C CT G y rs s → Q (.ref y) G
section
variable {P : Program} {w : World} {K : PySem.W.Frag} {mg : Str → Option Value} {base : Heap}
theorem scToolOf : FnScope ["_law_tool_here", "_law_tests", "_law_deeds"] ["_law_tool_here"] (defScope sToolOf) := ⟨rfl, rfl, rfl, by decide +kernel, rfl, by decide +kernel, by decide +kernel⟩
theorem ok_toolOf {f fR fT C CT : Addr} {fd fdR fdT : FuncData} (F : Fun K "_law_tool_of" "_law_tool_of" sToolOf f fd) (c0 : ClsI K C) (MR : Mk K C fR) (GR : FnOk P w K mg base CX0 3 fR fdR ["self", "tests", "deeds"] (spRowG K C)) (gR : mg "Row" = some (.ref C)) (bR : Binds K fdR ["self", "tests", "deeds"] [])
    (MT : Mk K CT fT) (GT : FnOk P w K mg base CX0 3 fT fdT ["self", "rows", "sorts"] (spToolG K C CT)) (gT : mg "Tool" = some (.ref CT)) (bT : Binds K fdT ["self", "rows", "sorts"] []) : FnOk P w K mg base CX0 5 f fd ["_law_tool_here"] (spToolOf K C CT) := by
  refine F.ok scToolOf (fun vs H Q E h => ?_) (fun cdv A outer s H vs Q E hr h => ?_)
  · obtain ⟨p, R, xs, rs, b, rfl, _⟩ := h
    rfl
  · obtain ⟨p, R, xs, rs, b, rfl, hp, hR, hrs, lx, k⟩ := h
    refine ⟨_, pss_one (ps_ret (pe_make MT GT hr (by rfl) gT bT .nil pass0 (pa_cons
      (pe_lc (own := [("_law_tests", 1), ("_law_deeds", 2)]) (tt := tYes) (by rfl) scToolOf.nd (pi_list (pe_ix ix_tup (pv 0) pe_int (fun _ _ => rfl))) (blkOk_by (N := ["_law_tool_here", "_law_tests", "_law_deeds"]) (sc := defScope sToolOf) (by decide +kernel))
        (fun _ _ _ _ _ => pg_tupK (K := K) (n := 2) rfl rfl (pgs_cons (pg_name (i := 1) scToolOf.nd rfl (Or.inl rfl)) (pgs_cons (pg_name (i := 2) scToolOf.nd rfl (Or.inl rfl)) pgs_nil))) (fun _ _ _ _ _ => pts_nil)
        (fun _ _ _ _ _ => pe_make MR GR hr (by rfl) gR bR .nil pass0 (pa_cons (pv 1) (pa_cons (pv 2) pa_nil))))
      (pa_cons (pe_ix ix_tup (pv 0) pe_int (fun _ _ => rfl)) pa_nil)))), ?_⟩
    have lr := Paired.length hrs
    refine ⟨_, rfl, p, _, 0, .ref R, rfl, rfl, SqT.of hp, rfl, R, rfl, ⟨_, SqL.of hR⟩, fun D nD => lc_list (xs := xs) (fun i G => ∃ acc : List V, Same H G ∧ G D = some (.lst acc) ∧ RowsAt C G acc (rs.take i)) ⟨[], Same.new nD, upd_same, rfl, fun r h => (List.not_mem_nil h).elim, fun i x r h => by simp at h⟩ (fun i G _ q => by obtain ⟨acc, q, _⟩ := q; exact SqL.of (q _ _ hR)) ?_ ?_⟩
    · rintro i x G hi ⟨acc, sG, hD, ra⟩
      obtain ⟨r, er, q, rfl, hq, dr⟩ := Paired.nth hrs hi
      obtain ⟨tt, d, h1, h2, h3⟩ := hq.same sG
      obtain ⟨o, gt, gd⟩ := dr.good
      refine ⟨q, _, rfl, SqT.of h1, rfl, _, _, rfl, _, _, rfl, rfl, rfl, _, rfl, _, rfl, fun y dx ny nd ne => ?_⟩
      have zz := (Same.new nd (o := .own y)).trans (Same.new (fresh_own (o := .own y) ny ne) (o := .ins C dx []))
      refine ⟨y, dx, tt, d, r, rfl, upd_same, .inr (zz _ _ h2), .inr (zz _ _ h3), o, gt, gd, fun G2 kp hy => ⟨rfl, acc, ?_, ?_, acc ++ [.ref y], fun c u e => ?_, upd_same, ?_⟩⟩
      · exact made_same ny nd kp _ _ hD
      · rw [ra.1, List.length_take]
        exact smallT (by omega)
      · rw [upd_ne (ne_of_none e nD)]
        exact made_same ny nd kp _ _ (sG _ _ e)
      · have sm := made_same ny nd kp
        have hD2 := sm _ _ hD
        have r1 : RowsAt C G2 [V.ref y] [r] := ⟨rfl, fun r' h => by
          rw [List.mem_singleton] at h
          rw [h]
          exact o, fun n x r' hx hr => by
          cases n with
          | zero =>
            cases hx
            cases hr
            exact ⟨y, rfl, hy⟩
          | succ n => cases hx⟩
        have r2 := (ra.same sm).append r1
        rw [List.take_succ, er]
        refine ⟨r2.1, r2.2.1, fun n x r' hx hr => ?_⟩
        obtain ⟨q2, e2, dx2, t2, d2, g1, g2, g3⟩ := r2.2.2 n x r' hx hr
        exact ⟨q2, e2, dx2, t2, d2, by rw [upd_ne (ne_of g1 hD2 (fun z => nomatch z))]; exact g1, by rw [upd_ne (ne_of g2 hD2 (fun z => nomatch z))]; exact g2, by rw [upd_ne (ne_of g3 hD2 (fun z => nomatch z))]; exact g3⟩
    · rintro G ⟨acc, sG, hD, ra⟩
      rw [lr, List.take_length] at ra
      refine ⟨_, rfl, p, _, 1, .bl b, rfl, rfl, SqT.of (sG _ _ hp), rfl, fun y dx ny nd ne => ?_⟩
      have zz := (Same.new nd (o := .own y)).trans (Same.new (fresh_own (o := .own y) ny ne) (o := .ins CT dx []))
      refine ⟨y, dx, D, acc, b, rfl, upd_same, .inl (zz _ _ hD), by rw [ra.1]; omega, (ra.same zz).isP c0, fun G2 tt htt kp hy => ⟨rfl, ?_⟩⟩
      have sm := made_same ny nd kp
      exact k y G2 (sG.trans sm) ⟨dx, tt, acc, hy, htt, ra.same sm⟩
end
end Lay
set_option Elab.async false
set_option linter.all false
set_option maxRecDepth 100000
set_option maxHeartbeats 800000
set_option pp.maxSteps 900
namespace Lay
open PySem PySem.Spec PyProof.Rows L2 KwX StX
/-! ### what the law asks of a form -/
def roomN : Nat → Int
  | 0 => 0
  | 1 => 5
  | 2 => -1
  | 3 => 1
  | _ => 20
def oneI (b : Bool) : Int := if b = true then 1 else 0
def longF (f : Fm) : Bool := decide (oneI f.m + 5 * oneI f.h > roomN f.sz)
def askW (z : Str) (bf : Option (Bool × Bool)) (f : Fm) : Bool := match wordN z with
  | 0 => f.b | 1 => f.m | 2 => f.l | 3 => f.a | 4 => f.h | 5 => decide ((f.n : Int) > 0) | 12 => bf.isNone | 13 => bf1 bf | 14 => bf2 bf | _ => longF f
theorem room_get : ∀ n : Nat, valV (mergeK [] [((Sum.inr "over" : Key), V.int (-1)), (.inr "even", .int 0), (.inr "tight", .int 1), (.inr "just", .int 5), (.inr "wide", .int 20)]) (.inr (sizeS n)) = some (.int (roomN n))
  | 0 => (by decide +kernel : valV (mergeK [] [((Sum.inr "over" : Key), V.int (-1)), (.inr "even", .int 0), (.inr "tight", .int 1), (.inr "just", .int 5), (.inr "wide", .int 20)]) (.inr "even") = some (.int 0))
  | 1 => (by decide +kernel : valV (mergeK [] [((Sum.inr "over" : Key), V.int (-1)), (.inr "even", .int 0), (.inr "tight", .int 1), (.inr "just", .int 5), (.inr "wide", .int 20)]) (.inr "just") = some (.int 5))
  | 2 => (by decide +kernel : valV (mergeK [] [((Sum.inr "over" : Key), V.int (-1)), (.inr "even", .int 0), (.inr "tight", .int 1), (.inr "just", .int 5), (.inr "wide", .int 20)]) (.inr "over") = some (.int (-1)))
  | 3 => (by decide +kernel : valV (mergeK [] [((Sum.inr "over" : Key), V.int (-1)), (.inr "even", .int 0), (.inr "tight", .int 1), (.inr "just", .int 5), (.inr "wide", .int 20)]) (.inr "tight") = some (.int 1))
  | n + 4 => (by decide +kernel : valV (mergeK [] [((Sum.inr "over" : Key), V.int (-1)), (.inr "even", .int 0), (.inr "tight", .int 1), (.inr "just", .int 5), (.inr "wide", .int 20)]) (.inr "wide") = some (.int 20))
abbrev sIsLong : Stmt := top 56
abbrev sAsk : Stmt := top 57
def spIsLong : Sp := fun vs H Q _ => ∃ (q : Addr) (f : Fm), vs = [.ref q] ∧ AtF H q f ∧ ∀ H', Same H H' → Q (.bl (longF f)) H'
def bfD : Option (Bool × Bool) → List PyData
  | none => []
  | some p => [.bool p.1, .bool p.2]
theorem bf_dp {K : PySem.W.Frag} {H : Hp} {t : Addr} {bf : Option (Bool × Bool)} (h : SqT K H t (bfV bf)) : Dp K H (.ref t) (.tuple (bfD bf)) := by
  cases bf with
  | none => exact .tup h .nil
  | some p => exact .tup h (.cons (.bl _) (.cons (.bl _) .nil))
theorem bf_shaped (bf : Option (Bool × Bool)) : PySem.SeqAt.shaped (.tuple (bfD bf)) = true := by
  cases bf with
  | none => rfl
  | some p => rfl
theorem bf_nil (bf : Option (Bool × Bool)) : PyData.eqv (.tuple (bfD bf)) (.tuple []) = bf.isNone := by
  cases bf <;> rfl
/-- words asked: those of the tests without `not` -/
def spAsk0 (K : PySem.W.Frag) : Sp := fun vs H Q _ => ∃ (z : Str) (t q : Addr) (bf : Option (Bool × Bool)) (f : Fm), vs = [.str z, .ref t, .ref q] ∧ z ∈ testL ∧ SqT K H t (bfV bf) ∧ AtF H q f ∧ ∀ H', Same H H' → Q (.bl (askW z bf f)) H'
theorem word_facts : ∀ z ∈ testL, z.length ≤ 20 ∧ (V.str (cutS z none (some 4)) = V.str "not ") = False := by
  have : ∀ z ∈ testL, z.length ≤ 20 ∧ decide (V.str (cutS z none (some 4)) = V.str "not ") = false := by decide +kernel
  intro z hz
  obtain ⟨h1, h2⟩ := this z hz
  exact ⟨h1, by simpa using h2⟩
def nmS : List V := [.str "size", .str "broken", .str "marked", .str "ahead", .str "behind", .str "blanks", .str "left"]
theorem ix_no {ys : List V} {y : V} {j : Nat} (h : ((List.range j).all fun m => match ys[m]? with
    | some z => !eqV z y
    | none => true) = true) : ∀ (m : Nat) (z : V), m < j → ys[m]? = some z → eqV z y = false := fun m z hm hz => by
  rw [List.all_eq_true] at h
  have := h m (List.mem_range.mpr hm)
  rw [hz] at this
  simpa using this
section
variable {P : Program} {w : World} {K : PySem.W.Frag} {mg : Str → Option Value} {base : Heap}
def isLongN : List Str := ["_law_form", "_law_size", "_law_broken", "_law_marked", "_law_ahead", "_law_behind", "_law_blanks", "_law_left", "_law_room"]
theorem scIsLong : FnScope isLongN ["_law_form"] (defScope sIsLong) := ⟨rfl, rfl, rfl, by decide +kernel, rfl, by decide +kernel, by decide +kernel⟩
theorem ok_isLong {f : Addr} {fd : FuncData} (F : Fun K "_law_is_long_form" "_law_is_long_form" sIsLong f fd) (B : Bt mg) : FnOk P w K mg base CX0 1 f fd ["_law_form"] spIsLong := by
  refine F.ok scIsLong (fun vs H Q E h => ?_) (fun cdv A outer s H vs Q E hr h => ?_)
  · obtain ⟨q, f, rfl, _⟩ := h
    rfl
  · obtain ⟨q, f, rfl, hq, k⟩ := h
    have hu := hu_of hr
    refine ⟨_, (pss_cons (ps_asg (pv 0) (pg_tup rfl (pgs_cons (pg_name (i := 1) scIsLong.nd rfl (.inl rfl)) (pgs_cons (pg_name (i := 2) scIsLong.nd rfl (.inl rfl)) (pgs_cons (pg_name (i := 3) scIsLong.nd rfl (.inl rfl)) (pgs_cons (pg_name (i := 4) scIsLong.nd rfl (.inl rfl)) (pgs_cons (pg_name (i := 5) scIsLong.nd rfl (.inl rfl)) (pgs_cons (pg_name (i := 6) scIsLong.nd rfl (.inl rfl)) (pgs_cons (pg_name (i := 7) scIsLong.nd rfl (.inl rfl)) pgs_nil)))))))))
    (pss_cons (ps_set (i := 8) scIsLong.nd rfl (.inl rfl) (pe_dget hu (pe_disp (pps_cons pe_str (pe_un un_neg pe_int) (pps_cons pe_str pe_int (pps_cons pe_str pe_int (pps_cons pe_str pe_int (pps_cons pe_str pe_int pps_nil))))) rfl rfl (by decide) (by decide)) (pv 1) (fun _ _ => rfl)))
    (pss_one (ps_ret (pe_cmpR op_gt (pe_op op_add (pe_callTy call_int1 (by rfl) B.int (by decide +kernel) (pa_cons (pv 3) pa_nil)) (pe_op op_mul pe_int (pe_callTy call_int1 (by rfl) B.int (by decide +kernel) (pa_cons (pv 5) pa_nil)))) (pv 8) (nomark _)))))), ?_⟩
    refine ⟨_, rfl, q, _, rfl, SqT.of hq, rfl, _, _, rfl, _, _, rfl, _, _, rfl, _, _, rfl, _, _, rfl, _, _, rfl, _, _, rfl, rfl, ?_⟩
    refine fun p np => ⟨_, rfl, upd_same, [((Sum.inr "over" : Key), V.int (-1)), (.inr "even", .int 0), (.inr "tight", .int 1), (.inr "just", .int 5), (.inr "wide", .int 20)], rfl, (by show 5 ≤ 15; decide), _, rfl, p, .int (roomN f.sz), rfl, ?_, ?_⟩
    · have g := DGet.k (k := .inr (sizeS f.sz)) (upd_same (H := upd H p (.dK [])) (a := p) (o := .dK (mergeK [] [((Sum.inr "over" : Key), V.int (-1)), (.inr "even", .int 0), (.inr "tight", .int 1), (.inr "just", .int 5), (.inr "wide", .int 20)])))
      rw [room_get] at g
      exact g
    rw [upd_upd]
    refine ⟨_, rfl, .inr ⟨f.m, rfl, _, rfl, .inr ⟨f.h, rfl, _, _, rfl, rfl, .inl ⟨by decide, by decide⟩, _, _, rfl, rfl, _, rfl, _, _, rfl, rfl, k _ (Same.new np)⟩⟩⟩
theorem scAsk : FnScope ["_law_test_here", "_law_before", "_law_form"] ["_law_test_here", "_law_before", "_law_form"] (defScope sAsk) := ⟨rfl, rfl, rfl, by decide +kernel, rfl, by decide +kernel, by decide +kernel⟩
theorem ok_ask0 {f : Addr} {fd : FuncData} (F : Fun K "_law_asks" "_law_asks" sAsk f fd) (B : Bt mg) (DL : Has P w K mg base CX0 1 "_law_is_long_form" ["_law_form"] spIsLong) : FnOk P w K mg base CX0 2 f fd ["_law_test_here", "_law_before", "_law_form"] (spAsk0 K) := by
  refine F.ok scAsk (fun vs H Q E h => ?_) (fun cdv A outer s H vs Q E hr h => ?_)
  · obtain ⟨z, t, q, bf, f, rfl, _⟩ := h
    rfl
  · obtain ⟨z, t, q, bf, f, rfl, hz, ht, hq, k⟩ := h
    have hu := hu_of hr
    refine ⟨_, (pss_cons (ps_if (pt_cmpR op_eq (pe_slice sl_str (pv 0) po_none (po_some pe_int)) pe_str (nomark _)) pss_never pss_nil)
    (pss_cons (ps_if (pt_cmpR (op_inK (K := K) rfl) (pv 0) (pe_tup (pa_cons pe_str (pa_cons pe_str (pa_cons pe_str pa_nil)))) (by rfl))
      (pss_one (ps_ret (pe_ifExp (pt_cmpR op_eq (pv 0) pe_str (nomark _)) (pe_cmpR (op_eqD hr.units) (pv 1) (pe_tup pa_nil) (nomark _)) (pe_and (pe_cmpR (op_neD hr.units) (pv 1) (pe_tup pa_nil) (nomark _)) (pe_one (pe_ix ix_tup (pv 1) (pe_callTy call_int1 (by rfl) B.int (by decide +kernel) (pa_cons (pe_cmpR op_eq (pv 0) pe_str (nomark _)) pa_nil)) (fun _ _ => rfl)))))))
      pss_nil)
    (pss_cons (ps_if (pt_cmpR (op_inK (K := K) rfl) (pv 0) (pe_tup (pa_cons pe_str (pa_cons pe_str pa_nil))) (by rfl))
      (pss_one (ps_ret (pe_ifExp (pt_cmpR op_eq (pv 0) pe_str (nomark _)) (pe_callH DL hr (by rfl) pass0 (pa_cons (pv 2) pa_nil)) (pe_cmpR op_gt (pe_ix ix_tup (pv 2) pe_int (fun _ _ => rfl)) pe_int (nomark _)))))
      pss_nil)
    (pss_one (ps_ret (pe_ix ix_tup (pv 2) (pe_bm PySem.F.plainAttrs_list PySem.F.slot_list_index PySem.F.type_list_index mt_index (pe_lst (pa_cons pe_str (pa_cons pe_str (pa_cons pe_str (pa_cons pe_str (pa_cons pe_str (pa_cons pe_str (pa_cons pe_str pa_nil)))))))) (pa_cons (pv 0) pa_nil)) (fun _ _ => rfl))))))), ?_⟩
    obtain ⟨lz, nz⟩ := word_facts z hz
    refine ⟨_, rfl, _, rfl, z, rfl, fits (by omega), rfl, _, rfl, iteN (by rw [decide_eq_false]; exact fun e => nz ▸ e) ?_⟩
    have hz0 := hz
    simp only [testL, List.mem_cons, List.not_mem_nil, or_false] at hz
    refine ⟨_, rfl, (by show 3 ≤ sizeLine; decide), fun t2 n2 => ⟨t2, _, rfl, .inr (SqT.of upd_same), rfl, rfl, _, rfl, ?_⟩⟩
    have s2 := Same.new n2 (o := .tup [.str "first", .str "afterbroken", .str "afterbehind"])
    have hq2 := hq.same s2
    have ht2 := SqT.same s2 ht
    clear hz0
    rcases hz with rfl | rfl | rfl | rfl | rfl | rfl | rfl | rfl | rfl | rfl
    · refine iteN (by decide +kernel) ⟨_, rfl, (by show 2 ≤ sizeLine; decide), fun t3 n3 => ⟨t3, _, rfl, .inr (SqT.of upd_same), rfl, rfl, _, rfl, ?_⟩⟩
      have s3 := Same.new n3 (o := .tup [.str "long", .str "blank"])
      refine iteN (by decide +kernel) ⟨_, rfl, (by show 7 ≤ sizeLine; decide), fun l nl => ⟨.inl ⟨rfl, _, SqL.of upd_same⟩, _, rfl, l, nmS, .str "broken", 1, .str "broken", rfl, rfl, SqL.of upd_same, rfl, rfl, rfl, (by decide +kernel), ix_no (by decide +kernel), q, _, _, _, rfl, rfl, SqT.of ((hq2.same s3).same (Same.new nl)), rfl, ?_⟩⟩
      exact k _ ((s2.trans s3).trans (Same.new nl))
    · refine iteN (by decide +kernel) ⟨_, rfl, (by show 2 ≤ sizeLine; decide), fun t3 n3 => ⟨t3, _, rfl, .inr (SqT.of upd_same), rfl, rfl, _, rfl, ?_⟩⟩
      have s3 := Same.new n3 (o := .tup [.str "long", .str "blank"])
      refine iteN (by decide +kernel) ⟨_, rfl, (by show 7 ≤ sizeLine; decide), fun l nl => ⟨.inl ⟨rfl, _, SqL.of upd_same⟩, _, rfl, l, nmS, .str "marked", 2, .str "marked", rfl, rfl, SqL.of upd_same, rfl, rfl, rfl, (by decide +kernel), ix_no (by decide +kernel), q, _, _, _, rfl, rfl, SqT.of ((hq2.same s3).same (Same.new nl)), rfl, ?_⟩⟩
      exact k _ ((s2.trans s3).trans (Same.new nl))
    · refine iteN (by decide +kernel) ⟨_, rfl, (by show 2 ≤ sizeLine; decide), fun t3 n3 => ⟨t3, _, rfl, .inr (SqT.of upd_same), rfl, rfl, _, rfl, ?_⟩⟩
      have s3 := Same.new n3 (o := .tup [.str "long", .str "blank"])
      refine iteN (by decide +kernel) ⟨_, rfl, (by show 7 ≤ sizeLine; decide), fun l nl => ⟨.inl ⟨rfl, _, SqL.of upd_same⟩, _, rfl, l, nmS, .str "left", 6, .str "left", rfl, rfl, SqL.of upd_same, rfl, rfl, rfl, (by decide +kernel), ix_no (by decide +kernel), q, _, _, _, rfl, rfl, SqT.of ((hq2.same s3).same (Same.new nl)), rfl, ?_⟩⟩
      exact k _ ((s2.trans s3).trans (Same.new nl))
    · refine iteN (by decide +kernel) ⟨_, rfl, (by show 2 ≤ sizeLine; decide), fun t3 n3 => ⟨t3, _, rfl, .inr (SqT.of upd_same), rfl, rfl, _, rfl, ?_⟩⟩
      have s3 := Same.new n3 (o := .tup [.str "long", .str "blank"])
      refine iteN (by decide +kernel) ⟨_, rfl, (by show 7 ≤ sizeLine; decide), fun l nl => ⟨.inl ⟨rfl, _, SqL.of upd_same⟩, _, rfl, l, nmS, .str "ahead", 3, .str "ahead", rfl, rfl, SqL.of upd_same, rfl, rfl, rfl, (by decide +kernel), ix_no (by decide +kernel), q, _, _, _, rfl, rfl, SqT.of ((hq2.same s3).same (Same.new nl)), rfl, ?_⟩⟩
      exact k _ ((s2.trans s3).trans (Same.new nl))
    · refine iteN (by decide +kernel) ⟨_, rfl, (by show 2 ≤ sizeLine; decide), fun t3 n3 => ⟨t3, _, rfl, .inr (SqT.of upd_same), rfl, rfl, _, rfl, ?_⟩⟩
      have s3 := Same.new n3 (o := .tup [.str "long", .str "blank"])
      refine iteN (by decide +kernel) ⟨_, rfl, (by show 7 ≤ sizeLine; decide), fun l nl => ⟨.inl ⟨rfl, _, SqL.of upd_same⟩, _, rfl, l, nmS, .str "behind", 4, .str "behind", rfl, rfl, SqL.of upd_same, rfl, rfl, rfl, (by decide +kernel), ix_no (by decide +kernel), q, _, _, _, rfl, rfl, SqT.of ((hq2.same s3).same (Same.new nl)), rfl, ?_⟩⟩
      exact k _ ((s2.trans s3).trans (Same.new nl))
    · refine iteN (by decide +kernel) ⟨_, rfl, (by show 2 ≤ sizeLine; decide), fun t3 n3 => ⟨t3, _, rfl, .inr (SqT.of upd_same), rfl, rfl, _, rfl, ?_⟩⟩
      have s3 := Same.new n3 (o := .tup [.str "long", .str "blank"])
      refine iteY (by decide +kernel) ⟨_, rfl, rfl, _, rfl, iteN (by decide +kernel) ⟨_, rfl, q, _, _, _, rfl, rfl, SqT.of (hq2.same s3), rfl, _, _, rfl, rfl, ?_⟩⟩
      exact k _ (s2.trans s3)
    · refine iteN (by decide +kernel) ⟨_, rfl, (by show 2 ≤ sizeLine; decide), fun t3 n3 => ⟨t3, _, rfl, .inr (SqT.of upd_same), rfl, rfl, _, rfl, ?_⟩⟩
      have s3 := Same.new n3 (o := .tup [.str "long", .str "blank"])
      refine iteY (by decide +kernel) ⟨_, rfl, rfl, _, rfl, iteY (by decide +kernel) ⟨_, rfl, q, f, rfl, hq2.same s3, fun H' s' => ?_⟩⟩
      exact k _ ((s2.trans s3).trans s')
    · refine iteY (by decide +kernel) ⟨_, rfl, rfl, _, rfl, iteY (by decide +kernel) ⟨_, rfl, (by show 0 ≤ sizeLine; exact Nat.zero_le _), fun t3 n3 => ⟨_, _, bf_dp (SqT.same (Same.new n3) ht2), .tup (SqT.of upd_same) .nil, bf_shaped bf, rfl, ?_⟩⟩⟩
      rw [bf_nil]
      exact k _ (s2.trans (Same.new n3))
    · refine iteY (by decide +kernel) ⟨_, rfl, rfl, _, rfl, iteN (by decide +kernel) ⟨_, rfl, (by show 0 ≤ sizeLine; exact Nat.zero_le _), fun t3 n3 => ⟨_, _, bf_dp (SqT.same (Same.new n3) ht2), .tup (SqT.of upd_same) .nil, bf_shaped bf, rfl, ?_⟩⟩⟩
      rw [bf_nil]
      have s23 := s2.trans (Same.new n3 (o := .tup []))
      cases bf with
      | none => exact ⟨_, rfl, iteN rfl (k _ s23)⟩
      | some p => exact ⟨_, rfl, iteY rfl ⟨_, rfl, _, rfl, rfl, .inr ⟨_, rfl, t, _, _, _, rfl, rfl, SqT.same s23 ht, rfl, k _ s23⟩⟩⟩
    · refine iteY (by decide +kernel) ⟨_, rfl, rfl, _, rfl, iteN (by decide +kernel) ⟨_, rfl, (by show 0 ≤ sizeLine; exact Nat.zero_le _), fun t3 n3 => ⟨_, _, bf_dp (SqT.same (Same.new n3) ht2), .tup (SqT.of upd_same) .nil, bf_shaped bf, rfl, ?_⟩⟩⟩
      rw [bf_nil]
      have s23 := s2.trans (Same.new n3 (o := .tup []))
      cases bf with
      | none => exact ⟨_, rfl, iteN rfl (k _ s23)⟩
      | some p => exact ⟨_, rfl, iteY rfl ⟨_, rfl, _, rfl, rfl, .inr ⟨_, rfl, t, _, _, _, rfl, rfl, SqT.same s23 ht, rfl, k _ s23⟩⟩⟩
end
end Lay
set_option Elab.async false
set_option linter.all false
set_option maxRecDepth 100000
set_option maxHeartbeats 800000
set_option pp.maxSteps 900
/- GENERATED -/
namespace Lay
open PySem PySem.Spec PyProof.Rows L2 KwX StX
/-! ### the law's layout of a form -/
def askT (t : Str) (bf : Option (Bool × Bool)) (f : Fm) : Bool := if Txt.removeprefix t "not " = t then askW t bf f else !askW (Txt.removeprefix t "not ") bf f
theorem FnOk.or {P : Program} {w : World} {K : PySem.W.Frag} {mg : Str → Option Value} {base : Heap} {CX : CXT} {k : Nat} {f : Addr} {fd : FuncData} {ps : List Str} {s1 s2 : Sp} (a : FnOk P w K mg base CX k f fd ps s1) (b : FnOk P w K mg base CX k f fd ps s2) :
    FnOk P w K mg base CX k f fd ps (fun vs H Q E => s1 vs H Q E ∨ s2 vs H Q E) :=
  ⟨fun vs H Q E h => h.elim (a.len vs H Q E) (b.len vs H Q E), fun A outer s H args us vs Q E hr e bt v h => h.elim (a.run A outer s H args us vs Q E hr e bt v) (b.run A outer s H args us vs Q E hr e bt v)⟩
theorem not_facts : ∀ z ∈ testL, Txt.removeprefix z "not " = z ∧ cutS (("not " : Str) ++ z) none (some 4) = "not " ∧ cutS (("not " : Str) ++ z) (some 4) none = z ∧ Txt.removeprefix (("not " : Str) ++ z) "not " = z ∧ (("not " : Str) ++ z).length ≤ 30 ∧ ¬ z = ("not " : Str) ++ z := by decide +kernel
def spAsk1 (K : PySem.W.Frag) : Sp := fun vs H Q _ => ∃ (z : Str) (t q : Addr) (bf : Option (Bool × Bool)) (f : Fm), vs = [.str (("not " : Str) ++ z), .ref t, .ref q] ∧ z ∈ testL ∧ SqT K H t (bfV bf) ∧ AtF H q f ∧ ∀ H', Same H H' → Q (.bl (!askW z bf f)) H'
def spAsk (K : PySem.W.Frag) : Sp := fun vs H Q _ => ∃ (z : Str) (t q : Addr) (bf : Option (Bool × Bool)) (f : Fm), vs = [.str z, .ref t, .ref q] ∧ z ∈ tAll ∧ SqT K H t (bfV bf) ∧ AtF H q f ∧ ∀ H', Same H H' → Q (.bl (askT z bf f)) H'
def doF (i : Nat) (f : Fm) : Fm := match i with
  | 0 => { f with b := true }
  | 1 => { f with b := false }
  | 2 => { f with m := true }
  | 3 => { f with m := false }
  | 4 => if f.a != f.h && f.h == true then { f with a := f.h, h := f.a } else f
  | 5 => if f.a != f.h && f.h == false then { f with a := f.h, h := f.a } else f
  | 6 => { f with n := 1 }
  | _ => { f with n := 0 }
def deedsF : List Str → Fm → Fm
  | [], f => f
  | d :: ds, f => deedsF ds (doF (deedN d) f)
def rowF2 (r : RD) (bf : Option (Bool × Bool)) (f : Fm) : Fm := if (r.ws.filter fun t => !askT t bf f).isEmpty = true then deedsF r.us f else f
def laidF (bf : Option (Bool × Bool)) : List RD → Fm → Fm
  | [], f => f
  | r :: rs, f => laidF bf rs (rowF2 r bf f)
def rTupX : List V → Hp → VK → Prop := fun xs H Q => ∃ a ys, xs = [.ref a] ∧ SqX H a ys ∧ ∀ l H', Same H H' → H' l = some (.tup ys) → Q (.ref l) H'
theorem call_tupleN {X : Cx} : CallR X (.type "tuple") rTupX := call_tupleX
abbrev sLaid : Stmt := top 58
def spLaid (K : PySem.W.Frag) : Sp := fun vs H Q _ => ∃ (R t q : Addr) (xs : List V) (rs : List RD) (bf : Option (Bool × Bool)) (f : Fm), vs = [.ref R, .ref t, .ref q] ∧ H R = some (.lst xs) ∧ Paired (PrG H) xs rs ∧ SqT K H t (bfV bf) ∧ AtF H q f ∧ ∀ p G, Same H G → AtF G p (laidF bf rs f) → Q (.ref p) G
section
variable {P : Program} {w : World} {K : PySem.W.Frag} {mg : Str → Option Value} {base : Heap}
theorem ok_ask1 {f : Addr} {fd : FuncData} (F : Fun K "_law_asks" "_law_asks" sAsk f fd) (D0 : Has P w K mg base CX0 2 "_law_asks" ["_law_test_here", "_law_before", "_law_form"] (spAsk0 K)) : FnOk P w K mg base CX0 3 f fd ["_law_test_here", "_law_before", "_law_form"] (spAsk1 K) := by
  refine F.ok scAsk (fun vs H Q E h => ?_) (fun cdv A outer s H vs Q E hr h => ?_)
  · obtain ⟨z, t, q, bf, f, rfl, _⟩ := h
    rfl
  · obtain ⟨z, t, q, bf, f, rfl, hz, ht, hq, k⟩ := h
    obtain ⟨_, n1, n2, _, n4, _⟩ := not_facts z hz
    refine ⟨_, (pss_cons (ps_if (pt_cmpR op_eq (pe_slice sl_str (pv 0) po_none (po_some pe_int)) pe_str (nomark _))
      (pss_one (ps_ret (pe_not (pe_callH D0 hr (by rfl) pass0 (pa_cons (pe_slice sl_str (pv 0) (po_some pe_int) po_none) (pa_cons (pv 1) (pa_cons (pv 2) pa_nil)))))))
      pss_nil) pss_never), ?_⟩
    refine ⟨_, rfl, _, rfl, _, rfl, fits (by omega), rfl, _, rfl, iteY (by rw [n1]; simp) ?_⟩
    refine ⟨_, rfl, _, rfl, _, rfl, fits (by omega), ?_⟩
    rw [n2]
    exact ⟨_, rfl, _, rfl, z, t, q, bf, f, rfl, hz, ht, hq, fun H' s' => ⟨_, rfl, k H' s'⟩⟩
theorem ok_ask {f : Addr} {fd : FuncData} (h0 : FnOk P w K mg base CX0 2 f fd ["_law_test_here", "_law_before", "_law_form"] (spAsk0 K)) (h1 : FnOk P w K mg base CX0 3 f fd ["_law_test_here", "_law_before", "_law_form"] (spAsk1 K)) : FnOk P w K mg base CX0 3 f fd ["_law_test_here", "_law_before", "_law_form"] (spAsk K) :=
  (FnOk.or (h0.mono (by decide)) h1).imp fun vs H Q E h => by
    obtain ⟨z, t, q, bf, f, rfl, hz, ht, hq, k⟩ := h
    unfold tAll at hz
    rcases List.mem_append.mp hz with hz | hz
    · have e := (not_facts z hz).1
      unfold askT at k
      rw [if_pos e] at k
      exact .inl ⟨z, t, q, bf, f, rfl, hz, ht, hq, k⟩
    · obtain ⟨y, hy, rfl⟩ := List.mem_map.mp hz
      obtain ⟨_, _, _, n3, _, n5⟩ := not_facts y hy
      unfold askT at k
      rw [n3, if_neg n5] at k
      exact .inr ⟨y, t, q, bf, f, rfl, hy, ht, hq, k⟩
def laidN : List Str := ["_law_rows", "_law_before", "_law_form", "_law_now", "_law_tests", "_law_deeds", "_law_deed", "_law_test_here"]
abbrev laidP : List Str := ["_law_rows", "_law_before", "_law_form"]
theorem scLaid : FnScope laidN laidP (defScope sLaid) := ⟨rfl, rfl, rfl, by decide +kernel, rfl, by decide +kernel, by decide +kernel⟩
theorem ok_laid {f : Addr} {fd : FuncData} (F : Fun K "_law_laid" "_law_laid" sLaid f fd) (B : Bt mg) (DA : Has P w K mg base CX0 3 "_law_asks" ["_law_test_here", "_law_before", "_law_form"] (spAsk K)) : FnOk P w K mg base CX0 4 f fd laidP (spLaid K) := by
  refine F.ok scLaid (fun vs H Q E h => ?_) (fun cdv A outer s H vs Q E hr h => ?_)
  · obtain ⟨R, t, q, xs, rs, bf, f, rfl, _⟩ := h
    rfl
  · obtain ⟨R, t, q, xs, rs, bf, f, rfl, hR, hrs, ht, hq, k⟩ := h
    refine ⟨_, (pss_cons (ps_set (i := 3) scLaid.nd rfl (.inr rfl) (pe_callTy call_list_of (by rfl) B.list (by decide +kernel) (pa_cons (pv 2) pa_nil)))
    (pss_cons (ps_for PassesOwn.never rfl (pi_list (pv 0)) (pg_tup rfl (pgs_cons (pg_name (i := 4) scLaid.nd rfl (.inl rfl)) (pgs_cons (pg_name (i := 5) scLaid.nd rfl (.inl rfl)) pgs_nil)))
      (pss_one (ps_if (pt_cmpR (op_eqNil hr.units) (pe_lc (own := [("_law_test_here", 7)]) (g := gName 7) (by rfl) scLaid.nd (pi_tup (pv 4)) (blkOk_by (N := laidN) (sc := defScope sLaid) (by decide +kernel)) (fun _ _ _ _ _ => pg_name (i := 7) scLaid.nd rfl (Or.inl rfl)) (fun _ _ _ _ _ => pts_one (pt_not (pt_val (pe_callH DA hr (by rfl) pass0 (pa_cons (pv 7) (pa_cons (pv 1) (pa_cons (pe_callTy call_tupleN (by rfl) B.tuple (by decide +kernel) (pa_cons (pv 3) pa_nil)) pa_nil))))))) (fun _ _ _ _ _ => pv 7)) (pe_lst pa_nil) (nomark _))
        (pss_one (ps_for PassesOwn.never rfl (pi_tup (pv 5)) (pg_name (i := 6) scLaid.nd rfl (.inl rfl))
          (pss_one (ps_if (pt_cmpR (op_inK (K := K) rfl) (pv 6) (pe_tup (pa_cons pe_str (pa_cons pe_str pa_nil))) (by rfl))
            (pss_one (ps_asg (pe_cmpR op_eq (pv 6) pe_str (nomark _)) (pg_sub (pv 3) pe_int set_list)))
            (pss_one (ps_if (pt_cmpR (op_inK (K := K) rfl) (pv 6) (pe_tup (pa_cons pe_str (pa_cons pe_str pa_nil))) (by rfl))
              (pss_one (ps_asg (pe_cmpR op_eq (pv 6) pe_str (nomark _)) (pg_sub (pv 3) pe_int set_list)))
              (pss_one (ps_if (pt_cmpR (op_inK (K := K) rfl) (pv 6) (pe_tup (pa_cons pe_str (pa_cons pe_str pa_nil))) (by rfl))
                (pss_one (ps_asg (pe_callTy call_int1 (by rfl) B.int (by decide +kernel) (pa_cons (pe_cmpR op_eq (pv 6) pe_str (nomark _)) pa_nil)) (pg_sub (pv 3) pe_int set_list)))
                (pss_one (ps_if (PW.pt (pw_and (pt_cmpR op_ne (pe_ix ix_list (pv 3) pe_int (fun _ _ => rfl)) (pe_ix ix_list (pv 3) pe_int (fun _ _ => rfl)) (nomark _)) (pw_and1 (pt_cmpR op_eq (pe_ix ix_list (pv 3) pe_int (fun _ _ => rfl)) (pe_cmpR op_eq (pv 6) pe_str (nomark _)) (nomark _)))))
                  (pss_one (ps_asg (pe_tup (pa_cons (pe_ix ix_list (pv 3) pe_int (fun _ _ => rfl)) (pa_cons (pe_ix ix_list (pv 3) pe_int (fun _ _ => rfl)) pa_nil))) (pg_tup rfl (pgs_cons (pg_sub (pv 3) pe_int set_list) (pgs_cons (pg_sub (pv 3) pe_int set_list) pgs_nil)))))
                  pss_nil))))))))))
        pss_nil)))
    (pss_one (ps_ret (pe_callTy call_tupleN (by rfl) B.tuple (by decide +kernel) (pa_cons (pv 3) pa_nil)))))), ?_⟩
    refine ⟨_, rfl, q, _, rfl, .inr (SqT.of hq), fun N nN => ?_⟩
    have s1 := Same.new nN (o := .lst (FmV f))
    have hN : upd H N (.lst (FmV f)) N = some (.lst (FmV f)) := upd_same
    generalize upd H N (.lst (FmV f)) = H1 at s1 hN ⊢
    refine ⟨_, rfl, R, rfl, ⟨_, SqL.of (s1 _ _ hR)⟩, for_list (K := K) (xs := xs) (fun i σ G => ∃ (f' : Fm) (x4 x5 x6 x7 : Option V), σ = [some (.ref R), some (.ref t), some (.ref q), some (.ref N), x4, x5, x6, x7] ∧ Same H G ∧ G N = some (.lst (FmV f')) ∧ laidF bf (rs.drop i) f' = laidF bf rs f) ⟨f, _, _, _, _, rfl, s1, hN, rfl⟩ (fun i σ G _ z => by
      obtain ⟨_, _, _, _, _, _, z, _⟩ := z
      exact SqL.of (z _ _ hR)) ?_ ?_⟩
    · rintro i x σ G hi ⟨f', x4, x5, x6, x7, rfl, sG, hN', e⟩
      obtain ⟨r, er, p, rfl, hp, dr⟩ := Paired.nth hrs hi
      obtain ⟨tt, d, q1, q2, q3⟩ := id hp
      have h1 := sG _ _ q1
      have h2 := sG _ _ q2
      have li := (List.getElem?_eq_some_iff.mp er).1
      rw [List.drop_eq_getElem_cons li, (List.getElem?_eq_some_iff.mp er).2] at e
      have e : laidF bf (rs.drop (i + 1)) (rowF2 r bf f') = laidF bf rs f := e
      refine ⟨p, _, rfl, SqT.of h1, rfl, _, _, rfl, _, _, rfl, rfl, ?_⟩
      refine ⟨_, rfl, tt, rfl, ⟨_, SqT.of h2⟩, fun D nD => lc_tup (K := K) (a := tt) (xs := r.ws.map V.str) (fun j G2 => Same G G2 ∧ G2 D = some (.lst (((r.ws.take j).filter fun z => !askT z bf f').map V.str))) ⟨Same.new nD, upd_same⟩ (fun j G2 _ z => SqT.of (z.1 _ _ h2)) ?_ ?_⟩
      · rintro j x2 G2 hj ⟨s2, hD⟩
        obtain ⟨z, ez, rfl⟩ := str_at hj
        have hz := List.mem_of_getElem? ez
        have lw := dr.lw
        have lf : ((r.ws.take j).filter fun z => !askT z bf f').length ≤ 10 := Nat.le_trans (List.length_filter_le _ _) (by rw [List.length_take]; omega)
        refine ⟨rfl, _, rfl, _, rfl, _, rfl, N, _, rfl, .inl (s2 _ _ hN'), fun l G3 s3 h3' => ⟨z, t, l, bf, f', rfl, dr.w z hz, SqT.same (sG.trans (s2.trans s3)) ht, h3', fun G4 s4 => ?_⟩⟩
        refine ⟨_, rfl, ?_⟩
        have s34 := s3.trans s4
        have hD4 := s34 _ _ hD
        have tk : (r.ws.take (j + 1)).filter (fun z => !askT z bf f') = (r.ws.take j).filter (fun z => !askT z bf f') ++ (if (!askT z bf f') = true then [z] else []) := by
          rw [List.take_succ, ez, List.filter_append]
          show _ ++ List.filter _ [z] = _
          rw [List.filter_cons, List.filter_nil]
        rw [tk]
        cases askT z bf f' with
        | true =>
          refine iteN rfl ⟨s2.trans s34, ?_⟩
          rw [if_neg (by decide), List.append_nil]
          exact hD4
        | false =>
          refine iteY rfl ⟨_, rfl, _, hD4, ?_, same_put (s2.trans s34) nD, ?_⟩
          · rw [List.length_map]
            exact small1000 (by omega)
          · rw [upd_same, if_pos (by decide), List.map_append]
            rfl
      · rintro G2 ⟨s2, hD⟩
        rw [List.length_map, List.take_length] at hD
        refine ⟨(by show 0 ≤ sizeLine; exact Nat.zero_le _), fun L nL => ?_⟩
        have sL := Same.new nL (o := .lst [])
        refine ⟨D, L, _, rfl, rfl, SqL.of (sL _ _ hD), upd_same, _, rfl, ?_⟩
        rw [show ∀ l : List Str, (l.map V.str).isEmpty = l.isEmpty from fun l => by cases l <;> rfl]
        have s5 := sG.trans (s2.trans sL)
        have hN5 := sL _ _ (s2 _ _ hN')
        generalize upd G2 L (.lst []) = G5 at s5 hN5 ⊢
        unfold rowF2 at e
        refine ite2 (fun hb => ?_) (fun hb => ?_)
        rotate_left
        · rw [if_neg hb] at e
          exact ⟨f', _, _, _, _, rfl, s5, hN5, e⟩
        rw [if_pos hb] at e
        refine ⟨_, rfl, d, rfl, ⟨_, SqT.of (s5 _ _ q3)⟩, for_tup (K := K) (xs := r.us.map V.str) (fun j σ G6 => ∃ (g : Fm) (x6 : Option V), σ = [some (.ref R), some (.ref t), some (.ref q), some (.ref N), some (.ref tt), some (.ref d), x6, x7] ∧ Same H G6 ∧ G6 N = some (.lst (FmV g)) ∧ deedsF (r.us.drop j) g = deedsF r.us f') ⟨f', _, rfl, s5, hN5, rfl⟩ (fun j σ G6 _ z => by
          obtain ⟨_, _, _, z, _⟩ := z
          exact SqT.of (z _ _ q3)) ?_ ?_⟩
        · rintro j x σ G6 hj ⟨g, x6, rfl, s6, hN6, e6⟩
          obtain ⟨z, ez, rfl⟩ := str_at hj
          have hz := dr.u z (List.mem_of_getElem? ez)
          have li2 := (List.getElem?_eq_some_iff.mp ez).1
          rw [List.drop_eq_getElem_cons li2, (List.getElem?_eq_some_iff.mp ez).2] at e6
          have e6 : deedsF (r.us.drop (j + 1)) (doF (deedN z) g) = deedsF r.us f' := e6
          simp only [deedL, List.mem_cons, List.not_mem_nil, or_false] at hz
          rcases hz with rfl | rfl | rfl | rfl | rfl | rfl | rfl | rfl
          · rw [show deedN "break" = 0 from by decide +kernel] at e6
            refine ⟨_, rfl, (by show 2 ≤ sizeLine; decide), fun l0 n0 => ⟨l0, _, rfl, .inr (SqT.of upd_same), rfl, rfl, _, rfl, ?_⟩⟩
            have t0 := Same.new n0 (o := .tup [.str "break", .str "join"])
            have v0 := s6.trans t0
            have w0 := t0 _ _ hN6
            refine iteY (by decide +kernel) ?_
            refine ⟨_, rfl, rfl, _, rfl, N, _, _, 1, rfl, rfl, w0, rfl, _, _, rfl, same_put v0 nN, ?_, e6⟩
            rw [upd_same, show decide (V.str "break" = V.str "break") = true from by decide +kernel]
            rfl
          · rw [show deedN "join" = 1 from by decide +kernel] at e6
            refine ⟨_, rfl, (by show 2 ≤ sizeLine; decide), fun l0 n0 => ⟨l0, _, rfl, .inr (SqT.of upd_same), rfl, rfl, _, rfl, ?_⟩⟩
            have t0 := Same.new n0 (o := .tup [.str "break", .str "join"])
            have v0 := s6.trans t0
            have w0 := t0 _ _ hN6
            refine iteY (by decide +kernel) ?_
            refine ⟨_, rfl, rfl, _, rfl, N, _, _, 1, rfl, rfl, w0, rfl, _, _, rfl, same_put v0 nN, ?_, e6⟩
            rw [upd_same, show decide (V.str "join" = V.str "break") = false from by decide +kernel]
            rfl
          · rw [show deedN "mark" = 2 from by decide +kernel] at e6
            refine ⟨_, rfl, (by show 2 ≤ sizeLine; decide), fun l0 n0 => ⟨l0, _, rfl, .inr (SqT.of upd_same), rfl, rfl, _, rfl, ?_⟩⟩
            have t0 := Same.new n0 (o := .tup [.str "break", .str "join"])
            have v0 := s6.trans t0
            have w0 := t0 _ _ hN6
            refine iteN (by decide +kernel) ?_
            refine ⟨_, rfl, (by show 2 ≤ sizeLine; decide), fun l1 n1 => ⟨l1, _, rfl, .inr (SqT.of upd_same), rfl, rfl, _, rfl, ?_⟩⟩
            have t1 := Same.new n1 (o := .tup [.str "mark", .str "unmark"])
            have v1 := v0.trans t1
            have w1 := t1 _ _ w0
            refine iteY (by decide +kernel) ?_
            refine ⟨_, rfl, rfl, _, rfl, N, _, _, 2, rfl, rfl, w1, rfl, _, _, rfl, same_put v1 nN, ?_, e6⟩
            rw [upd_same, show decide (V.str "mark" = V.str "mark") = true from by decide +kernel]
            rfl
          · rw [show deedN "unmark" = 3 from by decide +kernel] at e6
            refine ⟨_, rfl, (by show 2 ≤ sizeLine; decide), fun l0 n0 => ⟨l0, _, rfl, .inr (SqT.of upd_same), rfl, rfl, _, rfl, ?_⟩⟩
            have t0 := Same.new n0 (o := .tup [.str "break", .str "join"])
            have v0 := s6.trans t0
            have w0 := t0 _ _ hN6
            refine iteN (by decide +kernel) ?_
            refine ⟨_, rfl, (by show 2 ≤ sizeLine; decide), fun l1 n1 => ⟨l1, _, rfl, .inr (SqT.of upd_same), rfl, rfl, _, rfl, ?_⟩⟩
            have t1 := Same.new n1 (o := .tup [.str "mark", .str "unmark"])
            have v1 := v0.trans t1
            have w1 := t1 _ _ w0
            refine iteY (by decide +kernel) ?_
            refine ⟨_, rfl, rfl, _, rfl, N, _, _, 2, rfl, rfl, w1, rfl, _, _, rfl, same_put v1 nN, ?_, e6⟩
            rw [upd_same, show decide (V.str "unmark" = V.str "mark") = false from by decide +kernel]
            rfl
          · rw [show deedN "lift" = 4 from by decide +kernel] at e6
            refine ⟨_, rfl, (by show 2 ≤ sizeLine; decide), fun l0 n0 => ⟨l0, _, rfl, .inr (SqT.of upd_same), rfl, rfl, _, rfl, ?_⟩⟩
            have t0 := Same.new n0 (o := .tup [.str "break", .str "join"])
            have v0 := s6.trans t0
            have w0 := t0 _ _ hN6
            refine iteN (by decide +kernel) ?_
            refine ⟨_, rfl, (by show 2 ≤ sizeLine; decide), fun l1 n1 => ⟨l1, _, rfl, .inr (SqT.of upd_same), rfl, rfl, _, rfl, ?_⟩⟩
            have t1 := Same.new n1 (o := .tup [.str "mark", .str "unmark"])
            have v1 := v0.trans t1
            have w1 := t1 _ _ w0
            refine iteN (by decide +kernel) ?_
            refine ⟨_, rfl, (by show 2 ≤ sizeLine; decide), fun l2 n2 => ⟨l2, _, rfl, .inr (SqT.of upd_same), rfl, rfl, _, rfl, ?_⟩⟩
            have t2 := Same.new n2 (o := .tup [.str "space", .str "close"])
            have v2 := v1.trans t2
            have w2 := t2 _ _ w1
            refine iteN (by decide +kernel) ?_
            refine ⟨_, rfl, N, _, _, _, rfl, rfl, SqL.of w2, rfl, _, rfl, N, _, _, _, rfl, rfl, SqL.of w2, rfl, rfl, _, rfl, ?_⟩
            have ev : decide (V.str "lift" = V.str "lift") = true := by decide +kernel
            obtain ⟨sz0, b0, m0, a0, h0, n0', l0'⟩ := g
            cases a0 <;> cases h0
            all_goals first
              | exact iteN rfl (iteN rfl ⟨_, _, rfl, v2, w2, e6⟩)
              | refine iteY rfl ⟨_, rfl, N, _, _, _, rfl, rfl, SqL.of w2, rfl, _, rfl, rfl, rfl, _, rfl, ?_⟩
                rw [ev]
                first
                  | exact iteN rfl ⟨_, _, rfl, v2, w2, e6⟩
                  | refine iteY rfl ⟨_, rfl, N, _, _, _, rfl, rfl, SqL.of w2, rfl, _, rfl, N, _, _, _, rfl, rfl, SqL.of w2, rfl, (by show 2 ≤ sizeLine; decide), fun T nT => ?_⟩
                    refine ⟨T, _, rfl, SqT.of upd_same, rfl, _, _, rfl, _, rfl, N, _, _, 3, rfl, rfl, (Same.new nT) _ _ w2, rfl, _, _, rfl, _, rfl, N, _, _, 4, rfl, rfl, upd_same, rfl, rfl, _, _, rfl, ?_, upd_same, e6⟩
                    rw [upd_upd]
                    exact same_put (v2.trans (Same.new nT)) nN
          · rw [show deedN "lower" = 5 from by decide +kernel] at e6
            refine ⟨_, rfl, (by show 2 ≤ sizeLine; decide), fun l0 n0 => ⟨l0, _, rfl, .inr (SqT.of upd_same), rfl, rfl, _, rfl, ?_⟩⟩
            have t0 := Same.new n0 (o := .tup [.str "break", .str "join"])
            have v0 := s6.trans t0
            have w0 := t0 _ _ hN6
            refine iteN (by decide +kernel) ?_
            refine ⟨_, rfl, (by show 2 ≤ sizeLine; decide), fun l1 n1 => ⟨l1, _, rfl, .inr (SqT.of upd_same), rfl, rfl, _, rfl, ?_⟩⟩
            have t1 := Same.new n1 (o := .tup [.str "mark", .str "unmark"])
            have v1 := v0.trans t1
            have w1 := t1 _ _ w0
            refine iteN (by decide +kernel) ?_
            refine ⟨_, rfl, (by show 2 ≤ sizeLine; decide), fun l2 n2 => ⟨l2, _, rfl, .inr (SqT.of upd_same), rfl, rfl, _, rfl, ?_⟩⟩
            have t2 := Same.new n2 (o := .tup [.str "space", .str "close"])
            have v2 := v1.trans t2
            have w2 := t2 _ _ w1
            refine iteN (by decide +kernel) ?_
            refine ⟨_, rfl, N, _, _, _, rfl, rfl, SqL.of w2, rfl, _, rfl, N, _, _, _, rfl, rfl, SqL.of w2, rfl, rfl, _, rfl, ?_⟩
            have ev : decide (V.str "lower" = V.str "lift") = false := by decide +kernel
            obtain ⟨sz0, b0, m0, a0, h0, n0', l0'⟩ := g
            cases a0 <;> cases h0
            all_goals first
              | exact iteN rfl (iteN rfl ⟨_, _, rfl, v2, w2, e6⟩)
              | refine iteY rfl ⟨_, rfl, N, _, _, _, rfl, rfl, SqL.of w2, rfl, _, rfl, rfl, rfl, _, rfl, ?_⟩
                rw [ev]
                first
                  | exact iteN rfl ⟨_, _, rfl, v2, w2, e6⟩
                  | refine iteY rfl ⟨_, rfl, N, _, _, _, rfl, rfl, SqL.of w2, rfl, _, rfl, N, _, _, _, rfl, rfl, SqL.of w2, rfl, (by show 2 ≤ sizeLine; decide), fun T nT => ?_⟩
                    refine ⟨T, _, rfl, SqT.of upd_same, rfl, _, _, rfl, _, rfl, N, _, _, 3, rfl, rfl, (Same.new nT) _ _ w2, rfl, _, _, rfl, _, rfl, N, _, _, 4, rfl, rfl, upd_same, rfl, rfl, _, _, rfl, ?_, upd_same, e6⟩
                    rw [upd_upd]
                    exact same_put (v2.trans (Same.new nT)) nN
          · rw [show deedN "space" = 6 from by decide +kernel] at e6
            refine ⟨_, rfl, (by show 2 ≤ sizeLine; decide), fun l0 n0 => ⟨l0, _, rfl, .inr (SqT.of upd_same), rfl, rfl, _, rfl, ?_⟩⟩
            have t0 := Same.new n0 (o := .tup [.str "break", .str "join"])
            have v0 := s6.trans t0
            have w0 := t0 _ _ hN6
            refine iteN (by decide +kernel) ?_
            refine ⟨_, rfl, (by show 2 ≤ sizeLine; decide), fun l1 n1 => ⟨l1, _, rfl, .inr (SqT.of upd_same), rfl, rfl, _, rfl, ?_⟩⟩
            have t1 := Same.new n1 (o := .tup [.str "mark", .str "unmark"])
            have v1 := v0.trans t1
            have w1 := t1 _ _ w0
            refine iteN (by decide +kernel) ?_
            refine ⟨_, rfl, (by show 2 ≤ sizeLine; decide), fun l2 n2 => ⟨l2, _, rfl, .inr (SqT.of upd_same), rfl, rfl, _, rfl, ?_⟩⟩
            have t2 := Same.new n2 (o := .tup [.str "space", .str "close"])
            have v2 := v1.trans t2
            have w2 := t2 _ _ w1
            refine iteY (by decide +kernel) ?_
            refine ⟨_, rfl, rfl, .inr ⟨_, rfl, _, rfl, N, _, _, 5, rfl, rfl, w2, rfl, _, _, rfl, same_put v2 nN, ?_, e6⟩⟩
            rw [upd_same, show decide (V.str "space" = V.str "space") = true from by decide +kernel]
            rfl
          · rw [show deedN "close" = 7 from by decide +kernel] at e6
            refine ⟨_, rfl, (by show 2 ≤ sizeLine; decide), fun l0 n0 => ⟨l0, _, rfl, .inr (SqT.of upd_same), rfl, rfl, _, rfl, ?_⟩⟩
            have t0 := Same.new n0 (o := .tup [.str "break", .str "join"])
            have v0 := s6.trans t0
            have w0 := t0 _ _ hN6
            refine iteN (by decide +kernel) ?_
            refine ⟨_, rfl, (by show 2 ≤ sizeLine; decide), fun l1 n1 => ⟨l1, _, rfl, .inr (SqT.of upd_same), rfl, rfl, _, rfl, ?_⟩⟩
            have t1 := Same.new n1 (o := .tup [.str "mark", .str "unmark"])
            have v1 := v0.trans t1
            have w1 := t1 _ _ w0
            refine iteN (by decide +kernel) ?_
            refine ⟨_, rfl, (by show 2 ≤ sizeLine; decide), fun l2 n2 => ⟨l2, _, rfl, .inr (SqT.of upd_same), rfl, rfl, _, rfl, ?_⟩⟩
            have t2 := Same.new n2 (o := .tup [.str "space", .str "close"])
            have v2 := v1.trans t2
            have w2 := t2 _ _ w1
            refine iteY (by decide +kernel) ?_
            refine ⟨_, rfl, rfl, .inr ⟨_, rfl, _, rfl, N, _, _, 5, rfl, rfl, w2, rfl, _, _, rfl, same_put v2 nN, ?_, e6⟩⟩
            rw [upd_same, show decide (V.str "close" = V.str "space") = false from by decide +kernel]
            rfl
        · rintro σ G6 ⟨g, x6, rfl, s6, hN6, e6⟩
          rw [List.length_map, List.drop_length] at e6
          have e6 : g = deedsF r.us f' := e6
          subst e6
          exact ⟨_, _, _, _, _, rfl, s6, hN6, e⟩
    · rintro σ G ⟨f', x4, x5, x6, x7, rfl, sG, hN', e⟩
      rw [Paired.length hrs, List.drop_length] at e
      have e : f' = laidF bf rs f := e
      subst e
      exact ⟨_, rfl, N, _, rfl, .inl hN', fun l G3 s3 h3 => k l G3 (sG.trans s3) h3⟩
end
end Lay
set_option Elab.async false
set_option linter.all false
set_option maxRecDepth 100000
set_option maxHeartbeats 800000
set_option pp.maxSteps 900
namespace Lay
open PySem PySem.Spec PyProof.Rows L2 KwX StX
/-! ### both come to the same -/
structure Sim (L : LS) (f : Fm) (bf : Option (Bool × Bool)) : Prop where
  b : L 0 = f.b
  m : L 1 = f.m
  l : L 2 = f.l
  a : L 3 = f.a
  h : L 4 = f.h
  bk : L 5 = decide ((f.n : Int) > 0)
  tw : L 6 = decide ((f.n : Int) > 1)
  ov : L 7 = decide (f.sz = 2)
  om : L 8 = decide (f.sz = 2 ∨ f.sz = 0)
  ob : L 9 = decide (f.sz = 2 ∨ f.sz = 0 ∨ f.sz = 3)
  oo : L 10 = !decide (f.sz = 4)
  ev : L 11 = true
  fi : L 12 = bf.isNone
  ab : L 13 = bf1 bf
  ah : L 14 = bf2 bf
  s5 : f.sz < 5
  n3 : f.n < 3
theorem five {n : Nat} (h : n < 5) : n = 0 ∨ n = 1 ∨ n = 2 ∨ n = 3 ∨ n = 4 := by omega
theorem sz_facts {n : Nat} (h : n < 5) : decide (V.str (sizeS n) = V.str "over") = decide (n = 2) ∧ inV (.str (sizeS n)) [.str "over", .str "even"] = decide (n = 2 ∨ n = 0) ∧ inV (.str (sizeS n)) [.str "over", .str "even", .str "tight"] = decide (n = 2 ∨ n = 0 ∨ n = 3) ∧ (!decide (V.str (sizeS n) = V.str "wide")) = !decide (n = 4) := by
  rcases five h with rfl | rfl | rfl | rfl | rfl <;> decide +kernel
theorem sim0 {f : Fm} {bf : Option (Bool × Bool)} (h5 : f.sz < 5) (h3 : f.n < 3) : Sim (behL (setL (fcOf f) 11 true) bf) f bf := by
  obtain ⟨e1, e2, e3, e4⟩ := sz_facts h5
  constructor
  · rfl
  · rfl
  · rfl
  · rfl
  · rfl
  · rfl
  · rfl
  · exact e1
  · exact e2
  · exact e3
  · exact e4
  · rfl
  · show (true && bf.isNone) = _
    rw [Bool.true_and]
  · show (true && bf1 bf) = _
    rw [Bool.true_and]
  · show (true && bf2 bf) = _
    rw [Bool.true_and]
  · exact h5
  · exact h3
theorem long_eq {L : LS} {f : Fm} {bf : Option (Bool × Bool)} (S : Sim L f bf) : longL L = longF f := by
  unfold longL longF oneI
  rw [S.ov, S.m, S.om, S.h, S.ob, S.oo]
  have h5 := S.s5
  generalize f.sz = n at h5 ⊢
  generalize f.m = m
  generalize f.h = h
  rcases five h5 with rfl | rfl | rfl | rfl | rfl <;> cases m <;> cases h <;> decide
theorem word_eq {L : LS} {f : Fm} {bf : Option (Bool × Bool)} (S : Sim L f bf) {z : Str} (hz : z ∈ testL) : (if z = "long" then longL L else L (wordN z)) = askW z bf f := by
  simp only [testL, List.mem_cons, List.not_mem_nil, or_false] at hz
  rcases hz with rfl | rfl | rfl | rfl | rfl | rfl | rfl | rfl | rfl | rfl
  · rw [if_neg (by decide +kernel)]
    unfold askW
    rw [show wordN "broken" = 0 from by decide +kernel]
    exact S.b
  · rw [if_neg (by decide +kernel)]
    unfold askW
    rw [show wordN "marked" = 1 from by decide +kernel]
    exact S.m
  · rw [if_neg (by decide +kernel)]
    unfold askW
    rw [show wordN "left" = 2 from by decide +kernel]
    exact S.l
  · rw [if_neg (by decide +kernel)]
    unfold askW
    rw [show wordN "ahead" = 3 from by decide +kernel]
    exact S.a
  · rw [if_neg (by decide +kernel)]
    unfold askW
    rw [show wordN "behind" = 4 from by decide +kernel]
    exact S.h
  · rw [if_neg (by decide +kernel)]
    unfold askW
    rw [show wordN "blank" = 5 from by decide +kernel]
    exact S.bk
  · rw [if_pos rfl, long_eq S]
    unfold askW
    rw [show wordN "long" = 15 from by decide +kernel]
    rfl
  · rw [if_neg (by decide +kernel)]
    unfold askW
    rw [show wordN "first" = 12 from by decide +kernel]
    exact S.fi
  · rw [if_neg (by decide +kernel)]
    unfold askW
    rw [show wordN "afterbroken" = 13 from by decide +kernel]
    exact S.ab
  · rw [if_neg (by decide +kernel)]
    unfold askW
    rw [show wordN "afterbehind" = 14 from by decide +kernel]
    exact S.ah
theorem hold_eq {L : LS} {f : Fm} {bf : Option (Bool × Bool)} (S : Sim L f bf) {t : Str} (ht : t ∈ tAll) : holdL L t = askT t bf f := by
  have hw := progT_word (tAll_ok t ht).1
  have e := word_eq S hw
  unfold holdL askT
  simp only
  rw [e, S.ev]
  by_cases q : Txt.removeprefix t "not " = t
  · rw [if_pos q, if_pos q, q]
  · rw [if_neg q, if_neg q, Bool.true_and]
theorem where_eq {L : LS} {f : Fm} {bf : Option (Bool × Bool)} (S : Sim L f bf) : ∀ {ws : List Str} {w : Bool}, (∀ t ∈ ws, t ∈ tAll) → whereL L ws w = (w && (ws.filter fun t => !askT t bf f).isEmpty)
  | [], w, _ => by
    show w = (w && true)
    rw [Bool.and_true]
  | t :: ws, w, h => by
    show whereL L ws (w && holdL L t) = _
    rw [where_eq S (fun y hy => h y (List.mem_cons_of_mem _ hy)), hold_eq S (h t List.mem_cons_self), List.filter_cons]
    cases askT t bf f with
    | true => rw [Bool.and_true, if_neg (by decide)]
    | false =>
      rw [Bool.and_false, Bool.false_and, if_pos (by decide)]
      show false = (w && false)
      rw [Bool.and_false]
theorem do_true {L : LS} {f : Fm} {bf : Option (Bool × Bool)} (S : Sim L f bf) (i : Nat) : Sim (doL i true L) (doF i f) bf := by
  obtain ⟨sz, b, m, a, h, n, l⟩ := f
  obtain ⟨s0, s1, s2, s3, s4, s5, s6, s7, s8, s9, s10, s11, s12, s13, s14, q5, q3⟩ := S
  simp only at s0 s1 s2 s3 s4 s5 s6 s7 s8 s9 s10 q5 q3
  match i with
  | 0 => constructor <;> simp [doL, doF, setL, *]
  | 1 => constructor <;> simp [doL, doF, setL, *]
  | 2 => constructor <;> simp [doL, doF, setL, *]
  | 3 => constructor <;> simp [doL, doF, setL, *]
  | 4 => cases a <;> cases h <;> constructor <;> simp [doL, doF, setL, *]
  | 5 => cases a <;> cases h <;> constructor <;> simp [doL, doF, setL, *]
  | 6 => constructor <;> simp [doL, doF, setL, *]
  | n + 7 => constructor <;> simp [doL, doF, setL, *]
theorem do_false {L : LS} {f : Fm} {bf : Option (Bool × Bool)} (S : Sim L f bf) (i : Nat) : Sim (doL i false L) f bf := by
  obtain ⟨s0, s1, s2, s3, s4, s5, s6, s7, s8, s9, s10, s11, s12, s13, s14, q5, q3⟩ := S
  match i with
  | 0 => constructor <;> simp [doL, setL, *]
  | 1 => constructor <;> simp [doL, setL, *]
  | 2 => constructor <;> simp [doL, setL, *]
  | 3 => constructor <;> simp [doL, setL, *]
  | 4 => constructor <;> simp [doL, setL, *]
  | 5 => constructor <;> simp [doL, setL, *]
  | 6 => constructor <;> simp [doL, setL, *]
  | n + 7 => constructor <;> simp [doL, setL, *]
theorem deeds_true {bf : Option (Bool × Bool)} : ∀ {us : List Str} {L : LS} {f : Fm}, Sim L f bf → Sim (deedsL true us L) (deedsF us f) bf
  | [], _, _, S => S
  | d :: us, _, _, S => deeds_true (us := us) (do_true S (deedN d))
theorem deeds_false {bf : Option (Bool × Bool)} {f : Fm} : ∀ {us : List Str} {L : LS}, Sim L f bf → Sim (deedsL false us L) f bf
  | [], _, S => S
  | d :: us, _, S => deeds_false (us := us) (do_false S (deedN d))
theorem row_eq {L : LS} {f : Fm} {bf : Option (Bool × Bool)} {r : RD} (S : Sim L f bf) (h : ∀ t ∈ r.ws, t ∈ tAll) : Sim (rowL r L) (rowF2 r bf f) bf := by
  unfold rowL rowF2
  rw [where_eq S h, S.ev, Bool.true_and]
  by_cases q : (r.ws.filter fun t => !askT t bf f).isEmpty = true
  · rw [if_pos q, q]
    exact deeds_true S
  · have q2 : (r.ws.filter fun t => !askT t bf f).isEmpty = false := by simpa using q
    rw [if_neg q, q2]
    exact deeds_false S
theorem rows_eq {bf : Option (Bool × Bool)} : ∀ {rs : List RD} {L : LS} {f : Fm}, Sim L f bf → (∀ r ∈ rs, Dr r) → Sim (rowsL rs L) (laidF bf rs f) bf
  | [], _, _, S, _ => S
  | r :: rs, _, _, S, h => rows_eq (rs := rs) (row_eq S (h r List.mem_cons_self).w) fun r' hr => h r' (List.mem_cons_of_mem _ hr)
theorem do_sz (i : Nat) (f : Fm) : (doF i f).sz = f.sz := by
  unfold doF
  split <;> first | rfl | (split <;> rfl)
theorem deeds_sz : ∀ {us : List Str} {f : Fm}, (deedsF us f).sz = f.sz
  | [], _ => rfl
  | d :: us, f => (deeds_sz (us := us)).trans (do_sz (deedN d) f)
theorem laid_sz {bf : Option (Bool × Bool)} : ∀ {rs : List RD} {f : Fm}, (laidF bf rs f).sz = f.sz
  | [], _ => rfl
  | r :: rs, f => (laid_sz (rs := rs)).trans (by
    unfold rowF2
    split
    · exact deeds_sz
    · rfl)
theorem lay_eq {bf : Option (Bool × Bool)} {rs : List RD} {f : Fm} (h5 : f.sz < 5) (h3 : f.n < 3) (h : ∀ r ∈ rs, Dr r) : V.str (sizeS f.sz) :: shapeV (layL rs bf f) = FmV (laidF bf rs f) := by
  have S := rows_eq (sim0 (bf := bf) h5 h3) h
  unfold layL
  generalize rowsL rs (behL (setL (fcOf f) 11 true) bf) = L at S ⊢
  rw [← laid_sz (bf := bf) (rs := rs) (f := f)]
  generalize laidF bf rs f = g at S ⊢
  unfold shapeV FmV blanksN
  rw [S.b, S.m, S.a, S.h, S.l, S.bk, S.tw]
  have n3 := S.n3
  have e : (if decide ((g.n : Int) > 1) = true then (2 : Int) else if decide ((g.n : Int) > 0) = true then 1 else 0) = g.n := by
    have : g.n = 0 ∨ g.n = 1 ∨ g.n = 2 := by omega
    rcases this with e | e | e <;> rw [e] <;> decide
  rw [e]
end Lay
set_option Elab.async false
set_option linter.all false
set_option maxRecDepth 100000
set_option maxHeartbeats 4000000
/-! Defs that are called where no repr is under way (the law's own), and the law's end from such a promise. -/
namespace Lay
open PySem PySem.Spec PyProof.Rows L2
/-- a def's promise, where no repr is under way around it -/
structure FnG (P : Program) (w : World) (K : PySem.W.Frag) (mg : Str → Option Value) (base : Heap) (k : Nat) (f : Addr) (fd : FuncData) (ps : List Str) (sp : Sp) : Prop where
  len : ∀ vs H Q E, sp vs H Q E → vs.length = ps.length
  go : ∀ (A : Around) (outer : List Env) (s : Shared) (H : Hp) (args : Args) (us : List Value) (vs : List V) (Q : VK), A.guards = some [] → Room k A → Env0 P w K mg base A outer s H →
    BindsTo s fd args (ps.zip us) → Vals vs us → sp vs H Q E0 → codeAny (model P w) A (.call (.ref f) args) (CR CX0 outer P w H s Q E0) s
section
variable {P : Program} {w : World} {K : PySem.W.Frag} {mg : Str → Option Value} {base : Heap}
theorem FnOk.g {k : Nat} {f : Addr} {fd : FuncData} {ps : List Str} {sp : Sp} (F : FnOk P w K mg base CX0 k f fd ps sp) : FnG P w K mg base k f fd ps sp :=
  ⟨F.len, fun A outer s H args us vs Q _ hr e b r h => F.run A outer s H args us vs Q E0 hr e b r h⟩
/-- a def of the text, by its body, which may lean on the silence around it -/
theorem Fun.okG {x qual : Str} {st : Stmt} {f : Addr} {fd : FuncData} {N ps : List Str} {k : Nat} {sp : Sp} (F : Fun K x qual st f fd) (S : FnScope N ps (defScope st)) (len : ∀ vs H Q E, sp vs H Q E → vs.length = ps.length)
    (hbody : ∀ (cdv : Value) (A : Around) (outer : List Env) (s : Shared) (H : Hp) (vs : List V) (Q : VK), A.guards = some [] → Room k (A.deeper (envOfC qual (defScope st) s.heap.objs.size f cdv)) → sp vs H Q E0 →
      ∃ t, PSs (cxOf CX0 P w K mg base N qual (defScope st) f cdv A outer s H E0).nox (defBody st) t ∧ t { nx := fun _ H' => Q .non H', rt := Q } (start N vs) H) : FnG P w K mg base (k + 1) f fd ps sp := by
  obtain ⟨oc, od, kV, doc, pm, an, cdv, ct, osl, rfl, lk, code⟩ := F.ex
  refine ⟨len, fun A outer s H args us vs Q silent hr e0 hb r want => ?_⟩
  have many := len _ _ _ _ want
  have kin : K.In s.heap := e0.mod.kin.keeps fun b o z => (e0.bs b o z).1
  have lim : s.heap.NoLimit := e0.mod.nolimit.keeps fun b o z => (e0.bs b o z).1
  have kinds : ∀ y ∈ ps.zip us, (defScope st).names.lookup y.1 = some .local ∨ ((defScope st).names.lookup y.1 = some .cell ∧ ((cellsFrom (s.heap.objs.size + 1) (defScope st).names []).lookup y.1).isSome = true) := by
    rintro ⟨nm, vl⟩ hy
    refine (S.par nm (List.of_mem_zip hy).1).imp id fun c => ⟨c, ?_⟩
    exact PySem.W.cellsFrom_some _ _ _ (.inl c)
  refine codeAny_call_function hr.depth (kin _ _ lk) rfl S.co S.gen rfl (PySem.W.codeRec_of kin code) (hb _ _ _ _ ?_)
  refine wpAny_newFunctionEnv_cells S.kind kinds fun env ee s1 x => ?_
  subst ee
  refine ⟨lim.keeps x.toInCall.keep, codeAny_func ?_⟩
  obtain ⟨t, ht, hq⟩ := hbody cdv A outer s H vs Q silent (hr.deeper _) want
  have I : Inv (cxOf CX0 P w K mg base N qual (defScope st) f cdv A outer s H E0).nox [] (start N vs) H s1 := (inv_start S hr.hd e0 many r x).wish _
  refine wpAny_mono (ht.run [] s1 (start N vs) H _ I hq) (fun fl s' hs => ?_) fun _ _ z => z.elim
  cases fl with
  | ret u =>
    obtain ⟨v, σ', H', J, rv, q⟩ := hs
    exact ⟨v, H', J.os, J.bare, J.base, J.hok, rv, q⟩
  | next =>
    obtain ⟨σ', H', J, q⟩ := hs
    exact ⟨.non, H', J.os, J.bare, J.base, J.hok, rfl, q⟩
  | brk =>
    obtain ⟨_, _, _, q⟩ := hs
    exact q.elim
  | cont =>
    obtain ⟨_, _, _, q⟩ := hs
    exact q.elim
end
/-- the script as it is read at the entry: an object of the module, or one that is known -/
theorem script_seen {P : Program} {w : World} {K : PySem.W.Frag} {s : Shared} {a : Addr} {vs : List Value} {ns : List Int} (kin : K.In s.heap) (ha : s.heap.get? a = some { cls := .type "list", data := .seq vs.toArray }) (hi : IntsAre vs ns)
    (hl : ns.length ≤ sizeLine) : ∃ H : Hp, Only H ∧ SqL K H a (ns.map V.int) ∧ HOk P w H s.heap ∧ ∀ b, H b ≠ none → b = a ∧ K.lookup b = none := by
  have rv := vals_ints hi
  have lv := hi.length
  cases hk : K.lookup a with
  | some o =>
    have e := kin a o hk
    rw [ha] at e
    cases e
    refine ⟨fun _ => none, fun _ => .inl rfl, .inr ⟨_, vs.toArray, _, hk, rfl, rfl, rfl, ?_, by simpa using rv⟩, fun b u z => (nomatch z), fun b z => absurd rfl z⟩
    rw [List.size_toArray, lv]
    exact hl
  | none =>
    let o : Obj := { cls := .type "list", data := .seq vs.toArray }
    let u : HO := .frz o (.lst (ns.map V.int))
    refine ⟨upd (fun _ => none) a u, fun b => ?_, .inl (.inr ⟨o, upd_same⟩), fun b v z => ?_, fun b z => ?_⟩
    · by_cases e : b = a
      · exact .inr ⟨_, _, by rw [e]; exact upd_same⟩
      · exact .inl (upd_ne e)
    · by_cases e : b = a
      · subst e
        rw [upd_same] at z
        cases z
        exact ⟨ha, by rw [List.length_map]; exact hl, vs, _, rv, ha⟩
      · rw [upd_ne e] at z
        cases z
    · by_cases e : b = a
      · exact ⟨e, by rw [e]; exact hk⟩
      · exact absurd (upd_ne e) z
/-- the law's end -/
theorem walkG {l : PySem.W.OpenLaw} {n k : Nat} {q : Program} {loose : List Str} {XP : (Str → Option Value) → Heap → Prop} {YP : World → Heap → Prop} {d : DefRec} {K : Params → PySem.W.Frag} {sp : World → Sp} {x : Str}
    (hn : l.most = some n) (hn2 : n ≤ sizeLine) (hdf : d.params.defaults = []) (hr : Room k callerA) (hY : ∀ (w : World) (h : Heap), YP w h → (K w.params).In h)
    (F : ∀ (w : World) (mg : Str → Option Value) (fa : Addr) (h : Heap), (K w.params).In h → h.Ns mainGlobals mg → mg d.name = some (.ref fa) →
      ∃ fd : FuncData, (∀ (s : Shared) (u : Value), BindsTo s fd ⟨[u], []⟩ [(x, u)]) ∧ ∀ base : Heap, (K w.params).In base → base.Ns mainGlobals mg → FnG l.prog w (K w.params) mg base k fa fd [x] (sp w))
    (hsp : ∀ (w : World) (H : Hp) (a : Addr) (ns : List Int), ns.length ≤ n → Only H → SqL (K w.params) H a (ns.map V.int) → sp w [.ref a] H (fun v _ => v = .bl true) E0) :
    PySem.W.WalkO q loose XP YP l.row.toRowW d [] (fun f vs => PySem.call f vs) := by
  refine Att.attach_call hn hdf fun w s₀ s₁ mg mb fa o pm cd doc a vs ns G Y ho hd hcd hmg hobj hints hlen hg => ?_
  have kin := hY w _ Y
  obtain ⟨fd, hb, hF⟩ := F w mg fa _ kin G.T.g hmg
  obtain ⟨H, hO, hS, hok, hA⟩ := script_seen (P := l.prog) (w := w) kin hobj hints (Nat.le_trans hlen hn2)
  have unT : ∀ {b : Addr} {u : Obj}, s₁.heap.get? b = some u → (b = a → False) → H b = none := fun {b u} _ nb => by
    cases z : H b with
    | none => rfl
    | some v => exact (nb (hA b (by rw [z]; exact fun y => nomatch y)).1).elim
  have ns : ∀ {b : Addr} {m : Str → Option Value}, s₁.heap.Ns b m → (hidT s₁.heap H).Ns b m := fun {b m} ⟨u, es, ep, e, dd, r⟩ =>
    ⟨u, es, ep, hidT_get e (unT e fun z => by
      subst z
      rw [hobj] at e
      cases e
      exact absurd dd (fun y => nomatch (show Data.seq vs.toArray _ = Data.dict es ep from y))), dd, r⟩
  have kinB : (K w.params).In (hidT s₁.heap H) := fun b u e => hidT_get (kin b u e) (by
    cases z : H b with
    | none => rfl
    | some v =>
      have y := (hA b (by rw [z]; exact fun y => nomatch y)).2
      rw [e] at y
      cases y)
  obtain ⟨mc, lim1, lim2⟩ := G.T.nolimit
  have M : Mod (K w.params) mg (hidT s₁.heap H) := ⟨kinB, ns G.T.g, ⟨mb, ns G.T.b, G.T.builtins⟩, ⟨mc, ns lim1, lim2⟩⟩
  have e0 : Env0 l.prog w (K w.params) mg (hidT s₁.heap H) callerA [] s₁ H := ⟨rfl, M, fun b u e => of_hidT e, Nat.le_of_eq (hidT_size _ _), trivial, fun b z => (nomatch z), hok, .of_eq hg⟩
  refine codeAny_mono ((hF _ kinB (ns G.T.g)).go callerA [] s₁ H ⟨[.ref a], []⟩ [.ref a] [.ref a] _ rfl hr e0 (hb s₁ (.ref a)) (.cons rfl .nil) (hsp w H a _ hlen hO hS)) fun r s' h => ?_
  cases r with
  | error e => exact h.elim
  | ok fl =>
    cases fl with
    | next => exact h.elim
    | brk => exact h.elim
    | cont => exact h.elim
    | ret u =>
      obtain ⟨v, H', os, bare, un, hok', rv, qq⟩ := h
      subst qq
      cases rv
      refine ⟨rfl, OldK.of_keep fun b u e => ?_, os, bare⟩
      rcases hO b with z | ⟨ob, xs, z⟩
      · exact un.keep b u e z (fun y => nomatch y) (fun y => nomatch y)
      · obtain ⟨e1, _⟩ := hok b _ z
        obtain ⟨e2, _⟩ := hok' b _ (un.frzs b ob _ z)
        rw [e] at e1
        cases e1
        exact e2
end Lay
set_option Elab.async false
set_option linter.all false
set_option maxRecDepth 100000
set_option maxHeartbeats 4000000
namespace Lay
open PySem PySem.Spec PyProof.Rows L2
section
variable {X : Cx}
/-- repr of a list or a tuple of data, where no repr is under way -/
def rReprD (K : PySem.W.Frag) : List V → Hp → VK → Prop := fun xs H Q => ∃ (a : Addr) (d : PyData), xs = [.ref a] ∧ Dp K H (.ref a) d ∧ d.showable = true ∧ d.hasDict = false ∧ d.depth ≤ 60 ∧ d.shown.length ≤ sizeLine ∧ Q (.str d.shown) H
theorem call_reprD (silent : X.A.guards = some []) (hu : X.A.units + 64 < cLine) : CallR X (.builtin "repr") (rReprD X.K) := by
  intro pins s σ H xs us Q I r h
  obtain ⟨a, d, rfl, hd, h1, h2, h3, h4, q⟩ := h
  obtain ⟨u, rfl, ru⟩ := vals1 r
  cases ru
  obtain ⟨as, rd⟩ := Dp.reads I d (.ref a) (.ref a) hd rfl
  exact repr_of_reads' rd h1 (PyData.noDict_hsm h2) silent (by omega) (fun _ _ z => z) (fun h' u tk hk => ⟨.str _, H, I.kept hk, ⟨_, rfl⟩, q⟩) h4
end
theorem noDicts : ∀ ds : List PyData, (∀ d ∈ ds, d.hasDict = false) → PyData.hasDictAll ds = false
  | [], _ => by simp [PyData.hasDictAll]
  | d :: ds, h => by
    have h1 := h d List.mem_cons_self
    have h2 := noDicts ds fun e he => h e (List.mem_cons_of_mem _ he)
    simp [PyData.hasDictAll, h1, h2]
theorem deeps {n : Nat} : ∀ ds : List PyData, (∀ d ∈ ds, d.depth ≤ n) → PyData.depthAll ds ≤ n
  | [], _ => by simp [PyData.depthAll]
  | d :: ds, h => by
    have h1 := h d List.mem_cons_self
    have h2 := deeps ds fun e he => h e (List.mem_cons_of_mem _ he)
    simp only [PyData.depthAll]
    omega
theorem pile {n : Nat} : ∀ ds : List PyData, (∀ d ∈ ds, d.shown.length ≤ n) → piled (PyData.shownAll ds) ≤ (n + 2) * ds.length
  | [], _ => by simp [PyData.shownAll, piled_nil]
  | d :: ds, h => by
    have h1 := h d List.mem_cons_self
    have h2 := pile ds fun e he => h e (List.mem_cons_of_mem _ he)
    rw [PyData.shownAll_cons, piled_cons, List.length_cons, Nat.mul_succ]
    omega
theorem tup_len (ds : List PyData) : (PyData.tuple ds).shown.length ≤ piled (PyData.shownAll ds) + 10 := by
  have o1 : (Str.ofString "(").length = 1 := by decide
  have o2 : (Str.ofString ",)").length = 2 := by decide
  have o3 : (Str.ofString ")").length = 1 := by decide
  have q : (Str.join ", " (PyData.shownAll ds)).length ≤ piled (PyData.shownAll ds) := by
    by_cases e : PyData.shownAll ds = []
    · rw [e]
      show (Str.join ", " []).length ≤ _
      have : (Str.join ", " []).length = 0 := by decide
      omega
    · have := join_length_add (PyData.shownAll ds) e
      omega
  rw [PyData.shown_tuple, Str.length_append, Str.length_append, o1]
  split
  · rw [o2]
    omega
  · rw [o3]
    omega
theorem list_len (ds : List PyData) : (PyData.list ds).shown.length ≤ piled (PyData.shownAll ds) + 10 := by
  have o1 : (Str.ofString "[").length = 1 := by decide
  have o3 : (Str.ofString "]").length = 1 := by decide
  have q : (Str.join ", " (PyData.shownAll ds)).length ≤ piled (PyData.shownAll ds) := by
    by_cases e : PyData.shownAll ds = []
    · rw [e]
      show (Str.join ", " []).length ≤ _
      have : (Str.join ", " []).length = 0 := by decide
      omega
    · have := join_length_add (PyData.shownAll ds) e
      omega
  rw [PyData.shown_list, Str.length_append, Str.length_append, o1, o3]
  omega
/-- a list or a tuple of few that are shown well -/
theorem pile_ok {ds : List PyData} {m n l : Nat} (hl : ds.length ≤ l) (h : ∀ d ∈ ds, d.showable = true ∧ d.hasDict = false ∧ d.depth ≤ m ∧ d.shown.length ≤ n) : PyData.showableAll ds = true ∧ PyData.hasDictAll ds = false ∧ PyData.depthAll ds ≤ m ∧ piled (PyData.shownAll ds) ≤ (n + 2) * l := by
  refine ⟨Spec.showableAll_of fun d hd => (h d hd).1, noDicts ds fun d hd => (h d hd).2.1, deeps ds fun d hd => (h d hd).2.2.1, ?_⟩
  exact Nat.le_trans (pile ds fun d hd => (h d hd).2.2.2) (Nat.mul_le_mul_left _ hl)
end Lay
set_option Elab.async false
set_option linter.all false
set_option maxRecDepth 100000
set_option maxHeartbeats 800000
set_option pp.maxSteps 900
namespace Lay
open PySem PySem.Spec PyProof.Rows L2 KwX StX
theorem ascii_strOk {z : Str} (h1 : Txt.isascii z = true) : PyData.strOk z = true := by
  unfold Txt.isascii at h1
  unfold PyData.strOk
  rw [Array.all_eq_true'] at h1 ⊢
  intro c hc
  have := of_decide_eq_true (h1 c hc)
  exact decide_eq_true (by omega)
def showOk (d : PyData) (m n : Nat) : Prop := d.showable = true ∧ d.hasDict = false ∧ d.depth ≤ m ∧ d.shown.length ≤ n
theorem ascii_small {z : Str} (h1 : Txt.isascii z = true) : ∀ c ∈ z.cps.toList, c < 16 ^ 8 := by
  unfold Txt.isascii at h1
  rw [Array.all_eq_true'] at h1
  intro c hc
  have := of_decide_eq_true (h1 c (by simpa using hc))
  omega
theorem str_showOk {z : Str} (h1 : Txt.isascii z = true) (h2 : z.length ≤ 6) : showOk (.str z) 1 62 := by
  refine ⟨rfl, rfl, ?_, ?_⟩
  · simp only [PyData.depth]
    omega
  · have := StrLaws.reprText_len z (ascii_small h1)
    simp only [PyData.shown]
    omega
theorem bool_showOk (b : Bool) : showOk (.bool b) 1 62 := by
  refine ⟨rfl, rfl, ?_, ?_⟩
  · simp only [PyData.depth]
    omega
  · cases b <;> decide
theorem tiny_showOk {i : Int} (h0 : 0 ≤ i) (h3 : i < 3) : showOk (.int i) 1 62 := by
  refine ⟨?_, rfl, ?_, ?_⟩
  · rcases (show i = 0 ∨ i = 1 ∨ i = 2 by omega) with rfl | rfl | rfl <;> decide
  · simp only [PyData.depth]
    omega
  · rcases (show i = 0 ∨ i = 1 ∨ i = 2 by omega) with rfl | rfl | rfl <;> decide
theorem showOk.up {d : PyData} {m n m' n' : Nat} (h : showOk d m n) (hm : m ≤ m') (hn : n ≤ n') : showOk d m' n' := ⟨h.1, h.2.1, Nat.le_trans h.2.2.1 hm, Nat.le_trans h.2.2.2 hn⟩
theorem tup_showOk {ds : List PyData} {m n l : Nat} (hl : ds.length ≤ l) (h : ∀ d ∈ ds, showOk d m n) : showOk (.tuple ds) (m + 1) ((n + 2) * l + 10) := by
  obtain ⟨a, b, c, e⟩ := pile_ok hl h
  have := tup_len ds
  refine ⟨by simp only [PyData.showable]; exact a, by simp only [PyData.hasDict]; exact b, by simp only [PyData.depth]; omega, by omega⟩
mutual
theorem Dp.same {K : PySem.W.Frag} {H H' : Hp} (s : Same H H') : ∀ {v : V} {d : PyData}, Dp K H v d → Dp K H' v d
  | _, _, .non => .non
  | _, _, .bl b => .bl b
  | _, _, .int i => .int i
  | _, _, .str x => .str x
  | _, _, .lst h t => .lst (s.seq h) (DpAll.same s t)
  | _, _, .tup h t => .tup (SqT.same s h) (DpAll.same s t)
theorem DpAll.same {K : PySem.W.Frag} {H H' : Hp} (s : Same H H') : ∀ {vs : List V} {ds : List PyData}, DpAll K H vs ds → DpAll K H' vs ds
  | _, _, .nil => .nil
  | _, _, .cons h t => .cons (Dp.same s h) (DpAll.same s t)
end

theorem sizeS_ascii (n : Nat) : Txt.isascii (sizeS n) = true := by
  unfold sizeS
  split <;> decide +kernel
theorem sizeS_len (n : Nat) : (sizeS n).length ≤ 6 := by
  unfold sizeS
  split <;> decide
theorem fm_show {f : Fm} (h : f.n < 3) : showOk f.data 60 1000 := by
  refine (tup_showOk (m := 1) (n := 62) (l := 7) (Nat.le_refl _) fun x hx => ?_).up (by decide) (by decide)
  simp only [List.mem_cons, List.not_mem_nil, or_false] at hx
  rcases hx with rfl | rfl | rfl | rfl | rfl | rfl | rfl
  · exact str_showOk (sizeS_ascii _) (sizeS_len _)
  · exact bool_showOk _
  · exact bool_showOk _
  · exact bool_showOk _
  · exact bool_showOk _
  · exact tiny_showOk (by omega) (by omega)
  · exact bool_showOk _
theorem fm_eqv (f : Fm) : PyData.eqv f.data f.data = true := by
  unfold Fm.data
  simp [PyData.eqv, PyData.eqvAll]
theorem fm_can (f : Fm) : PyData.canLay0 f.data = true := by
  unfold Fm.data
  simp [PyData.canLay0, PyData.canLayAll0, ascii_strOk (sizeS_ascii f.sz)]
theorem fm_deep (f : Fm) : PyData.depth f.data ≤ 3 := by
  unfold Fm.data
  simp only [PyData.depth, PyData.depthAll]
  omega
theorem fm_shaped (f : Fm) : PySem.SeqAt.shaped f.data = true := by
  have h2 := fm_deep f
  show (PyData.canLay0 f.data && decide (PyData.depth f.data ≤ 64)) = true
  rw [Bool.and_eq_true]
  exact ⟨fm_can f, decide_eq_true (by omega)⟩
end Lay
set_option Elab.async false
set_option linter.all false
set_option maxRecDepth 100000
set_option maxHeartbeats 800000
set_option pp.maxSteps 900
namespace Lay
open PySem PySem.Spec PyProof.Rows L2 KwX StX
/-! ### the law -/
def refB : Value → Bool
  | .ref _ => true
  | _ => false
def lenT (K : PySem.W.Frag) (a : Addr) (n : Nat) : Bool := match K.lookup a with
  | some o => o.cls == .type "tuple" && (match o.data with
    | .seq its _ => Nat.beq its.size n && its.toList.all refB
    | _ => false)
  | none => false
theorem refs_vals : ∀ {its : List Value}, its.all refB = true → ∃ xs : List V, xs.length = its.length ∧ Vals xs its
  | [], _ => ⟨[], rfl, .nil⟩
  | v :: its, h => by
    rw [List.all_cons, Bool.and_eq_true] at h
    obtain ⟨xs, l, r⟩ := refs_vals h.2
    cases v with
    | ref a => exact ⟨.ref a :: xs, by rw [List.length_cons, List.length_cons, l], .cons rfl r⟩
    | _ => exact absurd h.1 (by unfold refB; exact Bool.false_ne_true)
theorem lenT_at {K : PySem.W.Frag} {a : Addr} {n : Nat} (h : lenT K a n = true) (hn : n ≤ 1000) : ∃ xs, xs.length = n ∧ ∀ H, SqT K H a xs := by
  unfold lenT at h
  cases e : K.lookup a with
  | none =>
    rw [e] at h
    cases h
  | some o =>
    rw [e] at h
    obtain ⟨cls, dd, data, sl⟩ := o
    simp only [Bool.and_eq_true] at h
    obtain ⟨h1, h2⟩ := h
    have h1 := beq_iff_eq.mp h1
    subst h1
    cases data <;> first | cases h2 | skip
    rename_i its k
    simp only [Bool.and_eq_true] at h2
    have e2 := Nat.eq_of_beq_eq_true h2.1
    obtain ⟨xs, l, r⟩ := refs_vals h2.2
    refine ⟨xs, by rw [l, Array.length_toList, e2], fun H => .inr ⟨_, its, k, e, rfl, rfl, by rw [e2, sizeLine_eq]; omega, r⟩⟩
theorem ne_self (z : Str) : (!decide (V.str z = V.str z)) = false := by simp
theorem sameK {b : Addr} {H G G' : Hp} (s : Same H G) (k : Kept b G G') (n : H b = none) : Same H G' := fun c o e => k _ _ (ne_of_none e n) (s _ _ e)
theorem AtF.kept {G G' : Hp} {b p : Addr} {f : Fm} (bx : BoxAt G b) (k : Kept b G G') (h : AtF G p f) : AtF G' p f := k _ _ (tup_box h bx) h
theorem RowAt.kept {C b p : Addr} {G G' : Hp} {r : RD} (bx : BoxAt G b) (k : Kept b G G') (h : RowAt C G p r) : RowAt C G' p r := by
  obtain ⟨xs, hb⟩ := bx.at
  obtain ⟨dx, t, d, h1, h2, h3⟩ := h
  exact ⟨dx, t, d, k _ _ (ne_of h1 hb (fun z => nomatch z)) h1, k _ _ (ne_of h2 hb (fun z => nomatch z)) h2, k _ _ (ne_of h3 hb (fun z => nomatch z)) h3⟩
theorem TlAt.kept {K : PySem.W.Frag} {C CT b p : Addr} {G G' : Hp} {rs : List RD} {s : Bool} (bx : BoxAt G b) (k : Kept b G G') (h : TlAt K C CT G p rs s) : TlAt K C CT G' p rs s := by
  obtain ⟨xb, hb⟩ := bx.at
  obtain ⟨dx, t, xs, h1, h2, h3⟩ := h
  refine ⟨dx, t, xs, k _ _ (ne_of h1 hb (fun z => nomatch z)) h1, h2.imp (fun q => k _ _ (tup_box q bx) q) id, h3.1, h3.2.1, fun i x r hx hr => ?_⟩
  obtain ⟨q, e, hq⟩ := h3.2.2 i x r hx hr
  exact ⟨q, e, hq.kept bx k⟩
theorem PrG.same {G G' : Hp} {v : V} {r : RD} (s : Same G G') (h : PrG G v r) : PrG G' v r := by
  obtain ⟨p, e, h1, h2⟩ := h
  exact ⟨p, e, h1.same s, h2⟩
theorem PrG.kept {G G' : Hp} {b : Addr} {v : V} {r : RD} (bx : BoxAt G b) (k : Kept b G G') (h : PrG G v r) : PrG G' v r := by
  obtain ⟨p, e, h1, h2⟩ := h
  exact ⟨p, e, h1.kept bx k, h2⟩
/-- the box and the law's forms -/
structure Ev (H : Hp) (b F : Addr) (ps : List Addr) (G : Hp) : Prop where
  s : Same H G
  bx : BoxAt G b
  fs : G F = some (.lst (ps.map V.ref))
  fb : F ≠ b
  at_ : Paired (AtF G) ps lawForms
theorem Ev.kept {H G G' : Hp} {b F : Addr} {ps : List Addr} (n : H b = none) (h : Ev H b F ps G) (k : Kept b G G') (bx : BoxAt G' b) : Ev H b F ps G' :=
  ⟨sameK h.s k n, bx, k _ _ h.fb h.fs, h.fb, Paired.mapP h.at_ fun a f z => z.kept h.bx k⟩
theorem Ev.same {H G G' : Hp} {b F : Addr} {ps : List Addr} (h : Ev H b F ps G) (s : Same G G') : Ev H b F ps G' :=
  ⟨h.s.trans s, BoxAt.same s h.bx, s _ _ h.fs, h.fb, Paired.mapP h.at_ fun a f z => z.same s⟩
/-- what stands in a turn of the law -/
structure Tn (K : PySem.W.Frag) (C CT : Addr) (H : Hp) (b F : Addr) (ps : List Addr) (p2 R2 : Addr) (zs : List V) (rs : List RD) (s : Bool) (y : Addr) (G : Hp) : Prop where
  ev : Ev H b F ps G
  hp : G p2 = some (.tup [.ref R2, .bl s])
  hR : G R2 = some (.lst zs)
  Rb : R2 ≠ b
  hrs : Paired (PrG G) zs rs
  ht : TlAt K C CT G y rs s
theorem Tn.same {K : PySem.W.Frag} {C CT : Addr} {H G G' : Hp} {b F : Addr} {ps : List Addr} {p2 R2 : Addr} {zs : List V} {rs : List RD} {s : Bool} {y : Addr} (h : Tn K C CT H b F ps p2 R2 zs rs s y G) (e : Same G G') : Tn K C CT H b F ps p2 R2 zs rs s y G' :=
  ⟨h.ev.same e, e _ _ h.hp, e _ _ h.hR, h.Rb, Paired.mapP h.hrs fun v r z => z.same e, h.ht.same e⟩
theorem Tn.kept {K : PySem.W.Frag} {C CT : Addr} {H G G' : Hp} {b F : Addr} {ps : List Addr} {p2 R2 : Addr} {zs : List V} {rs : List RD} {s : Bool} {y : Addr} (h : Tn K C CT H b F ps p2 R2 zs rs s y G) (n : H b = none) (k : Kept b G G') (bx : BoxAt G' b) : Tn K C CT H b F ps p2 R2 zs rs s y G' :=
  ⟨h.ev.kept n k bx, k _ _ (tup_box h.hp h.ev.bx) h.hp, k _ _ h.Rb h.hR, h.Rb, Paired.mapP h.hrs fun v r z => z.kept h.ev.bx k, h.ht.kept h.ev.bx k⟩
theorem pr_dr {G : Hp} : ∀ {zs : List V} {rs : List RD}, Paired (PrG G) zs rs → ∀ r ∈ rs, Dr r
  | _, _, .nil, r, h => (List.not_mem_nil h).elim
  | _, _, .cons x t, r, h => by
    rcases List.mem_cons.mp h with rfl | h
    · obtain ⟨p, _, _, d⟩ := x
      exact d
    · exact pr_dr t r h
def LawN : List Str := ["_law_script", "_law_k", "_law_box_here", "_law_every", "_law_turn", "_law_tool_here", "_law_more", "_law_made", "_law_form", "_law_before", "_law_due"]
abbrev LawP : List Str := ["_law_script"]
abbrev sLaw : Stmt := top 59
def spLaw (K : PySem.W.Frag) : Sp := fun vs H Q _ => ∃ (a : Addr) (ns : List Int), vs = [.ref a] ∧ SqL K H a (ns.map V.int) ∧ ns.length ≤ 63 ∧ ∀ H', Q (.bl true) H'
section
variable {P : Program} {w : World} {K : PySem.W.Frag} {mg : Str → Option Value} {base : Heap}
theorem scLaw : FnScope LawN LawP (defScope sLaw) := ⟨rfl, rfl, rfl, by decide +kernel, rfl, by decide +kernel, by decide +kernel⟩
theorem ok_Law {f C CT FO fT : Addr} {fd fdT : FuncData} {dsT : List Value} (B : Bt mg) (c0 : ClsI K C) (ZT : ToolC K CT) (gFO : mg "FORMS" = some (.ref FO)) (FF : lenT K FO 432 = true) (MT : Mk K CT fT) (GT : FnOk P w K mg base CX0 3 fT fdT ["self", "rows", "sorts"] (spToolG K C CT)) (gT : mg "Tool" = some (.ref CT)) (bT1 : Binds K fdT ["self", "rows", "sorts"] dsT) (vT1 : Vals [V.bl false] dsT)
    (DB : Has P w K mg base CX0 1 "_law_box" ["_law_script", "_law_k", "_law_own"] (spBox K)) (DT : Has P w K mg base CX0 1 "_law_take" ["_law_box_here", "_law_many"] spTake) (DK : Has P w K mg base CX0 2 "_law_pick" ["_law_box_here", "_law_items"] (spPick K)) (DFs : Has P w K mg base CX0 1 "_law_forms" LFsP (spLForms K)) (DRw : Has P w K mg base CX0 4 "_law_row" ["_law_box_here"] spLRow) (DTl : Has P w K mg base CX0 5 "_law_tool" ["_law_box_here"] spLTool)
    (DTo : Has P w K mg base CX0 5 "_law_tool_of" ["_law_tool_here"] (spToolOf K C CT)) (DLd : Has P w K mg base CX0 4 "_law_laid" laidP (spLaid K)) (DLy : Has P w K mg base CX0 6 "lay" ["tool", "before", "form"] (spLay K C CT)) (F : Fun K "law" "law" sLaw f fd) : FnG P w K mg base 7 f fd LawP (spLaw K) := by
  refine Fun.okG F scLaw (fun vs H Q E h => ?_) (fun cdv A outer s H vs Q silent hr h => ?_)
  · obtain ⟨a, ns, rfl, _⟩ := h
    rfl
  · obtain ⟨a, ns, rfl, hs, hn, k⟩ := h
    have hr1 := hr.mono (show 1 ≤ 6 by decide)
    have hr2 := hr.mono (show 2 ≤ 6 by decide)
    have hr4 := hr.mono (show 4 ≤ 6 by decide)
    have hr5 := hr.mono (show 5 ≤ 6 by decide)
    refine ⟨_, (pss_cons (ps_for PassesOwn.never rfl (pi_range1 (by rfl) B.range (pa_cons (pe_callB (call_max2 rfl) (by rfl) B.max (by decide +kernel) (pa_cons pe_int (pa_cons (pe_callB (call_min2 rfl) (by rfl) B.min (by decide +kernel) (pa_cons pe_int (pa_cons (pe_callB (call_lenK (K := K) rfl) (by rfl) B.len PySem.boot_len (pa_cons (pv 0) pa_nil)) pa_nil))) pa_nil))) pa_nil)) (pg_name (i := 1) scLaw.nd rfl (.inl rfl))
      (C8.pss_cut (ps_asg (pe_tup (pa_cons (pe_callH DB hr1 (by rfl) pass0 (pa_cons (pv 0) (pa_cons (pv 1) (pa_cons pe_int pa_nil)))) (pa_cons (pe_callH0 DFs hr1 (by rfl) pass0) pa_nil))) (pg_tup rfl (pgs_cons (pg_name (i := 2) scLaw.nd rfl (.inr rfl)) (pgs_cons (pg_name (i := 3) scLaw.nd rfl (.inl rfl)) pgs_nil))))
      (pss_one (ps_for PassesOwn.never rfl (pi_range1 (by rfl) B.range (pa_cons pe_int pa_nil)) (pg_name (i := 4) scLaw.nd rfl (.inl rfl))
        (C8.pss_cut (ps_set (i := 5) scLaw.nd rfl (.inl rfl) (pe_callH DTl hr5 (by rfl) pass0 (pa_cons (pv 2) pa_nil)))
        (C8.pss_cut (ps_set (i := 5) scLaw.nd rfl (.inl rfl) (pe_tup (pa_cons (pe_op op_cat (pe_ix ix_tup (pv 5) pe_int (fun _ _ => rfl)) (pe_lc (own := [("_law_more", 6)]) (g := gName 6) (tt := tYes) (by rfl) scLaw.nd (pi_range1 (by rfl) B.range (pa_cons (pe_callH DT hr1 (by rfl) pass0 (pa_cons (pv 2) (pa_cons pe_int pa_nil))) pa_nil)) (blkOk_by (N := LawN) (sc := defScope sLaw) (by decide +kernel)) (fun _ _ _ _ _ => pg_name (i := 6) scLaw.nd rfl (Or.inl rfl)) (fun _ _ _ _ _ => pts_nil) (fun _ _ _ _ _ => (pe_callH DRw hr4 (by rfl) pass0 (pa_cons (pv 2) pa_nil))))) (pa_cons (pe_ix ix_tup (pv 5) pe_int (fun _ _ => rfl)) pa_nil))))
        (C8.pss_cut (ps_set (i := 7) scLaw.nd rfl (.inl rfl) (pe_callH DTo hr5 (by rfl) pass0 (pa_cons (pv 5) pa_nil)))
        (pss_one (ps_for PassesOwn.never rfl (pi_range1 (by rfl) B.range (pa_cons pe_int pa_nil)) (pg_name (i := 6) scLaw.nd rfl (.inl rfl))
          (C8.pss_cut (ps_set (i := 8) scLaw.nd rfl (.inl rfl) (pe_callH DK hr2 (by rfl) pass0 (pa_cons (pv 2) (pa_cons (pv 3) pa_nil))))
          (C8.pss_cut (ps_set (i := 9) scLaw.nd rfl (.inl rfl) (pe_callH DK hr2 (by rfl) pass0 (pa_cons (pv 2) (pa_cons (pe_lst (pa_cons (pe_tup pa_nil) (pa_cons (pe_tup (pa_cons pe_bl (pa_cons pe_bl pa_nil))) (pa_cons (pe_tup (pa_cons pe_bl (pa_cons pe_bl pa_nil))) (pa_cons (pe_tup (pa_cons pe_bl (pa_cons pe_bl pa_nil))) (pa_cons (pe_tup (pa_cons pe_bl (pa_cons pe_bl pa_nil))) pa_nil)))))) pa_nil))))
          (C8.pss_cut (ps_set (i := 10) scLaw.nd rfl (.inl rfl) (pe_callH DLd hr4 (by rfl) pass0 (pa_cons (pe_ix ix_tup (pv 5) pe_int (fun _ _ => rfl)) (pa_cons (pv 9) (pa_cons (pv 8) pa_nil)))))
          (C8.pss_cut (ps_if (PW.pt (pw_or (pt_cmpR op_ne (pe_callB (call_reprD silent hr.units) (by rfl) B.repr (by decide +kernel) (pa_cons (pe_callH DLy hr (by rfl) pass0 (pa_cons (pv 7) (pa_cons (pv 9) (pa_cons (pv 8) pa_nil)))) pa_nil)) (pe_callB (call_reprD silent hr.units) (by rfl) B.repr (by decide +kernel) (pa_cons (pv 10) pa_nil)) (nomark _)) (pw_or1 (pt_cmpR (op_neD hr.units) (pe_callH DLy hr (by rfl) pass0 (pa_cons (pe_make MT GT hr4 (by rfl) gT bT1 vT1 pass0 (pa_cons (pe_fld (pv 7) rfl) pa_nil)) (pa_cons (pv 9) (pa_cons (pv 8) pa_nil)))) (pv 10) (nomark _)))))
            (pss_one (ps_ret pe_bl))
            pss_nil)
          (pss_one (ps_if (pt_cmpR op_ne (pe_callB (call_reprD silent hr.units) (by rfl) B.repr (by decide +kernel) (pa_cons (pe_callH DLy hr (by rfl) pass0 (pa_cons (pv 7) (pa_cons (pv 9) (pa_cons (pv 8) pa_nil)))) pa_nil)) (pe_callB (call_reprD silent hr.units) (by rfl) B.repr (by decide +kernel) (pa_cons (pv 10) pa_nil)) (nomark _))
            (pss_one (ps_ret pe_bl))
            pss_nil)))))))))))))))
    (pss_one (ps_ret (pe_cmpR op_eq (pe_callB (call_lenK (K := K) rfl) (by rfl) B.len PySem.boot_len (pa_cons (pe_glob (v := .ref FO) (by rfl) gFO rfl) pa_nil)) (pe_callB (call_lenK (K := K) rfl) (by rfl) B.len PySem.boot_len (pa_cons (pe_callH0 DFs hr1 (by rfl) pass0) pa_nil)) (nomark _))))), ?_⟩
    have hmap : (ns.map V.int).length = ns.length := List.length_map ..
    refine ⟨_, rfl, a, _, rfl, .inl hs, _, _, rfl, _, _, rfl, _, rfl, ?_, ?_, for_range (lo := 0) (n := Int.toNat _) (fun i σ G => ∃ x1 x2 x3 x4 x5 x6 x7 x8 x9 x10 : Option V, σ = [some (.ref a), x1, x2, x3, x4, x5, x6, x7, x8, x9, x10] ∧ Same H G) ⟨none, none, none, none, none, none, none, none, none, none, rfl, Same.rfl⟩ ?_ ?_⟩
    · split <;> split <;> omega
    · split <;> split <;> omega
    · rintro i σ G hi ⟨x1, x2, x3, x4, x5, x6, x7, x8, x9, x10, rfl, sG⟩
      have hi3 : i ≤ 2 := by
        revert hi
        split <;> split <;> omega
      refine ⟨fun σ G => ∃ (b F0 : Addr) (ps : List Addr), σ = [some (.ref a), some (.int (0 + (i : Int))), some (.ref b), some (.ref F0), x4, x5, x6, x7, x8, x9, x10] ∧ Ev H b F0 ps G ∧ H b = none, ?_, ?_⟩
      · refine ⟨_, rfl, _, rfl, a, ns, 0 + (i : Int), 24, rfl, sG.seq hs, by omega, by omega, by decide, by decide, by omega, fun b G1 sb nb bb => ⟨rfl, fun F0 ps G2 nF s2 hF hP => ⟨(by show 2 ≤ sizeLine; decide), fun t nt => ⟨t, _, rfl, SqT.of upd_same, rfl, _, _, rfl, _, _, rfl, rfl, b, F0, ps, rfl, ?_, sG.free nb⟩⟩⟩⟩
        have st := Same.new nt (o := .tup [.ref b, .ref F0])
        obtain ⟨xb, hxb⟩ := bb.at
        exact ⟨((sG.trans sb).trans s2).trans st, BoxAt.same (s2.trans st) bb, st _ _ hF, (ne_of_none hxb nF).symm, Paired.mapP hP fun q f z => z.same st⟩
      clear sG
      rintro σ G ⟨b, F0, ps, rfl, ev0, nb⟩
      refine ⟨4, rfl, by decide, by decide, for_range (lo := 0) (n := 4) (fun j σ G => ∃ x4 x5 x6 x7 x8 x9 x10 : Option V, σ = [some (.ref a), some (.int (0 + (i : Int))), some (.ref b), some (.ref F0), x4, x5, x6, x7, x8, x9, x10] ∧ Ev H b F0 ps G) ⟨x4, x5, x6, x7, x8, x9, x10, rfl, ev0⟩ ?_ ?_⟩
      · clear ev0
        rintro j σ G2 hj ⟨x4, x5, x6, x7, x8, x9, x10, rfl, ev⟩
        refine ⟨fun σ G => ∃ (p R : Addr) (xs : List V) (s : Bool), σ = [some (.ref a), some (.int (0 + (i : Int))), some (.ref b), some (.ref F0), some (.int (0 + (j : Int))), some (.ref p), x6, x7, x8, x9, x10] ∧ Ev H b F0 ps G ∧ G p = some (.tup [.ref R, .bl s]) ∧ G R = some (.lst xs) ∧ R ≠ b ∧ (∀ v ∈ xs, PrX G v) ∧ xs.length ≤ 4, ?_, ?_⟩
        · exact ⟨_, rfl, b, rfl, ev.bx, fun p R xs s G' kk bb hp hR Rb hx lx => ⟨p, R, xs, s, rfl, ev.kept nb kk bb, hp, hR, Rb, hx, lx⟩⟩
        clear ev
        rintro σ G3 ⟨p, R, xs, s, rfl, ev, hp, hR, Rb, hx, lx⟩
        refine ⟨fun σ G => ∃ (p2 R2 : Addr) (zs : List V), σ = [some (.ref a), some (.int (0 + (i : Int))), some (.ref b), some (.ref F0), some (.int (0 + (j : Int))), some (.ref p2), x6, x7, x8, x9, x10] ∧ Ev H b F0 ps G ∧ G p2 = some (.tup [.ref R2, .bl s]) ∧ G R2 = some (.lst zs) ∧ R2 ≠ b ∧ (∀ v ∈ zs, PrX G v) ∧ zs.length ≤ 8, ?_, ?_⟩
        · refine ⟨_, rfl, p, _, _, _, rfl, rfl, SqT.of hp, rfl, _, rfl, b, 5, rfl, ev.bx, by decide, by decide, fun r o r0 r1 ho => ⟨r, rfl, by omega, by omega, fun D nD => ?_⟩⟩
          have kb : Kept b G3 (upd G3 b o) := Kept.box
          have bx4 : BoxAt (upd G3 b o) b := BoxAt.box ho
          have ev4 := ev.kept nb kb bx4
          have hp4 := kb _ _ (tup_box hp ev.bx) hp
          have hR4 := kb _ _ Rb hR
          have hx4 : ∀ v ∈ xs, PrX (upd G3 b o) v := fun v hv => (hx v hv).kept ev.bx kb
          generalize upd G3 b o = G4 at bx4 ev4 hp4 hR4 hx4 nD ⊢
          obtain ⟨xb, hxb⟩ := bx4.at
          have Db : D ≠ b := (ne_of_none hxb nD).symm
          refine lc_range (lo := 0) (n := r.toNat) (fun m G' => ∃ ys : List V, Kept b G4 G' ∧ BoxAt G' b ∧ G' D = some (.lst ys) ∧ ys.length = m ∧ ∀ v ∈ ys, PrX G' v) ⟨[], (Kept.of_same (Same.new nD)), BoxAt.same (Same.new nD) bx4, upd_same, rfl, fun v hv => (List.not_mem_nil hv).elim⟩ ?_ ?_
          · rintro m G5 hm ⟨ys, k5, b5, hD, ly, hy⟩
            refine ⟨rfl, _, rfl, b, rfl, b5, fun p' rd G6 k6 b6 hp' dr => ?_⟩
            have hD6 := k6 _ _ Db hD
            refine ⟨_, hD6, small1000 (by omega), ys ++ [.ref p'], (k5.trans k6).put nD, ?_, upd_same, by rw [List.length_append, ly]; rfl, fun v hv => ?_⟩
            · obtain ⟨ob, eb, yb⟩ := b6
              exact ⟨ob, by rw [upd_ne (Ne.symm Db)]; exact eb, yb⟩
            · rcases List.mem_append.mp hv with hv | hv
              · exact ((hy v hv).kept b5 k6).put hD6
              · rw [List.mem_singleton] at hv
                subst hv
                exact PrX.put hD6 ⟨rd, p', rfl, hp', dr⟩
          · rintro G5 ⟨ys, k5, b5, hD, ly, hy⟩
            have hR5 := k5 _ _ Rb hR4
            refine ⟨R, D, xs, ys, rfl, rfl, hR5, hD, by rw [sizeLine_eq]; omega, fun L nL => ?_⟩
            have sL := Same.new nL (o := .lst (xs ++ ys))
            have hp5 := k5 _ _ (tup_box hp4 bx4) hp4
            refine ⟨_, rfl, p, _, _, _, rfl, rfl, SqT.of (sL _ _ hp5), rfl, (by show 2 ≤ sizeLine; decide), fun p2 np2 => ?_⟩
            have s2 := sL.trans (Same.new np2 (o := .tup [.ref L, .bl s]))
            obtain ⟨x5, hx5⟩ := b5.at
            refine ⟨p2, L, xs ++ ys, rfl, (ev4.kept nb k5 b5).same s2, upd_same, (Same.new np2) _ _ upd_same, (ne_of_none hx5 nL).symm, fun v hv => ?_, by rw [List.length_append]; omega⟩
            rcases List.mem_append.mp hv with hv | hv
            · exact ((hx4 v hv).kept bx4 k5).same s2
            · exact (hy v hv).same s2
        clear ev hp hR Rb hx lx
        rintro σ G4 ⟨p2, R2, zs, rfl, ev, hp2, hR2, Rb2, hz, lz⟩
        obtain ⟨rs, hrs⟩ := pair_of (P := PrG G4) hz
        refine ⟨fun σ G => ∃ y, σ = [some (.ref a), some (.int (0 + (i : Int))), some (.ref b), some (.ref F0), some (.int (0 + (j : Int))), some (.ref p2), x6, some (.ref y), x8, x9, x10] ∧ Tn K C CT H b F0 ps p2 R2 zs rs s y G, ?_, ?_⟩
        · exact ⟨_, rfl, p2, R2, zs, rs, s, rfl, hp2, hR2, hrs, by omega, fun y G' s' ht => ⟨y, rfl, ev.same s', s' _ _ hp2, s' _ _ hR2, Rb2, Paired.mapP hrs fun v r z => z.same s', ht⟩⟩
        have drs := pr_dr hrs
        clear ev hp2 hR2 hz hrs
        rintro σ G5 ⟨y, rfl, tn⟩
        refine ⟨40, rfl, by decide, by decide, for_range (lo := 0) (n := 40) (fun m σ G => ∃ x6 x8 x9 x10 : Option V, σ = [some (.ref a), some (.int (0 + (i : Int))), some (.ref b), some (.ref F0), some (.int (0 + (j : Int))), some (.ref p2), x6, some (.ref y), x8, x9, x10] ∧ Tn K C CT H b F0 ps p2 R2 zs rs s y G) ⟨x6, x8, x9, x10, rfl, tn⟩ ?_ ?_⟩
        · clear tn
          rintro m σ G6 hm ⟨x6, x8, x9, x10, rfl, tn⟩
          refine ⟨fun σ G => ∃ (q : Addr) (f : Fm) (x6 : Option V), σ = [some (.ref a), some (.int (0 + (i : Int))), some (.ref b), some (.ref F0), some (.int (0 + (j : Int))), some (.ref p2), x6, some (.ref y), some (.ref q), x9, x10] ∧ Tn K C CT H b F0 ps p2 R2 zs rs s y G ∧ AtF G q f ∧ f ∈ lawForms, ?_, ?_⟩
          · have lp := Paired.length tn.ev.at_
            rw [law_len] at lp
            refine ⟨_, rfl, _, rfl, b, F0, ps.map V.ref, rfl, tn.ev.bx, tn.ev.fb, SqL.of tn.ev.fs, by rw [List.length_map, lp]; decide, by rw [List.length_map, lp]; decide, fun v o hv ho => ?_⟩
            obtain ⟨q, hq, rfl⟩ := List.mem_map.mp hv
            obtain ⟨n0, en⟩ := List.mem_iff_getElem?.mp hq
            obtain ⟨f, ef, hf⟩ := Paired.nth tn.ev.at_ en
            exact ⟨q, f, _, rfl, tn.kept nb Kept.box (BoxAt.box ho), hf.kept tn.ev.bx Kept.box, List.mem_of_getElem? ef⟩
          clear tn
          rintro σ G7 ⟨q, f, x6, rfl, tn, hq, mf⟩
          obtain ⟨f5, f3⟩ := law_fm mf
          refine ⟨fun σ G => ∃ (t : Addr) (bf : Option (Bool × Bool)), σ = [some (.ref a), some (.int (0 + (i : Int))), some (.ref b), some (.ref F0), some (.int (0 + (j : Int))), some (.ref p2), x6, some (.ref y), some (.ref q), some (.ref t), x10] ∧ Tn K C CT H b F0 ps p2 R2 zs rs s y G ∧ AtF G q f ∧ G t = some (.tup (bfV bf)), ?_, ?_⟩
          · refine ⟨_, rfl, (by show 0 ≤ sizeLine; exact Nat.zero_le _), fun t0 n0 => ⟨(by show 2 ≤ sizeLine; decide), fun t1 n1 => ⟨(by show 2 ≤ sizeLine; decide), fun t2 n2 => ⟨(by show 2 ≤ sizeLine; decide), fun t3 n3 => ⟨(by show 2 ≤ sizeLine; decide), fun t4 n4 => ⟨(by show 5 ≤ sizeLine; decide), fun l nl => ?_⟩⟩⟩⟩⟩⟩
            have v0 := Same.new n0 (o := .tup (bfV none))
            have v1 := Same.new n1 (o := .tup (bfV (some (false, false))))
            have v2 := Same.new n2 (o := .tup (bfV (some (false, true))))
            have v3 := Same.new n3 (o := .tup (bfV (some (true, false))))
            have v4 := Same.new n4 (o := .tup (bfV (some (true, true))))
            have vl := Same.new nl (o := .lst [.ref t0, .ref t1, .ref t2, .ref t3, .ref t4])
            have u4 := v4.trans vl
            have u3 := v3.trans u4
            have u2 := v2.trans u3
            have u1 := v1.trans u2
            have u0 := v0.trans u1
            have tn8 := tn.same u0
            obtain ⟨xb, hxb⟩ := tn.ev.bx.at
            have lb : l ≠ b := (ne_of_none (v4 _ _ (v3 _ _ (v2 _ _ (v1 _ _ (v0 _ _ hxb))))) nl).symm
            refine ⟨b, l, _, rfl, tn8.ev.bx, lb, SqL.of upd_same, (by show 0 < 5; decide), (by show 5 ≤ 1000; decide), fun v o hv ho => ?_⟩
            have fin : ∀ t bf G8, BoxAt G8 b → G8 t = some (.tup (bfV bf)) → upd G8 b o t = some (.tup (bfV bf)) := fun t bf G8 bx h => by
              rw [upd_ne (tup_box h bx)]
              exact h
            have tn9 := tn8.kept nb (Kept.box (o := o)) (BoxAt.box ho)
            have hq9 := (hq.same u0).kept tn8.ev.bx (Kept.box (o := o))
            simp only [List.mem_cons, List.not_mem_nil, or_false] at hv
            rcases hv with rfl | rfl | rfl | rfl | rfl
            · exact ⟨t0, none, rfl, tn9, hq9, fin _ _ _ tn8.ev.bx (u1 _ _ upd_same)⟩
            · exact ⟨t1, some (false, false), rfl, tn9, hq9, fin _ _ _ tn8.ev.bx (u2 _ _ upd_same)⟩
            · exact ⟨t2, some (false, true), rfl, tn9, hq9, fin _ _ _ tn8.ev.bx (u3 _ _ upd_same)⟩
            · exact ⟨t3, some (true, false), rfl, tn9, hq9, fin _ _ _ tn8.ev.bx (u4 _ _ upd_same)⟩
            · exact ⟨t4, some (true, true), rfl, tn9, hq9, fin _ _ _ tn8.ev.bx (vl _ _ upd_same)⟩
          clear tn hq
          rintro σ G8 ⟨t, bf, rfl, tn, hq, ht⟩
          refine ⟨fun σ G => ∃ d, σ = [some (.ref a), some (.int (0 + (i : Int))), some (.ref b), some (.ref F0), some (.int (0 + (j : Int))), some (.ref p2), x6, some (.ref y), some (.ref q), some (.ref t), some (.ref d)] ∧ Tn K C CT H b F0 ps p2 R2 zs rs s y G ∧ AtF G q f ∧ G t = some (.tup (bfV bf)) ∧ AtF G d (laidF bf rs f), ?_, ?_⟩
          · exact ⟨_, rfl, p2, _, _, _, rfl, rfl, SqT.of tn.hp, rfl, _, rfl, _, rfl, R2, t, q, zs, rs, bf, f, rfl, tn.hR, tn.hrs, SqT.of ht, hq, fun d G' s' hd => ⟨d, rfl, tn.same s', hq.same s', s' _ _ ht, hd⟩⟩
          clear tn hq ht
          rintro σ G9 ⟨d, rfl, tn, hq, ht, hd⟩
          have good : ∀ r ∈ rs, GoodR r := fun r hr => (drs r hr).good
          have le := lay_eq (bf := bf) f5 f3 drs
          have n3 := (rows_eq (sim0 (bf := bf) f5 f3) drs).n3
          generalize hg : laidF bf rs f = g at hd le n3
          obtain ⟨r1, r2, r3, r4⟩ := fm_show n3
          have r4 : g.data.shown.length ≤ sizeLine := by
            rw [sizeLine_eq]
            omega
          refine ⟨fun σ G => σ = [some (.ref a), some (.int (0 + (i : Int))), some (.ref b), some (.ref F0), some (.int (0 + (j : Int))), some (.ref p2), x6, some (.ref y), some (.ref q), some (.ref t), some (.ref d)] ∧ Tn K C CT H b F0 ps p2 R2 zs rs s y G ∧ AtF G q f ∧ G t = some (.tup (bfV bf)) ∧ AtF G d g, ?_, ?_⟩
          · refine ⟨_, rfl, _, rfl, _, rfl, y, t, q, rs, s, bf, f, rfl, tn.ht, good, SqT.of ht, hq, fun u G1 s1 hu => ?_⟩
            rw [le] at hu
            refine ⟨u, g.data, rfl, AtF.dp hu, r1, r2, r3, r4, ?_⟩
            refine ⟨_, rfl, d, g.data, rfl, AtF.dp (hd.same s1), r1, r2, r3, r4, ?_⟩
            generalize g.data.shown = z at r4 ⊢
            refine ⟨rfl, _, rfl, ?_⟩
            refine iteN (ne_self _) ?_
            have tn1 := tn.same s1
            obtain ⟨dx, t', xs', hy, htt, hx'⟩ := tn1.ht
            have lr := Paired.length tn.hrs
            have lx' := hx'.1
            refine ⟨_, rfl, y, CT, dx, _, _, rfl, hy, ZT.cl, ZT.rows, rfl, fun x dx2 nx nd ne => ?_⟩
            have zz := (Same.new nd (o := .own x)).trans (Same.new (fresh_own (o := .own x) nx ne) (o := .ins CT dx2 []))
            refine ⟨x, dx2, t', xs', false, rfl, upd_same, .inr (htt.same zz), by omega, (hx'.same zz).isP c0, fun G2 u2 hu2 kp hxx => ⟨rfl, ?_⟩⟩
            have sm := made_same nx nd kp
            have s2 := s1.trans sm
            refine ⟨_, rfl, _, rfl, x, t, q, rs, false, bf, f, rfl, ⟨dx2, u2, xs', hxx, hu2, hx'.same sm⟩, good, SqT.of (s2 _ _ ht), hq.same s2, fun u3 G3 s3 hu3 => ?_⟩
            rw [le] at hu3
            have s23 := s2.trans s3
            refine ⟨_, rfl, g.data, g.data, AtF.dp hu3, AtF.dp (hd.same s23), fm_shaped g, fm_shaped g, ?_⟩
            rw [fm_eqv]
            exact ⟨_, rfl, iteN rfl ⟨rfl, tn.same s23, hq.same s23, s23 _ _ ht, hd.same s23⟩⟩
          clear tn hq ht hd
          rintro σ G10 ⟨rfl, tn, hq, ht, hd⟩
          refine ⟨_, rfl, _, rfl, _, rfl, y, t, q, rs, s, bf, f, rfl, tn.ht, good, SqT.of ht, hq, fun u G1 s1 hu => ?_⟩
          rw [le] at hu
          refine ⟨u, g.data, rfl, AtF.dp hu, r1, r2, r3, r4, ?_⟩
          refine ⟨_, rfl, d, g.data, rfl, AtF.dp (hd.same s1), r1, r2, r3, r4, ?_⟩
          generalize g.data.shown = z at r4 ⊢
          refine ⟨rfl, _, rfl, ?_⟩
          refine iteN (ne_self _) ?_
          exact ⟨_, _, _, _, rfl, tn.same s1⟩
        · rintro σ G ⟨x6, x8, x9, x10, rfl, tn⟩
          exact ⟨_, _, _, _, _, _, _, rfl, tn.ev⟩
      · rintro σ G ⟨x4, x5, x6, x7, x8, x9, x10, rfl, ev⟩
        exact ⟨_, _, _, x4, x5, x6, x7, x8, x9, x10, rfl, ev.s⟩
    · rintro σ G ⟨x1, x2, x3, x4, x5, x6, x7, x8, x9, x10, rfl, sG⟩
      obtain ⟨xF, lF, hF⟩ := lenT_at FF (by decide)
      refine ⟨FO, xF, rfl, .inr (hF _), rfl, fun F0 ps H1 nF s1 hF0 hP => ⟨F0, _, rfl, .inl (SqL.of hF0), rfl, ?_⟩⟩
      rw [lF, List.length_map, Paired.length hP, law_len]
      exact k _
end
end Lay
set_option Elab.async false
set_option linter.all false
set_option maxRecDepth 100000
set_option maxHeartbeats 8000000
namespace Lay
open PySem PySem.Spec PyProof.Rows L2

theorem walkGE {l : PySem.W.OpenLaw} {n k : Nat} {q : Program} {loose : List Str} {XP : (Str → Option Value) → Heap → Prop} {YP : World → Heap → Prop} {d : DefRec} {x : Str}
    (hn : l.most = some n) (hn2 : n ≤ sizeLine) (hdf : d.params.defaults = []) (hr : Room k callerA)
    (F : ∀ (w : World) (mg : Str → Option Value) (fa : Addr) (h : Heap), YP w h → h.Ns mainGlobals mg → mg d.name = some (.ref fa) →
      ∃ (K : PySem.W.Frag) (fd : FuncData) (sp : Sp), K.In h ∧ (∀ (s : Shared) (u : Value), BindsTo s fd ⟨[u], []⟩ [(x, u)]) ∧
        (∀ (H : Hp) (a : Addr) (ns : List Int), ns.length ≤ n → Only H → SqL K H a (ns.map V.int) → sp [.ref a] H (fun v _ => v = .bl true) E0) ∧
        ∀ base : Heap, K.In base → base.Ns mainGlobals mg → FnG l.prog w K mg base k fa fd [x] sp) :
    PySem.W.WalkO q loose XP YP l.row.toRowW d [] (fun f vs => PySem.call f vs) := by
  refine Att.attach_call hn hdf fun w s₀ s₁ mg mb fa o pm cd doc a vs ns G Y ho hd hcd hmg hobj hints hlen hg => ?_
  obtain ⟨K, fd, sp, kin, hb, hsp, hF⟩ := F w mg fa _ Y G.T.g hmg
  obtain ⟨H, hO, hS, hok, hA⟩ := script_seen (P := l.prog) (w := w) kin hobj hints (Nat.le_trans hlen hn2)
  have unT : ∀ {b : Addr} {u : Obj}, s₁.heap.get? b = some u → (b = a → False) → H b = none := fun {b u} _ nb => by
    cases z : H b with
    | none => rfl
    | some v => exact (nb (hA b (by rw [z]; exact fun y => nomatch y)).1).elim
  have ns : ∀ {b : Addr} {m : Str → Option Value}, s₁.heap.Ns b m → (hidT s₁.heap H).Ns b m := fun {b m} ⟨u, es, ep, e, dd, r⟩ =>
    ⟨u, es, ep, hidT_get e (unT e fun z => by
      subst z
      rw [hobj] at e
      cases e
      exact absurd dd (fun y => nomatch (show Data.seq vs.toArray _ = Data.dict es ep from y))), dd, r⟩
  have kinB : K.In (hidT s₁.heap H) := fun b u e => hidT_get (kin b u e) (by
    cases z : H b with
    | none => rfl
    | some v =>
      have y := (hA b (by rw [z]; exact fun y => nomatch y)).2
      rw [e] at y
      cases y)
  obtain ⟨mc, lim1, lim2⟩ := G.T.nolimit
  have M : Mod K mg (hidT s₁.heap H) := ⟨kinB, ns G.T.g, ⟨mb, ns G.T.b, G.T.builtins⟩, ⟨mc, ns lim1, lim2⟩⟩
  have e0 : Env0 l.prog w K mg (hidT s₁.heap H) callerA [] s₁ H := ⟨rfl, M, fun b u e => of_hidT e, Nat.le_of_eq (hidT_size _ _), trivial, fun b z => (nomatch z), hok, .of_eq hg⟩
  refine codeAny_mono ((hF _ kinB (ns G.T.g)).go callerA [] s₁ H ⟨[.ref a], []⟩ [.ref a] [.ref a] _ rfl hr e0 (hb s₁ (.ref a)) (.cons rfl .nil) (hsp H a _ hlen hO hS)) fun r s' h => ?_
  cases r with
  | error e => exact h.elim
  | ok fl =>
    cases fl with
    | next => exact h.elim
    | brk => exact h.elim
    | cont => exact h.elim
    | ret u =>
      obtain ⟨v, H', os, bare, un, hok', rv, qq⟩ := h
      subst qq
      cases rv
      refine ⟨rfl, OldK.of_keep fun b u e => ?_, os, bare⟩
      rcases hO b with z | ⟨ob, xs, z⟩
      · exact un.keep b u e z (fun y => nomatch y) (fun y => nomatch y)
      · obtain ⟨e1, _⟩ := hok b _ z
        obtain ⟨e2, _⟩ := hok' b _ (un.frzs b ob _ z)
        rw [e] at e1
        cases e1
        exact e2

theorem kit_cls {K : PySem.W.Frag} {C : Addr} {t : Value} {b : Bool} (hd : PySem.W.hasDictIn K C = true) (ty : PySem.W.typeIn K (.ref C) = some (.type "type")) (s : PySem.W.subIn K t (.ref C) = some b) (e : t = .ref C → b = true) : PySem.W.kitOne K t (.ref C) = some b := by
  unfold PySem.W.kitOne
  by_cases h : (t == Value.ref C) = true
  · rw [if_pos h, e (beq_iff_eq.mp h)]
  · rw [if_neg h]
    obtain ⟨cd, hc, _⟩ := PySem.W.any_some hd
    unfold PySem.W.kitCls
    dsimp only
    rw [if_pos (by rw [hc, ty]; rfl)]
    exact s
theorem kit_type {K : PySem.W.Frag} {C : Addr} {n : String} {b : Bool} (hm : PySem.W.kitMeta n = true) (s : PySem.W.subIn K (.ref C) (.type n) = some b) : PySem.W.kitOne K (.ref C) (.type n) = some b := by
  unfold PySem.W.kitOne
  rw [if_neg (fun h => by have q := beq_iff_eq.mp h; cases q)]
  unfold PySem.W.kitCls
  dsimp only
  rw [if_pos hm]
  exact s
theorem np_none {C : Addr} : (PySem.fastBuiltinMro "NoneType").map (·.contains (Value.ref C)) = some false := by
  have e : PySem.fastBuiltinMro "NoneType" = some [.type "NoneType", .type "object"] := by decide +kernel
  rw [e]
  rfl
theorem np_int {C : Addr} : (PySem.fastBuiltinMro "int").map (·.contains (Value.ref C)) = some false := by
  have e : PySem.fastBuiltinMro "int" = some [.type "int", .type "object"] := by decide +kernel
  rw [e]
  rfl
theorem np_bool {C : Addr} : (PySem.fastBuiltinMro "bool").map (·.contains (Value.ref C)) = some false := by
  have e : PySem.fastBuiltinMro "bool" = some [.type "bool", .type "int", .type "object"] := by decide +kernel
  rw [e]
  rfl
theorem np_str {C : Addr} : (PySem.fastBuiltinMro "str").map (·.contains (Value.ref C)) = some false := by
  have e : PySem.fastBuiltinMro "str" = some [.type "str", .type "object"] := by decide +kernel
  rw [e]
  rfl
theorem np_list {C : Addr} : (PySem.fastBuiltinMro "list").map (·.contains (Value.ref C)) = some false := by
  have e : PySem.fastBuiltinMro "list" = some [.type "list", .type "object"] := by decide +kernel
  rw [e]
  rfl
theorem np_tuple {C : Addr} : (PySem.fastBuiltinMro "tuple").map (·.contains (Value.ref C)) = some false := by
  have e : PySem.fastBuiltinMro "tuple" = some [.type "tuple", .type "object"] := by decide +kernel
  rw [e]
  rfl

theorem binds_row {K : PySem.W.Frag} {f e1 e2 : Addr} {fd : FuncData} (F : FunD K "__init__" "Row.__init__" (defArgs sRowI) (defBody sRowI) (defScope sRowI) [.ref e1, .ref e2] [] f fd) : Binds K fd ["self", "tests", "deeds"] [] := by
  obtain ⟨ds, h1, h2⟩ := F.binds1 (ps := ["self", "tests", "deeds"]) 3 2 (fun z => nomatch z) rfl fun T kV doc pm an cdv ct us its h1 h2 => match us, its, h1, h2 with
    | [_, _, _], [_, _], _, _ => ⟨_, rfl, rfl⟩
  cases h1
  exact h2
theorem binds_tool {K : PySem.W.Frag} {f e1 : Addr} {fd : FuncData} (F : FunD K "__init__" "Tool.__init__" (defArgs sToolI) (defBody sToolI) (defScope sToolI) [.ref e1, .bl false] [] f fd) : Binds K fd ["self", "rows", "sorts"] [] := by
  obtain ⟨ds, h1, h2⟩ := F.binds1 (ps := ["self", "rows", "sorts"]) 3 2 (fun z => nomatch z) rfl fun T kV doc pm an cdv ct us its h1 h2 => match us, its, h1, h2 with
    | [_, _, _], [_, _], _, _ => ⟨_, rfl, rfl⟩
  cases h1
  exact h2
theorem binds_tool1 {K : PySem.W.Frag} {f e1 : Addr} {fd : FuncData} (F : FunD K "__init__" "Tool.__init__" (defArgs sToolI) (defBody sToolI) (defScope sToolI) [.ref e1, .bl false] [] f fd) : ∃ ds, Vals [V.bl false] ds ∧ Binds K fd ["self", "rows", "sorts"] ds :=
  F.binds1 (ps := ["self", "rows", "sorts"]) 2 1 (fun z => nomatch z) rfl fun T kV doc pm an cdv ct us its h1 h2 => match us, its, h1, h2 with
    | [_, _], [_, _], _, _ => ⟨_, rfl, rfl⟩

theorem all_mk {l : PySem.W.OpenLaw} {w : World} {K : PySem.W.Frag} {h : Heap} {mg : Str → Option Value} {fa eP eQ eR C fR CT fT tT tD FO DO g_seq g_test g_deed g_areT g_areD g_areR g_facts g_bits g_lanes g_shin g_beh g_long g_holds g_done g_dbreak g_djoin g_dmark g_dunmark g_dlift g_dlower g_dspace g_dclose g_row g_rows g_ff g_lay g_box g_take g_pick g_ltest g_lrow g_ltool g_lof g_lforms g_isl g_ask g_laid g_law : Addr} (X : K.In h) (G : h.Ns mainGlobals mg) (hfa : mg "law" = some (.ref fa))
    {fdR : FuncData}
    {fdT : FuncData}
    {esDO : Array DictEntry} {nDO : Nat}
    {od_seq an_seq : Option Addr} {sl_seq : Array (Option Value)} {oc_seq kV_seq dc_seq pm_seq cd_seq ct_seq : Value}
    {od_test an_test : Option Addr} {sl_test : Array (Option Value)} {oc_test kV_test dc_test pm_test cd_test ct_test : Value}
    {od_deed an_deed : Option Addr} {sl_deed : Array (Option Value)} {oc_deed kV_deed dc_deed pm_deed cd_deed ct_deed : Value}
    {od_areT an_areT : Option Addr} {sl_areT : Array (Option Value)} {oc_areT kV_areT dc_areT pm_areT cd_areT ct_areT : Value}
    {od_areD an_areD : Option Addr} {sl_areD : Array (Option Value)} {oc_areD kV_areD dc_areD pm_areD cd_areD ct_areD : Value}
    {od_areR an_areR : Option Addr} {sl_areR : Array (Option Value)} {oc_areR kV_areR dc_areR pm_areR cd_areR ct_areR : Value}
    {od_facts an_facts : Option Addr} {sl_facts : Array (Option Value)} {oc_facts kV_facts dc_facts pm_facts cd_facts ct_facts : Value}
    {od_bits an_bits : Option Addr} {sl_bits : Array (Option Value)} {oc_bits kV_bits dc_bits pm_bits cd_bits ct_bits : Value}
    {od_lanes an_lanes : Option Addr} {sl_lanes : Array (Option Value)} {oc_lanes kV_lanes dc_lanes pm_lanes cd_lanes ct_lanes : Value}
    {od_shin an_shin : Option Addr} {sl_shin : Array (Option Value)} {oc_shin kV_shin dc_shin pm_shin cd_shin ct_shin : Value}
    {od_beh an_beh : Option Addr} {sl_beh : Array (Option Value)} {oc_beh kV_beh dc_beh pm_beh cd_beh ct_beh : Value}
    {od_long an_long : Option Addr} {sl_long : Array (Option Value)} {oc_long kV_long dc_long pm_long cd_long ct_long : Value}
    {od_holds an_holds : Option Addr} {sl_holds : Array (Option Value)} {oc_holds kV_holds dc_holds pm_holds cd_holds ct_holds : Value}
    {od_done an_done : Option Addr} {sl_done : Array (Option Value)} {oc_done kV_done dc_done pm_done cd_done ct_done : Value}
    {od_dbreak an_dbreak : Option Addr} {sl_dbreak : Array (Option Value)} {oc_dbreak kV_dbreak dc_dbreak pm_dbreak cd_dbreak ct_dbreak : Value}
    {od_djoin an_djoin : Option Addr} {sl_djoin : Array (Option Value)} {oc_djoin kV_djoin dc_djoin pm_djoin cd_djoin ct_djoin : Value}
    {od_dmark an_dmark : Option Addr} {sl_dmark : Array (Option Value)} {oc_dmark kV_dmark dc_dmark pm_dmark cd_dmark ct_dmark : Value}
    {od_dunmark an_dunmark : Option Addr} {sl_dunmark : Array (Option Value)} {oc_dunmark kV_dunmark dc_dunmark pm_dunmark cd_dunmark ct_dunmark : Value}
    {od_dlift an_dlift : Option Addr} {sl_dlift : Array (Option Value)} {oc_dlift kV_dlift dc_dlift pm_dlift cd_dlift ct_dlift : Value}
    {od_dlower an_dlower : Option Addr} {sl_dlower : Array (Option Value)} {oc_dlower kV_dlower dc_dlower pm_dlower cd_dlower ct_dlower : Value}
    {od_dspace an_dspace : Option Addr} {sl_dspace : Array (Option Value)} {oc_dspace kV_dspace dc_dspace pm_dspace cd_dspace ct_dspace : Value}
    {od_dclose an_dclose : Option Addr} {sl_dclose : Array (Option Value)} {oc_dclose kV_dclose dc_dclose pm_dclose cd_dclose ct_dclose : Value}
    {od_row an_row : Option Addr} {sl_row : Array (Option Value)} {oc_row kV_row dc_row pm_row cd_row ct_row : Value}
    {od_rows an_rows : Option Addr} {sl_rows : Array (Option Value)} {oc_rows kV_rows dc_rows pm_rows cd_rows ct_rows : Value}
    {od_ff an_ff : Option Addr} {sl_ff : Array (Option Value)} {oc_ff kV_ff dc_ff pm_ff cd_ff ct_ff : Value}
    {od_lay an_lay : Option Addr} {sl_lay : Array (Option Value)} {oc_lay kV_lay dc_lay pm_lay cd_lay ct_lay : Value}
    {od_box an_box : Option Addr} {sl_box : Array (Option Value)} {oc_box kV_box dc_box pm_box cd_box ct_box : Value}
    {od_take an_take : Option Addr} {sl_take : Array (Option Value)} {oc_take kV_take dc_take pm_take cd_take ct_take : Value}
    {od_pick an_pick : Option Addr} {sl_pick : Array (Option Value)} {oc_pick kV_pick dc_pick pm_pick cd_pick ct_pick : Value}
    {od_ltest an_ltest : Option Addr} {sl_ltest : Array (Option Value)} {oc_ltest kV_ltest dc_ltest pm_ltest cd_ltest ct_ltest : Value}
    {od_lrow an_lrow : Option Addr} {sl_lrow : Array (Option Value)} {oc_lrow kV_lrow dc_lrow pm_lrow cd_lrow ct_lrow : Value}
    {od_ltool an_ltool : Option Addr} {sl_ltool : Array (Option Value)} {oc_ltool kV_ltool dc_ltool pm_ltool cd_ltool ct_ltool : Value}
    {od_lof an_lof : Option Addr} {sl_lof : Array (Option Value)} {oc_lof kV_lof dc_lof pm_lof cd_lof ct_lof : Value}
    {od_lforms an_lforms : Option Addr} {sl_lforms : Array (Option Value)} {oc_lforms kV_lforms dc_lforms pm_lforms cd_lforms ct_lforms : Value}
    {od_isl an_isl : Option Addr} {sl_isl : Array (Option Value)} {oc_isl kV_isl dc_isl pm_isl cd_isl ct_isl : Value}
    {od_ask an_ask : Option Addr} {sl_ask : Array (Option Value)} {oc_ask kV_ask dc_ask pm_ask cd_ask ct_ask : Value}
    {od_laid an_laid : Option Addr} {sl_laid : Array (Option Value)} {oc_laid kV_laid dc_laid pm_laid cd_laid ct_laid : Value}
    {od_law an_law : Option Addr} {sl_law : Array (Option Value)} {oc_law kV_law dc_law pm_law cd_law ct_law : Value}
    (hn : PySem.W.specialIn K (.builtin "object.__class__") "__get__" = some (some (.builtin "getset_descriptor.__get__")))
    (ht : PySem.W.takesIn K (.builtin "object.__class__") = some true)
    (aC : PySem.W.nsIn K mainGlobals "Row" = some (some (.ref C)))
    (clC : Cls K C)
    (caC : PySem.W.findIn K (.ref C) "__class__" = some (some (.builtin "object.__class__")))
    (moC : PySem.W.mroIn K C (.type "object") = some true)
    (noC_tests : PySem.W.findIn K (.ref C) "tests" = some none)
    (noC_deeds : PySem.W.findIn K (.ref C) "deeds" = some none)
    (mkC : Mk K C fR)
    (FC : FunD K "__init__" "Row.__init__" (defArgs sRowI) (defBody sRowI) (defScope sRowI) [.ref eP, .ref eQ] [] fR fdR)
    (aCT : PySem.W.nsIn K mainGlobals "Tool" = some (some (.ref CT)))
    (clCT : Cls K CT)
    (caCT : PySem.W.findIn K (.ref CT) "__class__" = some (some (.builtin "object.__class__")))
    (moCT : PySem.W.mroIn K CT (.type "object") = some true)
    (noCT_rows : PySem.W.findIn K (.ref CT) "rows" = some none)
    (noCT_sorts : PySem.W.findIn K (.ref CT) "sorts" = some none)
    (mkCT : Mk K CT fT)
    (FCT : FunD K "__init__" "Tool.__init__" (defArgs sToolI) (defBody sToolI) (defScope sToolI) [.ref eR, .bl false] [] fT fdT)
    (a_tT : PySem.W.nsIn K mainGlobals "TESTS" = some (some (.ref tT)))
    (h_tT : ∀ H : Hp, SqT K H tT (testL.map V.str))
    (a_tD : PySem.W.nsIn K mainGlobals "DEEDS" = some (some (.ref tD)))
    (h_tD : ∀ H : Hp, SqT K H tD (deedL.map V.str))
    (aFO : PySem.W.nsIn K mainGlobals "FORMS" = some (some (.ref FO)))
    (lenFO : lenT K FO 432 = true)
    (aDO : PySem.W.nsIn K mainGlobals "DOING" = some (some (.ref DO)))
    (l_DO : K.lookup DO = some ⟨.type "dict", none, .dict esDO nDO, #[]⟩)
    (kl_DO : PySem.W.KeysLit w.params esDO.toList)
    (n_break : PySem.W.nsIn K DO "break" = some (some (.ref g_dbreak)))
    (n_join : PySem.W.nsIn K DO "join" = some (some (.ref g_djoin)))
    (n_mark : PySem.W.nsIn K DO "mark" = some (some (.ref g_dmark)))
    (n_unmark : PySem.W.nsIn K DO "unmark" = some (some (.ref g_dunmark)))
    (n_lift : PySem.W.nsIn K DO "lift" = some (some (.ref g_dlift)))
    (n_lower : PySem.W.nsIn K DO "lower" = some (some (.ref g_dlower)))
    (n_space : PySem.W.nsIn K DO "space" = some (some (.ref g_dspace)))
    (n_close : PySem.W.nsIn K DO "close" = some (some (.ref g_dclose)))
    (a_seq : PySem.W.nsIn K mainGlobals "is_sequence" = some (some (.ref g_seq)))
    (l_seq : K.lookup g_seq = some ⟨oc_seq, od_seq, .func (PySem.W.fnOf "is_sequence" "is_sequence" (defArgs sSeq) (defBody sSeq) (defScope sSeq) .none kV_seq dc_seq pm_seq an_seq cd_seq ct_seq), sl_seq⟩)
    (c_seq : PySem.W.codeIn K cd_seq "is_sequence" = true)
    (k_seq : PySem.W.keepIn K (.ref g_seq) = true)
    (a_test : PySem.W.nsIn K mainGlobals "is_test" = some (some (.ref g_test)))
    (l_test : K.lookup g_test = some ⟨oc_test, od_test, .func (PySem.W.fnOf "is_test" "is_test" (defArgs sTest) (defBody sTest) (defScope sTest) .none kV_test dc_test pm_test an_test cd_test ct_test), sl_test⟩)
    (c_test : PySem.W.codeIn K cd_test "is_test" = true)
    (k_test : PySem.W.keepIn K (.ref g_test) = true)
    (a_deed : PySem.W.nsIn K mainGlobals "is_deed" = some (some (.ref g_deed)))
    (l_deed : K.lookup g_deed = some ⟨oc_deed, od_deed, .func (PySem.W.fnOf "is_deed" "is_deed" (defArgs sDeed) (defBody sDeed) (defScope sDeed) .none kV_deed dc_deed pm_deed an_deed cd_deed ct_deed), sl_deed⟩)
    (c_deed : PySem.W.codeIn K cd_deed "is_deed" = true)
    (k_deed : PySem.W.keepIn K (.ref g_deed) = true)
    (a_areT : PySem.W.nsIn K mainGlobals "are_tests" = some (some (.ref g_areT)))
    (l_areT : K.lookup g_areT = some ⟨oc_areT, od_areT, .func (PySem.W.fnOf "are_tests" "are_tests" (defArgs sAreT) (defBody sAreT) (defScope sAreT) .none kV_areT dc_areT pm_areT an_areT cd_areT ct_areT), sl_areT⟩)
    (c_areT : PySem.W.codeIn K cd_areT "are_tests" = true)
    (k_areT : PySem.W.keepIn K (.ref g_areT) = true)
    (a_areD : PySem.W.nsIn K mainGlobals "are_deeds" = some (some (.ref g_areD)))
    (l_areD : K.lookup g_areD = some ⟨oc_areD, od_areD, .func (PySem.W.fnOf "are_deeds" "are_deeds" (defArgs sAreD) (defBody sAreD) (defScope sAreD) .none kV_areD dc_areD pm_areD an_areD cd_areD ct_areD), sl_areD⟩)
    (c_areD : PySem.W.codeIn K cd_areD "are_deeds" = true)
    (k_areD : PySem.W.keepIn K (.ref g_areD) = true)
    (a_areR : PySem.W.nsIn K mainGlobals "are_rows" = some (some (.ref g_areR)))
    (l_areR : K.lookup g_areR = some ⟨oc_areR, od_areR, .func (PySem.W.fnOf "are_rows" "are_rows" (defArgs sAreR) (defBody sAreR) (defScope sAreR) .none kV_areR dc_areR pm_areR an_areR cd_areR ct_areR), sl_areR⟩)
    (c_areR : PySem.W.codeIn K cd_areR "are_rows" = true)
    (k_areR : PySem.W.keepIn K (.ref g_areR) = true)
    (a_facts : PySem.W.nsIn K mainGlobals "facts_of" = some (some (.ref g_facts)))
    (l_facts : K.lookup g_facts = some ⟨oc_facts, od_facts, .func (PySem.W.fnOf "facts_of" "facts_of" (defArgs sFacts) (defBody sFacts) (defScope sFacts) .none kV_facts dc_facts pm_facts an_facts cd_facts ct_facts), sl_facts⟩)
    (c_facts : PySem.W.codeIn K cd_facts "facts_of" = true)
    (k_facts : PySem.W.keepIn K (.ref g_facts) = true)
    (a_bits : PySem.W.nsIn K mainGlobals "bits_of" = some (some (.ref g_bits)))
    (l_bits : K.lookup g_bits = some ⟨oc_bits, od_bits, .func (PySem.W.fnOf "bits_of" "bits_of" (defArgs sBits) (defBody sBits) (defScope sBits) .none kV_bits dc_bits pm_bits an_bits cd_bits ct_bits), sl_bits⟩)
    (c_bits : PySem.W.codeIn K cd_bits "bits_of" = true)
    (k_bits : PySem.W.keepIn K (.ref g_bits) = true)
    (a_lanes : PySem.W.nsIn K mainGlobals "lanes_of" = some (some (.ref g_lanes)))
    (l_lanes : K.lookup g_lanes = some ⟨oc_lanes, od_lanes, .func (PySem.W.fnOf "lanes_of" "lanes_of" (defArgs sLanes) (defBody sLanes) (defScope sLanes) .none kV_lanes dc_lanes pm_lanes an_lanes cd_lanes ct_lanes), sl_lanes⟩)
    (c_lanes : PySem.W.codeIn K cd_lanes "lanes_of" = true)
    (k_lanes : PySem.W.keepIn K (.ref g_lanes) = true)
    (a_shin : PySem.W.nsIn K mainGlobals "shape_in" = some (some (.ref g_shin)))
    (l_shin : K.lookup g_shin = some ⟨oc_shin, od_shin, .func (PySem.W.fnOf "shape_in" "shape_in" (defArgs sShapeIn) (defBody sShapeIn) (defScope sShapeIn) .none kV_shin dc_shin pm_shin an_shin cd_shin ct_shin), sl_shin⟩)
    (c_shin : PySem.W.codeIn K cd_shin "shape_in" = true)
    (k_shin : PySem.W.keepIn K (.ref g_shin) = true)
    (a_beh : PySem.W.nsIn K mainGlobals "put_behind" = some (some (.ref g_beh)))
    (l_beh : K.lookup g_beh = some ⟨oc_beh, od_beh, .func (PySem.W.fnOf "put_behind" "put_behind" (defArgs sBeh) (defBody sBeh) (defScope sBeh) .none kV_beh dc_beh pm_beh an_beh cd_beh ct_beh), sl_beh⟩)
    (c_beh : PySem.W.codeIn K cd_beh "put_behind" = true)
    (k_beh : PySem.W.keepIn K (.ref g_beh) = true)
    (a_long : PySem.W.nsIn K mainGlobals "where_long" = some (some (.ref g_long)))
    (l_long : K.lookup g_long = some ⟨oc_long, od_long, .func (PySem.W.fnOf "where_long" "where_long" (defArgs sLong) (defBody sLong) (defScope sLong) .none kV_long dc_long pm_long an_long cd_long ct_long), sl_long⟩)
    (c_long : PySem.W.codeIn K cd_long "where_long" = true)
    (k_long : PySem.W.keepIn K (.ref g_long) = true)
    (a_holds : PySem.W.nsIn K mainGlobals "where_holds" = some (some (.ref g_holds)))
    (l_holds : K.lookup g_holds = some ⟨oc_holds, od_holds, .func (PySem.W.fnOf "where_holds" "where_holds" (defArgs sHolds) (defBody sHolds) (defScope sHolds) .none kV_holds dc_holds pm_holds an_holds cd_holds ct_holds), sl_holds⟩)
    (c_holds : PySem.W.codeIn K cd_holds "where_holds" = true)
    (k_holds : PySem.W.keepIn K (.ref g_holds) = true)
    (a_done : PySem.W.nsIn K mainGlobals "where_done" = some (some (.ref g_done)))
    (l_done : K.lookup g_done = some ⟨oc_done, od_done, .func (PySem.W.fnOf "where_done" "where_done" (defArgs sDone) (defBody sDone) (defScope sDone) .none kV_done dc_done pm_done an_done cd_done ct_done), sl_done⟩)
    (c_done : PySem.W.codeIn K cd_done "where_done" = true)
    (k_done : PySem.W.keepIn K (.ref g_done) = true)
    (a_dbreak : PySem.W.nsIn K mainGlobals "do_break" = some (some (.ref g_dbreak)))
    (l_dbreak : K.lookup g_dbreak = some ⟨oc_dbreak, od_dbreak, .func (PySem.W.fnOf "do_break" "do_break" (defArgs sBreak) (defBody sBreak) (defScope sBreak) .none kV_dbreak dc_dbreak pm_dbreak an_dbreak cd_dbreak ct_dbreak), sl_dbreak⟩)
    (c_dbreak : PySem.W.codeIn K cd_dbreak "do_break" = true)
    (k_dbreak : PySem.W.keepIn K (.ref g_dbreak) = true)
    (a_djoin : PySem.W.nsIn K mainGlobals "do_join" = some (some (.ref g_djoin)))
    (l_djoin : K.lookup g_djoin = some ⟨oc_djoin, od_djoin, .func (PySem.W.fnOf "do_join" "do_join" (defArgs sJoin) (defBody sJoin) (defScope sJoin) .none kV_djoin dc_djoin pm_djoin an_djoin cd_djoin ct_djoin), sl_djoin⟩)
    (c_djoin : PySem.W.codeIn K cd_djoin "do_join" = true)
    (k_djoin : PySem.W.keepIn K (.ref g_djoin) = true)
    (a_dmark : PySem.W.nsIn K mainGlobals "do_mark" = some (some (.ref g_dmark)))
    (l_dmark : K.lookup g_dmark = some ⟨oc_dmark, od_dmark, .func (PySem.W.fnOf "do_mark" "do_mark" (defArgs sMark) (defBody sMark) (defScope sMark) .none kV_dmark dc_dmark pm_dmark an_dmark cd_dmark ct_dmark), sl_dmark⟩)
    (c_dmark : PySem.W.codeIn K cd_dmark "do_mark" = true)
    (k_dmark : PySem.W.keepIn K (.ref g_dmark) = true)
    (a_dunmark : PySem.W.nsIn K mainGlobals "do_unmark" = some (some (.ref g_dunmark)))
    (l_dunmark : K.lookup g_dunmark = some ⟨oc_dunmark, od_dunmark, .func (PySem.W.fnOf "do_unmark" "do_unmark" (defArgs sUnmark) (defBody sUnmark) (defScope sUnmark) .none kV_dunmark dc_dunmark pm_dunmark an_dunmark cd_dunmark ct_dunmark), sl_dunmark⟩)
    (c_dunmark : PySem.W.codeIn K cd_dunmark "do_unmark" = true)
    (k_dunmark : PySem.W.keepIn K (.ref g_dunmark) = true)
    (a_dlift : PySem.W.nsIn K mainGlobals "do_lift" = some (some (.ref g_dlift)))
    (l_dlift : K.lookup g_dlift = some ⟨oc_dlift, od_dlift, .func (PySem.W.fnOf "do_lift" "do_lift" (defArgs sLift) (defBody sLift) (defScope sLift) .none kV_dlift dc_dlift pm_dlift an_dlift cd_dlift ct_dlift), sl_dlift⟩)
    (c_dlift : PySem.W.codeIn K cd_dlift "do_lift" = true)
    (k_dlift : PySem.W.keepIn K (.ref g_dlift) = true)
    (a_dlower : PySem.W.nsIn K mainGlobals "do_lower" = some (some (.ref g_dlower)))
    (l_dlower : K.lookup g_dlower = some ⟨oc_dlower, od_dlower, .func (PySem.W.fnOf "do_lower" "do_lower" (defArgs sLower) (defBody sLower) (defScope sLower) .none kV_dlower dc_dlower pm_dlower an_dlower cd_dlower ct_dlower), sl_dlower⟩)
    (c_dlower : PySem.W.codeIn K cd_dlower "do_lower" = true)
    (k_dlower : PySem.W.keepIn K (.ref g_dlower) = true)
    (a_dspace : PySem.W.nsIn K mainGlobals "do_space" = some (some (.ref g_dspace)))
    (l_dspace : K.lookup g_dspace = some ⟨oc_dspace, od_dspace, .func (PySem.W.fnOf "do_space" "do_space" (defArgs sSpace) (defBody sSpace) (defScope sSpace) .none kV_dspace dc_dspace pm_dspace an_dspace cd_dspace ct_dspace), sl_dspace⟩)
    (c_dspace : PySem.W.codeIn K cd_dspace "do_space" = true)
    (k_dspace : PySem.W.keepIn K (.ref g_dspace) = true)
    (a_dclose : PySem.W.nsIn K mainGlobals "do_close" = some (some (.ref g_dclose)))
    (l_dclose : K.lookup g_dclose = some ⟨oc_dclose, od_dclose, .func (PySem.W.fnOf "do_close" "do_close" (defArgs sClose) (defBody sClose) (defScope sClose) .none kV_dclose dc_dclose pm_dclose an_dclose cd_dclose ct_dclose), sl_dclose⟩)
    (c_dclose : PySem.W.codeIn K cd_dclose "do_close" = true)
    (k_dclose : PySem.W.keepIn K (.ref g_dclose) = true)
    (a_row : PySem.W.nsIn K mainGlobals "do_row" = some (some (.ref g_row)))
    (l_row : K.lookup g_row = some ⟨oc_row, od_row, .func (PySem.W.fnOf "do_row" "do_row" (defArgs sRow) (defBody sRow) (defScope sRow) .none kV_row dc_row pm_row an_row cd_row ct_row), sl_row⟩)
    (c_row : PySem.W.codeIn K cd_row "do_row" = true)
    (k_row : PySem.W.keepIn K (.ref g_row) = true)
    (a_rows : PySem.W.nsIn K mainGlobals "rows_done" = some (some (.ref g_rows)))
    (l_rows : K.lookup g_rows = some ⟨oc_rows, od_rows, .func (PySem.W.fnOf "rows_done" "rows_done" (defArgs sRows) (defBody sRows) (defScope sRows) .none kV_rows dc_rows pm_rows an_rows cd_rows ct_rows), sl_rows⟩)
    (c_rows : PySem.W.codeIn K cd_rows "rows_done" = true)
    (k_rows : PySem.W.keepIn K (.ref g_rows) = true)
    (a_ff : PySem.W.nsIn K mainGlobals "facts_of_form" = some (some (.ref g_ff)))
    (l_ff : K.lookup g_ff = some ⟨oc_ff, od_ff, .func (PySem.W.fnOf "facts_of_form" "facts_of_form" (defArgs sFF) (defBody sFF) (defScope sFF) .none kV_ff dc_ff pm_ff an_ff cd_ff ct_ff), sl_ff⟩)
    (c_ff : PySem.W.codeIn K cd_ff "facts_of_form" = true)
    (k_ff : PySem.W.keepIn K (.ref g_ff) = true)
    (a_lay : PySem.W.nsIn K mainGlobals "lay" = some (some (.ref g_lay)))
    (l_lay : K.lookup g_lay = some ⟨oc_lay, od_lay, .func (PySem.W.fnOf "lay" "lay" (defArgs sLay) (defBody sLay) (defScope sLay) .none kV_lay dc_lay pm_lay an_lay cd_lay ct_lay), sl_lay⟩)
    (c_lay : PySem.W.codeIn K cd_lay "lay" = true)
    (k_lay : PySem.W.keepIn K (.ref g_lay) = true)
    (a_box : PySem.W.nsIn K mainGlobals "_law_box" = some (some (.ref g_box)))
    (l_box : K.lookup g_box = some ⟨oc_box, od_box, .func (PySem.W.fnOf "_law_box" "_law_box" (defArgs sBox) (defBody sBox) (defScope sBox) .none kV_box dc_box pm_box an_box cd_box ct_box), sl_box⟩)
    (c_box : PySem.W.codeIn K cd_box "_law_box" = true)
    (k_box : PySem.W.keepIn K (.ref g_box) = true)
    (a_take : PySem.W.nsIn K mainGlobals "_law_take" = some (some (.ref g_take)))
    (l_take : K.lookup g_take = some ⟨oc_take, od_take, .func (PySem.W.fnOf "_law_take" "_law_take" (defArgs sTake) (defBody sTake) (defScope sTake) .none kV_take dc_take pm_take an_take cd_take ct_take), sl_take⟩)
    (c_take : PySem.W.codeIn K cd_take "_law_take" = true)
    (k_take : PySem.W.keepIn K (.ref g_take) = true)
    (a_pick : PySem.W.nsIn K mainGlobals "_law_pick" = some (some (.ref g_pick)))
    (l_pick : K.lookup g_pick = some ⟨oc_pick, od_pick, .func (PySem.W.fnOf "_law_pick" "_law_pick" (defArgs sPick) (defBody sPick) (defScope sPick) .none kV_pick dc_pick pm_pick an_pick cd_pick ct_pick), sl_pick⟩)
    (c_pick : PySem.W.codeIn K cd_pick "_law_pick" = true)
    (k_pick : PySem.W.keepIn K (.ref g_pick) = true)
    (a_ltest : PySem.W.nsIn K mainGlobals "_law_test" = some (some (.ref g_ltest)))
    (l_ltest : K.lookup g_ltest = some ⟨oc_ltest, od_ltest, .func (PySem.W.fnOf "_law_test" "_law_test" (defArgs sLTest) (defBody sLTest) (defScope sLTest) .none kV_ltest dc_ltest pm_ltest an_ltest cd_ltest ct_ltest), sl_ltest⟩)
    (c_ltest : PySem.W.codeIn K cd_ltest "_law_test" = true)
    (k_ltest : PySem.W.keepIn K (.ref g_ltest) = true)
    (a_lrow : PySem.W.nsIn K mainGlobals "_law_row" = some (some (.ref g_lrow)))
    (l_lrow : K.lookup g_lrow = some ⟨oc_lrow, od_lrow, .func (PySem.W.fnOf "_law_row" "_law_row" (defArgs sLRow) (defBody sLRow) (defScope sLRow) .none kV_lrow dc_lrow pm_lrow an_lrow cd_lrow ct_lrow), sl_lrow⟩)
    (c_lrow : PySem.W.codeIn K cd_lrow "_law_row" = true)
    (k_lrow : PySem.W.keepIn K (.ref g_lrow) = true)
    (a_ltool : PySem.W.nsIn K mainGlobals "_law_tool" = some (some (.ref g_ltool)))
    (l_ltool : K.lookup g_ltool = some ⟨oc_ltool, od_ltool, .func (PySem.W.fnOf "_law_tool" "_law_tool" (defArgs sLTool) (defBody sLTool) (defScope sLTool) .none kV_ltool dc_ltool pm_ltool an_ltool cd_ltool ct_ltool), sl_ltool⟩)
    (c_ltool : PySem.W.codeIn K cd_ltool "_law_tool" = true)
    (k_ltool : PySem.W.keepIn K (.ref g_ltool) = true)
    (a_lof : PySem.W.nsIn K mainGlobals "_law_tool_of" = some (some (.ref g_lof)))
    (l_lof : K.lookup g_lof = some ⟨oc_lof, od_lof, .func (PySem.W.fnOf "_law_tool_of" "_law_tool_of" (defArgs sToolOf) (defBody sToolOf) (defScope sToolOf) .none kV_lof dc_lof pm_lof an_lof cd_lof ct_lof), sl_lof⟩)
    (c_lof : PySem.W.codeIn K cd_lof "_law_tool_of" = true)
    (k_lof : PySem.W.keepIn K (.ref g_lof) = true)
    (a_lforms : PySem.W.nsIn K mainGlobals "_law_forms" = some (some (.ref g_lforms)))
    (l_lforms : K.lookup g_lforms = some ⟨oc_lforms, od_lforms, .func (PySem.W.fnOf "_law_forms" "_law_forms" (defArgs sLFs) (defBody sLFs) (defScope sLFs) .none kV_lforms dc_lforms pm_lforms an_lforms cd_lforms ct_lforms), sl_lforms⟩)
    (c_lforms : PySem.W.codeIn K cd_lforms "_law_forms" = true)
    (k_lforms : PySem.W.keepIn K (.ref g_lforms) = true)
    (a_isl : PySem.W.nsIn K mainGlobals "_law_is_long_form" = some (some (.ref g_isl)))
    (l_isl : K.lookup g_isl = some ⟨oc_isl, od_isl, .func (PySem.W.fnOf "_law_is_long_form" "_law_is_long_form" (defArgs sIsLong) (defBody sIsLong) (defScope sIsLong) .none kV_isl dc_isl pm_isl an_isl cd_isl ct_isl), sl_isl⟩)
    (c_isl : PySem.W.codeIn K cd_isl "_law_is_long_form" = true)
    (k_isl : PySem.W.keepIn K (.ref g_isl) = true)
    (a_ask : PySem.W.nsIn K mainGlobals "_law_asks" = some (some (.ref g_ask)))
    (l_ask : K.lookup g_ask = some ⟨oc_ask, od_ask, .func (PySem.W.fnOf "_law_asks" "_law_asks" (defArgs sAsk) (defBody sAsk) (defScope sAsk) .none kV_ask dc_ask pm_ask an_ask cd_ask ct_ask), sl_ask⟩)
    (c_ask : PySem.W.codeIn K cd_ask "_law_asks" = true)
    (k_ask : PySem.W.keepIn K (.ref g_ask) = true)
    (a_laid : PySem.W.nsIn K mainGlobals "_law_laid" = some (some (.ref g_laid)))
    (l_laid : K.lookup g_laid = some ⟨oc_laid, od_laid, .func (PySem.W.fnOf "_law_laid" "_law_laid" (defArgs sLaid) (defBody sLaid) (defScope sLaid) .none kV_laid dc_laid pm_laid an_laid cd_laid ct_laid), sl_laid⟩)
    (c_laid : PySem.W.codeIn K cd_laid "_law_laid" = true)
    (k_laid : PySem.W.keepIn K (.ref g_laid) = true)
    (a_law : PySem.W.nsIn K mainGlobals "law" = some (some (.ref g_law)))
    (l_law : K.lookup g_law = some ⟨oc_law, od_law, .func (PySem.W.fnOf "law" "law" (defArgs sLaw) (defBody sLaw) (defScope sLaw) .none kV_law dc_law pm_law an_law cd_law ct_law), sl_law⟩)
    (c_law : PySem.W.codeIn K cd_law "law" = true)
    (k_law : PySem.W.keepIn K (.ref g_law) = true)
    (z_int : PySem.W.nsIn K mainGlobals "int" = some none)
    (z_bool : PySem.W.nsIn K mainGlobals "bool" = some none)
    (z_str : PySem.W.nsIn K mainGlobals "str" = some none)
    (z_list : PySem.W.nsIn K mainGlobals "list" = some none)
    (z_tuple : PySem.W.nsIn K mainGlobals "tuple" = some none)
    (z_dict : PySem.W.nsIn K mainGlobals "dict" = some none)
    (z_isinstance : PySem.W.nsIn K mainGlobals "isinstance" = some none)
    (z_len : PySem.W.nsIn K mainGlobals "len" = some none)
    (z_all : PySem.W.nsIn K mainGlobals "all" = some none)
    (z_any : PySem.W.nsIn K mainGlobals "any" = some none)
    (z_abs : PySem.W.nsIn K mainGlobals "abs" = some none)
    (z_range : PySem.W.nsIn K mainGlobals "range" = some none)
    (z_enumerate : PySem.W.nsIn K mainGlobals "enumerate" = some none)
    (z_zip : PySem.W.nsIn K mainGlobals "zip" = some none)
    (z_max : PySem.W.nsIn K mainGlobals "max" = some none)
    (z_min : PySem.W.nsIn K mainGlobals "min" = some none)
    (z_repr : PySem.W.nsIn K mainGlobals "repr" = some none)
    (z_sorted : PySem.W.nsIn K mainGlobals "sorted" = some none)
    : ∃ fd : FuncData, (∀ (s : Shared) (v : Value), BindsTo s fd ⟨[v], []⟩ [("_law_script", v)]) ∧ ∀ base : Heap, K.In base → base.Ns mainGlobals mg → FnG l.prog w K mg base 7 fa fd ["_law_script"] (spLaw K) := by
  have e := hfa.symm.trans (PySem.W.mg_of X G a_law)
  cases e
  have M : ∀ {x : Str} {a : Addr}, PySem.W.nsIn K mainGlobals x = some (some (.ref a)) → mg x = some (.ref a) := fun h => PySem.W.mg_of X G h
  have N : ∀ {x : Str}, PySem.W.nsIn K mainGlobals x = some none → mg x = none := fun h => PySem.W.mg_none_of X G h
  have F_seq := fun_mk (st := sSeq) l_seq c_seq k_seq
  have b_seq := F_seq.binds (ps := ["value"]) fun _ _ _ _ _ _ us hl => match us, hl with | [_], _ => rfl
  have F_test := fun_mk (st := sTest) l_test c_test k_test
  have b_test := F_test.binds (ps := ["value"]) fun _ _ _ _ _ _ us hl => match us, hl with | [_], _ => rfl
  have F_deed := fun_mk (st := sDeed) l_deed c_deed k_deed
  have b_deed := F_deed.binds (ps := ["value"]) fun _ _ _ _ _ _ us hl => match us, hl with | [_], _ => rfl
  have F_areT := fun_mk (st := sAreT) l_areT c_areT k_areT
  have b_areT := F_areT.binds (ps := ["value"]) fun _ _ _ _ _ _ us hl => match us, hl with | [_], _ => rfl
  have F_areD := fun_mk (st := sAreD) l_areD c_areD k_areD
  have b_areD := F_areD.binds (ps := ["value"]) fun _ _ _ _ _ _ us hl => match us, hl with | [_], _ => rfl
  have F_areR := fun_mk (st := sAreR) l_areR c_areR k_areR
  have b_areR := F_areR.binds (ps := ["value"]) fun _ _ _ _ _ _ us hl => match us, hl with | [_], _ => rfl
  have F_facts := fun_mk (st := sFacts) l_facts c_facts k_facts
  have b_facts := F_facts.binds (ps := ["shape", "over", "overmarked", "overbehind", "overboth"]) fun _ _ _ _ _ _ us hl => match us, hl with | [_, _, _, _, _], _ => rfl
  have F_bits := fun_mk (st := sBits) l_bits c_bits k_bits
  have b_bits := F_bits.binds (ps := ["answers"]) fun _ _ _ _ _ _ us hl => match us, hl with | [_], _ => rfl
  have F_lanes := fun_mk (st := sLanes) l_lanes c_lanes k_lanes
  have b_lanes := F_lanes.binds (ps := ["many"]) fun _ _ _ _ _ _ us hl => match us, hl with | [_], _ => rfl
  have F_shin := fun_mk (st := sShapeIn) l_shin c_shin k_shin
  have b_shin := F_shin.binds (ps := ["lanes"]) fun _ _ _ _ _ _ us hl => match us, hl with | [_], _ => rfl
  have F_beh := fun_mk (st := sBeh) l_beh c_beh k_beh
  have b_beh := F_beh.binds (ps := ["before", "lanes"]) fun _ _ _ _ _ _ us hl => match us, hl with | [_, _], _ => rfl
  have F_long := fun_mk (st := sLong) l_long c_long k_long
  have b_long := F_long.binds (ps := ["lanes"]) fun _ _ _ _ _ _ us hl => match us, hl with | [_], _ => rfl
  have F_holds := fun_mk (st := sHolds) l_holds c_holds k_holds
  have b_holds := F_holds.binds (ps := ["lanes", "test"]) fun _ _ _ _ _ _ us hl => match us, hl with | [_, _], _ => rfl
  have F_done := fun_mk (st := sDone) l_done c_done k_done
  have b_done := F_done.binds (ps := ["lanes", "row"]) fun _ _ _ _ _ _ us hl => match us, hl with | [_, _], _ => rfl
  have F_dbreak := fun_mk (st := sBreak) l_dbreak c_dbreak k_dbreak
  have b_dbreak := F_dbreak.binds (ps := ["lanes", "where"]) fun _ _ _ _ _ _ us hl => match us, hl with | [_, _], _ => rfl
  have F_djoin := fun_mk (st := sJoin) l_djoin c_djoin k_djoin
  have b_djoin := F_djoin.binds (ps := ["lanes", "where"]) fun _ _ _ _ _ _ us hl => match us, hl with | [_, _], _ => rfl
  have F_dmark := fun_mk (st := sMark) l_dmark c_dmark k_dmark
  have b_dmark := F_dmark.binds (ps := ["lanes", "where"]) fun _ _ _ _ _ _ us hl => match us, hl with | [_, _], _ => rfl
  have F_dunmark := fun_mk (st := sUnmark) l_dunmark c_dunmark k_dunmark
  have b_dunmark := F_dunmark.binds (ps := ["lanes", "where"]) fun _ _ _ _ _ _ us hl => match us, hl with | [_, _], _ => rfl
  have F_dlift := fun_mk (st := sLift) l_dlift c_dlift k_dlift
  have b_dlift := F_dlift.binds (ps := ["lanes", "where"]) fun _ _ _ _ _ _ us hl => match us, hl with | [_, _], _ => rfl
  have F_dlower := fun_mk (st := sLower) l_dlower c_dlower k_dlower
  have b_dlower := F_dlower.binds (ps := ["lanes", "where"]) fun _ _ _ _ _ _ us hl => match us, hl with | [_, _], _ => rfl
  have F_dspace := fun_mk (st := sSpace) l_dspace c_dspace k_dspace
  have b_dspace := F_dspace.binds (ps := ["lanes", "where"]) fun _ _ _ _ _ _ us hl => match us, hl with | [_, _], _ => rfl
  have F_dclose := fun_mk (st := sClose) l_dclose c_dclose k_dclose
  have b_dclose := F_dclose.binds (ps := ["lanes", "where"]) fun _ _ _ _ _ _ us hl => match us, hl with | [_, _], _ => rfl
  have F_row := fun_mk (st := sRow) l_row c_row k_row
  have b_row := F_row.binds (ps := ["lanes", "row"]) fun _ _ _ _ _ _ us hl => match us, hl with | [_, _], _ => rfl
  have F_rows := fun_mk (st := sRows) l_rows c_rows k_rows
  have b_rows := F_rows.binds (ps := ["rows", "before", "lanes"]) fun _ _ _ _ _ _ us hl => match us, hl with | [_, _, _], _ => rfl
  have F_ff := fun_mk (st := sFF) l_ff c_ff k_ff
  have b_ff := F_ff.binds (ps := ["form"]) fun _ _ _ _ _ _ us hl => match us, hl with | [_], _ => rfl
  have F_lay := fun_mk (st := sLay) l_lay c_lay k_lay
  have b_lay := F_lay.binds (ps := ["tool", "before", "form"]) fun _ _ _ _ _ _ us hl => match us, hl with | [_, _, _], _ => rfl
  have F_box := fun_mk (st := sBox) l_box c_box k_box
  have b_box := F_box.binds (ps := ["_law_script", "_law_k", "_law_own"]) fun _ _ _ _ _ _ us hl => match us, hl with | [_, _, _], _ => rfl
  have F_take := fun_mk (st := sTake) l_take c_take k_take
  have b_take := F_take.binds (ps := ["_law_box_here", "_law_many"]) fun _ _ _ _ _ _ us hl => match us, hl with | [_, _], _ => rfl
  have F_pick := fun_mk (st := sPick) l_pick c_pick k_pick
  have b_pick := F_pick.binds (ps := ["_law_box_here", "_law_items"]) fun _ _ _ _ _ _ us hl => match us, hl with | [_, _], _ => rfl
  have F_ltest := fun_mk (st := sLTest) l_ltest c_ltest k_ltest
  have b_ltest := F_ltest.binds (ps := ["_law_box_here"]) fun _ _ _ _ _ _ us hl => match us, hl with | [_], _ => rfl
  have F_lrow := fun_mk (st := sLRow) l_lrow c_lrow k_lrow
  have b_lrow := F_lrow.binds (ps := ["_law_box_here"]) fun _ _ _ _ _ _ us hl => match us, hl with | [_], _ => rfl
  have F_ltool := fun_mk (st := sLTool) l_ltool c_ltool k_ltool
  have b_ltool := F_ltool.binds (ps := ["_law_box_here"]) fun _ _ _ _ _ _ us hl => match us, hl with | [_], _ => rfl
  have F_lof := fun_mk (st := sToolOf) l_lof c_lof k_lof
  have b_lof := F_lof.binds (ps := ["_law_tool_here"]) fun _ _ _ _ _ _ us hl => match us, hl with | [_], _ => rfl
  have F_lforms := fun_mk (st := sLFs) l_lforms c_lforms k_lforms
  have b_lforms := F_lforms.binds (ps := []) fun _ _ _ _ _ _ us hl => match us, hl with | [], _ => rfl
  have F_isl := fun_mk (st := sIsLong) l_isl c_isl k_isl
  have b_isl := F_isl.binds (ps := ["_law_form"]) fun _ _ _ _ _ _ us hl => match us, hl with | [_], _ => rfl
  have F_ask := fun_mk (st := sAsk) l_ask c_ask k_ask
  have b_ask := F_ask.binds (ps := ["_law_test_here", "_law_before", "_law_form"]) fun _ _ _ _ _ _ us hl => match us, hl with | [_, _, _], _ => rfl
  have F_laid := fun_mk (st := sLaid) l_laid c_laid k_laid
  have b_laid := F_laid.binds (ps := ["_law_rows", "_law_before", "_law_form"]) fun _ _ _ _ _ _ us hl => match us, hl with | [_, _, _], _ => rfl
  have F_law := fun_mk (st := sLaw) l_law c_law k_law
  have b_law := F_law.binds (ps := ["_law_script"]) fun _ _ _ _ _ _ us hl => match us, hl with | [_], _ => rfl
  have D : TxtD mg := ⟨N z_int, N z_len, N z_abs, N z_range⟩
  have T : TxtK mg := ⟨N z_str, N z_list, N z_tuple, N z_isinstance, N z_len, N z_all⟩
  have B : Bt mg := ⟨N z_int, N z_bool, N z_str, N z_list, N z_tuple, N z_dict, N z_isinstance, N z_len, N z_all, N z_any, N z_abs, N z_range, N z_enumerate, N z_zip, N z_max, N z_min, N z_repr, N z_sorted⟩
  have c : ClsI K C := ⟨clC, caC, hn, ht, moC⟩
  have ct : ClsI K CT := ⟨clCT, caCT, hn, ht, moCT⟩
  have mkR : Mk K C fR := mkC
  have FR := FC
  have FT := FCT
  have mkT : Mk K CT fT := mkCT
  have bR := binds_row FR
  have bT := binds_tool FT
  have hTests := h_tT
  have hDeeds := h_tD
  refine ⟨PySem.W.fnOf "law" "law" (defArgs sLaw) (defBody sLaw) (defScope sLaw) .none kV_law dc_law pm_law an_law cd_law ct_law, fun s v => .of_eq rfl, fun base _ _ => ?_⟩
  have okSeq : FnOk l.prog w K mg base CX0 1 g_seq _ ["value"] (spSeq K) := ok_seq F_seq T
  have okTest : FnOk l.prog w K mg base CX0 1 g_test _ ["value"] (spOne progT K) := ok_test F_test T (M a_tT) hTests
  have okDeed : FnOk l.prog w K mg base CX0 1 g_deed _ ["value"] (spOne progD K) := ok_deed F_deed T (M a_tD) hDeeds
  have okAT := ok_areT F_areT T okSeq (M a_seq) k_seq b_seq okTest (M a_test) k_test b_test
  have okAD := ok_areD F_areD T okSeq (M a_seq) k_seq b_seq okDeed (M a_deed) k_deed b_deed
  have RC : RowC K C := ⟨c.cl, noC_tests, noC_deeds⟩
  have okRG := ok_rowG FR T RC okAT (M a_areT) k_areT b_areT okAD (M a_areD) k_areD b_areD
  have okAR := ok_areR (C := C) F_areR T okSeq (M a_seq) k_seq b_seq (M aC)
  have TCc : ToolC K CT := ⟨ct.cl, noCT_rows, noCT_sorts⟩
  have okTG := ok_toolG FT T (N z_bool) TCc okAR (M a_areR) k_areR b_areR
  have okFc := ok_facts (P := l.prog) (w := w) (mg := mg) (base := base) F_facts
  have okBi := ok_bits (P := l.prog) (w := w) (base := base) F_bits B
  have okLn := ok_lanes (P := l.prog) (w := w) (base := base) F_lanes ⟨_, _, okBi, M a_bits, k_bits, b_bits⟩
  have okSh := ok_shapeIn (P := l.prog) (w := w) (base := base) F_shin B
  have okBe := ok_beh (P := l.prog) (w := w) (base := base) F_beh B
  have okLg := ok_long (P := l.prog) (w := w) (mg := mg) (base := base) F_long
  have okHo := ok_holds (P := l.prog) (w := w) (base := base) F_holds ⟨_, _, okLg, M a_long, k_long, b_long⟩
  have okDn := ok_done (P := l.prog) (w := w) (base := base) F_done RC ⟨_, _, okHo, M a_holds, k_holds, b_holds⟩
  have okdbreak := ok_break (P := l.prog) (w := w) (mg := mg) (base := base) F_dbreak
  have okdjoin := ok_join (P := l.prog) (w := w) (mg := mg) (base := base) F_djoin
  have okdmark := ok_mark (P := l.prog) (w := w) (mg := mg) (base := base) F_dmark
  have okdunmark := ok_unmark (P := l.prog) (w := w) (mg := mg) (base := base) F_dunmark
  have okdlift := ok_lift (P := l.prog) (w := w) (mg := mg) (base := base) F_dlift
  have okdlower := ok_lower (P := l.prog) (w := w) (mg := mg) (base := base) F_dlower
  have okdspace := ok_space (P := l.prog) (w := w) (mg := mg) (base := base) F_dspace
  have okdclose := ok_close (P := l.prog) (w := w) (mg := mg) (base := base) F_dclose
  have DF : DoF l.prog w K mg base DO (fun i => match i with | 0 => g_dbreak | 1 => g_djoin | 2 => g_dmark | 3 => g_dunmark | 4 => g_dlift | 5 => g_dlower | 6 => g_dspace | _ => g_dclose) :=
    ⟨fun i hi => match i, hi with
      | 0, _ => (okdbreak.raw b_dbreak .nil).imp (fun vs H Q E h => by rw [List.append_nil]; exact h)
      | 1, _ => (okdjoin.raw b_djoin .nil).imp (fun vs H Q E h => by rw [List.append_nil]; exact h)
      | 2, _ => (okdmark.raw b_dmark .nil).imp (fun vs H Q E h => by rw [List.append_nil]; exact h)
      | 3, _ => (okdunmark.raw b_dunmark .nil).imp (fun vs H Q E h => by rw [List.append_nil]; exact h)
      | 4, _ => (okdlift.raw b_dlift .nil).imp (fun vs H Q E h => by rw [List.append_nil]; exact h)
      | 5, _ => (okdlower.raw b_dlower .nil).imp (fun vs H Q E h => by rw [List.append_nil]; exact h)
      | 6, _ => (okdspace.raw b_dspace .nil).imp (fun vs H Q E h => by rw [List.append_nil]; exact h)
      | 7, _ => (okdclose.raw b_dclose .nil).imp (fun vs H Q E h => by rw [List.append_nil]; exact h),
     fun i hi => match i, hi with
      | 0, _ => k_dbreak
      | 1, _ => k_djoin
      | 2, _ => k_dmark
      | 3, _ => k_dunmark
      | 4, _ => k_dlift
      | 5, _ => k_dlower
      | 6, _ => k_dspace
      | 7, _ => k_dclose,
     fun i hi => match i, hi with
      | 0, _ => ⟨_, _, _, l_DO, kl_DO, n_break, rfl⟩
      | 1, _ => ⟨_, _, _, l_DO, kl_DO, n_join, rfl⟩
      | 2, _ => ⟨_, _, _, l_DO, kl_DO, n_mark, rfl⟩
      | 3, _ => ⟨_, _, _, l_DO, kl_DO, n_unmark, rfl⟩
      | 4, _ => ⟨_, _, _, l_DO, kl_DO, n_lift, rfl⟩
      | 5, _ => ⟨_, _, _, l_DO, kl_DO, n_lower, rfl⟩
      | 6, _ => ⟨_, _, _, l_DO, kl_DO, n_space, rfl⟩
      | 7, _ => ⟨_, _, _, l_DO, kl_DO, n_close, rfl⟩⟩
  have okRo := ok_row (P := l.prog) (w := w) (base := base) F_row RC DF (M aDO) ⟨_, _, okDn, M a_done, k_done, b_done⟩
  have okRs := ok_rows (P := l.prog) (w := w) (base := base) F_rows ⟨_, _, okBe, M a_beh, k_beh, b_beh⟩ ⟨_, _, okRo, M a_row, k_row, b_row⟩
  have okFF := ok_ff (P := l.prog) (w := w) (base := base) F_ff ⟨_, _, okFc, M a_facts, k_facts, b_facts⟩
  have okLy := ok_lay (P := l.prog) (w := w) (base := base) F_lay TCc ⟨_, _, okFF, M a_ff, k_ff, b_ff⟩ ⟨_, _, okLn, M a_lanes, k_lanes, b_lanes⟩ ⟨_, _, okRs, M a_rows, k_rows, b_rows⟩ ⟨_, _, okSh, M a_shin, k_shin, b_shin⟩
  have okTake : FnOk l.prog w K mg base CX0 1 g_take _ ["_law_box_here", "_law_many"] spTake := ok_take F_take D
  have okPick := ok_pick (P := l.prog) (w := w) (base := base) F_pick D F_take b_take (M a_take)
  have okX := ok_ltest (P := l.prog) (w := w) (base := base) F_ltest ⟨_, _, okPick, M a_pick, k_pick, b_pick⟩ ⟨_, _, okTake, M a_take, k_take, b_take⟩
  have okLR := ok_lrow (P := l.prog) (w := w) (base := base) F_lrow B ⟨_, _, okX, M a_ltest, k_ltest, b_ltest⟩ ⟨_, _, okPick, M a_pick, k_pick, b_pick⟩ ⟨_, _, okTake, M a_take, k_take, b_take⟩
  have okLT := ok_ltool (P := l.prog) (w := w) (base := base) F_ltool B ⟨_, _, okLR, M a_lrow, k_lrow, b_lrow⟩ ⟨_, _, okPick, M a_pick, k_pick, b_pick⟩ ⟨_, _, okTake, M a_take, k_take, b_take⟩
  have okOf := ok_toolOf (P := l.prog) (w := w) (base := base) F_lof c mkR okRG (M aC) bR mkT okTG (M aCT) bT
  have okFs := ok_lforms (P := l.prog) (w := w) (base := base) F_lforms B
  have okIs := ok_isLong (P := l.prog) (w := w) (base := base) F_isl B
  have okA0 := ok_ask0 (P := l.prog) (w := w) (base := base) F_ask B ⟨_, _, okIs, M a_isl, k_isl, b_isl⟩
  have okA1 := ok_ask1 (P := l.prog) (w := w) (base := base) F_ask ⟨_, _, okA0, M a_ask, k_ask, b_ask⟩
  have okLd := ok_laid (P := l.prog) (w := w) (base := base) F_laid B ⟨_, _, (ok_ask okA0 okA1), M a_ask, k_ask, b_ask⟩
  obtain ⟨dsT, vT1, bT1⟩ := binds_tool1 FT
  exact ok_Law B c TCc (M aFO) lenFO mkT okTG (M aCT) bT1 vT1 ⟨_, _, (ok_box F_box D), M a_box, k_box, b_box⟩ ⟨_, _, okTake, M a_take, k_take, b_take⟩ ⟨_, _, okPick, M a_pick, k_pick, b_pick⟩ ⟨_, _, okFs, M a_lforms, k_lforms, b_lforms⟩ ⟨_, _, okLR, M a_lrow, k_lrow, b_lrow⟩ ⟨_, _, okLT, M a_ltool, k_ltool, b_ltool⟩ ⟨_, _, okOf, M a_lof, k_lof, b_lof⟩ ⟨_, _, okLd, M a_laid, k_laid, b_laid⟩ ⟨_, _, okLy, M a_lay, k_lay, b_lay⟩ F_law
end Lay
set_option Elab.async false
set_option linter.all false
set_option maxRecDepth 100000
set_option maxHeartbeats 8000000
/-! What the end leans on, read off the heap behind the top. -/
namespace LayH
open PySem PySem.Spec PyProof.Rows L2 Lay
/-- the objects that are followed: a long table's items are not -/
def refsS (o : Obj) : List Addr := match o.data with
  | .seq its _ => (match Nat.ble its.size 40 with
    | true => He.refsO o
    | false => [])
  | _ => He.refsO o
def nextG (g : Addr → Option Obj) (as : List Addr) : List Addr := (as.flatMap fun a => match g a with
  | some o => refsS o
  | none => []).eraseDups
def goL (g : Addr → Option Obj) : Nat → List Addr → List Addr → List Addr
  | 0, fr, acc => acc ++ fr
  | n + 1, fr, acc => goL g n (nextG g fr) (acc ++ fr)
def asO (g : Addr → Option Obj) : List Addr := goL g 4 [mainGlobals] []
def dOf (n : Str) (st : Stmt) : He.FnD := ⟨(n, none), n, n, defArgs st, defBody st, defScope st⟩
theorem glo_ns {K : PySem.W.Frag} {x : Str} (c : (He.Fa.glo x).ok K = true) : PySem.W.nsIn K mainGlobals x = some (some (.ref (He.ga K x))) := He.eqO_ok c
theorem free_ns {K : PySem.W.Frag} {x : Str} (c : (He.Fa.free x).ok K = true) : PySem.W.nsIn K mainGlobals x = some none := He.eqO_ok c
def fns0 : List He.FnD := [dOf "is_sequence" sSeq, dOf "is_test" sTest, dOf "is_deed" sDeed, dOf "are_tests" sAreT, dOf "are_deeds" sAreD, dOf "are_rows" sAreR, dOf "facts_of" sFacts, dOf "bits_of" sBits, dOf "lanes_of" sLanes, dOf "shape_in" sShapeIn, dOf "put_behind" sBeh, dOf "where_long" sLong, dOf "where_holds" sHolds, dOf "where_done" sDone, dOf "do_break" sBreak, dOf "do_join" sJoin, dOf "do_mark" sMark, dOf "do_unmark" sUnmark, dOf "do_lift" sLift, dOf "do_lower" sLower, dOf "do_space" sSpace, dOf "do_close" sClose, dOf "do_row" sRow, dOf "rows_done" sRows, dOf "facts_of_form" sFF]
def fns1 : List He.FnD := [dOf "lay" sLay, dOf "_law_box" sBox, dOf "_law_take" sTake, dOf "_law_pick" sPick, dOf "_law_test" sLTest, dOf "_law_row" sLRow, dOf "_law_tool" sLTool, dOf "_law_tool_of" sToolOf, dOf "_law_forms" sLFs, dOf "_law_is_long_form" sIsLong, dOf "_law_asks" sAsk, dOf "_law_laid" sLaid, dOf "law" sLaw]
def fns : List He.FnD := fns0 ++ fns1
def fa0 : List He.Fa := [.glo "is_sequence", .keep "is_sequence", .glo "is_test", .keep "is_test", .glo "is_deed", .keep "is_deed", .glo "are_tests", .keep "are_tests", .glo "are_deeds", .keep "are_deeds", .glo "are_rows", .keep "are_rows", .glo "facts_of", .keep "facts_of", .glo "bits_of", .keep "bits_of", .glo "lanes_of", .keep "lanes_of", .glo "shape_in", .keep "shape_in", .glo "put_behind", .keep "put_behind", .glo "where_long", .keep "where_long", .glo "where_holds"]
def fa1 : List He.Fa := [.keep "where_holds", .glo "where_done", .keep "where_done", .glo "do_break", .keep "do_break", .glo "do_join", .keep "do_join", .glo "do_mark", .keep "do_mark", .glo "do_unmark", .keep "do_unmark", .glo "do_lift", .keep "do_lift", .glo "do_lower", .keep "do_lower", .glo "do_space", .keep "do_space", .glo "do_close", .keep "do_close", .glo "do_row", .keep "do_row", .glo "rows_done", .keep "rows_done", .glo "facts_of_form", .keep "facts_of_form"]
def fa2 : List He.Fa := [.glo "lay", .keep "lay", .glo "_law_box", .keep "_law_box", .glo "_law_take", .keep "_law_take", .glo "_law_pick", .keep "_law_pick", .glo "_law_test", .keep "_law_test", .glo "_law_row", .keep "_law_row", .glo "_law_tool", .keep "_law_tool", .glo "_law_tool_of", .keep "_law_tool_of", .glo "_law_forms", .keep "_law_forms", .glo "_law_is_long_form", .keep "_law_is_long_form", .glo "_law_asks", .keep "_law_asks", .glo "_law_laid", .keep "_law_laid", .glo "law"]
def fa3 : List He.Fa := [.keep "law", .glo "Row", .cls "Row", .noat "Row" "tests", .noat "Row" "deeds", .mkr "Row", .glo "Tool", .cls "Tool", .noat "Tool" "rows", .noat "Tool" "sorts", .mkr "Tool", .glo "TESTS", .glo "DEEDS", .glo "FORMS", .glo "DOING", .free "int", .free "bool", .free "str", .free "list", .free "tuple", .free "dict", .free "isinstance", .free "len", .free "all", .free "any"]
def fa4 : List He.Fa := [.free "abs", .free "range", .free "enumerate", .free "zip", .free "max", .free "min", .free "repr", .free "sorted"]
def fa : List He.Fa := fa0 ++ fa1 ++ fa2 ++ fa3 ++ fa4
def ini0 : List He.DefD := [⟨("Row", some "__init__"), "__init__", "Row.__init__", defArgs sRowI, defBody sRowI, defScope sRowI, [.adr (He.dflAt ("Row", some "__init__") 0), .adr (He.dflAt ("Row", some "__init__") 1)], []⟩, ⟨("Tool", some "__init__"), "__init__", "Tool.__init__", defArgs sToolI, defBody sToolI, defScope sToolI, [.adr (He.dflAt ("Tool", some "__init__") 0), .bl false], []⟩]
def ini : List He.DefD := ini0
def extras (K : PySem.W.Frag) : List Bool := [He.eqO (PySem.W.specialIn K (.builtin "object.__class__") "__get__") (some (some (.builtin "getset_descriptor.__get__"))),
  decide (PySem.W.takesIn K (.builtin "object.__class__") = some true),
  He.eqO (PySem.W.findIn K (.ref (He.ga K "Row")) "__class__") (some (some (.builtin "object.__class__"))),
  decide (PySem.W.mroIn K (He.ga K "Row") (.type "object") = some true),
  He.eqO (PySem.W.findIn K (.ref (He.ga K "Tool")) "__class__") (some (some (.builtin "object.__class__"))),
  decide (PySem.W.mroIn K (He.ga K "Tool") (.type "object") = some true),
  He.tupB K "TESTS" (testL.map He.Dv.str),
  He.tupB K "DEEDS" (deedL.map He.Dv.str),
  lenT K (He.ga K "FORMS") 432,
  He.eqO (PySem.W.nsIn K (He.ga K "DOING") "break") (some (some (.ref (He.ga K "do_break")))),
  He.eqO (PySem.W.nsIn K (He.ga K "DOING") "join") (some (some (.ref (He.ga K "do_join")))),
  He.eqO (PySem.W.nsIn K (He.ga K "DOING") "mark") (some (some (.ref (He.ga K "do_mark")))),
  He.eqO (PySem.W.nsIn K (He.ga K "DOING") "unmark") (some (some (.ref (He.ga K "do_unmark")))),
  He.eqO (PySem.W.nsIn K (He.ga K "DOING") "lift") (some (some (.ref (He.ga K "do_lift")))),
  He.eqO (PySem.W.nsIn K (He.ga K "DOING") "lower") (some (some (.ref (He.ga K "do_lower")))),
  He.eqO (PySem.W.nsIn K (He.ga K "DOING") "space") (some (some (.ref (He.ga K "do_space")))),
  He.eqO (PySem.W.nsIn K (He.ga K "DOING") "close") (some (some (.ref (He.ga K "do_close"))))]
def keys : List Str := ["break", "join", "mark", "unmark", "lift", "lower", "space", "close"]
abbrev AlO : Type := Bool × List He.FnV × List He.FnW × Option (List (Option (Str × Int)))
def okB (K : PySem.W.Frag) : Bool := (fa.all fun f => f.ok K) && ((fns.all fun d => (He.Fa.code d.at_ d.qual).ok K) && ((ini.all fun d => d.ok K) && (extras K).all fun b => b))
def obsO (K : PySem.W.Frag) : AlO := (okB K, fns.map (fun d => He.fnObs K d.at_), ini.map (fun d => He.fnW K d.at_), He.dicW K (He.ga K "DOING"))
def valO (w : World) : AlO := (true, fns.map He.FnD.val, ini.map He.DefD.val, some (He.keysIn w.params keys))
def hk : PySem.W.Hook where
  α := AlO
  obs := fun s => obsO (He.frG s.heap.get? (asO s.heap.get?))
  val := fun w => valO w
  says := fun w h => ∃ K : PySem.W.Frag, K.In h ∧ obsO K = valO w
  of := fun _ _ e => ⟨_, He.frG_in, e⟩
  keeps := fun _ _ _ ⟨K, hK, c⟩ k => ⟨K, PySem.W.Frag.In.keeps hK k, c⟩
def ob (s : PySem.W.SharedT) : AlO := obsO (He.frG (HandSHeadRun.getT s) (asO (HandSHeadRun.getT s)))
theorem ob_eq (s : PySem.W.SharedT) : ob s = hk.obs s.abs := by
  have e : HandSHeadRun.getT s = s.abs.heap.get? := funext (HandSHeadRun.getT_eq s)
  show obsO (He.frG (HandSHeadRun.getT s) (asO (HandSHeadRun.getT s))) = obsO (He.frG s.abs.heap.get? (asO s.abs.heap.get?))
  rw [e]
theorem join3 {α β γ δ : Type} {o : Option α} {f : α → β} {g : α → γ} {p : α → δ} {x : β} {y : γ} {z : δ} (h1 : o.map (fun s => (f s, g s, ())) = some (x, y, ())) (h2 : o.map p = some z) : o.map (fun s => (f s, g s, p s)) = some (x, y, z) := by
  cases o with
  | none => cases h1
  | some s =>
    have a := Option.some.inj h1
    have b : p s = z := Option.some.inj h2
    have a1 : f s = x := congrArg Prod.fst a
    have a2 : g s = y := congrArg (fun q => q.2.1) a
    show some (f s, g s, p s) = _
    rw [a1, a2, b]
theorem facts {l : PySem.W.OpenLaw} {w : World} {K : PySem.W.Frag} {h : Heap} {mg : Str → Option Value} {fa0 : Addr} (X : K.In h) (G : h.Ns mainGlobals mg) (hfa : mg "law" = some (.ref fa0)) (c : obsO K = valO w) :
    ∃ fd : FuncData, (∀ (s : Shared) (v : Value), BindsTo s fd ⟨[v], []⟩ [("_law_script", v)]) ∧ ∀ base : Heap, K.In base → base.Ns mainGlobals mg → FnG l.prog w K mg base 7 fa0 fd ["_law_script"] (spLaw K) := by
  have c0 : okB K = true := congrArg (fun z : AlO => z.1) c
  obtain ⟨cF, c0⟩ := He.ba c0
  obtain ⟨cC, c0⟩ := He.ba c0
  obtain ⟨cI, cX⟩ := He.ba c0
  have fact : ∀ (i : Nat) {f : He.Fa}, fa[i]? = some f → f.ok K = true := fun i f h => List.all_eq_true.mp cF f (List.mem_of_getElem? h)
  have exs : ∀ (i : Nat) {b : Bool}, (extras K)[i]? = some b → b = true := fun i b h => List.all_eq_true.mp cX b (List.mem_of_getElem? h)
  have e1 : fns.map (fun d => He.fnObs K d.at_) = fns.map He.FnD.val := congrArg (fun z : AlO => z.2.1) c
  have e2 : ini.map (fun d => He.fnW K d.at_) = ini.map He.DefD.val := congrArg (fun z : AlO => z.2.2.1) c
  have def_ : ∀ (i : Nat) {d : He.FnD}, fns[i]? = some d → ∃ oc od osl kV doc pm an cdv ct, K.lookup (He.fAd K d.at_) = some ⟨oc, od, .func (PySem.W.fnOf d.name d.qual d.params d.body d.scope .none kV doc pm an cdv ct), osl⟩ ∧ PySem.W.codeIn K cdv d.qual = true := fun i d h => by
    have e3 : (fns.map fun d => He.fnObs K d.at_)[i]? = (fns.map He.FnD.val)[i]? := by rw [e1]
    rw [List.getElem?_map, List.getElem?_map, h] at e3
    exact He.fn_ok (Option.some.inj e3) (List.all_eq_true.mp cC d (List.mem_of_getElem? h))
  have ini_ : ∀ (i : Nat) {d : He.DefD}, ini[i]? = some d → ∃ fd, FunD K d.name d.qual d.params d.body d.scope (d.dvs K) (d.kws K) (He.fAd K d.at_) fd := fun i d h => by
    have e3 : (ini.map fun d => He.fnW K d.at_)[i]? = (ini.map He.DefD.val)[i]? := by rw [e2]
    rw [List.getElem?_map, List.getElem?_map, h] at e3
    exact He.DefD.funD (Option.some.inj e3) (List.all_eq_true.mp cI d (List.mem_of_getElem? h))
  obtain ⟨esD, nD, KD⟩ := He.dicW_ok (w := w) (congrArg (fun z : AlO => z.2.2.2) c)
  obtain ⟨oc_seq, od_seq, sl_seq, kV_seq, dc_seq, pm_seq, an_seq, cd_seq, ct_seq, l_seq, c_seq⟩ := def_ 0 (d := dOf "is_sequence" sSeq) rfl
  obtain ⟨oc_test, od_test, sl_test, kV_test, dc_test, pm_test, an_test, cd_test, ct_test, l_test, c_test⟩ := def_ 1 (d := dOf "is_test" sTest) rfl
  obtain ⟨oc_deed, od_deed, sl_deed, kV_deed, dc_deed, pm_deed, an_deed, cd_deed, ct_deed, l_deed, c_deed⟩ := def_ 2 (d := dOf "is_deed" sDeed) rfl
  obtain ⟨oc_areT, od_areT, sl_areT, kV_areT, dc_areT, pm_areT, an_areT, cd_areT, ct_areT, l_areT, c_areT⟩ := def_ 3 (d := dOf "are_tests" sAreT) rfl
  obtain ⟨oc_areD, od_areD, sl_areD, kV_areD, dc_areD, pm_areD, an_areD, cd_areD, ct_areD, l_areD, c_areD⟩ := def_ 4 (d := dOf "are_deeds" sAreD) rfl
  obtain ⟨oc_areR, od_areR, sl_areR, kV_areR, dc_areR, pm_areR, an_areR, cd_areR, ct_areR, l_areR, c_areR⟩ := def_ 5 (d := dOf "are_rows" sAreR) rfl
  obtain ⟨oc_facts, od_facts, sl_facts, kV_facts, dc_facts, pm_facts, an_facts, cd_facts, ct_facts, l_facts, c_facts⟩ := def_ 6 (d := dOf "facts_of" sFacts) rfl
  obtain ⟨oc_bits, od_bits, sl_bits, kV_bits, dc_bits, pm_bits, an_bits, cd_bits, ct_bits, l_bits, c_bits⟩ := def_ 7 (d := dOf "bits_of" sBits) rfl
  obtain ⟨oc_lanes, od_lanes, sl_lanes, kV_lanes, dc_lanes, pm_lanes, an_lanes, cd_lanes, ct_lanes, l_lanes, c_lanes⟩ := def_ 8 (d := dOf "lanes_of" sLanes) rfl
  obtain ⟨oc_shin, od_shin, sl_shin, kV_shin, dc_shin, pm_shin, an_shin, cd_shin, ct_shin, l_shin, c_shin⟩ := def_ 9 (d := dOf "shape_in" sShapeIn) rfl
  obtain ⟨oc_beh, od_beh, sl_beh, kV_beh, dc_beh, pm_beh, an_beh, cd_beh, ct_beh, l_beh, c_beh⟩ := def_ 10 (d := dOf "put_behind" sBeh) rfl
  obtain ⟨oc_long, od_long, sl_long, kV_long, dc_long, pm_long, an_long, cd_long, ct_long, l_long, c_long⟩ := def_ 11 (d := dOf "where_long" sLong) rfl
  obtain ⟨oc_holds, od_holds, sl_holds, kV_holds, dc_holds, pm_holds, an_holds, cd_holds, ct_holds, l_holds, c_holds⟩ := def_ 12 (d := dOf "where_holds" sHolds) rfl
  obtain ⟨oc_done, od_done, sl_done, kV_done, dc_done, pm_done, an_done, cd_done, ct_done, l_done, c_done⟩ := def_ 13 (d := dOf "where_done" sDone) rfl
  obtain ⟨oc_dbreak, od_dbreak, sl_dbreak, kV_dbreak, dc_dbreak, pm_dbreak, an_dbreak, cd_dbreak, ct_dbreak, l_dbreak, c_dbreak⟩ := def_ 14 (d := dOf "do_break" sBreak) rfl
  obtain ⟨oc_djoin, od_djoin, sl_djoin, kV_djoin, dc_djoin, pm_djoin, an_djoin, cd_djoin, ct_djoin, l_djoin, c_djoin⟩ := def_ 15 (d := dOf "do_join" sJoin) rfl
  obtain ⟨oc_dmark, od_dmark, sl_dmark, kV_dmark, dc_dmark, pm_dmark, an_dmark, cd_dmark, ct_dmark, l_dmark, c_dmark⟩ := def_ 16 (d := dOf "do_mark" sMark) rfl
  obtain ⟨oc_dunmark, od_dunmark, sl_dunmark, kV_dunmark, dc_dunmark, pm_dunmark, an_dunmark, cd_dunmark, ct_dunmark, l_dunmark, c_dunmark⟩ := def_ 17 (d := dOf "do_unmark" sUnmark) rfl
  obtain ⟨oc_dlift, od_dlift, sl_dlift, kV_dlift, dc_dlift, pm_dlift, an_dlift, cd_dlift, ct_dlift, l_dlift, c_dlift⟩ := def_ 18 (d := dOf "do_lift" sLift) rfl
  obtain ⟨oc_dlower, od_dlower, sl_dlower, kV_dlower, dc_dlower, pm_dlower, an_dlower, cd_dlower, ct_dlower, l_dlower, c_dlower⟩ := def_ 19 (d := dOf "do_lower" sLower) rfl
  obtain ⟨oc_dspace, od_dspace, sl_dspace, kV_dspace, dc_dspace, pm_dspace, an_dspace, cd_dspace, ct_dspace, l_dspace, c_dspace⟩ := def_ 20 (d := dOf "do_space" sSpace) rfl
  obtain ⟨oc_dclose, od_dclose, sl_dclose, kV_dclose, dc_dclose, pm_dclose, an_dclose, cd_dclose, ct_dclose, l_dclose, c_dclose⟩ := def_ 21 (d := dOf "do_close" sClose) rfl
  obtain ⟨oc_row, od_row, sl_row, kV_row, dc_row, pm_row, an_row, cd_row, ct_row, l_row, c_row⟩ := def_ 22 (d := dOf "do_row" sRow) rfl
  obtain ⟨oc_rows, od_rows, sl_rows, kV_rows, dc_rows, pm_rows, an_rows, cd_rows, ct_rows, l_rows, c_rows⟩ := def_ 23 (d := dOf "rows_done" sRows) rfl
  obtain ⟨oc_ff, od_ff, sl_ff, kV_ff, dc_ff, pm_ff, an_ff, cd_ff, ct_ff, l_ff, c_ff⟩ := def_ 24 (d := dOf "facts_of_form" sFF) rfl
  obtain ⟨oc_lay, od_lay, sl_lay, kV_lay, dc_lay, pm_lay, an_lay, cd_lay, ct_lay, l_lay, c_lay⟩ := def_ 25 (d := dOf "lay" sLay) rfl
  obtain ⟨oc_box, od_box, sl_box, kV_box, dc_box, pm_box, an_box, cd_box, ct_box, l_box, c_box⟩ := def_ 26 (d := dOf "_law_box" sBox) rfl
  obtain ⟨oc_take, od_take, sl_take, kV_take, dc_take, pm_take, an_take, cd_take, ct_take, l_take, c_take⟩ := def_ 27 (d := dOf "_law_take" sTake) rfl
  obtain ⟨oc_pick, od_pick, sl_pick, kV_pick, dc_pick, pm_pick, an_pick, cd_pick, ct_pick, l_pick, c_pick⟩ := def_ 28 (d := dOf "_law_pick" sPick) rfl
  obtain ⟨oc_ltest, od_ltest, sl_ltest, kV_ltest, dc_ltest, pm_ltest, an_ltest, cd_ltest, ct_ltest, l_ltest, c_ltest⟩ := def_ 29 (d := dOf "_law_test" sLTest) rfl
  obtain ⟨oc_lrow, od_lrow, sl_lrow, kV_lrow, dc_lrow, pm_lrow, an_lrow, cd_lrow, ct_lrow, l_lrow, c_lrow⟩ := def_ 30 (d := dOf "_law_row" sLRow) rfl
  obtain ⟨oc_ltool, od_ltool, sl_ltool, kV_ltool, dc_ltool, pm_ltool, an_ltool, cd_ltool, ct_ltool, l_ltool, c_ltool⟩ := def_ 31 (d := dOf "_law_tool" sLTool) rfl
  obtain ⟨oc_lof, od_lof, sl_lof, kV_lof, dc_lof, pm_lof, an_lof, cd_lof, ct_lof, l_lof, c_lof⟩ := def_ 32 (d := dOf "_law_tool_of" sToolOf) rfl
  obtain ⟨oc_lforms, od_lforms, sl_lforms, kV_lforms, dc_lforms, pm_lforms, an_lforms, cd_lforms, ct_lforms, l_lforms, c_lforms⟩ := def_ 33 (d := dOf "_law_forms" sLFs) rfl
  obtain ⟨oc_isl, od_isl, sl_isl, kV_isl, dc_isl, pm_isl, an_isl, cd_isl, ct_isl, l_isl, c_isl⟩ := def_ 34 (d := dOf "_law_is_long_form" sIsLong) rfl
  obtain ⟨oc_ask, od_ask, sl_ask, kV_ask, dc_ask, pm_ask, an_ask, cd_ask, ct_ask, l_ask, c_ask⟩ := def_ 35 (d := dOf "_law_asks" sAsk) rfl
  obtain ⟨oc_laid, od_laid, sl_laid, kV_laid, dc_laid, pm_laid, an_laid, cd_laid, ct_laid, l_laid, c_laid⟩ := def_ 36 (d := dOf "_law_laid" sLaid) rfl
  obtain ⟨oc_law, od_law, sl_law, kV_law, dc_law, pm_law, an_law, cd_law, ct_law, l_law, c_law⟩ := def_ 37 (d := dOf "law" sLaw) rfl
  obtain ⟨fdR, FC⟩ := ini_ 0 rfl
  obtain ⟨fdT, FCT⟩ := ini_ 1 rfl
  exact all_mk X G hfa
    (He.eqO_ok (exs 0 rfl))
    (of_decide_eq_true (exs 1 rfl))
    (glo_ns (fact 76 (f := .glo "Row") rfl))
    (He.cls_ok (fact 77 (f := .cls "Row") rfl))
    (He.eqO_ok (exs 2 rfl))
    (of_decide_eq_true (exs 3 rfl))
    (He.noat_ok (fact 78 (f := .noat "Row" "tests") rfl))
    (He.noat_ok (fact 79 (f := .noat "Row" "deeds") rfl))
    (He.mkr_ok (fact 80 (f := .mkr "Row") rfl))
    FC
    (glo_ns (fact 81 (f := .glo "Tool") rfl))
    (He.cls_ok (fact 82 (f := .cls "Tool") rfl))
    (He.eqO_ok (exs 4 rfl))
    (of_decide_eq_true (exs 5 rfl))
    (He.noat_ok (fact 83 (f := .noat "Tool" "rows") rfl))
    (He.noat_ok (fact 84 (f := .noat "Tool" "sorts") rfl))
    (He.mkr_ok (fact 85 (f := .mkr "Tool") rfl))
    FCT
    (glo_ns (fact 86 (f := .glo "TESTS") rfl))
    (He.tupB_ok (exs 6 rfl))
    (glo_ns (fact 87 (f := .glo "DEEDS") rfl))
    (He.tupB_ok (exs 7 rfl))
    (glo_ns (fact 88 (f := .glo "FORMS") rfl))
    (exs 8 rfl)
    (glo_ns (fact 89 (f := .glo "DOING") rfl))
    KD.at_
    KD.lit
    (He.eqO_ok (exs 9 rfl))
    (He.eqO_ok (exs 10 rfl))
    (He.eqO_ok (exs 11 rfl))
    (He.eqO_ok (exs 12 rfl))
    (He.eqO_ok (exs 13 rfl))
    (He.eqO_ok (exs 14 rfl))
    (He.eqO_ok (exs 15 rfl))
    (He.eqO_ok (exs 16 rfl))
    (glo_ns (fact 0 (f := .glo "is_sequence") rfl))
    l_seq
    c_seq
    (He.keep_ok (fact 1 (f := .keep "is_sequence") rfl))
    (glo_ns (fact 2 (f := .glo "is_test") rfl))
    l_test
    c_test
    (He.keep_ok (fact 3 (f := .keep "is_test") rfl))
    (glo_ns (fact 4 (f := .glo "is_deed") rfl))
    l_deed
    c_deed
    (He.keep_ok (fact 5 (f := .keep "is_deed") rfl))
    (glo_ns (fact 6 (f := .glo "are_tests") rfl))
    l_areT
    c_areT
    (He.keep_ok (fact 7 (f := .keep "are_tests") rfl))
    (glo_ns (fact 8 (f := .glo "are_deeds") rfl))
    l_areD
    c_areD
    (He.keep_ok (fact 9 (f := .keep "are_deeds") rfl))
    (glo_ns (fact 10 (f := .glo "are_rows") rfl))
    l_areR
    c_areR
    (He.keep_ok (fact 11 (f := .keep "are_rows") rfl))
    (glo_ns (fact 12 (f := .glo "facts_of") rfl))
    l_facts
    c_facts
    (He.keep_ok (fact 13 (f := .keep "facts_of") rfl))
    (glo_ns (fact 14 (f := .glo "bits_of") rfl))
    l_bits
    c_bits
    (He.keep_ok (fact 15 (f := .keep "bits_of") rfl))
    (glo_ns (fact 16 (f := .glo "lanes_of") rfl))
    l_lanes
    c_lanes
    (He.keep_ok (fact 17 (f := .keep "lanes_of") rfl))
    (glo_ns (fact 18 (f := .glo "shape_in") rfl))
    l_shin
    c_shin
    (He.keep_ok (fact 19 (f := .keep "shape_in") rfl))
    (glo_ns (fact 20 (f := .glo "put_behind") rfl))
    l_beh
    c_beh
    (He.keep_ok (fact 21 (f := .keep "put_behind") rfl))
    (glo_ns (fact 22 (f := .glo "where_long") rfl))
    l_long
    c_long
    (He.keep_ok (fact 23 (f := .keep "where_long") rfl))
    (glo_ns (fact 24 (f := .glo "where_holds") rfl))
    l_holds
    c_holds
    (He.keep_ok (fact 25 (f := .keep "where_holds") rfl))
    (glo_ns (fact 26 (f := .glo "where_done") rfl))
    l_done
    c_done
    (He.keep_ok (fact 27 (f := .keep "where_done") rfl))
    (glo_ns (fact 28 (f := .glo "do_break") rfl))
    l_dbreak
    c_dbreak
    (He.keep_ok (fact 29 (f := .keep "do_break") rfl))
    (glo_ns (fact 30 (f := .glo "do_join") rfl))
    l_djoin
    c_djoin
    (He.keep_ok (fact 31 (f := .keep "do_join") rfl))
    (glo_ns (fact 32 (f := .glo "do_mark") rfl))
    l_dmark
    c_dmark
    (He.keep_ok (fact 33 (f := .keep "do_mark") rfl))
    (glo_ns (fact 34 (f := .glo "do_unmark") rfl))
    l_dunmark
    c_dunmark
    (He.keep_ok (fact 35 (f := .keep "do_unmark") rfl))
    (glo_ns (fact 36 (f := .glo "do_lift") rfl))
    l_dlift
    c_dlift
    (He.keep_ok (fact 37 (f := .keep "do_lift") rfl))
    (glo_ns (fact 38 (f := .glo "do_lower") rfl))
    l_dlower
    c_dlower
    (He.keep_ok (fact 39 (f := .keep "do_lower") rfl))
    (glo_ns (fact 40 (f := .glo "do_space") rfl))
    l_dspace
    c_dspace
    (He.keep_ok (fact 41 (f := .keep "do_space") rfl))
    (glo_ns (fact 42 (f := .glo "do_close") rfl))
    l_dclose
    c_dclose
    (He.keep_ok (fact 43 (f := .keep "do_close") rfl))
    (glo_ns (fact 44 (f := .glo "do_row") rfl))
    l_row
    c_row
    (He.keep_ok (fact 45 (f := .keep "do_row") rfl))
    (glo_ns (fact 46 (f := .glo "rows_done") rfl))
    l_rows
    c_rows
    (He.keep_ok (fact 47 (f := .keep "rows_done") rfl))
    (glo_ns (fact 48 (f := .glo "facts_of_form") rfl))
    l_ff
    c_ff
    (He.keep_ok (fact 49 (f := .keep "facts_of_form") rfl))
    (glo_ns (fact 50 (f := .glo "lay") rfl))
    l_lay
    c_lay
    (He.keep_ok (fact 51 (f := .keep "lay") rfl))
    (glo_ns (fact 52 (f := .glo "_law_box") rfl))
    l_box
    c_box
    (He.keep_ok (fact 53 (f := .keep "_law_box") rfl))
    (glo_ns (fact 54 (f := .glo "_law_take") rfl))
    l_take
    c_take
    (He.keep_ok (fact 55 (f := .keep "_law_take") rfl))
    (glo_ns (fact 56 (f := .glo "_law_pick") rfl))
    l_pick
    c_pick
    (He.keep_ok (fact 57 (f := .keep "_law_pick") rfl))
    (glo_ns (fact 58 (f := .glo "_law_test") rfl))
    l_ltest
    c_ltest
    (He.keep_ok (fact 59 (f := .keep "_law_test") rfl))
    (glo_ns (fact 60 (f := .glo "_law_row") rfl))
    l_lrow
    c_lrow
    (He.keep_ok (fact 61 (f := .keep "_law_row") rfl))
    (glo_ns (fact 62 (f := .glo "_law_tool") rfl))
    l_ltool
    c_ltool
    (He.keep_ok (fact 63 (f := .keep "_law_tool") rfl))
    (glo_ns (fact 64 (f := .glo "_law_tool_of") rfl))
    l_lof
    c_lof
    (He.keep_ok (fact 65 (f := .keep "_law_tool_of") rfl))
    (glo_ns (fact 66 (f := .glo "_law_forms") rfl))
    l_lforms
    c_lforms
    (He.keep_ok (fact 67 (f := .keep "_law_forms") rfl))
    (glo_ns (fact 68 (f := .glo "_law_is_long_form") rfl))
    l_isl
    c_isl
    (He.keep_ok (fact 69 (f := .keep "_law_is_long_form") rfl))
    (glo_ns (fact 70 (f := .glo "_law_asks") rfl))
    l_ask
    c_ask
    (He.keep_ok (fact 71 (f := .keep "_law_asks") rfl))
    (glo_ns (fact 72 (f := .glo "_law_laid") rfl))
    l_laid
    c_laid
    (He.keep_ok (fact 73 (f := .keep "_law_laid") rfl))
    (glo_ns (fact 74 (f := .glo "law") rfl))
    l_law
    c_law
    (He.keep_ok (fact 75 (f := .keep "law") rfl))
    (free_ns (fact 90 (f := .free "int") rfl))
    (free_ns (fact 91 (f := .free "bool") rfl))
    (free_ns (fact 92 (f := .free "str") rfl))
    (free_ns (fact 93 (f := .free "list") rfl))
    (free_ns (fact 94 (f := .free "tuple") rfl))
    (free_ns (fact 95 (f := .free "dict") rfl))
    (free_ns (fact 96 (f := .free "isinstance") rfl))
    (free_ns (fact 97 (f := .free "len") rfl))
    (free_ns (fact 98 (f := .free "all") rfl))
    (free_ns (fact 99 (f := .free "any") rfl))
    (free_ns (fact 100 (f := .free "abs") rfl))
    (free_ns (fact 101 (f := .free "range") rfl))
    (free_ns (fact 102 (f := .free "enumerate") rfl))
    (free_ns (fact 103 (f := .free "zip") rfl))
    (free_ns (fact 104 (f := .free "max") rfl))
    (free_ns (fact 105 (f := .free "min") rfl))
    (free_ns (fact 106 (f := .free "repr") rfl))
    (free_ns (fact 107 (f := .free "sorted") rfl))
end LayH
set_option Elab.async false
set_option linter.all false
set_option maxRecDepth 100000
set_option maxHeartbeats 8000000
namespace LayH
open PySem PySem.Spec PyProof.Rows L2 Lay
abbrev R : PySem.W.OpenRow := PySem.W.OpenLaw.row PySem.Challenge.rw_laytwice_k24_forms_laid_out
abbrev qv : Program := PySem.W.view R.prog [59]
def names0 : List PySem.Str := ["_wall", "__name__", "LayError", "InvalidRow", "InvalidTool", "NoRow", "is_integer", "is_number", "is_sequence", "facts_of", "bits_of", "lanes_of", "shape_in", "put_behind", "where_long", "where_holds", "where_done", "do_break", "do_join", "do_mark", "do_unmark", "do_lift", "do_lower", "do_space", "do_close"]
def names1 : List PySem.Str := ["DOING", "do_row", "rows_done", "FORMS", "facts_of_form", "lay", "TESTS", "DEEDS", "is_test", "is_deed", "are_tests", "are_deeds", "are_rows", "row_words", "first_line", "read_row", "Row", "Tool", "_law_box", "_law_take", "_law_pick", "_law_test", "_law_row", "_law_tool", "_law_tool_of"]
def names2 : List PySem.Str := ["_law_forms", "_law_is_long_form", "_law_asks", "_law_laid"]
def names : List PySem.Str := names0 ++ names1 ++ names2
abbrev PA (w : World) : Prop := HandSHeadRun.RunEq R qv PySem.W.Hook.none (fun _ => ()) 6000 names w
abbrev PO (w : World) : Prop := ∀ os : OsState, (HandSHeadRun.endF (HandSHeadRun.stepQ (HandSHeadRun.denQ HandSHeadRun.tabQ) R.prog w) 6000 R.prog w os).map ob = some (valO w)
set_option maxHeartbeats 0
theorem runA0 (w : World) : PA (w.withFollow "special-get-raises" false) := by
  intro os
  kernel_rfl
theorem runA1 (w : World) : PA (w.withFollow "special-get-raises" true) := by
  intro os
  kernel_rfl
theorem runO0 (w : World) : PO (w.withFollow "special-get-raises" false) := by
  intro os
  kernel_rfl
theorem runO1 (w : World) : PO (w.withFollow "special-get-raises" true) := by
  intro os
  kernel_rfl
theorem run (w : World) : HandSHeadRun.RunEq R qv hk ob 6000 names w := fun os =>
  join3 (PySem.W.byRow2 "special-get-raises" (P := PA) runA0 runA1 w os) (PySem.W.byRow2 "special-get-raises" (P := PO) runO0 runO1 w os)
end LayH
open PySem PySem.W PyProof.Rows
set_option Elab.async false
set_option maxRecDepth 100000
set_option maxHeartbeats 0
theorem PySem.Challenge.cw_laytwice_k24_forms_laid_out_holds : PySem.Challenge.rw_laytwice_k24_forms_laid_out.Holds := by
  w_on; o_law
  refine HandSHeadRun.head_any (r := OpenLaw.row PySem.Challenge.rw_laytwice_k24_forms_laid_out) (q := LayH.qv) (H := LayH.hk) (ob := LayH.ob) (M := 6000) (loose := LayH.names) (d := HandSHeadRun.topDef (OpenLaw.row PySem.Challenge.rw_laytwice_k24_forms_laid_out).prog 59) (kwd := []) LayH.ob_eq
    (by kernel_rfl) (fun s => by kernel_rfl) LayH.run (by kernel_rfl) (by kernel_rfl) (by kernel_rfl) (by rfl) (by first | assumption | decide +kernel) (by decide +kernel) ⟨rfl, rfl, rfl, rfl, rfl, by decide +kernel⟩ ?hw ?hc
  case hw => w_witness2
  case hc =>
    refine Lay.walkGE (l := PySem.Challenge.rw_laytwice_k24_forms_laid_out) (n := 63) (k := 7) (x := "_law_script") rfl (by decide) (by kernel_rfl) ⟨rfl, by decide, by decide⟩ ?F
    intro w mg fa h Y G hmg0
    obtain ⟨K, KX, c⟩ := Y
    have hmg : mg ("law" : PySem.Str) = some (.ref fa) := by
      have e : (HandSHeadRun.topDef (OpenLaw.row PySem.Challenge.rw_laytwice_k24_forms_laid_out).prog 59).name = ("law" : PySem.Str) := by kernel_rfl
      rw [← e]
      exact hmg0
    obtain ⟨fd, hb, hF⟩ := LayH.facts (l := PySem.Challenge.rw_laytwice_k24_forms_laid_out) (w := w) KX G hmg c
    exact ⟨K, fd, Lay.spLaw K, KX, hb, fun H a ns hl _ hS => ⟨a, ns, rfl, hS, hl, fun _ => rfl⟩, hF⟩
