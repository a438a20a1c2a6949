import PyProof.Rows.All
import Wide.All
import OpenK.AllK
import Wide.FinOn
import PyProof.EqAt
import PyProof.EqKinds
import PyProof.TupleCall
import PyProof.DictUpdate
import PyProof.ListStr
import OpenK.KEqL
import KE.GoesMore
import KE.KExcIs
import KE.KStar
import KE.KCallOwn
import KE.KParD
import HandS.Base
import HandS.Call
import HandS.List
import HandS.Dict
import HandS.More
import HandS.Exc
import HandS.Slots
import HandS.Star
import HandS.MakeKw
import HandS.ForMost
import HandS.Codes
import HandS.Walk
import HandS.WordsExc
import HandS.Style
import HandS.ExcIs
import HandS.ExcInit
import HandS.ExcField
import HandS.TupAny
import HandS.IsInst
import HandS.StrMore
import HandS.Defaults
import HandS.ExcOwn
import HandS.RaiseMore
import HandS.Text
import HandS.OwnEq
import HandS.NoneIn
import HandS.ExcValue
import HandS.Zip
import HandS.FStr
import HandS.Comp
import HandS.DictComp
import HandS.Property
import HandS.CallLocal
import HandS.WrittenGet
import PyProof.StrLawsRepr
import HandS.ForExc
import PyProof.Rows.SortShellAny
import KE.LtData
import HandS.Deep
import PyProof.Rows.StrMeet
import HandS.Flow
import PySem.Challenge.RW_laytwice_k23_forms_told
set_option Elab.async false
set_option linter.all false
set_option maxRecDepth 100000
set_option maxHeartbeats 4000000
set_option pp.maxSteps 1500
/-! Keywords: a def with ** that is called with keywords, a class that is called with **. -/
namespace KwX
open PySem PySem.Spec PyProof.Rows L2 StX

/-! ### a dict merged into another one (mergeMapping) -/
section
variable {prog : Program} {w : World} {Kt : Type} [DecidableEq Kt] {knd : KeyKind prog w Kt} {A : Around} {E : Value → Shared → Prop} {s : Shared}
theorem wpAny_dictPut {d : Addr} {kvs : List (Kt × Value)} {k : Kt} {key v : Value} {Q : Unit → Shared → Prop} (hkey : knd.is k key = true) (hm : s.heap.DictOf knd d kvs)
    (hQ : ∀ h', h'.DictOf knd d (stored kvs k v) → Heap.SameBut d s.heap h' → Q () { s with heap := h' })
    (hsz : kvs.length ≤ sizeLine) :
    wpAny (model prog w) A (dictPut d (knd.hash k) key v) Q E s := by
  obtain ⟨o, es, ep, ho, hc, hd, hk, hp, hn⟩ := hm
  have hes : es.size ≤ sizeLine := by
    have e1 := hp.length
    have e2 : es.toList.length = es.size := by simp
    omega
  unfold dictPut
  refine wpAny_bind (wpAny_dictFind_of hkey ho hd hk ?_)
  have hidx : (es.findIdx? fun e => knd.is k e.key) = kvs.findIdx? fun kv => decide (kv.1 = k) := by
    rw [← hp.findIdx k]; obtain ⟨l⟩ := es; simp
  cases hi : es.findIdx? fun e => knd.is k e.key with
  | some i =>
    refine wpAny_updateDict ho hd (hQ _ ⟨_, _, ep, Heap.get?_update_self _ ho (Obj.isFreed_of_dict (Obj.data_mapDict hd _)),
      hc.mapDict _, Obj.data_mapDict hd _, hk.modify _ _, ?_, ?_⟩ (Heap.SameBut.update ..))
    · rw [stored, if_pos (any_of_findIdx_some (hidx ▸ hi))]
      have hl : (es.toList.findIdx? fun e => knd.is k e.key) = some i := by rw [← hi]; obtain ⟨l⟩ := es; simp
      have := hp.modify hn hl v
      obtain ⟨l⟩ := es
      simpa using this
    · rw [stored, if_pos (any_of_findIdx_some (hidx ▸ hi)), keys_map_store]; exact hn
  | none =>
    have hnot : k ∉ kvs.map (·.1) := not_mem_of_findIdx_none (hidx ▸ hi)
    have hany : ¬ (kvs.any fun kv => decide (kv.1 = k)) = true := by
      rw [List.any_eq_true]; rintro ⟨kv, hkv, he⟩
      exact hnot (List.mem_map.mpr ⟨kv, hkv, of_decide_eq_true he⟩)
    refine wpAny_updateDictKeys (hz := hes) ho hd (hQ _ ⟨_, _, ep + 1, Heap.get?_update_self _ ho (Obj.isFreed_of_dict (Obj.data_mapDictKeys hd _)),
      hc.mapDictKeys _, Obj.data_mapDictKeys hd _, hk.push hkey _, ?_, ?_⟩ (Heap.SameBut.update ..))
    · rw [stored, if_neg hany]
      have := hp.append hkey (knd.hash k) v
      obtain ⟨l⟩ := es
      simpa using this
    · rw [stored, if_neg hany, List.map_append, List.nodup_append]
      refine ⟨hn, by simp, ?_⟩
      intro a ha b hb
      simp only [List.map_cons, List.map_nil, List.mem_singleton] at hb
      subst hb
      exact fun e => hnot (e ▸ ha)

theorem wpAny_mergeMapping {u : Bool} {d o : Addr} {kvs more : List (Kt × Value)} {Q : Unit → Shared → Prop} (hdo : d ≠ o) (hoS : (o == sysModules) = false)
    (hd : s.heap.DictOf knd d kvs) (ho : s.heap.DictOf knd o more) (hu : u = true → ((kvs ++ more).map (·.1)).Nodup)
    (hQ : ∀ h', h'.DictOf knd d (merged kvs more) → h'.DictOf knd o more → Heap.SameBut d s.heap h' → Q () { s with heap := h' })
    (hsz : kvs.length + more.length ≤ sizeLine) :
    wpAny (model prog w) A (mergeMapping d (.ref o) u) Q E s := by
  obtain ⟨od, esd, epd, hod, hcd, hdd, hkd, hpd, hnd⟩ := id hd
  obtain ⟨oo, eso, epo, hoo, hco, hdo', hko, hpo, hno⟩ := id ho
  have hlen : more.length = eso.size := by rw [← hpo.length]; simp
  have hT : s.TypeIs (.ref o) "dict" := ⟨oo, hoo, hco.1⟩
  unfold mergeMapping
  refine wpAny_bind (wpAny_isInstance (T := "dict") hT PySem.F.sub_dict_dict ?_)
  dsimp only
  rw [if_pos rfl]
  refine wpAny_bind (wpAny_specialOf hT PySem.F.slot_dict_iter.lookup ?_)
  have hb : ((some (Value.builtin "dict.__iter__")) == some (Value.builtin "dict.__iter__")) = true := by decide +kernel
  refine wpAny_bind (wpAny_pure ?_)
  rw [hb]
  dsimp only
  rw [if_neg (by rw [hoS]; exact Bool.false_ne_true)]
  refine wpAny_bind (wpAny_dictEntries hod hdd ?_)
  have loop : wpAny (model prog w) A (do
      let l ← dictEntries o
      let epoch ← dictEpoch o
      forIn (List.range l.size) PUnit.unit fun i (_ : PUnit) => do
          let l' ← dictEntries o
          match l'[i]? with
            | some e => do
              holding [e.key, e.val]
                  (have jp := fun (_ : Unit) => dictPut d e.hash e.key e.val
                   if u = true then do
                     let f ← dictFind d e.key e.hash
                     if f.isSome = true then do
                       rule "dict.merge.duplicate-key"
                       let x ← newExc (Value.type "KeyError") [e.key]
                       let r ← raiseNew x
                       jp r
                     else jp ()
                   else jp ())
              let ep' ← dictEpoch o
              if (ep' != epoch) = true then do
                unsupported "dict.changed-during-merge"
                pure (ForInStep.yield PUnit.unit)
              else pure (ForInStep.yield PUnit.unit)
            | x => do
              unsupported "dict.changed-during-merge"
              pure (ForInStep.yield PUnit.unit)
      pure ()) Q E s := by
    refine wpAny_bind (wpAny_dictEntries hoo hdo' ?_)
    refine wpAny_bind (wpAny_dictEpoch hoo hdo' ?_)
    refine wpAny_bind ?_
    rw [List.range_eq_range']
    refine wpAny_forIn_list _
      (fun rest _ s' => ∃ h' i, s' = { s with heap := h' } ∧ rest = List.range' i (eso.size - i) ∧ i ≤ eso.size ∧ h'.DictOf knd d (merged kvs (more.take i)) ∧ h'.get? o = some oo ∧ Heap.SameBut d s.heap h')
      _ ?_ ?_ _ _ ⟨s.heap, 0, rfl, by simp, Nat.zero_le _, by simpa [merged] using hd, hoo, Heap.SameBut.refl _ _⟩
    · rintro x rest b s' ⟨h', i, rfl, hr, hi, hd', hoo', hs'⟩
      have hlt : i < eso.size := by
        rcases Nat.lt_or_ge i eso.size with h | h
        · exact h
        · rw [Nat.sub_eq_zero_of_le h] at hr; simp at hr
      obtain ⟨rfl, hrest⟩ : x = i ∧ rest = List.range' (i + 1) (eso.size - (i + 1)) := by
        have e : eso.size - i = (eso.size - (i + 1)) + 1 := by omega
        rw [e, List.range'_succ] at hr
        injection hr with h1 h2
        exact ⟨h1, h2⟩
      refine wpAny_bind (wpAny_dictEntries hoo' hdo' ?_)
      rw [Array.getElem?_eq_getElem hlt]
      obtain ⟨kv, hkv⟩ : ∃ kv, more[x]? = some kv := ⟨more[x]'(by rw [hlen]; exact hlt), List.getElem?_eq_getElem _⟩
      obtain ⟨k, v⟩ := kv
      obtain ⟨hkey, hval⟩ := hpo.get? (e := eso[x]) (by simp [hlt]) hkv
      obtain ⟨k', hkey', hhash⟩ := hko eso[x] (Array.getElem_mem hlt)
      obtain rfl : k' = k := knd.inj _ _ _ hkey' hkey
      have hmx : (merged kvs (more.take x)).length ≤ sizeLine := by
        have e1 := merged_length_le kvs (more.take x)
        have e2 : (more.take x).length ≤ more.length := by rw [List.length_take]; omega
        omega
      dsimp only
      rw [hhash, hval]
      refine wpAny_bind (wpAny_holding ?_)
      cases u
      case' true =>
        obtain ⟨o1, es1, ep1, ho1, hc1, hd1, hk1, hp1, hn1⟩ := id hd'
        rw [if_pos rfl]
        refine wpAny_bind (wpAny_dictFind_of hkey' ho1 hd1 hk1 ?_)
        have hno1 : (es1.findIdx? fun e => knd.is k' e.key) = none := by
          have e0 : (es1.findIdx? fun e => knd.is k' e.key) = es1.toList.findIdx? fun e => knd.is k' e.key := by obtain ⟨l⟩ := es1; simp
          rw [e0, hp1.findIdx k', List.findIdx?_eq_none_iff]
          intro kv hkv1
          refine decide_eq_false fun e => ?_
          have hN := hu rfl
          have eT : more = more.take x ++ (k', v) :: more.drop (x + 1) := by
            have l1 : x < more.length := by rw [hlen]; exact hlt
            have := List.getElem?_eq_some_iff.mp hkv
            obtain ⟨l2, e2⟩ := this
            rw [← e2]
            simp
          have hN2 : ((kvs ++ more.take x).map (·.1)).Nodup := by
            rw [eT, ← List.append_assoc, List.map_append] at hN
            exact (List.nodup_append.mp hN).1
          rw [merged_append_of_fresh _ _ hN2] at hkv1
          rw [eT, ← List.append_assoc, List.map_append] at hN
          exact (List.nodup_append.mp hN).2.2 kv.1 (List.mem_map_of_mem hkv1) k' (by simp) e
        rw [hno1]
      all_goals
        refine wpAny_dictPut hkey' hd' (fun h'' hd'' hs'' => ?_) hmx
        have hoo'' : h''.get? o = some oo := (hs''.2 o (Ne.symm hdo)).trans hoo'
        refine wpAny_bind (wpAny_dictEpoch hoo'' hdo' ?_)
        rw [if_neg (by simp)]
        exact wpAny_pure ⟨h'', x + 1, rfl, hrest, hlt, by rw [merged_take_succ kvs more x (k', v) hkv]; exact hd'', hoo'', hs'.trans hs''⟩
    · rintro b s' ⟨h', i, rfl, hr, hi, hd', hoo', hs'⟩
      have hin : i = eso.size := by
        rcases Nat.lt_or_ge i eso.size with h | h
        · have e : eso.size - i = (eso.size - (i + 1)) + 1 := by omega
          rw [e, List.range'_succ] at hr; exact nomatch hr
        · exact Nat.le_antisymm hi h
      refine wpAny_pure (hQ h' ?_ ⟨oo, eso, epo, hoo', hco, hdo', hko, hpo, hno⟩ hs')
      rw [hin, ← hlen, List.take_length] at hd'; exact hd'
  split
  · refine wpAny_bind (wpAny_dictEntries hoo hdo' ?_)
    refine wpAny_bind ?_
    have scan : ∀ (l : List DictEntry), (∀ e ∈ l, ∃ k, knd.is k e.key = true) → ∀ (g : DictEntry → PUnit → Sem (ForInStep PUnit)), (∀ e, (∀ a, e.key ≠ .ref a) → g e ⟨⟩ = pure (.yield ⟨⟩)) → ∀ {R : PUnit → Shared → Prop}, R ⟨⟩ s → wpAny (model prog w) A (forIn l PUnit.unit g) R E s := by
      intro l hl g hg R hR
      induction l with
      | nil => rw [List.forIn_nil]; exact wpAny_pure hR
      | cons e l ih =>
        obtain ⟨k, hk⟩ := hl e (List.mem_cons_self ..)
        rw [List.forIn_cons, hg e (fun a z => by have := knd.byValue k _ hk; rw [z] at this; cases this)]
        exact wpAny_bind (wpAny_pure (ih fun e he => hl e (List.mem_cons_of_mem _ he)))
    rw [← Array.forIn_toList]
    refine scan _ (fun e he => ?_) _ (fun e he => ?_) loop
    · obtain ⟨k, hk, _⟩ := hko e (Array.mem_def.mpr he)
      exact ⟨k, hk⟩
    · cases q : e.key with
      | ref a => exact absurd q (he a)
      | _ => rfl
  · exact loop
end
end KwX
set_option Elab.async false
set_option linter.all false
set_option maxRecDepth 100000
set_option maxHeartbeats 4000000
set_option pp.maxSteps 1500
namespace KwX
open PySem PySem.Spec PyProof.Rows L2 StX
/-! ### C( **d) -/
section
variable {M : Model} {A : Around} {E : Value → Shared → Prop} {s : Shared}
theorem kk_call {f : Value} {first : List Value} {pos : Pos} {Q : Value → Shared → Prop} {P : Heap → Prop} {args : List (Bool × Sem Value)} {kws : List (Option Str × Sem Value)} (hst : (args.any (·.1) || kws.any (·.1.isNone)) = true)
    (hk : ∀ h, P h → ∃ k, (k = Keeper.frame ∨ k = Keeper.machine ∨ k = Keeper.boundFrame) ∧ PySem.W.Looks M h (keeperOf f) k)
    (h : wpAny M A (evalArgs f true args kws) (fun a s₁ => P s₁.heap ∧ wpAny M A (call f (first ++ a.pos) a.kw) Q E s₁) E s) : wpAny M A (callWith pos f first args kws) Q E s := by
  unfold callWith
  refine wpAny_bind (wpAny_holding (wpAny_mono h (fun a s₁ h₁ => wpAny_bind (wpAny_standAt ?_)) fun _ _ x => x))
  obtain ⟨k, hk', L⟩ := hk _ h₁.1
  simp only [hst]
  refine wpAny_bind (L.here ?_)
  have tail : ∀ {t : Sem Value}, wpAny M A t Q E s₁ → wpAny M A (t >>= fun r => holding [r] point >>= fun _ => pure r) Q E s₁ :=
    fun ht => wpAny_bind (wpAny_mono ht (fun r s₂ hr => wpAny_bind (wpAny_holding (wpAny_point (wpAny_pure hr)))) fun _ _ x => x)
  have marked (mk : Value) : wpAny M A (callMarked mk f (first ++ a.pos) a.kw) Q E s₁ := by unfold callMarked; exact Calls.wpAny_keep h₁.2
  rcases hk' with rfl | rfl | rfl <;> dsimp only <;> first | exact tail (marked _) | exact tail (wpAny_operating h₁.2)
/-- the arguments of f( **e): a new dict at d, e, its pairs merged, and read -/
theorem kk_args {f : Value} {x : Sem Value} {pos : Pos} {Q : Args → Shared → Prop}
    (h : wpAny M A (alloc ({ cls := .type "dict", data := .dict #[] } : Obj)) (fun d s1 => wpAny M A x (fun v s2 => wpAny M A (mergeMapping d v true) (fun _ s3 => wpAny M A (keywordsIn f d) (fun kw s4 => Q ⟨[], kw⟩ s4) E s3) (fun _ _ => False) s2) E s1) E s) :
    wpAny M A (evalArgs f true [] [(none, (do let v ← x; standAt pos; pure v))]) Q E s := by
  unfold evalArgs
  dsimp only
  have e0 : wpAny M A (spliced []) (fun vs s' => vs = [] ∧ s' = s) E s := by
    unfold spliced
    exact wpAny_pure ⟨rfl, rfl⟩
  refine wpAny_bind (wpAny_mono e0 (fun vs s' hv => ?_) fun _ _ z => z)
  obtain ⟨rfl, rfl⟩ := hv
  refine wpAny_bind (wpAny_pure ?_)
  dsimp only
  refine wpAny_holding ?_
  rw [if_neg (by simp)]
  unfold mergedKeywords
  refine wpAny_bind (wpAny_bind (wpAny_mono h (fun d s1 h1 => ?_) fun _ _ z => z))
  refine wpAny_bind (wpAny_holding ?_)
  refine wpAny_bind ?_
  rw [List.forIn_cons]
  refine wpAny_bind ?_
  refine wpAny_bind (wpAny_pure ?_)
  refine wpAny_bind (wpAny_bind (wpAny_mono h1 (fun v s2 h2 => wpAny_bind (wpAny_standAt (wpAny_pure ?_))) fun _ _ z => z))
  refine wpAny_bind (wpAny_onRaise (wpAny_holding (wpAny_tryCatch (wpAny_onRaise (wpAny_mono h2 (fun u s3 h3 => ?_) fun _ _ z => z.elim)))))
  refine wpAny_pure ?_
  show wpAny M A (pure ([] : List (Str × Sem Value))) _ E s3
  refine wpAny_pure ?_
  refine wpAny_pure ?_
  refine wpAny_pure ?_
  refine wpAny_bind (wpAny_pure ?_)
  exact wpAny_bind (wpAny_holding (wpAny_mono h3 (fun kw s4 h4 => wpAny_pure h4) fun _ _ z => z))
end
/-- all keys are texts: what keywordsIn tells -/
theorem wpAny_keywordsIn {P : Program} {w : World} {A : Around} {E : Value → Shared → Prop} {s : Shared} {f : Value} {d : Addr} {ks : List Str} {vs : List (Key × Value)} {Q : List (Str × Value) → Shared → Prop} (hd : s.heap.DictOf (mixKind P w) d vs)
    (hk : vs.map (·.1) = ks.map Sum.inr) (h : Q (ks.zip (vs.map (·.2))) s) : wpAny (model P w) A (keywordsIn f d) Q E s := by
  obtain ⟨o, es, ep, ho, hc, hdd, hks, hp, hn⟩ := hd
  unfold keywordsIn
  refine wpAny_bind (wpAny_dictEntries ho hdd ?_)
  rw [← Array.forIn_toList]
  generalize es.toList = el at hp
  have main : ∀ (el : List DictEntry) (vs : List (Key × Value)) (ks : List Str) (acc : List (Str × Value)), Pairs (mixKind P w) el vs → vs.map (·.1) = ks.map Sum.inr → ∀ (g : DictEntry → List (Str × Value) → Sem (ForInStep (List (Str × Value)))),
      (∀ e x t b, e.key = .str x t → g e b = pure (.yield (b ++ [(x, e.val)]))) → wpAny (model P w) A (forIn el acc g) (fun r s' => r = acc ++ ks.zip (vs.map (·.2)) ∧ s' = s) E s := by
    intro el vs ks acc hp hk g hg
    induction hp generalizing ks acc with
    | nil =>
      rw [List.forIn_nil]
      refine wpAny_pure ⟨?_, rfl⟩
      simp
    | @cons e kv es kvs h1 h2 _ ih =>
      cases ks with
      | nil => cases hk
      | cons k ks =>
        injection hk with e1 e2
        obtain ⟨t, ht⟩ : ∃ t, e.key = .str k t := by
          have e1 : kv.1 = Sum.inr k := e1
          rw [e1] at h1
          have h1 : keyIs (Sum.inr k) e.key = true := h1
          rcases keyIs_shape h1 with ⟨i, t, z, _⟩ | ⟨x, t, z, q⟩
          · cases z
          · cases z
            exact ⟨t, q⟩
        rw [List.forIn_cons, hg e k t acc ht]
        refine wpAny_bind (wpAny_pure ?_)
        refine wpAny_mono (ih ks (acc ++ [(k, e.val)]) e2) (fun r s' hr => ⟨?_, hr.2⟩) fun _ _ z => z
        rw [hr.1, h2, List.append_assoc]
        rfl
  refine wpAny_bind (wpAny_mono (main el vs ks [] hp hk _ fun e x t b he => by rw [he]) (fun r s' hr => ?_) fun _ _ z => z)
  obtain ⟨rfl, rfl⟩ := hr
  exact wpAny_pure (by rw [List.nil_append]; exact h)

/-- the pairs of a dict whose keys are these texts -/
def kvK (ks : List Str) (zs : List V) : List (Key × V) := (ks.map Sum.inr).zip zs
/-- C( **e): e a dict with text keys ks in this order; a new instance and its dict, then __init__ -/
def tMakeD (C : Addr) (ks : List Str) (sp : Sp) (gV : List V → List V → List V) (E : XK) (te : TE) : TE := fun σ H Q => ∀ d, H d = none → te σ (upd H d (.dK [])) fun y H1 => ∃ (o : Addr) (zs : List V), y = .ref o ∧ H1 d = some (.dK []) ∧ H1 o = some (.dK (kvK ks zs)) ∧ zs.length = ks.length ∧ o ≠ d ∧
  ∀ x dx, upd H1 d (.dK (kvK ks zs)) x = none → upd H1 d (.dK (kvK ks zs)) dx = none → dx ≠ x → sp (gV [.ref x] zs) (upd (upd (upd H1 d (.dK (kvK ks zs))) dx (.own x)) x (.ins C dx [])) (fun v H3 => v = .non ∧ Q (.ref x) H3) E
theorem kvK_keys {ks : List Str} {zs : List V} (h : zs.length = ks.length) : (kvK ks zs).map (·.1) = ks.map Sum.inr := by
  unfold kvK
  rw [List.map_fst_zip]
  rw [List.length_map, h]
  exact Nat.le_refl _
theorem kvK_vals {ks : List Str} {zs : List V} (h : zs.length = ks.length) : (kvK ks zs).map (·.2) = zs := by
  unfold kvK
  rw [List.map_snd_zip]
  rw [List.length_map, h]
  exact Nat.le_refl _
theorem KV.parts : ∀ {kvs : List (Key × V)} {vs : List (Key × Value)}, KV kvs vs → vs.map (·.1) = kvs.map (·.1) ∧ Vals (kvs.map (·.2)) (vs.map (·.2)) := by
  intro kvs vs r
  unfold KV at r
  induction r with
  | nil => exact ⟨rfl, .nil⟩
  | @cons p q ps qs h t ih => exact ⟨by rw [List.map_cons, List.map_cons, ih.1, h.1], .cons h.2 ih.2⟩
section
variable {X : Cx} {CX : CXT} {k : Nat} {f C : Addr} {fd : FuncData} {ps ks : List Str} {sp : Sp} {E : XK} {x : Str} {p pos kpos : Pos} {e : Expr} {te : TE} {g : List Value → List Value → List Value} {gV : List V → List V → List V}
theorem pe_makeD (M : Mk X.K C f) (F : FnOk X.prog X.w X.K X.mg X.base CX k f fd ps sp) (hr : Room (k + 1) X.A) (hg : Gl X x) (hm : X.mg x = some (.ref C)) (hb : KBn X.K fd ps (0 + 1) ks g gV) (hx : Passes CX X E)
    (he : PE X e te) (hnd : ks.Nodup) (hks : ks.length ≤ 1000) (hdb : (x == ("__debug__" : Str)) = false := by decide) (htr : keywordEach [⟨none, e, kpos⟩] X.env = [(none, eval e X.env)] := by rfl) :
    PE X (.Call (.Name x p) [] [⟨none, e, kpos⟩] pos) (tMakeD C ks sp gV E te) := by
  refine ⟨fun pins s σ H Q I h => ?_⟩
  refine wpAny_Call_Name_kw (ld_glob I hg hm ?_ hdb)
  rw [htr]
  show wpAny _ _ (callWith pos (.ref C) [] [] [(none, (do let v ← eval e X.env; standAt pos; pure v))]) _ _ _
  refine kk_call (P := fun h => X.K.In h) rfl (PySem.W.keeps_K M.kp) (kk_args (wpAny_alloc ?_))
  have I1 := I.laid (a := s.heap.objs.size) (o := .dK []) (t' := s.toks) (fun _ _ q => Heap.get?_push_of_some _ q) (Nat.le_refl _) (dk_empty s.heap I.big)
  refine thn (he.run pins _ σ _ _ I1 (h _ (I.hok.fresh (Nat.le_refl _)))) fun v s2 ⟨y, H1, I2, ry, o, zs, ey, hd, ho, hl, hne, q⟩ => ?_
  subst ey
  obtain rfl : v = Value.ref o := ry
  obtain ⟨z, hdS, vs, rel, dd⟩ := dk_of I2.hok hd
  obtain ⟨z2, hoS, vs2, rel2, dd2⟩ := dk_of I2.hok ho
  cases rel
  obtain ⟨hk2, hv2⟩ := KV.parts rel2
  rw [kvK_keys hl] at hk2
  rw [kvK_vals hl] at hv2
  have hn2 : (vs2.map (·.1)).Nodup := by
    obtain ⟨_, _, _, _, _, _, _, _, hn⟩ := id dd2
    exact hn
  refine wpAny_mergeMapping (Ne.symm hne) hoS dd dd2 (fun _ => hn2) (fun h' d1 d2 hs => ?_) (by rw [← rel2.length]; show 0 + _ ≤ _; omega)
  have e0 : merged [] vs2 = vs2 := merged_nil_of_nodup vs2 hn2
  rw [e0] at d1
  have he' : ∃ q, h'.get? s.heap.objs.size = some q := let ⟨q, _, _, hq, _⟩ := d1; ⟨q, hq⟩
  have I3 := d_write (t' := s2.toks) (ob := .dK (kvK ks zs)) I2 (by rw [hd]; exact True.intro) hs he' (dk_new z2 hdS rel2 d1)
  refine wpAny_keywordsIn d1 hk2 ⟨I3.kIn, ?_⟩
  exact run_makeN M F hr hb hx I3 .nil hv2 rfl hl q
end

/-! ### a def with ** called with keywords -/
/-- a promise by positional values vs and the values zs of keywords named ks -/
def FnRK (P : Program) (w : World) (K : PySem.W.Frag) (mg : Str → Option Value) (base : Heap) (CX : CXT) (k : Nat) (f : Addr) (ks : List Str) (sp : List V → List V → Hp → VK → XK → Prop) : Prop :=
  ∀ (A : Around) (outer : List Env) (s : Shared) (H : Hp) (us ws : List Value) (vs zs : List V) (Q : VK) (E : XK), Room k A → Env0 P w K mg base A outer s H → Vals vs us → Vals zs ws → sp vs zs H Q E →
    codeAny (model P w) A (.call (.ref f) ⟨us, ks.zip ws⟩) (CR CX outer P w H s Q E) s
/-- a dict filled by its names -/
theorem kx_nsSet {prog : Program} {w : World} {A : Around} {E : Value → Shared → Prop} {s : Shared} {d : Addr} {es : List DictEntry} {n : Nat} {k : Str} {v : Value} {Q : Unit → Shared → Prop} (hd : s.heap.get? d = some (PySem.W.dictOf es n))
    (hs : ∀ e ∈ es, e.key.isStr k = false) (hr : ∀ e ∈ es, e.refKey = false)
    (h : ∀ h', h'.get? d = some (PySem.W.dictOf (es ++ [⟨PyData.keyHash w.params k, .str k s.toks, v⟩]) (n + 1)) → Heap.SameBut d s.heap h' → Q () { s with heap := h', toks := s.toks + 1 }) :
    wpAny (model prog w) A (nsSet d k v) Q E s := by
  have e1 : es.any (·.key.isStr k) = false := by
    cases q : es.any (·.key.isStr k) with
    | false => rfl
    | true => obtain ⟨e, he, z⟩ := List.any_eq_true.mp q; rw [hs e he] at z; cases z
  have e2 : es.any (·.refKey) = false := by
    cases q : es.any (·.refKey) with
    | false => rfl
    | true => obtain ⟨e, he, z⟩ := List.any_eq_true.mp q; rw [hr e he] at z; cases z
  have e : Obj.putName k (PyData.keyHash w.params k) (.str k s.toks) v (PySem.W.dictOf es n) = PySem.W.dictOf (es ++ [⟨PyData.keyHash w.params k, .str k s.toks, v⟩]) (n + 1) := by
    rw [PySem.W.putName_dict, PySem.W.putL_new hs]
    show PySem.W.dictOf _ (if es.any (·.key.isStr k) then n else n + 1) = _
    rw [e1, if_neg Bool.false_ne_true]
  have c : aRefKeyMayBeTheName k es.toArray = false := by
    rw [aRefKeyMayBeTheName_at, ← Array.any_toList, ← Array.any_toList]
    show (!es.any (·.key.isStr k) && es.any (·.refKey)) = false
    rw [e2, Bool.and_false]
  unfold nsSet
  refine wpAny_bind (wpAny_bind (wpAny_askSetting (wpAny_pure (wpAny_bind (wpAny_mkText (wpAny_bind (wpAny_loadPart hd ?_)))))))
  dsimp only
  rw [c]
  refine wpAny_updatePart hd (h _ ?_ (Heap.SameBut.update ..))
  have z := Heap.get?_update_self (h := s.heap) (Obj.putName k (PyData.keyHash w.params k) (.str k s.toks) v) hd (by rw [e]; rfl)
  rw [e] at z
  exact z
theorem kx_fill {prog : Program} {w : World} {A : Around} {E : Value → Shared → Prop} {d : Addr} {Q : PUnit → Shared → Prop} : ∀ (ex : List (Str × Value)) (s : Shared) (es : List DictEntry) (n : Nat), s.heap.get? d = some (PySem.W.dictOf es n) →
    (∀ e ∈ es, ∀ x ∈ ex, e.key.isStr x.1 = false) → (∀ e ∈ es, e.refKey = false) → (ex.map (·.1)).Nodup →
    (∀ h', h'.get? d = some (PySem.W.dictOf (es ++ PySem.W.kwEs w.params s.toks ex) (n + ex.length)) → Heap.SameBut d s.heap h' → Q ⟨⟩ { s with heap := h', toks := s.toks + ex.length }) →
    wpAny (model prog w) A (forIn ex PUnit.unit fun x _ => (nsSet d x.1 x.2 >>= fun _ => pure (ForInStep.yield PUnit.unit))) Q E s
  | [], s, es, n, hd, _, _, _, h => by
    rw [List.forIn_nil]
    refine wpAny_pure (h s.heap ?_ (Heap.SameBut.refl ..))
    show s.heap.get? d = some (PySem.W.dictOf (es ++ []) n)
    rw [List.append_nil]
    exact hd
  | x :: r, s, es, n, hd, hs, hr, hn, h => by
    obtain ⟨hn1, hn2⟩ := List.nodup_cons.mp (show (x.1 :: r.map (·.1)).Nodup from hn)
    rw [List.forIn_cons]
    refine wpAny_bind (wpAny_bind (kx_nsSet hd (fun e he => hs e he x (.head _)) hr fun h' hd' sb => wpAny_pure ?_))
    show wpAny (model prog w) A (forIn r PUnit.unit fun x _ => (nsSet d x.1 x.2 >>= fun _ => pure (ForInStep.yield PUnit.unit))) Q E { s with heap := h', toks := s.toks + 1 }
    refine kx_fill r { s with heap := h', toks := s.toks + 1 } _ _ hd' (fun e he y hy => ?_) (fun e he => ?_) hn2 fun h'' hd'' sb' => ?_
    · rcases List.mem_append.mp he with he | he
      · exact hs e he y (.tail _ hy)
      · obtain rfl := List.mem_singleton.mp he
        show (x.1 == y.1) = false
        exact beq_eq_false_iff_ne.mpr fun q => hn1 (by rw [q]; exact List.mem_map_of_mem hy)
    · rcases List.mem_append.mp he with he | he
      · exact hr e he
      · obtain rfl := List.mem_singleton.mp he
        rfl
    · have t1 : s.toks + 1 + r.length = s.toks + (r.length + 1) := by omega
      have t2 : n + 1 + r.length = n + (r.length + 1) := by omega
      show Q ⟨⟩ { s with heap := h'', toks := s.toks + 1 + r.length }
      rw [t1]
      refine h h'' ?_ (sb.trans sb')
      rw [t2, List.append_assoc] at hd''
      exact hd''
section
variable {P : Program} {w : World} {K : PySem.W.Frag} {mg : Str → Option Value} {base : Heap} {A : Around} {outer : List Env} {s : Shared} {H : Hp}
theorem env0_to {u : HO} {h' : Heap} {t' : Nat} (e0 : Env0 P w K mg base A outer s H) (kp : ∀ b x, s.heap.get? b = some x → h'.get? b = some x) (le : s.heap.objs.size ≤ h'.objs.size) (new : ObjOk P w (upd H s.heap.objs.size u) h' s.heap.objs.size u) :
    Env0 P w K mg base A outer { s with heap := h', toks := t' } (upd H s.heap.objs.size u) := by
  refine ⟨e0.frames, e0.mod, fun b x e => ⟨kp b x (e0.bs b x e).1, ?_⟩, Nat.le_trans e0.bsz le, Heap.FunFrames.of_keeps (fun b x e _ => ⟨x, kp b x e, rfl⟩) e0.funs, fun b hb => ?_, e0.hok.laid kp (Nat.le_refl _) new, e0.bare⟩
  · rw [upd_ne (Nat.ne_of_lt (Heap.lt_size (e0.bs b x e).1))]
    exact (e0.bs b x e).2
  · obtain ⟨_, x, hx, _⟩ := e0.funs.mem hb
    rw [upd_ne (Nat.ne_of_lt (Heap.lt_size hx))]
    exact e0.frf b hb
theorem kw_pairs {prog : Program} {w : World} : ∀ (ex : List (Str × Value)) (t : Tok), Pairs (mixKind prog w) (PySem.W.kwEs w.params t ex) (ex.map fun x => (Sum.inr x.1, x.2))
  | [], _ => .nil
  | x :: r, t => .cons (mixKind_str prog w x.1 t) rfl (kw_pairs r (t + 1))
theorem kw_dict {prog : Program} {w : World} {h : Heap} {d : Addr} {ex : List (Str × Value)} {t : Tok} {n : Nat} (hd : h.get? d = some (PySem.W.dictOf (PySem.W.kwEs w.params t ex) n)) (hn : (ex.map (·.1)).Nodup) :
    h.DictOf (mixKind prog w) d (ex.map fun x => (Sum.inr x.1, x.2)) := by
  refine ⟨_, (PySem.W.kwEs w.params t ex).toArray, n, hd, ⟨rfl, rfl, rfl⟩, rfl, fun e he => ?_, kw_pairs ex t, ?_⟩
  · obtain ⟨k, u, hk, hh⟩ := PySem.W.kwEs_key ex t e (List.mem_toArray.mp he)
    exact ⟨Sum.inr k, by rw [hk]; exact mixKind_str prog w k u, hh.trans rfl⟩
  · rw [List.map_map]
    show (ex.map fun x => (Sum.inr x.1 : Key)).Nodup
    have e : (ex.map fun x => (Sum.inr x.1 : Key)) = (ex.map (·.1)).map Sum.inr := by rw [List.map_map]; rfl
    rw [e]
    exact List.Pairwise.map Sum.inr (fun a b ne z => ne (Sum.inr.inj z)) hn
theorem kv_zip : ∀ {ks : List Str} {zs : List V} {ws : List Value}, Vals zs ws → KV (kvK ks zs) ((ks.zip ws).map fun x => (Sum.inr x.1, x.2))
  | [], _, _, _ => by
    unfold kvK
    simp
    exact .nil
  | k :: ks, _, _, .nil => .nil
  | k :: ks, _, _, .cons r t => .cons ⟨rfl, r⟩ (kv_zip (ks := ks) t)
end
end KwX
set_option Elab.async false
set_option linter.all false
set_option maxRecDepth 100000
set_option maxHeartbeats 4000000
set_option pp.maxSteps 1500
namespace KwX
open PySem PySem.Spec PyProof.Rows L2 StX
section
variable {CX : CXT} {P : Program} {w : World} {K : PySem.W.Frag} {mg : Str → Option Value} {base : Heap} {k : Nat} {f : Addr} {name qual : Str} {params : Arguments} {body : List Stmt} {scope : Scope} {dV kV doc pm cdv ct oc : Value} {an od : Option Addr}
  {osl : Array (Option Value)} {N ps ks : List Str} {sp : Sp} {pd : Str}
/-- def f(a, .., **d), called with values for a, .. and keywords ks that are no parameters: a new dict of them -/
theorem fn_kw (lk : K.lookup f = some ⟨oc, od, .func (PySem.W.fnOf name qual params body scope dV kV doc pm an cdv ct), osl⟩) (hcd : PySem.W.codeIn K cdv qual = true) (S : FnScope N (ps ++ [pd]) scope) (hCX : CXUp CX) (hnd : ks.Nodup) (hks : ks.length ≤ 1000)
    (hb : ∀ us ws : List Value, us.length = ps.length → ws.length = ks.length → bindArgs (PySem.W.fnOf name qual params body scope dV kV doc pm an cdv ct) ⟨us, ks.zip ws⟩ =
      ((alloc ({ cls := .type "dict", data := .dict #[] } : Obj) : Sem Addr) >>= fun d => (forIn (ks.zip ws) PUnit.unit fun x _ => (nsSet d x.1 x.2 >>= fun _ => pure (ForInStep.yield PUnit.unit))) >>= fun _ => pure (ps.zip us ++ [(pd, Value.ref d)])))
    (hbody : ∀ (A : Around) (outer : List Env) (s : Shared) (H : Hp) (vs : List V) (Q : VK) (E : XK), Room k (A.deeper (envOfC qual scope s.heap.objs.size f cdv)) → sp vs H Q E →
      ∃ t, PSs (cxOf CX P w K mg base N qual scope f cdv A outer s H E) body t ∧ t { nx := fun _ H' => Q .non H', rt := Q } (start N vs) H) :
    FnRK P w K mg base CX (k + 1) f ks (fun vs zs H Q E => vs.length = ps.length ∧ zs.length = ks.length ∧ ∀ d, H d = none → sp (vs ++ [V.ref d]) (upd H d (.dK (kvK ks zs))) Q E) := by
  intro A outer s H us ws vs zs Q E hr e0 r rz hsp
  obtain ⟨hl, hz, hq⟩ := hsp
  have hl1 : us.length = ps.length := by rw [← r.length]; exact hl
  have hl2 : ws.length = ks.length := by rw [← rz.length]; exact hz
  have hn : H s.heap.objs.size = Option.none := e0.hok.fresh (Nat.le_refl _)
  refine run_bnd lk hcd S hr e0 (G := fun xs H2 => ∃ d, H d = none ∧ xs = vs ++ [V.ref d] ∧ H2 = upd H d (.dK (kvK ks zs))) (fun A' Ex Q' h => ?_) fun s2 H2 xs ⟨d, hd, ex, eH⟩ hr' => ?_
  · rw [hb us ws hl1 hl2]
    refine wpAny_bind (wpAny_alloc ?_)
    have hnz : ((ks.zip ws).map (·.1)).Nodup := by
      rw [List.map_fst_zip (by rw [hl2]; exact Nat.le_refl _)]
      exact hnd
    have g0 : (s.heap.push ({ cls := .type "dict", data := .dict #[] } : Obj)).get? s.heap.objs.size = some (PySem.W.dictOf [] 0) := Heap.get?_push_size _ rfl
    refine wpAny_bind (kx_fill (ks.zip ws) _ [] 0 g0 (fun _ he => nomatch he) (fun _ he => nomatch he) hnz fun h' hd' sb => wpAny_pure ?_)
    have kp : ∀ b x, s.heap.get? b = some x → h'.get? b = some x := fun b x e => by
      rw [sb.2 b (Nat.ne_of_lt (Heap.lt_size e))]
      exact Heap.get?_push_of_some _ e
    have hbig : sysModules < s.heap.objs.size := env0_big e0
    have hlen : (kvK ks zs).length ≤ sizeLine := by
      unfold kvK
      rw [List.length_zip, List.length_map, hz]
      exact Nat.le_trans (Nat.min_le_left ..) (Nat.le_trans hks (by decide))
    have new : ObjOk P w (upd H s.heap.objs.size (.dK (kvK ks zs))) h' s.heap.objs.size (.dK (kvK ks zs)) :=
      ⟨hlen, beq_eq_false_iff_ne.mpr (Ne.symm (Nat.ne_of_lt hbig)), _, kv_zip rz, kw_dict hd' hnz⟩
    have le : s.heap.objs.size ≤ h'.objs.size := Nat.le_of_lt (Heap.lt_size hd')
    have un := Un.laid (fs := frs outer) (ex := []) (H := H) (h := s.heap) (h' := h') (a := s.heap.objs.size) (o := .dK (kvK ks zs)) kp (Nat.le_refl _) hn
    have z := h _ _ (vs ++ [V.ref s.heap.objs.size]) (us ++ [Value.ref s.heap.objs.size]) (env0_to (t' := s.toks + (ks.zip ws).length) e0 kp le new) un rfl
      (fun e s' => hCX outer s H _ _ E e s' un kp rfl) (r.append (.cons rfl .nil)) (by rw [List.length_append, List.length_append, hl] <;> rfl) ⟨_, hn, rfl, rfl⟩
    rw [List.zip_append hl1.symm] at z
    exact z
  · subst ex eH
    exact hbody A outer s2 _ _ Q E hr' (hq d hd)
end
/-! ### o.m(k = v, ..) -/
def tMethKw (C : Addr) (m : Str) (sp : List V → List V → Hp → VK → XK → Prop) (E : XK) (ta : TE) (tk : TA) : TE := fun σ H Q => ta σ H fun x H1 => ∃ a dx fs, x = .ref a ∧ H1 a = some (.ins C dx fs) ∧ fs.lookup m = none ∧ tk σ H1 fun zs H2 => sp [x] zs H2 Q E
section
variable {X : Cx} {CX : CXT} {k : Nat} {f C : Addr} {ks : List Str} {sp : List V → List V → Hp → VK → XK → Prop} {E : XK} {m : Str} {pos apos : Pos} {o : Expr} {kws : List Keyword} {ta : TE} {tk : TA}
theorem run_fnRK {pins : List (Addr × Obj)} {σ : L2.St} {H : Hp} {s : Shared} {Q : VK} {us ws : List Value} {vs zs : List V} (F : FnRK X.prog X.w X.K X.mg X.base CX k f ks sp) (hr : Room k X.A) (hx : Passes CX X E) (I : Inv X pins σ H s) (r : Vals vs us) (rz : Vals zs ws) (h : sp vs zs H Q E) :
    codeAny (model X.prog X.w) X.A (.call (.ref f) ⟨us, ks.zip ws⟩) (fun r s' => match r with | .ok (.ret v) => EP X pins σ Q v s' | .ok _ => False | .error e => X.xe e s') s := by
  refine codeAny_mono (F X.A X.stack s H us ws vs zs Q E hr I.env0 r rz h) fun r s' hq => ?_
  cases r with
  | error e => exact hx pins σ H s e s' I hq
  | ok fl =>
    cases fl with
    | ret u => exact I.after hq
    | next => exact False.elim hq
    | brk => exact False.elim hq
    | cont => exact False.elim hq
theorem pe_methKw {pl : Sem Bool} (he : PE X o ta) (c : Cls X.K C) (hm : Meth X.K C m f) (F : FnRK X.prog X.w X.K X.mg X.base CX k f ks sp) (hr : Room k X.A) (hx : Passes CX X E) (hkw : PK X kws tk)
    (hall : (backToKw pos (keywordEach kws X.env)).all (·.1.isSome) = true := by rfl) (hks : (backToKw pos (keywordEach kws X.env)).filterMap (·.1) = ks := by rfl)
    (hpl : ((backTo pos (starEach [] X.env)).any (·.1) || (backToKw pos (keywordEach kws X.env)).any (·.1.isNone)) = false := by rfl)
    (ht : eval (.Call (.Attribute o m apos) [] kws pos) X.env = (do
      let ov ← eval o X.env
      standAt apos.atName
      let (f, first) ← holding [ov] (getMethod ov m pl)
      callWith pos f first (backTo pos (starEach [] X.env)) (backToKw pos (keywordEach kws X.env))) := by rfl) :
    PE X (.Call (.Attribute o m apos) [] kws pos) (tMethKw C m sp E ta tk) := by
  refine ⟨fun pins s σ H Q I h => ?_⟩
  refine PySem.W.methodCall_KW (pl := pl) (thn (he.run pins s σ H _ I h) fun u s1 ⟨x, H1, I1, rx, a, dx, fs, ex, ea, l, q⟩ => ?_) ht
  subst ex
  obtain rfl : u = Value.ref a := rx
  refine getmeth_ok I1 ea c hm l ?_
  refine PySem.W.callWith_KW0 (first := [.ref a]) (h₀ := X.base) I.ok.mod.kin hm.kp hall ?_ hpl
  refine thn (hkw.run pos pins s1 σ H1 _ I1 q) fun ws s2 ⟨zs, H2, I2, rz, q2⟩ => ⟨I2.kIn, ?_⟩
  rw [hks]
  exact wpAny_call (run_fnRK (us := [.ref a]) (vs := [.ref a]) F hr hx I2 (.cons rfl .nil) rz q2)
end
end KwX
set_option Elab.async false
set_option linter.all false
set_option maxRecDepth 100000
set_option maxHeartbeats 4000000
set_option pp.maxSteps 1500
namespace KwX
open PySem PySem.Spec PyProof.Rows L2 StX
theorem fitsN {n : Nat} (h : n ≤ 1000) : n ≤ sizeLine := Nat.le_trans h (by decide)
section
variable {X : Cx}
/-- d.update(e): dicts with keys ints and texts -/
def tDUpd (td te : TE) : TE := fun σ H Q => td σ H fun x H1 => ∃ a, x = .ref a ∧ IsD H1 a ∧ te σ H1 fun y H2 => ∃ o kvs more, y = .ref o ∧ H2 a = some (.dK kvs) ∧ H2 o = some (.dK more) ∧ a ≠ o ∧ kvs.length + more.length ≤ 1000 ∧ Q .non (upd H2 a (.dK (mergeK kvs more)))
theorem pe_dupd {o e : Expr} {td te : TE} {apos pos : Pos} (ho : PE X o td) (he : PE X e te) (m : M1 X o "update" apos e pos) : PE X (.Call (.Attribute o "update" apos) [e] [] pos) (tDUpd td te) := by
  refine ⟨fun pins s σ H Q I h => ?_⟩
  refine wpAny_Call_method m.base m.few m.line PySem.F.plainAttrs_dict PySem.F.slot_dict_update PySem.F.type_dict_update (thn (ho.run pins s σ H _ I h) fun u s1 ⟨x, H1, I1, rx, a, ex, d, q1⟩ => ?_)
  subst ex
  obtain rfl : u = Value.ref a := rx
  obtain ⟨t1, t2, _⟩ := isD_at I1 d
  refine ⟨t1, t2, ?_⟩
  rw [m.trees]
  refine Calls.callWith_builtin rfl (Calls.evalArgs_plain (Calls.spliced_cons (thn (he.run pins s1 σ H1 _ I1 q1) fun iv s2 ⟨y, H2, I2, ry, ov, kvs, more, ey, e1, e2, hne, hl, q2⟩ => Calls.spliced_nil ?_)))
  subst ey
  cases ry
  obtain ⟨z, hd, vs, rel, dd⟩ := dk_of I2.hok e1
  obtain ⟨z2, hd2, vs2, rel2, dd2⟩ := dk_of I2.hok e2
  have lz := length_mergeK more kvs
  refine call_meetsIn PySem.F.slot_dict_update dd.typeIs PySem.F.entry_dict_update (PySem.F.args_dict_update_2 _ _) (meets_dict_update (mixKind X.prog X.w) a ov hne hd2) ⟨vs, vs2, dd, dd2, by rw [← rel.length, ← rel2.length]; exact fitsN (by omega), fun h' dd' _ hs => ?_⟩
  have he' : ∃ q, h'.get? a = some q := let ⟨q, _, _, hq, _⟩ := dd'; ⟨q, hq⟩
  exact ⟨.non, _, d_write I2 (by rw [e1]; exact True.intro) hs he' (dk_new (fitsN (by omega)) hd (rel2.merge rel) dd'), rfl, q2⟩
end
section
variable {CX : CXT} {P : Program} {w : World} {K : PySem.W.Frag} {mg : Str → Option Value} {base : Heap} {k : Nat} {f : Addr} {fd : FuncData} {x qual : Str} {st : Stmt} {N ps ks : List Str} {sp : Sp} {pd : Str}
/-- a def with ** called with keywords, by its body -/
theorem fun_kw (F : Fun K x qual st f fd) (S : FnScope N (ps ++ [pd]) (defScope st)) (hCX : CXUp CX) (hnd : ks.Nodup) (hks : ks.length ≤ 1000)
    (hb : ∀ (kV doc pm : Value) (an : Option Addr) (cdv ct : Value) (us ws : List Value), us.length = ps.length → ws.length = ks.length → bindArgs (PySem.W.fnOf x qual (defArgs st) (defBody st) (defScope st) .none kV doc pm an cdv ct) ⟨us, ks.zip ws⟩ =
      ((alloc ({ cls := .type "dict", data := .dict #[] } : Obj) : Sem Addr) >>= fun d => (forIn (ks.zip ws) PUnit.unit fun x _ => (nsSet d x.1 x.2 >>= fun _ => pure (ForInStep.yield PUnit.unit))) >>= fun _ => pure (ps.zip us ++ [(pd, Value.ref d)])))
    (hbody : ∀ (cdv : Value) (A : Around) (outer : List Env) (s : Shared) (H : Hp) (vs : List V) (Q : VK) (E : XK), Room k (A.deeper (envOfC qual (defScope st) s.heap.objs.size f cdv)) → sp vs H Q E →
      ∃ t, PSs (cxOf CX P w K mg base N qual (defScope st) f cdv A outer s H E) (defBody st) t ∧ t { nx := fun _ H' => Q .non H', rt := Q } (start N vs) H) :
    FnRK P w K mg base CX (k + 1) f ks (fun vs zs H Q E => vs.length = ps.length ∧ zs.length = ks.length ∧ ∀ d, H d = none → sp (vs ++ [V.ref d]) (upd H d (.dK (kvK ks zs))) Q E) := by
  obtain ⟨oc, od, kV, doc, pm, an, cdv, ct, osl, rfl, lk, hcd⟩ := F.ex
  exact fn_kw lk hcd S hCX hnd hks (hb kV doc pm an cdv ct) fun A outer s H vs Q E hr hsp => hbody cdv A outer s H vs Q E hr hsp
end
end KwX
set_option Elab.async false
set_option linter.all false
set_option maxRecDepth 100000
set_option maxHeartbeats 4000000
namespace Lay
open PySem L2
def top (i : Nat) : Stmt := PySem.Challenge.pw_laytwice_k23_forms_told.main.body.getD i (.Pass ⟨0, 0, 0, 0⟩)
abbrev sBox : Stmt := top 23
abbrev sTake : Stmt := top 24
abbrev sPick : Stmt := top 25

/-! ### the box of draws -/
def Boxy (o : HO) : Prop := ∃ g s n : Int, o = .lst [.int g, .int s, .int n]
def BoxAt (H : Hp) (b : Addr) : Prop := ∃ o, H b = some o ∧ Boxy o
/-- all that is tracked beside b is as it was -/
def Kept (b : Addr) (H H' : Hp) : Prop := ∀ a o, a ≠ b → H a = some o → H' a = some o
theorem Kept.refl (b : Addr) (H : Hp) : Kept b H H := fun _ _ _ h => h
theorem Kept.trans {b : Addr} {H H1 H2 : Hp} (x : Kept b H H1) (y : Kept b H1 H2) : Kept b H H2 := fun a o n h => y a o n (x a o n h)
theorem Kept.of_same {b : Addr} {H H' : Hp} (x : Same H H') : Kept b H H' := fun a o _ h => x a o h
theorem Kept.box {b : Addr} {H : Hp} {o : HO} : Kept b H (upd H b o) := fun a u n h => by rw [upd_ne n]; exact h
theorem Kept.new {b a : Addr} {H : Hp} {o : HO} (h : H a = none) : Kept b H (upd H a o) := fun c u _ e => by
  rw [upd_ne (ne_of_none e h)]
  exact e
theorem Same.new {a : Addr} {H : Hp} {o : HO} (h : H a = none) : Same H (upd H a o) := fun c u e => by
  rw [upd_ne (ne_of_none e h)]
  exact e
theorem BoxAt.new {b a : Addr} {H : Hp} {o : HO} (x : BoxAt H b) (h : H a = none) : BoxAt (upd H a o) b := by
  obtain ⟨u, e, y⟩ := x
  exact ⟨u, Same.new h _ _ e, y⟩
theorem BoxAt.box {b : Addr} {H : Hp} {o : HO} (y : Boxy o) : BoxAt (upd H b o) b := ⟨o, upd_same, y⟩
theorem BoxAt.ne {b a : Addr} {H : Hp} (x : BoxAt H b) (h : H a = none) : a ≠ b := by
  obtain ⟨u, e, y⟩ := x
  exact (ne_of_none e h).symm

/-- what the draws want of the module's names -/
structure TxtD (mg : Str → Option Value) : Prop where
  int : mg "int" = none
  len : mg "len" = none
  abs : mg "abs" = none
  range : mg "range" = none

def spTake : Sp := fun vs H Q _ => ∃ (b : Addr) (m : Int), vs = [.ref b, .int m] ∧ BoxAt H b ∧ 0 < m ∧ m < 1073741824 ∧
  ∀ (r : Int) (o : HO), 0 ≤ r → r < m → Boxy o → Q (.int r) (upd H b o)
def spPick (K : PySem.W.Frag) : Sp := fun vs H Q _ => ∃ (b l : Addr) (xs : List V), vs = [.ref b, .ref l] ∧ BoxAt H b ∧ l ≠ b ∧ SqL K H l xs ∧ 0 < xs.length ∧ xs.length ≤ 1000 ∧
  ∀ (v : V) (o : HO), v ∈ xs → Boxy o → Q v (upd H b o)
theorem SqL.kept {K : PySem.W.Frag} {b a : Addr} {H H' : Hp} {xs : List V} (k : Kept b H H') (n : a ≠ b) (h : SqL K H a xs) : SqL K H' a xs := by
  rcases h with (h | ⟨o, h⟩) | h
  · exact .inl (.inl (k _ _ n h))
  · exact .inl (.inr ⟨o, k _ _ n h⟩)
  · exact .inr h
theorem SqT.kept {K : PySem.W.Frag} {b a : Addr} {H H' : Hp} {xs : List V} (k : Kept b H H') (n : a ≠ b) (h : SqT K H a xs) : SqT K H' a xs := by
  rcases h with (h | ⟨o, h⟩) | h
  · exact .inl (.inl (k _ _ n h))
  · exact .inl (.inr ⟨o, k _ _ n h⟩)
  · exact .inr h

theorem lt40 {m : Int} (h : m < 1073741824) : m < 2 ^ (40 : Int).toNat := by
  have e : (2 : Int) ^ (40 : Int).toNat = 1099511627776 := by decide
  omega
section
variable {P : Program} {w : World} {K : PySem.W.Frag} {mg : Str → Option Value} {base : Heap}
theorem scTake : FnScope ["_law_box_here", "_law_many", "_law_digit", "_law_raw", "_law_wide"] ["_law_box_here", "_law_many"] (defScope sTake) := ⟨rfl, rfl, rfl, by decide +kernel, rfl, by decide +kernel, by decide +kernel⟩
theorem ok_take {f : Addr} {fd : FuncData} (F : Fun K "_law_take" "_law_take" sTake f fd) (T : TxtD mg) : FnOk P w K mg base CX0 1 f fd ["_law_box_here", "_law_many"] spTake := by
  refine F.ok scTake (fun vs H Q E h => ?_) (fun cdv A outer s H vs Q E hr h => ?_)
  · obtain ⟨b, m, rfl, _⟩ := h
    rfl
  · obtain ⟨b, m, rfl, ⟨o, hb, g, s, n, rfl⟩, hm0, hm1, k⟩ := h
    refine ⟨_, (pss_cons (ps_if (pt_cmpR op_gt (pe_ix ix_list (pv 0) pe_int (fun _ _ => rfl)) pe_int (nomark _))
      (pss_cons (ps_set (i := 2) scTake.nd rfl (.inl rfl) (pe_op op_mod (pe_callTy call_int1 (by rfl) T.int (by decide +kernel) (pa_cons (pe_ix ix_list (pv 0) pe_int (fun _ _ => rfl)) pa_nil)) (pv 1)))
      (pss_cons (ps_asg (pe_op op_fdiv (pe_ix ix_list (pv 0) pe_int (fun _ _ => rfl)) (pv 1)) (pg_sub (pv 0) pe_int set_list))
      (pss_one (ps_ret (pv 2)))))
      pss_nil)
    (pss_cons (ps_asg (pe_op op_add (pe_ix ix_list (pv 0) pe_int (fun _ _ => rfl)) pe_int) (pg_sub (pv 0) pe_int set_list))
    (pss_cons (ps_set (i := 3) scTake.nd rfl (.inl rfl) (pe_op op_mod (pe_callTy call_int1 (by rfl) T.int (by decide +kernel) (pa_cons (pe_op op_mul (pe_op op_add (pe_ix ix_list (pv 0) pe_int (fun _ _ => rfl)) (pe_op op_mul pe_int (pe_ix ix_list (pv 0) pe_int (fun _ _ => rfl)))) pe_int) pa_nil)) pe_int))
    (pss_cons (ps_asg (pe_op op_add (pe_op op_mod (pe_callTy call_int1 (by rfl) T.int (by decide +kernel) (pa_cons (pe_op op_add (pe_op op_mul (pv 3) pe_int) pe_int) pa_nil)) pe_int) pe_int) (pg_sub (pv 0) pe_int set_list))
    (pss_cons (ps_if (pt_cmpR op_lt (pv 1) (pe_op op_pow pe_int pe_int) (nomark _))
      (pss_one (ps_ret (pe_op op_mod (pe_callTy call_int1 (by rfl) T.int (by decide +kernel) (pa_cons (pe_op op_fdiv (pe_op op_add (pe_op op_mul (pv 3) pe_int) (pe_ix ix_list (pv 0) pe_int (fun _ _ => rfl))) pe_int) pa_nil)) (pv 1))))
      pss_nil)
    pss_never))))), ?_⟩
    refine ⟨_, rfl, b, _, _, _, rfl, rfl, SqL.of hb, rfl, _, _, rfl, rfl, _, rfl, ?_⟩
    refine ite2 (fun h0 => ?_) (fun h0 => ?_)
    · refine ⟨_, rfl, b, _, _, _, rfl, rfl, SqL.of hb, rfl, .inl ⟨_, rfl, _, rfl, _, _, rfl, rfl, hm0, ?_⟩⟩
      refine ⟨_, rfl, b, _, _, _, rfl, rfl, SqL.of hb, rfl, _, rfl, _, _, rfl, rfl, ⟨hm0, hm1⟩, _, rfl, b, _, _, 0, rfl, rfl, hb, rfl, ?_⟩
      refine ⟨_, rfl, k _ _ (Int.emod_nonneg _ (by omega)) (Int.emod_lt_of_pos _ hm0) ⟨_, _, _, rfl⟩⟩
    · refine ⟨_, rfl, b, _, _, _, rfl, rfl, SqL.of hb, rfl, _, _, rfl, rfl, _, rfl, b, _, _, 2, rfl, rfl, hb, rfl, ?_⟩
      refine ⟨_, rfl, b, _, _, _, rfl, rfl, SqL.of upd_same, rfl, _, rfl, b, _, _, _, rfl, rfl, SqL.of upd_same, rfl, _, _, rfl, rfl, .inl ⟨by decide, by decide⟩, _, _, rfl, rfl, _, _, rfl, rfl, .inr ⟨by decide, by decide⟩, .inl ⟨_, rfl, _, _, rfl, rfl, (by show (0 : Int) < 2147483647; decide), ?_⟩⟩
      refine ⟨_, rfl, _, _, rfl, rfl, .inr ⟨by decide, by decide⟩, _, _, rfl, rfl, .inl ⟨_, rfl, _, _, rfl, rfl, (by show (0 : Int) < 2147483629; decide), _, _, rfl, rfl, _, rfl, b, _, _, 1, rfl, rfl, upd_same, rfl, ?_⟩⟩
      rw [upd_upd]
      refine ⟨_, rfl, _, _, rfl, rfl, ⟨by decide, by decide, by decide⟩, _, _, rfl, rfl, _, rfl, ?_⟩
      refine ite2 (fun _ => ?_) (fun h1 => absurd (decide_eq_true (lt40 hm1)) h1)
      refine ⟨_, rfl, _, _, rfl, rfl, .inr ⟨by decide, by decide⟩, _, rfl, b, _, _, _, rfl, rfl, SqL.of upd_same, rfl, _, _, rfl, rfl, _, _, rfl, rfl, ⟨by decide, by decide⟩, .inl ⟨_, rfl, _, rfl, _, _, rfl, rfl, hm0, ?_⟩⟩
      exact k _ _ (Int.emod_nonneg _ (by omega)) (Int.emod_lt_of_pos _ hm0) ⟨_, _, _, rfl⟩

theorem scPick : FnScope ["_law_box_here", "_law_items"] ["_law_box_here", "_law_items"] (defScope sPick) := ⟨rfl, rfl, rfl, by decide +kernel, rfl, by decide +kernel, by decide +kernel⟩
theorem ok_pick {f fT : Addr} {fd fdT : FuncData} (F : Fun K "_law_pick" "_law_pick" sPick f fd) (T : TxtD mg) (FT : Fun K "_law_take" "_law_take" sTake fT fdT) (bT : Binds K fdT ["_law_box_here", "_law_many"] []) (gT : mg "_law_take" = some (.ref fT)) :
    FnOk P w K mg base CX0 2 f fd ["_law_box_here", "_law_items"] (spPick K) := by
  have GT : FnOk P w K mg base CX0 1 fT fdT ["_law_box_here", "_law_many"] spTake := ok_take FT T
  refine F.ok scPick (fun vs H Q E h => ?_) (fun cdv A outer s H vs Q E hr h => ?_)
  · obtain ⟨b, l, xs, rfl, _⟩ := h
    rfl
  · obtain ⟨b, l, xs, rfl, hb, hl, hs, h0, h1, k⟩ := h
    refine ⟨_, (pss_one (ps_ret (pe_ix ix_list (pv 1) (pe_call GT hr (by rfl) gT FT.kp bT .nil pass0 (pa_cons (pv 0) (pa_cons (pe_callB call_len_seq (by rfl) T.len (by decide +kernel) (pa_cons (pv 1) pa_nil)) pa_nil))) (fun _ _ => rfl)))), ?_⟩
    refine ⟨_, rfl, _, rfl, _, rfl, l, xs, rfl, .inl hs, b, _, rfl, hb, by omega, by omega, fun r o r0 r1 ho => ?_⟩
    have hr' : r.toNat < xs.length := by omega
    have er : r = ((r.toNat : Nat) : Int) := by omega
    exact ⟨l, xs, r, xs[r.toNat], rfl, rfl, SqL.kept Kept.box hl hs, at_of er (by simp [hr']), k _ _ (List.getElem_mem hr') ho⟩

def spBox (K : PySem.W.Frag) : Sp := fun vs H Q _ => ∃ (a : Addr) (ns : List Int) (i j : Int), vs = [.ref a, .int i, .int j] ∧ SqL K H a (ns.map V.int) ∧ 0 ≤ i ∧ i ≤ 1000 ∧ 0 ≤ j ∧ j ≤ 1000 ∧ ns.length ≤ 1000 ∧
  ∀ (p : Addr) (H' : Hp), Same H H' → H p = none → BoxAt H' p → Q (.ref p) H'
theorem scBox : FnScope ["_law_script", "_law_k", "_law_own", "_law_cell", "_law_seed"] ["_law_script", "_law_k", "_law_own"] (defScope sBox) := ⟨rfl, rfl, rfl, by decide +kernel, rfl, by decide +kernel, by decide +kernel⟩
theorem ok_box {f : Addr} {fd : FuncData} (F : Fun K "_law_box" "_law_box" sBox f fd) (T : TxtD mg) : FnOk P w K mg base CX0 1 f fd ["_law_script", "_law_k", "_law_own"] (spBox K) := by
  refine F.ok scBox (fun vs H Q E h => ?_) (fun cdv A outer s H vs Q E hr h => ?_)
  · obtain ⟨a, ns, i, j, rfl, _⟩ := h
    rfl
  · obtain ⟨a, ns, i, j, rfl, hs, i0, i1, j0, j1, hn, k⟩ := h
    refine ⟨_, (pss_cons (ps_set (i := 3) scBox.nd rfl (.inl rfl) (pe_op op_add (pe_op op_add (pe_op op_mul pe_int (pv 1)) (pe_op op_mul pe_int (pv 2))) pe_int))
    (C8.pss_cut (ps_if (pt_cmpR op_lt (pv 1) (pe_callB call_len_seq (by rfl) T.len (by decide +kernel) (pa_cons (pv 0) pa_nil)) (nomark _))
      (pss_one (ps_set (i := 3) scBox.nd rfl (.inl rfl) (pe_callB call_abs (by rfl) T.abs (by decide +kernel) (pa_cons (pe_ix ix_list (pv 0) (pv 1) (fun _ _ => rfl)) pa_nil))))
      (pss_one (ps_if (pt_cmpR op_gt (pe_callB call_len_seq (by rfl) T.len (by decide +kernel) (pa_cons (pv 0) pa_nil)) pe_int (nomark _))
        (pss_one (ps_set (i := 3) scBox.nd rfl (.inl rfl) (pe_op op_add (pv 3) (pe_op op_mul (pe_op op_mod (pe_callTy call_int1 (by rfl) T.int (by decide +kernel) (pa_cons (pe_callB call_abs (by rfl) T.abs (by decide +kernel) (pa_cons (pe_ix ix_list (pv 0) (pe_op op_mod (pe_callTy call_int1 (by rfl) T.int (by decide +kernel) (pa_cons (pv 1) pa_nil)) (pe_callB call_len_seq (by rfl) T.len (by decide +kernel) (pa_cons (pv 0) pa_nil))) (fun _ _ => rfl)) pa_nil)) pa_nil)) pe_int) pe_int))))
        pss_nil)))
    (pss_cons (ps_set (i := 4) scBox.nd rfl (.inl rfl) (pe_op op_add (pe_op op_mod (pe_callTy call_int1 (by rfl) T.int (by decide +kernel) (pa_cons (pe_op op_add (pe_op op_mul (pe_op op_mod (pe_callTy call_int1 (by rfl) T.int (by decide +kernel) (pa_cons (pv 3) pa_nil)) pe_int) pe_int) (pe_op op_mul pe_int (pe_op op_add (pv 1) (pe_op op_mul pe_int (pv 2))))) pa_nil)) pe_int) pe_int))
    (pss_one (ps_ret (pe_lst (pa_cons (pe_ix ix_list (pe_lst (pa_cons pe_int (pa_cons (pv 3) pa_nil))) (pe_callTy call_int1 (by rfl) T.int (by decide +kernel) (pa_cons (pe_cmpR op_ge (pv 3) (pe_op op_pow pe_int pe_int) (nomark _)) pa_nil)) (fun _ _ => rfl)) (pa_cons (pv 4) (pa_cons pe_int pa_nil))))))))), ?_⟩
    refine ⟨_, rfl, _, _, rfl, rfl, .inl ⟨by decide, by decide⟩, _, rfl, _, _, rfl, rfl, .inl ⟨by decide, by decide⟩, _, _, rfl, rfl, _, _, rfl, rfl, ?_⟩
    refine ⟨fun σ' H' => H' = H ∧ ∃ c : Int, σ' = [some (.ref a), some (.int i), some (.int j), some (.int c), none], ?_, ?_⟩
    · have hl : (ns.map V.int).length = ns.length := List.length_map ..
      refine ⟨_, rfl, _, rfl, a, _, rfl, .inl hs, _, _, rfl, rfl, _, rfl, ?_⟩
      refine ite2 (fun h => ?_) (fun h => ?_)
      · have hi : i < (ns.map V.int).length := of_decide_eq_true h
        obtain ⟨z, hz⟩ : ∃ z, (ns.map V.int)[i.toNat]? = some (V.int z) := by
          refine ⟨ns[i.toNat]'(by omega), ?_⟩
          rw [List.getElem?_map, List.getElem?_eq_getElem (by omega)]
          rfl
        exact ⟨_, rfl, _, rfl, a, _, _, _, rfl, rfl, hs, at_of (by omega) hz, _, rfl, rfl, _, rfl⟩
      · refine ⟨_, rfl, a, _, rfl, .inl hs, _, _, rfl, rfl, _, rfl, ?_⟩
        refine ite2 (fun h2 => ?_) (fun _ => ⟨rfl, _, rfl⟩)
        have h2' : (0 : Int) < (ns.map V.int).length := of_decide_eq_true h2
        have m0 := Int.emod_nonneg i (show ((ns.map V.int).length : Int) ≠ 0 by omega)
        have m1 := Int.emod_lt_of_pos i h2'
        obtain ⟨z, hz⟩ : ∃ z, (ns.map V.int)[(i % ((ns.map V.int).length : Int)).toNat]? = some (V.int z) := by
          refine ⟨ns[(i % ((ns.map V.int).length : Int)).toNat]'(by omega), ?_⟩
          rw [List.getElem?_map, List.getElem?_eq_getElem (by omega)]
          rfl
        refine ⟨_, rfl, _, rfl, _, rfl, .inl ⟨_, rfl, _, rfl, a, _, rfl, .inl hs, _, _, rfl, rfl, h2', a, _, _, _, rfl, rfl, hs, at_of (by omega) hz, _, rfl, .inl ⟨_, rfl, _, _, rfl, rfl, (by show (0 : Int) < 2147483629; decide), _, _, rfl, rfl, .inr ⟨by decide, by decide⟩, _, _, rfl, rfl, rfl, _, rfl⟩⟩⟩
    · rintro σ' H' ⟨rfl, c, rfl⟩
      refine ⟨_, rfl, .inl ⟨_, rfl, _, _, rfl, rfl, (by show (0 : Int) < 2147483629; decide), _, _, rfl, rfl, .inr ⟨by decide, by decide⟩, _, rfl, _, rfl, _, _, rfl, rfl, .inl ⟨by decide, by decide⟩, _, _, rfl, rfl, _, _, rfl, rfl, .inl ⟨by decide, by decide⟩, _, _, rfl, rfl, .inl ⟨_, rfl, _, _, rfl, rfl, (by show (0 : Int) < 2147483629; decide), _, _, rfl, rfl, ?_⟩⟩⟩
      refine ⟨_, rfl, (by show 2 ≤ sizeLine; decide), fun l hl => ⟨_, rfl, _, _, rfl, rfl, ⟨by decide, by decide, by decide⟩, _, _, rfl, rfl, .inr ⟨_, rfl, l, _, _, if (decide ((10 : Int) ^ (18 : Int).toNat ≤ c)) = true then V.int c else V.int 0, rfl, rfl, SqL.of upd_same, ?_, ?_⟩⟩⟩
      · cases decide ((10 : Int) ^ (18 : Int).toNat ≤ c) <;> rfl
      · refine ⟨_, rfl, (by show 3 ≤ sizeLine; decide), fun p hp => ?_⟩
        refine k _ _ ((Same.new hl).trans (Same.new hp)) ((Same.new hl).free hp) ⟨_, upd_same, ?_⟩
        by_cases hc : (decide ((10 : Int) ^ (18 : Int).toNat ≤ c)) = true
        · rw [if_pos hc]
          exact ⟨_, _, _, rfl⟩
        · rw [if_neg hc]
          exact ⟨_, _, _, rfl⟩
end
end Lay
set_option Elab.async false
set_option linter.all false
set_option maxRecDepth 100000
set_option maxHeartbeats 4000000
namespace Lay
open PySem L2
/-- the names of the module that must be Python's own -/
structure TxtK (mg : Str → Option Value) : Prop where
  int : mg "int" = none
  bool : mg "bool" = none
  str : mg "str" = none
  list : mg "list" = none
  tuple : mg "tuple" = none
  isinstance : mg "isinstance" = none
  len : mg "len" = none
  all : mg "all" = none
  enumerate : mg "enumerate" = none
theorem TyOf.same {K : PySem.W.Frag} {H H' : Hp} {x : V} {t : Value} (s : Same H H') (h : TyOf K H x t) : TyOf K H' x t := by
  cases h with
  | non => exact .non
  | bl b => exact .bl b
  | int i => exact .int i
  | str z => exact .str z
  | flt z => exact .flt z
  | lst e => exact .lst (s _ _ e)
  | frz e => exact .frz (s _ _ e)
  | tup e => exact .tup (s _ _ e)
  | dK e => exact .dK (s _ _ e)
  | dT e => exact .dT (s _ _ e)
  | ins e cl ha hn htk hm => exact .ins (s _ _ e) cl ha hn htk hm
theorem TyX.same {K : PySem.W.Frag} {H H' : Hp} {x : V} {t : Value} (s : Same H H') (h : TyX K H x t) : TyX K H' x t := by
  cases h with
  | base h => exact .base (TyOf.same s h)
  | byt b => exact .byt b
  | set e => exact .set (s _ _ e)
  | kList e c => exact .kList e c
  | kTuple e c => exact .kTuple e c
  | kDict e c => exact .kDict e c
  | fTuple e => exact .fTuple (s _ _ e)
  | fDict e => exact .fDict (s _ _ e)
/-- isinstance of the built-in class n -/
def IsT (K : PySem.W.Frag) (H : Hp) (x : V) (n : String) (b : Bool) : Prop := ∃ t, TyX K H x t ∧ PySem.W.kitOne K t (.type n) = some b
theorem IsT.same {K : PySem.W.Frag} {H H' : Hp} {x : V} {n : String} {b : Bool} (s : Same H H') (h : IsT K H x n b) : IsT K H' x n b := by
  obtain ⟨t, h1, h2⟩ := h
  exact ⟨t, TyX.same s h1, h2⟩
theorem isT_str {K : PySem.W.Frag} {H : Hp} {z : Str} : IsT K H (.str z) "str" true := ⟨_, .base (.str z), kit_ty (by decide +kernel)⟩
theorem isT_bl {K : PySem.W.Frag} {H : Hp} {z : Bool} : IsT K H (.bl z) "bool" true := ⟨_, .base (.bl z), kit_ty (by decide +kernel)⟩
theorem isT_int {K : PySem.W.Frag} {H : Hp} {z : Int} : IsT K H (.int z) "int" true ∧ IsT K H (.int z) "bool" false := ⟨⟨_, .base (.int z), kit_ty (by decide +kernel)⟩, ⟨_, .base (.int z), kit_ty (by decide +kernel)⟩⟩
/-- is it a list or a tuple -/
def IsSeq (K : PySem.W.Frag) (H : Hp) (x : V) (b : Bool) : Prop := ∃ t, TyX K H x t ∧ PySem.W.kitAny K t [.type "list", .type "tuple"] = some b
theorem IsSeq.same {K : PySem.W.Frag} {H H' : Hp} {x : V} {b : Bool} (s : Same H H') (h : IsSeq K H x b) : IsSeq K H' x b := by
  obtain ⟨t, h1, h2⟩ := h
  exact ⟨t, TyX.same s h1, h2⟩
theorem kitAny_lt {K : PySem.W.Frag} {t : Value} {b c : Bool} (h1 : PySem.W.kitOne K t (.type "list") = some b) (h2 : PySem.W.kitOne K t (.type "tuple") = some c) : PySem.W.kitAny K t [.type "list", .type "tuple"] = some (b || c) := by
  refine kitAny_cons h1 (fun hb => ?_) (fun hb => by rw [hb]; rfl)
  subst hb
  exact kitAny_cons h2 (fun hc => by subst hc; exact kitAny_nil) (fun hc => by rw [hc]; rfl)
/-- what is a list or a tuple of xs -/
def SqX (K : PySem.W.Frag) (H : Hp) (a : Addr) (xs : List V) : Prop := H a = some (.lst xs) ∨ H a = some (.tup xs)
theorem SqX.same {K : PySem.W.Frag} {H H' : Hp} {a : Addr} {xs : List V} (s : Same H H') (h : SqX K H a xs) : SqX K H' a xs := h.imp (s _ _) (s _ _)
theorem SqX.seq {K : PySem.W.Frag} {H : Hp} {a : Addr} {xs : List V} (h : SqX K H a xs) : IsSeq K H (.ref a) true := by
  rcases h with h | h
  · exact ⟨_, .base (.lst h), kitAny_lt (b := true) (c := false) (kit_ty (by decide +kernel)) (kit_ty (by decide +kernel))⟩
  · exact ⟨_, .base (.tup h), kitAny_lt (b := false) (c := true) (kit_ty (by decide +kernel)) (kit_ty (by decide +kernel))⟩
def nameB (z : Str) : Bool := decide (z.length ≤ 6) && (Txt.isascii z && (Txt.isalpha z && Txt.islower z))
theorem nameB_len {z : Str} (h : nameB z = true) : z.length ≤ 6 := of_decide_eq_true (Bool.and_eq_true_iff.mp h).1
/-- whether x is a name -/
def NmB (K : PySem.W.Frag) (H : Hp) (x : V) (b : Bool) : Prop := (∃ z, x = .str z ∧ z.length ≤ sizeLine ∧ b = nameB z) ∨ (b = false ∧ IsT K H x "str" false)
theorem NmB.same {K : PySem.W.Frag} {H H' : Hp} {x : V} {b : Bool} (s : Same H H') (h : NmB K H x b) : NmB K H' x b := h.imp id fun ⟨e, t⟩ => ⟨e, t.same s⟩
def remarkB (z : Str) : Bool := decide (V.str z = V.str "") || nameB z

def spInt (K : PySem.W.Frag) : Sp := fun vs H Q _ => ∃ x b c, vs = [x] ∧ IsT K H x "int" b ∧ IsT K H x "bool" c ∧ Q (.bl (b && !c)) H
def spNum (K : PySem.W.Frag) : Sp := fun vs H Q _ => ∃ (x : V) (m : Int), vs = [x, .int m] ∧ ((∃ i, x = .int i ∧ Q (.bl (decide (0 ≤ i) && decide (i < m))) H) ∨ (∃ b c, IsT K H x "int" b ∧ IsT K H x "bool" c ∧ (b && !c) = false ∧ Q (.bl false) H))
def spSeq (K : PySem.W.Frag) : Sp := fun vs H Q _ => ∃ x b, vs = [x] ∧ IsSeq K H x b ∧ ∀ H', Same H H' → Q (.bl b) H'
def spName (K : PySem.W.Frag) : Sp := fun vs H Q _ => ∃ x b, vs = [x] ∧ NmB K H x b ∧ Q (.bl b) H
/-- the items' answers -/
def NmBs (K : PySem.W.Frag) (H : Hp) (xs : List V) (bs : List Bool) : Prop := bs.length = xs.length ∧ ∀ (i : Nat) (x : V) (b : Bool), xs[i]? = some x → bs[i]? = some b → NmB K H x b
def spNames (K : PySem.W.Frag) : Sp := fun vs H Q _ => ∃ x, vs = [x] ∧ ((IsSeq K H x false ∧ ∀ H', Same H H' → Q (.bl false) H') ∨
  (∃ a xs bs, x = .ref a ∧ SqX K H a xs ∧ xs.length ≤ 1000 ∧ NmBs K H xs bs ∧ ∀ H', Same H H' → Q (.bl (decide (0 < xs.length) && bs.all id)) H'))
def spReq : Sp := fun vs H Q _ => ∃ v, vs = [.bl true, v] ∧ Q .non H
def spRem (K : PySem.W.Frag) : Sp := fun vs H Q _ => ∃ x, vs = [x] ∧ ((∃ z, x = .str z ∧ z.length ≤ sizeLine ∧ Q (.bl (remarkB z)) H) ∨ (IsT K H x "str" false ∧ Q (.bl false) H))
abbrev sInt : Stmt := top 4
abbrev sNum : Stmt := top 5
abbrev sSeq : Stmt := top 6
abbrev sName : Stmt := top 7
abbrev sNames : Stmt := top 8
abbrev sReq : Stmt := top 10
abbrev sRem : Stmt := top 11
section
variable {P : Program} {w : World} {K : PySem.W.Frag} {mg : Str → Option Value} {base : Heap}
theorem scInt : FnScope ["value"] ["value"] (defScope sInt) := ⟨rfl, rfl, rfl, by decide +kernel, rfl, by decide +kernel, by decide +kernel⟩
theorem ok_int {f : Addr} {fd : FuncData} (F : Fun K "is_integer" "is_integer" sInt f fd) (T : TxtK mg) : FnOk P w K mg base CX0 1 f fd ["value"] (spInt K) := by
  refine F.ok scInt (fun vs H Q E h => ?_) (fun cdv A outer s H vs Q E hr h => ?_)
  · obtain ⟨x, b, c, rfl, _⟩ := h
    rfl
  · obtain ⟨x, b, c, rfl, ⟨t, ty, e⟩, ⟨t', ty', e'⟩, k⟩ := h
    refine ⟨_, (pss_one (ps_ret (pe_and (pe_callB call_isi (by rfl) T.isinstance (by decide +kernel) (pa_cons (pv 0) (pa_cons (pe_bltn (v := .ty "int") (by rfl) T.int (by decide +kernel) rfl) pa_nil))) (pe_one (pe_not (pe_callB call_isi (by rfl) T.isinstance (by decide +kernel) (pa_cons (pv 0) (pa_cons (pe_bltn (v := .ty "bool") (by rfl) T.bool (by decide +kernel) rfl) pa_nil)))))))), ?_⟩
    refine ⟨_, rfl, _, _, _, _, _, rfl, .ty _, ty, e, _, rfl, ?_⟩
    refine ite2 (fun hb => ?_) (fun hb => ?_)
    · subst hb
      exact ⟨_, rfl, _, _, _, _, _, rfl, .ty _, ty', e', _, rfl, k⟩
    · have : b = false := by simpa using hb
      subst this
      exact k
theorem scNum : FnScope ["value", "many"] ["value", "many"] (defScope sNum) := ⟨rfl, rfl, rfl, by decide +kernel, rfl, by decide +kernel, by decide +kernel⟩
theorem ok_num {f fI : Addr} {fd fdI : FuncData} (F : Fun K "is_number" "is_number" sNum f fd) (GI : FnOk P w K mg base CX0 1 fI fdI ["value"] (spInt K)) (gI : mg "is_integer" = some (.ref fI)) (kI : PySem.W.keepIn K (.ref fI) = true) (bI : Binds K fdI ["value"] []) :
    FnOk P w K mg base CX0 2 f fd ["value", "many"] (spNum K) := by
  refine F.ok scNum (fun vs H Q E h => ?_) (fun cdv A outer s H vs Q E hr h => ?_)
  · obtain ⟨x, m, rfl, _⟩ := h
    rfl
  · obtain ⟨x, m, rfl, h⟩ := h
    refine ⟨_, (pss_one (ps_ret (pe_and (pe_call GI hr (by rfl) gI kI bI .nil pass0 (pa_cons (pv 0) pa_nil)) (pe_one (pe_chain op_le op_lt pe_int (pv 0) (pv 1)))))), ?_⟩
    rcases h with ⟨i, rfl, k⟩ | ⟨b, c, h1, h2, h3, k⟩
    · refine ⟨_, rfl, _, true, false, rfl, isT_int.1, isT_int.2, _, rfl, ?_⟩
      refine ⟨_, rfl, _, _, rfl, rfl, _, rfl, ?_⟩
      refine ite2 (fun hb => ?_) (fun hb => ?_)
      · refine ⟨_, rfl, _, _, rfl, rfl, ?_⟩
        rw [hb, Bool.true_and] at k
        exact k
      · have : decide (0 ≤ i) = false := by simpa using hb
        rw [this, Bool.false_and] at k
        exact k
    · refine ⟨_, rfl, _, b, c, rfl, h1, h2, _, rfl, ?_⟩
      rw [h3]
      exact k
theorem scSeq : FnScope ["value"] ["value"] (defScope sSeq) := ⟨rfl, rfl, rfl, by decide +kernel, rfl, by decide +kernel, by decide +kernel⟩
theorem ok_seq {f : Addr} {fd : FuncData} (F : Fun K "is_sequence" "is_sequence" sSeq f fd) (T : TxtK mg) : FnOk P w K mg base CX0 1 f fd ["value"] (spSeq K) := by
  refine F.ok scSeq (fun vs H Q E h => ?_) (fun cdv A outer s H vs Q E hr h => ?_)
  · obtain ⟨x, b, rfl, _⟩ := h
    rfl
  · obtain ⟨x, b, rfl, ⟨t, ty, e⟩, k⟩ := h
    refine ⟨_, (pss_one (ps_ret (pe_callB call_isiT (by rfl) T.isinstance (by decide +kernel) (pa_cons (pv 0) (pa_cons (pe_tup (pa_cons (pe_bltn (v := .ty "list") (by rfl) T.list (by decide +kernel) rfl) (pa_cons (pe_bltn (v := .ty "tuple") (by rfl) T.tuple (by decide +kernel) rfl) pa_nil))) pa_nil))))), ?_⟩
    refine ⟨_, rfl, (by show 2 ≤ sizeLine; decide), fun p hp => ?_⟩
    exact ⟨x, p, _, t, _, b, rfl, upd_same, .cons (.ty _) (.cons (.ty _) .nil), TyX.same (Same.new hp) ty, e, k _ (Same.new hp)⟩
theorem scName : FnScope ["value"] ["value"] (defScope sName) := ⟨rfl, rfl, rfl, by decide +kernel, rfl, by decide +kernel, by decide +kernel⟩
theorem ok_name {f : Addr} {fd : FuncData} (F : Fun K "is_name" "is_name" sName f fd) (T : TxtK mg) : FnOk P w K mg base CX0 1 f fd ["value"] (spName K) := by
  refine F.ok scName (fun vs H Q E h => ?_) (fun cdv A outer s H vs Q E hr h => ?_)
  · obtain ⟨x, b, rfl, _⟩ := h
    rfl
  · obtain ⟨x, b, rfl, h, k⟩ := h
    refine ⟨_, (pss_cons (ps_if (pt_not (pt_val (pe_callB call_isi (by rfl) T.isinstance (by decide +kernel) (pa_cons (pv 0) (pa_cons (pe_bltn (v := .ty "str") (by rfl) T.str (by decide +kernel) rfl) pa_nil)))))
      (pss_one (ps_ret pe_bl))
      pss_nil)
    (pss_one (ps_ret (pe_and (pe_cmpR op_le (pe_callB call_len_str (by rfl) T.len PySem.boot_len (pa_cons (pv 0) pa_nil)) pe_int (nomark _)) (pe_and (pe_m0 PySem.F.slot_str_isascii PySem.F.type_str_isascii mt_isascii (pv 0)) (pe_and (pe_m0 PySem.F.slot_str_isalpha PySem.F.type_str_isalpha mt_isalpha (pv 0)) (pe_one (pe_m0 PySem.F.slot_str_islower PySem.F.type_str_islower mt_islower (pv 0))))))))), ?_⟩
    rcases h with ⟨z, rfl, hz, rfl⟩ | ⟨rfl, t, ty, e⟩
    · obtain ⟨t, ty, e⟩ := isT_str (K := K) (H := H) (z := z)
      refine ⟨_, rfl, _, _, _, _, _, rfl, .ty _, ty, e, _, rfl, ?_⟩
      refine ⟨_, rfl, _, rfl, hz, _, _, rfl, rfl, _, rfl, ?_⟩
      have e0 : decide (((z.length : Nat) : Int) ≤ 6) = decide (z.length ≤ 6) := by
        by_cases q : z.length ≤ 6
        · rw [decide_eq_true q, decide_eq_true (by omega)]
        · rw [decide_eq_false q, decide_eq_false (by omega)]
      unfold nameB at k
      refine ite2 (fun h1 => ?_) (fun h1 => ?_)
      · rw [e0] at h1
        rw [h1, Bool.true_and] at k
        refine ⟨_, rfl, ⟨_, rfl⟩, _, rfl, rfl, trivial, _, rfl, ?_⟩
        refine ite2 (fun h2 => ?_) (fun h2 => ?_)
        · rw [h2, Bool.true_and] at k
          refine ⟨_, rfl, ⟨_, rfl⟩, _, rfl, rfl, trivial, _, rfl, ?_⟩
          refine ite2 (fun h3 => ?_) (fun h3 => ?_)
          · rw [h3, Bool.true_and] at k
            exact ⟨_, rfl, ⟨_, rfl⟩, _, rfl, rfl, trivial, k⟩
          · have : Txt.isalpha z = false := by simpa using h3
            rw [this, Bool.false_and] at k
            exact k
        · have : Txt.isascii z = false := by simpa using h2
          rw [this, Bool.false_and] at k
          exact k
      · rw [e0] at h1
        have : decide (z.length ≤ 6) = false := by simpa using h1
        rw [this, Bool.false_and] at k
        exact k
    · exact ⟨_, rfl, _, _, _, _, _, rfl, .ty _, ty, e, _, rfl, k⟩
theorem scNames : FnScope ["value", "one"] ["value"] (defScope sNames) := ⟨rfl, rfl, rfl, by decide +kernel, rfl, by decide +kernel, by decide +kernel⟩
theorem ok_names {f fS fN : Addr} {fd fdS fdN : FuncData} (F : Fun K "are_names" "are_names" sNames f fd) (T : TxtK mg) (GS : FnOk P w K mg base CX0 1 fS fdS ["value"] (spSeq K)) (gS : mg "is_sequence" = some (.ref fS)) (kS : PySem.W.keepIn K (.ref fS) = true) (bS : Binds K fdS ["value"] [])
    (GN : FnOk P w K mg base CX0 1 fN fdN ["value"] (spName K)) (gN : mg "is_name" = some (.ref fN)) (kN : PySem.W.keepIn K (.ref fN) = true) (bN : Binds K fdN ["value"] []) : FnOk P w K mg base CX0 2 f fd ["value"] (spNames K) := by
  refine F.ok scNames (fun vs H Q E h => ?_) (fun cdv A outer s H vs Q E hr h => ?_)
  · obtain ⟨x, rfl, _⟩ := h
    rfl
  · obtain ⟨x, rfl, h⟩ := h
    rcases h with ⟨h, k⟩ | ⟨a, xs, bs, rfl, hx, hl, hb, k⟩
    · refine ⟨_, (pss_cons (ps_if (pt_not (pt_val (pe_call GS hr (by rfl) gS kS bS .nil pass0 (pa_cons (pv 0) pa_nil)))) (pss_one (ps_ret pe_bl)) pss_nil) pss_never), ?_⟩
      exact ⟨_, rfl, _, false, rfl, h, fun H' s => ⟨_, rfl, k H' s⟩⟩
    · have fin : ∀ H1 l, Same H H1 → H1 l = some (.lst (bs.map V.bl)) → (Q (.bl (bs.all id)) H1 ↔ Q (.bl (bs.all id)) H1) := fun _ _ _ _ => Iff.rfl
      have turn : ∀ {G : Hp} {D : Addr} {i : Nat} {x : V}, Same H G → xs[i]? = some x → ∃ b, bs[i]? = some b ∧ NmB K G x b := fun {G D i x} s hi => by
        have li := (List.getElem?_eq_some_iff.mp hi).1
        rw [← hb.1] at li
        exact ⟨bs[i], by simp [li], (hb.2 i x _ hi (by simp [li])).same s⟩
      rcases hx with hx | hx
      · refine ⟨_, (pss_cons (ps_if (pt_not (pt_val (pe_call GS hr (by rfl) gS kS bS .nil pass0 (pa_cons (pv 0) pa_nil)))) (pss_one (ps_ret pe_bl)) pss_nil)
          (pss_one (ps_ret (pe_and (pe_cmpR op_gt (pe_callB call_len_seq (by rfl) T.len PySem.boot_len (pa_cons (pv 0) pa_nil)) pe_int (nomark _)) (pe_one (pe_callB (cr_all rfl) (by rfl) T.all (by decide +kernel) (pa_cons
            (pe_lc (own := [("one", 1)]) (g := gName 1) (tt := tYes) (by rfl) scNames.nd (pi_list (pv 0)) (blkOk_by (N := ["value", "one"]) (sc := defScope sNames) (by decide +kernel)) (fun _ _ _ _ _ => pg_name (i := 1) scNames.nd rfl (Or.inl rfl)) (fun _ _ _ _ _ => pts_nil) (fun _ _ _ _ _ => pe_call GN hr (by rfl) gN kN bN .nil pass0 (pa_cons (pv 1) pa_nil))) pa_nil))))))), ?_⟩
        refine ⟨_, rfl, _, true, rfl, SqX.seq (.inl hx), fun H1 s1 => ⟨_, rfl, ?_⟩⟩
        refine ⟨_, rfl, a, xs, rfl, .inl (SqL.of (s1 _ _ hx)), _, _, rfl, rfl, _, rfl, ?_⟩
        have e0 : decide (((xs.length : Nat) : Int) > 0) = decide (0 < xs.length) := by
          by_cases q : 0 < xs.length
          · rw [decide_eq_true q, decide_eq_true (by omega)]
          · rw [decide_eq_false q, decide_eq_false (by omega)]
        refine ite2 (fun h1 => ?_) (fun h1 => ?_)
        · have h2 : decide (0 < xs.length) = true := by rw [← e0]; exact h1
          rw [h2] at k
          refine ⟨_, rfl, a, rfl, ⟨_, SqL.of (s1 _ _ hx)⟩, fun D nD => lc_list (K := K) (a := a) (xs := xs) (fun i G => Same H1 G ∧ G D = some (.lst ((bs.take i).map V.bl))) ⟨Same.new nD, upd_same⟩ (fun i G _ q => SqL.of (q.1 _ _ (s1 _ _ hx))) ?_ ?_⟩
          · rintro i x G hi ⟨sG, hD⟩
            obtain ⟨b, eb, nb⟩ := turn (D := D) (s1.trans sG) hi
            refine ⟨rfl, _, rfl, x, b, rfl, nb, _, hD, ?_, fun c u e => by rw [upd_ne (ne_of_none e nD)]; exact sG _ _ e, ?_⟩
            · rw [List.length_map, List.length_take]
              have : i < xs.length := (List.getElem?_eq_some_iff.mp hi).1
              exact small1000 (by omega)
            · rw [upd_same, List.take_succ, eb, List.map_append]
              rfl
          · rintro G ⟨sG, hD⟩
            refine ⟨D, bs, rfl, ?_, ?_⟩
            · rw [← hb.1, List.take_length] at hD
              exact SqL.of hD
            · exact k G (s1.trans sG)
        · have h2 : decide (0 < xs.length) = false := by rw [← e0]; simpa using h1
          rw [h2] at k
          exact k H1 s1
      · refine ⟨_, (pss_cons (ps_if (pt_not (pt_val (pe_call GS hr (by rfl) gS kS bS .nil pass0 (pa_cons (pv 0) pa_nil)))) (pss_one (ps_ret pe_bl)) pss_nil)
          (pss_one (ps_ret (pe_and (pe_cmpR op_gt (pe_callB call_len_seq (by rfl) T.len PySem.boot_len (pa_cons (pv 0) pa_nil)) pe_int (nomark _)) (pe_one (pe_callB (cr_all rfl) (by rfl) T.all (by decide +kernel) (pa_cons
            (pe_lc (own := [("one", 1)]) (g := gName 1) (tt := tYes) (by rfl) scNames.nd (pi_tup (pv 0)) (blkOk_by (N := ["value", "one"]) (sc := defScope sNames) (by decide +kernel)) (fun _ _ _ _ _ => pg_name (i := 1) scNames.nd rfl (Or.inl rfl)) (fun _ _ _ _ _ => pts_nil) (fun _ _ _ _ _ => pe_call GN hr (by rfl) gN kN bN .nil pass0 (pa_cons (pv 1) pa_nil))) pa_nil))))))), ?_⟩
        refine ⟨_, rfl, _, true, rfl, SqX.seq (.inr hx), fun H1 s1 => ⟨_, rfl, ?_⟩⟩
        refine ⟨_, rfl, a, xs, rfl, .inr (SqT.of (s1 _ _ hx)), _, _, rfl, rfl, _, rfl, ?_⟩
        have e0 : decide (((xs.length : Nat) : Int) > 0) = decide (0 < xs.length) := by
          by_cases q : 0 < xs.length
          · rw [decide_eq_true q, decide_eq_true (by omega)]
          · rw [decide_eq_false q, decide_eq_false (by omega)]
        refine ite2 (fun h1 => ?_) (fun h1 => ?_)
        · have h2 : decide (0 < xs.length) = true := by rw [← e0]; exact h1
          rw [h2] at k
          refine ⟨_, rfl, a, rfl, ⟨_, SqT.of (s1 _ _ hx)⟩, fun D nD => lc_tup (K := K) (a := a) (xs := xs) (fun i G => Same H1 G ∧ G D = some (.lst ((bs.take i).map V.bl))) ⟨Same.new nD, upd_same⟩ (fun i G _ q => SqT.of (q.1 _ _ (s1 _ _ hx))) ?_ ?_⟩
          · rintro i x G hi ⟨sG, hD⟩
            obtain ⟨b, eb, nb⟩ := turn (D := D) (s1.trans sG) hi
            refine ⟨rfl, _, rfl, x, b, rfl, nb, _, hD, ?_, fun c u e => by rw [upd_ne (ne_of_none e nD)]; exact sG _ _ e, ?_⟩
            · rw [List.length_map, List.length_take]
              have : i < xs.length := (List.getElem?_eq_some_iff.mp hi).1
              exact small1000 (by omega)
            · rw [upd_same, List.take_succ, eb, List.map_append]
              rfl
          · rintro G ⟨sG, hD⟩
            refine ⟨D, bs, rfl, ?_, ?_⟩
            · rw [← hb.1, List.take_length] at hD
              exact SqL.of hD
            · exact k G (s1.trans sG)
        · have h2 : decide (0 < xs.length) = false := by rw [← e0]; simpa using h1
          rw [h2] at k
          exact k H1 s1
theorem scReq : FnScope ["holds", "word"] ["holds", "word"] (defScope sReq) := ⟨rfl, rfl, rfl, by decide +kernel, rfl, by decide +kernel, by decide +kernel⟩
/-- require, where what is asked holds -/
theorem ok_req {f : Addr} {fd : FuncData} (F : Fun K "require" "require" sReq f fd) : FnOk P w K mg base CX0 1 f fd ["holds", "word"] spReq := by
  refine F.ok scReq (fun vs H Q E h => ?_) (fun cdv A outer s H vs Q E hr h => ?_)
  · obtain ⟨v, rfl, _⟩ := h
    rfl
  · obtain ⟨v, rfl, k⟩ := h
    exact ⟨_, pss_one (ps_if (pt_not (pt_val (pv 0))) pss_never pss_nil), _, rfl, _, rfl, k⟩
theorem scRem : FnScope ["value"] ["value"] (defScope sRem) := ⟨rfl, rfl, rfl, by decide +kernel, rfl, by decide +kernel, by decide +kernel⟩
theorem ok_rem {f fN : Addr} {fd fdN : FuncData} (F : Fun K "is_remark" "is_remark" sRem f fd) (T : TxtK mg) (GN : FnOk P w K mg base CX0 1 fN fdN ["value"] (spName K)) (gN : mg "is_name" = some (.ref fN)) (kN : PySem.W.keepIn K (.ref fN) = true) (bN : Binds K fdN ["value"] []) :
    FnOk P w K mg base CX0 2 f fd ["value"] (spRem K) := by
  refine F.ok scRem (fun vs H Q E h => ?_) (fun cdv A outer s H vs Q E hr h => ?_)
  · obtain ⟨x, rfl, _⟩ := h
    rfl
  · obtain ⟨x, rfl, h⟩ := h
    refine ⟨_, (pss_one (ps_ret (pe_and (pe_callB call_isi (by rfl) T.isinstance (by decide +kernel) (pa_cons (pv 0) (pa_cons (pe_bltn (v := .ty "str") (by rfl) T.str (by decide +kernel) rfl) pa_nil))) (pe_one (pe_or (pe_cmpR op_eq (pv 0) pe_str (nomark _)) (pe_one (pe_call GN hr (by rfl) gN kN bN .nil pass0 (pa_cons (pv 0) pa_nil)))))))), ?_⟩
    rcases h with ⟨z, rfl, hz, k⟩ | ⟨⟨t, ty, e⟩, k⟩
    · obtain ⟨t, ty, e⟩ := isT_str (K := K) (H := H) (z := z)
      refine ⟨_, rfl, _, _, _, _, _, rfl, .ty _, ty, e, _, rfl, ?_⟩
      refine ⟨_, rfl, rfl, _, rfl, ?_⟩
      unfold remarkB at k
      refine ite2 (fun h1 => ?_) (fun h1 => ?_)
      · rw [h1] at k
        exact k
      · have : decide (V.str z = V.str "") = false := by simpa using h1
        rw [this, Bool.false_or] at k
        exact ⟨_, rfl, _, _, rfl, .inl ⟨z, rfl, hz, rfl⟩, k⟩
    · exact ⟨_, rfl, _, _, _, _, _, rfl, .ty _, ty, e, _, rfl, k⟩
end
end Lay
set_option Elab.async false
set_option linter.all false
set_option maxRecDepth 100000
set_option maxHeartbeats 4000000
set_option pp.maxSteps 700
namespace Lay
open PySem PySem.Spec PyProof.Rows L2
theorem iteN {c : Bool} {A B : Prop} (h : c = false) (x : B) : if c = true then A else B := by
  rw [if_neg (by rw [h]; exact Bool.false_ne_true)]
  exact x
theorem iteY {c : Bool} {A B : Prop} (h : c = true) (x : A) : if c = true then A else B := by
  rw [if_pos h]
  exact x
theorem same_put {H H1 : Hp} {p : Addr} {o : HO} (s : Same H H1) (n : H p = none) : Same H (upd H1 p o) := fun b u e => by
  rw [upd_ne (ne_of_none e n)]
  exact s _ _ e
theorem fits {n : Nat} (h : n ≤ 1000) : n ≤ sizeLine := Nat.le_trans h (by decide)
theorem made_same {x dx : Addr} {H H' : Hp} {o : HO} (hx : H x = none) (hd : H dx = none) (k : Kept x (upd (upd H dx (.own x)) x o) H') : Same H H' := fun b u e => k b u (ne_of_none e hx) (by rw [upd_ne (ne_of_none e hx), upd_ne (ne_of_none e hd)]; exact e)
theorem fresh_own {H : Hp} {p d : Addr} {o : HO} (np : H p = none) (ne : d ≠ p) : upd H d o p = none := by
  rw [upd_ne (Ne.symm ne)]
  exact np
theorem Same.rfl {H : Hp} : Same H H := fun _ _ e => e
/-! defs by their names -/
/-- the module's names that must be Python's own -/
structure Bt (mg : Str → Option Value) : Prop where
  int : mg "int" = none
  bool : mg "bool" = none
  str : mg "str" = none
  list : mg "list" = none
  tuple : mg "tuple" = none
  dict : mg "dict" = none
  isinstance : mg "isinstance" = none
  len : mg "len" = none
  all : mg "all" = none
  any : mg "any" = none
  abs : mg "abs" = none
  range : mg "range" = none
  enumerate : mg "enumerate" = none
  zip : mg "zip" = none
  max : mg "max" = none
  min : mg "min" = none
  repr : mg "repr" = none
  sorted : mg "sorted" = none
/-- the def n as it stands behind the top -/
def Dfn (K : PySem.W.Frag) (mg : Str → Option Value) (n : Str) (st : Stmt) (ps : List Str) : Prop := ∃ f fd, Fun K n n st f fd ∧ mg n = some (.ref f) ∧ Binds K fd ps []
/-- the def n keeps a promise -/
def Has (P : Program) (w : World) (K : PySem.W.Frag) (mg : Str → Option Value) (base : Heap) (CX : CXT) (k : Nat) (n : Str) (ps : List Str) (sp : Sp) : Prop :=
  ∃ f fd, FnOk P w K mg base CX k f fd ps sp ∧ mg n = some (.ref f) ∧ PySem.W.keepIn K (.ref f) = true ∧ Binds K fd ps []
section
variable {P : Program} {w : World} {K : PySem.W.Frag} {mg : Str → Option Value} {base : Heap} {n : Str} {st : Stmt} {N ps : List Str} {k : Nat} {sp : Sp}
theorem Dfn.has (D : Dfn K mg n st ps) (S : FnScope N ps (defScope st)) (len : ∀ vs H Q E, sp vs H Q E → vs.length = ps.length)
    (hbody : ∀ (f : Addr) (cdv : Value) (A : Around) (outer : List Env) (s : Shared) (H : Hp) (vs : List V) (Q : VK) (E : XK), Room k (A.deeper (envOfC n (defScope st) s.heap.objs.size f cdv)) → sp vs H Q E →
      ∃ t, PSs (cxOf CX0 P w K mg base N n (defScope st) f cdv A outer s H E).nox (defBody st) t ∧ t { nx := fun _ H' => Q .non H', rt := Q } (start N vs) H) : Has P w K mg base CX0 (k + 1) n ps sp := by
  obtain ⟨f, fd, F, g, b⟩ := D
  exact ⟨f, fd, F.ok S len (hbody f), g, F.kp, b⟩
theorem Dfn.hasX (D : Dfn K mg n st ps) (S : FnScope N ps (defScope st)) (len : ∀ vs H Q E, sp vs H Q E → vs.length = ps.length)
    (hbody : ∀ (f : Addr) (cdv : Value) (A : Around) (outer : List Env) (s : Shared) (H : Hp) (vs : List V) (Q : VK) (E : XK), Room k (A.deeper (envOfC n (defScope st) s.heap.objs.size f cdv)) → sp vs H Q E →
      ∃ t, PSs (cxOf (L2.CX P w) P w K mg base N n (defScope st) f cdv A outer s H E) (defBody st) t ∧ t { nx := fun _ H' => Q .non H', rt := Q } (start N vs) H) : Has P w K mg base (L2.CX P w) (k + 1) n ps sp := by
  obtain ⟨f, fd, F, g, b⟩ := D
  exact ⟨f, fd, F.okX S len (hbody f), g, F.kp, b⟩
theorem Has.mono {CX : CXT} {j : Nat} (h : Has P w K mg base CX j n ps sp) (l : j ≤ k) : Has P w K mg base CX k n ps sp := by
  obtain ⟨f, fd, F, r⟩ := h
  exact ⟨f, fd, F.mono l, r⟩
theorem Has.imp {CX : CXT} {sp' : Sp} (h : Has P w K mg base CX k n ps sp) (i : ∀ vs H Q E, sp' vs H Q E → sp vs H Q E) : Has P w K mg base CX k n ps sp' := by
  obtain ⟨f, fd, F, r⟩ := h
  exact ⟨f, fd, F.imp i, r⟩
end
section
variable {X : Cx} {CX : CXT} {k : Nat} {ps : List Str} {sp : Sp} {E : XK} {n : Str} {p pos : Pos} {e : Expr} {es : List Expr} {t : TA}
theorem pe_callH (D : Has X.prog X.w X.K X.mg X.base CX k n ps sp) (hr : Room k X.A) (hg : Gl X n) (hx : Passes CX X E) (ha : PA X (e :: es) t) (hdb : (n == ("__debug__" : Str)) = false := by decide)
    (he : starEach (e :: es) X.env = (false, eval e X.env) :: starEach es X.env := by rfl) (hpl : (backTo pos (starEach es X.env)).any (·.1) = false := by rfl) : PE X (.Call (.Name n p) (e :: es) [] pos) (tCall sp [] E t) := by
  obtain ⟨f, fd, F, g, kp, b⟩ := D
  exact pe_call F hr hg g kp b .nil hx ha hdb he hpl
theorem pe_callH0 (D : Has X.prog X.w X.K X.mg X.base CX k n ps sp) (hr : Room k X.A) (hg : Gl X n) (hx : Passes CX X E) (hdb : (n == ("__debug__" : Str)) = false := by decide) : PE X (.Call (.Name n p) [] [] pos) (tCall sp [] E tNil) := by
  obtain ⟨f, fd, F, g, kp, b⟩ := D
  exact pe_call0 F hr hg g kp b .nil hx hdb
end
section
variable {X : Cx}
/-- xs == [], any xs -/
theorem op_eqNil (hu : X.A.units + 64 < cLine) : OpR X (compareOp .Eq) (fun x y H Q => ∃ a b xs, x = .ref a ∧ y = .ref b ∧ SqL X.K H a xs ∧ H b = some (.lst []) ∧ Q (.bl xs.isEmpty) H) := by
  intro pins s σ H x y v u Q I rx ry h
  obtain ⟨a, b, xs, rfl, rfl, ha, hb, q⟩ := h
  cases xs with
  | nil => exact op_eqD hu pins s σ H _ _ v u Q I rx ry ⟨.list [], .list [], .lst ha .nil, .lst (SqL.of hb) .nil, rfl, rfl, q⟩
  | cons z zs =>
    cases rx
    cases ry
    obtain ⟨its, r, p1, _⟩ := I.list ha
    obtain ⟨its2, r2, p2, _⟩ := I.list (SqL.of hb)
    cases r2
    refine SeqAt.eq_list_lengthsAt p1.isList p2.isList ?_ (by omega) ⟨.bl false, H, I, rfl, q⟩
    cases r
    rfl
end
/-! rules that name K -/
def rLenK (K : PySem.W.Frag) : List V → Hp → VK → Prop := fun xs H Q => ∃ p ys, xs = [.ref p] ∧ (SqL K H p ys ∨ SqT K H p ys) ∧ Q (.int ys.length) H
section
variable {X : Cx} {K : PySem.W.Frag}
theorem call_lenK (hK : X.K = K) : CallR X (.builtin "len") (rLenK K) := by
  subst hK
  exact call_len_seq
theorem call_isiK (hK : X.K = K) : CallR X (.builtin "isinstance") (rIsi K) := by
  subst hK
  exact call_isi
theorem call_isiTK (hK : X.K = K) : CallR X (.builtin "isinstance") (rIsiT K) := by
  subst hK
  exact call_isiT
theorem ix_listK (hK : X.K = K) : IxR X (rIxL K) := by
  subst hK
  exact ix_list
theorem op_inK (hK : X.K = K) : OpR X (compareOp .In) (rIn K false) := by
  subst hK
  exact op_in_seq
theorem op_notInK (hK : X.K = K) : OpR X (compareOp .NotIn) (rIn K true) := by
  subst hK
  exact op_notIn_seq
end
/-! a list or a tuple, walked -/
def SqK (K : PySem.W.Frag) (k : Bool) (H : Hp) (a : Addr) (xs : List V) : Prop := match k with
  | false => SqL K H a xs
  | true => SqT K H a xs
theorem SqK.same {K : PySem.W.Frag} {k : Bool} {H H' : Hp} {a : Addr} {xs : List V} (e : Same H H') (h : SqK K k H a xs) : SqK K k H' a xs := by
  cases k with
  | false =>
    rcases h with (h | ⟨o, h⟩) | h
    · exact .inl (.inl (e _ _ h))
    · exact .inl (.inr ⟨o, e _ _ h⟩)
    · exact .inr h
  | true =>
    rcases h with (h | ⟨o, h⟩) | h
    · exact .inl (.inl (e _ _ h))
    · exact .inl (.inr ⟨o, e _ _ h⟩)
    · exact .inr h
def iSq (K : PySem.W.Frag) (te : TE) : TI := fun σ H R => te σ H fun x H1 => ∃ (a : Addr) (xs : List V) (k : Bool), x = .ref a ∧ SqK K k H1 a xs ∧ ∀ J, Walk J xs.length (fun G => SqK K k G a xs) (YAt xs) → R J H1
theorem pi_sq {X : Cx} {K : PySem.W.Frag} (hK : X.K = K) {l tg : Expr} {te : TE} (hl : PE X l te) : PI X tg l (iSq K te) := by
  subst hK
  refine ⟨fun pins s σ H R I h => thn (hl.run pins s σ H _ I h) fun v s1 ⟨x, H1, I1, r1, a, xs, k, e, hq, q⟩ => ?_⟩
  subst e
  cases r1
  have done : ∀ b ∈ [s1.heap.objs.size], FpOk X pins H1 b := fun b hb => by
    rw [List.mem_singleton.mp hb]
    exact I1.fpOk (Nat.le_refl _) (I1.hok.fresh (Nat.le_refl _))
  cases k with
  | false =>
    obtain ⟨its, rv, p, hz⟩ := I1.list hq
    have q := q _ walk_list
    refine wpAny_pyIter_list p.isList ?_
    exact ⟨s1.heap.objs.size, [s1.heap.objs.size], _, _, H1, rfl, I1.kept (t' := s1.toks) fun b o e => Heap.get?_push_of_some _ e, turn_list a _, ⟨_, Heap.get?_push_size _ rfl, rfl, rfl⟩, done, q⟩
  | true =>
    obtain ⟨its, rv, p, hz⟩ := I1.tuple hq
    have q := q _ walk_tup
    refine wpAny_pyIter_tuple (show s1.heap.IsTuple a its.toArray from p) ?_
    exact ⟨s1.heap.objs.size, [s1.heap.objs.size], _, _, H1, rfl, I1.kept (t' := s1.toks) fun b o e => Heap.get?_push_of_some _ e, turn_tuple a _, ⟨_, Heap.get?_push_size _ rfl, rfl, rfl⟩, done, q⟩
/-! names, sign by sign -/
def az (c : Nat) : Bool := decide (97 ≤ c) && decide (c ≤ 122)
theorem az_iff {c : Nat} : az c = true ↔ 97 ≤ c ∧ c ≤ 122 := by
  unfold az
  rw [Bool.and_eq_true, decide_eq_true_iff, decide_eq_true_iff]
theorem ch128 : ∀ c, c < 128 → (Unicode.isAlpha c && !(Unicode.isUpper c || Unicode.isTitle c)) = az c ∧ (az c = true → Unicode.isLower c = true) := by decide +kernel
theorem nameB_eq (z : Str) : nameB z = (decide (z.length ≤ 6) && (decide (0 < z.length) && z.cps.all az)) := by
  unfold nameB Txt.isascii Txt.isalpha Txt.islower
  congr 1
  apply Bool.eq_iff_iff.mpr
  simp only [Bool.and_eq_true, decide_eq_true_iff, Array.all_eq_true', Array.any_eq_true', Bool.not_eq_true', Array.any_eq_false', gt_iff_lt]
  constructor
  · rintro ⟨h1, ⟨h2, h3⟩, _, h5⟩
    refine ⟨h2, fun c hc => ?_⟩
    rw [← (ch128 c (h1 c hc)).1, Bool.and_eq_true]
    refine ⟨h3 c hc, ?_⟩
    have := h5 c hc
    simpa using this
  · rintro ⟨h2, h3⟩
    have lt : ∀ c, c ∈ z.cps → c < 128 := fun c hc => by
      have := (az_iff.mp (h3 c hc)).2
      omega
    refine ⟨lt, ⟨h2, fun c hc => ?_⟩, ?_, fun c hc => ?_⟩
    · have := (ch128 c (lt c hc)).1
      rw [h3 c hc, Bool.and_eq_true] at this
      exact this.1
    · have h0 : 0 < z.cps.size := h2
      exact ⟨z.cps[0], Array.getElem_mem h0, (ch128 _ (lt _ (Array.getElem_mem h0))).2 (h3 _ (Array.getElem_mem h0))⟩
    · have := (ch128 c (lt c hc)).1
      rw [h3 c hc, Bool.and_eq_true] at this
      simpa using this.2
def alphaS : Str := "abcdefghijklmnopqrstuvwxyz"
theorem alpha_list : alphaS.cps.toList = List.range' 97 26 := by decide +kernel
theorem mem_alpha {c : Nat} : decide (c ∈ alphaS.cps.toList) = az c := by
  rw [alpha_list]
  apply Bool.eq_iff_iff.mpr
  rw [decide_eq_true_iff, List.mem_range'_1, az_iff]
  omega
end Lay
set_option Elab.async false
set_option linter.all false
set_option maxRecDepth 100000
set_option maxHeartbeats 4000000
namespace Lay
open PySem L2
/-- what a piece is made of -/
structure PD where
  word : Str
  parts : List Str
  broken : Bool
  marked : Bool
  ahead : Str
  behind : Str
  blanks : Int
  left : Bool
structure PD.Ok (d : PD) : Prop where
  word : nameB d.word = true
  some : 0 < d.parts.length
  few : d.parts.length ≤ 1000
  parts : ∀ z ∈ d.parts, nameB z = true
  ahead : remarkB d.ahead = true
  behind : remarkB d.behind = true
  b0 : 0 ≤ d.blanks
  b3 : d.blanks < 3
theorem remarkB_len {z : Str} (h : remarkB z = true) : z.length ≤ 6 := by
  unfold remarkB at h
  rcases Bool.or_eq_true_iff.mp h with h | h
  · have e : z = ("" : Str) := V.str.inj (of_decide_eq_true h)
    rw [e]
    decide
  · exact nameB_len h
theorem six_line {n : Nat} (h : n ≤ 6) : n ≤ sizeLine := Nat.le_trans h (by decide)
/-- its attributes, the tuple of the items at t -/
def pieceF (d : PD) (t : Addr) : List (Str × V) :=
  putF "left" (.bl d.left) (putF "blanks" (.int d.blanks) (putF "behind" (.str d.behind) (putF "ahead" (.str d.ahead) (putF "marked" (.bl d.marked) (putF "broken" (.bl d.broken) (putF "parts" (.ref t) (putF "word" (.str d.word) [])))))))
/-- at p a piece of d -/
def PieceAt (K : PySem.W.Frag) (C : Addr) (H : Hp) (p : Addr) (d : PD) : Prop := ∃ dx t, H p = some (.ins C dx (pieceF d t)) ∧ H t = some (.tup (d.parts.map V.str))
theorem SqT.same {K : PySem.W.Frag} {H H' : Hp} {a : Addr} {xs : List V} (e : Same H H') (h : SqT K H a xs) : SqT K H' a xs := by
  rcases h with (h | ⟨o, h⟩) | h
  · exact .inl (.inl (e _ _ h))
  · exact .inl (.inr ⟨o, e _ _ h⟩)
  · exact .inr h
theorem PieceAt.same {K : PySem.W.Frag} {C : Addr} {H H' : Hp} {p : Addr} {d : PD} (s : Same H H') (h : PieceAt K C H p d) : PieceAt K C H' p d := by
  obtain ⟨dx, t, h1, h2⟩ := h
  exact ⟨dx, t, s _ _ h1, s _ _ h2⟩
/-- what the class Piece says of itself -/
structure PieceC (K : PySem.W.Frag) (C : Addr) : Prop where
  cl : Cls K C
  word : NoAttr K C "word"
  parts : NoAttr K C "parts"
  broken : NoAttr K C "broken"
  marked : NoAttr K C "marked"
  ahead : NoAttr K C "ahead"
  behind : NoAttr K C "behind"
  blanks : NoAttr K C "blanks"
  left : NoAttr K C "left"
def spPieceI (C : Addr) (K : PySem.W.Frag) : Sp := fun vs H Q _ => ∃ (p a dx : Addr) (d : PD), vs = [.ref p, .str d.word, .ref a, .bl d.broken, .bl d.marked, .str d.ahead, .str d.behind, .int d.blanks, .bl d.left] ∧ d.Ok ∧ SqX K H a (d.parts.map V.str) ∧
  H p = some (.ins C dx []) ∧ ∀ H' t, Kept p H H' → H' p = some (.ins C dx (pieceF d t)) → H' t = some (.tup (d.parts.map V.str)) → Q .non H'
abbrev sPieceI : Stmt := inClass (top 13) 0
theorem few_put {f : Str} {v : V} {fs : List (Str × V)} {n : Nat} (h : fs.length ≤ n) : (putF f v fs).length ≤ n + 1 := Nat.le_trans (length_putF f v fs) (Nat.succ_le_succ h)
theorem few_1000 {fs : List (Str × V)} {n : Nat} (h : fs.length ≤ n) (hn : n < 1000) : fs.length < 1000 := Nat.lt_of_le_of_lt h hn
section
variable {P : Program} {w : World} {K : PySem.W.Frag} {mg : Str → Option Value} {base : Heap}
theorem scPi : FnScope ["self", "word", "parts", "broken", "marked", "ahead", "behind", "blanks", "left"] ["self", "word", "parts", "broken", "marked", "ahead", "behind", "blanks", "left"] (defScope sPieceI) := ⟨rfl, rfl, rfl, by decide +kernel, rfl, by decide +kernel, by decide +kernel⟩
/-- the defs that Piece asks -/
structure PieceD (P : Program) (w : World) (K : PySem.W.Frag) (mg : Str → Option Value) (base : Heap) (fR fN fM fE fU : Addr) (dR dN dM dE dU : FuncData) : Prop where
  GR : FnOk P w K mg base CX0 1 fR dR ["holds", "word"] spReq
  gR : mg "require" = some (.ref fR)
  kR : PySem.W.keepIn K (.ref fR) = true
  bR : Binds K dR ["holds", "word"] []
  GN : FnOk P w K mg base CX0 1 fN dN ["value"] (spName K)
  gN : mg "is_name" = some (.ref fN)
  kN : PySem.W.keepIn K (.ref fN) = true
  bN : Binds K dN ["value"] []
  GM : FnOk P w K mg base CX0 2 fM dM ["value"] (spNames K)
  gM : mg "are_names" = some (.ref fM)
  kM : PySem.W.keepIn K (.ref fM) = true
  bM : Binds K dM ["value"] []
  GE : FnOk P w K mg base CX0 2 fE dE ["value"] (spRem K)
  gE : mg "is_remark" = some (.ref fE)
  kE : PySem.W.keepIn K (.ref fE) = true
  bE : Binds K dE ["value"] []
  GU : FnOk P w K mg base CX0 2 fU dU ["value", "many"] (spNum K)
  gU : mg "is_number" = some (.ref fU)
  kU : PySem.W.keepIn K (.ref fU) = true
  bU : Binds K dU ["value", "many"] []
theorem ok_pieceI {f C : Addr} {fd : FuncData} {dvs : List V} {fR fN fM fE fU : Addr} {dR dN dM dE dU : FuncData} (F : FunD K "__init__" "Piece.__init__" (defArgs sPieceI) (defBody sPieceI) (defScope sPieceI) dvs [] f fd) (T : TxtK mg) (Z : PieceC K C) (D : PieceD P w K mg base fR fN fM fE fU dR dN dM dE dU) :
    FnOk P w K mg base CX0 3 f fd ["self", "word", "parts", "broken", "marked", "ahead", "behind", "blanks", "left"] (spPieceI C K) := by
  refine F.ok scPi (fun vs H Q E h => ?_) (fun cdv A outer s H vs Q E hr h => ?_)
  · obtain ⟨p, a, dx, d, rfl, _⟩ := h
    rfl
  · obtain ⟨p, a, dx, d, rfl, o, ha, hp, k⟩ := h
    have hr1 := hr.mono (show 1 ≤ 2 by decide)
    suffices h : ∃ t, PSs (cxOf CX0 P w K mg base ["self", "word", "parts", "broken", "marked", "ahead", "behind", "blanks", "left"] "Piece.__init__" (defScope sPieceI) f cdv A outer s H E).nox (defBody sPieceI) t ∧ t { nx := fun _ H' => Q .non H', rt := Q } (start ["self", "word", "parts", "broken", "marked", "ahead", "behind", "blanks", "left"] [.ref p, .str d.word, .ref a, .bl d.broken, .bl d.marked, .str d.ahead, .str d.behind, .int d.blanks, .bl d.left]) H by
      obtain ⟨t, h1, h2⟩ := h
      exact ⟨t, h1.nox, h2⟩
    refine ⟨_, (pss_cons (ps_expr (pe_call D.GR hr1 (by rfl) D.gR D.kR D.bR .nil pass0 (pa_cons (pe_call D.GN hr1 (by rfl) D.gN D.kN D.bN .nil pass0 (pa_cons (pv 1) pa_nil)) (pa_cons pe_str pa_nil))))
    (pss_cons (ps_expr (pe_call D.GR hr1 (by rfl) D.gR D.kR D.bR .nil pass0 (pa_cons (pe_call D.GM hr (by rfl) D.gM D.kM D.bM .nil pass0 (pa_cons (pv 2) pa_nil)) (pa_cons pe_str pa_nil))))
    (pss_cons (ps_expr (pe_call D.GR hr1 (by rfl) D.gR D.kR D.bR .nil pass0 (pa_cons (pe_callB call_isi (by rfl) T.isinstance (by decide +kernel) (pa_cons (pv 3) (pa_cons (pe_bltn (v := .ty "bool") (by rfl) T.bool (by decide +kernel) rfl) pa_nil))) (pa_cons pe_str pa_nil))))
    (pss_cons (ps_expr (pe_call D.GR hr1 (by rfl) D.gR D.kR D.bR .nil pass0 (pa_cons (pe_callB call_isi (by rfl) T.isinstance (by decide +kernel) (pa_cons (pv 4) (pa_cons (pe_bltn (v := .ty "bool") (by rfl) T.bool (by decide +kernel) rfl) pa_nil))) (pa_cons pe_str pa_nil))))
    (pss_cons (ps_expr (pe_call D.GR hr1 (by rfl) D.gR D.kR D.bR .nil pass0 (pa_cons (pe_call D.GE hr (by rfl) D.gE D.kE D.bE .nil pass0 (pa_cons (pv 5) pa_nil)) (pa_cons pe_str pa_nil))))
    (pss_cons (ps_expr (pe_call D.GR hr1 (by rfl) D.gR D.kR D.bR .nil pass0 (pa_cons (pe_call D.GE hr (by rfl) D.gE D.kE D.bE .nil pass0 (pa_cons (pv 6) pa_nil)) (pa_cons pe_str pa_nil))))
    (pss_cons (ps_expr (pe_call D.GR hr1 (by rfl) D.gR D.kR D.bR .nil pass0 (pa_cons (pe_call D.GU hr (by rfl) D.gU D.kU D.bU .nil pass0 (pa_cons (pv 7) (pa_cons pe_int pa_nil))) (pa_cons pe_str pa_nil))))
    (pss_cons (ps_expr (pe_call D.GR hr1 (by rfl) D.gR D.kR D.bR .nil pass0 (pa_cons (pe_callB call_isi (by rfl) T.isinstance (by decide +kernel) (pa_cons (pv 8) (pa_cons (pe_bltn (v := .ty "bool") (by rfl) T.bool (by decide +kernel) rfl) pa_nil))) (pa_cons pe_str pa_nil))))
    (pss_cons (ps_fld (pv 0) (pv 1) rfl)
    (C8.pss_cut (ps_fld (pv 0) (pe_callTy call_tuple_of (by rfl) T.tuple (by decide +kernel) (pa_cons (pv 2) pa_nil)) rfl)
    (pss_cons (ps_fld (pv 0) (pv 3) rfl)
    (pss_cons (ps_fld (pv 0) (pv 4) rfl)
    (pss_cons (ps_fld (pv 0) (pv 5) rfl)
    (pss_cons (ps_fld (pv 0) (pv 6) rfl)
    (pss_cons (ps_fld (pv 0) (pv 7) rfl)
    (pss_one (ps_fld (pv 0) (pv 8) rfl))))))))))))))))), ?_⟩
    have nap : a ≠ p := by
      rcases ha with ha | ha
      · exact ne_of ha hp (fun z => nomatch z)
      · exact ne_of ha hp (fun z => nomatch z)
    refine ⟨_, rfl, _, true, rfl, .inl ⟨_, rfl, six_line (nameB_len o.word), o.word.symm⟩, _, rfl, ?_⟩
    have hall : (decide (0 < (d.parts.map V.str).length) && (List.replicate d.parts.length true).all id) = true := by
      rw [List.length_map, decide_eq_true o.some, Bool.true_and, List.all_eq_true]
      intro b hb
      rw [(List.mem_replicate.mp hb).2]
      rfl
    refine ⟨_, rfl, _, rfl, .inr ⟨a, _, List.replicate d.parts.length true, rfl, ha, by rw [List.length_map]; exact o.few, ⟨by rw [List.length_replicate, List.length_map], fun i x b hx hb => ?_⟩, fun H1 s1 => ⟨_, by rw [hall]; rfl, ?_⟩⟩⟩
    · rw [List.getElem?_map] at hx
      cases q : d.parts[i]? with
      | none =>
        rw [q] at hx
        cases hx
      | some z =>
        rw [q] at hx
        cases hx
        have hz := o.parts z (List.mem_of_getElem? q)
        have eb : b = true := (List.mem_replicate.mp (List.mem_of_getElem? hb)).2
        exact .inl ⟨z, rfl, six_line (nameB_len hz), by rw [eb, hz]⟩
    obtain ⟨t3, y3, e3⟩ := isT_bl (K := K) (H := H1) (z := d.broken)
    refine ⟨_, rfl, _, _, _, _, _, rfl, .ty _, y3, e3, _, rfl, ?_⟩
    obtain ⟨t4, y4, e4⟩ := isT_bl (K := K) (H := H1) (z := d.marked)
    refine ⟨_, rfl, _, _, _, _, _, rfl, .ty _, y4, e4, _, rfl, ?_⟩
    refine ⟨_, rfl, _, rfl, .inl ⟨_, rfl, six_line (remarkB_len o.ahead), _, by rw [o.ahead]; rfl, ?_⟩⟩
    refine ⟨_, rfl, _, rfl, .inl ⟨_, rfl, six_line (remarkB_len o.behind), _, by rw [o.behind]; rfl, ?_⟩⟩
    refine ⟨_, rfl, _, _, rfl, .inl ⟨_, rfl, _, by rw [decide_eq_true o.b0, decide_eq_true o.b3]; rfl, ?_⟩⟩
    obtain ⟨t8, y8, e8⟩ := isT_bl (K := K) (H := H1) (z := d.left)
    refine ⟨_, rfl, _, _, _, _, _, rfl, .ty _, y8, e8, _, rfl, ?_⟩
    refine ⟨_, rfl, _, rfl, p, C, dx, _, rfl, s1 _ _ hp, Z.cl, Z.word, (by show 0 < 1000; decide), ?_⟩
    refine ⟨fun σ' G => σ' = start ["self", "word", "parts", "broken", "marked", "ahead", "behind", "blanks", "left"] [.ref p, .str d.word, .ref a, .bl d.broken, .bl d.marked, .str d.ahead, .str d.behind, .int d.blanks, .bl d.left] ∧
      ∃ t, Kept p H G ∧ t ≠ p ∧ G p = some (.ins C dx (putF "parts" (.ref t) (putF "word" (.str d.word) []))) ∧ G t = some (.tup (d.parts.map V.str)), ?_, ?_⟩
    · have k1 : Kept p H (upd H1 p (.ins C dx (putF "word" (.str d.word) []))) := (Kept.of_same s1).trans Kept.box
      rcases ha with ha | ha
      · refine ⟨_, rfl, a, _, rfl, .inl ⟨SqL.of (k1 _ _ nap ha), fun l hl => ⟨_, rfl, p, C, dx, _, rfl, Same.new hl _ _ upd_same, Z.cl, Z.parts, few_1000 (few_put (Nat.zero_le 0)) (by decide), rfl, l, (k1.trans (Kept.new hl)).trans Kept.box, ?_, upd_same, ?_⟩⟩⟩
        · intro z
          rw [z, upd_same] at hl
          cases hl
        · have nlp : l ≠ p := fun z => by
            rw [z, upd_same] at hl
            cases hl
          rw [upd_ne nlp, upd_same]
      · refine ⟨_, rfl, a, _, rfl, .inr ⟨SqT.of (k1 _ _ nap ha), _, rfl, p, C, dx, _, rfl, upd_same, Z.cl, Z.parts, few_1000 (few_put (Nat.zero_le 0)) (by decide), rfl, a, k1.trans Kept.box, nap, upd_same, (by rw [upd_ne nap]; exact k1 _ _ nap ha)⟩⟩
    · rintro σ' G ⟨rfl, t, kG, ntp, hG, ht⟩
      refine ⟨_, rfl, _, rfl, p, C, dx, _, rfl, hG, Z.cl, Z.broken, few_1000 (few_put (few_put (Nat.zero_le 0))) (by decide), ?_⟩
      refine ⟨_, rfl, _, rfl, p, C, dx, _, rfl, upd_same, Z.cl, Z.marked, few_1000 (few_put (few_put (few_put (Nat.zero_le 0)))) (by decide), ?_⟩
      refine ⟨_, rfl, _, rfl, p, C, dx, _, rfl, upd_same, Z.cl, Z.ahead, few_1000 (few_put (few_put (few_put (few_put (Nat.zero_le 0))))) (by decide), ?_⟩
      refine ⟨_, rfl, _, rfl, p, C, dx, _, rfl, upd_same, Z.cl, Z.behind, few_1000 (few_put (few_put (few_put (few_put (few_put (Nat.zero_le 0)))))) (by decide), ?_⟩
      refine ⟨_, rfl, _, rfl, p, C, dx, _, rfl, upd_same, Z.cl, Z.blanks, few_1000 (few_put (few_put (few_put (few_put (few_put (few_put (Nat.zero_le 0))))))) (by decide), ?_⟩
      refine ⟨_, rfl, _, rfl, p, C, dx, _, rfl, upd_same, Z.cl, Z.left, few_1000 (few_put (few_put (few_put (few_put (few_put (few_put (few_put (Nat.zero_le 0)))))))) (by decide), ?_⟩
      simp only [upd_upd]
      exact k _ t (kG.trans Kept.box) upd_same (Kept.box _ _ ntp ht)
end
end Lay
set_option Elab.async false
set_option linter.all false
set_option maxRecDepth 100000
set_option maxHeartbeats 4000000
set_option pp.maxSteps 700
namespace Lay
open PySem PySem.Spec PyProof.Rows L2 KwX StX
/-! a piece with other things in the place of its own -/
def pnames : List Str := ["word", "parts", "broken", "marked", "ahead", "behind", "blanks", "left"]
def slf : List Str := ["self"]
abbrev sBut : Stmt := inClass (top 13) 2
theorem kbn_piece {K : PySem.W.Frag} {f : Addr} {fd : FuncData} {dvs : List V} (F : FunD K "__init__" "Piece.__init__" (defArgs sPieceI) (defBody sPieceI) (defScope sPieceI) dvs [] f fd) (hd : dvs.length = 6) :
    ∃ its : List Value, KBn K fd ["self", "word", "parts", "broken", "marked", "ahead", "behind", "blanks", "left"] (0 + 1) pnames (fun us ws => us ++ ws) (fun vs zs => vs ++ zs) := by
  have h := F.kbindsD (ps := ["self", "word", "parts", "broken", "marked", "ahead", "behind", "blanks", "left"]) 1 pnames (fun us _ ws => us ++ ws) (fun z => by rw [z] at hd; cases hd) (fun r _ r2 => r.append r2) fun T kV doc pm an cdv ct us its ws h1 h2 h3 => by
    rw [hd] at h2
    match us, its, ws, h1, h2, h3 with
    | [_], [_, _, _, _, _, _], [_, _, _, _, _, _, _, _], _, _, _ => exact ⟨_, rfl, rfl⟩
  exact h
/-- the piece e in the place of d -/
def spButG (K : PySem.W.Frag) (C : Addr) (ks : List Str) : Sp := fun vs H Q _ => ∃ (p q t dx a : Addr) (d e : PD) (zs : List V), vs = [.ref p, .ref q] ∧ H p = some (.ins C dx (pieceF d t)) ∧ H q = some (.dK (kvK ks zs)) ∧ ks.length ≤ 8 ∧ zs.length = ks.length ∧
  mergeK (kvK pnames [.str d.word, .ref t, .bl d.broken, .bl d.marked, .str d.ahead, .str d.behind, .int d.blanks, .bl d.left]) (kvK ks zs) = kvK pnames [.str e.word, .ref a, .bl e.broken, .bl e.marked, .str e.ahead, .str e.behind, .int e.blanks, .bl e.left] ∧ e.Ok ∧ SqX K H a (e.parts.map V.str) ∧
  ∀ y H', Same H H' → H y = none → PieceAt K C H' y e → Q (.ref y) H'
section
variable {P : Program} {w : World} {K : PySem.W.Frag} {mg : Str → Option Value} {base : Heap}
theorem scBut : FnScope ["self", "others", "told"] (slf ++ [("others" : Str)]) (defScope sBut) := ⟨rfl, rfl, rfl, by decide +kernel, rfl, by decide +kernel, by decide +kernel⟩
theorem cxUp_0 : CXUp CX0 := cxUp_none
theorem ok_butG {f fP C : Addr} {fd fdP : FuncData} {ks : List Str} (F : Fun K "but" "Piece.but" sBut f fd) (Z : PieceC K C) (M : Mk K C fP) (hnd : ks.Nodup) (hks : ks.length ≤ 1000)
    (GP : FnOk P w K mg base CX0 3 fP fdP ["self", "word", "parts", "broken", "marked", "ahead", "behind", "blanks", "left"] (spPieceI C K)) (gP : mg "Piece" = some (.ref C)) (kb : KBn K fdP ["self", "word", "parts", "broken", "marked", "ahead", "behind", "blanks", "left"] (0 + 1) pnames (fun us ws => us ++ ws) (fun vs zs => vs ++ zs))
    (hb : ∀ (kV doc pm : Value) (an : Option Addr) (cdv ct : Value) (us ws : List Value), us.length = slf.length → ws.length = ks.length → bindArgs (PySem.W.fnOf "but" "Piece.but" (defArgs sBut) (defBody sBut) (defScope sBut) .none kV doc pm an cdv ct) ⟨us, ks.zip ws⟩ =
      ((alloc ({ cls := .type "dict", data := .dict #[] } : Obj) : Sem Addr) >>= fun d => (forIn (ks.zip ws) PUnit.unit fun x _ => (nsSet d x.1 x.2 >>= fun _ => pure (ForInStep.yield PUnit.unit))) >>= fun _ => pure (slf.zip us ++ [(("others" : Str), Value.ref d)]))) :
    FnRK P w K mg base CX0 5 f ks (fun vs zs H Q E => vs.length = slf.length ∧ zs.length = ks.length ∧ ∀ d, H d = none → spButG K C ks (vs ++ [V.ref d]) (upd H d (.dK (kvK ks zs))) Q E) := by
  refine fun_kw F scBut cxUp_0 hnd hks hb (fun cdv A outer s H vs Q E hr h => ?_)
  obtain ⟨p, q, t, dx, a, d, e, zs, rfl, hp, hq, lk, lz, em, oe, ha, k⟩ := h
  refine ⟨_, (pss_cons (ps_set (i := 2) scBut.nd rfl (.inl rfl) (pe_disp (pps_cons pe_str (pe_fld (pv 0) rfl) (pps_cons pe_str (pe_fld (pv 0) rfl) (pps_cons pe_str (pe_fld (pv 0) rfl) (pps_cons pe_str (pe_fld (pv 0) rfl) (pps_cons pe_str (pe_fld (pv 0) rfl) (pps_cons pe_str (pe_fld (pv 0) rfl) (pps_cons pe_str (pe_fld (pv 0) rfl) (pps_cons pe_str (pe_fld (pv 0) rfl) pps_nil)))))))) rfl rfl (by decide) (by decide)))
    (pss_cons (ps_expr (pe_dupd (pv 2) (pv 1) ⟨by rfl, by rfl, by rfl, by rfl⟩))
    (pss_one (ps_ret (pe_makeD (E := E0) M GP hr (by rfl) gP kb pass0 (pv 2) (by decide +kernel) (by decide)))))), ?_⟩
  refine fun u nu => ?_
  have hp1 := Same.new nu (o := .dK []) _ _ hp
  refine ⟨_, rfl, p, C, dx, _, _, rfl, hp1, Z.cl, Z.word, rfl, _, rfl, p, C, dx, _, _, rfl, hp1, Z.cl, Z.parts, rfl, _, rfl, p, C, dx, _, _, rfl, hp1, Z.cl, Z.broken, rfl, _, rfl, p, C, dx, _, _, rfl, hp1, Z.cl, Z.marked, rfl, ?_⟩
  refine ⟨_, rfl, p, C, dx, _, _, rfl, hp1, Z.cl, Z.ahead, rfl, _, rfl, p, C, dx, _, _, rfl, hp1, Z.cl, Z.behind, rfl, _, rfl, p, C, dx, _, _, rfl, hp1, Z.cl, Z.blanks, rfl, _, rfl, p, C, dx, _, _, rfl, hp1, Z.cl, Z.left, rfl, ?_⟩
  refine ⟨upd_same, [(.inr "word", .str d.word), (.inr "parts", .ref t), (.inr "broken", .bl d.broken), (.inr "marked", .bl d.marked), (.inr "ahead", .str d.ahead), (.inr "behind", .str d.behind), (.inr "blanks", .int d.blanks), (.inr "left", .bl d.left)], rfl, (by show 8 ≤ 15; decide), ?_⟩
  rw [show mergeK [] [(.inr "word", .str d.word), (.inr "parts", .ref t), (.inr "broken", .bl d.broken), (.inr "marked", .bl d.marked), (.inr "ahead", .str d.ahead), (.inr "behind", .str d.behind), (.inr "blanks", .int d.blanks), (.inr "left", .bl d.left)] = kvK pnames [.str d.word, .ref t, .bl d.broken, .bl d.marked, .str d.ahead, .str d.behind, .int d.blanks, .bl d.left] from rfl, upd_upd]
  have uq : u ≠ q := (ne_of_none hq nu).symm
  have hqu : upd H u (.dK (kvK pnames [.str d.word, .ref t, .bl d.broken, .bl d.marked, .str d.ahead, .str d.behind, .int d.blanks, .bl d.left])) q = some (.dK (kvK ks zs)) := by rw [upd_ne (Ne.symm uq)]; exact hq
  have lk2 : (kvK ks zs).length ≤ 8 := by
    unfold kvK
    rw [List.length_zip, List.length_map]
    omega
  refine ⟨_, rfl, u, rfl, .inl ⟨_, .inl upd_same⟩, _, rfl, q, _, _, rfl, upd_same, hqu, uq, (by show 8 + _ ≤ 1000; omega), ?_⟩
  rw [em, upd_upd]
  have su : Same H (upd H u (.dK (kvK pnames [.str e.word, .ref a, .bl e.broken, .bl e.marked, .str e.ahead, .str e.behind, .int e.blanks, .bl e.left]))) := Same.new nu
  have hu : upd H u (.dK (kvK pnames [.str e.word, .ref a, .bl e.broken, .bl e.marked, .str e.ahead, .str e.behind, .int e.blanks, .bl e.left])) u = some (.dK (kvK pnames [.str e.word, .ref a, .bl e.broken, .bl e.marked, .str e.ahead, .str e.behind, .int e.blanks, .bl e.left])) := upd_same
  generalize upd H u (.dK (kvK pnames [.str e.word, .ref a, .bl e.broken, .bl e.marked, .str e.ahead, .str e.behind, .int e.blanks, .bl e.left])) = G at *
  refine fun d1 nd1 => ⟨_, rfl, u, [.str e.word, .ref a, .bl e.broken, .bl e.marked, .str e.ahead, .str e.behind, .int e.blanks, .bl e.left], rfl, upd_same, Same.new nd1 _ _ hu, rfl, ne_of_none hu nd1, fun y dy ny ndy ne => ?_⟩
  rw [upd_upd] at ny ndy ⊢
  have s1 : Same H (upd G d1 (.dK (kvK pnames [.str e.word, .ref a, .bl e.broken, .bl e.marked, .str e.ahead, .str e.behind, .int e.blanks, .bl e.left]))) := su.trans (Same.new nd1)
  generalize upd G d1 (.dK (kvK pnames [.str e.word, .ref a, .bl e.broken, .bl e.marked, .str e.ahead, .str e.behind, .int e.blanks, .bl e.left])) = G1 at *
  have ny2 : upd G1 dy (.own y) y = none := by
    rw [upd_ne (Ne.symm ne)]
    exact ny
  have s2 := (s1.trans (Same.new ndy (o := .own y))).trans (Same.new ny2 (o := .ins C dy []))
  refine ⟨y, a, dy, e, rfl, oe, SqX.same s2 ha, upd_same, fun H' t' kp h1 h2 => ⟨rfl, k y H' (fun b o eb => kp b o (ne_of_none (s1 _ _ eb) ny) (s2 _ _ eb)) (s1.free ny) ⟨dy, t', h1, h2⟩⟩⟩
end
end Lay
set_option Elab.async false
set_option linter.all false
set_option maxRecDepth 100000
set_option maxHeartbeats 4000000
set_option pp.maxSteps 1000
namespace Lay
open PySem PySem.Spec PyProof.Rows L2
theorem fitsN {n : Nat} (h : n ≤ 1000000) : n ≤ sizeLine := by rw [sizeLine_eq]; omega
theorem sum_few : ∀ {zs : List Str} {n : Nat}, (∀ z ∈ zs, z.length ≤ n) → (zs.map (·.length)).sum ≤ zs.length * n
  | [], _, _ => by simp
  | z :: zs, n, h => by
    have h1 := h z List.mem_cons_self
    have h2 := sum_few (zs := zs) fun y hy => h y (List.mem_cons_of_mem _ hy)
    rw [List.map_cons, List.sum_cons, List.length_cons, Nat.succ_mul]
    omega
theorem sjoin_le (sep : Str) : ∀ ts : List Str, (Str.join sep ts).length ≤ (ts.map (·.length)).sum + ts.length * sep.length
  | [] => by
    show (Str.join sep []).length ≤ _
    have : (Str.join sep []).length = 0 := rfl
    omega
  | [t] => by
    show t.length ≤ _
    rw [List.map_cons, List.sum_cons]
    omega
  | t :: u :: r => by
    have ih := sjoin_le sep (u :: r)
    show (t ++ sep ++ Str.join sep (u :: r)).length ≤ _
    rw [Str.length_append, Str.length_append, List.map_cons, List.sum_cons, List.length_cons, Nat.succ_mul]
    omega
theorem join_le (sep : Str) (ts : List Str) : (Txt.join sep ts).length ≤ (ts.map (·.length)).sum + ts.length * sep.length := by
  rw [TL.join_eq]
  exact sjoin_le sep ts
/-! ### the rows of a piece -/
def signS (d : PD) : Str := if d.left = true then Str.ofString "!" else Str.ofString ""
def headS (d : PD) : Str := ((Str.empty ++ signS d) ++ d.word) ++ Str.ofString "("
def tailS (d : PD) : Str := if d.behind.length = 0 then Str.ofString ")" else (Str.empty ++ Str.ofString ")  # ") ++ d.behind
def commaS (d : PD) : Str := if d.marked = true then Str.ofString "," else Str.ofString ""
def itemS (z : Str) : Str := ((Str.empty ++ Str.ofString "  ") ++ z) ++ Str.ofString ","
def lastS (d : PD) (z : Str) : Str := ((Str.empty ++ Str.ofString "  ") ++ z) ++ commaS d
def bodyS (d : PD) : List Str := if d.broken = true then headS d :: ((d.parts.dropLast.map itemS) ++ [lastS d (d.parts.getLastD Str.empty), tailS d])
  else [((headS d ++ Txt.join ", " d.parts) ++ commaS d) ++ tailS d]
def remarkS (d : PD) : List Str := if d.ahead.length = 0 then [] else [(Str.empty ++ Str.ofString "# ") ++ d.ahead]
def rowsS (d : PD) : List Str := List.replicate d.blanks.toNat (Str.ofString "") ++ (remarkS d ++ bodyS d)
def spText (K : PySem.W.Frag) (C : Addr) (g : PD → Str) : Sp := fun vs H Q _ => ∃ (p : Addr) (d : PD), vs = [.ref p] ∧ PieceAt K C H p d ∧ d.Ok ∧ d.parts.length ≤ 30 ∧ Q (.str (g d)) H
def spRowsOf (K : PySem.W.Frag) (C : Addr) (g : PD → List Str) : Sp := fun vs H Q _ => ∃ (p : Addr) (d : PD), vs = [.ref p] ∧ PieceAt K C H p d ∧ d.Ok ∧ d.parts.length ≤ 30 ∧ ∀ l H', Same H H' → H l = none → H' l = some (.lst ((g d).map V.str)) → Q (.ref l) H'
theorem headS_len {d : PD} (o : d.Ok) : (headS d).length ≤ 8 := by
  have h1 := nameB_len o.word
  have h2 : (signS d).length ≤ 1 := by
    unfold signS
    split <;> decide
  have h3 : (Str.ofString "(").length = 1 := by decide
  have h4 : Str.empty.length = 0 := by decide
  unfold headS
  rw [Str.length_append, Str.length_append, Str.length_append]
  omega
theorem tailS_len {d : PD} (o : d.Ok) : (tailS d).length ≤ 11 := by
  have h1 := remarkB_len o.behind
  have h3 : (Str.ofString ")  # ").length = 5 := by decide
  have h4 : Str.empty.length = 0 := by decide
  unfold tailS
  split
  · decide
  · rw [Str.length_append, Str.length_append]
    omega
theorem commaS_len {d : PD} : (commaS d).length ≤ 1 := by
  unfold commaS
  split <;> decide
section
variable {X : Cx}
theorem sl_tupS : SlR X (fun x lo hi H Q => ∃ a xs, x = .ref a ∧ SqT X.K H a xs ∧ ∀ p H', Same H H' → SqT X.K H' p (cutV xs lo hi) → Q (.ref p) H') := by
  intro pins s σ H x v vl vu lo hi sl Q I rx hs pl pu h
  obtain ⟨a, xs, rfl, hx, q⟩ := h
  refine sl_tupA pins s σ H _ v vl vu lo hi sl Q I rx hs pl pu ⟨a, xs, rfl, hx, fun w => ?_, fun _ p np => q p _ (Same.new np) (SqT.of upd_same)⟩
  refine q a H (Same.refl H) ?_
  unfold cutV
  rw [w.1, w.2, List.drop_zero, Nat.sub_zero, List.take_length]
  exact hx
end
abbrev sHead : Stmt := top 12
section
variable {P : Program} {w : World} {K : PySem.W.Frag} {mg : Str → Option Value} {base : Heap}
theorem scHead : FnScope ["piece", "sign"] ["piece"] (defScope sHead) := ⟨rfl, rfl, rfl, by decide +kernel, rfl, by decide +kernel, by decide +kernel⟩
theorem ok_head {f C : Addr} {fd : FuncData} (F : Fun K "head_of" "head_of" sHead f fd) (Z : PieceC K C) : FnOk P w K mg base CX0 1 f fd ["piece"] (spText K C headS) := by
  refine F.ok scHead (fun vs H Q E h => ?_) (fun cdv A outer s H vs Q E hr h => ?_)
  · obtain ⟨p, d, rfl, _⟩ := h
    rfl
  · obtain ⟨p, d, rfl, ⟨dx, t, hp, ht⟩, o, few, k⟩ := h
    refine ⟨_, (pss_cons (ps_set (i := 1) scHead.nd rfl (.inl rfl) (pe_ifExp (pt_val (pe_fld (pv 0) rfl)) pe_str pe_str))
      (pss_one (ps_ret (pe_joined (.cons (pe_fmt (pv 1)) (.cons (pe_fmt (pe_fld (pv 0) rfl)) (.cons pe_str .nil))))))), ?_⟩
    have hl := headS_len o
    have h1 := nameB_len o.word
    have h3 : (Str.ofString "(").length = 1 := by decide
    have h4 : Str.empty.length = 0 := by decide
    refine ⟨_, rfl, p, C, dx, _, _, rfl, hp, Z.cl, Z.left, rfl, d.left, rfl, ?_⟩
    by_cases q : d.left = true
    · refine iteY q ?_
      have e : headS d = ((Str.empty ++ Str.ofString "!") ++ d.word) ++ Str.ofString "(" := by
        unfold headS signS
        rw [if_pos q]
      rw [e] at k hl
      have l0 : (Str.ofString "!").length = 1 := by decide
      exact ⟨_, rfl, .inl ⟨_, rfl, fitsN (by omega), _, rfl, fitsN (by rw [Str.length_append]; omega), _, rfl, p, C, dx, _, _, rfl, hp, Z.cl, Z.word, rfl, .inl ⟨_, rfl, fitsN (by omega), _, rfl, fitsN (by rw [Str.length_append, Str.length_append]; omega), _, rfl, fitsN (by omega), k⟩⟩⟩
    · refine iteN (by simpa using q) ?_
      have e : headS d = ((Str.empty ++ Str.ofString "") ++ d.word) ++ Str.ofString "(" := by
        unfold headS signS
        rw [if_neg q]
      rw [e] at k hl
      have l0 : (Str.ofString "").length = 0 := by decide
      exact ⟨_, rfl, .inl ⟨_, rfl, fitsN (by omega), _, rfl, fitsN (by rw [Str.length_append]; omega), _, rfl, p, C, dx, _, _, rfl, hp, Z.cl, Z.word, rfl, .inl ⟨_, rfl, fitsN (by omega), _, rfl, fitsN (by rw [Str.length_append, Str.length_append]; omega), _, rfl, fitsN (by omega), k⟩⟩⟩
end
end Lay
set_option Elab.async false
set_option linter.all false
set_option maxRecDepth 100000
set_option maxHeartbeats 4000000
set_option pp.maxSteps 1000
namespace Lay
open PySem PySem.Spec PyProof.Rows L2
section
variable {X : Cx}
def signs (x : Str) : List V := x.cps.toList.map fun c => V.str ⟨#[c]⟩
/-- list(x) of a text -/
theorem call_listS (hc : X.calm = true) : CallR X (.type "list") (fun xs H Q => ∃ x : Str, xs = [.str x] ∧ x.cps.size ≤ 1000 ∧ ∀ l, H l = none → Q (.ref l) (upd H l (.lst (signs x)))) := by
  intro pins s σ H xs us Q I r h
  obtain ⟨x, rfl, hz, q⟩ := h
  obtain ⟨u, rfl, t, rfl⟩ := vals1 r
  refine call_list_str (hn := fits hz) (I.ok.hd hc) x t fun h' tk acc c' hk e hi => ?_
  refine ⟨.ref s.heap.objs.size, upd H s.heap.objs.size (.lst (signs x)), I.laid hk (Nat.le_refl _) ⟨by unfold signs; rw [List.length_map, Array.length_toList]; exact fits hz, acc.toList, c', ?_, by rw [Array.toArray_toList]; exact e⟩, rfl, q _ (I.hok.fresh (Nat.le_refl _))⟩
  refine vals_of_idx _ _ (by unfold signs; rw [List.length_map, Array.length_toList, Array.length_toList]; exact hi.1) fun j u hj => ?_
  obtain ⟨c, t', hc, rfl⟩ := hi.2 j u (by rw [← Array.getElem?_toList]; exact hj)
  exact ⟨.str ⟨#[c]⟩, by simp [signs, hc], ⟨_, rfl⟩⟩
end
/-! ### names that are drawn -/
def sixC : List Nat := [97, 98, 99, 120, 121, 122]
def Six (z : Str) : Prop := ∀ c ∈ z.cps.toList, c ∈ sixC
theorem six_all : ∀ c ∈ sixC, c < 128 ∧ Unicode.isAlpha c = true ∧ Unicode.isLower c = true ∧ (Unicode.isUpper c || Unicode.isTitle c) = false := by decide +kernel
theorem Six.append {a b : Str} (h : Six a) (k : Six b) : Six (a ++ b) := fun c hc => by
  have e : (a ++ b).cps.toList = a.cps.toList ++ b.cps.toList := by
    cases a
    cases b
    exact Array.toList_append
  rw [e] at hc
  exact (List.mem_append.mp hc).elim (h c) (k c)
theorem Six.join : ∀ {zs : List Str}, (∀ z ∈ zs, Six z ∧ z.length = 1) → Six (Str.join "" zs) ∧ (Str.join "" zs).length = zs.length
  | [], _ => ⟨fun c hc => by
      have e : (Str.join "" []).cps.toList = [] := by decide
      rw [e] at hc
      exact (List.not_mem_nil hc).elim, by decide⟩
  | [z], h => ⟨(h z (List.mem_singleton.mpr rfl)).1, (h z (List.mem_singleton.mpr rfl)).2⟩
  | z :: y :: r, h => by
    have ih := Six.join (zs := y :: r) fun x hx => h x (List.mem_cons_of_mem _ hx)
    have h0 := h z List.mem_cons_self
    have e : Six (Str.ofString "") := fun c hc => by
      have e : (Str.ofString "").cps.toList = [] := by decide
      rw [e] at hc
      exact (List.not_mem_nil hc).elim
    have e1 : (Str.ofString "").length = 0 := by decide
    refine ⟨(h0.1.append e).append ih.1, ?_⟩
    show ((z ++ Str.ofString "") ++ Str.join "" (y :: r)).length = _
    rw [Str.length_append, Str.length_append, ih.2, h0.2, e1, List.length_cons, List.length_cons, List.length_cons]
    omega
theorem Six.name {z : Str} (h : Six z) (l0 : 0 < z.length) (l6 : z.length ≤ 6) : nameB z = true := by
  have hs : z.cps.size = z.length := rfl
  unfold nameB Txt.isascii Txt.isalpha Txt.islower
  simp only [Bool.and_eq_true, decide_eq_true_eq]
  refine ⟨l6, ?_, ⟨l0, ?_⟩, ?_, ?_⟩
  · rw [Array.all_eq_true']
    exact fun c hc => decide_eq_true (six_all c (h c (Array.mem_toList_iff.mpr hc))).1
  · rw [Array.all_eq_true']
    exact fun c hc => (six_all c (h c (Array.mem_toList_iff.mpr hc))).2.1
  · rw [Array.any_eq_true']
    have hm : z.cps[0]'(by omega) ∈ z.cps := Array.getElem_mem _
    exact ⟨_, hm, (six_all _ (h _ (Array.mem_toList_iff.mpr hm))).2.2.1⟩
  · rw [Bool.not_eq_true']
    cases e : z.cps.any fun c => Unicode.isUpper c || Unicode.isTitle c with
    | false => rfl
    | true =>
      rw [Array.any_eq_true'] at e
      obtain ⟨c, hc, hu⟩ := e
      rw [(six_all c (h c (Array.mem_toList_iff.mpr hc))).2.2.2] at hu
      cases hu
theorem signs_six : ∀ v ∈ signs (Str.ofString "abcxyz"), ∃ z, v = V.str z ∧ Six z ∧ z.length = 1 := fun v hv => by
  obtain ⟨c, hc, rfl⟩ := List.mem_map.mp hv
  refine ⟨_, rfl, fun d hd => ?_, rfl⟩
  have e : (Str.ofString "abcxyz").cps.toList = sixC := by decide +kernel
  rw [e] at hc
  have : d = c := by simpa using hd
  rw [this]
  exact hc
abbrev sLName : Stmt := top 26
def lnN : List Str := ["_law_box_here", "_law_most", "_law_letters", "_law_many", "_law_turn"]
def spLName : Sp := fun vs H Q _ => ∃ (b : Addr) (m : Int), vs = [.ref b, .int m] ∧ BoxAt H b ∧ 0 < m ∧ m ≤ 6 ∧ ∀ z H', Kept b H H' → BoxAt H' b → nameB z = true → Q (.str z) H'
section
variable {P : Program} {w : World} {K : PySem.W.Frag} {mg : Str → Option Value} {base : Heap}
theorem scLName : FnScope lnN ["_law_box_here", "_law_most"] (defScope sLName) := ⟨rfl, rfl, rfl, by decide +kernel, rfl, by decide +kernel, by decide +kernel⟩
theorem ok_lname {f fT fK : Addr} {fd dT dK : FuncData} (F : Fun K "_law_name" "_law_name" sLName f fd) (hrange : mg "range" = none) (hlist : mg "list" = none)
    (GT : FnOk P w K mg base CX0 1 fT dT ["_law_box_here", "_law_many"] spTake) (gT : mg "_law_take" = some (.ref fT)) (kT : PySem.W.keepIn K (.ref fT) = true) (bT : Binds K dT ["_law_box_here", "_law_many"] [])
    (GK : FnOk P w K mg base CX0 2 fK dK ["_law_box_here", "_law_items"] (spPick K)) (gK : mg "_law_pick" = some (.ref fK)) (kK : PySem.W.keepIn K (.ref fK) = true) (bK : Binds K dK ["_law_box_here", "_law_items"] []) : FnOk P w K mg base CX0 3 f fd ["_law_box_here", "_law_most"] spLName := by
  refine F.ok scLName (fun vs H Q E h => ?_) (fun cdv A outer s H vs Q E hr h => ?_)
  · obtain ⟨b, m, rfl, _⟩ := h
    rfl
  · obtain ⟨b, m, rfl, hb, m0, m6, k⟩ := h
    have hr1 := hr.mono (show 1 ≤ 2 by decide)
    refine ⟨_, (pss_cons (ps_asg (pe_tup (pa_cons pe_str (pa_cons (pe_op op_add pe_int (pe_call GT hr1 (by rfl) gT kT bT .nil pass0 (pa_cons (pv 0) (pa_cons (pv 1) pa_nil)))) pa_nil))) (pg_tup rfl (pgs_cons (pg_name (i := 2) scLName.nd rfl (.inr rfl)) (pgs_cons (pg_name (i := 3) scLName.nd rfl (.inl rfl)) pgs_nil))))
      (pss_one (ps_ret (pe_bm PySem.F.plainAttrs_str PySem.F.slot_str_join PySem.F.type_str_join mt_join pe_str (pa_cons
        (pe_lc (own := [("_law_turn", 4)]) (g := gName 4) (tt := tYes) (by rfl) scLName.nd (pi_range1 (by rfl) hrange (pa_cons (pv 3) pa_nil)) (blkOk_by (N := lnN) (sc := defScope sLName) (by decide +kernel))
          (fun _ _ _ _ _ => pg_name (i := 4) scLName.nd rfl (Or.inl rfl)) (fun _ _ _ _ _ => pts_nil)
          (fun _ _ _ _ _ => pe_call GK hr (by rfl) gK kK bK .nil pass0 (pa_cons (pv 0) (pa_cons (pe_callTy (call_listS rfl) (by rfl) hlist (by decide +kernel) (pa_cons (pv 2) pa_nil)) pa_nil)))) pa_nil))))), ?_⟩
    refine ⟨_, rfl, _, rfl, b, m, rfl, hb, m0, by omega, fun r o r0 r1 ob => ?_⟩
    have b1 : BoxAt (upd H b o) b := BoxAt.box ob
    have k1 : Kept b H (upd H b o) := Kept.box
    generalize upd H b o = G1 at *
    refine ⟨1, r, rfl, rfl, (by show 2 ≤ sizeLine; decide), fun p np => ⟨p, _, rfl, SqT.of upd_same, rfl, _, _, rfl, _, _, rfl, rfl, ?_⟩⟩
    have sp := Same.new np (o := .tup [.str "abcxyz", .int (1 + r)])
    have b2 : BoxAt (upd G1 p (.tup [.str "abcxyz", .int (1 + r)])) b := BoxAt.new b1 np
    have k2 : Kept b H (upd G1 p (.tup [.str "abcxyz", .int (1 + r)])) := k1.trans (Kept.of_same sp)
    generalize upd G1 p (.tup [.str "abcxyz", .int (1 + r)]) = G2 at *
    have ls : (signs (Str.ofString "abcxyz")).length = 6 := by decide +kernel
    refine ⟨rfl, _, rfl, 1 + r, rfl, by omega, by omega, fun D nD => lc_range (lo := 0) (n := Int.toNat _) (fun n G' => ∃ zs : List Str, Kept b G2 G' ∧ BoxAt G' b ∧ D ≠ b ∧ G' D = some (.lst (zs.map V.str)) ∧ zs.length = n ∧ ∀ z ∈ zs, Six z ∧ z.length = 1)
      ⟨[], Kept.new nD, b2.new nD, b2.ne nD, upd_same, rfl, fun z h => (List.not_mem_nil h).elim⟩ ?_ ?_⟩
    · rintro n G' hn ⟨zs, k', b', nb, hD, hl, hz⟩
      refine ⟨rfl, _, rfl, _, rfl, _, rfl, by decide +kernel, fun l nl => ?_⟩
      refine ⟨b, l, _, rfl, b'.new nl, b'.ne nl, SqL.of upd_same, by rw [ls]; decide, by rw [ls]; decide, fun v o hv ho => ?_⟩
      obtain ⟨z, rfl, z1, z2⟩ := signs_six v hv
      have nlD : D ≠ l := ne_of_none hD nl
      have kb : Kept b G' (upd (upd G' l (.lst (signs (Str.ofString "abcxyz")))) b o) := (Kept.new nl).trans Kept.box
      refine ⟨_, kb _ _ nb hD, ?_, zs ++ [z], fun c u n1 e => ?_, ?_, nb, by rw [upd_same, List.map_append]; rfl, by rw [List.length_append, hl]; rfl, fun y hy => ?_⟩
      · rw [List.length_map, hl]
        exact small1000 (by omega)
      · rw [upd_ne (ne_of_none e nD)]
        exact kb _ _ n1 (k' _ _ n1 e)
      · obtain ⟨o2, e2, y2⟩ : BoxAt (upd (upd G' l (.lst (signs (Str.ofString "abcxyz")))) b o) b := BoxAt.box ho
        exact ⟨o2, by rw [upd_ne (Ne.symm nb)]; exact e2, y2⟩
      · rcases List.mem_append.mp hy with h | h
        · exact hz y h
        · rw [List.mem_singleton] at h
          subst h
          exact ⟨z1, z2⟩
    · rintro G' ⟨zs, k', b', nb, hD, hl, hz⟩
      have hj := Six.join hz
      have hsum := sum_few (n := 1) fun z hz' => Nat.le_of_eq (hz z hz').2
      have j0 : (Str.ofString "").length = 0 := by decide
      refine ⟨_, D, zs, rfl, rfl, .inl (SqL.of hD), by rw [j0]; omega, k _ _ (k2.trans k') b' ?_⟩
      rw [TL.join_eq]
      exact hj.1.name (by rw [hj.2, hl]; omega) (by rw [hj.2, hl]; omega)
end
end Lay
set_option Elab.async false
set_option linter.all false
set_option maxRecDepth 100000
set_option maxHeartbeats 4000000
set_option pp.maxSteps 1500
namespace Lay
open PySem PySem.Spec PyProof.Rows L2 KwX
def kw : Key := .inr "word"
def kp : Key := .inr "parts"
def kb : Key := .inr "broken"
def km : Key := .inr "marked"
def ka : Key := .inr "ahead"
def kh : Key := .inr "behind"
def kn : Key := .inr "blanks"
def kl : Key := .inr "left"
/-- how a piece is written, as the law's dict -/
def Nd (kvs : List (Key × V)) : Prop := (kvs.map (·.1)).Nodup
theorem Nd.nil : Nd [] := List.Pairwise.nil
theorem Nd.put {kvs : List (Key × V)} {k : Key} {v : V} (h : Nd kvs) : Nd (putK kvs k v) := by
  unfold Nd putK
  split
  · rw [List.map_map]
    rw [show ((fun x : Key × V => x.1) ∘ fun kv : Key × V => if kv.1 = k then (kv.1, v) else kv) = (fun x => x.1) from funext fun kv => by
      show (if kv.1 = k then (kv.1, v) else kv).1 = kv.1
      split <;> rfl]
    exact h
  · rename_i e
    have n : valV kvs k = none := by
      have := valV_any k kvs
      cases c : valV kvs k with
      | none => rfl
      | some _ =>
        rw [c] at this
        exact absurd this e
    rw [List.map_append]
    refine List.nodup_append.mpr ⟨h, by simp, fun a ha b hb => ?_⟩
    rintro rfl
    simp only [List.map_cons, List.map_nil, List.mem_singleton] at hb
    subst hb
    rw [valV_any, n] at e
    obtain ⟨⟨k2, v2⟩, hm, rfl⟩ := List.mem_map.mp ha
    have := List.any_eq_false.mp (show (kvs.any fun kv => decide (kv.1 = k2)) = false by rw [valV_any, n]; rfl) _ hm
    simp at this
theorem Nd.merge : ∀ {more kvs : List (Key × V)}, Nd kvs → Nd (mergeK kvs more)
  | [], _, h => h
  | p :: ps, kvs, h => Nd.merge (more := ps) (Nd.put (k := p.1) (v := p.2) h)
structure LF (kvs : List (Key × V)) (lp : Addr) (d : PD) : Prop where
  nd : Nd kvs
  len : kvs.length ≤ 8
  w : valV kvs kw = some (.str d.word)
  p : valV kvs kp = some (.ref lp)
  b : valV kvs kb = some (.bl d.broken)
  m : valV kvs km = some (.bl d.marked)
  a : valV kvs ka = some (.str d.ahead)
  h : valV kvs kh = some (.str d.behind)
  n : valV kvs kn = some (.int d.blanks)
  l : valV kvs kl = some (.bl d.left)
def DictAt (G : Hp) (q lp : Addr) (d : PD) : Prop := ∃ kvs, G q = some (.dK kvs) ∧ G lp = some (.lst (d.parts.map V.str)) ∧ LF kvs lp d
theorem DictAt.same {G G' : Hp} {q lp : Addr} {d : PD} (s : Same G G') (h : DictAt G q lp d) : DictAt G' q lp d := by
  obtain ⟨kvs, h1, h2, h3⟩ := h
  exact ⟨kvs, s _ _ h1, s _ _ h2, h3⟩
def spLPiece : Sp := fun vs H Q _ => ∃ (b : Addr) (m : Int), vs = [.ref b, .int m] ∧ BoxAt H b ∧ 0 < m ∧ m ≤ 8 ∧
  ∀ q lp d H', Kept b H H' → BoxAt H' b → d.Ok → d.parts.length ≤ 8 → DictAt H' q lp d → H q = none → H lp = none → Q (.ref q) H'
theorem merge2 (kvs : List (Key × V)) (k1 k2 : Key) (v1 v2 : V) (j : Key) (ne : k1 ≠ k2) : valV (mergeK kvs (mergeK [] [(k1, v1), (k2, v2)])) j = if j = k2 then some v2 else if j = k1 then some v1 else valV kvs j := by
  have e : mergeK [] [(k1, v1), (k2, v2)] = [(k1, v1), (k2, v2)] := by
    show putK (putK [] k1 v1) k2 v2 = _
    have e1 : putK ([] : List (Key × V)) k1 v1 = [(k1, v1)] := rfl
    rw [e1, putK_new]
    · rfl
    · rw [valV_neg ne]
      rfl
  rw [e]
  show valV (putK (putK kvs k1 v1) k2 v2) j = _
  rw [valV_put, valV_put]
theorem len2 (kvs : List (Key × V)) (k1 k2 : Key) (v1 v2 : V) : (mergeK [] [(k1, v1), (k2, v2)]).length ≤ 2 := length_mergeK _ _
abbrev sLPiece : Stmt := top 27
def lpN : List Str := ["_law_box_here", "_law_many", "_law_found", "_law_place", "_law_turn"]
section
variable {P : Program} {w : World} {K : PySem.W.Frag} {mg : Str → Option Value} {base : Heap}
theorem scLPiece : FnScope lpN ["_law_box_here", "_law_many"] (defScope sLPiece) := ⟨rfl, rfl, rfl, by decide +kernel, rfl, by decide +kernel, by decide +kernel⟩
theorem ok_lpiece {f fT fK fN : Addr} {fd dT dK dN : FuncData} (F : Fun K "_law_piece" "_law_piece" sLPiece f fd) (hrange : mg "range" = none)
    (GT : FnOk P w K mg base CX0 1 fT dT ["_law_box_here", "_law_many"] spTake) (gT : mg "_law_take" = some (.ref fT)) (kT : PySem.W.keepIn K (.ref fT) = true) (bT : Binds K dT ["_law_box_here", "_law_many"] [])
    (GK : FnOk P w K mg base CX0 2 fK dK ["_law_box_here", "_law_items"] (spPick K)) (gK : mg "_law_pick" = some (.ref fK)) (kK : PySem.W.keepIn K (.ref fK) = true) (bK : Binds K dK ["_law_box_here", "_law_items"] [])
    (GN : FnOk P w K mg base CX0 3 fN dN ["_law_box_here", "_law_most"] spLName) (gN : mg "_law_name" = some (.ref fN)) (kN : PySem.W.keepIn K (.ref fN) = true) (bN : Binds K dN ["_law_box_here", "_law_most"] []) : FnOk P w K mg base CX0 4 f fd ["_law_box_here", "_law_many"] spLPiece := by
  refine F.ok scLPiece (fun vs H Q E h => ?_) (fun cdv A outer s H vs Q E hr h => ?_)
  · obtain ⟨b, m, rfl, _⟩ := h
    rfl
  · obtain ⟨b, m, rfl, hb, m0, m8, k⟩ := h
    have hr1 := hr.mono (show 1 ≤ 3 by decide)
    have hr2 := hr.mono (show 2 ≤ 3 by decide)
    have hu : (A.deeper (envOfC "_law_piece" (defScope sLPiece) s.heap.objs.size f cdv)).units + 1 < cLine := by have := hr.units; omega
    refine ⟨_, (C8.pss_cut (ps_set (i := 2) scLPiece.nd rfl (.inl rfl) (pe_disp (pps_cons pe_str (pe_call GN hr (by rfl) gN kN bN .nil pass0 (pa_cons (pv 0) (pa_cons pe_int pa_nil))) (pps_cons pe_str
        (pe_lc (own := [("_law_turn", 4)]) (g := gName 4) (tt := tYes) (by rfl) scLPiece.nd (pi_range1 (by rfl) hrange (pa_cons (pe_op op_add pe_int (pe_call GT hr1 (by rfl) gT kT bT .nil pass0 (pa_cons (pv 0) (pa_cons (pv 1) pa_nil)))) pa_nil)) (blkOk_by (N := lpN) (sc := defScope sLPiece) (by decide +kernel))
          (fun _ _ _ _ _ => pg_name (i := 4) scLPiece.nd rfl (Or.inl rfl)) (fun _ _ _ _ _ => pts_nil)
          (fun _ _ _ _ _ => pe_call GN hr (by rfl) gN kN bN .nil pass0 (pa_cons (pv 0) (pa_cons pe_int pa_nil)))) pps_nil)) rfl rfl (by decide) (by decide)))
      (C8.pss_cut (ps_expr (pe_dupd (pv 2) (pe_disp (pps_cons pe_str (pe_cmpR op_eq (pe_call GT hr1 (by rfl) gT kT bT .nil pass0 (pa_cons (pv 0) (pa_cons pe_int pa_nil))) pe_int (nomark _)) (pps_cons pe_str (pe_cmpR op_eq (pe_call GT hr1 (by rfl) gT kT bT .nil pass0 (pa_cons (pv 0) (pa_cons pe_int pa_nil))) pe_int (nomark _)) pps_nil)) rfl rfl (by decide) (by decide)) ⟨by rfl, by rfl, by rfl, by rfl⟩))
      (C8.pss_cut (ps_for PassesOwn.never rfl (pi_tup (pe_tup (pa_cons pe_str (pa_cons pe_str pa_nil)))) (pg_name (i := 3) scLPiece.nd rfl (.inl rfl))
        (pss_one (ps_dput hu (pv 2) (pv 3) (pe_ifExp (pt_cmpR op_eq (pe_call GT hr1 (by rfl) gT kT bT .nil pass0 (pa_cons (pv 0) (pa_cons pe_int pa_nil))) pe_int (nomark _)) (pe_call GN hr (by rfl) gN kN bN .nil pass0 (pa_cons (pv 0) (pa_cons pe_int pa_nil))) pe_str) (by rfl))))
      (pss_cons (ps_expr (pe_dupd (pv 2) (pe_disp (pps_cons pe_str (pe_call GK hr2 (by rfl) gK kK bK .nil pass0 (pa_cons (pv 0) (pa_cons (pe_lst (pa_cons pe_int (pa_cons pe_int (pa_cons pe_int (pa_cons pe_int (pa_cons pe_int pa_nil)))))) pa_nil))) (pps_cons pe_str (pe_cmpR op_eq (pe_call GT hr1 (by rfl) gT kT bT .nil pass0 (pa_cons (pv 0) (pa_cons pe_int pa_nil))) pe_int (nomark _)) pps_nil)) rfl rfl (by decide) (by decide)) ⟨by rfl, by rfl, by rfl, by rfl⟩))
      (pss_one (ps_ret (pv 2))))))), ?_⟩
    refine ⟨fun σ G => ∃ (q lp : Addr) (wd : Str) (ps : List Str) (kvs : List (Key × V)), σ = [some (.ref b), some (.int m), some (.ref q), none, none] ∧ Kept b H G ∧ BoxAt G b ∧ H q = none ∧ H lp = none ∧ G q = some (.dK kvs) ∧ G lp = some (.lst (ps.map V.str)) ∧ kvs.length ≤ 2 ∧ nameB wd = true ∧ 0 < ps.length ∧ ps.length ≤ 8 ∧ (∀ z ∈ ps, nameB z = true) ∧ Nd kvs ∧ valV kvs kw = some (.str wd) ∧ valV kvs kp = some (.ref lp), ?_, ?_⟩
    · refine fun q nq => ?_
      have qb : q ≠ b := hb.ne nq
      refine ⟨_, rfl, b, 3, rfl, hb.new nq, by decide, by decide, fun wd G1 k1 b1 gw => ?_⟩
      refine ⟨_, rfl, _, rfl, b, m, rfl, b1, m0, by omega, fun r o r0 r1 ob => ?_⟩
      have kB : Kept b (upd H q (.dK [])) (upd G1 b o) := k1.trans Kept.box
      have bB : BoxAt (upd G1 b o) b := BoxAt.box ob
      generalize upd G1 b o = G2 at *
      refine ⟨1, r, rfl, rfl, 1 + r, rfl, by omega, by omega, fun D nD => lc_range (lo := 0) (n := Int.toNat _) (fun n G' => ∃ zs : List Str, Kept b G2 G' ∧ BoxAt G' b ∧ D ≠ b ∧ G' D = some (.lst (zs.map V.str)) ∧ zs.length = n ∧ ∀ z ∈ zs, nameB z = true)
        ⟨[], Kept.new nD, bB.new nD, bB.ne nD, upd_same, rfl, fun z h => (List.not_mem_nil h).elim⟩ ?_ ?_⟩
      · rintro n G' hn ⟨zs, k', b', nb, hD, hl, hz⟩
        refine ⟨rfl, _, rfl, b, 6, rfl, b', by decide, by decide, fun z G3 k3 b3 gz => ⟨_, k3 _ _ nb hD, ?_, zs ++ [z], fun c u n1 e => ?_, ?_, nb, by rw [upd_same, List.map_append]; rfl, by rw [List.length_append, hl]; rfl, fun y hy => ?_⟩⟩
        · rw [List.length_map, hl]
          exact small1000 (by omega)
        · rw [upd_ne (ne_of_none e nD)]
          exact k3 _ _ n1 (k' _ _ n1 e)
        · obtain ⟨o2, e2, y2⟩ := b3
          exact ⟨o2, by rw [upd_ne (Ne.symm nb)]; exact e2, y2⟩
        · rcases List.mem_append.mp hy with h | h
          · exact hz y h
          · rw [List.mem_singleton] at h
            subst h
            exact gz
      · rintro G' ⟨zs, k', b', nb, hD, hl, hz⟩
        have k0 : Kept b (upd H q (.dK [])) G' := kB.trans k'
        have hq : G' q = some (.dK []) := k0 _ _ qb upd_same
        have nlp : H D = none := by
          cases e : H D with
          | none => rfl
          | some u =>
            have := kB _ _ nb (Same.new nq _ _ e)
            rw [nD] at this
            cases this
        have Dq : D ≠ q := ne_of hD hq (fun z => nomatch z)
        refine ⟨hq, [(kw, .str wd), (kp, .ref D)], rfl, (by show 2 ≤ 15; decide), q, D, wd, zs, _, rfl, fun c u n1 e => ?_, ?_, nq, nlp, upd_same, by rw [upd_ne Dq]; exact hD, len2 [] _ _ _ _, gw, by omega, by omega, hz, Nd.merge Nd.nil, ?_, ?_⟩
        · rw [upd_ne (ne_of_none e nq)]
          exact k0 _ _ n1 (Same.new nq _ _ e)
        · obtain ⟨o2, e2, y2⟩ := b'
          exact ⟨o2, by rw [upd_ne (Ne.symm qb)]; exact e2, y2⟩
        · have := merge2 [] kw kp (.str wd) (.ref D) kw (by decide)
          exact this
        · have := merge2 [] kw kp (.str wd) (.ref D) kp (by decide)
          exact this
    · rintro σ G ⟨q, lp, wd, ps, kvs, rfl, kG, bG, nq, nl, hq, hl, lk, gw, p0, p8, gp, vnd, vw, vp⟩
      have qb : q ≠ b := fun z => by
        rw [z] at nq
        obtain ⟨o, e, _⟩ := hb
        rw [nq] at e
        cases e
      refine ⟨fun σ G => ∃ (kvs : List (Key × V)) (bb mm : Bool), σ = [some (.ref b), some (.int m), some (.ref q), none, none] ∧ Kept b H G ∧ BoxAt G b ∧ G q = some (.dK kvs) ∧ G lp = some (.lst (ps.map V.str)) ∧ kvs.length ≤ 4 ∧ Nd kvs ∧ valV kvs kw = some (.str wd) ∧ valV kvs kp = some (.ref lp) ∧ valV kvs kb = some (.bl bb) ∧ valV kvs km = some (.bl mm), ?_, ?_⟩
      · refine ⟨_, rfl, q, rfl, .inl ⟨_, .inl hq⟩, fun u nu => ?_⟩
        have ub : u ≠ b := bG.ne nu
        have qu : q ≠ u := ne_of_none hq nu
        refine ⟨_, rfl, b, 2, rfl, bG.new nu, by decide, by decide, fun r1 o1 _ _ ob1 => ⟨rfl, _, rfl, b, 2, rfl, BoxAt.box ob1, by decide, by decide, fun r2 o2 _ _ ob2 => ⟨rfl, ?_⟩⟩⟩
        have kk : Kept b (upd G u (.dK [])) (upd (upd (upd G u (.dK [])) b o1) b o2) := Kept.box.trans Kept.box
        have bb2 : BoxAt (upd (upd (upd G u (.dK [])) b o1) b o2) b := BoxAt.box ob2
        generalize upd (upd (upd G u (.dK [])) b o1) b o2 = G3 at *
        have kG3 : Kept b G G3 := (Kept.new nu).trans kk
        have hu3 : G3 u = some (.dK []) := kk _ _ ub upd_same
        have hq3 := kG3 _ _ qb hq
        have lpq : lp ≠ q := ne_of hl hq (fun z => nomatch z)
        have lpb : lp ≠ b := fun z => by
          rw [z] at nl
          obtain ⟨o, e, _⟩ := hb
          rw [nl] at e
          cases e
        have hl3 := kG3 _ _ lpb hl
        have lpu : lp ≠ u := ne_of_none hl nu
        refine ⟨hu3, [(kb, .bl (decide (V.int r1 = V.int 0))), (km, .bl (decide (V.int r2 = V.int 0)))], rfl, (by show 2 ≤ 15; decide), u, _, _, rfl, by rw [upd_ne qu]; exact hq3, upd_same, qu, by have := len2 [] kb km (.bl (decide (V.int r1 = V.int 0))) (.bl (decide (V.int r2 = V.int 0))); omega, _, decide (V.int r1 = V.int 0), decide (V.int r2 = V.int 0), rfl, fun c w n1 e => ?_, ?_, upd_same, ?_, ?_, Nd.merge vnd, ?_, ?_, ?_, ?_⟩
        · have hc := kG _ _ n1 e
          rw [upd_ne (ne_of_none e nq), upd_ne (ne_of_none hc nu)]
          exact kG3 _ _ n1 hc
        · obtain ⟨o3, e3, y3⟩ := bb2
          exact ⟨o3, by rw [upd_ne (Ne.symm qb), upd_ne (Ne.symm ub)]; exact e3, y3⟩
        · rw [upd_ne lpq, upd_ne lpu]
          exact hl3
        · have h1 := length_mergeK (mergeK [] [(kb, V.bl (decide (V.int r1 = V.int 0))), (km, .bl (decide (V.int r2 = V.int 0)))]) kvs
          have h2 := len2 [] kb km (.bl (decide (V.int r1 = V.int 0))) (.bl (decide (V.int r2 = V.int 0)))
          omega
        · rw [merge2 _ _ _ _ _ _ (by decide), if_neg (by decide), if_neg (by decide)]
          exact vw
        · rw [merge2 _ _ _ _ _ _ (by decide), if_neg (by decide), if_neg (by decide)]
          exact vp
        · rw [merge2 _ _ _ _ _ _ (by decide), if_neg (by decide), if_pos rfl]
        · rw [merge2 _ _ _ _ _ _ (by decide), if_pos rfl]
      · rintro σ G ⟨kvs, bb, mm, rfl, kG, bG, hq, hl, lk, vnd, vw, vp, vb, vm⟩
        have lpq : lp ≠ q := ne_of hl hq (fun z => nomatch z)
        have lpb : lp ≠ b := fun z => by
          rw [z] at nl
          obtain ⟨o, e, _⟩ := hb
          rw [nl] at e
          cases e
        refine ⟨fun σ G => ∃ (x3 : Option V) (kvs : List (Key × V)) (a c : Str), σ = [some (.ref b), some (.int m), some (.ref q), x3, none] ∧ Kept b H G ∧ BoxAt G b ∧ G q = some (.dK kvs) ∧ G lp = some (.lst (ps.map V.str)) ∧ kvs.length ≤ 6 ∧ Nd kvs ∧ valV kvs kw = some (.str wd) ∧ valV kvs kp = some (.ref lp) ∧ valV kvs kb = some (.bl bb) ∧ valV kvs km = some (.bl mm) ∧
          remarkB a = true ∧ remarkB c = true ∧ valV kvs ka = some (.str a) ∧ valV kvs kh = some (.str c), ?_, ?_⟩
        · refine ⟨(by show 2 ≤ sizeLine; decide), fun T nT => ?_⟩
          have sT := Same.new nT (o := .tup [.str "ahead", .str "behind"])
          have Tb : T ≠ b := bG.ne nT
          refine ⟨T, rfl, ⟨_, SqT.of upd_same⟩, for_tup (K := K) (xs := [.str "ahead", .str "behind"]) (fun i σ G' => ∃ (x3 : Option V) (kvs : List (Key × V)), σ = [some (.ref b), some (.int m), some (.ref q), x3, none] ∧ Kept b H G' ∧ BoxAt G' b ∧ G' T = some (.tup [.str "ahead", .str "behind"]) ∧ G' q = some (.dK kvs) ∧ G' lp = some (.lst (ps.map V.str)) ∧ kvs.length ≤ 4 + i ∧ Nd kvs ∧ valV kvs kw = some (.str wd) ∧ valV kvs kp = some (.ref lp) ∧ valV kvs kb = some (.bl bb) ∧ valV kvs km = some (.bl mm) ∧
            (1 ≤ i → ∃ a, remarkB a = true ∧ valV kvs ka = some (.str a)) ∧ (2 ≤ i → ∃ c, remarkB c = true ∧ valV kvs kh = some (.str c)))
            ⟨_, kvs, rfl, kG.trans (Kept.of_same sT), bG.new nT, upd_same, sT _ _ hq, sT _ _ hl, lk, vnd, vw, vp, vb, vm, fun z => absurd z (by decide), fun z => absurd z (by decide)⟩ (fun i σ G' _ z => by
              obtain ⟨_, _, _, _, _, z, _⟩ := z
              exact SqT.of z) ?_ ?_⟩
          · rintro i x σ G' hi ⟨x3, kvs, rfl, kG, bG, hT, hq, hl, lk, vnd, vw, vp, vb, vm, va, vh⟩
            have fin : ∀ (z : Str) (Gz : Hp), remarkB z = true → Kept b G' Gz → BoxAt Gz b → ∃ a H4, V.ref q = .ref a ∧ DPut Gz a x (.str z) H4 ∧ ∃ (x3' : Option V) (kvs : List (Key × V)), [some (V.ref b), some (.int m), some (.ref q), some x, none] = [some (.ref b), some (.int m), some (.ref q), x3', none] ∧ Kept b H H4 ∧ BoxAt H4 b ∧ H4 T = some (.tup [.str "ahead", .str "behind"]) ∧ H4 q = some (.dK kvs) ∧ H4 lp = some (.lst (ps.map V.str)) ∧ kvs.length ≤ 4 + (i + 1) ∧ Nd kvs ∧ valV kvs kw = some (.str wd) ∧ valV kvs kp = some (.ref lp) ∧ valV kvs kb = some (.bl bb) ∧ valV kvs km = some (.bl mm) ∧
                (1 ≤ i + 1 → ∃ a, remarkB a = true ∧ valV kvs ka = some (.str a)) ∧ (2 ≤ i + 1 → ∃ c, remarkB c = true ∧ valV kvs kh = some (.str c)) := fun z Gz rz kz bz => by
              have hqz := kz _ _ qb hq
              have hTz := kz _ _ Tb hT
              have hlz := kz _ _ lpb hl
              have Tq : T ≠ q := ne_of hT hq (fun z => nomatch z)
              have hk : ∀ k : Key, Kept b H (upd Gz q (.dK (putK kvs k (.str z)))) ∧ BoxAt (upd Gz q (.dK (putK kvs k (.str z)))) b ∧ upd Gz q (.dK (putK kvs k (.str z))) T = some (.tup [.str "ahead", .str "behind"]) ∧ upd Gz q (.dK (putK kvs k (.str z))) lp = some (.lst (ps.map V.str)) ∧ (putK kvs k (.str z)).length ≤ 4 + (i + 1) := fun k => by
                refine ⟨fun c w n1 e => ?_, ?_, by rw [upd_ne Tq]; exact hTz, by rw [upd_ne lpq]; exact hlz, by have := length_putK kvs k (.str z); omega⟩
                · rw [upd_ne (ne_of_none e nq)]
                  exact kz _ _ n1 (kG _ _ n1 e)
                · obtain ⟨o3, e3, y3⟩ := bz
                  exact ⟨o3, by rw [upd_ne (Ne.symm qb)]; exact e3, y3⟩
              have i2 : i < 2 := (List.getElem?_eq_some_iff.mp hi).1
              have ll : kvs.length < sizeLine := small1000 (by omega)
              rcases (show i = 0 ∨ i = 1 by omega) with rfl | rfl
              · cases hi
                obtain ⟨p1, p2, p3, p4, p5⟩ := hk ka
                refine ⟨q, _, rfl, DPut.k (k := ka) hqz ll, _, _, rfl, p1, p2, p3, upd_same, p4, p5, Nd.put vnd, ?_, ?_, ?_, ?_, fun _ => ⟨z, rz, ?_⟩, fun z => absurd z (by decide)⟩
                · rw [valV_put, if_neg (by decide)]; exact vw
                · rw [valV_put, if_neg (by decide)]; exact vp
                · rw [valV_put, if_neg (by decide)]; exact vb
                · rw [valV_put, if_neg (by decide)]; exact vm
                · rw [valV_put, if_pos rfl]
              · cases hi
                obtain ⟨p1, p2, p3, p4, p5⟩ := hk kh
                obtain ⟨a, ra, ea⟩ := va (Nat.le_refl 1)
                refine ⟨q, _, rfl, DPut.k (k := kh) hqz ll, _, _, rfl, p1, p2, p3, upd_same, p4, p5, Nd.put vnd, ?_, ?_, ?_, ?_, fun _ => ⟨a, ra, ?_⟩, fun _ => ⟨z, rz, ?_⟩⟩
                · rw [valV_put, if_neg (by decide)]; exact vw
                · rw [valV_put, if_neg (by decide)]; exact vp
                · rw [valV_put, if_neg (by decide)]; exact vb
                · rw [valV_put, if_neg (by decide)]; exact vm
                · rw [valV_put, if_neg (by decide)]; exact ea
                · rw [valV_put, if_pos rfl]
            refine ⟨_, rfl, b, 3, rfl, bG, by decide, by decide, fun r o _ _ ob => ⟨rfl, _, rfl, ?_⟩⟩
            cases decide (V.int r = V.int 0) with
            | true =>
              refine iteY rfl ⟨_, rfl, b, 6, rfl, BoxAt.box ob, by decide, by decide, fun z Gz kz bz gz => ⟨_, rfl, _, rfl, ?_⟩⟩
              exact fin z Gz (by unfold remarkB; rw [gz, Bool.or_true]) (Kept.box.trans kz) bz
            | false =>
              refine iteN rfl ⟨_, rfl, _, rfl, ?_⟩
              exact fin "" _ (by decide +kernel) Kept.box (BoxAt.box ob)
          · rintro σ G' ⟨x3, kvs, rfl, kG, bG, hT, hq, hl, lk, vnd, vw, vp, vb, vm, va, vh⟩
            obtain ⟨a, ra, ea⟩ := va (by decide)
            obtain ⟨c, rc, ec⟩ := vh (by decide)
            exact ⟨_, kvs, a, c, rfl, kG, bG, hq, hl, lk, vnd, vw, vp, vb, vm, ra, rc, ea, ec⟩
        · rintro σ G ⟨x3, kvs, a, c, rfl, kG, bG, hq, hl, lk, vnd, vw, vp, vb, vm, ra, rc, va, vh⟩
          refine ⟨_, rfl, q, rfl, .inl ⟨_, .inl hq⟩, fun u nu => ?_⟩
          have ub : u ≠ b := bG.ne nu
          have qu : q ≠ u := ne_of_none hq nu
          have bu := bG.new nu (o := .dK [])
          have su := Same.new nu (o := .dK [])
          refine ⟨_, rfl, (by show 5 ≤ sizeLine; decide), fun l nl2 => ⟨b, l, _, rfl, bu.new nl2, bu.ne nl2, SqL.of upd_same, by decide, by decide, fun v o1 hv ob1 => ?_⟩⟩
          obtain ⟨n, rfl, n0, n3⟩ : ∃ n : Int, v = .int n ∧ 0 ≤ n ∧ n < 3 := by
            simp only [List.mem_cons, List.not_mem_nil, or_false] at hv
            rcases hv with rfl | rfl | rfl | rfl | rfl
            · exact ⟨_, rfl, by decide, by decide⟩
            · exact ⟨_, rfl, by decide, by decide⟩
            · exact ⟨_, rfl, by decide, by decide⟩
            · exact ⟨_, rfl, by decide, by decide⟩
            · exact ⟨_, rfl, by decide, by decide⟩
          refine ⟨_, rfl, b, 5, rfl, BoxAt.box ob1, by decide, by decide, fun r2 o2 _ _ ob2 => ⟨rfl, ?_⟩⟩
          have kk : Kept b (upd G u (.dK [])) (upd (upd (upd (upd G u (.dK [])) l (.lst [.int 0, .int 0, .int 0, .int 1, .int 2])) b o1) b o2) := ((Kept.new nl2).trans Kept.box).trans Kept.box
          have bb2 : BoxAt (upd (upd (upd (upd G u (.dK [])) l (.lst [.int 0, .int 0, .int 0, .int 1, .int 2])) b o1) b o2) b := BoxAt.box ob2
          generalize upd (upd (upd (upd G u (.dK [])) l (.lst [.int 0, .int 0, .int 0, .int 1, .int 2])) b o1) b o2 = G3 at *
          have kG3 : Kept b G G3 := (Kept.new nu).trans kk
          have hu3 : G3 u = some (.dK []) := kk _ _ ub upd_same
          have hq3 := kG3 _ _ qb hq
          have hl3 := kG3 _ _ lpb hl
          have lpu : lp ≠ u := ne_of_none hl nu
          refine ⟨hu3, [(kn, .int n), (kl, .bl (decide (V.int r2 = V.int 0)))], rfl, (by show 2 ≤ 15; decide), u, _, _, rfl, by rw [upd_ne qu]; exact hq3, upd_same, qu, by have := len2 [] kn kl (.int n) (.bl (decide (V.int r2 = V.int 0))); omega, _, rfl, ?_⟩
          refine k q lp ⟨wd, ps, bb, mm, a, c, n, decide (V.int r2 = V.int 0)⟩ _ (fun c w n1 e => ?_) ?_ ⟨gw, p0, by show ps.length ≤ 1000; omega, gp, ra, rc, n0, n3⟩ p8 ⟨_, upd_same, ?_, Nd.merge vnd, by have h1 := length_mergeK (mergeK [] [(kn, V.int n), (kl, .bl (decide (V.int r2 = V.int 0)))]) kvs; have h2 := len2 [] kn kl (.int n) (.bl (decide (V.int r2 = V.int 0))); omega, ?_, ?_, ?_, ?_, ?_, ?_, ?_, ?_⟩ nq nl
          · have hc := kG _ _ n1 e
            rw [upd_ne (ne_of_none e nq), upd_ne (ne_of_none hc nu)]
            exact kG3 _ _ n1 hc
          · obtain ⟨o3, e3, y3⟩ := bb2
            exact ⟨o3, by rw [upd_ne (Ne.symm qb), upd_ne (Ne.symm ub)]; exact e3, y3⟩
          · rw [upd_ne lpq, upd_ne lpu]
            exact hl3
          · rw [merge2 _ _ _ _ _ _ (by decide), if_neg (by decide), if_neg (by decide)]; exact vw
          · rw [merge2 _ _ _ _ _ _ (by decide), if_neg (by decide), if_neg (by decide)]; exact vp
          · rw [merge2 _ _ _ _ _ _ (by decide), if_neg (by decide), if_neg (by decide)]; exact vb
          · rw [merge2 _ _ _ _ _ _ (by decide), if_neg (by decide), if_neg (by decide)]; exact vm
          · rw [merge2 _ _ _ _ _ _ (by decide), if_neg (by decide), if_neg (by decide)]; exact va
          · rw [merge2 _ _ _ _ _ _ (by decide), if_neg (by decide), if_neg (by decide)]; exact vh
          · rw [merge2 _ _ _ _ _ _ (by decide), if_neg (by decide), if_pos rfl]
          · rw [merge2 _ _ _ _ _ _ (by decide), if_pos rfl]
end
end Lay
set_option Elab.async false
set_option linter.all false
set_option maxRecDepth 100000
set_option maxHeartbeats 4000000
set_option pp.maxSteps 1500
namespace Lay
open PySem PySem.Spec PyProof.Rows L2
section
variable {G : Hp} {q lp : Addr} {d : PD} (h : DictAt G q lp d)
include h
theorem dg_w : DGet G q (.str "word") (some (.str d.word)) := by
  obtain ⟨kvs, h1, _, h3⟩ := h
  exact .inl ⟨kvs, kw, .inl h1, rfl, h3.w.symm⟩
theorem dg_p : DGet G q (.str "parts") (some (.ref lp)) := by
  obtain ⟨kvs, h1, _, h3⟩ := h
  exact .inl ⟨kvs, kp, .inl h1, rfl, h3.p.symm⟩
theorem dg_b : DGet G q (.str "broken") (some (.bl d.broken)) := by
  obtain ⟨kvs, h1, _, h3⟩ := h
  exact .inl ⟨kvs, kb, .inl h1, rfl, h3.b.symm⟩
theorem dg_m : DGet G q (.str "marked") (some (.bl d.marked)) := by
  obtain ⟨kvs, h1, _, h3⟩ := h
  exact .inl ⟨kvs, km, .inl h1, rfl, h3.m.symm⟩
theorem dg_a : DGet G q (.str "ahead") (some (.str d.ahead)) := by
  obtain ⟨kvs, h1, _, h3⟩ := h
  exact .inl ⟨kvs, ka, .inl h1, rfl, h3.a.symm⟩
theorem dg_h : DGet G q (.str "behind") (some (.str d.behind)) := by
  obtain ⟨kvs, h1, _, h3⟩ := h
  exact .inl ⟨kvs, kh, .inl h1, rfl, h3.h.symm⟩
theorem dg_n : DGet G q (.str "blanks") (some (.int d.blanks)) := by
  obtain ⟨kvs, h1, _, h3⟩ := h
  exact .inl ⟨kvs, kn, .inl h1, rfl, h3.n.symm⟩
theorem dg_l : DGet G q (.str "left") (some (.bl d.left)) := by
  obtain ⟨kvs, h1, _, h3⟩ := h
  exact .inl ⟨kvs, kl, .inl h1, rfl, h3.l.symm⟩
theorem dg_lp : G lp = some (.lst (d.parts.map V.str)) := by
  obtain ⟨kvs, h1, h2, h3⟩ := h
  exact h2
end
theorem hu_of {k : Nat} {A : Around} (hr : Room k A) : A.units + 1 < cLine := by
  have := hr.units
  omega
def psPiece : List Str := ["self", "word", "parts", "broken", "marked", "ahead", "behind", "blanks", "left"]
def spLMade (K : PySem.W.Frag) (C : Addr) : Sp := fun vs H Q _ => ∃ (q lp : Addr) (d : PD), vs = [.ref q] ∧ DictAt H q lp d ∧ d.Ok ∧ d.parts.length ≤ 30 ∧ ∀ y H', Same H H' → H y = none → PieceAt K C H' y d → Q (.ref y) H'
def frontS (b : Bool) : Str := if b = true then Str.ofString "!" else Str.ofString ""
def endS (b : Bool) : Str := if b = true then Str.ofString "," else Str.ofString ""
def moreS (z : Str) : Str := if z.length = 0 then Str.ofString "" else Str.ofString "  # " ++ z
def flatS (d : PD) (mk : Bool) (rm : Str) : Str := (((((frontS d.left ++ d.word) ++ Str.ofString "(") ++ Txt.join ", " d.parts) ++ endS mk) ++ Str.ofString ")") ++ moreS rm
def spLFlat : Sp := fun vs H Q _ => ∃ (q lp : Addr) (d : PD) (mk : Bool) (rm : Str), vs = [.ref q, .bl mk, .str rm] ∧ DictAt H q lp d ∧ d.Ok ∧ d.parts.length ≤ 30 ∧ remarkB rm = true ∧ Q (.str (flatS d mk rm)) H
abbrev sLMade : Stmt := top 28
abbrev sLFlat : Stmt := top 29
theorem str_ne {z : Str} : decide (V.str z = V.str "") = decide (z.length = 0) := by
  apply decide_eq_decide.mpr
  constructor
  · intro e
    rw [V.str.inj e]
    decide
  · intro e
    have : z.cps = #[] := Array.eq_empty_of_size_eq_zero e
    cases z
    cases this
    rfl
section
variable {P : Program} {w : World} {K : PySem.W.Frag} {mg : Str → Option Value} {base : Heap}
theorem scLMade : FnScope ["_law_piece_here", "_law_words"] ["_law_piece_here"] (defScope sLMade) := ⟨rfl, rfl, rfl, by decide +kernel, rfl, by decide +kernel, by decide +kernel⟩
theorem ok_lmade {f fI C : Addr} {fd dI : FuncData} (F : Fun K "_law_made" "_law_made" sLMade f fd) (gC : mg "Piece" = some (.ref C)) (M : Mk K C fI)
    (GI : FnOk P w K mg base CX0 3 fI dI psPiece (spPieceI C K)) (bI : Binds K dI psPiece []) : FnOk P w K mg base CX0 5 f fd ["_law_piece_here"] (spLMade K C) := by
  refine F.ok scLMade (fun vs H Q E h => ?_) (fun cdv A outer s H vs Q E hr h => ?_)
  · obtain ⟨q, lp, d, rfl, _⟩ := h
    rfl
  · obtain ⟨q, lp, d, rfl, hD, o, few, k⟩ := h
    refine ⟨_, (pss_cons (ps_set (i := 1) scLMade.nd rfl (.inl rfl) (pe_tup (pa_cons (pe_dget (hu_of hr) (pv 0) pe_str (fun _ _ => rfl)) (pa_cons (pe_dget (hu_of hr) (pv 0) pe_str (fun _ _ => rfl)) (pa_cons (pe_dget (hu_of hr) (pv 0) pe_str (fun _ _ => rfl)) (pa_cons (pe_dget (hu_of hr) (pv 0) pe_str (fun _ _ => rfl)) (pa_cons (pe_dget (hu_of hr) (pv 0) pe_str (fun _ _ => rfl)) (pa_cons (pe_dget (hu_of hr) (pv 0) pe_str (fun _ _ => rfl)) pa_nil))))))))
      (pss_one (ps_ret (pe_make M GI hr (by rfl) gC bI .nil pass0 (pa_cons (pe_ix ix_tup (pv 1) pe_int (fun _ _ => rfl)) (pa_cons (pe_ix ix_tup (pv 1) pe_int (fun _ _ => rfl)) (pa_cons (pe_ix ix_tup (pv 1) pe_int (fun _ _ => rfl)) (pa_cons (pe_ix ix_tup (pv 1) pe_int (fun _ _ => rfl)) (pa_cons (pe_ix ix_tup (pv 1) pe_int (fun _ _ => rfl)) (pa_cons (pe_ix ix_tup (pv 1) pe_int (fun _ _ => rfl))
        (pa_cons (pe_dget (hu_of hr) (pv 0) pe_str (fun _ _ => rfl)) (pa_cons (pe_dget (hu_of hr) (pv 0) pe_str (fun _ _ => rfl)) pa_nil)))))))))))), ?_⟩
    refine ⟨_, rfl, q, _, rfl, dg_w hD, _, rfl, q, _, rfl, dg_p hD, _, rfl, q, _, rfl, dg_b hD, _, rfl, q, _, rfl, dg_m hD, _, rfl, q, _, rfl, dg_a hD, _, rfl, q, _, rfl, dg_h hD, (by show 6 ≤ sizeLine; decide), fun t nt => ?_⟩
    have st := Same.new nt (o := .tup [.str d.word, .ref lp, .bl d.broken, .bl d.marked, .str d.ahead, .str d.behind])
    have hD1 := hD.same st
    have ht : upd H t (.tup [.str d.word, .ref lp, .bl d.broken, .bl d.marked, .str d.ahead, .str d.behind]) t = some (.tup [.str d.word, .ref lp, .bl d.broken, .bl d.marked, .str d.ahead, .str d.behind]) := upd_same
    generalize upd H t (.tup [.str d.word, .ref lp, .bl d.broken, .bl d.marked, .str d.ahead, .str d.behind]) = G at *
    refine ⟨_, rfl, t, _, 0, _, rfl, rfl, SqT.of ht, rfl, _, rfl, t, _, 1, _, rfl, rfl, SqT.of ht, rfl, _, rfl, t, _, 2, _, rfl, rfl, SqT.of ht, rfl, _, rfl, t, _, 3, _, rfl, rfl, SqT.of ht, rfl, _, rfl, t, _, 4, _, rfl, rfl, SqT.of ht, rfl, _, rfl, t, _, 5, _, rfl, rfl, SqT.of ht, rfl, _, rfl, q, _, rfl, dg_n hD1, _, rfl, q, _, rfl, dg_l hD1, fun x dx nx nd ne => ?_⟩
    have zz := (Same.new nd (o := .own x)).trans (Same.new (fresh_own (o := .own x) nx ne) (o := .ins C dx []))
    refine ⟨x, lp, dx, d, rfl, o, .inl (zz _ _ (dg_lp hD1)), upd_same, fun H2 t2 kp2 hx ht2 => ⟨rfl, ?_⟩⟩
    have s2 := made_same nx nd kp2
    exact k x H2 (st.trans s2) (st.free nx) ⟨dx, t2, hx, ht2⟩
theorem scLFlat : FnScope ["_law_piece_here", "_law_is_marked", "_law_remark", "_law_end", "_law_front", "_law_more"] ["_law_piece_here", "_law_is_marked", "_law_remark"] (defScope sLFlat) := ⟨rfl, rfl, rfl, by decide +kernel, rfl, by decide +kernel, by decide +kernel⟩
theorem ok_lflat {f : Addr} {fd : FuncData} (F : Fun K "_law_flat" "_law_flat" sLFlat f fd) : FnOk P w K mg base CX0 1 f fd ["_law_piece_here", "_law_is_marked", "_law_remark"] spLFlat := by
  refine F.ok scLFlat (fun vs H Q E h => ?_) (fun cdv A outer s H vs Q E hr h => ?_)
  · obtain ⟨q, lp, d, mk, rm, rfl, _⟩ := h
    rfl
  · obtain ⟨q, lp, d, mk, rm, rfl, hD, o, few, hrm, k⟩ := h
    refine ⟨_, (C8.pss_cut (ps_set (i := 3) scLFlat.nd rfl (.inl rfl) (pe_ifExp (pt_val (pv 1)) pe_str pe_str))
      (C8.pss_cut (ps_set (i := 4) scLFlat.nd rfl (.inl rfl) (pe_ifExp (pt_val (pe_dget (hu_of hr) (pv 0) pe_str (fun _ _ => rfl))) pe_str pe_str))
      (C8.pss_cut (ps_set (i := 5) scLFlat.nd rfl (.inl rfl) (pe_ifExp (pt_cmpR op_ne (pv 2) pe_str (nomark _)) (pe_op op_add_str pe_str (pv 2)) pe_str))
      (pss_one (ps_ret (pe_op op_add_str (pe_op op_add_str (pe_op op_add_str (pe_op op_add_str (pe_op op_add_str (pe_op op_add_str (pv 4) (pe_dget (hu_of hr) (pv 0) pe_str (fun _ _ => rfl))) pe_str) (pe_bm PySem.F.plainAttrs_str PySem.F.slot_str_join PySem.F.type_str_join mt_join pe_str (pa_cons (pe_dget (hu_of hr) (pv 0) pe_str (fun _ _ => rfl)) pa_nil))) (pv 3)) pe_str) (pv 5))))))), ?_⟩
    refine ⟨fun σ G => σ = [some (.ref q), some (.bl mk), some (.str rm), some (.str (endS mk)), none, none] ∧ G = H, ?_, ?_⟩
    · refine ⟨_, rfl, mk, rfl, ?_⟩
      cases mk with
      | true => exact iteY rfl ⟨rfl, rfl⟩
      | false => exact iteN rfl ⟨rfl, rfl⟩
    rintro σ G ⟨rfl, rfl⟩
    refine ⟨fun σ G' => σ = [some (.ref q), some (.bl mk), some (.str rm), some (.str (endS mk)), some (.str (frontS d.left)), none] ∧ G' = G, ?_, ?_⟩
    · refine ⟨_, rfl, q, _, rfl, dg_l hD, d.left, rfl, ?_⟩
      cases e : d.left with
      | true => exact iteY rfl ⟨rfl, rfl⟩
      | false => exact iteN rfl ⟨rfl, rfl⟩
    rintro σ G' ⟨rfl, rfl⟩
    have lr := remarkB_len hrm
    have j5 : (Str.ofString "  # ").length = 4 := by decide
    refine ⟨fun σ G => σ = [some (.ref q), some (.bl mk), some (.str rm), some (.str (endS mk)), some (.str (frontS d.left)), some (.str (moreS rm))] ∧ G = G', ?_, ?_⟩
    · refine ⟨_, rfl, rfl, _, rfl, ?_⟩
      rw [str_ne]
      by_cases e : rm.length = 0
      · refine iteN (by rw [e]; rfl) ⟨?_, rfl⟩
        unfold moreS
        rw [if_pos e]
        rfl
      · refine iteY (by simp [e]) ⟨_, rfl, _, _, rfl, rfl, fitsN (by omega), ?_, rfl⟩
        unfold moreS
        rw [if_neg e]
        rfl
    rintro σ G ⟨rfl, rfl⟩
    have lf : (frontS d.left).length ≤ 1 := by unfold frontS; split <;> decide
    have le : (endS mk).length ≤ 1 := by unfold endS; split <;> decide
    have lm : (moreS rm).length ≤ 10 := by
      unfold moreS
      split
      · decide
      · rw [Str.length_append]
        omega
    have lw := nameB_len o.word
    have j1 : (Str.ofString ", ").length = 2 := by decide
    have j2 : (Str.ofString "(").length = 1 := by decide
    have j3 : (Str.ofString ")").length = 1 := by decide
    have hsum := sum_few (n := 6) fun z hz => nameB_len (o.parts z hz)
    have hjoin := join_le ", " d.parts
    rw [j1] at hjoin
    refine ⟨_, rfl, _, rfl, q, _, rfl, dg_w hD, _, _, rfl, rfl, fitsN (by omega), _, _, rfl, rfl, fitsN (by rw [Str.length_append]; omega), rfl, _, rfl, q, _, rfl, dg_p hD, _, lp, d.parts, rfl, rfl, .inl (SqL.of (dg_lp hD)), by rw [j1]; omega, _, _, rfl, rfl, fitsN (by rw [Str.length_append, Str.length_append]; omega), _, rfl, _, _, rfl, rfl, fitsN (by rw [Str.length_append, Str.length_append, Str.length_append]; omega), _, _, rfl, rfl, fitsN (by rw [Str.length_append, Str.length_append, Str.length_append, Str.length_append]; omega), _, rfl, _, _, rfl, rfl, fitsN (by rw [Str.length_append, Str.length_append, Str.length_append, Str.length_append, Str.length_append]; omega), k⟩
end
end Lay
set_option Elab.async false
set_option linter.all false
set_option maxRecDepth 100000
set_option maxHeartbeats 4000000
set_option pp.maxSteps 900
namespace Lay
open PySem PySem.Spec PyProof.Rows L2 KwX
/-! the bare length; equal pieces -/
def bareN (d : PD) : Int := ((headS d).length : Int) + ((Txt.join ", " d.parts).length : Int) + 1
abbrev sBare : Stmt := inClass (top 13) 1
abbrev sEqPc : Stmt := inClass (top 13) 3
def spBare (K : PySem.W.Frag) (C : Addr) : Sp := fun vs H Q _ => ∃ (p : Addr) (d : PD), vs = [.ref p] ∧ PieceAt K C H p d ∧ d.Ok ∧ d.parts.length ≤ 30 ∧ Q (.int (bareN d)) H
/-- isinstance(x, Piece) -/
def IsP (K : PySem.W.Frag) (C : Addr) (H : Hp) (x : V) (b : Bool) : Prop := ∃ t, TyX K H x t ∧ PySem.W.kitOne K t (.ref C) = some b
theorem IsP.same {K : PySem.W.Frag} {C : Addr} {H H' : Hp} {x : V} {b : Bool} (s : Same H H') (h : IsP K C H x b) : IsP K C H' x b := by
  obtain ⟨t, h1, h2⟩ := h
  exact ⟨t, TyX.same s h1, h2⟩
/-- what isinstance asks of a class -/
structure ClsI (K : PySem.W.Frag) (C : Addr) : Prop where
  cl : Cls K C
  ha : PySem.W.findIn K (.ref C) "__class__" = some (some (.builtin "object.__class__"))
  hn : PySem.W.specialIn K (.builtin "object.__class__") "__get__" = some (some (.builtin "getset_descriptor.__get__"))
  htk : PySem.W.takesIn K (.builtin "object.__class__") = some true
  hm : PySem.W.mroIn K C (.type "object") = some true
theorem ClsI.at {K : PySem.W.Frag} {C a dx : Addr} {H : Hp} {fs : List (Str × V)} (c : ClsI K C) (h : H a = some (.ins C dx fs)) : TyX K H (.ref a) (.ref C) := .base (.ins h c.cl c.ha c.hn c.htk c.hm)
theorem ClsI.yes {K : PySem.W.Frag} {C a dx : Addr} {H : Hp} {fs : List (Str × V)} (c : ClsI K C) (h : H a = some (.ins C dx fs)) : IsP K C H (.ref a) true := ⟨_, c.at h, by unfold PySem.W.kitOne; rw [if_pos (by simp)]⟩
/-- a piece as data -/
def dataL (d : PD) : List PyData := [.str d.word, .tuple (d.parts.map .str), .bool d.broken, .bool d.marked, .str d.ahead, .str d.behind, .int d.blanks, .bool d.left]
def eqB (d e : PD) : Bool := PyData.eqvAll (dataL d) (dataL e)
theorem eqB_eq (d e : PD) : eqB d e = (decide (V.str d.word = .str e.word) && (PyData.eqvAll (d.parts.map .str) (e.parts.map .str) && (decide (V.bl d.broken = .bl e.broken) && (decide (V.bl d.marked = .bl e.marked) && (decide (V.str d.ahead = .str e.ahead) && (decide (V.str d.behind = .str e.behind) && (decide (V.int d.blanks = .int e.blanks) && (decide (V.bl d.left = .bl e.left))))))))) := by
  have s : ∀ a b : Str, decide (V.str a = .str b) = (a == b) := fun a b => by
    apply Bool.eq_iff_iff.mpr
    rw [decide_eq_true_iff, beq_iff_eq]
    exact ⟨fun h => V.str.inj h, fun h => by rw [h]⟩
  have bl : ∀ a b : Bool, decide (V.bl a = .bl b) = (a == b) := fun a b => by cases a <;> cases b <;> decide
  have it : ∀ a b : Int, decide (V.int a = .int b) = (a == b) := fun a b => dec_int
  unfold eqB dataL
  simp only [PyData.eqvAll, PyData.eqv, s, bl, it, Bool.and_true]
theorem eqvAll_strs : ∀ {xs ys : List Str}, PyData.eqvAll (xs.map .str) (ys.map .str) = true → xs = ys
  | [], [], _ => rfl
  | x :: xs, y :: ys, h => by
    simp only [List.map_cons, PyData.eqvAll, PyData.eqv, Bool.and_eq_true, beq_iff_eq] at h
    rw [h.1, eqvAll_strs h.2]
  | [], _ :: _, h => by simp [PyData.eqvAll] at h
  | _ :: _, [], h => by simp [PyData.eqvAll] at h
theorem eqvAll_refl : ∀ xs : List Str, PyData.eqvAll (xs.map .str) (xs.map .str) = true
  | [] => rfl
  | x :: xs => by simp [PyData.eqvAll, PyData.eqv, eqvAll_refl xs]
theorem eqB_self (d : PD) : eqB d d = true := by
  rw [eqB_eq]
  simp [eqvAll_refl]
theorem eqB_iff {d e : PD} : eqB d e = true ↔ d = e := by
  constructor
  · intro h
    rw [eqB_eq] at h
    simp only [Bool.and_eq_true, decide_eq_true_iff] at h
    obtain ⟨h1, h2, h3, h4, h5, h6, h7, h8⟩ := h
    obtain ⟨w, ps, b, m, a, bh, n, l⟩ := d
    obtain ⟨w2, ps2, b2, m2, a2, bh2, n2, l2⟩ := e
    cases h1
    cases h3
    cases h4
    cases h5
    cases h6
    cases h7
    cases h8
    have h2 : ps = ps2 := eqvAll_strs h2
    rw [h2]
  · rintro rfl
    exact eqB_self d
def spEqP (K : PySem.W.Frag) (C : Addr) : Sp := fun vs H Q _ => ∃ (p : Addr) (y : V) (d : PD), vs = [.ref p, y] ∧ PieceAt K C H p d ∧ d.Ok ∧ ((∃ q e, y = .ref q ∧ PieceAt K C H q e ∧ e.Ok ∧ Q (.bl (eqB d e)) H) ∨ (IsP K C H y false ∧ Q (.bl false) H))
theorem strs_dp {K : PySem.W.Frag} {H : Hp} : ∀ ws : List Str, DpAll K H (ws.map V.str) (ws.map PyData.str)
  | [] => .nil
  | w :: ws => .cons (.str w) (strs_dp ws)
theorem canLay_strs : ∀ ws : List Str, (∀ z ∈ ws, PyData.strOk z = true) → PyData.canLayAll0 (ws.map PyData.str) = true
  | [], _ => by simp [PyData.canLayAll0]
  | n :: r, h => by simp [PyData.canLayAll0, PyData.canLay0, h n List.mem_cons_self, canLay_strs r fun z hz => h z (List.mem_cons_of_mem _ hz)]
theorem depth_strs : ∀ ws : List Str, PyData.depthAll (ws.map PyData.str) ≤ 1
  | [] => by simp [PyData.depthAll]
  | n :: r => by
    have := depth_strs r
    simp only [List.map_cons, PyData.depthAll, PyData.depth]
    omega
theorem shaped_strs (ws : List Str) (h : ∀ z ∈ ws, PyData.strOk z = true) : PySem.SeqAt.shaped (.tuple (ws.map PyData.str)) = true := by
  have h1 := depth_strs ws
  have h2 : PyData.depth (.tuple (ws.map PyData.str)) ≤ 64 := by simp only [PyData.depth]; omega
  show (PyData.canLay0 (.tuple (ws.map PyData.str)) && decide (PyData.depth (.tuple (ws.map PyData.str)) ≤ 64)) = true
  rw [Bool.and_eq_true]
  exact ⟨by simp only [PyData.canLay0]; exact canLay_strs ws h, decide_eq_true h2⟩
theorem ascii_strOk {z : Str} (h1 : Txt.isascii z = true) : PyData.strOk z = true := by
  unfold Txt.isascii at h1
  unfold PyData.strOk
  rw [Array.all_eq_true'] at h1 ⊢
  intro c hc
  have := of_decide_eq_true (h1 c hc)
  exact decide_eq_true (by omega)
theorem nameB_ascii {z : Str} (h : nameB z = true) : Txt.isascii z = true := by
  unfold nameB at h
  exact (Bool.and_eq_true_iff.mp (Bool.and_eq_true_iff.mp h).2).1
theorem nameB_strOk {z : Str} (h : nameB z = true) : PyData.strOk z = true := ascii_strOk (nameB_ascii h)
theorem remB_ascii {z : Str} (h : remarkB z = true) : Txt.isascii z = true := by
  unfold remarkB at h
  rcases Bool.or_eq_true_iff.mp h with h | h
  · have e : z = ("" : Str) := V.str.inj (of_decide_eq_true h)
    rw [e]
    decide +kernel
  · exact nameB_ascii h
theorem eqv_tup (xs ys : List PyData) : PyData.eqv (.tuple xs) (.tuple ys) = PyData.eqvAll xs ys := by rw [PyData.eqv]
section
variable {P : Program} {w : World} {K : PySem.W.Frag} {mg : Str → Option Value} {base : Heap}
theorem scBare : FnScope ["self"] ["self"] (defScope sBare) := ⟨rfl, rfl, rfl, by decide +kernel, rfl, by decide +kernel, by decide +kernel⟩
theorem ok_bare {f C fH : Addr} {fd dH : FuncData} (F : Fun K "bare" "Piece.bare" sBare f fd) (B : Bt mg) (Z : PieceC K C) (GH : FnOk P w K mg base CX0 1 fH dH ["piece"] (spText K C headS)) (gH : mg "head_of" = some (.ref fH)) (kH : PySem.W.keepIn K (.ref fH) = true) (bH : Binds K dH ["piece"] []) :
    FnOk P w K mg base CX0 2 f fd ["self"] (spBare K C) := by
  refine F.ok scBare (fun vs H Q E h => ?_) (fun cdv A outer s H vs Q E hr h => ?_)
  · obtain ⟨p, d, rfl, _⟩ := h
    rfl
  · obtain ⟨p, d, rfl, hP, o, few, k⟩ := h
    refine ⟨_, (pss_one (ps_ret (pe_op op_add (pe_op op_add (pe_callB call_len_str (by rfl) B.len PySem.boot_len (pa_cons (pe_call GH hr (by rfl) gH kH bH .nil pass0 (pa_cons (pv 0) pa_nil)) pa_nil)) (pe_callB call_len_str (by rfl) B.len PySem.boot_len (pa_cons (pe_bm PySem.F.plainAttrs_str PySem.F.slot_str_join PySem.F.type_str_join mt_join pe_str (pa_cons (pe_fld (pv 0) rfl) pa_nil)) pa_nil)))
      (pe_callB call_len_str (by rfl) B.len PySem.boot_len (pa_cons pe_str pa_nil))))), ?_⟩
    obtain ⟨dx, t, hp, ht⟩ := id hP
    have hl := headS_len o
    have j1 : (Str.ofString ", ").length = 2 := by decide
    have lj : (Txt.join ", " d.parts).length ≤ 300 := by
      have h1 := join_le ", " d.parts
      have h2 := sum_few (zs := d.parts) (n := 6) fun z hz => nameB_len (o.parts z hz)
      rw [j1] at h1
      omega
    have sm : (d.parts.map (·.length)).sum + d.parts.length * (Str.ofString ", ").length ≤ 16777216 := by
      have h2 := sum_few (zs := d.parts) (n := 6) fun z hz => nameB_len (o.parts z hz)
      rw [j1]
      omega
    refine ⟨_, rfl, p, d, rfl, hP, o, few, _, rfl, KwX.fitsN (by omega), ?_⟩
    refine ⟨rfl, _, rfl, p, C, dx, _, _, rfl, hp, Z.cl, Z.parts, rfl, _, t, d.parts, rfl, rfl, .inr (SqT.of ht), sm, _, rfl, KwX.fitsN (by omega), _, _, rfl, rfl, ?_⟩
    exact ⟨_, rfl, by decide, _, _, rfl, rfl, k⟩
theorem scEqP : FnScope ["self", "other"] ["self", "other"] (defScope sEqPc) := ⟨rfl, rfl, rfl, by decide +kernel, rfl, by decide +kernel, by decide +kernel⟩
theorem ok_eqP {f C : Addr} {fd : FuncData} (F : Fun K "__eq__" "Piece.__eq__" sEqPc f fd) (B : Bt mg) (c : ClsI K C) (Z : PieceC K C) (gC : mg "Piece" = some (.ref C)) : FnOk P w K mg base CX0 1 f fd ["self", "other"] (spEqP K C) := by
  refine F.ok scEqP (fun vs H Q E h => ?_) (fun cdv A outer s H vs Q E hr h => ?_)
  · obtain ⟨p, y, d, rfl, _⟩ := h
    rfl
  · obtain ⟨p, y, d, rfl, ⟨dx, t, hp, ht⟩, o, h⟩ := h
    refine ⟨_, pss_one (ps_ret (pe_and (pe_callB (call_isiK (K := K) rfl) (by rfl) B.isinstance (by decide +kernel) (pa_cons (pv 1) (pa_cons (pe_glob (v := .ref C) (by rfl) gC rfl) pa_nil)))
      (pe_and (pe_cmpR op_eq (pe_fld (pv 0) rfl) (pe_fld (pv 1) rfl) (nomark _))
      (pe_and (pe_cmpR (op_eqD hr.units) (pe_fld (pv 0) rfl) (pe_fld (pv 1) rfl) (nomark _))
      (pe_and (pe_cmpR op_eq (pe_fld (pv 0) rfl) (pe_fld (pv 1) rfl) (nomark _))
      (pe_and (pe_cmpR op_eq (pe_fld (pv 0) rfl) (pe_fld (pv 1) rfl) (nomark _))
      (pe_and (pe_cmpR op_eq (pe_fld (pv 0) rfl) (pe_fld (pv 1) rfl) (nomark _))
      (pe_and (pe_cmpR op_eq (pe_fld (pv 0) rfl) (pe_fld (pv 1) rfl) (nomark _))
      (pe_and (pe_cmpR op_eq (pe_fld (pv 0) rfl) (pe_fld (pv 1) rfl) (nomark _))
      (pe_one (pe_cmpR op_eq (pe_fld (pv 0) rfl) (pe_fld (pv 1) rfl) (nomark _)))))))))))), ?_⟩
    rcases h with ⟨q, e, rfl, ⟨dx2, t2, hq, ht2⟩, o2, k⟩ | ⟨⟨u, ty, eu⟩, k⟩
    · rw [eqB_eq] at k
      have cut : ∀ {c r : Bool} {R : Prop}, (c = true → Q (.bl r) H → R) → (c = false → Q (.bl false) H → R) → Q (.bl (c && r)) H → R := fun {c r R} h1 h2 k => by
        cases c with
        | true => exact h1 rfl k
        | false => exact h2 rfl k
      have sh : PySem.SeqAt.shaped (.tuple (d.parts.map PyData.str)) = true := shaped_strs _ fun z hz => nameB_strOk (o.parts z hz)
      have sh2 : PySem.SeqAt.shaped (.tuple (e.parts.map PyData.str)) = true := shaped_strs _ fun z hz => nameB_strOk (o2.parts z hz)
      refine ⟨_, rfl, _, _, _, _, true, rfl, .own _, c.at hq, (by unfold PySem.W.kitOne; rw [if_pos (by simp)]), _, rfl, iteY rfl ?_⟩
      refine ⟨_, rfl, p, C, dx, _, _, rfl, hp, Z.cl, Z.word, rfl, _, rfl, q, C, dx2, _, _, rfl, hq, Z.cl, Z.word, rfl, rfl, _, rfl, ?_⟩
      refine cut (fun h k => iteY h ?_) (fun h k => iteN h k) k
      refine ⟨_, rfl, p, C, dx, _, _, rfl, hp, Z.cl, Z.parts, rfl, _, rfl, q, C, dx2, _, _, rfl, hq, Z.cl, Z.parts, rfl, .tuple (d.parts.map .str), .tuple (e.parts.map .str), .tup (SqT.of ht) (strs_dp _), .tup (SqT.of ht2) (strs_dp _), sh, sh2, _, rfl, ?_⟩
      rw [eqv_tup]
      refine cut (fun h k => iteY h ?_) (fun h k => iteN h k) k
      refine ⟨_, rfl, p, C, dx, _, _, rfl, hp, Z.cl, Z.broken, rfl, _, rfl, q, C, dx2, _, _, rfl, hq, Z.cl, Z.broken, rfl, rfl, _, rfl, ?_⟩
      refine cut (fun h k => iteY h ?_) (fun h k => iteN h k) k
      refine ⟨_, rfl, p, C, dx, _, _, rfl, hp, Z.cl, Z.marked, rfl, _, rfl, q, C, dx2, _, _, rfl, hq, Z.cl, Z.marked, rfl, rfl, _, rfl, ?_⟩
      refine cut (fun h k => iteY h ?_) (fun h k => iteN h k) k
      refine ⟨_, rfl, p, C, dx, _, _, rfl, hp, Z.cl, Z.ahead, rfl, _, rfl, q, C, dx2, _, _, rfl, hq, Z.cl, Z.ahead, rfl, rfl, _, rfl, ?_⟩
      refine cut (fun h k => iteY h ?_) (fun h k => iteN h k) k
      refine ⟨_, rfl, p, C, dx, _, _, rfl, hp, Z.cl, Z.behind, rfl, _, rfl, q, C, dx2, _, _, rfl, hq, Z.cl, Z.behind, rfl, rfl, _, rfl, ?_⟩
      refine cut (fun h k => iteY h ?_) (fun h k => iteN h k) k
      refine ⟨_, rfl, p, C, dx, _, _, rfl, hp, Z.cl, Z.blanks, rfl, _, rfl, q, C, dx2, _, _, rfl, hq, Z.cl, Z.blanks, rfl, rfl, _, rfl, ?_⟩
      refine cut (fun h k => iteY h ?_) (fun h k => iteN h k) k
      exact ⟨_, rfl, p, C, dx, _, _, rfl, hp, Z.cl, Z.left, rfl, _, rfl, q, C, dx2, _, _, rfl, hq, Z.cl, Z.left, rfl, rfl, k⟩
    · exact ⟨_, rfl, _, _, _, _, false, rfl, .own _, ty, eu, _, rfl, iteN rfl k⟩
end
end Lay
set_option Elab.async false
set_option linter.all false
set_option maxRecDepth 100000
set_option maxHeartbeats 4000000
/-! str(x), x == y, x != y, x + y by what an own class defines. -/
namespace Lay
open PySem PySem.Spec PyProof.Rows L2
section
variable {X : Cx} {CX : CXT} {C f : Addr} {n : Nat} {fd : FuncData} {ps : List Str} {sp : Sp}
/-- a def called beneath, with its values -/
theorem run_sub {A : Around} {pins : List (Addr × Obj)} {σ : L2.St} {H : Hp} {s : Shared} {Q : VK} {us : List Value} {vs : List V} {Post : Value → Shared → Prop} (F : FnOk X.prog X.w X.K X.mg X.base CX n f fd ps sp) (hr : Sub X n A) (hb : Binds X.K fd ps []) (hx : Passes CX X E0)
    (I : Inv X pins σ H s) (r : Vals vs us) (h : sp vs H Q E0) (post : ∀ v u H' s', Inv X pins σ H' s' → RelV v u → Q v H' → Post u s') : wpAny (model X.prog X.w) A (call (.ref f) us) Post X.xe s := by
  have hl : us.length = ps.length := by rw [← r.length]; exact F.len _ _ _ _ h
  have b := hb s us I.kIn (by rw [List.append_nil]; exact hl)
  rw [List.append_nil] at b
  have e := I.env0
  have e0 : Env0 X.prog X.w X.K X.mg X.base A X.stack s H := ⟨by rw [hr.fr]; exact e.frames, e.mod, e.bs, e.bsz, e.funs, e.frf, e.hok, e.bare⟩
  refine wpAny_call (codeAny_mono (F.run A X.stack s H ⟨us, []⟩ us vs Q E0 hr.room e0 b r h) fun r s' hq => ?_)
  cases r with
  | error er => exact hx pins σ H s er s' I hq
  | ok fl =>
    cases fl with
    | ret u =>
      obtain ⟨v, H', I', rv, q⟩ := I.after hq
      exact post v u H' s' I' rv q
    | next => exact False.elim hq
    | brk => exact False.elim hq
    | cont => exact False.elim hq
theorem call_strOwn (F : FnOk X.prog X.w X.K X.mg X.base CX n f fd ps sp) (hs : PySem.W.findIn X.K (.ref C) "__str__" = some (some (.ref f))) (hf : PySem.W.isFn X.K (.ref f) = true) (hr : Room (n + 2) X.A) (hb : Binds X.K fd ps []) (hx : Passes CX X E0) :
    CallR X (.type "str") (fun xs H Q => ∃ (a dx : Addr) (fs : List (Str × V)), xs = [.ref a] ∧ H a = some (.ins C dx fs) ∧ sp [.ref a] H (fun v H' => ∃ z, v = .str z ∧ Q (.str z) H') E0) := by
  intro pins s σ H xs us Q I r h
  obtain ⟨a, dx, fs, rfl, ha, q⟩ := h
  obtain ⟨u, rfl, ru⟩ := vals1 r
  cases ru
  obtain ⟨mA, J, _⟩ := ins_get I.hok ha
  obtain ⟨od, J, _⟩ := J.look
  have sb : Sub X n X.A.in1.in1 := ⟨hr.in1.in1, rfl⟩
  refine PySem.W.kso_call sb.room.units0 I.kIn J hs hf (run_sub (vs := [V.ref a]) F sb hb hx I (.cons rfl .nil) q fun v u H' s' I' rv hq => ?_)
  obtain ⟨z, rfl, hq⟩ := hq
  obtain ⟨t, rfl⟩ := rv
  exact ⟨.str z, H', I', ⟨t, rfl⟩, hq⟩
/-- x == y, two instances of the class -/
theorem op_eqOwn (F : FnOk X.prog X.w X.K X.mg X.base CX n f fd ps sp) (hs : PySem.W.findIn X.K (.ref C) "__eq__" = some (some (.ref f))) (hf : PySem.W.isFn X.K (.ref f) = true) (hr : Room n X.A) (hb : Binds X.K fd ps []) (hx : Passes CX X E0) :
    OpR X (compareOp .Eq) (fun x y H Q => ∃ (a b dx dy : Addr) (fs gs : List (Str × V)), x = .ref a ∧ y = .ref b ∧ H a = some (.ins C dx fs) ∧ H b = some (.ins C dy gs) ∧ sp [.ref a, .ref b] H (fun v H' => ∃ z, v = .bl z ∧ Q (.bl z) H') E0) := by
  intro pins s σ H x y v u Q I rx ry h
  obtain ⟨a, b, dx, dy, fs, gs, rfl, rfl, ha, hb2, q⟩ := h
  cases rx
  cases ry
  obtain ⟨mA, J, _⟩ := ins_get I.hok ha
  obtain ⟨mB, J', _⟩ := ins_get I.hok hb2
  obtain ⟨od, J, _⟩ := J.look
  obtain ⟨od', J', _⟩ := J'.look
  obtain ⟨m, hF⟩ := I.fr
  have sb : Sub X n X.A := ⟨hr, rfl⟩
  show wpAny (model X.prog X.w) X.A (richCompare .Eq (.ref a) (.ref b)) (EP X pins σ Q) X.xe s
  refine PySem.W.cmp_K (op := .Eq) (tb := .ref C) sb.room.units0 hF I.ok.mod.kin J J'.type (by simp [PySem.W.notFirst]) hs hf (run_sub (vs := [V.ref a, V.ref b]) F sb hb hx I (.cons rfl (.cons rfl .nil)) q fun v u H' s' I' rv hq => ?_)
  obtain ⟨z, rfl, hq⟩ := hq
  cases rv
  exact ⟨.bl z, H', I', rfl, hq⟩
/-- x + y, two instances of the class, by its __add__ -/
theorem op_addOwn (F : FnOk X.prog X.w X.K X.mg X.base CX n f fd ps sp) (hs : PySem.W.findIn X.K (.ref C) "__add__" = some (some (.ref f))) (hc : PySem.W.selfFirst X.K C = true) (hf : PySem.W.isFn X.K (.ref f) = true) (hr : Room n X.A) (hb : Binds X.K fd ps []) (hx : Passes CX X E0) :
    OpR X (binaryOp .Add) (fun x y H Q => ∃ (a b dx dy : Addr) (fs gs : List (Str × V)), x = .ref a ∧ y = .ref b ∧ H a = some (.ins C dx fs) ∧ H b = some (.ins C dy gs) ∧ sp [.ref a, .ref b] H (fun v H' => ∃ c, v = .ref c ∧ Q (.ref c) H') E0) := by
  intro pins s σ H x y v u Q I rx ry h
  obtain ⟨a, b, dx, dy, fs, gs, rfl, rfl, ha, hb2, q⟩ := h
  cases rx
  cases ry
  obtain ⟨mA, J, _⟩ := ins_get I.hok ha
  obtain ⟨mB, J', _⟩ := ins_get I.hok hb2
  obtain ⟨od, J, _⟩ := J.look
  obtain ⟨od', J', _⟩ := J'.look
  obtain ⟨m, hF⟩ := I.fr
  have sb : Sub X n X.A := ⟨hr, rfl⟩
  refine PySem.W.binop_K (op := .Add) hF I.ok.mod.kin J J'.type hc hs hf (run_sub (vs := [V.ref a, V.ref b]) F sb hb hx I (.cons rfl (.cons rfl .nil)) q fun v u H' s' I' rv hq => ?_)
  obtain ⟨c, rfl, hq⟩ := hq
  cases rv
  exact ⟨.ref c, H', I', rfl, hq⟩
end
section
variable {prog : Program} {w : World} {A : Around} {E : Value → Shared → Prop} {s : Shared} {K : PySem.W.Frag} {x C f : Addr} {ox : Obj} {od : Option Obj} {b : Value}
theorem check_slot_K {M : Model} {id owner n : String} {rest : List Value} {Q : Unit → Shared → Prop} (hk : builtinKind id = some .slot) (hs : splitId id = some (owner, n))
    (ha : argsOk id ⟨.ref x :: rest, []⟩) (X : K.In s.heap) (I : PySem.W.InstAt s.heap x ox C od) (hm : PySem.W.mroIn K C (.type owner) = some true) (hq : Q () s) :
    wpAny M A (checkBuiltinCall id ⟨.ref x :: rest, []⟩) Q E s := by
  simp only [checkBuiltinCall, hk, hs]
  refine wpAny_bind ?_
  · unfold isInstance
    refine wpAny_bind (I.type.here ((PySem.W.looks_mroIn X hm).here ?_))
    rw [if_neg (by decide : ¬ (!true) = true)]
    cases hsig : Manifest.signature? id with
    | none => exact wpAny_pure hq
    | some sig =>
      simp only [argsOk, hsig] at ha
      have h2 : Bind.checkArgs id sig ⟨.ref x :: rest, []⟩ = pure () := ha
      show wpAny M A (Bind.checkArgs id sig ⟨.ref x :: rest, []⟩) Q E _
      rw [h2]
      exact wpAny_pure hq
theorem ne_entry {Q : PySem.Fin → Shared → Prop} (hu : A.units < cLine) (X : K.In s.heap) (I : PySem.W.InstAt s.heap x ox C od) (heq : PySem.W.findIn K (.ref C) "__eq__" = some (some (.ref f))) (hf : PySem.W.isFn K (.ref f) = true)
    (h : wpAny (model prog w) A (call (.ref f) [.ref x, b]) (fun v s' => ∃ z, v = .bool z ∧ Q (.done (.ret (.bool (!z)))) s') E s) : wpAny (model prog w) A (Builtin.«object.__ne__» ⟨[.ref x, b], []⟩) Q E s := by
  unfold Builtin.«object.__ne__»
  repeat (first | with_reducible refine wpAny_cRoomFor hu ?_ | (with_reducible refine PySem.W.ifBound_K X I heq hf (wpAny_mono h ?_ fun _ _ e => e)) | wp_step)
  rintro v s' ⟨z, rfl, q⟩
  repeat (first | wp_step)
  exact q
theorem ifBound_B {M : Model} {id : String} {name : Str} {args : List Value} {Q : Option Value → Shared → Prop} (S : ∀ v, bindSpecial (.builtin id) v = pure (.builtin id, [v])) (X : K.In s.heap) (I : PySem.W.InstAt s.heap x ox C od) (hs : PySem.W.findIn K (.ref C) name = some (some (.builtin id)))
    (h : wpAny M A (call (.builtin id) (.ref x :: args)) (fun v => Q (some v)) E s) : wpAny M A (callSpecialIfBound? (.ref x) name args) Q E s := by
  simp only [callSpecialIfBound?, bindSpecialIfBound?]
  refine wpAny_holding (wpAny_bind (wpAny_bind (wpAny_bind (I.type.here ((PySem.W.looks_findIn X hs).here ?_)))))
  simp only [S]
  refine wpAny_bind (wpAny_askSetting (wpAny_ite ?_))
  have fin : wpAny M A (call (.builtin id) ([.ref x] ++ args) >>= fun v => pure (some v)) Q E s := wpAny_bind (wpAny_mono h (fun v s' h' => wpAny_pure h') fun _ _ h' => h')
  split
  · exact wpAny_bind (wpAny_pure (wpAny_pure (by exact fin)))
  · exact wpAny_tryCatch (wpAny_bind (wpAny_pure (wpAny_pure (by exact fin))))
theorem ne_own {Q : Value → Shared → Prop} (hu : A.units + 1 < cLine) (X : K.In s.heap) (I : PySem.W.InstAt s.heap x ox C od) (hb : PySem.W.Looks (model prog w) s.heap (typeOf b) (.ref C)) (hne : PySem.W.findIn K (.ref C) "__ne__" = some (some (.builtin "object.__ne__")))
    (heq : PySem.W.findIn K (.ref C) "__eq__" = some (some (.ref f))) (hf : PySem.W.isFn K (.ref f) = true) (hm : PySem.W.mroIn K C (.type "object") = some true)
    (h : wpAny (model prog w) A.in1 (call (.ref f) [.ref x, b]) (fun v s' => ∃ z, v = .bool z ∧ Q (.bool (!z)) s') E s) : wpAny (model prog w) A (richCompare .NotEq (.ref x) b) Q E s := by
  have one : wpAny (model prog w) A (tryCompare (.ref x) "__ne__" b) (fun r s' => ∃ v, r = some v ∧ Q v s') E s := by
    unfold tryCompare
    refine wpAny_bind (ifBound_B F.cmp_object.ne.bind X I hne (wpAny_call (codeAny_call_builtin F.cmp_object.ne.plain F.cmpEntry_ne (check_slot_K F.cmpKind_ne F.cmpSplit_ne (F.cmpArgs_ne _ _) X I hm (ne_entry (A := A.in1) hu X I heq hf ?_)))))
    refine wpAny_mono h (fun v s' hv => ?_) fun _ _ e => e
    obtain ⟨z, rfl, q⟩ := hv
    exact ⟨z, rfl, wpAny_pure ⟨_, rfl, q⟩⟩
  unfold richCompare
  simp only [oneThing_ref]
  refine wpAny_holding (wpAny_bind (wpAny_cRoomFor (Nat.lt_of_succ_lt hu) ?_))
  refine wpAny_bind (I.type.here (wpAny_bind (hb.here ?_)))
  rw [if_neg (by simp)]
  refine wpAny_bind (wpAny_pure ?_)
  simp only [Bool.false_eq_true, if_false]
  refine wpAny_bind (wpAny_mono one (fun r s' z => ?_) fun _ _ e => e)
  obtain ⟨v, rfl, hq⟩ := z
  exact wpAny_pure hq
end
section
variable {X : Cx} {CX : CXT} {C f : Addr} {n : Nat} {fd : FuncData} {ps : List Str} {sp : Sp}
/-- x != y, two instances of the class, by its __eq__ -/
theorem op_neOwn (F : FnOk X.prog X.w X.K X.mg X.base CX n f fd ps sp) (hs : PySem.W.findIn X.K (.ref C) "__eq__" = some (some (.ref f))) (hne : PySem.W.findIn X.K (.ref C) "__ne__" = some (some (.builtin "object.__ne__"))) (hm : PySem.W.mroIn X.K C (.type "object") = some true)
    (hf : PySem.W.isFn X.K (.ref f) = true) (hr : Room (n + 1) X.A) (hb : Binds X.K fd ps []) (hx : Passes CX X E0) :
    OpR X (compareOp .NotEq) (fun x y H Q => ∃ (a b dx dy : Addr) (fs gs : List (Str × V)), x = .ref a ∧ y = .ref b ∧ H a = some (.ins C dx fs) ∧ H b = some (.ins C dy gs) ∧ sp [.ref a, .ref b] H (fun v H' => ∃ z, v = .bl z ∧ Q (.bl (!z)) H') E0) := by
  intro pins s σ H x y v u Q I rx ry h
  obtain ⟨a, b, dx, dy, fs, gs, rfl, rfl, ha, hb2, q⟩ := h
  cases rx
  cases ry
  obtain ⟨mA, J, _⟩ := ins_get I.hok ha
  obtain ⟨mB, J', _⟩ := ins_get I.hok hb2
  obtain ⟨od, J, _⟩ := J.look
  obtain ⟨od', J', _⟩ := J'.look
  have sb : Sub X n X.A.in1 := ⟨hr.in1, rfl⟩
  show wpAny (model X.prog X.w) X.A (richCompare .NotEq (.ref a) (.ref b)) (EP X pins σ Q) X.xe s
  refine ne_own sb.room.units0 I.kIn J J'.type hne hs hf hm (run_sub (vs := [V.ref a, V.ref b]) F sb hb hx I (.cons rfl (.cons rfl .nil)) q fun v u H' s' I' rv hq => ?_)
  obtain ⟨z, rfl, hq⟩ := hq
  cases rv
  exact ⟨z, rfl, .bl (!z), H', I', rfl, hq⟩
/-- len(x) by its __len__ -/
theorem call_lenOwn (F : FnOk X.prog X.w X.K X.mg X.base CX n f fd ps sp) (hs : PySem.W.findIn X.K (.ref C) "__len__" = some (some (.ref f))) (hf : PySem.W.isFn X.K (.ref f) = true) (hr : Room (n + 1) X.A) (hb : Binds X.K fd ps []) (hx : Passes CX X E0) :
    CallR X (.builtin "len") (fun xs H Q => ∃ (a dx : Addr) (fs : List (Str × V)), xs = [.ref a] ∧ H a = some (.ins C dx fs) ∧ sp [.ref a] H (fun v H' => ∃ k : Int, v = .int k ∧ 0 ≤ k ∧ k < 2 ^ 63 ∧ Q (.int k) H') E0) := by
  intro pins s σ H xs us Q I r h
  obtain ⟨a, dx, fs, rfl, ha, q⟩ := h
  obtain ⟨u, rfl, ru⟩ := vals1 r
  cases ru
  obtain ⟨mA, J, _⟩ := ins_get I.hok ha
  obtain ⟨od, J, _⟩ := J.look
  obtain ⟨m, hF⟩ := I.fr
  have sb : Sub X n X.A.in1 := ⟨hr.in1, rfl⟩
  refine PySem.W.len_K hF I.ok.mod.kin J hs hf (run_sub (vs := [V.ref a]) F sb hb hx I (.cons rfl .nil) q fun v u H' s' I' rv hq => ?_)
  obtain ⟨k, rfl, k0, k1, hq⟩ := hq
  obtain ⟨t, rfl⟩ := rv
  exact ⟨⟨k0, k1⟩, .int k, H', I'.tok _, ⟨_, rfl⟩, hq⟩
end
end Lay
set_option Elab.async false
set_option linter.all false
set_option maxRecDepth 100000
set_option maxHeartbeats 4000000
/-! x += y by __add__; sequences of the same objects compared. -/
namespace Lay
open PySem PySem.Spec PyProof.Rows L2
theorem refs_eq : ∀ {xs : List V} {as bs : List Value}, (∀ v ∈ xs, ∃ p, v = V.ref p) → Vals xs as → Vals xs bs → as = bs
  | [], _, _, _, ra, rb => by
    cases ra
    cases rb
    rfl
  | x :: xs, _, _, h, ra, rb => by
    obtain ⟨p, rfl⟩ := h x List.mem_cons_self
    cases ra with
    | cons r1 ra =>
      cases rb with
      | cons r2 rb =>
        cases r1
        cases r2
        rw [refs_eq (fun v hv => h v (List.mem_cons_of_mem _ hv)) ra rb]
section
variable {X : Cx}
theorem op_neSameT (hu : X.A.units + 64 < cLine) : OpR X (compareOp .NotEq) (fun x y H Q => ∃ a b xs, x = .ref a ∧ y = .ref b ∧ SqT X.K H a xs ∧ SqT X.K H b xs ∧ (∀ v ∈ xs, ∃ p, v = V.ref p) ∧ Q (.bl false) H) := by
  intro pins s σ H x y v u Q I rx ry h
  obtain ⟨a, b, xs, rfl, rfl, ha, hb, hr, q⟩ := h
  cases rx
  cases ry
  obtain ⟨its, r, p1, _⟩ := I.tuple ha
  obtain ⟨its2, r2, p2, _⟩ := I.tuple hb
  obtain rfl := refs_eq hr r r2
  refine SeqAt.RcNeAt.tuples (A := X.A) (e := fun _ => true) p1 p2 (by omega) (fun j h1 h2 => SeqAt.EqAt.same _) X.prog X.w X.xe (EP X pins σ Q) ?_
  have : (!((List.range (min its.toArray.size its.toArray.size)).all (fun _ => true) && its.toArray.size == its.toArray.size)) = false := by simp
  rw [this]
  exact ⟨.bl false, H, I, rfl, q⟩
theorem op_eqSameT (hu : X.A.units + 64 < cLine) : OpR X (compareOp .Eq) (fun x y H Q => ∃ a b xs, x = .ref a ∧ y = .ref b ∧ SqT X.K H a xs ∧ SqT X.K H b xs ∧ (∀ v ∈ xs, ∃ p, v = V.ref p) ∧ Q (.bl true) H) := by
  intro pins s σ H x y v u Q I rx ry h
  obtain ⟨a, b, xs, rfl, rfl, ha, hb, hr, q⟩ := h
  cases rx
  cases ry
  obtain ⟨its, r, p1, _⟩ := I.tuple ha
  obtain ⟨its2, r2, p2, _⟩ := I.tuple hb
  obtain rfl := refs_eq hr r r2
  refine SeqAt.RcAt.tuples (A := X.A) (e := fun _ => true) p1 p2 (by omega) (fun j h1 h2 => SeqAt.EqAt.same _) X.prog X.w X.xe (EP X pins σ Q) ?_
  have : ((List.range (min its.toArray.size its.toArray.size)).all (fun _ => true) && its.toArray.size == its.toArray.size) = true := by simp
  rw [this]
  exact ⟨.bl true, H, I, rfl, q⟩
theorem op_neSameL (hu : X.A.units + 64 < cLine) : OpR X (compareOp .NotEq) (fun x y H Q => ∃ a b xs, x = .ref a ∧ y = .ref b ∧ SqL X.K H a xs ∧ SqL X.K H b xs ∧ (∀ v ∈ xs, ∃ p, v = V.ref p) ∧ Q (.bl false) H) := by
  intro pins s σ H x y v u Q I rx ry h
  obtain ⟨a, b, xs, rfl, rfl, ha, hb, hr, q⟩ := h
  cases rx
  cases ry
  obtain ⟨its, r, p1, _⟩ := I.list ha
  obtain ⟨its2, r2, p2, _⟩ := I.list hb
  obtain rfl := refs_eq hr r r2
  refine SeqAt.RcNeAt.lists (A := X.A) (e := fun _ => true) p1.isList p2.isList rfl (by omega) (fun j h1 h2 => SeqAt.EqAt.same _) X.prog X.w X.xe (EP X pins σ Q) ?_
  have : (!((List.range its.toArray.size).all (fun _ => true))) = false := by simp
  rw [this]
  exact ⟨.bl false, H, I, rfl, q⟩
end
section
variable {prog : Program} {w : World} {A : Around} {E : Value → Shared → Prop} {s : Shared} {K : PySem.W.Frag} {x C L f : Addr} {h₀ : Heap} {m : Str → Option Value} {ox : Obj} {od : Option Obj}
theorem fillsI_K {M : Model} {h : Heap} {cd : ClassData} {nm : String} {b : Bool} (X : K.In h) (hc : PySem.W.clsIn K C = some cd) (hm : cd.mro = [.ref C, .type "object"]) (h1 : PySem.W.findIn K (.ref C) (PySem.dunderI nm) = some none)
    (h2 : PySem.W.findIn K (.type "object") (PySem.dunderI nm) = some none) : PySem.W.Looks M h (fillsInplaceSlot (.ref C) nm b) false := by
  intro A Q E s k q
  unfold fillsInplaceSlot
  refine wpAny_bind ((PySem.W.looks_clsIn X hc).andThen (f := fun cd => pure cd.mro) .now A _ E s k ?_)
  rw [hm, List.anyM_cons]
  refine wpAny_bind (wpAny_bind (PySem.W.looks_findIn X h1 A _ E s k ?_))
  refine wpAny_pure ?_
  rw [if_neg Bool.false_ne_true, List.anyM_cons]
  refine wpAny_bind (wpAny_bind (PySem.W.looks_findIn X h2 A _ E s k ?_))
  refine wpAny_pure ?_
  rw [if_neg Bool.false_ne_true]
  exact wpAny_pure q
theorem iop_K {op : Operator} {b : Value} {cd : ClassData} {Q : Value → Shared → Prop} (F : PyProof.Rows.Fr h₀ L s.heap m) (X₀ : K.In h₀) (I : PySem.W.InstAt s.heap x ox C od) (hb : PySem.W.Looks (model prog w) s.heap (typeOf b) (.ref C)) (hcd : PySem.W.clsIn K C = some cd) (hm : cd.mro = [.ref C, .type "object"])
    (h1 : PySem.W.findIn K (.ref C) (PySem.dunderI op.info.2) = some none) (h2 : PySem.W.findIn K (.type "object") (PySem.dunderI op.info.2) = some none)
    (hs : PySem.W.findIn K (.ref C) (PySem.dunder op.info.2) = some (some (.ref f))) (hf : PySem.W.isFn K (.ref f) = true)
    (h : wpAny (model prog w) A (call (.ref f) [.ref x, b]) (PySem.W.CmpBack Q) E s) : wpAny (model prog w) A (inplaceOp op (.ref x) b) Q E s := by
  have X := X₀.keeps F.keep
  unfold inplaceOp
  refine wpAny_holding (wpAny_bind (I.type.here (wpAny_bind ((fillsI_K X hcd hm h1 h2).here ?_))))
  simp only [Bool.false_eq_true, if_false]
  refine wpAny_bind ?_
  unfold binaryOp1
  refine wpAny_bind (I.type.here (wpAny_bind (hb.here (wpAny_bind ((PySem.W.fills_K X hcd hm hs).here ?_)))))
  simp only [beq_self_eq_true, if_true]
  refine wpAny_bind (wpAny_pure ?_)
  simp only [Bool.and_false, Bool.false_eq_true, if_false, Bool.false_and]
  refine wpAny_bind (wpAny_pure ?_)
  simp only [Bool.false_eq_true, if_false]
  refine wpAny_bind (m := tryMethod (.ref x) _ b) ?_
  unfold tryMethod
  refine wpAny_bind (PySem.W.special_fn X I hs (beq_iff_eq.mp hf) (wpAny_mono h (fun v s' hv => ?_) fun _ _ e => e))
  cases v <;> first | exact hv.elim | exact wpAny_pure (wpAny_pure (wpAny_pure hv))
end
section
variable {X : Cx} {CX : CXT} {C f : Addr} {n : Nat} {fd : FuncData} {ps : List Str} {sp : Sp}
/-- x += y, two instances of the class, by its __add__ -/
theorem ip_addOwn {cd : ClassData} (F : FnOk X.prog X.w X.K X.mg X.base CX n f fd ps sp) (hs : PySem.W.findIn X.K (.ref C) "__add__" = some (some (.ref f))) (hcd : PySem.W.clsIn X.K C = some cd) (hm : cd.mro = [.ref C, .type "object"]) (h1 : PySem.W.findIn X.K (.ref C) "__iadd__" = some none)
    (h2 : PySem.W.findIn X.K (.type "object") "__iadd__" = some none) (hf : PySem.W.isFn X.K (.ref f) = true) (hr : Room n X.A) (hb : Binds X.K fd ps []) (hx : Passes CX X E0) :
    PIp X .Add (fun x y H Q => ∃ (a b dx dy : Addr) (fs gs : List (Str × V)), x = .ref a ∧ y = .ref b ∧ H a = some (.ins C dx fs) ∧ H b = some (.ins C dy gs) ∧ sp [.ref a, .ref b] H (fun v H' => ∃ c, v = .ref c ∧ Q (.ref c) H') E0) := by
  intro pins s σ H x y v u Q I rx ry h
  obtain ⟨a, b, dx, dy, fs, gs, rfl, rfl, ha, hb2, q⟩ := h
  cases rx
  cases ry
  obtain ⟨mA, J, _⟩ := ins_get I.hok ha
  obtain ⟨mB, J', _⟩ := ins_get I.hok hb2
  obtain ⟨od, J, _⟩ := J.look
  obtain ⟨od', J', _⟩ := J'.look
  obtain ⟨m, hF⟩ := I.fr
  have sb : Sub X n X.A := ⟨hr, rfl⟩
  refine iop_K (op := .Add) hF I.ok.mod.kin J J'.type hcd hm h1 h2 hs hf (run_sub (vs := [V.ref a, V.ref b]) F sb hb hx I (.cons rfl (.cons rfl .nil)) q fun v u H' s' I' rv hq => ?_)
  obtain ⟨c, rfl, hq⟩ := hq
  cases rv
  exact ⟨.ref c, H', I', rfl, hq⟩
end
end Lay
set_option Elab.async false
set_option linter.all false
set_option maxRecDepth 100000
set_option maxHeartbeats 4000000
/-! Defs that are called where no repr is under way (the law's own), and the law's end from such a promise. -/
namespace Lay
open PySem PySem.Spec PyProof.Rows L2
/-- a def's promise, where no repr is under way around it -/
structure FnG (P : Program) (w : World) (K : PySem.W.Frag) (mg : Str → Option Value) (base : Heap) (k : Nat) (f : Addr) (fd : FuncData) (ps : List Str) (sp : Sp) : Prop where
  len : ∀ vs H Q E, sp vs H Q E → vs.length = ps.length
  go : ∀ (A : Around) (outer : List Env) (s : Shared) (H : Hp) (args : Args) (us : List Value) (vs : List V) (Q : VK), A.guards = some [] → Room k A → Env0 P w K mg base A outer s H →
    BindsTo s fd args (ps.zip us) → Vals vs us → sp vs H Q E0 → codeAny (model P w) A (.call (.ref f) args) (CR CX0 outer P w H s Q E0) s
section
variable {P : Program} {w : World} {K : PySem.W.Frag} {mg : Str → Option Value} {base : Heap}
theorem FnOk.g {k : Nat} {f : Addr} {fd : FuncData} {ps : List Str} {sp : Sp} (F : FnOk P w K mg base CX0 k f fd ps sp) : FnG P w K mg base k f fd ps sp :=
  ⟨F.len, fun A outer s H args us vs Q _ hr e b r h => F.run A outer s H args us vs Q E0 hr e b r h⟩
/-- a def of the text, by its body, which may lean on the silence around it -/
theorem Fun.okG {x qual : Str} {st : Stmt} {f : Addr} {fd : FuncData} {N ps : List Str} {k : Nat} {sp : Sp} (F : Fun K x qual st f fd) (S : FnScope N ps (defScope st)) (len : ∀ vs H Q E, sp vs H Q E → vs.length = ps.length)
    (hbody : ∀ (cdv : Value) (A : Around) (outer : List Env) (s : Shared) (H : Hp) (vs : List V) (Q : VK), A.guards = some [] → Room k (A.deeper (envOfC qual (defScope st) s.heap.objs.size f cdv)) → sp vs H Q E0 →
      ∃ t, PSs (cxOf CX0 P w K mg base N qual (defScope st) f cdv A outer s H E0).nox (defBody st) t ∧ t { nx := fun _ H' => Q .non H', rt := Q } (start N vs) H) : FnG P w K mg base (k + 1) f fd ps sp := by
  obtain ⟨oc, od, kV, doc, pm, an, cdv, ct, osl, rfl, lk, code⟩ := F.ex
  refine ⟨len, fun A outer s H args us vs Q silent hr e0 hb r want => ?_⟩
  have many := len _ _ _ _ want
  have kin : K.In s.heap := e0.mod.kin.keeps fun b o z => (e0.bs b o z).1
  have lim : s.heap.NoLimit := e0.mod.nolimit.keeps fun b o z => (e0.bs b o z).1
  have kinds : ∀ y ∈ ps.zip us, (defScope st).names.lookup y.1 = some .local ∨ ((defScope st).names.lookup y.1 = some .cell ∧ ((cellsFrom (s.heap.objs.size + 1) (defScope st).names []).lookup y.1).isSome = true) := by
    rintro ⟨nm, vl⟩ hy
    refine (S.par nm (List.of_mem_zip hy).1).imp id fun c => ⟨c, ?_⟩
    exact PySem.W.cellsFrom_some _ _ _ (.inl c)
  refine codeAny_call_function hr.depth (kin _ _ lk) rfl S.co S.gen rfl (PySem.W.codeRec_of kin code) (hb _ _ _ _ ?_)
  refine wpAny_newFunctionEnv_cells S.kind kinds fun env ee s1 x => ?_
  subst ee
  refine ⟨lim.keeps x.toInCall.keep, codeAny_func ?_⟩
  obtain ⟨t, ht, hq⟩ := hbody cdv A outer s H vs Q silent (hr.deeper _) want
  have I : Inv (cxOf CX0 P w K mg base N qual (defScope st) f cdv A outer s H E0).nox [] (start N vs) H s1 := (inv_start S hr.hd e0 many r x).wish _
  refine wpAny_mono (ht.run [] s1 (start N vs) H _ I hq) (fun fl s' hs => ?_) fun _ _ z => z.elim
  cases fl with
  | ret u =>
    obtain ⟨v, σ', H', J, rv, q⟩ := hs
    exact ⟨v, H', J.os, J.bare, J.base, J.hok, rv, q⟩
  | next =>
    obtain ⟨σ', H', J, q⟩ := hs
    exact ⟨.non, H', J.os, J.bare, J.base, J.hok, rfl, q⟩
  | brk =>
    obtain ⟨_, _, _, q⟩ := hs
    exact q.elim
  | cont =>
    obtain ⟨_, _, _, q⟩ := hs
    exact q.elim
end
/-- the script as it is read at the entry: an object of the module, or one that is known -/
theorem script_seen {P : Program} {w : World} {K : PySem.W.Frag} {s : Shared} {a : Addr} {vs : List Value} {ns : List Int} (kin : K.In s.heap) (ha : s.heap.get? a = some { cls := .type "list", data := .seq vs.toArray }) (hi : IntsAre vs ns)
    (hl : ns.length ≤ sizeLine) : ∃ H : Hp, Only H ∧ SqL K H a (ns.map V.int) ∧ HOk P w H s.heap ∧ ∀ b, H b ≠ none → b = a ∧ K.lookup b = none := by
  have rv := vals_ints hi
  have lv := hi.length
  cases hk : K.lookup a with
  | some o =>
    have e := kin a o hk
    rw [ha] at e
    cases e
    refine ⟨fun _ => none, fun _ => .inl rfl, .inr ⟨_, vs.toArray, _, hk, rfl, rfl, rfl, ?_, by simpa using rv⟩, fun b u z => (nomatch z), fun b z => absurd rfl z⟩
    rw [List.size_toArray, lv]
    exact hl
  | none =>
    let o : Obj := { cls := .type "list", data := .seq vs.toArray }
    let u : HO := .frz o (.lst (ns.map V.int))
    refine ⟨upd (fun _ => none) a u, fun b => ?_, .inl (.inr ⟨o, upd_same⟩), fun b v z => ?_, fun b z => ?_⟩
    · by_cases e : b = a
      · exact .inr ⟨_, _, by rw [e]; exact upd_same⟩
      · exact .inl (upd_ne e)
    · by_cases e : b = a
      · subst e
        rw [upd_same] at z
        cases z
        exact ⟨ha, by rw [List.length_map]; exact hl, vs, _, rv, ha⟩
      · rw [upd_ne e] at z
        cases z
    · by_cases e : b = a
      · exact ⟨e, by rw [e]; exact hk⟩
      · exact absurd (upd_ne e) z
/-- the law's end -/
theorem walkG {l : PySem.W.OpenLaw} {n k : Nat} {q : Program} {loose : List Str} {XP : (Str → Option Value) → Heap → Prop} {YP : World → Heap → Prop} {d : DefRec} {K : Params → PySem.W.Frag} {sp : World → Sp} {x : Str}
    (hn : l.most = some n) (hn2 : n ≤ sizeLine) (hdf : d.params.defaults = []) (hr : Room k callerA) (hY : ∀ (w : World) (h : Heap), YP w h → (K w.params).In h)
    (F : ∀ (w : World) (mg : Str → Option Value) (fa : Addr) (h : Heap), (K w.params).In h → h.Ns mainGlobals mg → mg d.name = some (.ref fa) →
      ∃ fd : FuncData, (∀ (s : Shared) (u : Value), BindsTo s fd ⟨[u], []⟩ [(x, u)]) ∧ ∀ base : Heap, (K w.params).In base → base.Ns mainGlobals mg → FnG l.prog w (K w.params) mg base k fa fd [x] (sp w))
    (hsp : ∀ (w : World) (H : Hp) (a : Addr) (ns : List Int), ns.length ≤ n → Only H → SqL (K w.params) H a (ns.map V.int) → sp w [.ref a] H (fun v _ => v = .bl true) E0) :
    PySem.W.WalkO q loose XP YP l.row.toRowW d [] (fun f vs => PySem.call f vs) := by
  refine Att.attach_call hn hdf fun w s₀ s₁ mg mb fa o pm cd doc a vs ns G Y ho hd hcd hmg hobj hints hlen hg => ?_
  have kin := hY w _ Y
  obtain ⟨fd, hb, hF⟩ := F w mg fa _ kin G.T.g hmg
  obtain ⟨H, hO, hS, hok, hA⟩ := script_seen (P := l.prog) (w := w) kin hobj hints (Nat.le_trans hlen hn2)
  have unT : ∀ {b : Addr} {u : Obj}, s₁.heap.get? b = some u → (b = a → False) → H b = none := fun {b u} _ nb => by
    cases z : H b with
    | none => rfl
    | some v => exact (nb (hA b (by rw [z]; exact fun y => nomatch y)).1).elim
  have ns : ∀ {b : Addr} {m : Str → Option Value}, s₁.heap.Ns b m → (hidT s₁.heap H).Ns b m := fun {b m} ⟨u, es, ep, e, dd, r⟩ =>
    ⟨u, es, ep, hidT_get e (unT e fun z => by
      subst z
      rw [hobj] at e
      cases e
      exact absurd dd (fun y => nomatch (show Data.seq vs.toArray _ = Data.dict es ep from y))), dd, r⟩
  have kinB : (K w.params).In (hidT s₁.heap H) := fun b u e => hidT_get (kin b u e) (by
    cases z : H b with
    | none => rfl
    | some v =>
      have y := (hA b (by rw [z]; exact fun y => nomatch y)).2
      rw [e] at y
      cases y)
  obtain ⟨mc, lim1, lim2⟩ := G.T.nolimit
  have M : Mod (K w.params) mg (hidT s₁.heap H) := ⟨kinB, ns G.T.g, ⟨mb, ns G.T.b, G.T.builtins⟩, ⟨mc, ns lim1, lim2⟩⟩
  have e0 : Env0 l.prog w (K w.params) mg (hidT s₁.heap H) callerA [] s₁ H := ⟨rfl, M, fun b u e => of_hidT e, Nat.le_of_eq (hidT_size _ _), trivial, fun b z => (nomatch z), hok, .of_eq hg⟩
  refine codeAny_mono ((hF _ kinB (ns G.T.g)).go callerA [] s₁ H ⟨[.ref a], []⟩ [.ref a] [.ref a] _ rfl hr e0 (hb s₁ (.ref a)) (.cons rfl .nil) (hsp w H a _ hlen hO hS)) fun r s' h => ?_
  cases r with
  | error e => exact h.elim
  | ok fl =>
    cases fl with
    | next => exact h.elim
    | brk => exact h.elim
    | cont => exact h.elim
    | ret u =>
      obtain ⟨v, H', os, bare, un, hok', rv, qq⟩ := h
      subst qq
      cases rv
      refine ⟨rfl, OldK.of_keep fun b u e => ?_, os, bare⟩
      rcases hO b with z | ⟨ob, xs, z⟩
      · exact un.keep b u e z (fun y => nomatch y) (fun y => nomatch y)
      · obtain ⟨e1, _⟩ := hok b _ z
        obtain ⟨e2, _⟩ := hok' b _ (un.frzs b ob _ z)
        rw [e] at e1
        cases e1
        exact e2
end Lay
set_option Elab.async false
set_option linter.all false
set_option maxRecDepth 100000
set_option maxHeartbeats 4000000
namespace Lay
open PySem PySem.Spec PyProof.Rows L2
section
variable {X : Cx}
/-- repr of a list or a tuple of data, where no repr is under way -/
def rReprD (K : PySem.W.Frag) : List V → Hp → VK → Prop := fun xs H Q => ∃ (a : Addr) (d : PyData), xs = [.ref a] ∧ Dp K H (.ref a) d ∧ d.showable = true ∧ d.hasDict = false ∧ d.depth ≤ 60 ∧ d.shown.length ≤ sizeLine ∧ Q (.str d.shown) H
theorem call_reprD (silent : X.A.guards = some []) (hu : X.A.units + 64 < cLine) : CallR X (.builtin "repr") (rReprD X.K) := by
  intro pins s σ H xs us Q I r h
  obtain ⟨a, d, rfl, hd, h1, h2, h3, h4, q⟩ := h
  obtain ⟨u, rfl, ru⟩ := vals1 r
  cases ru
  obtain ⟨as, rd⟩ := Dp.reads I d (.ref a) (.ref a) hd rfl
  exact repr_of_reads' rd h1 (PyData.noDict_hsm h2) silent (by omega) (fun _ _ z => z) (fun h' u tk hk => ⟨.str _, H, I.kept hk, ⟨_, rfl⟩, q⟩) h4
end
theorem noDicts : ∀ ds : List PyData, (∀ d ∈ ds, d.hasDict = false) → PyData.hasDictAll ds = false
  | [], _ => by simp [PyData.hasDictAll]
  | d :: ds, h => by
    have h1 := h d List.mem_cons_self
    have h2 := noDicts ds fun e he => h e (List.mem_cons_of_mem _ he)
    simp [PyData.hasDictAll, h1, h2]
theorem deeps {n : Nat} : ∀ ds : List PyData, (∀ d ∈ ds, d.depth ≤ n) → PyData.depthAll ds ≤ n
  | [], _ => by simp [PyData.depthAll]
  | d :: ds, h => by
    have h1 := h d List.mem_cons_self
    have h2 := deeps ds fun e he => h e (List.mem_cons_of_mem _ he)
    simp only [PyData.depthAll]
    omega
theorem pile {n : Nat} : ∀ ds : List PyData, (∀ d ∈ ds, d.shown.length ≤ n) → piled (PyData.shownAll ds) ≤ (n + 2) * ds.length
  | [], _ => by simp [PyData.shownAll, piled_nil]
  | d :: ds, h => by
    have h1 := h d List.mem_cons_self
    have h2 := pile ds fun e he => h e (List.mem_cons_of_mem _ he)
    rw [PyData.shownAll_cons, piled_cons, List.length_cons, Nat.mul_succ]
    omega
theorem tup_len (ds : List PyData) : (PyData.tuple ds).shown.length ≤ piled (PyData.shownAll ds) + 10 := by
  have o1 : (Str.ofString "(").length = 1 := by decide
  have o2 : (Str.ofString ",)").length = 2 := by decide
  have o3 : (Str.ofString ")").length = 1 := by decide
  have q : (Str.join ", " (PyData.shownAll ds)).length ≤ piled (PyData.shownAll ds) := by
    by_cases e : PyData.shownAll ds = []
    · rw [e]
      show (Str.join ", " []).length ≤ _
      have : (Str.join ", " []).length = 0 := by decide
      omega
    · have := join_length_add (PyData.shownAll ds) e
      omega
  rw [PyData.shown_tuple, Str.length_append, Str.length_append, o1]
  split
  · rw [o2]
    omega
  · rw [o3]
    omega
theorem list_len (ds : List PyData) : (PyData.list ds).shown.length ≤ piled (PyData.shownAll ds) + 10 := by
  have o1 : (Str.ofString "[").length = 1 := by decide
  have o3 : (Str.ofString "]").length = 1 := by decide
  have q : (Str.join ", " (PyData.shownAll ds)).length ≤ piled (PyData.shownAll ds) := by
    by_cases e : PyData.shownAll ds = []
    · rw [e]
      show (Str.join ", " []).length ≤ _
      have : (Str.join ", " []).length = 0 := by decide
      omega
    · have := join_length_add (PyData.shownAll ds) e
      omega
  rw [PyData.shown_list, Str.length_append, Str.length_append, o1, o3]
  omega
/-- a list or a tuple of few that are shown well -/
theorem pile_ok {ds : List PyData} {m n l : Nat} (hl : ds.length ≤ l) (h : ∀ d ∈ ds, d.showable = true ∧ d.hasDict = false ∧ d.depth ≤ m ∧ d.shown.length ≤ n) : PyData.showableAll ds = true ∧ PyData.hasDictAll ds = false ∧ PyData.depthAll ds ≤ m ∧ piled (PyData.shownAll ds) ≤ (n + 2) * l := by
  refine ⟨Spec.showableAll_of fun d hd => (h d hd).1, noDicts ds fun d hd => (h d hd).2.1, deeps ds fun d hd => (h d hd).2.2.1, ?_⟩
  exact Nat.le_trans (pile ds fun d hd => (h d hd).2.2.2) (Nat.mul_le_mul_left _ hl)
end Lay
set_option Elab.async false
set_option linter.all false
set_option maxRecDepth 100000
set_option maxHeartbeats 4000000
set_option pp.maxSteps 900
namespace Lay
open PySem PySem.Spec PyProof.Rows L2
/-- sorted(xs), texts, any number of them -/
def rSortedSA (K : PySem.W.Frag) : List V → Hp → VK → Prop := fun vs H Q => ∃ (a : Addr) (xs : List Str), vs = [V.ref a] ∧ SqL K H a (xs.map V.str) ∧
  ∀ (ys : List Str) (p : Addr), ys.Perm xs → sortedS ys = true → H p = none → Q (.ref p) (upd H p (.lst (ys.map V.str)))
theorem cr_sortedSA {X : Cx} : CallR X (.builtin "sorted") (rSortedSA X.K) := by
  intro pins s σ H vs us Q I r h
  obtain ⟨a, xs, rfl, hs, q⟩ := h
  obtain ⟨its, rv, hl, hz⟩ := I.list hs
  rw [Vals.ref1 r]
  refine PyProof.Rows.sorted_strsAny hl.isList rv.strs (by rw [← rv.length]; exact hz) fun out ys h1 h2 h3 => ?_
  obtain ⟨ep, he'⟩ := PyProof.Rows.sortedAll_at s.heap its out
  have hlen : (ys.map V.str).length ≤ sizeLine := by
    rw [List.length_map, h2.length_eq]
    rw [List.length_map] at hz
    exact hz
  exact ⟨.ref _, upd H (s.heap.objs.size + 1) (.lst (ys.map V.str)), I.laid (t' := s.toks) (fun _ _ => PyProof.Rows.sortedAll_old) (Nat.le_succ _) ⟨hlen, out.toList, ep, vals_of_strs h1, he'⟩, rfl, q ys _ h2 h3 (I.hok.fresh (Nat.le_succ _))⟩
end Lay
set_option Elab.async false
set_option linter.all false
set_option maxRecDepth 100000
set_option maxHeartbeats 4000000
set_option pp.maxSteps 900
namespace Lay
open PySem PySem.Spec PyProof.Rows L2
/-! data compared by <, and looked for in a tuple -/
def rLtD (K : PySem.W.Frag) : R2 := fun x y H Q => ∃ d e, Dp K H x d ∧ Dp K H y e ∧ PySem.W.alike d e = true ∧ d ≠ .none ∧ d.depth ≤ 64 ∧ Q (.bl (PySem.W.dataLt d e)) H
def rNotInT (K : PySem.W.Frag) : R2 := fun x y H Q => ∃ d ds, Dp K H x d ∧ Dp K H y (.tuple ds) ∧ SeqAt.shaped d = true ∧ SeqAt.shaped (.tuple ds) = true ∧ Q (.bl (!ds.any fun z => PyData.eqv z d)) H
section
variable {X : Cx}
theorem op_ltD (hu : X.A.units + 65 < cLine) : OpR X (compareOp .Lt) (rLtD X.K) := by
  intro pins s σ H x y v u Q I rx ry h
  obtain ⟨d, e, hd, he, al, nn, dd, q⟩ := h
  obtain ⟨as, r1⟩ := Dp.reads I d x v hd rx
  obtain ⟨bs, r2⟩ := Dp.reads I e y u he ry
  exact PySem.W.rcLt_alike d e X.A s v u as bs r1 r2 al nn (by omega) X.prog X.w _ _ ⟨.bl _, H, I, rfl, q⟩
theorem op_notInT (hu : X.A.units + 65 < cLine) : OpR X (compareOp .NotIn) (rNotInT X.K) := by
  intro pins s σ H x y v u Q I rx ry h
  obtain ⟨d, ds, hd, he, sd, se, q⟩ := h
  obtain ⟨as, r1⟩ := Dp.reads I d x v hd rx
  obtain ⟨bs, r2⟩ := Dp.reads I (.tuple ds) y u he ry
  exact SeqAt.notIn_tuple_reads r2 r1 (SeqAt.canLay_of_shaped se) (SeqAt.canLay_of_shaped sd) (room_in_shaped sd hu) ⟨.bl _, H, I, rfl, q⟩
end
end Lay
set_option Elab.async false
set_option linter.all false
set_option maxRecDepth 100000
set_option maxHeartbeats 8000000
set_option pp.maxSteps 900
namespace Lay
open PySem PySem.Spec PyProof.Rows L2
/-! the forms, as data -/
structure Fm where
  sz : Nat
  b : Bool
  m : Bool
  a : Bool
  h : Bool
  n : Nat
  l : Bool
  deriving DecidableEq
/-- sizes in the order of texts -/
def sizeS : Nat → Str
  | 0 => "even"
  | 1 => "just"
  | 2 => "over"
  | 3 => "tight"
  | _ => "wide"
def Fm.data (f : Fm) : PyData := .tuple [.str (sizeS f.sz), .bool f.b, .bool f.m, .bool f.a, .bool f.h, .int f.n, .bool f.l]
def bools : List Bool := [false, true]
def Fm.ok (f : Fm) : Bool := decide (f.sz < 5) && (decide (f.n < 3) && ((f.a || f.h) || !(f.sz == 1 || f.sz == 3)))
def formsL : List Fm := ([0, 1, 2, 3, 4].flatMap fun s => bools.flatMap fun b => bools.flatMap fun m => bools.flatMap fun a => bools.flatMap fun h => [0, 1, 2].flatMap fun n => bools.map fun l => (⟨s, b, m, a, h, n, l⟩ : Fm)).filter Fm.ok
/-- what the law makes of one number -/
def codeForms (c : Nat) : List Fm :=
  ([2, 0, 4] ++ (if (c / 4 % 2 == 1 || c / 8 % 2 == 1) = true then [3, 1] else [])).map fun s => ⟨s, c % 2 == 1, c / 2 % 2 == 1, c / 4 % 2 == 1, c / 8 % 2 == 1, c / 32, c / 16 % 2 == 1⟩
def lawForms : List Fm := (List.range 96).flatMap codeForms
theorem forms_len : formsL.length = 432 := by decide +kernel
theorem forms_perm : lawForms.Perm formsL := by decide +kernel
theorem forms_lt : (List.range 431).all (fun i => match formsL[i]?, formsL[i + 1]? with
    | some f, some g => PySem.W.alike f.data g.data && PySem.W.dataLt f.data g.data
    | _, _ => false) = true := by decide +kernel
theorem mem_forms {f : Fm} (h : f.ok = true) : f ∈ formsL := by
  unfold formsL
  rw [List.mem_filter]
  refine ⟨?_, h⟩
  unfold Fm.ok at h
  simp only [Bool.and_eq_true, decide_eq_true_eq] at h
  obtain ⟨h1, h2, _⟩ := h
  have mb : ∀ x : Bool, x ∈ bools := fun x => by cases x <;> decide
  refine List.mem_flatMap.mpr ⟨f.sz, ?_, List.mem_flatMap.mpr ⟨f.b, mb _, List.mem_flatMap.mpr ⟨f.m, mb _, List.mem_flatMap.mpr ⟨f.a, mb _, List.mem_flatMap.mpr ⟨f.h, mb _, List.mem_flatMap.mpr ⟨f.n, ?_, List.mem_map.mpr ⟨f.l, mb _, rfl⟩⟩⟩⟩⟩⟩⟩
  · have : f.sz = 0 ∨ f.sz = 1 ∨ f.sz = 2 ∨ f.sz = 3 ∨ f.sz = 4 := by omega
    rcases this with e | e | e | e | e <;> rw [e] <;> decide
  · have : f.n = 0 ∨ f.n = 1 ∨ f.n = 2 := by omega
    rcases this with e | e | e <;> rw [e] <;> decide
end Lay
set_option Elab.async false
set_option linter.all false
set_option maxRecDepth 100000
set_option maxHeartbeats 4000000
set_option pp.maxSteps 900
namespace Lay
open PySem PySem.Spec PyProof.Rows L2
/-! what stands written in the frame, read as data; str of data -/
def rdV (K : PySem.W.Frag) : Nat → Value → PyData → Bool
  | _, .bool b, .bool c => b == c
  | _, .int i _, .int j => decide (i = j)
  | _, .str z _, .str y => decide (z = y)
  | n + 1, .ref a, .tuple ds => match K.lookup a with
    | some o => o.cls == .type "tuple" && (match o.data with
      | .seq its _ => decide (its.size = ds.length) && (decide (its.size ≤ 100000) && (its.toList.zip ds).all fun p => rdV K n p.1 p.2)
      | _ => false)
    | none => false
  | _, _, _ => false
theorem rd_all {K : PySem.W.Frag} {n : Nat} (ih : ∀ v d, rdV K n v d = true → ∃ x, RelV x v ∧ ∀ H, Dp K H x d) : ∀ (its : List Value) (ds : List PyData), its.length = ds.length → ((its.zip ds).all fun p => rdV K n p.1 p.2) = true → ∃ xs, Vals xs its ∧ ∀ H, DpAll K H xs ds
  | [], [], _, _ => ⟨[], .nil, fun H => .nil⟩
  | v :: its, d :: ds, hl, h => by
    rw [List.zip_cons_cons, List.all_cons, Bool.and_eq_true] at h
    obtain ⟨x, hx, dx⟩ := ih v d h.1
    obtain ⟨xs, hv, dv⟩ := rd_all ih its ds (by simpa using hl) h.2
    exact ⟨x :: xs, .cons hx hv, fun H => .cons (dx H) (dv H)⟩
  | [], d :: ds, hl, _ => by simp at hl
  | v :: its, [], hl, _ => by simp at hl
/-- a written tuple and its items -/
theorem rd_tup {K : PySem.W.Frag} {n : Nat} (ih : ∀ v d, rdV K n v d = true → ∃ x, RelV x v ∧ ∀ H, Dp K H x d) {a : Addr} {ds : List PyData} (h : rdV K (n + 1) (.ref a) (.tuple ds) = true) : ∃ xs, (∀ H, SqT K H a xs) ∧ ∀ H, DpAll K H xs ds := by
  unfold rdV at h
  cases e : K.lookup a with
  | none =>
    rw [e] at h
    cases h
  | some o =>
    rw [e] at h
    obtain ⟨cls, dd, data, sl⟩ := o
    simp only [Bool.and_eq_true] at h
    obtain ⟨h1, h2⟩ := h
    have h1 := beq_iff_eq.mp h1
    subst h1
    cases data <;> first | cases h2 | skip
    rename_i its k
    simp only [Bool.and_eq_true, decide_eq_true_eq] at h2
    obtain ⟨l1, l2, h3⟩ := h2
    obtain ⟨xs, hv, dv⟩ := rd_all ih its.toList ds (by simpa using l1) h3
    exact ⟨xs, fun H => .inr ⟨_, its, k, e, rfl, rfl, by rw [sizeLine_eq]; omega, hv⟩, dv⟩
theorem rd_ok {K : PySem.W.Frag} : ∀ (n : Nat) (v : Value) (d : PyData), rdV K n v d = true → ∃ x, RelV x v ∧ ∀ H, Dp K H x d
  | 0, v, d, h => by
    unfold rdV at h
    split at h <;> first | cases h | skip
    · have e := beq_iff_eq.mp h
      subst e
      exact ⟨.bl _, rfl, fun H => .bl _⟩
    · have e := of_decide_eq_true h
      subst e
      exact ⟨.int _, ⟨_, rfl⟩, fun H => .int _⟩
    · have e := of_decide_eq_true h
      subst e
      exact ⟨.str _, ⟨_, rfl⟩, fun H => .str _⟩
    · rename_i z; exact absurd z (by simp)
  | n + 1, v, d, h => by
    have ih := rd_ok (K := K) n
    have h0 := h
    unfold rdV at h
    split at h <;> first | cases h | skip
    · have e := beq_iff_eq.mp h
      subst e
      exact ⟨.bl _, rfl, fun H => .bl _⟩
    · have e := of_decide_eq_true h
      subst e
      exact ⟨.int _, ⟨_, rfl⟩, fun H => .int _⟩
    · have e := of_decide_eq_true h
      subst e
      exact ⟨.str _, ⟨_, rfl⟩, fun H => .str _⟩
    · obtain ⟨xs, hs, hd⟩ := rd_tup ih h0
      exact ⟨.ref _, rfl, fun H => .tup (hs H) (hd H)⟩
section
variable {X : Cx} {K : PySem.W.Frag}
theorem call_strDK (hK : X.K = K) (silent : X.A.guards = some []) (hu : X.A.units + 64 < cLine) : CallR X (.type "str") (rReprD K) := by
  subst hK
  intro pins s σ H xs us Q I r h
  obtain ⟨a, d, rfl, hd, h1, h2, h3, h4, q⟩ := h
  obtain ⟨u, rfl, ru⟩ := vals1 r
  cases ru
  obtain ⟨as, rd⟩ := Dp.reads I d (.ref a) (.ref a) hd rfl
  exact str_of_reads rd h1 (PyData.noDict_hsm h2) silent (by omega) (fun _ _ z => z) (fun h' u tk hk => ⟨.str _, H, I.kept hk, ⟨_, rfl⟩, q⟩) h4
end
end Lay
set_option Elab.async false
set_option linter.all false
set_option maxRecDepth 100000
set_option maxHeartbeats 4000000
set_option pp.maxSteps 900
namespace Lay
open PySem PySem.Spec PyProof.Rows L2
/-! sorted texts: there's one order -/
def leS (a b : Str) : Prop := a.cps.toList ≤ b.cps.toList
theorem leS_of {a b : Str} (h : ltCps b.cps.toList a.cps.toList = false) : leS a b := by
  rw [ltCps_eq] at h
  exact List.not_lt.mp (of_decide_eq_false h)
theorem leS_trans {a b c : Str} (h : leS a b) (g : leS b c) : leS a c := List.le_trans h g
theorem leS_anti {a b : Str} (h : leS a b) (g : leS b a) : a = b := Str.ext' (Array.toList_inj.mp (List.le_antisymm h g))
theorem rising_le : ∀ (l : List Str) (p : Str), risingS p l = true → (∀ x ∈ l, leS p x) ∧ l.Pairwise leS
  | [], _, _ => ⟨fun x h => (List.not_mem_nil h).elim, .nil⟩
  | y :: r, p, h => by
    have h : (!ltCps y.cps.toList p.cps.toList && risingS y r) = true := h
    rw [Bool.and_eq_true] at h
    have h1 : leS p y := leS_of (by simpa using h.1)
    obtain ⟨i1, i2⟩ := rising_le r y h.2
    refine ⟨fun x hx => ?_, .cons i1 i2⟩
    rcases List.mem_cons.mp hx with rfl | hx
    · exact h1
    · exact leS_trans h1 (i1 x hx)
theorem sorted_le {l : List Str} (h : sortedS l = true) : l.Pairwise leS := by
  cases l with
  | nil => exact .nil
  | cons x r =>
    obtain ⟨h1, h2⟩ := rising_le r x h
    exact .cons h1 h2
theorem sorted_eq {xs zs ys us : List Str} (h1 : ys.Perm xs) (s1 : sortedS ys = true) (h2 : us.Perm zs) (s2 : sortedS us = true) (p : xs.Perm zs) : ys = us :=
  List.Perm.eq_of_pairwise (le := leS) (fun a b _ _ h g => leS_anti h g) (sorted_le s1) (sorted_le s2) ((h1.trans p).trans h2.symm)
end Lay
set_option Elab.async false
set_option linter.all false
set_option maxRecDepth 100000
set_option maxHeartbeats 4000000
set_option pp.maxSteps 1500
namespace Lay
open PySem PySem.Spec PyProof.Rows L2 KwX
/-! forms of pieces, as the package tells them -/
def remS (d : PD) : Str := if d.behind.length = 0 then d.ahead else d.behind
def gapN (d : PD) : Int := if (remS d).length = 0 then 0 else 4 + ((remS d).length : Int)
def szOf (d : PD) (w : Int) : Nat := if w - bareN d < 0 then 2 else if w - bareN d = 0 then 0 else if w - bareN d = gapN d then 1 else if w - bareN d < gapN d then 3 else 4
def hasS (z : Str) : Bool := !decide (z.length = 0)
def fmOf (d : PD) (w : Int) : Fm := ⟨szOf d w, d.broken, d.marked, hasS d.ahead, hasS d.behind, d.blanks.toNat, d.left⟩
def shapeL (d : PD) : List V := [.bl d.broken, .bl d.marked, .bl (hasS d.ahead), .bl (hasS d.behind), .int d.blanks, .bl d.left]
abbrev sGap : Stmt := top 16
abbrev sShape : Stmt := top 17
abbrev sSize : Stmt := top 20
abbrev sForm : Stmt := top 21
def spGap (K : PySem.W.Frag) (C : Addr) : Sp := fun vs H Q _ => ∃ (p : Addr) (d : PD), vs = [.ref p] ∧ PieceAt K C H p d ∧ d.Ok ∧ Q (.int (gapN d)) H
def spShape (K : PySem.W.Frag) (C : Addr) : Sp := fun vs H Q _ => ∃ (p : Addr) (d : PD), vs = [.ref p] ∧ PieceAt K C H p d ∧ d.Ok ∧ ∀ t, H t = none → Q (.ref t) (upd H t (.tup (shapeL d)))
def spSize (K : PySem.W.Frag) (C : Addr) : Sp := fun vs H Q _ => ∃ (p : Addr) (d : PD) (w : Int), vs = [.ref p, .int w] ∧ PieceAt K C H p d ∧ d.Ok ∧ d.parts.length ≤ 30 ∧ Q (.str (sizeS (szOf d w))) H
def spForm (K : PySem.W.Frag) (C : Addr) : Sp := fun vs H Q _ => ∃ (p : Addr) (d : PD) (w : Int), vs = [.ref p, .int w] ∧ PieceAt K C H p d ∧ d.Ok ∧ d.parts.length ≤ 30 ∧ ∀ t H', Same H H' → Dp K H' (.ref t) (fmOf d w).data → Q (.ref t) H'
theorem szOf_lt (d : PD) (w : Int) : szOf d w < 5 := by
  unfold szOf
  repeat' split
  all_goals omega
theorem ne_emp {z : Str} : (!decide (V.str z = V.str "")) = hasS z := by
  unfold hasS
  rw [str_ne]
theorem data_of {K : PySem.W.Frag} {H : Hp} {d : PD} {t : Addr} {w : Int} (o : d.Ok) (h : H t = some (.tup (.str (sizeS (szOf d w)) :: shapeL d))) : Dp K H (.ref t) (fmOf d w).data := by
  have e : ((d.blanks.toNat : Nat) : Int) = d.blanks := Int.toNat_of_nonneg o.b0
  refine .tup (SqT.of h) ?_
  show DpAll K H _ [.str (sizeS (szOf d w)), .bool d.broken, .bool d.marked, .bool (hasS d.ahead), .bool (hasS d.behind), .int ((d.blanks.toNat : Nat) : Int), .bool d.left]
  rw [e]
  exact .cons (.str _) (.cons (.bl _) (.cons (.bl _) (.cons (.bl _) (.cons (.bl _) (.cons (.int _) (.cons (.bl _) .nil))))))
section
variable {P : Program} {w : World} {K : PySem.W.Frag} {mg : Str → Option Value} {base : Heap}
theorem scGap : FnScope ["piece", "remark"] ["piece"] (defScope sGap) := ⟨rfl, rfl, rfl, by decide +kernel, rfl, by decide +kernel, by decide +kernel⟩
theorem ok_gap {f C : Addr} {fd : FuncData} {u4 : Nat} (F : Fun K "gap_of" "gap_of" sGap f fd) (B : Bt mg) (Z : PieceC K C) (gS : mg "SIGN_LENGTH" = some (.int 4 u4)) : FnOk P w K mg base CX0 1 f fd ["piece"] (spGap K C) := by
  refine F.ok scGap (fun vs H Q E h => ?_) (fun cdv A outer s H vs Q E hr h => ?_)
  · obtain ⟨p, d, rfl, _⟩ := h
    rfl
  · obtain ⟨p, d, rfl, hP, o, k⟩ := h
    refine ⟨_, (C8.pss_cut (ps_set (i := 1) scGap.nd rfl (.inl rfl) (pe_orT (pe_fld (pv 0) rfl) (pe_one (pe_fld (pv 0) rfl))))
      (pss_one (ps_ret (pe_ifExp (pt_truth (pv 1) (fun _ => rfl)) (pe_op op_add (pe_glob (v := .int 4) (by rfl) gS ⟨_, rfl⟩) (pe_callB call_len_str (by rfl) B.len PySem.boot_len (pa_cons (pv 1) pa_nil))) pe_int)))), ?_⟩
    obtain ⟨dx, t, hp, ht⟩ := id hP
    have lb := remarkB_len o.behind
    have la := remarkB_len o.ahead
    refine ⟨fun σ G => σ = [some (.ref p), some (.str (remS d))] ∧ G = H, ?_, ?_⟩
    · refine ⟨_, rfl, p, C, dx, _, _, rfl, hp, Z.cl, Z.behind, rfl, _, ⟨Lay.fitsN (by omega), rfl⟩, ?_⟩
      by_cases e : d.behind.length = 0
      · rw [if_neg (by simp [e])]
        refine ⟨_, rfl, p, C, dx, _, _, rfl, hp, Z.cl, Z.ahead, rfl, ?_, rfl⟩
        unfold remS
        rw [if_pos e]
        rfl
      · rw [if_pos (by simp; omega)]
        refine ⟨?_, rfl⟩
        unfold remS
        rw [if_neg e]
        rfl
    rintro σ G ⟨rfl, rfl⟩
    have lr : (remS d).length ≤ 6 := by
      unfold remS
      split
      · exact la
      · exact lb
    refine ⟨_, rfl, _, ⟨Lay.fitsN (by omega), rfl⟩, ?_⟩
    unfold gapN at k
    by_cases e : (remS d).length = 0
    · rw [if_pos e] at k
      exact iteN (by simp [e]) k
    · rw [if_neg e] at k
      refine iteY (by simp; omega) ⟨_, rfl, _, rfl, Lay.fitsN (by omega), _, _, rfl, rfl, k⟩
theorem scShape : FnScope ["piece"] ["piece"] (defScope sShape) := ⟨rfl, rfl, rfl, by decide +kernel, rfl, by decide +kernel, by decide +kernel⟩
theorem ok_shape {f C : Addr} {fd : FuncData} (F : Fun K "shape_of" "shape_of" sShape f fd) (Z : PieceC K C) : FnOk P w K mg base CX0 1 f fd ["piece"] (spShape K C) := by
  refine F.ok scShape (fun vs H Q E h => ?_) (fun cdv A outer s H vs Q E hr h => ?_)
  · obtain ⟨p, d, rfl, _⟩ := h
    rfl
  · obtain ⟨p, d, rfl, hP, o, k⟩ := h
    refine ⟨_, pss_one (ps_ret (pe_tup (pa_cons (pe_fld (pv 0) rfl) (pa_cons (pe_fld (pv 0) rfl) (pa_cons (pe_cmpR op_ne (pe_fld (pv 0) rfl) pe_str (nomark _)) (pa_cons (pe_cmpR op_ne (pe_fld (pv 0) rfl) pe_str (nomark _)) (pa_cons (pe_fld (pv 0) rfl) (pa_cons (pe_fld (pv 0) rfl) pa_nil)))))))), ?_⟩
    obtain ⟨dx, t, hp, ht⟩ := id hP
    refine ⟨_, rfl, p, C, dx, _, _, rfl, hp, Z.cl, Z.broken, rfl, _, rfl, p, C, dx, _, _, rfl, hp, Z.cl, Z.marked, rfl, _, rfl, p, C, dx, _, _, rfl, hp, Z.cl, Z.ahead, rfl, rfl, _, rfl, p, C, dx, _, _, rfl, hp, Z.cl, Z.behind, rfl, rfl, _, rfl, p, C, dx, _, _, rfl, hp, Z.cl, Z.blanks, rfl, _, rfl, p, C, dx, _, _, rfl, hp, Z.cl, Z.left, rfl, (by show 6 ≤ sizeLine; decide), fun t2 nt => ?_⟩
    rw [ne_emp, ne_emp]
    exact k t2 nt
end
end Lay
set_option Elab.async false
set_option linter.all false
set_option maxRecDepth 100000
set_option maxHeartbeats 4000000
set_option pp.maxSteps 1500
namespace Lay
open PySem PySem.Spec PyProof.Rows L2 KwX StX
/-- the bare length as a property of the class -/
def BareP (P : Program) (w : World) (K : PySem.W.Frag) (mg : Str → Option Value) (base : Heap) (C : Addr) : Prop := ∃ p g fd, PropOf K C "bare" p g ∧ FnOk P w K mg base CX0 2 g fd ["self"] (spBare K C) ∧ Binds K fd ["self"] []
theorem pe_bareP {X : Cx} {C : Addr} {e : Expr} {ta : TE} {pos : Pos} (c : Cls X.K C) (T : BareP X.prog X.w X.K X.mg X.base C) (hr : Room 3 X.A) (he : PE X e ta) (hab : attributeBase e "bare" X.env (eval e X.env) = eval e X.env) : PE X (.Attribute e "bare" pos) (tProp C (spBare X.K C) [] E0 ta) := by
  obtain ⟨p, g, fd, hp, ok, b⟩ := T
  exact pe_prop (E := E0) he c hp ok hr b .nil pass0 hab
section
variable {P : Program} {w : World} {K : PySem.W.Frag} {mg : Str → Option Value} {base : Heap}
theorem scSize : FnScope ["piece", "width", "spare", "gap"] ["piece", "width"] (defScope sSize) := ⟨rfl, rfl, rfl, by decide +kernel, rfl, by decide +kernel, by decide +kernel⟩
theorem ok_size {f C : Addr} {fd : FuncData} (F : Fun K "size_of" "size_of" sSize f fd) (Z : PieceC K C) (T : BareP P w K mg base C) (G : Has P w K mg base CX0 1 "gap_of" ["piece"] (spGap K C)) : FnOk P w K mg base CX0 4 f fd ["piece", "width"] (spSize K C) := by
  refine F.ok scSize (fun vs H Q E h => ?_) (fun cdv A outer s H vs Q E hr h => ?_)
  · obtain ⟨p, d, w0, rfl, _⟩ := h
    rfl
  · obtain ⟨p, d, w0, rfl, hP, o, few, k⟩ := h
    have hr1 := hr.mono (show 1 ≤ 3 by decide)
    refine ⟨_, (C8.pss_cut (ps_set (i := 2) scSize.nd rfl (.inl rfl) (pe_op op_sub (pv 1) (pe_bareP Z.cl T hr (pv 0) rfl)))
      (C8.pss_cut (ps_set (i := 3) scSize.nd rfl (.inl rfl) (pe_callH G hr1 (by rfl) pass0 (pa_cons (pv 0) pa_nil)))
      (pss_cons (ps_if (pt_cmpR op_lt (pv 2) pe_int (nomark _)) (pss_one (ps_ret pe_str)) pss_nil)
      (pss_cons (ps_if (pt_cmpR op_eq (pv 2) pe_int (nomark _)) (pss_one (ps_ret pe_str)) pss_nil)
      (pss_cons (ps_if (pt_cmpR op_eq (pv 2) (pv 3) (nomark _)) (pss_one (ps_ret pe_str)) pss_nil)
      (pss_one (ps_ret (pe_ifExp (pt_cmpR op_lt (pv 2) (pv 3) (nomark _)) pe_str pe_str)))))))), ?_⟩
    obtain ⟨dx, t, hp, ht⟩ := id hP
    refine ⟨fun σ G => σ = [some (.ref p), some (.int w0), some (.int (w0 - bareN d)), none] ∧ G = H, ?_, ?_⟩
    · exact ⟨_, rfl, _, rfl, p, dx, _, rfl, hp, p, d, rfl, hP, o, few, _, _, rfl, rfl, rfl, rfl⟩
    rintro σ G ⟨rfl, rfl⟩
    refine ⟨fun σ G' => σ = [some (.ref p), some (.int w0), some (.int (w0 - bareN d)), some (.int (gapN d))] ∧ G' = G, ?_, ?_⟩
    · exact ⟨_, rfl, p, d, rfl, hP, o, rfl, rfl⟩
    rintro σ G' ⟨rfl, rfl⟩
    unfold szOf at k
    refine ⟨_, rfl, _, _, rfl, rfl, _, rfl, ?_⟩
    by_cases e1 : w0 - bareN d < 0
    · rw [if_pos e1] at k
      exact iteY (decide_eq_true e1) k
    rw [if_neg e1] at k
    refine iteN (decide_eq_false e1) ⟨_, rfl, rfl, _, rfl, ?_⟩
    by_cases e2 : w0 - bareN d = 0
    · rw [if_pos e2] at k
      exact iteY (by rw [e2]; simp) k
    rw [if_neg e2] at k
    refine iteN (by simp [e2]) ⟨_, rfl, _, rfl, rfl, _, rfl, ?_⟩
    by_cases e3 : w0 - bareN d = gapN d
    · rw [if_pos e3] at k
      exact iteY (by rw [e3]; simp) k
    rw [if_neg e3] at k
    refine iteN (by simp [e3]) ⟨_, rfl, _, rfl, _, _, rfl, rfl, _, rfl, ?_⟩
    by_cases e4 : w0 - bareN d < gapN d
    · rw [if_pos e4] at k
      exact iteY (decide_eq_true e4) k
    · rw [if_neg e4] at k
      exact iteN (decide_eq_false e4) k
theorem scForm : FnScope ["piece", "width"] ["piece", "width"] (defScope sForm) := ⟨rfl, rfl, rfl, by decide +kernel, rfl, by decide +kernel, by decide +kernel⟩
theorem ok_form {f C : Addr} {fd : FuncData} (F : Fun K "form_of" "form_of" sForm f fd) (S : Has P w K mg base CX0 4 "size_of" ["piece", "width"] (spSize K C)) (G : Has P w K mg base CX0 1 "shape_of" ["piece"] (spShape K C)) : FnOk P w K mg base CX0 5 f fd ["piece", "width"] (spForm K C) := by
  refine F.ok scForm (fun vs H Q E h => ?_) (fun cdv A outer s H vs Q E hr h => ?_)
  · obtain ⟨p, d, w0, rfl, _⟩ := h
    rfl
  · obtain ⟨p, d, w0, rfl, hP, o, few, k⟩ := h
    have hr1 := hr.mono (show 1 ≤ 4 by decide)
    refine ⟨_, pss_one (ps_ret (pe_tup (pa_cons (pe_callH S hr (by rfl) pass0 (pa_cons (pv 0) (pa_cons (pv 1) pa_nil))) (pa_star (pe_callH G hr1 (by rfl) pass0 (pa_cons (pv 0) pa_nil)) pa_nil)))), ?_⟩
    refine ⟨_, rfl, _, rfl, p, d, w0, rfl, hP, o, few, _, rfl, p, d, rfl, hP, o, fun t nt => ⟨t, _, rfl, .inl (SqT.of upd_same), (by show 7 ≤ sizeLine; decide), fun t2 nt2 => ?_⟩⟩
    exact k t2 _ ((Same.new nt).trans (Same.new nt2)) (data_of o upd_same)
end
end Lay
set_option Elab.async false
set_option linter.all false
set_option maxRecDepth 100000
set_option maxHeartbeats 4000000
set_option pp.maxSteps 1500
namespace Lay
open PySem PySem.Spec PyProof.Rows L2 KwX StX
theorem flat_len {d : PD} : ((flatS d false "").length : Int) = bareN d := by
  have h1 : (endS false).length = 0 := by decide
  have h2 : (moreS "").length = 0 := by decide
  have h3 : (Str.ofString "(").length = 1 := by decide
  have h4 : (Str.ofString ")").length = 1 := by decide
  have h5 : (frontS d.left).length = (signS d).length := by unfold frontS signS; rfl
  have h6 : (Str.empty).length = 0 := by decide
  unfold bareN flatS headS
  simp only [Str.length_append, h1, h2, h3, h4, h5, h6]
  omega
theorem flat_few {d : PD} (o : d.Ok) (few : d.parts.length ≤ 30) : (flatS d false "").length ≤ sizeLine := by
  have h := flat_len (d := d)
  have h1 := headS_len o
  have lj : (Txt.join ", " d.parts).length ≤ 300 := by
    have h1 := join_le ", " d.parts
    have h2 := sum_few (zs := d.parts) (n := 6) fun z hz => nameB_len (o.parts z hz)
    rw [show (Str.ofString ", ").length = 2 by decide] at h1
    omega
  unfold bareN at h
  rw [sizeLine_eq]
  omega
/-! the law's form -/
abbrev sLFm : Stmt := top 31
def LFmN : List Str := ["_law_piece_here", "_law_width", "_law_above", "_law_remark", "_law_size", "_law_gap", "_law_flags"]
abbrev LFmP : List Str := ["_law_piece_here", "_law_width"]
def spLForm (K : PySem.W.Frag) : Sp := fun vs H Q _ => ∃ (q lp : Addr) (d : PD) (w : Int), vs = [.ref q, .int w] ∧ DictAt H q lp d ∧ d.Ok ∧ d.parts.length ≤ 30 ∧ ∀ t H', Same H H' → Dp K H' (.ref t) (fmOf d w).data → Q (.ref t) H'
theorem remS_of {d : PD} : (if d.behind.length = 0 then V.str d.ahead else .str d.behind) = .str (remS d) := by
  unfold remS
  split <;> rfl
section
variable {P : Program} {w : World} {K : PySem.W.Frag} {mg : Str → Option Value} {base : Heap}
theorem scLFm : FnScope LFmN LFmP (defScope sLFm) := ⟨rfl, rfl, rfl, by decide +kernel, rfl, by decide +kernel, by decide +kernel⟩
theorem ok_lform {f : Addr} {fd : FuncData} (F : Fun K "_law_form" "_law_form" sLFm f fd) (B : Bt mg) (DF : Has P w K mg base CX0 1 "_law_flat" ["_law_piece_here", "_law_is_marked", "_law_remark"] spLFlat) : FnOk P w K mg base CX0 2 f fd LFmP (spLForm K) := by
  refine F.ok scLFm (fun vs H Q E h => ?_) (fun cdv A outer s H vs Q E hr h => ?_)
  · obtain ⟨q, lp, d, w0, rfl, _⟩ := h
    rfl
  · obtain ⟨q, lp, d, w0, rfl, hD, o, few, k⟩ := h
    have hu := hu_of hr
    refine ⟨_, (C8.pss_cut (ps_set (i := 2) scLFm.nd rfl (.inl rfl) (pe_op op_sub (pv 1) (pe_callB call_len_str (by rfl) B.len PySem.boot_len (pa_cons (pe_callH DF hr (by rfl) pass0 (pa_cons (pv 0) (pa_cons pe_bl (pa_cons pe_str pa_nil)))) pa_nil))))
    (C8.pss_cut (ps_set (i := 3) scLFm.nd rfl (.inl rfl) (pe_ifExp (pt_cmpR op_ne (pe_dget hu (pv 0) pe_str (fun _ _ => rfl)) pe_str (nomark _)) (pe_dget hu (pv 0) pe_str (fun _ _ => rfl)) (pe_dget hu (pv 0) pe_str (fun _ _ => rfl))))
    (C8.pss_cut (ps_par (i := 4) (j := 5) (by rfl) scLFm.nd rfl rfl (by decide) rfl rfl (pa_cons pe_str (pa_cons (pe_callB call_len_str (by rfl) B.len PySem.boot_len (pa_cons (pe_op op_add_str pe_str (pv 3)) pa_nil)) pa_nil)) (by rfl))
    (C8.pss_cut (ps_if (pt_cmpR op_le (pv 2) pe_int (nomark _))
      (pss_one (ps_set (i := 4) scLFm.nd rfl (.inl rfl) (pe_ifExp (pt_cmpR op_lt (pv 2) pe_int (nomark _)) pe_str pe_str)))
      (pss_one (ps_if (PW.pt (pw_and (pt_cmpR op_ne (pv 3) pe_str (nomark _)) (pw_and1 (pt_cmpR op_le (pv 2) (pv 5) (nomark _)))))
        (pss_one (ps_set (i := 4) scLFm.nd rfl (.inl rfl) (pe_ifExp (pt_cmpR op_eq (pv 2) (pv 5) (nomark _)) pe_str pe_str)))
        pss_nil)))
    (pss_cons (ps_set (i := 6) scLFm.nd rfl (.inl rfl) (pe_tup (pa_cons (pe_dget hu (pv 0) pe_str (fun _ _ => rfl)) (pa_cons (pe_dget hu (pv 0) pe_str (fun _ _ => rfl)) (pa_cons (pe_cmpR op_ne (pe_dget hu (pv 0) pe_str (fun _ _ => rfl)) pe_str (nomark _)) (pa_cons (pe_cmpR op_ne (pe_dget hu (pv 0) pe_str (fun _ _ => rfl)) pe_str (nomark _)) pa_nil))))))
    (pss_one (ps_ret (pe_op op_catT (pe_op op_catT (pe_tup (pa_cons (pv 4) pa_nil)) (pv 6)) (pe_tup (pa_cons (pe_dget hu (pv 0) pe_str (fun _ _ => rfl)) (pa_cons (pe_dget hu (pv 0) pe_str (fun _ _ => rfl)) pa_nil))))))))))), ?_⟩
    have fl := flat_few o few
    have lb := remarkB_len o.behind
    have la := remarkB_len o.ahead
    have lr : (remS d).length ≤ 6 := by
      unfold remS
      split
      · exact la
      · exact lb
    have j5 : (Str.ofString "  # ").length = 4 := by decide
    refine ⟨fun σ G => σ = [some (.ref q), some (.int w0), some (.int (w0 - bareN d)), none, none, none, none] ∧ G = H, ?_, ?_⟩
    · refine ⟨_, rfl, _, rfl, q, lp, d, false, "", rfl, hD, o, few, by decide +kernel, _, rfl, fl, ?_⟩
      rw [flat_len]
      exact ⟨_, _, rfl, rfl, rfl, rfl⟩
    rintro σ G ⟨rfl, rfl⟩
    refine ⟨fun σ G' => σ = [some (.ref q), some (.int w0), some (.int (w0 - bareN d)), some (.str (remS d)), none, none, none] ∧ G' = G, ?_, ?_⟩
    · refine ⟨_, rfl, q, _, rfl, dg_h hD, rfl, _, rfl, ?_⟩
      rw [str_ne]
      unfold remS
      by_cases e : d.behind.length = 0
      · rw [if_pos e]
        exact iteN (by simp [e]) ⟨_, rfl, q, _, rfl, dg_a hD, rfl, rfl⟩
      · rw [if_neg e]
        exact iteY (by simp [e]) ⟨_, rfl, q, _, rfl, dg_h hD, rfl, rfl⟩
    rintro σ G' ⟨rfl, rfl⟩
    refine ⟨fun σ G => σ = [some (.ref q), some (.int w0), some (.int (w0 - bareN d)), some (.str (remS d)), some (.str "wide"), some (.int (4 + ((remS d).length : Int))), none] ∧ G = G', ?_, ?_⟩
    · refine ⟨_, rfl, _, _, rfl, rfl, by rw [j5]; exact Lay.fitsN (by omega), _, rfl, by rw [Str.length_append, j5]; exact Lay.fitsN (by omega), _, _, rfl, ?_, rfl⟩
      rw [Str.length_append, j5]
      rfl
    rintro σ G ⟨rfl, rfl⟩
    refine ⟨fun σ G' => σ = [some (.ref q), some (.int w0), some (.int (w0 - bareN d)), some (.str (remS d)), some (.str (sizeS (szOf d w0))), some (.int (4 + ((remS d).length : Int))), none] ∧ G' = G, ?_, ?_⟩
    · refine ⟨_, rfl, _, _, rfl, rfl, _, rfl, ?_⟩
      unfold szOf
      by_cases e0 : w0 - bareN d ≤ 0
      · refine iteY (decide_eq_true e0) ⟨_, rfl, _, _, rfl, rfl, _, rfl, ?_⟩
        by_cases e1 : w0 - bareN d < 0
        · rw [if_pos e1]
          exact iteY (decide_eq_true e1) ⟨rfl, rfl⟩
        · rw [if_neg e1, if_pos (by omega)]
          exact iteN (decide_eq_false e1) ⟨rfl, rfl⟩
      · refine iteN (decide_eq_false e0) ⟨_, rfl, rfl, _, rfl, ?_⟩
        rw [str_ne, if_neg (by omega), if_neg (by omega)]
        unfold gapN
        by_cases e2 : (remS d).length = 0
        · rw [if_pos e2, if_neg (by omega), if_neg (by omega)]
          exact iteN (by simp [e2]) (iteN rfl ⟨rfl, rfl⟩)
        · rw [if_neg e2]
          refine iteY (by simp [e2]) ⟨_, rfl, _, rfl, _, _, rfl, rfl, _, rfl, ?_⟩
          by_cases e3 : w0 - bareN d ≤ 4 + ((remS d).length : Int)
          · refine iteY (decide_eq_true e3) ⟨_, rfl, _, rfl, rfl, _, rfl, ?_⟩
            by_cases e4 : w0 - bareN d = 4 + ((remS d).length : Int)
            · rw [if_pos e4]
              exact iteY (by rw [e4]; simp) ⟨rfl, rfl⟩
            · rw [if_neg e4, if_pos (by omega)]
              exact iteN (by simp [e4]) ⟨rfl, rfl⟩
          · rw [if_neg (by omega), if_neg (by omega)]
            exact iteN (decide_eq_false e3) ⟨rfl, rfl⟩
    rintro σ G' ⟨rfl, rfl⟩
    refine ⟨_, rfl, q, _, rfl, dg_b hD, _, rfl, q, _, rfl, dg_m hD, _, rfl, q, _, rfl, dg_a hD, rfl, _, rfl, q, _, rfl, dg_h hD, rfl, (by show 4 ≤ sizeLine; decide), fun tf ntf => ?_⟩
    rw [ne_emp, ne_emp]
    have s1 := Same.new ntf (o := .tup [.bl d.broken, .bl d.marked, .bl (hasS d.ahead), .bl (hasS d.behind)])
    have h1 : upd G' tf (.tup [.bl d.broken, .bl d.marked, .bl (hasS d.ahead), .bl (hasS d.behind)]) tf = some (.tup [.bl d.broken, .bl d.marked, .bl (hasS d.ahead), .bl (hasS d.behind)]) := upd_same
    generalize upd G' tf (.tup [.bl d.broken, .bl d.marked, .bl (hasS d.ahead), .bl (hasS d.behind)]) = G1 at s1 h1 ⊢
    refine ⟨_, rfl, (by show 1 ≤ sizeLine; decide), fun t1 nt1 => ?_⟩
    have s2 := Same.new nt1 (o := .tup [.str (sizeS (szOf d w0))])
    refine ⟨_, rfl, t1, tf, _, _, rfl, rfl, SqT.of upd_same, SqT.of (s2 _ _ h1), (fun z => nomatch z), (by show 5 ≤ sizeLine; decide), (fun z => nomatch z), fun _ p1 np1 => ?_⟩
    have s3 := Same.new np1 (o := .tup ([.str (sizeS (szOf d w0))] ++ [.bl d.broken, .bl d.marked, .bl (hasS d.ahead), .bl (hasS d.behind)]))
    have s23 := s2.trans s3
    have hD2 := hD.same (s1.trans s23)
    refine ⟨_, rfl, q, _, rfl, dg_n hD2, _, rfl, q, _, rfl, dg_l hD2, (by show 2 ≤ sizeLine; decide), fun t2 nt2 => ?_⟩
    have s4 := Same.new nt2 (o := .tup [.int d.blanks, .bl d.left])
    refine ⟨p1, t2, _, _, rfl, rfl, SqT.of (s4 _ _ upd_same), SqT.of upd_same, (fun z => nomatch z), (by show 7 ≤ sizeLine; decide), (fun z => nomatch z), fun _ p2 np2 => ?_⟩
    exact k p2 _ ((s1.trans (s23.trans s4)).trans (Same.new np2)) (data_of o upd_same)
end
end Lay
set_option Elab.async false
set_option linter.all false
set_option maxRecDepth 100000
set_option maxHeartbeats 4000000
set_option pp.maxSteps 1500
namespace Lay
open PySem PySem.Spec PyProof.Rows L2 KwX StX
/-! the law's forms -/
theorem op_catTK {X : Cx} {K : PySem.W.Frag} (hK : X.K = K) : OpR X (binaryOp .Add) (rCatT K) := by
  subst hK
  exact op_catT
def FmV (f : Fm) : List V := [.str (sizeS f.sz), .bl f.b, .bl f.m, .bl f.a, .bl f.h, .int f.n, .bl f.l]
def AtF (G : Hp) (p : Addr) (f : Fm) : Prop := G p = some (.tup (FmV f))
theorem AtF.dp {K : PySem.W.Frag} {G : Hp} {p : Addr} {f : Fm} (h : AtF G p f) : Dp K G (.ref p) f.data :=
  .tup (SqT.of h) (.cons (.str _) (.cons (.bl _) (.cons (.bl _) (.cons (.bl _) (.cons (.bl _) (.cons (.int _) (.cons (.bl _) .nil)))))))
theorem AtF.same {G G' : Hp} {p : Addr} {f : Fm} (s : Same G G') (h : AtF G p f) : AtF G' p f := s _ _ h
theorem AtF.put {G : Hp} {F p : Addr} {f : Fm} {xs : List V} {o : HO} (hF : G F = some (.lst xs)) (h : AtF G p f) : AtF (upd G F o) p f := by
  have ne : p ≠ F := ne_of h hF (fun z => nomatch z)
  show upd G F o p = _
  rw [upd_ne ne]
  exact h
abbrev sLFs : Stmt := top 30
def LFsN : List Str := ["_law_found", "_law_code", "_law_flags", "_law_left", "_law_at", "_law_rest", "_law_sizes", "_law_size"]
abbrev LFsP : List Str := []
def spLForms (K : PySem.W.Frag) : Sp := fun vs H Q _ => vs = [] ∧ ∀ F ps H', H F = none → Same H H' → H' F = some (.lst (ps.map V.ref)) → Paired (AtF H') ps lawForms → Q (.ref F) H'
def bitN (c j : Nat) : Bool := c / 2 ^ j % 2 == 1
theorem bit_of (n : Nat) : decide (V.int ((n : Int) % 2) = V.int 1) = (n % 2 == 1) := by
  rw [dec_int, Bool.eq_iff_iff, beq_iff_eq, beq_iff_eq]
  omega
theorem half_of (n : Nat) : (n : Int) / 2 = ((n / 2 : Nat) : Int) := by omega
theorem pow_half (c j : Nat) : c / 2 ^ j / 2 = c / 2 ^ (j + 1) := by rw [Nat.div_div_eq_div_mul, Nat.pow_succ]
/-- sizes of a number -/
def szL (c : Nat) : List Nat := [2, 0, 4] ++ (if (bitN c 2 || bitN c 3) = true then [3, 1] else [])
def restV (c : Nat) : List V := [.bl (bitN c 0), .bl (bitN c 1), .bl (bitN c 2), .bl (bitN c 3), .int ((c / 2 ^ 5 : Nat) : Int), .bl (bitN c 4)]
def fmC (c s : Nat) : Fm := ⟨s, bitN c 0, bitN c 1, bitN c 2, bitN c 3, c / 2 ^ 5, bitN c 4⟩
theorem code_eq (c : Nat) : codeForms c = (szL c).map (fmC c) := by
  have e : c / 2 ^ 0 = c := by rw [Nat.pow_zero, Nat.div_one]
  have e0 : bitN c 0 = (c % 2 == 1) := by unfold bitN; rw [e]
  unfold codeForms szL fmC
  rw [e0]
  rfl
theorem fmC_V (c s : Nat) : FmV (fmC c s) = [V.str (sizeS s)] ++ restV c := rfl
theorem pair_app {α β : Type} {F : α → β → Prop} : ∀ {a : List α} {b : List β} {c : List α} {d : List β}, Paired F a b → Paired F c d → Paired F (a ++ c) (b ++ d)
  | _, _, _, _, .nil, h => h
  | _, _, _, _, .cons x y, h => .cons x (pair_app y h)
theorem few_codes : ∀ i : Nat, ((List.range i).flatMap codeForms).length ≤ 5 * i
  | 0 => by simp
  | i + 1 => by
    have h := few_codes i
    have l5 : (codeForms i).length ≤ 5 := by
      rw [code_eq, List.length_map]
      unfold szL
      split <;> decide
    rw [List.range_succ, List.flatMap_append, List.flatMap_singleton, List.length_append]
    omega
section
variable {P : Program} {w : World} {K : PySem.W.Frag} {mg : Str → Option Value} {base : Heap}
theorem scLFs : FnScope LFsN LFsP (defScope sLFs) := ⟨rfl, rfl, rfl, by decide +kernel, rfl, by decide +kernel, by decide +kernel⟩
theorem ok_lforms {f : Addr} {fd : FuncData} (F : Fun K "_law_forms" "_law_forms" sLFs f fd) (B : Bt mg) : FnOk P w K mg base CX0 1 f fd LFsP (spLForms K) := by
  refine F.ok scLFs (fun vs H Q E h => ?_) (fun cdv A outer s H vs Q E hr h => ?_)
  · obtain ⟨rfl, _⟩ := h
    rfl
  · obtain ⟨rfl, k⟩ := h
    refine ⟨_, (pss_cons (ps_set (i := 0) scLFs.nd rfl (.inl rfl) (pe_lst pa_nil))
    (pss_cons (ps_for PassesOwn.never rfl (pi_range1 (by rfl) B.range (pa_cons pe_int pa_nil)) (pg_name (i := 1) scLFs.nd rfl (.inl rfl))
      (pss_cons (ps_par (i := 2) (j := 3) (by rfl) scLFs.nd rfl rfl (by decide) rfl rfl (pa_cons (pe_lst pa_nil) (pa_cons (pe_callTy call_int1 (by rfl) B.int (by decide +kernel) (pa_cons (pv 1) pa_nil)) pa_nil)) (by rfl))
      (pss_cons (ps_for PassesOwn.never rfl (pi_range1 (by rfl) B.range (pa_cons pe_int pa_nil)) (pg_name (i := 4) scLFs.nd rfl (.inl rfl))
        (pss_cons (ps_expr (pe_bm PySem.F.plainAttrs_list PySem.F.slot_list_append PySem.F.type_list_append mt_append (pv 2) (pa_cons (pe_cmpR op_eq (pe_op op_mod (pv 3) pe_int) pe_int (nomark _)) pa_nil)))
        (pss_one (ps_set (i := 3) scLFs.nd rfl (.inl rfl) (pe_op op_fdiv (pv 3) pe_int)))))
      (pss_cons (ps_set (i := 5) scLFs.nd rfl (.inr rfl) (pe_tup (pa_cons (pe_ix ix_list (pv 2) pe_int (fun _ _ => rfl)) (pa_cons (pe_ix ix_list (pv 2) pe_int (fun _ _ => rfl)) (pa_cons (pe_ix ix_list (pv 2) pe_int (fun _ _ => rfl)) (pa_cons (pe_ix ix_list (pv 2) pe_int (fun _ _ => rfl)) (pa_cons (pv 3) (pa_cons (pe_ix ix_list (pv 2) pe_int (fun _ _ => rfl)) pa_nil))))))))
      (pss_cons (ps_set (i := 6) scLFs.nd rfl (.inl rfl) (pe_lst (pa_cons pe_str (pa_cons pe_str (pa_cons pe_str pa_nil)))))
      (C8.pss_cut (ps_if (PW.pt (pw_or (pt_val (pe_ix ix_list (pv 2) pe_int (fun _ _ => rfl))) (pw_or1 (pt_val (pe_ix ix_list (pv 2) pe_int (fun _ _ => rfl))))))
        (pss_one (ps_set (i := 6) scLFs.nd rfl (.inl rfl) (pe_op op_cat (pv 6) (pe_lst (pa_cons pe_str (pa_cons pe_str pa_nil))))))
        pss_nil)
      (pss_one (ps_expr (pe_bm PySem.F.plainAttrs_list PySem.F.slot_list_extend PySem.F.type_list_extend mt_extend (pv 0) (pa_cons (pe_lc (own := [("_law_size", 7)]) (g := gName 7) (tt := tYes) (by rfl) scLFs.nd (pi_list (pv 6)) (blkOk_by (N := LFsN) (sc := defScope sLFs) (by decide +kernel)) (fun _ _ _ _ _ => pg_name (i := 7) scLFs.nd rfl (Or.inl rfl)) (fun _ _ _ _ _ => pts_nil) (fun _ _ _ _ _ => (pe_op (op_catTK (K := K) rfl) (pe_tup (pa_cons (pv 7) pa_nil)) (pv 5)))) pa_nil))))))))))
    (pss_one (ps_ret (pv 0))))), ?_⟩
    have hF0 : True := trivial
    refine ⟨(by show 0 ≤ sizeLine; exact Nat.zero_le _), fun F0 nF => ?_⟩
    have s0 := Same.new nF (o := .lst [])
    have h0 : upd H F0 (.lst []) F0 = some (.lst []) := upd_same
    generalize upd H F0 (.lst []) = H0 at s0 h0 ⊢
    refine ⟨_, rfl, by decide, by decide, for_range (lo := 0) (n := Int.toNat _) (fun i σ G => ∃ (x1 x2 x3 x4 x5 x6 x7 : Option V) (ps : List Addr), σ = [some (.ref F0), x1, x2, x3, x4, x5, x6, x7] ∧ Same H G ∧ G F0 = some (.lst (ps.map V.ref)) ∧ Paired (AtF G) ps ((List.range i).flatMap codeForms)) ⟨none, none, none, none, none, none, none, [], rfl, s0, h0, .nil⟩ ?_ ?_⟩
    · rintro i σ G hi ⟨x1, x2, x3, x4, x5, x6, x7, ps, rfl, sG, hG, hP⟩
      have hi : i < 96 := hi
      refine ⟨(by show 0 ≤ sizeLine; exact Nat.zero_le _), fun L nL => ⟨_, rfl, .inl ⟨_, rfl, ?_⟩⟩⟩
      have s1 := Same.new nL (o := .lst [])
      have hL : upd G L (.lst []) L = some (.lst []) := upd_same
      generalize upd G L (.lst []) = G1 at s1 hL ⊢
      refine ⟨_, _, rfl, ?_⟩
      refine ⟨_, rfl, by decide, by decide, for_range (lo := 0) (n := Int.toNat _) (fun j σ G' => ∃ (x4 : Option V), σ = [some (.ref F0), some (.int (0 + (i : Int))), some (.ref L), some (.int ((i / 2 ^ j : Nat) : Int)), x4, x5, x6, x7] ∧ Same G G' ∧ G' L = some (.lst ((List.range j).map fun t => V.bl (bitN i t)))) ⟨x4, ?_, s1, hL⟩ ?_ ?_⟩
      · rw [Nat.pow_zero, Nat.div_one]
        show _ = [some (V.ref F0), some (.int (0 + (i : Int))), some (.ref L), some (.int (i : Int)), x4, x5, x6, x7]
        rw [Int.zero_add]
        rfl
      · rintro j σ G' hj ⟨x4, rfl, s2, hL2⟩
        have hj : j < 5 := hj
        refine ⟨_, rfl, .inl ⟨rfl, _, SqL.of hL2⟩, _, rfl, _, _, rfl, rfl, (by show (0 : Int) < 2; decide), rfl, ?_⟩
        rw [bit_of]
        refine ⟨L, _, _, rfl, rfl, hL2, ?_, ?_⟩
        · rw [List.length_map, List.length_range]
          exact small1000 (by omega)
        refine ⟨_, rfl, _, _, rfl, rfl, ⟨(by decide), (by decide)⟩, ?_⟩
        refine ⟨some (.int (0 + (j : Int))), ?_, same_put s2 nL, ?_⟩
        · rw [← pow_half, ← half_of]
          rfl
        rw [upd_same, List.range_succ, List.map_append]
        rfl
      · rintro σ G2 ⟨x4, rfl, s2, hL2⟩
        have hL3 : G2 L = some (.lst [.bl (bitN i 0), .bl (bitN i 1), .bl (bitN i 2), .bl (bitN i 3), .bl (bitN i 4)]) := hL2
        clear hL2
        refine ⟨_, rfl, L, _, 0, _, rfl, rfl, SqL.of hL3, rfl, _, rfl, L, _, 1, _, rfl, rfl, SqL.of hL3, rfl, _, rfl, L, _, 2, _, rfl, rfl, SqL.of hL3, rfl, _, rfl, L, _, 3, _, rfl, rfl, SqL.of hL3, rfl, _, rfl, _, rfl, L, _, 4, _, rfl, rfl, SqL.of hL3, rfl, (by show 6 ≤ sizeLine; decide), fun R nR => ?_⟩
        have s3 := Same.new nR (o := .tup (restV i))
        have hR : upd G2 R (.tup (restV i)) R = some (.tup (restV i)) := upd_same
        change tSeq _ _ _ _ (upd G2 R (.tup (restV i)))
        generalize upd G2 R (.tup (restV i)) = G3 at s3 hR ⊢
        have hL4 := s3 _ _ hL3
        have s23 := s2.trans s3
        refine ⟨(by show 3 ≤ sizeLine; decide), fun Z nZ => ?_⟩
        have s4 := Same.new nZ (o := .lst [.str "over", .str "even", .str "wide"])
        have hZ : upd G3 Z (.lst [.str "over", .str "even", .str "wide"]) Z = some (.lst [.str "over", .str "even", .str "wide"]) := upd_same
        have hL5 := s4 _ _ hL4
        have hR5 := s4 _ _ hR
        have s24 := s23.trans s4
        generalize upd G3 Z (.lst [.str "over", .str "even", .str "wide"]) = G4 at hZ hL5 hR5 s24 ⊢
        clear s4 s23 s3 s2 hL4 hL3 hR
        refine ⟨fun σ G' => ∃ Z, σ = [some (.ref F0), some (.int (0 + (i : Int))), some (.ref L), some (.int ((i / 2 ^ 5 : Nat) : Int)), x4, some (.ref R), some (.ref Z), x7] ∧ Same G G' ∧ G' R = some (.tup (restV i)) ∧ G' Z = some (.lst ((szL i).map fun s => V.str (sizeS s))), ?_, ?_⟩
        · refine ⟨_, rfl, L, _, 2, _, rfl, rfl, SqL.of hL5, rfl, bitN i 2, rfl, ?_⟩
          have yes : (bitN i 2 || bitN i 3) = true → szL i = [2, 0, 4, 3, 1] := fun e => by
            unfold szL
            rw [if_pos e]
            rfl
          have grow : (bitN i 2 || bitN i 3) = true → ∀ u, G4 u = none → ∀ z, upd G4 u (.lst [.str "tight", .str "just"]) z = none → Same G (upd (upd G4 u (.lst [.str "tight", .str "just"])) z (.lst ([.str "over", .str "even", .str "wide"] ++ [.str "tight", .str "just"]))) ∧
              upd (upd G4 u (.lst [.str "tight", .str "just"])) z (.lst ([.str "over", .str "even", .str "wide"] ++ [.str "tight", .str "just"])) R = some (.tup (restV i)) ∧ upd (upd G4 u (.lst [.str "tight", .str "just"])) z (.lst ([.str "over", .str "even", .str "wide"] ++ [.str "tight", .str "just"])) z = some (.lst ((szL i).map fun s => V.str (sizeS s))) := fun e u nu z nz => by
            have v := (Same.new nu (o := .lst [.str "tight", .str "just"])).trans (Same.new nz (o := .lst ([.str "over", .str "even", .str "wide"] ++ [.str "tight", .str "just"])))
            refine ⟨s24.trans v, v _ _ hR5, ?_⟩
            rw [upd_same, yes e]
            rfl
          cases e2 : bitN i 2 with
          | true =>
            rw [e2] at grow
            refine iteY rfl (iteY rfl ⟨_, rfl, (by show 2 ≤ sizeLine; decide), fun u nu => ⟨Z, u, _, _, rfl, rfl, (Same.new nu) _ _ hZ, upd_same, (by show 5 ≤ sizeLine; decide), fun z nz => ?_⟩⟩)
            exact ⟨z, rfl, grow rfl u nu z nz⟩
          | false =>
            refine iteN rfl ⟨_, rfl, L, _, 3, _, rfl, rfl, SqL.of hL5, rfl, bitN i 3, rfl, ?_⟩
            rw [e2] at grow
            cases e3 : bitN i 3 with
            | true =>
              rw [e3] at grow
              refine iteY rfl ⟨_, rfl, (by show 2 ≤ sizeLine; decide), fun u nu => ⟨Z, u, _, _, rfl, rfl, (Same.new nu) _ _ hZ, upd_same, (by show 5 ≤ sizeLine; decide), fun z nz => ?_⟩⟩
              exact ⟨z, rfl, grow rfl u nu z nz⟩
            | false =>
              refine iteN rfl ⟨Z, rfl, s24, hR5, ?_⟩
              rw [hZ]
              unfold szL
              rw [e2, e3]
              rfl
        rintro σ G5 ⟨Z, rfl, s5, hR5, hZ⟩
        have hF5 := s5 _ _ hG
        have hP5 := Paired.mapP hP fun a b z => AtF.same s5 z
        refine ⟨_, rfl, .inl ⟨rfl, _, SqL.of hF5⟩, _, rfl, Z, rfl, ⟨_, SqL.of hZ⟩, fun D nD => lc_list (K := K) (a := Z) (xs := (szL i).map fun s => V.str (sizeS s)) (fun j G' => Same G5 G' ∧ ∃ qs : List Addr, G' D = some (.lst (qs.map V.ref)) ∧ qs.length ≤ 5 ∧ Paired (AtF G') qs ((codeForms i).take j)) ⟨Same.new nD, [], upd_same, Nat.zero_le _, .nil⟩ (fun j G' _ q => SqL.of (q.1 _ _ hZ)) ?_ ?_⟩
        · rintro j x G' hj ⟨sG', qs, hD, lq, hq⟩
          rw [List.getElem?_map] at hj
          obtain ⟨s1, es, rfl⟩ := Option.map_eq_some_iff.mp hj
          have ej : (codeForms i)[j]? = some (fmC i s1) := by rw [code_eq, List.getElem?_map, es]; rfl
          refine ⟨rfl, _, rfl, (by show 1 ≤ sizeLine; decide), fun t1 nt1 => ?_⟩
          have v1 := Same.new nt1 (o := .tup [.str (sizeS s1)])
          refine ⟨_, rfl, t1, R, _, _, rfl, rfl, SqT.of upd_same, SqT.of (v1 _ _ (sG' _ _ hR5)), (fun z => nomatch z), (by show 7 ≤ sizeLine; decide), (fun z => nomatch z), fun _ p1 np1 => ?_⟩
          have v2 := v1.trans (Same.new np1 (o := .tup ([V.str (sizeS s1)] ++ restV i)))
          have hD2 := v2 _ _ hD
          have h1 : AtF (upd (upd G' t1 (.tup [.str (sizeS s1)])) p1 (.tup ([V.str (sizeS s1)] ++ restV i))) p1 (fmC i s1) := by
            unfold AtF
            rw [fmC_V]
            exact upd_same
          have hq2 := Paired.mapP hq fun a b z => AtF.same v2 z
          have sv := sG'.trans v2
          generalize upd (upd G' t1 (.tup [.str (sizeS s1)])) p1 (.tup ([V.str (sizeS s1)] ++ restV i)) = G7 at hD2 h1 hq2 sv ⊢
          have j5 : j < (codeForms i).length := (List.getElem?_eq_some_iff.mp ej).1
          have l5 : (codeForms i).length ≤ 5 := by
            rw [code_eq, List.length_map]
            unfold szL
            split <;> decide
          have lq2 : qs.length = j := by
            have := Paired.length hq
            rw [List.length_take] at this
            omega
          refine ⟨_, hD2, ?_, same_put sv nD, qs ++ [p1], ?_, ?_, ?_⟩
          · rw [List.length_map]
            exact small1000 (by omega)
          · rw [upd_same, List.map_append]
            rfl
          · rw [List.length_append, List.length_singleton]
            omega
          · rw [List.take_succ, ej]
            exact Paired.snoc (Paired.mapP hq2 fun a b z => AtF.put hD2 z) (AtF.put hD2 h1)
        · rintro G' ⟨sG', qs, hD, lq, hq⟩
          rw [List.length_map, show (szL i).length = (codeForms i).length by rw [code_eq, List.length_map], List.take_length] at hq
          have hF6 := sG' _ _ hF5
          refine ⟨F0, D, _, _, rfl, rfl, hF6, hD, ?_, ?_⟩
          · rw [List.length_map, List.length_map]
            have : ps.length ≤ 5 * i := by
              rw [Paired.length hP]
              exact few_codes i
            exact Lay.fitsN (by omega)
          refine ⟨_, _, _, _, _, _, _, ps ++ qs, rfl, same_put ((sG.trans s5).trans sG') nF, ?_, ?_⟩
          · rw [upd_same, List.map_append]
          · rw [List.range_succ, List.flatMap_append, List.flatMap_singleton]
            exact pair_app (Paired.mapP (Paired.mapP hP5 fun a b z => AtF.same sG' z) fun a b z => AtF.put hF6 z) (Paired.mapP hq fun a b z => AtF.put hF6 z)
    · rintro σ G ⟨x1, x2, x3, x4, x5, x6, x7, ps, rfl, sG, hG, hP⟩
      exact ⟨_, rfl, k F0 ps G nF sG hG hP⟩
end
end Lay
set_option Elab.async false
set_option linter.all false
set_option maxRecDepth 100000
set_option maxHeartbeats 8000000
set_option pp.maxSteps 1500
namespace Lay
open PySem PySem.Spec PyProof.Rows L2 KwX
/-! forms as data: shown, compared, laid -/
def showOk (d : PyData) (m n : Nat) : Prop := d.showable = true ∧ d.hasDict = false ∧ d.depth ≤ m ∧ d.shown.length ≤ n
theorem ascii_small {z : Str} (h1 : Txt.isascii z = true) : ∀ c ∈ z.cps.toList, c < 16 ^ 8 := by
  unfold Txt.isascii at h1
  rw [Array.all_eq_true'] at h1
  intro c hc
  have := of_decide_eq_true (h1 c (by simpa using hc))
  omega
theorem str_showOk {z : Str} (h1 : Txt.isascii z = true) (h2 : z.length ≤ 6) : showOk (.str z) 1 62 := by
  refine ⟨rfl, rfl, ?_, ?_⟩
  · simp only [PyData.depth]
    omega
  · have := StrLaws.reprText_len z (ascii_small h1)
    simp only [PyData.shown]
    omega
theorem bool_showOk (b : Bool) : showOk (.bool b) 1 62 := by
  refine ⟨rfl, rfl, ?_, ?_⟩
  · simp only [PyData.depth]
    omega
  · cases b <;> decide
theorem tiny_showOk {i : Int} (h0 : 0 ≤ i) (h3 : i < 3) : showOk (.int i) 1 62 := by
  refine ⟨?_, rfl, ?_, ?_⟩
  · rcases (show i = 0 ∨ i = 1 ∨ i = 2 by omega) with rfl | rfl | rfl <;> decide
  · simp only [PyData.depth]
    omega
  · rcases (show i = 0 ∨ i = 1 ∨ i = 2 by omega) with rfl | rfl | rfl <;> decide
theorem showOk.up {d : PyData} {m n m' n' : Nat} (h : showOk d m n) (hm : m ≤ m') (hn : n ≤ n') : showOk d m' n' := ⟨h.1, h.2.1, Nat.le_trans h.2.2.1 hm, Nat.le_trans h.2.2.2 hn⟩
theorem tup_showOk {ds : List PyData} {m n l : Nat} (hl : ds.length ≤ l) (h : ∀ d ∈ ds, showOk d m n) : showOk (.tuple ds) (m + 1) ((n + 2) * l + 10) := by
  obtain ⟨a, b, c, e⟩ := pile_ok hl h
  have := tup_len ds
  refine ⟨by simp only [PyData.showable]; exact a, by simp only [PyData.hasDict]; exact b, by simp only [PyData.depth]; omega, by omega⟩
mutual
theorem Dp.same {K : PySem.W.Frag} {H H' : Hp} (s : Same H H') : ∀ {v : V} {d : PyData}, Dp K H v d → Dp K H' v d
  | _, _, .non => .non
  | _, _, .bl b => .bl b
  | _, _, .int i => .int i
  | _, _, .str x => .str x
  | _, _, .lst h t => .lst (s.seq h) (DpAll.same s t)
  | _, _, .tup h t => .tup (SqT.same s h) (DpAll.same s t)
theorem DpAll.same {K : PySem.W.Frag} {H H' : Hp} (s : Same H H') : ∀ {vs : List V} {ds : List PyData}, DpAll K H vs ds → DpAll K H' vs ds
  | _, _, .nil => .nil
  | _, _, .cons h t => .cons (Dp.same s h) (DpAll.same s t)
end

theorem sizeS_ascii (n : Nat) : Txt.isascii (sizeS n) = true := by
  unfold sizeS
  split <;> decide +kernel
theorem sizeS_len (n : Nat) : (sizeS n).length ≤ 6 := by
  unfold sizeS
  split <;> decide
theorem fm_show {f : Fm} (h : f.n < 3) : showOk f.data 60 1000 := by
  refine (tup_showOk (m := 1) (n := 62) (l := 7) (Nat.le_refl _) fun x hx => ?_).up (by decide) (by decide)
  simp only [List.mem_cons, List.not_mem_nil, or_false] at hx
  rcases hx with rfl | rfl | rfl | rfl | rfl | rfl | rfl
  · exact str_showOk (sizeS_ascii _) (sizeS_len _)
  · exact bool_showOk _
  · exact bool_showOk _
  · exact bool_showOk _
  · exact bool_showOk _
  · exact tiny_showOk (by omega) (by omega)
  · exact bool_showOk _
theorem fm_eqv (f : Fm) : PyData.eqv f.data f.data = true := by
  unfold Fm.data
  simp [PyData.eqv, PyData.eqvAll]
theorem fm_can (f : Fm) : PyData.canLay0 f.data = true := by
  unfold Fm.data
  simp [PyData.canLay0, PyData.canLayAll0, ascii_strOk (sizeS_ascii f.sz)]
theorem fm_deep (f : Fm) : PyData.depth f.data ≤ 3 := by
  unfold Fm.data
  simp only [PyData.depth, PyData.depthAll]
  omega
theorem fm_shaped (f : Fm) : PySem.SeqAt.shaped f.data = true := by
  have h2 := fm_deep f
  show (PyData.canLay0 f.data && decide (PyData.depth f.data ≤ 64)) = true
  rw [Bool.and_eq_true]
  exact ⟨fm_can f, decide_eq_true (by omega)⟩
theorem fms_can : ∀ l : List Fm, PyData.canLayAll0 (l.map Fm.data) = true
  | [] => by simp [PyData.canLayAll0]
  | f :: l => by
    have h1 := fm_can f
    have h2 := fms_can l
    simp [PyData.canLayAll0, h1, h2]
theorem fms_shaped (l : List Fm) : PySem.SeqAt.shaped (.tuple (l.map Fm.data)) = true := by
  have h2 : PyData.depthAll (l.map Fm.data) ≤ 3 := deeps _ fun d hd => by
    obtain ⟨f, _, rfl⟩ := List.mem_map.mp hd
    exact fm_deep f
  show (PyData.canLay0 (.tuple (l.map Fm.data)) && decide (PyData.depth (.tuple (l.map Fm.data)) ≤ 64)) = true
  rw [Bool.and_eq_true]
  refine ⟨by simp only [PyData.canLay0]; exact fms_can l, decide_eq_true ?_⟩
  simp only [PyData.depth]
  omega
def bt (b : Bool) : Str := PyData.shown (.bool b)
def showF (f : Fm) : Str := Str.ofString "(" ++ Str.join ", " [PyData.shown (.str (sizeS f.sz)), bt f.b, bt f.m, bt f.a, bt f.h, PyData.shown (.int f.n), bt f.l] ++ ")"
theorem shown_eq (f : Fm) : f.data.shown = showF f := by
  unfold Fm.data showF bt
  rw [PyData.shown_tuple]
  simp only [PyData.shownAll]
  rfl
theorem sok_app {a b : Str} (h : PyData.strOk a = true) (g : PyData.strOk b = true) : PyData.strOk (a ++ b) = true := by
  unfold PyData.strOk at h g ⊢
  rw [show (a ++ b).cps = a.cps ++ b.cps from rfl, Array.all_append, h, g]
  rfl
theorem sok_join {sep : Str} (h : PyData.strOk sep = true) : ∀ {l : List Str}, (∀ z ∈ l, PyData.strOk z = true) → PyData.strOk (Str.join sep l) = true
  | [], _ => (by decide +kernel : PyData.strOk Str.empty = true)
  | [x], g => g x (by simp)
  | x :: y :: r, g => by
    show PyData.strOk (x ++ sep ++ Str.join sep (y :: r)) = true
    exact sok_app (sok_app (g x (by simp)) h) (sok_join h fun z hz => g z (List.mem_cons_of_mem _ hz))
theorem sok_bt (b : Bool) : PyData.strOk (bt b) = true := by
  cases b <;> decide +kernel
theorem sok_size (n : Nat) : PyData.strOk (PyData.shown (.str (sizeS n))) = true := by
  unfold sizeS
  split <;> decide +kernel
theorem sok_num {n : Nat} (h : n < 3) : PyData.strOk (PyData.shown (.int n)) = true := by
  have : n = 0 ∨ n = 1 ∨ n = 2 := by omega
  rcases this with rfl | rfl | rfl <;> decide +kernel
theorem sok_showF {f : Fm} (h : f.n < 3) : PyData.strOk (showF f) = true := by
  unfold showF
  refine sok_app (sok_app (by decide +kernel) (sok_join (by decide +kernel) fun z hz => ?_)) (by decide +kernel)
  simp only [List.mem_cons, List.not_mem_nil, or_false] at hz
  rcases hz with rfl | rfl | rfl | rfl | rfl | rfl | rfl
  · exact sok_size _
  · exact sok_bt _
  · exact sok_bt _
  · exact sok_bt _
  · exact sok_bt _
  · exact sok_num h
  · exact sok_bt _
theorem forms_n : (formsL.all fun f => decide (f.n < 3)) = true := by decide +kernel
theorem fm_n {f : Fm} (h : f ∈ formsL) : f.n < 3 := by
  have := forms_n
  rw [List.all_eq_true] at this
  exact of_decide_eq_true (this f h)
theorem law_mem {f : Fm} : f ∈ lawForms ↔ f ∈ formsL := forms_perm.mem_iff
theorem shown_strOk {f : Fm} (h : f ∈ formsL) : PyData.strOk f.data.shown = true := by
  rw [shown_eq]
  exact sok_showF (fm_n h)
theorem fmOf_mem {d : PD} (o : d.Ok) (w : Int) : fmOf d w ∈ formsL := by
  refine mem_forms ?_
  have h0 := o.b0
  have h3 := o.b3
  have h5 := szOf_lt d w
  unfold fmOf Fm.ok
  simp only [Bool.and_eq_true, decide_eq_true_eq, Bool.or_eq_true]
  refine ⟨h5, by omega, ?_⟩
  by_cases e : (remS d).length = 0
  · right
    have g : gapN d = 0 := by
      unfold gapN
      rw [if_pos e]
    have : szOf d w ≠ 1 ∧ szOf d w ≠ 3 := by
      unfold szOf
      rw [g]
      repeat' split
      all_goals omega
    simp [this.1, this.2]
  · left
    unfold hasS
    unfold remS at e
    split at e
    · left
      simp [e]
    · right
      rename_i z
      simp [z]
theorem fmOf_in {d : PD} (o : d.Ok) (w : Int) : ((formsL.map Fm.data).any fun z => PyData.eqv z (fmOf d w).data) = true := by
  rw [List.any_eq_true]
  exact ⟨_, List.mem_map_of_mem (fmOf_mem o w), fm_eqv _⟩
/-- the written forms -/
structure FrmF (K : PySem.W.Frag) (FO : Addr) : Prop where
  rd : rdV K 2 (.ref FO) (.tuple (formsL.map Fm.data)) = true
theorem FrmF.at {K : PySem.W.Frag} {FO : Addr} (h : FrmF K FO) : ∃ xs, (∀ H, SqT K H FO xs) ∧ ∀ H, DpAll K H xs (formsL.map Fm.data) := rd_tup (rd_ok 1) h.rd
theorem FrmF.ty {K : PySem.W.Frag} {FO : Addr} {H : Hp} (h : FrmF K FO) : TyX K H (.ref FO) (.type "tuple") := by
  have h := h.rd
  unfold rdV at h
  cases e : K.lookup FO with
  | none =>
    rw [e] at h
    cases h
  | some o =>
    rw [e] at h
    simp only [Bool.and_eq_true] at h
    exact .kTuple e (beq_iff_eq.mp h.1)
theorem DpAll.length {K : PySem.W.Frag} {H : Hp} : ∀ {xs : List V} {ds : List PyData}, DpAll K H xs ds → xs.length = ds.length
  | _, _, .nil => rfl
  | _, _, .cons _ t => by rw [List.length_cons, List.length_cons, DpAll.length t]
theorem DpAll.nth {K : PySem.W.Frag} {H : Hp} : ∀ {xs : List V} {ds : List PyData}, DpAll K H xs ds → ∀ {i : Nat} {x : V}, xs[i]? = some x → ∃ d, ds[i]? = some d ∧ Dp K H x d
  | _, _, .nil, i, x, e => by cases i <;> cases e
  | _, _, .cons h t, 0, x, e => by
    cases e
    exact ⟨_, rfl, h⟩
  | _, _, .cons h t, i + 1, x, e => DpAll.nth t (i := i) e
theorem dp_ref {K : PySem.W.Frag} {H : Hp} {v : V} {ds : List PyData} (h : Dp K H v (.tuple ds)) : ∃ a, v = .ref a := by
  cases h
  exact ⟨_, rfl⟩
end Lay
set_option Elab.async false
set_option linter.all false
set_option maxRecDepth 100000
set_option maxHeartbeats 8000000
set_option pp.maxSteps 900
namespace Lay
open PySem PySem.Spec PyProof.Rows L2 KwX StX
theorem strs_ne {G : Hp} {lp b : Addr} {d : PD} (o : d.Ok) (h2 : G lp = some (.lst (d.parts.map V.str))) (bb : BoxAt G b) : lp ≠ b := by
  obtain ⟨u, hb, g, s, n, rfl⟩ := bb
  refine ne_of h2 hb fun z => ?_
  have := HO.lst.inj z
  have o1 := o.some
  cases e : d.parts with
  | nil =>
    rw [e] at o1
    exact absurd o1 (by decide)
  | cons x xs =>
    rw [e, List.map_cons] at this
    exact nomatch (List.cons.inj this).1
theorem DictAt.ne {G : Hp} {q lp b : Addr} {d : PD} (h : DictAt G q lp d) (o : d.Ok) (bb : BoxAt G b) : q ≠ b ∧ lp ≠ b := by
  obtain ⟨kvs, h1, h2, _⟩ := h
  refine ⟨?_, strs_ne o h2 bb⟩
  obtain ⟨u, hb, g, s, n, rfl⟩ := bb
  exact ne_of h1 hb (fun z => nomatch z)
theorem PieceAt.ne {K : PySem.W.Frag} {C : Addr} {G : Hp} {p b : Addr} {d : PD} {xs : List V} (h : PieceAt K C G p d) (hb : G b = some (.lst xs)) : ∀ o, PieceAt K C (upd G b o) p d := fun o => by
  obtain ⟨dx, t, h1, h2⟩ := h
  exact ⟨dx, t, by rw [upd_ne (ne_of h1 hb (fun z => nomatch z))]; exact h1, by rw [upd_ne (ne_of h2 hb (fun z => nomatch z))]; exact h2⟩
theorem DictAt.put {G : Hp} {q lp b : Addr} {d : PD} (h : DictAt G q lp d) (n1 : q ≠ b) (n2 : lp ≠ b) : ∀ o, DictAt (upd G b o) q lp d := fun o => by
  obtain ⟨kvs, h1, h2, h3⟩ := h
  exact ⟨kvs, by rw [upd_ne n1]; exact h1, by rw [upd_ne n2]; exact h2, h3⟩
theorem DictAt.kept {G G' : Hp} {q lp b : Addr} {d : PD} (h : DictAt G q lp d) (k : Kept b G G') (n1 : q ≠ b) (n2 : lp ≠ b) : DictAt G' q lp d := by
  obtain ⟨kvs, h1, h2, h3⟩ := h
  exact ⟨kvs, k _ _ n1 h1, k _ _ n2 h2, h3⟩
theorem BoxAt.same {b : Addr} {G G' : Hp} (s : Same G G') (h : BoxAt G b) : BoxAt G' b := by
  obtain ⟨o, e, y⟩ := h
  exact ⟨o, s _ _ e, y⟩
theorem eqv_strs (ws : List Str) : PyData.eqv (.list (ws.map .str)) (.list (ws.map .str)) = true := by
  rw [PyData.eqv]
  exact eqvAll_refl ws
theorem DictAt.is {G : Hp} {q lp : Addr} {d : PD} (h : DictAt G q lp d) : ∃ kvs, G q = some (.dK kvs) := by
  obtain ⟨kvs, h1, _⟩ := h
  exact ⟨kvs, h1⟩

theorem _root_.L2.Room.units65 {k : Nat} {A : Around} (r : Room k A) : A.units + 65 < cLine := by
  have := r.un
  omega
theorem ne_self (z : Str) : (!decide (V.str z = V.str z)) = false := by simp
theorem pair_nth {α β : Type} {F : α → β → Prop} : ∀ {a : List α} {b : List β}, Paired F a b → ∀ {i : Nat} {x : α}, a[i]? = some x → ∃ y, b[i]? = some y ∧ F x y
  | _, _, .nil, i, x, e => by cases i <;> cases e
  | _, _, .cons h t, 0, x, e => by
    cases e
    exact ⟨_, rfl, h⟩
  | _, _, .cons h t, i + 1, x, e => pair_nth t (i := i) e
theorem take_map {α β : Type} {l : List α} {g : α → β} {j : Nat} {f : α} (h : l[j]? = some f) : (l.take (j + 1)).map g = (l.take j).map g ++ [g f] := by
  rw [List.take_succ, h, List.map_append]
  rfl
theorem forms_at {i : Nat} (h : i < 431) : ∃ f g, formsL[i]? = some f ∧ formsL[i + 1]? = some g ∧ PySem.W.alike f.data g.data = true ∧ PySem.W.dataLt f.data g.data = true := by
  have h0 := forms_lt
  rw [List.all_eq_true] at h0
  have h1 := h0 i (List.mem_range.mpr h)
  split at h1
  · rename_i f g e1 e2
    rw [Bool.and_eq_true] at h1
    exact ⟨f, g, e1, e2, h1.1, h1.2⟩
  · cases h1
theorem data_none (f : Fm) : f.data ≠ .none := fun z => nomatch z
def LawN : List Str := ["_law_script", "_law_due", "_law_at", "_law_k", "_law_box_here", "_law_turn", "_law_piece_here", "_law_made_here", "_law_bare", "_law_remark", "_law_near", "_law_gap", "_law_width", "_law_form_here"]
abbrev LawP : List Str := ["_law_script"]
abbrev sLaw : Stmt := top 32
def spLaw (K : PySem.W.Frag) : Sp := fun vs H Q _ => ∃ (a : Addr) (ns : List Int), vs = [.ref a] ∧ SqL K H a (ns.map V.int) ∧ ns.length ≤ 63 ∧ ∀ H', Q (.bl true) H'
section
variable {P : Program} {w : World} {K : PySem.W.Frag} {mg : Str → Option Value} {base : Heap}
theorem scLaw : FnScope LawN LawP (defScope sLaw) := ⟨rfl, rfl, rfl, by decide +kernel, rfl, by decide +kernel, by decide +kernel⟩
theorem ok_Law {f C FO : Addr} {fd : FuncData} (B : Bt mg) (Z : PieceC K C) (gFO : mg "FORMS" = some (.ref FO)) (FF : FrmF K FO) (DFo : Has P w K mg base CX0 5 "form_of" ["piece", "width"] (spForm K C)) (DLf : Has P w K mg base CX0 2 "_law_form" LFmP (spLForm K)) (DFs : Has P w K mg base CX0 1 "_law_forms" LFsP (spLForms K))
    (DB : Has P w K mg base CX0 1 "_law_box" ["_law_script", "_law_k", "_law_own"] (spBox K)) (DP : Has P w K mg base CX0 4 "_law_piece" ["_law_box_here", "_law_many"] spLPiece) (DM : Has P w K mg base CX0 5 "_law_made" ["_law_piece_here"] (spLMade K C))
    (DF : Has P w K mg base CX0 1 "_law_flat" ["_law_piece_here", "_law_is_marked", "_law_remark"] spLFlat) (F : Fun K "law" "law" sLaw f fd) : FnG P w K mg base 6 f fd LawP (spLaw K) := by
  refine Fun.okG F scLaw (fun vs H Q E h => ?_) (fun cdv A outer s H vs Q silent hr h => ?_)
  · obtain ⟨a, ns, rfl, _⟩ := h
    rfl
  · obtain ⟨a, ns, rfl, hs, hn, k⟩ := h
    have hr1 := hr.mono (show 1 ≤ 5 by decide)
    have hr2 := hr.mono (show 2 ≤ 5 by decide)
    have hr4 := hr.mono (show 4 ≤ 5 by decide)
    obtain ⟨xs, hxs, hds⟩ := FF.at
    have lxs : xs.length = 432 := by rw [DpAll.length (hds H), List.length_map, forms_len]
    refine ⟨_, (pss_cons (ps_if (pt_not (pt_val (pe_callB (call_isiK (K := K) rfl) (by rfl) B.isinstance (by decide +kernel) (pa_cons (pe_glob (v := .ref FO) (by rfl) gFO rfl) (pa_cons (pe_bltn (v := .ty "tuple") (by rfl) B.tuple (by decide +kernel) rfl) pa_nil)))))
      (pss_one (ps_ret pe_bl))
      pss_nil)
    (C8.pss_cut (ps_set (i := 1) scLaw.nd rfl (.inl rfl) (pe_callB cr_sortedSA (by rfl) B.sorted (by decide +kernel) (pa_cons (pe_lc (own := [("_law_form_here", 13)]) (g := gName 13) (tt := tYes) (by rfl) scLaw.nd (pi_list (pe_callH0 DFs hr1 (by rfl) pass0)) (blkOk_by (N := LawN) (sc := defScope sLaw) (by decide +kernel)) (fun _ _ _ _ _ => pg_name (i := 13) scLaw.nd rfl (Or.inl rfl)) (fun _ _ _ _ _ => pts_nil) (fun _ _ _ _ _ => (pe_callTy (call_strDK (K := K) rfl silent hr.units) (by rfl) B.str (by decide +kernel) (pa_cons (pv 13) pa_nil)))) pa_nil)))
    (C8.pss_cut (ps_if (PW.pt (pw_or (pt_cmpR op_ne (pe_callB (call_lenK (K := K) rfl) (by rfl) B.len PySem.boot_len (pa_cons (pe_glob (v := .ref FO) (by rfl) gFO rfl) pa_nil)) pe_int (nomark _)) (pw_or1 (pt_cmpR (op_neD hr.units) (pe_callB cr_sortedSA (by rfl) B.sorted (by decide +kernel) (pa_cons (pe_lc (own := [("_law_form_here", 13)]) (g := gName 13) (tt := tYes) (by rfl) scLaw.nd (pi_tup (pe_glob (v := .ref FO) (by rfl) gFO rfl)) (blkOk_by (N := LawN) (sc := defScope sLaw) (by decide +kernel)) (fun _ _ _ _ _ => pg_name (i := 13) scLaw.nd rfl (Or.inl rfl)) (fun _ _ _ _ _ => pts_nil) (fun _ _ _ _ _ => (pe_callTy (call_strDK (K := K) rfl silent hr.units) (by rfl) B.str (by decide +kernel) (pa_cons (pv 13) pa_nil)))) pa_nil)) (pv 1) (nomark _)))))
      (pss_one (ps_ret pe_bl))
      pss_nil)
    (C8.pss_cut (ps_for PassesOwn.never rfl (pi_range2 (by rfl) B.range (pa_cons pe_int (pa_cons pe_int pa_nil))) (pg_name (i := 2) scLaw.nd rfl (.inl rfl))
      (pss_one (ps_if (pt_not (pt_cmpR (op_ltD hr.units65) (pe_ix ix_tup (pe_glob (v := .ref FO) (by rfl) gFO rfl) (pe_op op_sub (pv 2) pe_int) (fun _ _ => rfl)) (pe_ix ix_tup (pe_glob (v := .ref FO) (by rfl) gFO rfl) (pv 2) (fun _ _ => rfl)) (nomark _)))
        (pss_one (ps_ret pe_bl))
        pss_nil)))
    (pss_cons (ps_for PassesOwn.never rfl (pi_range1 (by rfl) B.range (pa_cons (pe_callB (call_max2 rfl) (by rfl) B.max (by decide +kernel) (pa_cons pe_int (pa_cons (pe_callB (call_min2 rfl) (by rfl) B.min (by decide +kernel) (pa_cons pe_int (pa_cons (pe_callB (call_lenK (K := K) rfl) (by rfl) B.len PySem.boot_len (pa_cons (pv 0) pa_nil)) pa_nil))) pa_nil))) pa_nil)) (pg_name (i := 3) scLaw.nd rfl (.inl rfl))
      (pss_cons (ps_set (i := 4) scLaw.nd rfl (.inl rfl) (pe_callH DB hr1 (by rfl) pass0 (pa_cons (pv 0) (pa_cons (pv 3) (pa_cons pe_int pa_nil)))))
      (pss_one (ps_for PassesOwn.never rfl (pi_range1 (by rfl) B.range (pa_cons pe_int pa_nil)) (pg_name (i := 5) scLaw.nd rfl (.inl rfl))
        (C8.pss_cut (ps_set (i := 6) scLaw.nd rfl (.inl rfl) (pe_callH DP hr4 (by rfl) pass0 (pa_cons (pv 4) (pa_cons pe_int pa_nil))))
        (C8.pss_cut (ps_par (i := 7) (j := 8) (by rfl) scLaw.nd rfl rfl (by decide) rfl rfl (pa_cons (pe_callH DM hr (by rfl) pass0 (pa_cons (pv 6) pa_nil)) (pa_cons (pe_callB call_len_str (by rfl) B.len PySem.boot_len (pa_cons (pe_callH DF hr1 (by rfl) pass0 (pa_cons (pv 6) (pa_cons pe_bl (pa_cons pe_str pa_nil)))) pa_nil)) pa_nil)) (by rfl))
        (C8.pss_cut (ps_set (i := 9) scLaw.nd rfl (.inl rfl) (pe_ifExp (pt_cmpR op_ne (pe_dget (hu_of hr) (pv 6) pe_str (fun _ _ => rfl)) pe_str (nomark _)) (pe_dget (hu_of hr) (pv 6) pe_str (fun _ _ => rfl)) (pe_dget (hu_of hr) (pv 6) pe_str (fun _ _ => rfl))))
        (C8.pss_cut (ps_par (i := 10) (j := 11) (by rfl) scLaw.nd rfl rfl (by decide) rfl rfl (pa_cons (pe_lst (pa_cons pe_int (pa_cons pe_int (pa_cons (pe_op op_sub (pv 8) pe_int) (pa_cons (pv 8) (pa_cons (pe_op op_add (pv 8) pe_int) pa_nil)))))) (pa_cons (pe_op op_add pe_int (pe_callB call_len_str (by rfl) B.len PySem.boot_len (pa_cons (pv 9) pa_nil))) pa_nil)) (by rfl))
        (pss_one (ps_for PassesOwn.never rfl (pi_list (pe_op op_cat (pv 10) (pe_lst (pa_cons (pe_op op_sub (pe_op op_add (pv 8) (pv 11)) pe_int) (pa_cons (pe_op op_add (pv 8) (pv 11)) (pa_cons (pe_op op_add (pe_op op_add (pv 8) (pv 11)) pe_int) pa_nil)))))) (pg_name (i := 12) scLaw.nd rfl (.inl rfl))
          (C8.pss_cut (ps_if (PW.pt (pw_and (pt_cmpR op_gt (pv 12) pe_int (nomark _)) (pw_and1 (pt_cmpR op_ne (pe_callB (call_reprD silent hr.units) (by rfl) B.repr (by decide +kernel) (pa_cons (pe_callH DFo hr (by rfl) pass0 (pa_cons (pv 7) (pa_cons (pv 12) pa_nil))) pa_nil)) (pe_callB (call_reprD silent hr.units) (by rfl) B.repr (by decide +kernel) (pa_cons (pe_callH DLf hr2 (by rfl) pass0 (pa_cons (pv 6) (pa_cons (pv 12) pa_nil))) pa_nil)) (nomark _)))))
            (pss_one (ps_ret pe_bl))
            pss_nil)
          (pss_one (ps_if (PW.pt (pw_and (pt_cmpR op_gt (pv 12) pe_int (nomark _)) (pw_and1 (pt_cmpR (op_notInT hr.units65) (pe_callH DFo hr (by rfl) pass0 (pa_cons (pv 7) (pa_cons (pv 12) pa_nil))) (pe_glob (v := .ref FO) (by rfl) gFO rfl) (by rfl)))))
            (pss_one (ps_ret pe_bl))
            pss_nil)))))))))))))
    (pss_one (ps_ret pe_bl))))))), ?_⟩
    refine ⟨_, _, _, _, true, rfl, .ty _, FF.ty, kit_ty (by decide +kernel), _, rfl, iteN rfl ?_⟩
    refine ⟨fun σ G => ∃ (L : Addr) (ys : List Str), σ = [some (.ref a), some (.ref L), none, none, none, none, none, none, none, none, none, none, none, none] ∧ Same H G ∧ G L = some (.lst (ys.map V.str)) ∧ ys.Perm (lawForms.map fun f => f.data.shown) ∧ sortedS ys = true, ?_, ?_⟩
    · refine ⟨rfl, fun F0 ps H1 nF s1 hF hP => ⟨F0, rfl, ⟨_, SqL.of hF⟩, fun D nD => lc_list (K := K) (a := F0) (xs := ps.map V.ref) (fun j G => Same H1 G ∧ G D = some (.lst ((lawForms.take j).map fun f => V.str f.data.shown))) ⟨Same.new nD, upd_same⟩ (fun j G _ q => SqL.of (q.1 _ _ hF)) ?_ ?_⟩⟩
      · rintro j x G hj ⟨sG, hD⟩
        rw [List.getElem?_map] at hj
        obtain ⟨p, ep, rfl⟩ := Option.map_eq_some_iff.mp hj
        obtain ⟨f, ef, hf⟩ := pair_nth hP ep
        obtain ⟨h1, h2, h3, h4⟩ := fm_show (fm_n (law_mem.mp (List.mem_of_getElem? ef)))
        refine ⟨rfl, _, rfl, p, f.data, rfl, AtF.dp (AtF.same sG hf), h1, h2, h3, by rw [sizeLine_eq]; omega, _, hD, ?_, same_put sG nD, ?_⟩
        · rw [List.length_map, List.length_take]
          have : j < ps.length := (List.getElem?_eq_some_iff.mp ep).1
          have l2 := Paired.length hP
          have l3 : lawForms.length = 432 := by rw [forms_perm.length_eq, forms_len]
          exact small1000 (by omega)
        · rw [upd_same, take_map ef]
      · rintro G ⟨sG, hD⟩
        rw [List.length_map, Paired.length hP, List.take_length] at hD
        refine ⟨D, lawForms.map fun f => f.data.shown, rfl, SqL.of (by rw [hD, List.map_map]; rfl), fun ys p pm so np => ⟨p, ys, rfl, (s1.trans sG).trans (Same.new np), upd_same, pm, so⟩⟩
    rintro σ G0 ⟨L, ys, rfl, s0, hL, pmL, soL⟩
    refine ⟨fun σ G => σ = [some (.ref a), some (.ref L), none, none, none, none, none, none, none, none, none, none, none, none] ∧ Same H G, ?_, ?_⟩
    · refine ⟨FO, xs, rfl, .inr (hxs _), ?_⟩
      refine ⟨rfl, _, rfl, iteN (by rw [lxs]; rfl) ?_⟩
      refine ⟨FO, rfl, ⟨_, hxs _⟩, fun D nD => lc_tup (K := K) (a := FO) (xs := xs) (fun j G => Same G0 G ∧ G D = some (.lst ((formsL.take j).map fun f => V.str f.data.shown))) ⟨Same.new nD, upd_same⟩ (fun j G _ q => hxs _) ?_ ?_⟩
      · rintro j x G hj ⟨sG, hD⟩
        have lj : j < xs.length := (List.getElem?_eq_some_iff.mp hj).1
        obtain ⟨d, ed, hd⟩ := DpAll.nth (hds G) hj
        rw [List.getElem?_map] at ed
        obtain ⟨f, ef, rfl⟩ := Option.map_eq_some_iff.mp ed
        obtain ⟨p, rfl⟩ := dp_ref hd
        obtain ⟨h1, h2, h3, h4⟩ := fm_show (fm_n (List.mem_of_getElem? ef))
        refine ⟨rfl, _, rfl, p, f.data, rfl, hd, h1, h2, h3, by rw [sizeLine_eq]; omega, _, hD, ?_, same_put sG nD, ?_⟩
        · rw [List.length_map, List.length_take]
          exact small1000 (by omega)
        · rw [upd_same, take_map ef]
      · rintro G ⟨sG, hD⟩
        rw [lxs, ← forms_len, List.take_length] at hD
        refine ⟨D, formsL.map fun f => f.data.shown, rfl, SqL.of (by rw [hD, List.map_map]; rfl), fun zs p pm so np => ?_⟩
        have e : zs = ys := sorted_eq pm so pmL soL (forms_perm.symm.map _)
        subst e
        have hL2 := (Same.new np (o := .lst (zs.map V.str))) _ _ (sG _ _ hL)
        have st : ∀ z ∈ zs, PyData.strOk z = true := fun z hz => by
          obtain ⟨f, hf, rfl⟩ := List.mem_map.mp (pm.mem_iff.mp hz)
          exact shown_strOk hf
        exact ⟨_, rfl, .list (zs.map .str), .list (zs.map .str), .lst (SqL.of upd_same) (strs_dp _), .lst (SqL.of hL2) (strs_dp _), shaped_strs _ st, shaped_strs _ st, _, rfl, iteN (by rw [eqv_strs]; rfl) ⟨rfl, (s0.trans sG).trans (Same.new np)⟩⟩
    clear hL pmL soL s0
    rintro σ G1 ⟨rfl, s1⟩
    refine ⟨fun σ G => ∃ x2, σ = [some (.ref a), some (.ref L), x2, none, none, none, none, none, none, none, none, none, none, none] ∧ Same H G, ?_, ?_⟩
    · refine ⟨1, 432, rfl, by decide, for_range (lo := 1) (n := Int.toNat _) (fun i σ G => ∃ x2, σ = [some (.ref a), some (.ref L), x2, none, none, none, none, none, none, none, none, none, none, none] ∧ G = G1) ⟨none, rfl, rfl⟩ ?_ (fun σ G ⟨x2, e, e2⟩ => ⟨x2, e, e2 ▸ s1⟩)⟩
      rintro i σ G hi ⟨x2, rfl, rfl⟩
      have hi : i < 431 := hi
      obtain ⟨f, g, ef, eg, al, lt⟩ := forms_at hi
      obtain ⟨x, ex⟩ : ∃ x, xs[i]? = some x := ⟨_, List.getElem?_eq_getElem (by omega)⟩
      obtain ⟨y, ey⟩ : ∃ y, xs[i + 1]? = some y := ⟨_, List.getElem?_eq_getElem (by omega)⟩
      obtain ⟨d, ed, hd⟩ := DpAll.nth (hds G) ex
      obtain ⟨e, ee, he⟩ := DpAll.nth (hds G) ey
      rw [List.getElem?_map, ef] at ed
      rw [List.getElem?_map, eg] at ee
      cases ed
      cases ee
      have e1 : (1 + (i : Int) - 1) = ((i : Nat) : Int) := by omega
      have e2 : (1 + (i : Int)) = ((i + 1 : Nat) : Int) := by omega
      have dp := fm_deep f
      refine ⟨_, rfl, _, _, rfl, rfl, FO, xs, _, x, rfl, rfl, hxs _, by rw [e1]; exact atI_nat ex, ?_⟩
      refine ⟨_, rfl, FO, xs, _, y, rfl, rfl, hxs _, by rw [e2]; exact atI_nat ey, f.data, g.data, hd, he, al, data_none f, by omega, ?_⟩
      rw [lt]
      exact ⟨_, rfl, iteN rfl ⟨_, rfl, rfl⟩⟩
    clear s1
    rintro σ Gn ⟨x2, rfl, s0⟩
    have hmap : (ns.map V.int).length = ns.length := List.length_map ..
    refine ⟨_, rfl, a, _, rfl, .inl (s0.seq hs), _, _, rfl, _, _, rfl, _, rfl, ?_, ?_, for_range (lo := 0) (n := Int.toNat _) (fun i σ G => ∃ x3 x4 x5 x6 x7 x8 x9 x10 x11 x12 x13 : Option V, σ = [some (.ref a), some (.ref L), x2, x3, x4, x5, x6, x7, x8, x9, x10, x11, x12, x13] ∧ Same Gn G) ⟨none, none, none, none, none, none, none, none, none, none, none, rfl, Same.rfl⟩ ?_ ?_⟩
    · split <;> split <;> omega
    · split <;> split <;> omega
    · rintro i σ G hi ⟨x3, x4, x5, x6, x7, x8, x9, x10, x11, x12, x13, rfl, sG⟩
      have hi3 : i ≤ 2 := by
        revert hi
        split <;> split <;> omega
      refine ⟨_, rfl, _, rfl, a, ns, 0 + (i : Int), 23, rfl, (s0.trans sG).seq hs, by omega, by omega, by decide, by decide, by omega, fun b G1 sb nb bb => ?_⟩
      have nb0 : Gn b = none := sG.free nb
      refine ⟨6, rfl, by decide, by decide, for_range (lo := 0) (n := 6) (fun i' σ G' => ∃ x5 x6 x7 x8 x9 x10 x11 x12 x13 : Option V, σ = [some (.ref a), some (.ref L), x2, some (.int (0 + (i : Int))), some (.ref b), x5, x6, x7, x8, x9, x10, x11, x12, x13] ∧ Same Gn G' ∧ BoxAt G' b) ⟨x5, x6, x7, x8, x9, x10, x11, x12, x13, rfl, sG.trans sb, bb⟩ ?_ ?_⟩
      · rintro j σ G2 hj ⟨x5, x6, x7, x8, x9, x10, x11, x12, x13, rfl, s2, bb2⟩
        refine ⟨fun σ' G' => ∃ (q lp : Addr) (d : PD) (x5 : Option V), σ' = [some (.ref a), some (.ref L), x2, some (.int (0 + (i : Int))), some (.ref b), x5, some (.ref q), x7, x8, x9, x10, x11, x12, x13] ∧ Same Gn G' ∧ BoxAt G' b ∧ DictAt G' q lp d ∧ d.Ok ∧ d.parts.length ≤ 8, ?_, ?_⟩
        · refine ⟨_, rfl, b, 8, rfl, bb2, by decide, by decide, fun q1 lp1 d1 G3 k3 b3 o1 f1 h1 n1 m1 => ?_⟩
          exact ⟨q1, lp1, d1, _, rfl, fun c o e => k3 _ _ (ne_of_none e nb0) (s2 _ _ e), b3, h1, o1, f1⟩
        clear s2 bb2
        rintro σ G3 ⟨q, lp, d, x5, rfl, s3, b3, h3, o, f8⟩
        have few : d.parts.length ≤ 30 := by omega
        have lb := remarkB_len o.behind
        have la := remarkB_len o.ahead
        have lr : (remS d).length ≤ 6 := by
          unfold remS
          split
          · exact la
          · exact lb
        refine ⟨fun σ' G' => ∃ y, σ' = [some (.ref a), some (.ref L), x2, some (.int (0 + (i : Int))), some (.ref b), x5, some (.ref q), some (.ref y), some (.int (bareN d)), x9, x10, x11, x12, x13] ∧ Same G3 G' ∧ PieceAt K C G' y d, ?_, ?_⟩
        · refine ⟨_, rfl, q, lp, d, rfl, h3, o, few, fun y G7 s7 ny hy => ?_⟩
          refine ⟨_, rfl, q, lp, d, false, "", rfl, h3.same s7, o, few, by decide +kernel, _, rfl, flat_few o few, ?_⟩
          rw [flat_len]
          exact ⟨_, _, rfl, y, rfl, s7, hy⟩
        rintro σ G4 ⟨y, rfl, s4, hy⟩
        have h4 := h3.same s4
        refine ⟨fun σ' G' => σ' = [some (.ref a), some (.ref L), x2, some (.int (0 + (i : Int))), some (.ref b), x5, some (.ref q), some (.ref y), some (.int (bareN d)), some (.str (remS d)), x10, x11, x12, x13] ∧ G' = G4, ?_, ?_⟩
        · refine ⟨_, rfl, q, _, rfl, dg_h h4, rfl, _, rfl, ?_⟩
          rw [str_ne]
          unfold remS
          by_cases e : d.behind.length = 0
          · rw [if_pos e]
            exact iteN (by simp [e]) ⟨_, rfl, q, _, rfl, dg_a h4, rfl, rfl⟩
          · rw [if_neg e]
            exact iteY (by simp [e]) ⟨_, rfl, q, _, rfl, dg_h h4, rfl, rfl⟩
        rintro σ G5 ⟨rfl, rfl⟩
        refine ⟨fun σ' G' => ∃ nr, σ' = [some (.ref a), some (.ref L), x2, some (.int (0 + (i : Int))), some (.ref b), x5, some (.ref q), some (.ref y), some (.int (bareN d)), some (.str (remS d)), some (.ref nr), some (.int (4 + ((remS d).length : Int))), x12, x13] ∧ Same G5 G' ∧ G' nr = some (.lst (([4, 90, bareN d - 1, bareN d, bareN d + 1] : List Int).map V.int)), ?_, ?_⟩
        · refine ⟨_, rfl, _, _, rfl, rfl, _, rfl, _, rfl, _, _, rfl, rfl, (by show 5 ≤ sizeLine; decide), fun nr nn => ⟨_, rfl, _, rfl, Lay.fitsN (by omega), _, _, rfl, rfl, ?_⟩⟩
          exact ⟨_, _, rfl, nr, rfl, Same.new nn, upd_same⟩
        rintro σ G6 ⟨nr, rfl, s6, hnr⟩
        refine ⟨_, rfl, _, rfl, _, rfl, _, _, rfl, rfl, _, _, rfl, rfl, _, rfl, _, rfl, _, _, rfl, rfl, _, rfl, _, rfl, _, _, rfl, rfl, _, _, rfl, rfl, (by show 3 ≤ sizeLine; decide), fun u nu => ?_⟩
        have v1 := Same.new nu (o := .lst (([bareN d + (4 + ((remS d).length : Int)) - 1, bareN d + (4 + ((remS d).length : Int)), bareN d + (4 + ((remS d).length : Int)) + 1] : List Int).map V.int))
        refine ⟨nr, u, _, _, rfl, rfl, v1 _ _ hnr, upd_same, (by show 8 ≤ sizeLine; decide), fun W nW => ?_⟩
        obtain ⟨ws, ew⟩ : ∃ ws : List Int, ws = ([4, 90, bareN d - 1, bareN d, bareN d + 1, bareN d + (4 + ((remS d).length : Int)) - 1, bareN d + (4 + ((remS d).length : Int)), bareN d + (4 + ((remS d).length : Int)) + 1] : List Int) := ⟨_, rfl⟩
        refine ⟨W, rfl, ⟨_, SqL.of upd_same⟩, for_list (K := K) (xs := ws.map V.int) (fun n σ G => ∃ x12 : Option V, σ = [some (.ref a), some (.ref L), x2, some (.int (0 + (i : Int))), some (.ref b), x5, some (.ref q), some (.ref y), some (.int (bareN d)), some (.str (remS d)), some (.ref nr), some (.int (4 + ((remS d).length : Int))), x12, x13] ∧ Same G6 G ∧ G W = some (.lst (ws.map V.int))) ⟨_, rfl, v1.trans (Same.new nW), by rw [ew]; exact upd_same⟩ (fun n σ G _ z => by
          obtain ⟨_, _, _, z⟩ := z
          exact SqL.of z) ?_ ?_⟩
        · rintro n x σ G hi ⟨x12, rfl, sG, hW⟩
          rw [List.getElem?_map] at hi
          obtain ⟨w0, _, rfl⟩ := Option.map_eq_some_iff.mp hi
          obtain ⟨r1, r2, r3, r4⟩ := fm_show (fm_n (fmOf_mem o w0))
          have r4 : (fmOf d w0).data.shown.length ≤ sizeLine := by
            rw [sizeLine_eq]
            omega
          refine ⟨fun σ' G' => σ' = [some (.ref a), some (.ref L), x2, some (.int (0 + (i : Int))), some (.ref b), x5, some (.ref q), some (.ref y), some (.int (bareN d)), some (.str (remS d)), some (.ref nr), some (.int (4 + ((remS d).length : Int))), some (.int w0), x13] ∧ Same G6 G' ∧ G' W = some (.lst (ws.map V.int)), ?_, ?_⟩
          · refine ⟨_, rfl, _, _, rfl, rfl, _, rfl, ?_⟩
            refine ite2 (fun hb => ?_) (fun hb => ⟨rfl, sG, hW⟩)
            refine ⟨_, rfl, _, rfl, y, d, w0, rfl, PieceAt.same (s6.trans sG) hy, o, few, fun t H1 s1 dp => ⟨t, _, rfl, dp, r1, r2, r3, r4, ?_⟩⟩
            refine ⟨_, rfl, _, rfl, q, lp, d, w0, rfl, h4.same (s6.trans (sG.trans s1)), o, few, fun t2 H2 s2 dp2 => ⟨t2, _, rfl, dp2, r1, r2, r3, r4, ?_⟩⟩
            generalize (fmOf d w0).data.shown = z at r4 ⊢
            refine ⟨rfl, _, rfl, ?_⟩
            refine iteN (ne_self _) ?_
            exact ⟨rfl, (sG.trans s1).trans s2, s2 _ _ (s1 _ _ hW)⟩
          clear sG hW
          rintro σ G8 ⟨rfl, sG, hW⟩
          refine ⟨_, rfl, _, _, rfl, rfl, _, rfl, ?_⟩
          refine ite2 (fun hb => ?_) (fun hb => ⟨_, rfl, sG, hW⟩)
          refine ⟨_, rfl, _, rfl, y, d, w0, rfl, PieceAt.same (s6.trans sG) hy, o, few, fun t H1 s1 dp => ?_⟩
          refine ⟨_, _, dp, .tup (hxs _) (hds _), fm_shaped _, fms_shaped _, ?_⟩
          rw [fmOf_in o w0]
          exact ⟨_, rfl, iteN rfl ⟨_, rfl, sG.trans s1, s1 _ _ hW⟩⟩
        · rintro σ G ⟨x12, rfl, sG, hW⟩
          exact ⟨_, _, _, _, _, _, _, _, _, rfl, s3.trans (s4.trans (s6.trans sG)), BoxAt.same (s4.trans (s6.trans sG)) b3⟩
      · rintro σ G' ⟨x5, x6, x7, x8, x9, x10, x11, x12, x13, rfl, sG', _⟩
        exact ⟨_, _, x5, x6, x7, x8, x9, x10, x11, x12, x13, rfl, sG'⟩
    · rintro σ G ⟨x3, x4, x5, x6, x7, x8, x9, x10, x11, x12, x13, rfl, sG⟩
      exact k _
end
end Lay
set_option Elab.async false
set_option linter.all false
set_option maxRecDepth 100000
set_option maxHeartbeats 400000
set_option pp.maxSteps 900
namespace Lay
open PySem PySem.Spec PyProof.Rows L2
/-! the written forms read in one walk over the frame -/
def Fm.its (f : Fm) : List PyData := [.str (sizeS f.sz), .bool f.b, .bool f.m, .bool f.a, .bool f.h, .int f.n, .bool f.l]
def okTup (o : Obj) (f : Fm) : Bool := o.cls == .type "tuple" && (match o.data with
  | .seq its _ => decide (its.size = f.its.length) && (decide (its.size ≤ 100000) && (its.toList.zip f.its).all fun p => rdV [] 0 p.1 p.2)
  | _ => false)
theorem rd0 {K : PySem.W.Frag} : ∀ v d, rdV K 0 v d = rdV [] 0 v d := fun v d => by
  cases v <;> cases d <;> rfl
theorem okTup_rd {K : PySem.W.Frag} {a : Addr} {o : Obj} {f : Fm} (e : K.lookup a = some o) (h : okTup o f = true) : rdV K 1 (.ref a) f.data = true := by
  have e0 : (fun p : Value × PyData => rdV K 0 p.1 p.2) = fun p => rdV [] 0 p.1 p.2 := funext fun p => rd0 _ _
  unfold okTup at h
  show rdV K 1 (.ref a) (.tuple f.its) = true
  unfold rdV
  rw [e]
  simp only [e0]
  exact h
def scan : List (Addr × Obj) → Nat → List Value → List Fm → Bool
  | _, _, [], [] => true
  | (a, o) :: K, n, .ref b :: its, f :: fs => decide (n ≤ a) && (if Nat.beq a b = true then okTup o f && scan K (a + 1) its fs else scan K (a + 1) (.ref b :: its) (f :: fs))
  | _, _, _, _ => false
theorem scan_ok : ∀ (K : List (Addr × Obj)) (n : Nat) (its : List Value) (fs : List Fm), scan K n its fs = true → its.length = fs.length ∧ ∀ p ∈ its.zip fs, ∃ b o, p.1 = .ref b ∧ n ≤ b ∧ List.lookup b K = some o ∧ okTup o p.2 = true
  | K, n, [], [], h => ⟨rfl, fun p z => (List.not_mem_nil z).elim⟩
  | K, n, [], f :: fs, h => by cases K <;> (unfold scan at h; cases h)
  | K, n, v :: its, [], h => by
    cases K <;> cases v <;> (unfold scan at h; cases h)
  | [], n, v :: its, f :: fs, h => by
    cases v <;> (unfold scan at h; cases h)
  | (a, o) :: K, n, v :: its, f :: fs, h => by
    cases v with
    | ref b =>
      have h : (decide (n ≤ a) && (if Nat.beq a b = true then okTup o f && scan K (a + 1) its fs else scan K (a + 1) (.ref b :: its) (f :: fs))) = true := h
      rw [Bool.and_eq_true] at h
      obtain ⟨h1, h2⟩ := h
      have h1 := of_decide_eq_true h1
      by_cases e : Nat.beq a b = true
      · rw [if_pos e, Bool.and_eq_true] at h2
        have e := Nat.eq_of_beq_eq_true e
        subst e
        obtain ⟨l, ih⟩ := scan_ok _ _ _ _ h2.2
        refine ⟨by rw [List.length_cons, List.length_cons, l], fun p hp => ?_⟩
        rw [List.zip_cons_cons] at hp
        rcases List.mem_cons.mp hp with rfl | hp
        · exact ⟨a, o, rfl, h1, by rw [List.lookup_cons_self], h2.1⟩
        · obtain ⟨b, o', e1, e2, e3, e4⟩ := ih p hp
          refine ⟨b, o', e1, by omega, ?_, e4⟩
          rw [List.lookup_cons, show (b == a) = false from beq_eq_false_iff_ne.mpr (Nat.ne_of_lt e2).symm]
          exact e3
      · rw [if_neg e] at h2
        obtain ⟨l, ih⟩ := scan_ok _ _ _ _ h2
        refine ⟨l, fun p hp => ?_⟩
        obtain ⟨b, o', e1, e2, e3, e4⟩ := ih p hp
        refine ⟨b, o', e1, by omega, ?_, e4⟩
        rw [List.lookup_cons, show (b == a) = false from beq_eq_false_iff_ne.mpr (Nat.ne_of_lt e2).symm]
        exact e3
    | _ =>
      unfold scan at h
      cases h
def scanAt (K : PySem.W.Frag) (FO : Addr) (fs : List Fm) : Bool := match K.lookup FO with
  | some o => o.cls == .type "tuple" && (match o.data with
    | .seq its _ => decide (its.size ≤ 100000) && scan K 0 its.toList fs
    | _ => false)
  | none => false
theorem scan_rd {K : PySem.W.Frag} {FO : Addr} (h : scanAt K FO formsL = true) : FrmF K FO := by
  refine ⟨?_⟩
  unfold scanAt at h
  unfold rdV
  cases e : K.lookup FO with
  | none =>
    rw [e] at h
    cases h
  | some o =>
    rw [e] at h
    obtain ⟨cls, dd, data, sl⟩ := o
    simp only [Bool.and_eq_true] at h ⊢
    refine ⟨h.1, ?_⟩
    have h2 := h.2
    cases data <;> first | cases h2 | skip
    rename_i its k
    simp only [Bool.and_eq_true, decide_eq_true_eq] at h2 ⊢
    obtain ⟨l, al⟩ := scan_ok _ _ _ _ h2.2
    refine ⟨by rw [List.length_map, ← l, Array.length_toList], h2.1, ?_⟩
    rw [List.all_eq_true]
    rintro ⟨v, d⟩ hp
    rw [List.zip_map_right] at hp
    obtain ⟨⟨v', f⟩, hq, e2⟩ := List.mem_map.mp hp
    cases e2
    obtain ⟨b, o', e1, _, e3, e4⟩ := al _ hq
    have e1 : v' = .ref b := e1
    subst e1
    exact okTup_rd e3 e4
end Lay
set_option Elab.async false
set_option linter.all false
set_option maxRecDepth 100000
set_option maxHeartbeats 8000000
namespace Lay
open PySem L2
def dPiece : List V := [.bl false, .bl false, .str "", .str "", .int 0, .bl false]

theorem kit_cls {K : PySem.W.Frag} {C : Addr} {t : Value} {b : Bool} (hd : PySem.W.hasDictIn K C = true) (ty : PySem.W.typeIn K (.ref C) = some (.type "type")) (s : PySem.W.subIn K t (.ref C) = some b) (e : t = .ref C → b = true) : PySem.W.kitOne K t (.ref C) = some b := by
  unfold PySem.W.kitOne
  by_cases h : (t == Value.ref C) = true
  · rw [if_pos h, e (beq_iff_eq.mp h)]
  · rw [if_neg h]
    obtain ⟨cd, hc, _⟩ := PySem.W.any_some hd
    unfold PySem.W.kitCls
    dsimp only
    rw [if_pos (by rw [hc, ty]; rfl)]
    exact s
theorem kit_type {K : PySem.W.Frag} {C : Addr} {n : String} {b : Bool} (hm : PySem.W.kitMeta n = true) (s : PySem.W.subIn K (.ref C) (.type n) = some b) : PySem.W.kitOne K (.ref C) (.type n) = some b := by
  unfold PySem.W.kitOne
  rw [if_neg (fun h => by have q := beq_iff_eq.mp h; cases q)]
  unfold PySem.W.kitCls
  dsimp only
  rw [if_pos hm]
  exact s
theorem np_none {C : Addr} : (PySem.fastBuiltinMro "NoneType").map (·.contains (Value.ref C)) = some false := by
  have e : PySem.fastBuiltinMro "NoneType" = some [.type "NoneType", .type "object"] := by decide +kernel
  rw [e]
  rfl
theorem np_int {C : Addr} : (PySem.fastBuiltinMro "int").map (·.contains (Value.ref C)) = some false := by
  have e : PySem.fastBuiltinMro "int" = some [.type "int", .type "object"] := by decide +kernel
  rw [e]
  rfl
theorem np_bool {C : Addr} : (PySem.fastBuiltinMro "bool").map (·.contains (Value.ref C)) = some false := by
  have e : PySem.fastBuiltinMro "bool" = some [.type "bool", .type "int", .type "object"] := by decide +kernel
  rw [e]
  rfl
theorem np_str {C : Addr} : (PySem.fastBuiltinMro "str").map (·.contains (Value.ref C)) = some false := by
  have e : PySem.fastBuiltinMro "str" = some [.type "str", .type "object"] := by decide +kernel
  rw [e]
  rfl
theorem np_list {C : Addr} : (PySem.fastBuiltinMro "list").map (·.contains (Value.ref C)) = some false := by
  have e : PySem.fastBuiltinMro "list" = some [.type "list", .type "object"] := by decide +kernel
  rw [e]
  rfl
theorem np_tuple {C : Addr} : (PySem.fastBuiltinMro "tuple").map (·.contains (Value.ref C)) = some false := by
  have e : PySem.fastBuiltinMro "tuple" = some [.type "tuple", .type "object"] := by decide +kernel
  rw [e]
  rfl

theorem binds_piece8 {K : PySem.W.Frag} {f : Addr} {fd : FuncData} (F : FunD K "__init__" "Piece.__init__" (defArgs sPieceI) (defBody sPieceI) (defScope sPieceI) dPiece [] f fd) : Binds K fd psPiece [] := by
  obtain ⟨ds, h1, h2⟩ := F.binds1 (ps := psPiece) 9 6 (fun z => nomatch z) rfl fun T kV doc pm an cdv ct us its h1 h2 => match us, its, h1, h2 with
    | [_, _, _, _, _, _, _, _, _], [_, _, _, _, _, _], _, _ => ⟨_, rfl, rfl⟩
  cases h1
  exact h2

theorem all_mk {l : PySem.W.OpenLaw} {w : World} {K : PySem.W.Frag} {h : Heap} {mg : Str → Option Value} {fa C TC fPI FO pB gB g_int g_num g_seq g_name g_names g_req g_rem g_head g_box g_take g_pick g_lname g_lpiece g_made g_flat g_gap g_shape g_size g_form g_lforms g_lform g_law : Addr} (X : K.In h) (G : h.Ns mainGlobals mg) (hfa : mg "law" = some (.ref fa))
    {od_Ci an_Ci : Option Addr} {sl_Ci : Array (Option Value)} {oc_Ci kV_Ci dc_Ci pm_Ci cd_Ci ct_Ci : Value}
    {u1 u2 u3 : Nat}
    {oc_TC : Value} {od_TC : Option Addr} {n_TC : Nat} {sl_TC : Array (Option Value)}
    {u4 : Nat}
    {restB : List Value}
    {od_bare an_bare : Option Addr} {sl_bare : Array (Option Value)} {oc_bare kV_bare dc_bare pm_bare cd_bare ct_bare : Value}
    {od_int an_int : Option Addr} {sl_int : Array (Option Value)} {oc_int kV_int dc_int pm_int cd_int ct_int : Value}
    {od_num an_num : Option Addr} {sl_num : Array (Option Value)} {oc_num kV_num dc_num pm_num cd_num ct_num : Value}
    {od_seq an_seq : Option Addr} {sl_seq : Array (Option Value)} {oc_seq kV_seq dc_seq pm_seq cd_seq ct_seq : Value}
    {od_name an_name : Option Addr} {sl_name : Array (Option Value)} {oc_name kV_name dc_name pm_name cd_name ct_name : Value}
    {od_names an_names : Option Addr} {sl_names : Array (Option Value)} {oc_names kV_names dc_names pm_names cd_names ct_names : Value}
    {od_req an_req : Option Addr} {sl_req : Array (Option Value)} {oc_req kV_req dc_req pm_req cd_req ct_req : Value}
    {od_rem an_rem : Option Addr} {sl_rem : Array (Option Value)} {oc_rem kV_rem dc_rem pm_rem cd_rem ct_rem : Value}
    {od_head an_head : Option Addr} {sl_head : Array (Option Value)} {oc_head kV_head dc_head pm_head cd_head ct_head : Value}
    {od_box an_box : Option Addr} {sl_box : Array (Option Value)} {oc_box kV_box dc_box pm_box cd_box ct_box : Value}
    {od_take an_take : Option Addr} {sl_take : Array (Option Value)} {oc_take kV_take dc_take pm_take cd_take ct_take : Value}
    {od_pick an_pick : Option Addr} {sl_pick : Array (Option Value)} {oc_pick kV_pick dc_pick pm_pick cd_pick ct_pick : Value}
    {od_lname an_lname : Option Addr} {sl_lname : Array (Option Value)} {oc_lname kV_lname dc_lname pm_lname cd_lname ct_lname : Value}
    {od_lpiece an_lpiece : Option Addr} {sl_lpiece : Array (Option Value)} {oc_lpiece kV_lpiece dc_lpiece pm_lpiece cd_lpiece ct_lpiece : Value}
    {od_made an_made : Option Addr} {sl_made : Array (Option Value)} {oc_made kV_made dc_made pm_made cd_made ct_made : Value}
    {od_flat an_flat : Option Addr} {sl_flat : Array (Option Value)} {oc_flat kV_flat dc_flat pm_flat cd_flat ct_flat : Value}
    {od_gap an_gap : Option Addr} {sl_gap : Array (Option Value)} {oc_gap kV_gap dc_gap pm_gap cd_gap ct_gap : Value}
    {od_shape an_shape : Option Addr} {sl_shape : Array (Option Value)} {oc_shape kV_shape dc_shape pm_shape cd_shape ct_shape : Value}
    {od_size an_size : Option Addr} {sl_size : Array (Option Value)} {oc_size kV_size dc_size pm_size cd_size ct_size : Value}
    {od_form an_form : Option Addr} {sl_form : Array (Option Value)} {oc_form kV_form dc_form pm_form cd_form ct_form : Value}
    {od_lforms an_lforms : Option Addr} {sl_lforms : Array (Option Value)} {oc_lforms kV_lforms dc_lforms pm_lforms cd_lforms ct_lforms : Value}
    {od_lform an_lform : Option Addr} {sl_lform : Array (Option Value)} {oc_lform kV_lform dc_lform pm_lform cd_lform ct_lform : Value}
    {od_law an_law : Option Addr} {sl_law : Array (Option Value)} {oc_law kV_law dc_law pm_law cd_law ct_law : Value}
    (hn : PySem.W.specialIn K (.builtin "object.__class__") "__get__" = some (some (.builtin "getset_descriptor.__get__")))
    (ht : PySem.W.takesIn K (.builtin "object.__class__") = some true)
    (aC : PySem.W.nsIn K mainGlobals "Piece" = some (some (.ref C)))
    (pgC : PySem.W.plainGet K C Str.empty = true)
    (hdC : PySem.W.hasDictIn K C = true)
    (poC : PySem.W.plainOver K C = true)
    (saC : PySem.W.findIn K (.ref C) "__setattr__" = some (some (.builtin "object.__setattr__")))
    (caC : PySem.W.findIn K (.ref C) "__class__" = some (some (.builtin "object.__class__")))
    (moC : PySem.W.mroIn K C (.type "object") = some true)
    (nlC : PySem.W.subIn K (.ref C) (.type "list") = some false)
    (ntC : PySem.W.subIn K (.ref C) (.type "tuple") = some false)
    (nbC : PySem.W.subIn K (.ref C) (.type "bool") = some false)
    (tyC : PySem.W.typeIn K (.ref C) = some (.type "type"))
    (noC_word : PySem.W.findIn K (.ref C) "word" = some none)
    (noC_parts : PySem.W.findIn K (.ref C) "parts" = some none)
    (noC_broken : PySem.W.findIn K (.ref C) "broken" = some none)
    (noC_marked : PySem.W.findIn K (.ref C) "marked" = some none)
    (noC_ahead : PySem.W.findIn K (.ref C) "ahead" = some none)
    (noC_behind : PySem.W.findIn K (.ref C) "behind" = some none)
    (noC_blanks : PySem.W.findIn K (.ref C) "blanks" = some none)
    (noC_left : PySem.W.findIn K (.ref C) "left" = some none)
    (mkC : PySem.W.makesIn K C = true)
    (inC : PySem.W.findIn K (.ref C) "__init__" = some (some (.ref fPI)))
    (fiC : PySem.W.isFn K (.ref fPI) = true)
    (kpC : PySem.W.keepIn K (.ref C) = true)
    (l_Ci : K.lookup fPI = some ⟨oc_Ci, od_Ci, .func (PySem.W.fnOf "__init__" "Piece.__init__" (defArgs sPieceI) (defBody sPieceI) (defScope sPieceI) (.ref TC) kV_Ci dc_Ci pm_Ci an_Ci cd_Ci ct_Ci), sl_Ci⟩)
    (c_Ci : PySem.W.codeIn K cd_Ci "Piece.__init__" = true)
    (k_Ci : PySem.W.keepIn K (.ref fPI) = true)
    (l_TC : K.lookup TC = some ⟨oc_TC, od_TC, .seq [.bool false, .bool false, .str "" u1, .str "" u2, .int 0 u3, .bool false].toArray n_TC, sl_TC⟩)
    (aFO : PySem.W.nsIn K mainGlobals "FORMS" = some (some (.ref FO)))
    (rdFO : scanAt K FO formsL = true)
    (aSL : PySem.W.nsIn K mainGlobals "SIGN_LENGTH" = some (some (.int 4 u4)))
    (p_at : PySem.W.findIn K (.ref C) "bare" = some (some (.ref pB)))
    (p_get : PySem.W.specialIn K (.ref pB) "__get__" = some (some (.builtin "property.__get__")))
    (p_tak : PySem.W.takesIn K (.ref pB) = some true)
    (p_rec : PySem.W.recIn K pB "property" = some (.ref gB :: restB))
    (l_bare : K.lookup gB = some ⟨oc_bare, od_bare, .func (PySem.W.fnOf "bare" "Piece.bare" (defArgs sBare) (defBody sBare) (defScope sBare) .none kV_bare dc_bare pm_bare an_bare cd_bare ct_bare), sl_bare⟩)
    (c_bare : PySem.W.codeIn K cd_bare "Piece.bare" = true)
    (k_bare : PySem.W.keepIn K (.ref gB) = true)
    (a_int : PySem.W.nsIn K mainGlobals "is_integer" = some (some (.ref g_int)))
    (l_int : K.lookup g_int = some ⟨oc_int, od_int, .func (PySem.W.fnOf "is_integer" "is_integer" (defArgs sInt) (defBody sInt) (defScope sInt) .none kV_int dc_int pm_int an_int cd_int ct_int), sl_int⟩)
    (c_int : PySem.W.codeIn K cd_int "is_integer" = true)
    (k_int : PySem.W.keepIn K (.ref g_int) = true)
    (a_num : PySem.W.nsIn K mainGlobals "is_number" = some (some (.ref g_num)))
    (l_num : K.lookup g_num = some ⟨oc_num, od_num, .func (PySem.W.fnOf "is_number" "is_number" (defArgs sNum) (defBody sNum) (defScope sNum) .none kV_num dc_num pm_num an_num cd_num ct_num), sl_num⟩)
    (c_num : PySem.W.codeIn K cd_num "is_number" = true)
    (k_num : PySem.W.keepIn K (.ref g_num) = true)
    (a_seq : PySem.W.nsIn K mainGlobals "is_sequence" = some (some (.ref g_seq)))
    (l_seq : K.lookup g_seq = some ⟨oc_seq, od_seq, .func (PySem.W.fnOf "is_sequence" "is_sequence" (defArgs sSeq) (defBody sSeq) (defScope sSeq) .none kV_seq dc_seq pm_seq an_seq cd_seq ct_seq), sl_seq⟩)
    (c_seq : PySem.W.codeIn K cd_seq "is_sequence" = true)
    (k_seq : PySem.W.keepIn K (.ref g_seq) = true)
    (a_name : PySem.W.nsIn K mainGlobals "is_name" = some (some (.ref g_name)))
    (l_name : K.lookup g_name = some ⟨oc_name, od_name, .func (PySem.W.fnOf "is_name" "is_name" (defArgs sName) (defBody sName) (defScope sName) .none kV_name dc_name pm_name an_name cd_name ct_name), sl_name⟩)
    (c_name : PySem.W.codeIn K cd_name "is_name" = true)
    (k_name : PySem.W.keepIn K (.ref g_name) = true)
    (a_names : PySem.W.nsIn K mainGlobals "are_names" = some (some (.ref g_names)))
    (l_names : K.lookup g_names = some ⟨oc_names, od_names, .func (PySem.W.fnOf "are_names" "are_names" (defArgs sNames) (defBody sNames) (defScope sNames) .none kV_names dc_names pm_names an_names cd_names ct_names), sl_names⟩)
    (c_names : PySem.W.codeIn K cd_names "are_names" = true)
    (k_names : PySem.W.keepIn K (.ref g_names) = true)
    (a_req : PySem.W.nsIn K mainGlobals "require" = some (some (.ref g_req)))
    (l_req : K.lookup g_req = some ⟨oc_req, od_req, .func (PySem.W.fnOf "require" "require" (defArgs sReq) (defBody sReq) (defScope sReq) .none kV_req dc_req pm_req an_req cd_req ct_req), sl_req⟩)
    (c_req : PySem.W.codeIn K cd_req "require" = true)
    (k_req : PySem.W.keepIn K (.ref g_req) = true)
    (a_rem : PySem.W.nsIn K mainGlobals "is_remark" = some (some (.ref g_rem)))
    (l_rem : K.lookup g_rem = some ⟨oc_rem, od_rem, .func (PySem.W.fnOf "is_remark" "is_remark" (defArgs sRem) (defBody sRem) (defScope sRem) .none kV_rem dc_rem pm_rem an_rem cd_rem ct_rem), sl_rem⟩)
    (c_rem : PySem.W.codeIn K cd_rem "is_remark" = true)
    (k_rem : PySem.W.keepIn K (.ref g_rem) = true)
    (a_head : PySem.W.nsIn K mainGlobals "head_of" = some (some (.ref g_head)))
    (l_head : K.lookup g_head = some ⟨oc_head, od_head, .func (PySem.W.fnOf "head_of" "head_of" (defArgs sHead) (defBody sHead) (defScope sHead) .none kV_head dc_head pm_head an_head cd_head ct_head), sl_head⟩)
    (c_head : PySem.W.codeIn K cd_head "head_of" = true)
    (k_head : PySem.W.keepIn K (.ref g_head) = true)
    (a_box : PySem.W.nsIn K mainGlobals "_law_box" = some (some (.ref g_box)))
    (l_box : K.lookup g_box = some ⟨oc_box, od_box, .func (PySem.W.fnOf "_law_box" "_law_box" (defArgs sBox) (defBody sBox) (defScope sBox) .none kV_box dc_box pm_box an_box cd_box ct_box), sl_box⟩)
    (c_box : PySem.W.codeIn K cd_box "_law_box" = true)
    (k_box : PySem.W.keepIn K (.ref g_box) = true)
    (a_take : PySem.W.nsIn K mainGlobals "_law_take" = some (some (.ref g_take)))
    (l_take : K.lookup g_take = some ⟨oc_take, od_take, .func (PySem.W.fnOf "_law_take" "_law_take" (defArgs sTake) (defBody sTake) (defScope sTake) .none kV_take dc_take pm_take an_take cd_take ct_take), sl_take⟩)
    (c_take : PySem.W.codeIn K cd_take "_law_take" = true)
    (k_take : PySem.W.keepIn K (.ref g_take) = true)
    (a_pick : PySem.W.nsIn K mainGlobals "_law_pick" = some (some (.ref g_pick)))
    (l_pick : K.lookup g_pick = some ⟨oc_pick, od_pick, .func (PySem.W.fnOf "_law_pick" "_law_pick" (defArgs sPick) (defBody sPick) (defScope sPick) .none kV_pick dc_pick pm_pick an_pick cd_pick ct_pick), sl_pick⟩)
    (c_pick : PySem.W.codeIn K cd_pick "_law_pick" = true)
    (k_pick : PySem.W.keepIn K (.ref g_pick) = true)
    (a_lname : PySem.W.nsIn K mainGlobals "_law_name" = some (some (.ref g_lname)))
    (l_lname : K.lookup g_lname = some ⟨oc_lname, od_lname, .func (PySem.W.fnOf "_law_name" "_law_name" (defArgs sLName) (defBody sLName) (defScope sLName) .none kV_lname dc_lname pm_lname an_lname cd_lname ct_lname), sl_lname⟩)
    (c_lname : PySem.W.codeIn K cd_lname "_law_name" = true)
    (k_lname : PySem.W.keepIn K (.ref g_lname) = true)
    (a_lpiece : PySem.W.nsIn K mainGlobals "_law_piece" = some (some (.ref g_lpiece)))
    (l_lpiece : K.lookup g_lpiece = some ⟨oc_lpiece, od_lpiece, .func (PySem.W.fnOf "_law_piece" "_law_piece" (defArgs sLPiece) (defBody sLPiece) (defScope sLPiece) .none kV_lpiece dc_lpiece pm_lpiece an_lpiece cd_lpiece ct_lpiece), sl_lpiece⟩)
    (c_lpiece : PySem.W.codeIn K cd_lpiece "_law_piece" = true)
    (k_lpiece : PySem.W.keepIn K (.ref g_lpiece) = true)
    (a_made : PySem.W.nsIn K mainGlobals "_law_made" = some (some (.ref g_made)))
    (l_made : K.lookup g_made = some ⟨oc_made, od_made, .func (PySem.W.fnOf "_law_made" "_law_made" (defArgs sLMade) (defBody sLMade) (defScope sLMade) .none kV_made dc_made pm_made an_made cd_made ct_made), sl_made⟩)
    (c_made : PySem.W.codeIn K cd_made "_law_made" = true)
    (k_made : PySem.W.keepIn K (.ref g_made) = true)
    (a_flat : PySem.W.nsIn K mainGlobals "_law_flat" = some (some (.ref g_flat)))
    (l_flat : K.lookup g_flat = some ⟨oc_flat, od_flat, .func (PySem.W.fnOf "_law_flat" "_law_flat" (defArgs sLFlat) (defBody sLFlat) (defScope sLFlat) .none kV_flat dc_flat pm_flat an_flat cd_flat ct_flat), sl_flat⟩)
    (c_flat : PySem.W.codeIn K cd_flat "_law_flat" = true)
    (k_flat : PySem.W.keepIn K (.ref g_flat) = true)
    (a_gap : PySem.W.nsIn K mainGlobals "gap_of" = some (some (.ref g_gap)))
    (l_gap : K.lookup g_gap = some ⟨oc_gap, od_gap, .func (PySem.W.fnOf "gap_of" "gap_of" (defArgs sGap) (defBody sGap) (defScope sGap) .none kV_gap dc_gap pm_gap an_gap cd_gap ct_gap), sl_gap⟩)
    (c_gap : PySem.W.codeIn K cd_gap "gap_of" = true)
    (k_gap : PySem.W.keepIn K (.ref g_gap) = true)
    (a_shape : PySem.W.nsIn K mainGlobals "shape_of" = some (some (.ref g_shape)))
    (l_shape : K.lookup g_shape = some ⟨oc_shape, od_shape, .func (PySem.W.fnOf "shape_of" "shape_of" (defArgs sShape) (defBody sShape) (defScope sShape) .none kV_shape dc_shape pm_shape an_shape cd_shape ct_shape), sl_shape⟩)
    (c_shape : PySem.W.codeIn K cd_shape "shape_of" = true)
    (k_shape : PySem.W.keepIn K (.ref g_shape) = true)
    (a_size : PySem.W.nsIn K mainGlobals "size_of" = some (some (.ref g_size)))
    (l_size : K.lookup g_size = some ⟨oc_size, od_size, .func (PySem.W.fnOf "size_of" "size_of" (defArgs sSize) (defBody sSize) (defScope sSize) .none kV_size dc_size pm_size an_size cd_size ct_size), sl_size⟩)
    (c_size : PySem.W.codeIn K cd_size "size_of" = true)
    (k_size : PySem.W.keepIn K (.ref g_size) = true)
    (a_form : PySem.W.nsIn K mainGlobals "form_of" = some (some (.ref g_form)))
    (l_form : K.lookup g_form = some ⟨oc_form, od_form, .func (PySem.W.fnOf "form_of" "form_of" (defArgs sForm) (defBody sForm) (defScope sForm) .none kV_form dc_form pm_form an_form cd_form ct_form), sl_form⟩)
    (c_form : PySem.W.codeIn K cd_form "form_of" = true)
    (k_form : PySem.W.keepIn K (.ref g_form) = true)
    (a_lforms : PySem.W.nsIn K mainGlobals "_law_forms" = some (some (.ref g_lforms)))
    (l_lforms : K.lookup g_lforms = some ⟨oc_lforms, od_lforms, .func (PySem.W.fnOf "_law_forms" "_law_forms" (defArgs sLFs) (defBody sLFs) (defScope sLFs) .none kV_lforms dc_lforms pm_lforms an_lforms cd_lforms ct_lforms), sl_lforms⟩)
    (c_lforms : PySem.W.codeIn K cd_lforms "_law_forms" = true)
    (k_lforms : PySem.W.keepIn K (.ref g_lforms) = true)
    (a_lform : PySem.W.nsIn K mainGlobals "_law_form" = some (some (.ref g_lform)))
    (l_lform : K.lookup g_lform = some ⟨oc_lform, od_lform, .func (PySem.W.fnOf "_law_form" "_law_form" (defArgs sLFm) (defBody sLFm) (defScope sLFm) .none kV_lform dc_lform pm_lform an_lform cd_lform ct_lform), sl_lform⟩)
    (c_lform : PySem.W.codeIn K cd_lform "_law_form" = true)
    (k_lform : PySem.W.keepIn K (.ref g_lform) = true)
    (a_law : PySem.W.nsIn K mainGlobals "law" = some (some (.ref g_law)))
    (l_law : K.lookup g_law = some ⟨oc_law, od_law, .func (PySem.W.fnOf "law" "law" (defArgs sLaw) (defBody sLaw) (defScope sLaw) .none kV_law dc_law pm_law an_law cd_law ct_law), sl_law⟩)
    (c_law : PySem.W.codeIn K cd_law "law" = true)
    (k_law : PySem.W.keepIn K (.ref g_law) = true)
    (z_int : PySem.W.nsIn K mainGlobals "int" = some none)
    (z_bool : PySem.W.nsIn K mainGlobals "bool" = some none)
    (z_str : PySem.W.nsIn K mainGlobals "str" = some none)
    (z_list : PySem.W.nsIn K mainGlobals "list" = some none)
    (z_tuple : PySem.W.nsIn K mainGlobals "tuple" = some none)
    (z_dict : PySem.W.nsIn K mainGlobals "dict" = some none)
    (z_isinstance : PySem.W.nsIn K mainGlobals "isinstance" = some none)
    (z_len : PySem.W.nsIn K mainGlobals "len" = some none)
    (z_all : PySem.W.nsIn K mainGlobals "all" = some none)
    (z_any : PySem.W.nsIn K mainGlobals "any" = some none)
    (z_abs : PySem.W.nsIn K mainGlobals "abs" = some none)
    (z_range : PySem.W.nsIn K mainGlobals "range" = some none)
    (z_enumerate : PySem.W.nsIn K mainGlobals "enumerate" = some none)
    (z_zip : PySem.W.nsIn K mainGlobals "zip" = some none)
    (z_max : PySem.W.nsIn K mainGlobals "max" = some none)
    (z_min : PySem.W.nsIn K mainGlobals "min" = some none)
    (z_repr : PySem.W.nsIn K mainGlobals "repr" = some none)
    (z_sorted : PySem.W.nsIn K mainGlobals "sorted" = some none)
    : ∃ fd : FuncData, (∀ (s : Shared) (v : Value), BindsTo s fd ⟨[v], []⟩ [("_law_script", v)]) ∧ ∀ base : Heap, K.In base → base.Ns mainGlobals mg → FnG l.prog w K mg base 6 fa fd ["_law_script"] (spLaw K) := by
  have e := hfa.symm.trans (PySem.W.mg_of X G a_law)
  cases e
  have M : ∀ {x : Str} {a : Addr}, PySem.W.nsIn K mainGlobals x = some (some (.ref a)) → mg x = some (.ref a) := fun h => PySem.W.mg_of X G h
  have N : ∀ {x : Str}, PySem.W.nsIn K mainGlobals x = some none → mg x = none := fun h => PySem.W.mg_none_of X G h
  have F_int := fun_mk (st := sInt) l_int c_int k_int
  have b_int := F_int.binds (ps := ["value"]) fun _ _ _ _ _ _ us hl => match us, hl with | [_], _ => rfl
  have F_num := fun_mk (st := sNum) l_num c_num k_num
  have b_num := F_num.binds (ps := ["value", "many"]) fun _ _ _ _ _ _ us hl => match us, hl with | [_, _], _ => rfl
  have F_seq := fun_mk (st := sSeq) l_seq c_seq k_seq
  have b_seq := F_seq.binds (ps := ["value"]) fun _ _ _ _ _ _ us hl => match us, hl with | [_], _ => rfl
  have F_name := fun_mk (st := sName) l_name c_name k_name
  have b_name := F_name.binds (ps := ["value"]) fun _ _ _ _ _ _ us hl => match us, hl with | [_], _ => rfl
  have F_names := fun_mk (st := sNames) l_names c_names k_names
  have b_names := F_names.binds (ps := ["value"]) fun _ _ _ _ _ _ us hl => match us, hl with | [_], _ => rfl
  have F_req := fun_mk (st := sReq) l_req c_req k_req
  have b_req := F_req.binds (ps := ["holds", "word"]) fun _ _ _ _ _ _ us hl => match us, hl with | [_, _], _ => rfl
  have F_rem := fun_mk (st := sRem) l_rem c_rem k_rem
  have b_rem := F_rem.binds (ps := ["value"]) fun _ _ _ _ _ _ us hl => match us, hl with | [_], _ => rfl
  have F_head := fun_mk (st := sHead) l_head c_head k_head
  have b_head := F_head.binds (ps := ["piece"]) fun _ _ _ _ _ _ us hl => match us, hl with | [_], _ => rfl
  have F_box := fun_mk (st := sBox) l_box c_box k_box
  have b_box := F_box.binds (ps := ["_law_script", "_law_k", "_law_own"]) fun _ _ _ _ _ _ us hl => match us, hl with | [_, _, _], _ => rfl
  have F_take := fun_mk (st := sTake) l_take c_take k_take
  have b_take := F_take.binds (ps := ["_law_box_here", "_law_many"]) fun _ _ _ _ _ _ us hl => match us, hl with | [_, _], _ => rfl
  have F_pick := fun_mk (st := sPick) l_pick c_pick k_pick
  have b_pick := F_pick.binds (ps := ["_law_box_here", "_law_items"]) fun _ _ _ _ _ _ us hl => match us, hl with | [_, _], _ => rfl
  have F_lname := fun_mk (st := sLName) l_lname c_lname k_lname
  have b_lname := F_lname.binds (ps := ["_law_box_here", "_law_most"]) fun _ _ _ _ _ _ us hl => match us, hl with | [_, _], _ => rfl
  have F_lpiece := fun_mk (st := sLPiece) l_lpiece c_lpiece k_lpiece
  have b_lpiece := F_lpiece.binds (ps := ["_law_box_here", "_law_many"]) fun _ _ _ _ _ _ us hl => match us, hl with | [_, _], _ => rfl
  have F_made := fun_mk (st := sLMade) l_made c_made k_made
  have b_made := F_made.binds (ps := ["_law_piece_here"]) fun _ _ _ _ _ _ us hl => match us, hl with | [_], _ => rfl
  have F_flat := fun_mk (st := sLFlat) l_flat c_flat k_flat
  have b_flat := F_flat.binds (ps := ["_law_piece_here", "_law_is_marked", "_law_remark"]) fun _ _ _ _ _ _ us hl => match us, hl with | [_, _, _], _ => rfl
  have F_gap := fun_mk (st := sGap) l_gap c_gap k_gap
  have b_gap := F_gap.binds (ps := ["piece"]) fun _ _ _ _ _ _ us hl => match us, hl with | [_], _ => rfl
  have F_shape := fun_mk (st := sShape) l_shape c_shape k_shape
  have b_shape := F_shape.binds (ps := ["piece"]) fun _ _ _ _ _ _ us hl => match us, hl with | [_], _ => rfl
  have F_size := fun_mk (st := sSize) l_size c_size k_size
  have b_size := F_size.binds (ps := ["piece", "width"]) fun _ _ _ _ _ _ us hl => match us, hl with | [_, _], _ => rfl
  have F_form := fun_mk (st := sForm) l_form c_form k_form
  have b_form := F_form.binds (ps := ["piece", "width"]) fun _ _ _ _ _ _ us hl => match us, hl with | [_, _], _ => rfl
  have F_lforms := fun_mk (st := sLFs) l_lforms c_lforms k_lforms
  have b_lforms := F_lforms.binds (ps := []) fun _ _ _ _ _ _ us hl => match us, hl with | [], _ => rfl
  have F_lform := fun_mk (st := sLFm) l_lform c_lform k_lform
  have b_lform := F_lform.binds (ps := ["_law_piece_here", "_law_width"]) fun _ _ _ _ _ _ us hl => match us, hl with | [_, _], _ => rfl
  have F_law := fun_mk (st := sLaw) l_law c_law k_law
  have b_law := F_law.binds (ps := ["_law_script"]) fun _ _ _ _ _ _ us hl => match us, hl with | [_], _ => rfl
  have F_bare := fun_mk (st := sBare) l_bare c_bare k_bare
  have b_bare := F_bare.binds (ps := ["self"]) fun _ _ _ _ _ _ us hl => match us, hl with | [_], _ => rfl
  have FPI : FunD K "__init__" "Piece.__init__" (defArgs sPieceI) (defBody sPieceI) (defScope sPieceI) dPiece [] fPI _ :=
    ⟨⟨_, _, _, _, _, _, _, _, _, _, rfl, l_Ci, c_Ci, .inr ⟨(fun z => nomatch z), TC, _, _, _, rfl, l_TC, rfl, .cons rfl (.cons rfl (.cons ⟨_, rfl⟩ (.cons ⟨_, rfl⟩ (.cons ⟨_, rfl⟩ (.cons rfl .nil)))))⟩, .inl rfl⟩, k_Ci⟩
  have D : TxtD mg := ⟨N z_int, N z_len, N z_abs, N z_range⟩
  have T : TxtK mg := ⟨N z_int, N z_bool, N z_str, N z_list, N z_tuple, N z_isinstance, N z_len, N z_all, N z_enumerate⟩
  have B : Bt mg := ⟨N z_int, N z_bool, N z_str, N z_list, N z_tuple, N z_dict, N z_isinstance, N z_len, N z_all, N z_any, N z_abs, N z_range, N z_enumerate, N z_zip, N z_max, N z_min, N z_repr, N z_sorted⟩
  have cl : Cls K C := ⟨pgC, hdC, poC, saC⟩
  have ci : ClsI K C := ⟨cl, caC, hn, ht, moC⟩
  have ZC : PieceC K C := ⟨cl, noC_word, noC_parts, noC_broken, noC_marked, noC_ahead, noC_behind, noC_blanks, noC_left⟩
  have mk1 : Mk K C fPI := ⟨mkC, inC, fiC, kpC⟩
  refine ⟨PySem.W.fnOf "law" "law" (defArgs sLaw) (defBody sLaw) (defScope sLaw) .none kV_law dc_law pm_law an_law cd_law ct_law, fun s v => .of_eq rfl, fun base _ _ => ?_⟩
  have okName : FnOk l.prog w K mg base CX0 1 g_name _ ["value"] (spName K) := ok_name F_name T
  have okSeq : FnOk l.prog w K mg base CX0 1 g_seq _ ["value"] (spSeq K) := ok_seq F_seq T
  have okInt : FnOk l.prog w K mg base CX0 1 g_int _ ["value"] (spInt K) := ok_int F_int T
  have okNum := ok_num F_num okInt (M a_int) k_int b_int
  have Dp : PieceD l.prog w K mg base g_req g_name g_names g_rem g_num _ _ _ _ _ := ⟨ok_req F_req, M a_req, k_req, b_req, okName, M a_name, k_name, b_name,
    ok_names F_names T okSeq (M a_seq) k_seq b_seq okName (M a_name) k_name b_name, M a_names, k_names, b_names, ok_rem F_rem T okName (M a_name) k_name b_name, M a_rem, k_rem, b_rem, okNum, M a_num, k_num, b_num⟩
  have okPI := ok_pieceI (C := C) FPI T ZC Dp
  have okHead := ok_head (P := l.prog) (w := w) (mg := mg) (base := base) (C := C) F_head ZC
  have okBare := ok_bare F_bare B ZC okHead (M a_head) k_head b_head
  have PB : BareP l.prog w K mg base C := ⟨_, _, _, ⟨p_at, p_get, p_tak, ⟨_, p_rec⟩⟩, okBare, b_bare⟩
  have okTake : FnOk l.prog w K mg base CX0 1 g_take _ ["_law_box_here", "_law_many"] spTake := ok_take F_take D
  have okPick := ok_pick (P := l.prog) (w := w) (base := base) F_pick D F_take b_take (M a_take)
  have okLN := ok_lname F_lname (N z_range) (N z_list) okTake (M a_take) k_take b_take okPick (M a_pick) k_pick b_pick
  have okLP := ok_lpiece F_lpiece (N z_range) okTake (M a_take) k_take b_take okPick (M a_pick) k_pick b_pick okLN (M a_lname) k_lname b_lname
  have okMd := ok_lmade F_made (M aC) mk1 okPI (binds_piece8 FPI)
  have okFl := ok_lflat (P := l.prog) (w := w) (mg := mg) (base := base) F_flat
  have okGap := ok_gap (P := l.prog) (w := w) (base := base) (C := C) F_gap B ZC (PySem.W.mg_of X G aSL)
  have okShape := ok_shape (P := l.prog) (w := w) (mg := mg) (base := base) (C := C) F_shape ZC
  have okSize := ok_size (P := l.prog) (w := w) (base := base) (C := C) F_size ZC PB ⟨_, _, okGap, M a_gap, k_gap, b_gap⟩
  have okForm := ok_form (P := l.prog) (w := w) (base := base) (C := C) F_form ⟨_, _, okSize, M a_size, k_size, b_size⟩ ⟨_, _, okShape, M a_shape, k_shape, b_shape⟩
  have okLf := ok_lform (P := l.prog) (w := w) (base := base) F_lform B ⟨_, _, okFl, M a_flat, k_flat, b_flat⟩
  have okLs := ok_lforms (P := l.prog) (w := w) (base := base) F_lforms B
  exact ok_Law B ZC (M aFO) (scan_rd rdFO) ⟨_, _, okForm, M a_form, k_form, b_form⟩ ⟨_, _, okLf, M a_lform, k_lform, b_lform⟩ ⟨_, _, okLs, M a_lforms, k_lforms, b_lforms⟩ ⟨_, _, ok_box F_box D, M a_box, k_box, b_box⟩ ⟨_, _, okLP, M a_lpiece, k_lpiece, b_lpiece⟩ ⟨_, _, okMd, M a_made, k_made, b_made⟩
    ⟨_, _, okFl, M a_flat, k_flat, b_flat⟩ F_law
end Lay
open PySem PySem.W PyProof.Rows
set_option Elab.async false
set_option maxRecDepth 100000 in
set_option maxHeartbeats 0 in
theorem PySem.Challenge.cw_laytwice_k23_forms_told_holds : PySem.Challenge.rw_laytwice_k23_forms_told.Holds := by
  w_on; o_law; k_head; (case hw => w_witness2)
  k_fill
  refine Lay.walkG (l := PySem.Challenge.rw_laytwice_k23_forms_told) (n := 63) (k := 6) (x := "_law_script") (sp := fun w => Lay.spLaw _) rfl (by decide) rfl ⟨rfl, by decide, by decide⟩ (fun w h Y => PySem.W.kIn_of Y) ?F (fun _ _ a ns hl _ hS => ⟨a, ns, rfl, hS, hl, fun _ => rfl⟩)
  case F =>
    intro w mg fa h KX G hmg
    refine' Lay.all_mk KX G hmg ?hn ?ht ?aC ?pgC ?hdC ?poC ?saC ?caC ?moC ?nlC ?ntC ?nbC ?tyC ?noC_word ?noC_parts ?noC_broken ?noC_marked ?noC_ahead ?noC_behind ?noC_blanks ?noC_left ?mkC ?inC ?fiC ?kpC ?l_Ci ?c_Ci ?k_Ci ?l_TC ?aFO ?rdFO ?aSL ?p_at ?p_get ?p_tak ?p_rec ?l_bare ?c_bare ?k_bare ?a_int ?l_int ?c_int ?k_int ?a_num ?l_num ?c_num ?k_num ?a_seq ?l_seq ?c_seq ?k_seq ?a_name ?l_name ?c_name ?k_name ?a_names ?l_names ?c_names ?k_names ?a_req ?l_req ?c_req ?k_req ?a_rem ?l_rem ?c_rem ?k_rem ?a_head ?l_head ?c_head ?k_head ?a_box ?l_box ?c_box ?k_box ?a_take ?l_take ?c_take ?k_take ?a_pick ?l_pick ?c_pick ?k_pick ?a_lname ?l_lname ?c_lname ?k_lname ?a_lpiece ?l_lpiece ?c_lpiece ?k_lpiece ?a_made ?l_made ?c_made ?k_made ?a_flat ?l_flat ?c_flat ?k_flat ?a_gap ?l_gap ?c_gap ?k_gap ?a_shape ?l_shape ?c_shape ?k_shape ?a_size ?l_size ?c_size ?k_size ?a_form ?l_form ?c_form ?k_form ?a_lforms ?l_lforms ?c_lforms ?k_lforms ?a_lform ?l_lform ?c_lform ?k_lform ?a_law ?l_law ?c_law ?k_law ?z_int ?z_bool ?z_str ?z_list ?z_tuple ?z_dict ?z_isinstance ?z_len ?z_all ?z_any ?z_abs ?z_range ?z_enumerate ?z_zip ?z_max ?z_min ?z_repr ?z_sorted
    (case hn => k_is)
    (case ht => k_is)
    (case aC => k_is)
    (case pgC => k_is)
    (case hdC => k_is)
    (case poC => k_is)
    (case saC => k_is)
    (case caC => k_is)
    (case moC => k_is)
    (case nlC => k_is)
    (case ntC => k_is)
    (case nbC => k_is)
    (case tyC => k_is)
    (case noC_word => k_is)
    (case noC_parts => k_is)
    (case noC_broken => k_is)
    (case noC_marked => k_is)
    (case noC_ahead => k_is)
    (case noC_behind => k_is)
    (case noC_blanks => k_is)
    (case noC_left => k_is)
    (case mkC => k_is)
    (case inC => k_is)
    (case fiC => k_is)
    (case kpC => k_is)
    (case l_Ci => k_is)
    (case c_Ci => k_is)
    (case k_Ci => k_is)
    (case l_TC => k_is)
    (case aFO => k_is)
    (case rdFO => kernel_rfl)
    (case aSL => k_is)
    (case p_at => k_is)
    (case p_get => k_is)
    (case p_tak => k_is)
    (case p_rec => k_is)
    (case l_bare => k_is)
    (case c_bare => k_is)
    (case k_bare => k_is)
    (case a_int => k_is)
    (case l_int => k_is)
    (case c_int => k_is)
    (case k_int => k_is)
    (case a_num => k_is)
    (case l_num => k_is)
    (case c_num => k_is)
    (case k_num => k_is)
    (case a_seq => k_is)
    (case l_seq => k_is)
    (case c_seq => k_is)
    (case k_seq => k_is)
    (case a_name => k_is)
    (case l_name => k_is)
    (case c_name => k_is)
    (case k_name => k_is)
    (case a_names => k_is)
    (case l_names => k_is)
    (case c_names => k_is)
    (case k_names => k_is)
    (case a_req => k_is)
    (case l_req => k_is)
    (case c_req => k_is)
    (case k_req => k_is)
    (case a_rem => k_is)
    (case l_rem => k_is)
    (case c_rem => k_is)
    (case k_rem => k_is)
    (case a_head => k_is)
    (case l_head => k_is)
    (case c_head => k_is)
    (case k_head => k_is)
    (case a_box => k_is)
    (case l_box => k_is)
    (case c_box => k_is)
    (case k_box => k_is)
    (case a_take => k_is)
    (case l_take => k_is)
    (case c_take => k_is)
    (case k_take => k_is)
    (case a_pick => k_is)
    (case l_pick => k_is)
    (case c_pick => k_is)
    (case k_pick => k_is)
    (case a_lname => k_is)
    (case l_lname => k_is)
    (case c_lname => k_is)
    (case k_lname => k_is)
    (case a_lpiece => k_is)
    (case l_lpiece => k_is)
    (case c_lpiece => k_is)
    (case k_lpiece => k_is)
    (case a_made => k_is)
    (case l_made => k_is)
    (case c_made => k_is)
    (case k_made => k_is)
    (case a_flat => k_is)
    (case l_flat => k_is)
    (case c_flat => k_is)
    (case k_flat => k_is)
    (case a_gap => k_is)
    (case l_gap => k_is)
    (case c_gap => k_is)
    (case k_gap => k_is)
    (case a_shape => k_is)
    (case l_shape => k_is)
    (case c_shape => k_is)
    (case k_shape => k_is)
    (case a_size => k_is)
    (case l_size => k_is)
    (case c_size => k_is)
    (case k_size => k_is)
    (case a_form => k_is)
    (case l_form => k_is)
    (case c_form => k_is)
    (case k_form => k_is)
    (case a_lforms => k_is)
    (case l_lforms => k_is)
    (case c_lforms => k_is)
    (case k_lforms => k_is)
    (case a_lform => k_is)
    (case l_lform => k_is)
    (case c_lform => k_is)
    (case k_lform => k_is)
    (case a_law => k_is)
    (case l_law => k_is)
    (case c_law => k_is)
    (case k_law => k_is)
    (case z_int => k_is)
    (case z_bool => k_is)
    (case z_str => k_is)
    (case z_list => k_is)
    (case z_tuple => k_is)
    (case z_dict => k_is)
    (case z_isinstance => k_is)
    (case z_len => k_is)
    (case z_all => k_is)
    (case z_any => k_is)
    (case z_abs => k_is)
    (case z_range => k_is)
    (case z_enumerate => k_is)
    (case z_zip => k_is)
    (case z_max => k_is)
    (case z_min => k_is)
    (case z_repr => k_is)
    (case z_sorted => k_is)
