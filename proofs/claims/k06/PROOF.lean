import PyProof.Rows.All
import Wide.All
import OpenK.AllK
import Wide.FinOn
import PyProof.EqAt
import PyProof.EqKinds
import PyProof.TupleCall
import PyProof.DictUpdate
import PyProof.ListStr
import OpenK.KEqL
import KE.GoesMore
import KE.KExcIs
import KE.KStar
import KE.KCallOwn
import KE.KParD
import HandS.Base
import HandS.Call
import HandS.List
import HandS.Dict
import HandS.More
import HandS.Exc
import HandS.Slots
import HandS.Star
import HandS.MakeKw
import HandS.ForMost
import HandS.Codes
import HandS.Walk
import HandS.WordsExc
import HandS.Style
import HandS.ExcIs
import HandS.ExcInit
import HandS.ExcField
import HandS.TupAny
import HandS.IsInst
import HandS.StrMore
import HandS.Defaults
import HandS.ExcOwn
import HandS.RaiseMore
import HandS.Text
import HandS.OwnEq
import HandS.NoneIn
import HandS.ExcValue
import HandS.Zip
import HandS.FStr
import HandS.Comp
import HandS.DictComp
import HandS.Property
import HandS.CallLocal
import HandS.WrittenGet
import PyProof.StrLawsRepr
import PyProof.StrLawsTight
import PyProof.StrLawsAffix
import PyProof.Rows.StrNews2
import HandS.ClsMeth
import HandS.MakeKwOnly
import HandS.TryOnly
import HandS.ForExc
import PyProof.StrLawsChain
import HandS.ListItems
import PySem.Challenge.RW_laytwice_k06_texts_of_programs
set_option Elab.async false
set_option linter.all false
set_option maxRecDepth 100000
set_option maxHeartbeats 4000000
set_option pp.maxSteps 1500
/-! Keywords: a def with ** that is called with keywords, a class that is called with **. -/
namespace KwX
open PySem PySem.Spec PyProof.Rows L2 StX

/-! ### a dict merged into another one (mergeMapping) -/
section
variable {prog : Program} {w : World} {Kt : Type} [DecidableEq Kt] {knd : KeyKind prog w Kt} {A : Around} {E : Value → Shared → Prop} {s : Shared}
theorem wpAny_dictPut {d : Addr} {kvs : List (Kt × Value)} {k : Kt} {key v : Value} {Q : Unit → Shared → Prop} (hkey : knd.is k key = true) (hm : s.heap.DictOf knd d kvs)
    (hQ : ∀ h', h'.DictOf knd d (stored kvs k v) → Heap.SameBut d s.heap h' → Q () { s with heap := h' })
    (hsz : kvs.length ≤ sizeLine) :
    wpAny (model prog w) A (dictPut d (knd.hash k) key v) Q E s := by
  obtain ⟨o, es, ep, ho, hc, hd, hk, hp, hn⟩ := hm
  have hes : es.size ≤ sizeLine := by
    have e1 := hp.length
    have e2 : es.toList.length = es.size := by simp
    omega
  unfold dictPut
  refine wpAny_bind (wpAny_dictFind_of hkey ho hd hk ?_)
  have hidx : (es.findIdx? fun e => knd.is k e.key) = kvs.findIdx? fun kv => decide (kv.1 = k) := by
    rw [← hp.findIdx k]; obtain ⟨l⟩ := es; simp
  cases hi : es.findIdx? fun e => knd.is k e.key with
  | some i =>
    refine wpAny_updateDict ho hd (hQ _ ⟨_, _, ep, Heap.get?_update_self _ ho (Obj.isFreed_of_dict (Obj.data_mapDict hd _)),
      hc.mapDict _, Obj.data_mapDict hd _, hk.modify _ _, ?_, ?_⟩ (Heap.SameBut.update ..))
    · rw [stored, if_pos (any_of_findIdx_some (hidx ▸ hi))]
      have hl : (es.toList.findIdx? fun e => knd.is k e.key) = some i := by rw [← hi]; obtain ⟨l⟩ := es; simp
      have := hp.modify hn hl v
      obtain ⟨l⟩ := es
      simpa using this
    · rw [stored, if_pos (any_of_findIdx_some (hidx ▸ hi)), keys_map_store]; exact hn
  | none =>
    have hnot : k ∉ kvs.map (·.1) := not_mem_of_findIdx_none (hidx ▸ hi)
    have hany : ¬ (kvs.any fun kv => decide (kv.1 = k)) = true := by
      rw [List.any_eq_true]; rintro ⟨kv, hkv, he⟩
      exact hnot (List.mem_map.mpr ⟨kv, hkv, of_decide_eq_true he⟩)
    refine wpAny_updateDictKeys (hz := hes) ho hd (hQ _ ⟨_, _, ep + 1, Heap.get?_update_self _ ho (Obj.isFreed_of_dict (Obj.data_mapDictKeys hd _)),
      hc.mapDictKeys _, Obj.data_mapDictKeys hd _, hk.push hkey _, ?_, ?_⟩ (Heap.SameBut.update ..))
    · rw [stored, if_neg hany]
      have := hp.append hkey (knd.hash k) v
      obtain ⟨l⟩ := es
      simpa using this
    · rw [stored, if_neg hany, List.map_append, List.nodup_append]
      refine ⟨hn, by simp, ?_⟩
      intro a ha b hb
      simp only [List.map_cons, List.map_nil, List.mem_singleton] at hb
      subst hb
      exact fun e => hnot (e ▸ ha)

theorem wpAny_mergeMapping {u : Bool} {d o : Addr} {kvs more : List (Kt × Value)} {Q : Unit → Shared → Prop} (hdo : d ≠ o) (hoS : (o == sysModules) = false)
    (hd : s.heap.DictOf knd d kvs) (ho : s.heap.DictOf knd o more) (hu : u = true → ((kvs ++ more).map (·.1)).Nodup)
    (hQ : ∀ h', h'.DictOf knd d (merged kvs more) → h'.DictOf knd o more → Heap.SameBut d s.heap h' → Q () { s with heap := h' })
    (hsz : kvs.length + more.length ≤ sizeLine) :
    wpAny (model prog w) A (mergeMapping d (.ref o) u) Q E s := by
  obtain ⟨od, esd, epd, hod, hcd, hdd, hkd, hpd, hnd⟩ := id hd
  obtain ⟨oo, eso, epo, hoo, hco, hdo', hko, hpo, hno⟩ := id ho
  have hlen : more.length = eso.size := by rw [← hpo.length]; simp
  have hT : s.TypeIs (.ref o) "dict" := ⟨oo, hoo, hco.1⟩
  unfold mergeMapping
  refine wpAny_bind (wpAny_isInstance (T := "dict") hT PySem.F.sub_dict_dict ?_)
  dsimp only
  rw [if_pos rfl]
  refine wpAny_bind (wpAny_specialOf hT PySem.F.slot_dict_iter.lookup ?_)
  have hb : ((some (Value.builtin "dict.__iter__")) == some (Value.builtin "dict.__iter__")) = true := by decide +kernel
  refine wpAny_bind (wpAny_pure ?_)
  rw [hb]
  dsimp only
  rw [if_neg (by rw [hoS]; exact Bool.false_ne_true)]
  refine wpAny_bind (wpAny_dictEntries hod hdd ?_)
  have loop : wpAny (model prog w) A (do
      let l ← dictEntries o
      let epoch ← dictEpoch o
      forIn (List.range l.size) PUnit.unit fun i (_ : PUnit) => do
          let l' ← dictEntries o
          match l'[i]? with
            | some e => do
              holding [e.key, e.val]
                  (have jp := fun (_ : Unit) => dictPut d e.hash e.key e.val
                   if u = true then do
                     let f ← dictFind d e.key e.hash
                     if f.isSome = true then do
                       rule "dict.merge.duplicate-key"
                       let x ← newExc (Value.type "KeyError") [e.key]
                       let r ← raiseNew x
                       jp r
                     else jp ()
                   else jp ())
              let ep' ← dictEpoch o
              if (ep' != epoch) = true then do
                unsupported "dict.changed-during-merge"
                pure (ForInStep.yield PUnit.unit)
              else pure (ForInStep.yield PUnit.unit)
            | x => do
              unsupported "dict.changed-during-merge"
              pure (ForInStep.yield PUnit.unit)
      pure ()) Q E s := by
    refine wpAny_bind (wpAny_dictEntries hoo hdo' ?_)
    refine wpAny_bind (wpAny_dictEpoch hoo hdo' ?_)
    refine wpAny_bind ?_
    rw [List.range_eq_range']
    refine wpAny_forIn_list _
      (fun rest _ s' => ∃ h' i, s' = { s with heap := h' } ∧ rest = List.range' i (eso.size - i) ∧ i ≤ eso.size ∧ h'.DictOf knd d (merged kvs (more.take i)) ∧ h'.get? o = some oo ∧ Heap.SameBut d s.heap h')
      _ ?_ ?_ _ _ ⟨s.heap, 0, rfl, by simp, Nat.zero_le _, by simpa [merged] using hd, hoo, Heap.SameBut.refl _ _⟩
    · rintro x rest b s' ⟨h', i, rfl, hr, hi, hd', hoo', hs'⟩
      have hlt : i < eso.size := by
        rcases Nat.lt_or_ge i eso.size with h | h
        · exact h
        · rw [Nat.sub_eq_zero_of_le h] at hr; simp at hr
      obtain ⟨rfl, hrest⟩ : x = i ∧ rest = List.range' (i + 1) (eso.size - (i + 1)) := by
        have e : eso.size - i = (eso.size - (i + 1)) + 1 := by omega
        rw [e, List.range'_succ] at hr
        injection hr with h1 h2
        exact ⟨h1, h2⟩
      refine wpAny_bind (wpAny_dictEntries hoo' hdo' ?_)
      rw [Array.getElem?_eq_getElem hlt]
      obtain ⟨kv, hkv⟩ : ∃ kv, more[x]? = some kv := ⟨more[x]'(by rw [hlen]; exact hlt), List.getElem?_eq_getElem _⟩
      obtain ⟨k, v⟩ := kv
      obtain ⟨hkey, hval⟩ := hpo.get? (e := eso[x]) (by simp [hlt]) hkv
      obtain ⟨k', hkey', hhash⟩ := hko eso[x] (Array.getElem_mem hlt)
      obtain rfl : k' = k := knd.inj _ _ _ hkey' hkey
      have hmx : (merged kvs (more.take x)).length ≤ sizeLine := by
        have e1 := merged_length_le kvs (more.take x)
        have e2 : (more.take x).length ≤ more.length := by rw [List.length_take]; omega
        omega
      dsimp only
      rw [hhash, hval]
      refine wpAny_bind (wpAny_holding ?_)
      cases u
      case' true =>
        obtain ⟨o1, es1, ep1, ho1, hc1, hd1, hk1, hp1, hn1⟩ := id hd'
        rw [if_pos rfl]
        refine wpAny_bind (wpAny_dictFind_of hkey' ho1 hd1 hk1 ?_)
        have hno1 : (es1.findIdx? fun e => knd.is k' e.key) = none := by
          have e0 : (es1.findIdx? fun e => knd.is k' e.key) = es1.toList.findIdx? fun e => knd.is k' e.key := by obtain ⟨l⟩ := es1; simp
          rw [e0, hp1.findIdx k', List.findIdx?_eq_none_iff]
          intro kv hkv1
          refine decide_eq_false fun e => ?_
          have hN := hu rfl
          have eT : more = more.take x ++ (k', v) :: more.drop (x + 1) := by
            have l1 : x < more.length := by rw [hlen]; exact hlt
            have := List.getElem?_eq_some_iff.mp hkv
            obtain ⟨l2, e2⟩ := this
            rw [← e2]
            simp
          have hN2 : ((kvs ++ more.take x).map (·.1)).Nodup := by
            rw [eT, ← List.append_assoc, List.map_append] at hN
            exact (List.nodup_append.mp hN).1
          rw [merged_append_of_fresh _ _ hN2] at hkv1
          rw [eT, ← List.append_assoc, List.map_append] at hN
          exact (List.nodup_append.mp hN).2.2 kv.1 (List.mem_map_of_mem hkv1) k' (by simp) e
        rw [hno1]
      all_goals
        refine wpAny_dictPut hkey' hd' (fun h'' hd'' hs'' => ?_) hmx
        have hoo'' : h''.get? o = some oo := (hs''.2 o (Ne.symm hdo)).trans hoo'
        refine wpAny_bind (wpAny_dictEpoch hoo'' hdo' ?_)
        rw [if_neg (by simp)]
        exact wpAny_pure ⟨h'', x + 1, rfl, hrest, hlt, by rw [merged_take_succ kvs more x (k', v) hkv]; exact hd'', hoo'', hs'.trans hs''⟩
    · rintro b s' ⟨h', i, rfl, hr, hi, hd', hoo', hs'⟩
      have hin : i = eso.size := by
        rcases Nat.lt_or_ge i eso.size with h | h
        · have e : eso.size - i = (eso.size - (i + 1)) + 1 := by omega
          rw [e, List.range'_succ] at hr; exact nomatch hr
        · exact Nat.le_antisymm hi h
      refine wpAny_pure (hQ h' ?_ ⟨oo, eso, epo, hoo', hco, hdo', hko, hpo, hno⟩ hs')
      rw [hin, ← hlen, List.take_length] at hd'; exact hd'
  split
  · refine wpAny_bind (wpAny_dictEntries hoo hdo' ?_)
    refine wpAny_bind ?_
    have scan : ∀ (l : List DictEntry), (∀ e ∈ l, ∃ k, knd.is k e.key = true) → ∀ (g : DictEntry → PUnit → Sem (ForInStep PUnit)), (∀ e, (∀ a, e.key ≠ .ref a) → g e ⟨⟩ = pure (.yield ⟨⟩)) → ∀ {R : PUnit → Shared → Prop}, R ⟨⟩ s → wpAny (model prog w) A (forIn l PUnit.unit g) R E s := by
      intro l hl g hg R hR
      induction l with
      | nil => rw [List.forIn_nil]; exact wpAny_pure hR
      | cons e l ih =>
        obtain ⟨k, hk⟩ := hl e (List.mem_cons_self ..)
        rw [List.forIn_cons, hg e (fun a z => by have := knd.byValue k _ hk; rw [z] at this; cases this)]
        exact wpAny_bind (wpAny_pure (ih fun e he => hl e (List.mem_cons_of_mem _ he)))
    rw [← Array.forIn_toList]
    refine scan _ (fun e he => ?_) _ (fun e he => ?_) loop
    · obtain ⟨k, hk, _⟩ := hko e (Array.mem_def.mpr he)
      exact ⟨k, hk⟩
    · cases q : e.key with
      | ref a => exact absurd q (he a)
      | _ => rfl
  · exact loop
end
end KwX
set_option Elab.async false
set_option linter.all false
set_option maxRecDepth 100000
set_option maxHeartbeats 4000000
set_option pp.maxSteps 1500
namespace KwX
open PySem PySem.Spec PyProof.Rows L2 StX
/-! ### C( **d) -/
section
variable {M : Model} {A : Around} {E : Value → Shared → Prop} {s : Shared}
theorem kk_call {f : Value} {first : List Value} {pos : Pos} {Q : Value → Shared → Prop} {P : Heap → Prop} {args : List (Bool × Sem Value)} {kws : List (Option Str × Sem Value)} (hst : (args.any (·.1) || kws.any (·.1.isNone)) = true)
    (hk : ∀ h, P h → ∃ k, (k = Keeper.frame ∨ k = Keeper.machine ∨ k = Keeper.boundFrame) ∧ PySem.W.Looks M h (keeperOf f) k)
    (h : wpAny M A (evalArgs f true args kws) (fun a s₁ => P s₁.heap ∧ wpAny M A (call f (first ++ a.pos) a.kw) Q E s₁) E s) : wpAny M A (callWith pos f first args kws) Q E s := by
  unfold callWith
  refine wpAny_bind (wpAny_holding (wpAny_mono h (fun a s₁ h₁ => wpAny_bind (wpAny_standAt ?_)) fun _ _ x => x))
  obtain ⟨k, hk', L⟩ := hk _ h₁.1
  simp only [hst]
  refine wpAny_bind (L.here ?_)
  have tail : ∀ {t : Sem Value}, wpAny M A t Q E s₁ → wpAny M A (t >>= fun r => holding [r] point >>= fun _ => pure r) Q E s₁ :=
    fun ht => wpAny_bind (wpAny_mono ht (fun r s₂ hr => wpAny_bind (wpAny_holding (wpAny_point (wpAny_pure hr)))) fun _ _ x => x)
  have marked (mk : Value) : wpAny M A (callMarked mk f (first ++ a.pos) a.kw) Q E s₁ := by unfold callMarked; exact Calls.wpAny_keep h₁.2
  rcases hk' with rfl | rfl | rfl <;> dsimp only <;> first | exact tail (marked _) | exact tail (wpAny_operating h₁.2)
/-- the arguments of f( **e): a new dict at d, e, its pairs merged, and read -/
theorem kk_args {f : Value} {x : Sem Value} {pos : Pos} {Q : Args → Shared → Prop}
    (h : wpAny M A (alloc ({ cls := .type "dict", data := .dict #[] } : Obj)) (fun d s1 => wpAny M A x (fun v s2 => wpAny M A (mergeMapping d v true) (fun _ s3 => wpAny M A (keywordsIn f d) (fun kw s4 => Q ⟨[], kw⟩ s4) E s3) (fun _ _ => False) s2) E s1) E s) :
    wpAny M A (evalArgs f true [] [(none, (do let v ← x; standAt pos; pure v))]) Q E s := by
  unfold evalArgs
  dsimp only
  have e0 : wpAny M A (spliced []) (fun vs s' => vs = [] ∧ s' = s) E s := by
    unfold spliced
    exact wpAny_pure ⟨rfl, rfl⟩
  refine wpAny_bind (wpAny_mono e0 (fun vs s' hv => ?_) fun _ _ z => z)
  obtain ⟨rfl, rfl⟩ := hv
  refine wpAny_bind (wpAny_pure ?_)
  dsimp only
  refine wpAny_holding ?_
  rw [if_neg (by simp)]
  unfold mergedKeywords
  refine wpAny_bind (wpAny_bind (wpAny_mono h (fun d s1 h1 => ?_) fun _ _ z => z))
  refine wpAny_bind (wpAny_holding ?_)
  refine wpAny_bind ?_
  rw [List.forIn_cons]
  refine wpAny_bind ?_
  refine wpAny_bind (wpAny_pure ?_)
  refine wpAny_bind (wpAny_bind (wpAny_mono h1 (fun v s2 h2 => wpAny_bind (wpAny_standAt (wpAny_pure ?_))) fun _ _ z => z))
  refine wpAny_bind (wpAny_onRaise (wpAny_holding (wpAny_tryCatch (wpAny_onRaise (wpAny_mono h2 (fun u s3 h3 => ?_) fun _ _ z => z.elim)))))
  refine wpAny_pure ?_
  show wpAny M A (pure ([] : List (Str × Sem Value))) _ E s3
  refine wpAny_pure ?_
  refine wpAny_pure ?_
  refine wpAny_pure ?_
  refine wpAny_bind (wpAny_pure ?_)
  exact wpAny_bind (wpAny_holding (wpAny_mono h3 (fun kw s4 h4 => wpAny_pure h4) fun _ _ z => z))
end
/-- all keys are texts: what keywordsIn tells -/
theorem wpAny_keywordsIn {P : Program} {w : World} {A : Around} {E : Value → Shared → Prop} {s : Shared} {f : Value} {d : Addr} {ks : List Str} {vs : List (Key × Value)} {Q : List (Str × Value) → Shared → Prop} (hd : s.heap.DictOf (mixKind P w) d vs)
    (hk : vs.map (·.1) = ks.map Sum.inr) (h : Q (ks.zip (vs.map (·.2))) s) : wpAny (model P w) A (keywordsIn f d) Q E s := by
  obtain ⟨o, es, ep, ho, hc, hdd, hks, hp, hn⟩ := hd
  unfold keywordsIn
  refine wpAny_bind (wpAny_dictEntries ho hdd ?_)
  rw [← Array.forIn_toList]
  generalize es.toList = el at hp
  have main : ∀ (el : List DictEntry) (vs : List (Key × Value)) (ks : List Str) (acc : List (Str × Value)), Pairs (mixKind P w) el vs → vs.map (·.1) = ks.map Sum.inr → ∀ (g : DictEntry → List (Str × Value) → Sem (ForInStep (List (Str × Value)))),
      (∀ e x t b, e.key = .str x t → g e b = pure (.yield (b ++ [(x, e.val)]))) → wpAny (model P w) A (forIn el acc g) (fun r s' => r = acc ++ ks.zip (vs.map (·.2)) ∧ s' = s) E s := by
    intro el vs ks acc hp hk g hg
    induction hp generalizing ks acc with
    | nil =>
      rw [List.forIn_nil]
      refine wpAny_pure ⟨?_, rfl⟩
      simp
    | @cons e kv es kvs h1 h2 _ ih =>
      cases ks with
      | nil => cases hk
      | cons k ks =>
        injection hk with e1 e2
        obtain ⟨t, ht⟩ : ∃ t, e.key = .str k t := by
          have e1 : kv.1 = Sum.inr k := e1
          rw [e1] at h1
          have h1 : keyIs (Sum.inr k) e.key = true := h1
          rcases keyIs_shape h1 with ⟨i, t, z, _⟩ | ⟨x, t, z, q⟩
          · cases z
          · cases z
            exact ⟨t, q⟩
        rw [List.forIn_cons, hg e k t acc ht]
        refine wpAny_bind (wpAny_pure ?_)
        refine wpAny_mono (ih ks (acc ++ [(k, e.val)]) e2) (fun r s' hr => ⟨?_, hr.2⟩) fun _ _ z => z
        rw [hr.1, h2, List.append_assoc]
        rfl
  refine wpAny_bind (wpAny_mono (main el vs ks [] hp hk _ fun e x t b he => by rw [he]) (fun r s' hr => ?_) fun _ _ z => z)
  obtain ⟨rfl, rfl⟩ := hr
  exact wpAny_pure (by rw [List.nil_append]; exact h)

/-- the pairs of a dict whose keys are these texts -/
def kvK (ks : List Str) (zs : List V) : List (Key × V) := (ks.map Sum.inr).zip zs
/-- C( **e): e a dict with text keys ks in this order; a new instance and its dict, then __init__ -/
def tMakeD (C : Addr) (ks : List Str) (sp : Sp) (gV : List V → List V → List V) (E : XK) (te : TE) : TE := fun σ H Q => ∀ d, H d = none → te σ (upd H d (.dK [])) fun y H1 => ∃ (o : Addr) (zs : List V), y = .ref o ∧ H1 d = some (.dK []) ∧ H1 o = some (.dK (kvK ks zs)) ∧ zs.length = ks.length ∧ o ≠ d ∧
  ∀ x dx, upd H1 d (.dK (kvK ks zs)) x = none → upd H1 d (.dK (kvK ks zs)) dx = none → dx ≠ x → sp (gV [.ref x] zs) (upd (upd (upd H1 d (.dK (kvK ks zs))) dx (.own x)) x (.ins C dx [])) (fun v H3 => v = .non ∧ Q (.ref x) H3) E
theorem kvK_keys {ks : List Str} {zs : List V} (h : zs.length = ks.length) : (kvK ks zs).map (·.1) = ks.map Sum.inr := by
  unfold kvK
  rw [List.map_fst_zip]
  rw [List.length_map, h]
  exact Nat.le_refl _
theorem kvK_vals {ks : List Str} {zs : List V} (h : zs.length = ks.length) : (kvK ks zs).map (·.2) = zs := by
  unfold kvK
  rw [List.map_snd_zip]
  rw [List.length_map, h]
  exact Nat.le_refl _
theorem KV.parts : ∀ {kvs : List (Key × V)} {vs : List (Key × Value)}, KV kvs vs → vs.map (·.1) = kvs.map (·.1) ∧ Vals (kvs.map (·.2)) (vs.map (·.2)) := by
  intro kvs vs r
  unfold KV at r
  induction r with
  | nil => exact ⟨rfl, .nil⟩
  | @cons p q ps qs h t ih => exact ⟨by rw [List.map_cons, List.map_cons, ih.1, h.1], .cons h.2 ih.2⟩
section
variable {X : Cx} {CX : CXT} {k : Nat} {f C : Addr} {fd : FuncData} {ps ks : List Str} {sp : Sp} {E : XK} {x : Str} {p pos kpos : Pos} {e : Expr} {te : TE} {g : List Value → List Value → List Value} {gV : List V → List V → List V}
theorem pe_makeD (M : Mk X.K C f) (F : FnOk X.prog X.w X.K X.mg X.base CX k f fd ps sp) (hr : Room (k + 1) X.A) (hg : Gl X x) (hm : X.mg x = some (.ref C)) (hb : KBn X.K fd ps (0 + 1) ks g gV) (hx : Passes CX X E)
    (he : PE X e te) (hnd : ks.Nodup) (hks : ks.length ≤ 1000) (hdb : (x == ("__debug__" : Str)) = false := by decide) (htr : keywordEach [⟨none, e, kpos⟩] X.env = [(none, eval e X.env)] := by rfl) :
    PE X (.Call (.Name x p) [] [⟨none, e, kpos⟩] pos) (tMakeD C ks sp gV E te) := by
  refine ⟨fun pins s σ H Q I h => ?_⟩
  refine wpAny_Call_Name_kw (ld_glob I hg hm ?_ hdb)
  rw [htr]
  show wpAny _ _ (callWith pos (.ref C) [] [] [(none, (do let v ← eval e X.env; standAt pos; pure v))]) _ _ _
  refine kk_call (P := fun h => X.K.In h) rfl (PySem.W.keeps_K M.kp) (kk_args (wpAny_alloc ?_))
  have I1 := I.laid (a := s.heap.objs.size) (o := .dK []) (t' := s.toks) (fun _ _ q => Heap.get?_push_of_some _ q) (Nat.le_refl _) (dk_empty s.heap I.big)
  refine thn (he.run pins _ σ _ _ I1 (h _ (I.hok.fresh (Nat.le_refl _)))) fun v s2 ⟨y, H1, I2, ry, o, zs, ey, hd, ho, hl, hne, q⟩ => ?_
  subst ey
  obtain rfl : v = Value.ref o := ry
  obtain ⟨z, hdS, vs, rel, dd⟩ := dk_of I2.hok hd
  obtain ⟨z2, hoS, vs2, rel2, dd2⟩ := dk_of I2.hok ho
  cases rel
  obtain ⟨hk2, hv2⟩ := KV.parts rel2
  rw [kvK_keys hl] at hk2
  rw [kvK_vals hl] at hv2
  have hn2 : (vs2.map (·.1)).Nodup := by
    obtain ⟨_, _, _, _, _, _, _, _, hn⟩ := id dd2
    exact hn
  refine wpAny_mergeMapping (Ne.symm hne) hoS dd dd2 (fun _ => hn2) (fun h' d1 d2 hs => ?_) (by rw [← rel2.length]; show 0 + _ ≤ _; omega)
  have e0 : merged [] vs2 = vs2 := merged_nil_of_nodup vs2 hn2
  rw [e0] at d1
  have he' : ∃ q, h'.get? s.heap.objs.size = some q := let ⟨q, _, _, hq, _⟩ := d1; ⟨q, hq⟩
  have I3 := d_write (t' := s2.toks) (ob := .dK (kvK ks zs)) I2 (by rw [hd]; exact True.intro) hs he' (dk_new z2 hdS rel2 d1)
  refine wpAny_keywordsIn d1 hk2 ⟨I3.kIn, ?_⟩
  exact run_makeN M F hr hb hx I3 .nil hv2 rfl hl q
end

/-! ### a def with ** called with keywords -/
/-- a promise by positional values vs and the values zs of keywords named ks -/
def FnRK (P : Program) (w : World) (K : PySem.W.Frag) (mg : Str → Option Value) (base : Heap) (CX : CXT) (k : Nat) (f : Addr) (ks : List Str) (sp : List V → List V → Hp → VK → XK → Prop) : Prop :=
  ∀ (A : Around) (outer : List Env) (s : Shared) (H : Hp) (us ws : List Value) (vs zs : List V) (Q : VK) (E : XK), Room k A → Env0 P w K mg base A outer s H → Vals vs us → Vals zs ws → sp vs zs H Q E →
    codeAny (model P w) A (.call (.ref f) ⟨us, ks.zip ws⟩) (CR CX outer P w H s Q E) s
/-- a dict filled by its names -/
theorem kx_nsSet {prog : Program} {w : World} {A : Around} {E : Value → Shared → Prop} {s : Shared} {d : Addr} {es : List DictEntry} {n : Nat} {k : Str} {v : Value} {Q : Unit → Shared → Prop} (hd : s.heap.get? d = some (PySem.W.dictOf es n))
    (hs : ∀ e ∈ es, e.key.isStr k = false) (hr : ∀ e ∈ es, e.refKey = false)
    (h : ∀ h', h'.get? d = some (PySem.W.dictOf (es ++ [⟨PyData.keyHash w.params k, .str k s.toks, v⟩]) (n + 1)) → Heap.SameBut d s.heap h' → Q () { s with heap := h', toks := s.toks + 1 }) :
    wpAny (model prog w) A (nsSet d k v) Q E s := by
  have e1 : es.any (·.key.isStr k) = false := by
    cases q : es.any (·.key.isStr k) with
    | false => rfl
    | true => obtain ⟨e, he, z⟩ := List.any_eq_true.mp q; rw [hs e he] at z; cases z
  have e2 : es.any (·.refKey) = false := by
    cases q : es.any (·.refKey) with
    | false => rfl
    | true => obtain ⟨e, he, z⟩ := List.any_eq_true.mp q; rw [hr e he] at z; cases z
  have e : Obj.putName k (PyData.keyHash w.params k) (.str k s.toks) v (PySem.W.dictOf es n) = PySem.W.dictOf (es ++ [⟨PyData.keyHash w.params k, .str k s.toks, v⟩]) (n + 1) := by
    rw [PySem.W.putName_dict, PySem.W.putL_new hs]
    show PySem.W.dictOf _ (if es.any (·.key.isStr k) then n else n + 1) = _
    rw [e1, if_neg Bool.false_ne_true]
  have c : aRefKeyMayBeTheName k es.toArray = false := by
    rw [aRefKeyMayBeTheName_at, ← Array.any_toList, ← Array.any_toList]
    show (!es.any (·.key.isStr k) && es.any (·.refKey)) = false
    rw [e2, Bool.and_false]
  unfold nsSet
  refine wpAny_bind (wpAny_bind (wpAny_askSetting (wpAny_pure (wpAny_bind (wpAny_mkText (wpAny_bind (wpAny_loadPart hd ?_)))))))
  dsimp only
  rw [c]
  refine wpAny_updatePart hd (h _ ?_ (Heap.SameBut.update ..))
  have z := Heap.get?_update_self (h := s.heap) (Obj.putName k (PyData.keyHash w.params k) (.str k s.toks) v) hd (by rw [e]; rfl)
  rw [e] at z
  exact z
theorem kx_fill {prog : Program} {w : World} {A : Around} {E : Value → Shared → Prop} {d : Addr} {Q : PUnit → Shared → Prop} : ∀ (ex : List (Str × Value)) (s : Shared) (es : List DictEntry) (n : Nat), s.heap.get? d = some (PySem.W.dictOf es n) →
    (∀ e ∈ es, ∀ x ∈ ex, e.key.isStr x.1 = false) → (∀ e ∈ es, e.refKey = false) → (ex.map (·.1)).Nodup →
    (∀ h', h'.get? d = some (PySem.W.dictOf (es ++ PySem.W.kwEs w.params s.toks ex) (n + ex.length)) → Heap.SameBut d s.heap h' → Q ⟨⟩ { s with heap := h', toks := s.toks + ex.length }) →
    wpAny (model prog w) A (forIn ex PUnit.unit fun x _ => (nsSet d x.1 x.2 >>= fun _ => pure (ForInStep.yield PUnit.unit))) Q E s
  | [], s, es, n, hd, _, _, _, h => by
    rw [List.forIn_nil]
    refine wpAny_pure (h s.heap ?_ (Heap.SameBut.refl ..))
    show s.heap.get? d = some (PySem.W.dictOf (es ++ []) n)
    rw [List.append_nil]
    exact hd
  | x :: r, s, es, n, hd, hs, hr, hn, h => by
    obtain ⟨hn1, hn2⟩ := List.nodup_cons.mp (show (x.1 :: r.map (·.1)).Nodup from hn)
    rw [List.forIn_cons]
    refine wpAny_bind (wpAny_bind (kx_nsSet hd (fun e he => hs e he x (.head _)) hr fun h' hd' sb => wpAny_pure ?_))
    show wpAny (model prog w) A (forIn r PUnit.unit fun x _ => (nsSet d x.1 x.2 >>= fun _ => pure (ForInStep.yield PUnit.unit))) Q E { s with heap := h', toks := s.toks + 1 }
    refine kx_fill r { s with heap := h', toks := s.toks + 1 } _ _ hd' (fun e he y hy => ?_) (fun e he => ?_) hn2 fun h'' hd'' sb' => ?_
    · rcases List.mem_append.mp he with he | he
      · exact hs e he y (.tail _ hy)
      · obtain rfl := List.mem_singleton.mp he
        show (x.1 == y.1) = false
        exact beq_eq_false_iff_ne.mpr fun q => hn1 (by rw [q]; exact List.mem_map_of_mem hy)
    · rcases List.mem_append.mp he with he | he
      · exact hr e he
      · obtain rfl := List.mem_singleton.mp he
        rfl
    · have t1 : s.toks + 1 + r.length = s.toks + (r.length + 1) := by omega
      have t2 : n + 1 + r.length = n + (r.length + 1) := by omega
      show Q ⟨⟩ { s with heap := h'', toks := s.toks + 1 + r.length }
      rw [t1]
      refine h h'' ?_ (sb.trans sb')
      rw [t2, List.append_assoc] at hd''
      exact hd''
section
variable {P : Program} {w : World} {K : PySem.W.Frag} {mg : Str → Option Value} {base : Heap} {A : Around} {outer : List Env} {s : Shared} {H : Hp}
theorem env0_to {u : HO} {h' : Heap} {t' : Nat} (e0 : Env0 P w K mg base A outer s H) (kp : ∀ b x, s.heap.get? b = some x → h'.get? b = some x) (le : s.heap.objs.size ≤ h'.objs.size) (new : ObjOk P w (upd H s.heap.objs.size u) h' s.heap.objs.size u) :
    Env0 P w K mg base A outer { s with heap := h', toks := t' } (upd H s.heap.objs.size u) := by
  refine ⟨e0.frames, e0.mod, fun b x e => ⟨kp b x (e0.bs b x e).1, ?_⟩, Nat.le_trans e0.bsz le, Heap.FunFrames.of_keeps (fun b x e _ => ⟨x, kp b x e, rfl⟩) e0.funs, fun b hb => ?_, e0.hok.laid kp (Nat.le_refl _) new, e0.bare⟩
  · rw [upd_ne (Nat.ne_of_lt (Heap.lt_size (e0.bs b x e).1))]
    exact (e0.bs b x e).2
  · obtain ⟨_, x, hx, _⟩ := e0.funs.mem hb
    rw [upd_ne (Nat.ne_of_lt (Heap.lt_size hx))]
    exact e0.frf b hb
theorem kw_pairs {prog : Program} {w : World} : ∀ (ex : List (Str × Value)) (t : Tok), Pairs (mixKind prog w) (PySem.W.kwEs w.params t ex) (ex.map fun x => (Sum.inr x.1, x.2))
  | [], _ => .nil
  | x :: r, t => .cons (mixKind_str prog w x.1 t) rfl (kw_pairs r (t + 1))
theorem kw_dict {prog : Program} {w : World} {h : Heap} {d : Addr} {ex : List (Str × Value)} {t : Tok} {n : Nat} (hd : h.get? d = some (PySem.W.dictOf (PySem.W.kwEs w.params t ex) n)) (hn : (ex.map (·.1)).Nodup) :
    h.DictOf (mixKind prog w) d (ex.map fun x => (Sum.inr x.1, x.2)) := by
  refine ⟨_, (PySem.W.kwEs w.params t ex).toArray, n, hd, ⟨rfl, rfl, rfl⟩, rfl, fun e he => ?_, kw_pairs ex t, ?_⟩
  · obtain ⟨k, u, hk, hh⟩ := PySem.W.kwEs_key ex t e (List.mem_toArray.mp he)
    exact ⟨Sum.inr k, by rw [hk]; exact mixKind_str prog w k u, hh.trans rfl⟩
  · rw [List.map_map]
    show (ex.map fun x => (Sum.inr x.1 : Key)).Nodup
    have e : (ex.map fun x => (Sum.inr x.1 : Key)) = (ex.map (·.1)).map Sum.inr := by rw [List.map_map]; rfl
    rw [e]
    exact List.Pairwise.map Sum.inr (fun a b ne z => ne (Sum.inr.inj z)) hn
theorem kv_zip : ∀ {ks : List Str} {zs : List V} {ws : List Value}, Vals zs ws → KV (kvK ks zs) ((ks.zip ws).map fun x => (Sum.inr x.1, x.2))
  | [], _, _, _ => by
    unfold kvK
    simp
    exact .nil
  | k :: ks, _, _, .nil => .nil
  | k :: ks, _, _, .cons r t => .cons ⟨rfl, r⟩ (kv_zip (ks := ks) t)
end
end KwX
set_option Elab.async false
set_option linter.all false
set_option maxRecDepth 100000
set_option maxHeartbeats 4000000
set_option pp.maxSteps 1500
namespace KwX
open PySem PySem.Spec PyProof.Rows L2 StX
section
variable {CX : CXT} {P : Program} {w : World} {K : PySem.W.Frag} {mg : Str → Option Value} {base : Heap} {k : Nat} {f : Addr} {name qual : Str} {params : Arguments} {body : List Stmt} {scope : Scope} {dV kV doc pm cdv ct oc : Value} {an od : Option Addr}
  {osl : Array (Option Value)} {N ps ks : List Str} {sp : Sp} {pd : Str}
/-- def f(a, .., **d), called with values for a, .. and keywords ks that are no parameters: a new dict of them -/
theorem fn_kw (lk : K.lookup f = some ⟨oc, od, .func (PySem.W.fnOf name qual params body scope dV kV doc pm an cdv ct), osl⟩) (hcd : PySem.W.codeIn K cdv qual = true) (S : FnScope N (ps ++ [pd]) scope) (hCX : CXUp CX) (hnd : ks.Nodup) (hks : ks.length ≤ 1000)
    (hb : ∀ us ws : List Value, us.length = ps.length → ws.length = ks.length → bindArgs (PySem.W.fnOf name qual params body scope dV kV doc pm an cdv ct) ⟨us, ks.zip ws⟩ =
      ((alloc ({ cls := .type "dict", data := .dict #[] } : Obj) : Sem Addr) >>= fun d => (forIn (ks.zip ws) PUnit.unit fun x _ => (nsSet d x.1 x.2 >>= fun _ => pure (ForInStep.yield PUnit.unit))) >>= fun _ => pure (ps.zip us ++ [(pd, Value.ref d)])))
    (hbody : ∀ (A : Around) (outer : List Env) (s : Shared) (H : Hp) (vs : List V) (Q : VK) (E : XK), Room k (A.deeper (envOfC qual scope s.heap.objs.size f cdv)) → sp vs H Q E →
      ∃ t, PSs (cxOf CX P w K mg base N qual scope f cdv A outer s H E) body t ∧ t { nx := fun _ H' => Q .non H', rt := Q } (start N vs) H) :
    FnRK P w K mg base CX (k + 1) f ks (fun vs zs H Q E => vs.length = ps.length ∧ zs.length = ks.length ∧ ∀ d, H d = none → sp (vs ++ [V.ref d]) (upd H d (.dK (kvK ks zs))) Q E) := by
  intro A outer s H us ws vs zs Q E hr e0 r rz hsp
  obtain ⟨hl, hz, hq⟩ := hsp
  have hl1 : us.length = ps.length := by rw [← r.length]; exact hl
  have hl2 : ws.length = ks.length := by rw [← rz.length]; exact hz
  have hn : H s.heap.objs.size = Option.none := e0.hok.fresh (Nat.le_refl _)
  refine run_bnd lk hcd S hr e0 (G := fun xs H2 => ∃ d, H d = none ∧ xs = vs ++ [V.ref d] ∧ H2 = upd H d (.dK (kvK ks zs))) (fun A' Ex Q' h => ?_) fun s2 H2 xs ⟨d, hd, ex, eH⟩ hr' => ?_
  · rw [hb us ws hl1 hl2]
    refine wpAny_bind (wpAny_alloc ?_)
    have hnz : ((ks.zip ws).map (·.1)).Nodup := by
      rw [List.map_fst_zip (by rw [hl2]; exact Nat.le_refl _)]
      exact hnd
    have g0 : (s.heap.push ({ cls := .type "dict", data := .dict #[] } : Obj)).get? s.heap.objs.size = some (PySem.W.dictOf [] 0) := Heap.get?_push_size _ rfl
    refine wpAny_bind (kx_fill (ks.zip ws) _ [] 0 g0 (fun _ he => nomatch he) (fun _ he => nomatch he) hnz fun h' hd' sb => wpAny_pure ?_)
    have kp : ∀ b x, s.heap.get? b = some x → h'.get? b = some x := fun b x e => by
      rw [sb.2 b (Nat.ne_of_lt (Heap.lt_size e))]
      exact Heap.get?_push_of_some _ e
    have hbig : sysModules < s.heap.objs.size := env0_big e0
    have hlen : (kvK ks zs).length ≤ sizeLine := by
      unfold kvK
      rw [List.length_zip, List.length_map, hz]
      exact Nat.le_trans (Nat.min_le_left ..) (Nat.le_trans hks (by decide))
    have new : ObjOk P w (upd H s.heap.objs.size (.dK (kvK ks zs))) h' s.heap.objs.size (.dK (kvK ks zs)) :=
      ⟨hlen, beq_eq_false_iff_ne.mpr (Ne.symm (Nat.ne_of_lt hbig)), _, kv_zip rz, kw_dict hd' hnz⟩
    have le : s.heap.objs.size ≤ h'.objs.size := Nat.le_of_lt (Heap.lt_size hd')
    have un := Un.laid (fs := frs outer) (ex := []) (H := H) (h := s.heap) (h' := h') (a := s.heap.objs.size) (o := .dK (kvK ks zs)) kp (Nat.le_refl _) hn
    have z := h _ _ (vs ++ [V.ref s.heap.objs.size]) (us ++ [Value.ref s.heap.objs.size]) (env0_to (t' := s.toks + (ks.zip ws).length) e0 kp le new) un rfl
      (fun e s' => hCX outer s H _ _ E e s' un kp rfl) (r.append (.cons rfl .nil)) (by rw [List.length_append, List.length_append, hl] <;> rfl) ⟨_, hn, rfl, rfl⟩
    rw [List.zip_append hl1.symm] at z
    exact z
  · subst ex eH
    exact hbody A outer s2 _ _ Q E hr' (hq d hd)
end
/-! ### o.m(k = v, ..) -/
def tMethKw (C : Addr) (m : Str) (sp : List V → List V → Hp → VK → XK → Prop) (E : XK) (ta : TE) (tk : TA) : TE := fun σ H Q => ta σ H fun x H1 => ∃ a dx fs, x = .ref a ∧ H1 a = some (.ins C dx fs) ∧ fs.lookup m = none ∧ tk σ H1 fun zs H2 => sp [x] zs H2 Q E
section
variable {X : Cx} {CX : CXT} {k : Nat} {f C : Addr} {ks : List Str} {sp : List V → List V → Hp → VK → XK → Prop} {E : XK} {m : Str} {pos apos : Pos} {o : Expr} {kws : List Keyword} {ta : TE} {tk : TA}
theorem run_fnRK {pins : List (Addr × Obj)} {σ : L2.St} {H : Hp} {s : Shared} {Q : VK} {us ws : List Value} {vs zs : List V} (F : FnRK X.prog X.w X.K X.mg X.base CX k f ks sp) (hr : Room k X.A) (hx : Passes CX X E) (I : Inv X pins σ H s) (r : Vals vs us) (rz : Vals zs ws) (h : sp vs zs H Q E) :
    codeAny (model X.prog X.w) X.A (.call (.ref f) ⟨us, ks.zip ws⟩) (fun r s' => match r with | .ok (.ret v) => EP X pins σ Q v s' | .ok _ => False | .error e => X.xe e s') s := by
  refine codeAny_mono (F X.A X.stack s H us ws vs zs Q E hr I.env0 r rz h) fun r s' hq => ?_
  cases r with
  | error e => exact hx pins σ H s e s' I hq
  | ok fl =>
    cases fl with
    | ret u => exact I.after hq
    | next => exact False.elim hq
    | brk => exact False.elim hq
    | cont => exact False.elim hq
theorem pe_methKw {pl : Sem Bool} (he : PE X o ta) (c : Cls X.K C) (hm : Meth X.K C m f) (F : FnRK X.prog X.w X.K X.mg X.base CX k f ks sp) (hr : Room k X.A) (hx : Passes CX X E) (hkw : PK X kws tk)
    (hall : (backToKw pos (keywordEach kws X.env)).all (·.1.isSome) = true := by rfl) (hks : (backToKw pos (keywordEach kws X.env)).filterMap (·.1) = ks := by rfl)
    (hpl : ((backTo pos (starEach [] X.env)).any (·.1) || (backToKw pos (keywordEach kws X.env)).any (·.1.isNone)) = false := by rfl)
    (ht : eval (.Call (.Attribute o m apos) [] kws pos) X.env = (do
      let ov ← eval o X.env
      standAt apos.atName
      let (f, first) ← holding [ov] (getMethod ov m pl)
      callWith pos f first (backTo pos (starEach [] X.env)) (backToKw pos (keywordEach kws X.env))) := by rfl) :
    PE X (.Call (.Attribute o m apos) [] kws pos) (tMethKw C m sp E ta tk) := by
  refine ⟨fun pins s σ H Q I h => ?_⟩
  refine PySem.W.methodCall_KW (pl := pl) (thn (he.run pins s σ H _ I h) fun u s1 ⟨x, H1, I1, rx, a, dx, fs, ex, ea, l, q⟩ => ?_) ht
  subst ex
  obtain rfl : u = Value.ref a := rx
  refine getmeth_ok I1 ea c hm l ?_
  refine PySem.W.callWith_KW0 (first := [.ref a]) (h₀ := X.base) I.ok.mod.kin hm.kp hall ?_ hpl
  refine thn (hkw.run pos pins s1 σ H1 _ I1 q) fun ws s2 ⟨zs, H2, I2, rz, q2⟩ => ⟨I2.kIn, ?_⟩
  rw [hks]
  exact wpAny_call (run_fnRK (us := [.ref a]) (vs := [.ref a]) F hr hx I2 (.cons rfl .nil) rz q2)
end
end KwX
set_option Elab.async false
set_option linter.all false
set_option maxRecDepth 100000
set_option maxHeartbeats 4000000
set_option pp.maxSteps 1500
namespace KwX
open PySem PySem.Spec PyProof.Rows L2 StX
theorem fitsN {n : Nat} (h : n ≤ 1000) : n ≤ sizeLine := Nat.le_trans h (by decide)
section
variable {X : Cx}
/-- d.update(e): dicts with keys ints and texts -/
def tDUpd (td te : TE) : TE := fun σ H Q => td σ H fun x H1 => ∃ a, x = .ref a ∧ IsD H1 a ∧ te σ H1 fun y H2 => ∃ o kvs more, y = .ref o ∧ H2 a = some (.dK kvs) ∧ H2 o = some (.dK more) ∧ a ≠ o ∧ kvs.length + more.length ≤ 1000 ∧ Q .non (upd H2 a (.dK (mergeK kvs more)))
theorem pe_dupd {o e : Expr} {td te : TE} {apos pos : Pos} (ho : PE X o td) (he : PE X e te) (m : M1 X o "update" apos e pos) : PE X (.Call (.Attribute o "update" apos) [e] [] pos) (tDUpd td te) := by
  refine ⟨fun pins s σ H Q I h => ?_⟩
  refine wpAny_Call_method m.base m.few m.line PySem.F.plainAttrs_dict PySem.F.slot_dict_update PySem.F.type_dict_update (thn (ho.run pins s σ H _ I h) fun u s1 ⟨x, H1, I1, rx, a, ex, d, q1⟩ => ?_)
  subst ex
  obtain rfl : u = Value.ref a := rx
  obtain ⟨t1, t2, _⟩ := isD_at I1 d
  refine ⟨t1, t2, ?_⟩
  rw [m.trees]
  refine Calls.callWith_builtin rfl (Calls.evalArgs_plain (Calls.spliced_cons (thn (he.run pins s1 σ H1 _ I1 q1) fun iv s2 ⟨y, H2, I2, ry, ov, kvs, more, ey, e1, e2, hne, hl, q2⟩ => Calls.spliced_nil ?_)))
  subst ey
  cases ry
  obtain ⟨z, hd, vs, rel, dd⟩ := dk_of I2.hok e1
  obtain ⟨z2, hd2, vs2, rel2, dd2⟩ := dk_of I2.hok e2
  have lz := length_mergeK more kvs
  refine call_meetsIn PySem.F.slot_dict_update dd.typeIs PySem.F.entry_dict_update (PySem.F.args_dict_update_2 _ _) (meets_dict_update (mixKind X.prog X.w) a ov hne hd2) ⟨vs, vs2, dd, dd2, by rw [← rel.length, ← rel2.length]; exact fitsN (by omega), fun h' dd' _ hs => ?_⟩
  have he' : ∃ q, h'.get? a = some q := let ⟨q, _, _, hq, _⟩ := dd'; ⟨q, hq⟩
  exact ⟨.non, _, d_write I2 (by rw [e1]; exact True.intro) hs he' (dk_new (fitsN (by omega)) hd (rel2.merge rel) dd'), rfl, q2⟩
end
section
variable {CX : CXT} {P : Program} {w : World} {K : PySem.W.Frag} {mg : Str → Option Value} {base : Heap} {k : Nat} {f : Addr} {fd : FuncData} {x qual : Str} {st : Stmt} {N ps ks : List Str} {sp : Sp} {pd : Str}
/-- a def with ** called with keywords, by its body -/
theorem fun_kw (F : Fun K x qual st f fd) (S : FnScope N (ps ++ [pd]) (defScope st)) (hCX : CXUp CX) (hnd : ks.Nodup) (hks : ks.length ≤ 1000)
    (hb : ∀ (kV doc pm : Value) (an : Option Addr) (cdv ct : Value) (us ws : List Value), us.length = ps.length → ws.length = ks.length → bindArgs (PySem.W.fnOf x qual (defArgs st) (defBody st) (defScope st) .none kV doc pm an cdv ct) ⟨us, ks.zip ws⟩ =
      ((alloc ({ cls := .type "dict", data := .dict #[] } : Obj) : Sem Addr) >>= fun d => (forIn (ks.zip ws) PUnit.unit fun x _ => (nsSet d x.1 x.2 >>= fun _ => pure (ForInStep.yield PUnit.unit))) >>= fun _ => pure (ps.zip us ++ [(pd, Value.ref d)])))
    (hbody : ∀ (cdv : Value) (A : Around) (outer : List Env) (s : Shared) (H : Hp) (vs : List V) (Q : VK) (E : XK), Room k (A.deeper (envOfC qual (defScope st) s.heap.objs.size f cdv)) → sp vs H Q E →
      ∃ t, PSs (cxOf CX P w K mg base N qual (defScope st) f cdv A outer s H E) (defBody st) t ∧ t { nx := fun _ H' => Q .non H', rt := Q } (start N vs) H) :
    FnRK P w K mg base CX (k + 1) f ks (fun vs zs H Q E => vs.length = ps.length ∧ zs.length = ks.length ∧ ∀ d, H d = none → sp (vs ++ [V.ref d]) (upd H d (.dK (kvK ks zs))) Q E) := by
  obtain ⟨oc, od, kV, doc, pm, an, cdv, ct, osl, rfl, lk, hcd⟩ := F.ex
  exact fn_kw lk hcd S hCX hnd hks (hb kV doc pm an cdv ct) fun A outer s H vs Q E hr hsp => hbody cdv A outer s H vs Q E hr hsp
end
end KwX
set_option Elab.async false
set_option linter.all false
set_option maxRecDepth 100000
set_option maxHeartbeats 4000000
namespace Lay
open PySem L2
def top (i : Nat) : Stmt := PySem.Challenge.pw_laytwice_k06_texts_of_programs.main.body.getD i (.Pass ⟨0, 0, 0, 0⟩)
abbrev sBox : Stmt := top 35
abbrev sTake : Stmt := top 36
abbrev sPick : Stmt := top 37

/-! ### the box of draws -/
def Boxy (o : HO) : Prop := ∃ g s n : Int, o = .lst [.int g, .int s, .int n]
def BoxAt (H : Hp) (b : Addr) : Prop := ∃ o, H b = some o ∧ Boxy o
/-- all that is tracked beside b is as it was -/
def Kept (b : Addr) (H H' : Hp) : Prop := ∀ a o, a ≠ b → H a = some o → H' a = some o
theorem Kept.refl (b : Addr) (H : Hp) : Kept b H H := fun _ _ _ h => h
theorem Kept.trans {b : Addr} {H H1 H2 : Hp} (x : Kept b H H1) (y : Kept b H1 H2) : Kept b H H2 := fun a o n h => y a o n (x a o n h)
theorem Kept.of_same {b : Addr} {H H' : Hp} (x : Same H H') : Kept b H H' := fun a o _ h => x a o h
theorem Kept.box {b : Addr} {H : Hp} {o : HO} : Kept b H (upd H b o) := fun a u n h => by rw [upd_ne n]; exact h
theorem Kept.new {b a : Addr} {H : Hp} {o : HO} (h : H a = none) : Kept b H (upd H a o) := fun c u _ e => by
  rw [upd_ne (ne_of_none e h)]
  exact e
theorem Same.new {a : Addr} {H : Hp} {o : HO} (h : H a = none) : Same H (upd H a o) := fun c u e => by
  rw [upd_ne (ne_of_none e h)]
  exact e
theorem BoxAt.new {b a : Addr} {H : Hp} {o : HO} (x : BoxAt H b) (h : H a = none) : BoxAt (upd H a o) b := by
  obtain ⟨u, e, y⟩ := x
  exact ⟨u, Same.new h _ _ e, y⟩
theorem BoxAt.box {b : Addr} {H : Hp} {o : HO} (y : Boxy o) : BoxAt (upd H b o) b := ⟨o, upd_same, y⟩
theorem BoxAt.ne {b a : Addr} {H : Hp} (x : BoxAt H b) (h : H a = none) : a ≠ b := by
  obtain ⟨u, e, y⟩ := x
  exact (ne_of_none e h).symm

/-- what the draws want of the module's names -/
structure TxtD (mg : Str → Option Value) : Prop where
  int : mg "int" = none
  len : mg "len" = none
  abs : mg "abs" = none
  range : mg "range" = none

def spTake : Sp := fun vs H Q _ => ∃ (b : Addr) (m : Int), vs = [.ref b, .int m] ∧ BoxAt H b ∧ 0 < m ∧ m < 1073741824 ∧
  ∀ (r : Int) (o : HO), 0 ≤ r → r < m → Boxy o → Q (.int r) (upd H b o)
def spPick (K : PySem.W.Frag) : Sp := fun vs H Q _ => ∃ (b l : Addr) (xs : List V), vs = [.ref b, .ref l] ∧ BoxAt H b ∧ l ≠ b ∧ SqL K H l xs ∧ 0 < xs.length ∧ xs.length ≤ 1000 ∧
  ∀ (v : V) (o : HO), v ∈ xs → Boxy o → Q v (upd H b o)
theorem SqL.kept {K : PySem.W.Frag} {b a : Addr} {H H' : Hp} {xs : List V} (k : Kept b H H') (n : a ≠ b) (h : SqL K H a xs) : SqL K H' a xs := by
  rcases h with (h | ⟨o, h⟩) | h
  · exact .inl (.inl (k _ _ n h))
  · exact .inl (.inr ⟨o, k _ _ n h⟩)
  · exact .inr h
theorem SqT.kept {K : PySem.W.Frag} {b a : Addr} {H H' : Hp} {xs : List V} (k : Kept b H H') (n : a ≠ b) (h : SqT K H a xs) : SqT K H' a xs := by
  rcases h with (h | ⟨o, h⟩) | h
  · exact .inl (.inl (k _ _ n h))
  · exact .inl (.inr ⟨o, k _ _ n h⟩)
  · exact .inr h

theorem lt40 {m : Int} (h : m < 1073741824) : m < 2 ^ (40 : Int).toNat := by
  have e : (2 : Int) ^ (40 : Int).toNat = 1099511627776 := by decide
  omega
section
variable {P : Program} {w : World} {K : PySem.W.Frag} {mg : Str → Option Value} {base : Heap}
theorem scTake : FnScope ["_law_box_here", "_law_many", "_law_digit", "_law_raw", "_law_wide"] ["_law_box_here", "_law_many"] (defScope sTake) := ⟨rfl, rfl, rfl, by decide +kernel, rfl, by decide +kernel, by decide +kernel⟩
theorem ok_take {f : Addr} {fd : FuncData} (F : Fun K "_law_take" "_law_take" sTake f fd) (T : TxtD mg) : FnOk P w K mg base CX0 1 f fd ["_law_box_here", "_law_many"] spTake := by
  refine F.ok scTake (fun vs H Q E h => ?_) (fun cdv A outer s H vs Q E hr h => ?_)
  · obtain ⟨b, m, rfl, _⟩ := h
    rfl
  · obtain ⟨b, m, rfl, ⟨o, hb, g, s, n, rfl⟩, hm0, hm1, k⟩ := h
    refine ⟨_, (pss_cons (ps_if (pt_cmpR op_gt (pe_ix ix_list (pv 0) pe_int (fun _ _ => rfl)) pe_int (nomark _))
      (pss_cons (ps_set (i := 2) scTake.nd rfl (.inl rfl) (pe_op op_mod (pe_callTy call_int1 (by rfl) T.int (by decide +kernel) (pa_cons (pe_ix ix_list (pv 0) pe_int (fun _ _ => rfl)) pa_nil)) (pv 1)))
      (pss_cons (ps_asg (pe_op op_fdiv (pe_ix ix_list (pv 0) pe_int (fun _ _ => rfl)) (pv 1)) (pg_sub (pv 0) pe_int set_list))
      (pss_one (ps_ret (pv 2)))))
      pss_nil)
    (pss_cons (ps_asg (pe_op op_add (pe_ix ix_list (pv 0) pe_int (fun _ _ => rfl)) pe_int) (pg_sub (pv 0) pe_int set_list))
    (pss_cons (ps_set (i := 3) scTake.nd rfl (.inl rfl) (pe_op op_mod (pe_callTy call_int1 (by rfl) T.int (by decide +kernel) (pa_cons (pe_op op_mul (pe_op op_add (pe_ix ix_list (pv 0) pe_int (fun _ _ => rfl)) (pe_op op_mul pe_int (pe_ix ix_list (pv 0) pe_int (fun _ _ => rfl)))) pe_int) pa_nil)) pe_int))
    (pss_cons (ps_asg (pe_op op_add (pe_op op_mod (pe_callTy call_int1 (by rfl) T.int (by decide +kernel) (pa_cons (pe_op op_add (pe_op op_mul (pv 3) pe_int) pe_int) pa_nil)) pe_int) pe_int) (pg_sub (pv 0) pe_int set_list))
    (pss_cons (ps_if (pt_cmpR op_lt (pv 1) (pe_op op_pow pe_int pe_int) (nomark _))
      (pss_one (ps_ret (pe_op op_mod (pe_callTy call_int1 (by rfl) T.int (by decide +kernel) (pa_cons (pe_op op_fdiv (pe_op op_add (pe_op op_mul (pv 3) pe_int) (pe_ix ix_list (pv 0) pe_int (fun _ _ => rfl))) pe_int) pa_nil)) (pv 1))))
      pss_nil)
    pss_never))))), ?_⟩
    refine ⟨_, rfl, b, _, _, _, rfl, rfl, SqL.of hb, rfl, _, _, rfl, rfl, _, rfl, ?_⟩
    refine ite2 (fun h0 => ?_) (fun h0 => ?_)
    · refine ⟨_, rfl, b, _, _, _, rfl, rfl, SqL.of hb, rfl, .inl ⟨_, rfl, _, rfl, _, _, rfl, rfl, hm0, ?_⟩⟩
      refine ⟨_, rfl, b, _, _, _, rfl, rfl, SqL.of hb, rfl, _, rfl, _, _, rfl, rfl, ⟨hm0, hm1⟩, _, rfl, b, _, _, 0, rfl, rfl, hb, rfl, ?_⟩
      refine ⟨_, rfl, k _ _ (Int.emod_nonneg _ (by omega)) (Int.emod_lt_of_pos _ hm0) ⟨_, _, _, rfl⟩⟩
    · refine ⟨_, rfl, b, _, _, _, rfl, rfl, SqL.of hb, rfl, _, _, rfl, rfl, _, rfl, b, _, _, 2, rfl, rfl, hb, rfl, ?_⟩
      refine ⟨_, rfl, b, _, _, _, rfl, rfl, SqL.of upd_same, rfl, _, rfl, b, _, _, _, rfl, rfl, SqL.of upd_same, rfl, _, _, rfl, rfl, .inl ⟨by decide, by decide⟩, _, _, rfl, rfl, _, _, rfl, rfl, .inr ⟨by decide, by decide⟩, .inl ⟨_, rfl, _, _, rfl, rfl, (by show (0 : Int) < 2147483647; decide), ?_⟩⟩
      refine ⟨_, rfl, _, _, rfl, rfl, .inr ⟨by decide, by decide⟩, _, _, rfl, rfl, .inl ⟨_, rfl, _, _, rfl, rfl, (by show (0 : Int) < 2147483629; decide), _, _, rfl, rfl, _, rfl, b, _, _, 1, rfl, rfl, upd_same, rfl, ?_⟩⟩
      rw [upd_upd]
      refine ⟨_, rfl, _, _, rfl, rfl, ⟨by decide, by decide, by decide⟩, _, _, rfl, rfl, _, rfl, ?_⟩
      refine ite2 (fun _ => ?_) (fun h1 => absurd (decide_eq_true (lt40 hm1)) h1)
      refine ⟨_, rfl, _, _, rfl, rfl, .inr ⟨by decide, by decide⟩, _, rfl, b, _, _, _, rfl, rfl, SqL.of upd_same, rfl, _, _, rfl, rfl, _, _, rfl, rfl, ⟨by decide, by decide⟩, .inl ⟨_, rfl, _, rfl, _, _, rfl, rfl, hm0, ?_⟩⟩
      exact k _ _ (Int.emod_nonneg _ (by omega)) (Int.emod_lt_of_pos _ hm0) ⟨_, _, _, rfl⟩

theorem scPick : FnScope ["_law_box_here", "_law_items"] ["_law_box_here", "_law_items"] (defScope sPick) := ⟨rfl, rfl, rfl, by decide +kernel, rfl, by decide +kernel, by decide +kernel⟩
theorem ok_pick {f fT : Addr} {fd fdT : FuncData} (F : Fun K "_law_pick" "_law_pick" sPick f fd) (T : TxtD mg) (FT : Fun K "_law_take" "_law_take" sTake fT fdT) (bT : Binds K fdT ["_law_box_here", "_law_many"] []) (gT : mg "_law_take" = some (.ref fT)) :
    FnOk P w K mg base CX0 2 f fd ["_law_box_here", "_law_items"] (spPick K) := by
  have GT : FnOk P w K mg base CX0 1 fT fdT ["_law_box_here", "_law_many"] spTake := ok_take FT T
  refine F.ok scPick (fun vs H Q E h => ?_) (fun cdv A outer s H vs Q E hr h => ?_)
  · obtain ⟨b, l, xs, rfl, _⟩ := h
    rfl
  · obtain ⟨b, l, xs, rfl, hb, hl, hs, h0, h1, k⟩ := h
    refine ⟨_, (pss_one (ps_ret (pe_ix ix_list (pv 1) (pe_call GT hr (by rfl) gT FT.kp bT .nil pass0 (pa_cons (pv 0) (pa_cons (pe_callB call_len_seq (by rfl) T.len (by decide +kernel) (pa_cons (pv 1) pa_nil)) pa_nil))) (fun _ _ => rfl)))), ?_⟩
    refine ⟨_, rfl, _, rfl, _, rfl, l, xs, rfl, .inl hs, b, _, rfl, hb, by omega, by omega, fun r o r0 r1 ho => ?_⟩
    have hr' : r.toNat < xs.length := by omega
    have er : r = ((r.toNat : Nat) : Int) := by omega
    exact ⟨l, xs, r, xs[r.toNat], rfl, rfl, SqL.kept Kept.box hl hs, at_of er (by simp [hr']), k _ _ (List.getElem_mem hr') ho⟩

def spBox (K : PySem.W.Frag) : Sp := fun vs H Q _ => ∃ (a : Addr) (ns : List Int) (i j : Int), vs = [.ref a, .int i, .int j] ∧ SqL K H a (ns.map V.int) ∧ 0 ≤ i ∧ i ≤ 1000 ∧ 0 ≤ j ∧ j ≤ 1000 ∧ ns.length ≤ 1000 ∧
  ∀ (p : Addr) (H' : Hp), Same H H' → H p = none → BoxAt H' p → Q (.ref p) H'
theorem scBox : FnScope ["_law_script", "_law_k", "_law_own", "_law_cell", "_law_seed"] ["_law_script", "_law_k", "_law_own"] (defScope sBox) := ⟨rfl, rfl, rfl, by decide +kernel, rfl, by decide +kernel, by decide +kernel⟩
theorem ok_box {f : Addr} {fd : FuncData} (F : Fun K "_law_box" "_law_box" sBox f fd) (T : TxtD mg) : FnOk P w K mg base CX0 1 f fd ["_law_script", "_law_k", "_law_own"] (spBox K) := by
  refine F.ok scBox (fun vs H Q E h => ?_) (fun cdv A outer s H vs Q E hr h => ?_)
  · obtain ⟨a, ns, i, j, rfl, _⟩ := h
    rfl
  · obtain ⟨a, ns, i, j, rfl, hs, i0, i1, j0, j1, hn, k⟩ := h
    refine ⟨_, (pss_cons (ps_set (i := 3) scBox.nd rfl (.inl rfl) (pe_op op_add (pe_op op_add (pe_op op_mul pe_int (pv 1)) (pe_op op_mul pe_int (pv 2))) pe_int))
    (C8.pss_cut (ps_if (pt_cmpR op_lt (pv 1) (pe_callB call_len_seq (by rfl) T.len (by decide +kernel) (pa_cons (pv 0) pa_nil)) (nomark _))
      (pss_one (ps_set (i := 3) scBox.nd rfl (.inl rfl) (pe_callB call_abs (by rfl) T.abs (by decide +kernel) (pa_cons (pe_ix ix_list (pv 0) (pv 1) (fun _ _ => rfl)) pa_nil))))
      (pss_one (ps_if (pt_cmpR op_gt (pe_callB call_len_seq (by rfl) T.len (by decide +kernel) (pa_cons (pv 0) pa_nil)) pe_int (nomark _))
        (pss_one (ps_set (i := 3) scBox.nd rfl (.inl rfl) (pe_op op_add (pv 3) (pe_op op_mul (pe_op op_mod (pe_callTy call_int1 (by rfl) T.int (by decide +kernel) (pa_cons (pe_callB call_abs (by rfl) T.abs (by decide +kernel) (pa_cons (pe_ix ix_list (pv 0) (pe_op op_mod (pe_callTy call_int1 (by rfl) T.int (by decide +kernel) (pa_cons (pv 1) pa_nil)) (pe_callB call_len_seq (by rfl) T.len (by decide +kernel) (pa_cons (pv 0) pa_nil))) (fun _ _ => rfl)) pa_nil)) pa_nil)) pe_int) pe_int))))
        pss_nil)))
    (pss_cons (ps_set (i := 4) scBox.nd rfl (.inl rfl) (pe_op op_add (pe_op op_mod (pe_callTy call_int1 (by rfl) T.int (by decide +kernel) (pa_cons (pe_op op_add (pe_op op_mul (pe_op op_mod (pe_callTy call_int1 (by rfl) T.int (by decide +kernel) (pa_cons (pv 3) pa_nil)) pe_int) pe_int) (pe_op op_mul pe_int (pe_op op_add (pv 1) (pe_op op_mul pe_int (pv 2))))) pa_nil)) pe_int) pe_int))
    (pss_one (ps_ret (pe_lst (pa_cons (pe_ix ix_list (pe_lst (pa_cons pe_int (pa_cons (pv 3) pa_nil))) (pe_callTy call_int1 (by rfl) T.int (by decide +kernel) (pa_cons (pe_cmpR op_ge (pv 3) (pe_op op_pow pe_int pe_int) (nomark _)) pa_nil)) (fun _ _ => rfl)) (pa_cons (pv 4) (pa_cons pe_int pa_nil))))))))), ?_⟩
    refine ⟨_, rfl, _, _, rfl, rfl, .inl ⟨by decide, by decide⟩, _, rfl, _, _, rfl, rfl, .inl ⟨by decide, by decide⟩, _, _, rfl, rfl, _, _, rfl, rfl, ?_⟩
    refine ⟨fun σ' H' => H' = H ∧ ∃ c : Int, σ' = [some (.ref a), some (.int i), some (.int j), some (.int c), none], ?_, ?_⟩
    · have hl : (ns.map V.int).length = ns.length := List.length_map ..
      refine ⟨_, rfl, _, rfl, a, _, rfl, .inl hs, _, _, rfl, rfl, _, rfl, ?_⟩
      refine ite2 (fun h => ?_) (fun h => ?_)
      · have hi : i < (ns.map V.int).length := of_decide_eq_true h
        obtain ⟨z, hz⟩ : ∃ z, (ns.map V.int)[i.toNat]? = some (V.int z) := by
          refine ⟨ns[i.toNat]'(by omega), ?_⟩
          rw [List.getElem?_map, List.getElem?_eq_getElem (by omega)]
          rfl
        exact ⟨_, rfl, _, rfl, a, _, _, _, rfl, rfl, hs, at_of (by omega) hz, _, rfl, rfl, _, rfl⟩
      · refine ⟨_, rfl, a, _, rfl, .inl hs, _, _, rfl, rfl, _, rfl, ?_⟩
        refine ite2 (fun h2 => ?_) (fun _ => ⟨rfl, _, rfl⟩)
        have h2' : (0 : Int) < (ns.map V.int).length := of_decide_eq_true h2
        have m0 := Int.emod_nonneg i (show ((ns.map V.int).length : Int) ≠ 0 by omega)
        have m1 := Int.emod_lt_of_pos i h2'
        obtain ⟨z, hz⟩ : ∃ z, (ns.map V.int)[(i % ((ns.map V.int).length : Int)).toNat]? = some (V.int z) := by
          refine ⟨ns[(i % ((ns.map V.int).length : Int)).toNat]'(by omega), ?_⟩
          rw [List.getElem?_map, List.getElem?_eq_getElem (by omega)]
          rfl
        refine ⟨_, rfl, _, rfl, _, rfl, .inl ⟨_, rfl, _, rfl, a, _, rfl, .inl hs, _, _, rfl, rfl, h2', a, _, _, _, rfl, rfl, hs, at_of (by omega) hz, _, rfl, .inl ⟨_, rfl, _, _, rfl, rfl, (by show (0 : Int) < 2147483629; decide), _, _, rfl, rfl, .inr ⟨by decide, by decide⟩, _, _, rfl, rfl, rfl, _, rfl⟩⟩⟩
    · rintro σ' H' ⟨rfl, c, rfl⟩
      refine ⟨_, rfl, .inl ⟨_, rfl, _, _, rfl, rfl, (by show (0 : Int) < 2147483629; decide), _, _, rfl, rfl, .inr ⟨by decide, by decide⟩, _, rfl, _, rfl, _, _, rfl, rfl, .inl ⟨by decide, by decide⟩, _, _, rfl, rfl, _, _, rfl, rfl, .inl ⟨by decide, by decide⟩, _, _, rfl, rfl, .inl ⟨_, rfl, _, _, rfl, rfl, (by show (0 : Int) < 2147483629; decide), _, _, rfl, rfl, ?_⟩⟩⟩
      refine ⟨_, rfl, (by show 2 ≤ sizeLine; decide), fun l hl => ⟨_, rfl, _, _, rfl, rfl, ⟨by decide, by decide, by decide⟩, _, _, rfl, rfl, .inr ⟨_, rfl, l, _, _, if (decide ((10 : Int) ^ (18 : Int).toNat ≤ c)) = true then V.int c else V.int 0, rfl, rfl, SqL.of upd_same, ?_, ?_⟩⟩⟩
      · cases decide ((10 : Int) ^ (18 : Int).toNat ≤ c) <;> rfl
      · refine ⟨_, rfl, (by show 3 ≤ sizeLine; decide), fun p hp => ?_⟩
        refine k _ _ ((Same.new hl).trans (Same.new hp)) ((Same.new hl).free hp) ⟨_, upd_same, ?_⟩
        by_cases hc : (decide ((10 : Int) ^ (18 : Int).toNat ≤ c)) = true
        · rw [if_pos hc]
          exact ⟨_, _, _, rfl⟩
        · rw [if_neg hc]
          exact ⟨_, _, _, rfl⟩
end
end Lay
set_option Elab.async false
set_option linter.all false
set_option maxRecDepth 100000
set_option maxHeartbeats 4000000
namespace Lay
open PySem L2
/-- the names of the module that must be Python's own -/
structure TxtK (mg : Str → Option Value) : Prop where
  int : mg "int" = none
  bool : mg "bool" = none
  str : mg "str" = none
  list : mg "list" = none
  tuple : mg "tuple" = none
  isinstance : mg "isinstance" = none
  len : mg "len" = none
  all : mg "all" = none
  enumerate : mg "enumerate" = none
theorem TyOf.same {K : PySem.W.Frag} {H H' : Hp} {x : V} {t : Value} (s : Same H H') (h : TyOf K H x t) : TyOf K H' x t := by
  cases h with
  | non => exact .non
  | bl b => exact .bl b
  | int i => exact .int i
  | str z => exact .str z
  | flt z => exact .flt z
  | lst e => exact .lst (s _ _ e)
  | frz e => exact .frz (s _ _ e)
  | tup e => exact .tup (s _ _ e)
  | dK e => exact .dK (s _ _ e)
  | dT e => exact .dT (s _ _ e)
  | ins e cl ha hn htk hm => exact .ins (s _ _ e) cl ha hn htk hm
theorem TyX.same {K : PySem.W.Frag} {H H' : Hp} {x : V} {t : Value} (s : Same H H') (h : TyX K H x t) : TyX K H' x t := by
  cases h with
  | base h => exact .base (TyOf.same s h)
  | byt b => exact .byt b
  | set e => exact .set (s _ _ e)
  | kList e c => exact .kList e c
  | kTuple e c => exact .kTuple e c
  | kDict e c => exact .kDict e c
  | fTuple e => exact .fTuple (s _ _ e)
  | fDict e => exact .fDict (s _ _ e)
/-- isinstance of the built-in class n -/
def IsT (K : PySem.W.Frag) (H : Hp) (x : V) (n : String) (b : Bool) : Prop := ∃ t, TyX K H x t ∧ PySem.W.kitOne K t (.type n) = some b
theorem IsT.same {K : PySem.W.Frag} {H H' : Hp} {x : V} {n : String} {b : Bool} (s : Same H H') (h : IsT K H x n b) : IsT K H' x n b := by
  obtain ⟨t, h1, h2⟩ := h
  exact ⟨t, TyX.same s h1, h2⟩
theorem isT_str {K : PySem.W.Frag} {H : Hp} {z : Str} : IsT K H (.str z) "str" true := ⟨_, .base (.str z), kit_ty (by decide +kernel)⟩
theorem isT_bl {K : PySem.W.Frag} {H : Hp} {z : Bool} : IsT K H (.bl z) "bool" true := ⟨_, .base (.bl z), kit_ty (by decide +kernel)⟩
theorem isT_int {K : PySem.W.Frag} {H : Hp} {z : Int} : IsT K H (.int z) "int" true ∧ IsT K H (.int z) "bool" false := ⟨⟨_, .base (.int z), kit_ty (by decide +kernel)⟩, ⟨_, .base (.int z), kit_ty (by decide +kernel)⟩⟩
/-- is it a list or a tuple -/
def IsSeq (K : PySem.W.Frag) (H : Hp) (x : V) (b : Bool) : Prop := ∃ t, TyX K H x t ∧ PySem.W.kitAny K t [.type "list", .type "tuple"] = some b
theorem IsSeq.same {K : PySem.W.Frag} {H H' : Hp} {x : V} {b : Bool} (s : Same H H') (h : IsSeq K H x b) : IsSeq K H' x b := by
  obtain ⟨t, h1, h2⟩ := h
  exact ⟨t, TyX.same s h1, h2⟩
theorem kitAny_lt {K : PySem.W.Frag} {t : Value} {b c : Bool} (h1 : PySem.W.kitOne K t (.type "list") = some b) (h2 : PySem.W.kitOne K t (.type "tuple") = some c) : PySem.W.kitAny K t [.type "list", .type "tuple"] = some (b || c) := by
  refine kitAny_cons h1 (fun hb => ?_) (fun hb => by rw [hb]; rfl)
  subst hb
  exact kitAny_cons h2 (fun hc => by subst hc; exact kitAny_nil) (fun hc => by rw [hc]; rfl)
/-- what is a list or a tuple of xs -/
def SqX (K : PySem.W.Frag) (H : Hp) (a : Addr) (xs : List V) : Prop := H a = some (.lst xs) ∨ H a = some (.tup xs)
theorem SqX.same {K : PySem.W.Frag} {H H' : Hp} {a : Addr} {xs : List V} (s : Same H H') (h : SqX K H a xs) : SqX K H' a xs := h.imp (s _ _) (s _ _)
theorem SqX.seq {K : PySem.W.Frag} {H : Hp} {a : Addr} {xs : List V} (h : SqX K H a xs) : IsSeq K H (.ref a) true := by
  rcases h with h | h
  · exact ⟨_, .base (.lst h), kitAny_lt (b := true) (c := false) (kit_ty (by decide +kernel)) (kit_ty (by decide +kernel))⟩
  · exact ⟨_, .base (.tup h), kitAny_lt (b := false) (c := true) (kit_ty (by decide +kernel)) (kit_ty (by decide +kernel))⟩
def nameB (z : Str) : Bool := decide (z.length ≤ 6) && (Txt.isascii z && (Txt.isalpha z && Txt.islower z))
theorem nameB_len {z : Str} (h : nameB z = true) : z.length ≤ 6 := of_decide_eq_true (Bool.and_eq_true_iff.mp h).1
/-- whether x is a name -/
def NmB (K : PySem.W.Frag) (H : Hp) (x : V) (b : Bool) : Prop := (∃ z, x = .str z ∧ z.length ≤ sizeLine ∧ b = nameB z) ∨ (b = false ∧ IsT K H x "str" false)
theorem NmB.same {K : PySem.W.Frag} {H H' : Hp} {x : V} {b : Bool} (s : Same H H') (h : NmB K H x b) : NmB K H' x b := h.imp id fun ⟨e, t⟩ => ⟨e, t.same s⟩
def remarkB (z : Str) : Bool := decide (V.str z = V.str "") || nameB z

def spInt (K : PySem.W.Frag) : Sp := fun vs H Q _ => ∃ x b c, vs = [x] ∧ IsT K H x "int" b ∧ IsT K H x "bool" c ∧ Q (.bl (b && !c)) H
def spNum (K : PySem.W.Frag) : Sp := fun vs H Q _ => ∃ (x : V) (m : Int), vs = [x, .int m] ∧ ((∃ i, x = .int i ∧ Q (.bl (decide (0 ≤ i) && decide (i < m))) H) ∨ (∃ b c, IsT K H x "int" b ∧ IsT K H x "bool" c ∧ (b && !c) = false ∧ Q (.bl false) H))
def spSeq (K : PySem.W.Frag) : Sp := fun vs H Q _ => ∃ x b, vs = [x] ∧ IsSeq K H x b ∧ ∀ H', Same H H' → Q (.bl b) H'
def spName (K : PySem.W.Frag) : Sp := fun vs H Q _ => ∃ x b, vs = [x] ∧ NmB K H x b ∧ Q (.bl b) H
/-- the items' answers -/
def NmBs (K : PySem.W.Frag) (H : Hp) (xs : List V) (bs : List Bool) : Prop := bs.length = xs.length ∧ ∀ (i : Nat) (x : V) (b : Bool), xs[i]? = some x → bs[i]? = some b → NmB K H x b
def spNames (K : PySem.W.Frag) : Sp := fun vs H Q _ => ∃ x, vs = [x] ∧ ((IsSeq K H x false ∧ ∀ H', Same H H' → Q (.bl false) H') ∨
  (∃ a xs bs, x = .ref a ∧ SqX K H a xs ∧ xs.length ≤ 1000 ∧ NmBs K H xs bs ∧ ∀ H', Same H H' → Q (.bl (decide (0 < xs.length) && bs.all id)) H'))
def spReq : Sp := fun vs H Q _ => ∃ v, vs = [.bl true, v] ∧ Q .non H
def spRem (K : PySem.W.Frag) : Sp := fun vs H Q _ => ∃ x, vs = [x] ∧ ((∃ z, x = .str z ∧ z.length ≤ sizeLine ∧ Q (.bl (remarkB z)) H) ∨ (IsT K H x "str" false ∧ Q (.bl false) H))
abbrev sInt : Stmt := top 8
abbrev sNum : Stmt := top 9
abbrev sSeq : Stmt := top 10
abbrev sName : Stmt := top 11
abbrev sNames : Stmt := top 12
abbrev sReq : Stmt := top 14
abbrev sRem : Stmt := top 15
section
variable {P : Program} {w : World} {K : PySem.W.Frag} {mg : Str → Option Value} {base : Heap}
theorem scInt : FnScope ["value"] ["value"] (defScope sInt) := ⟨rfl, rfl, rfl, by decide +kernel, rfl, by decide +kernel, by decide +kernel⟩
theorem ok_int {f : Addr} {fd : FuncData} (F : Fun K "is_integer" "is_integer" sInt f fd) (T : TxtK mg) : FnOk P w K mg base CX0 1 f fd ["value"] (spInt K) := by
  refine F.ok scInt (fun vs H Q E h => ?_) (fun cdv A outer s H vs Q E hr h => ?_)
  · obtain ⟨x, b, c, rfl, _⟩ := h
    rfl
  · obtain ⟨x, b, c, rfl, ⟨t, ty, e⟩, ⟨t', ty', e'⟩, k⟩ := h
    refine ⟨_, (pss_one (ps_ret (pe_and (pe_callB call_isi (by rfl) T.isinstance (by decide +kernel) (pa_cons (pv 0) (pa_cons (pe_bltn (v := .ty "int") (by rfl) T.int (by decide +kernel) rfl) pa_nil))) (pe_one (pe_not (pe_callB call_isi (by rfl) T.isinstance (by decide +kernel) (pa_cons (pv 0) (pa_cons (pe_bltn (v := .ty "bool") (by rfl) T.bool (by decide +kernel) rfl) pa_nil)))))))), ?_⟩
    refine ⟨_, rfl, _, _, _, _, _, rfl, .ty _, ty, e, _, rfl, ?_⟩
    refine ite2 (fun hb => ?_) (fun hb => ?_)
    · subst hb
      exact ⟨_, rfl, _, _, _, _, _, rfl, .ty _, ty', e', _, rfl, k⟩
    · have : b = false := by simpa using hb
      subst this
      exact k
theorem scNum : FnScope ["value", "many"] ["value", "many"] (defScope sNum) := ⟨rfl, rfl, rfl, by decide +kernel, rfl, by decide +kernel, by decide +kernel⟩
theorem ok_num {f fI : Addr} {fd fdI : FuncData} (F : Fun K "is_number" "is_number" sNum f fd) (GI : FnOk P w K mg base CX0 1 fI fdI ["value"] (spInt K)) (gI : mg "is_integer" = some (.ref fI)) (kI : PySem.W.keepIn K (.ref fI) = true) (bI : Binds K fdI ["value"] []) :
    FnOk P w K mg base CX0 2 f fd ["value", "many"] (spNum K) := by
  refine F.ok scNum (fun vs H Q E h => ?_) (fun cdv A outer s H vs Q E hr h => ?_)
  · obtain ⟨x, m, rfl, _⟩ := h
    rfl
  · obtain ⟨x, m, rfl, h⟩ := h
    refine ⟨_, (pss_one (ps_ret (pe_and (pe_call GI hr (by rfl) gI kI bI .nil pass0 (pa_cons (pv 0) pa_nil)) (pe_one (pe_chain op_le op_lt pe_int (pv 0) (pv 1)))))), ?_⟩
    rcases h with ⟨i, rfl, k⟩ | ⟨b, c, h1, h2, h3, k⟩
    · refine ⟨_, rfl, _, true, false, rfl, isT_int.1, isT_int.2, _, rfl, ?_⟩
      refine ⟨_, rfl, _, _, rfl, rfl, _, rfl, ?_⟩
      refine ite2 (fun hb => ?_) (fun hb => ?_)
      · refine ⟨_, rfl, _, _, rfl, rfl, ?_⟩
        rw [hb, Bool.true_and] at k
        exact k
      · have : decide (0 ≤ i) = false := by simpa using hb
        rw [this, Bool.false_and] at k
        exact k
    · refine ⟨_, rfl, _, b, c, rfl, h1, h2, _, rfl, ?_⟩
      rw [h3]
      exact k
theorem scSeq : FnScope ["value"] ["value"] (defScope sSeq) := ⟨rfl, rfl, rfl, by decide +kernel, rfl, by decide +kernel, by decide +kernel⟩
theorem ok_seq {f : Addr} {fd : FuncData} (F : Fun K "is_sequence" "is_sequence" sSeq f fd) (T : TxtK mg) : FnOk P w K mg base CX0 1 f fd ["value"] (spSeq K) := by
  refine F.ok scSeq (fun vs H Q E h => ?_) (fun cdv A outer s H vs Q E hr h => ?_)
  · obtain ⟨x, b, rfl, _⟩ := h
    rfl
  · obtain ⟨x, b, rfl, ⟨t, ty, e⟩, k⟩ := h
    refine ⟨_, (pss_one (ps_ret (pe_callB call_isiT (by rfl) T.isinstance (by decide +kernel) (pa_cons (pv 0) (pa_cons (pe_tup (pa_cons (pe_bltn (v := .ty "list") (by rfl) T.list (by decide +kernel) rfl) (pa_cons (pe_bltn (v := .ty "tuple") (by rfl) T.tuple (by decide +kernel) rfl) pa_nil))) pa_nil))))), ?_⟩
    refine ⟨_, rfl, (by show 2 ≤ sizeLine; decide), fun p hp => ?_⟩
    exact ⟨x, p, _, t, _, b, rfl, upd_same, .cons (.ty _) (.cons (.ty _) .nil), TyX.same (Same.new hp) ty, e, k _ (Same.new hp)⟩
theorem scName : FnScope ["value"] ["value"] (defScope sName) := ⟨rfl, rfl, rfl, by decide +kernel, rfl, by decide +kernel, by decide +kernel⟩
theorem ok_name {f : Addr} {fd : FuncData} (F : Fun K "is_name" "is_name" sName f fd) (T : TxtK mg) : FnOk P w K mg base CX0 1 f fd ["value"] (spName K) := by
  refine F.ok scName (fun vs H Q E h => ?_) (fun cdv A outer s H vs Q E hr h => ?_)
  · obtain ⟨x, b, rfl, _⟩ := h
    rfl
  · obtain ⟨x, b, rfl, h, k⟩ := h
    refine ⟨_, (pss_cons (ps_if (pt_not (pt_val (pe_callB call_isi (by rfl) T.isinstance (by decide +kernel) (pa_cons (pv 0) (pa_cons (pe_bltn (v := .ty "str") (by rfl) T.str (by decide +kernel) rfl) pa_nil)))))
      (pss_one (ps_ret pe_bl))
      pss_nil)
    (pss_one (ps_ret (pe_and (pe_cmpR op_le (pe_callB call_len_str (by rfl) T.len PySem.boot_len (pa_cons (pv 0) pa_nil)) pe_int (nomark _)) (pe_and (pe_m0 PySem.F.slot_str_isascii PySem.F.type_str_isascii mt_isascii (pv 0)) (pe_and (pe_m0 PySem.F.slot_str_isalpha PySem.F.type_str_isalpha mt_isalpha (pv 0)) (pe_one (pe_m0 PySem.F.slot_str_islower PySem.F.type_str_islower mt_islower (pv 0))))))))), ?_⟩
    rcases h with ⟨z, rfl, hz, rfl⟩ | ⟨rfl, t, ty, e⟩
    · obtain ⟨t, ty, e⟩ := isT_str (K := K) (H := H) (z := z)
      refine ⟨_, rfl, _, _, _, _, _, rfl, .ty _, ty, e, _, rfl, ?_⟩
      refine ⟨_, rfl, _, rfl, hz, _, _, rfl, rfl, _, rfl, ?_⟩
      have e0 : decide (((z.length : Nat) : Int) ≤ 6) = decide (z.length ≤ 6) := by
        by_cases q : z.length ≤ 6
        · rw [decide_eq_true q, decide_eq_true (by omega)]
        · rw [decide_eq_false q, decide_eq_false (by omega)]
      unfold nameB at k
      refine ite2 (fun h1 => ?_) (fun h1 => ?_)
      · rw [e0] at h1
        rw [h1, Bool.true_and] at k
        refine ⟨_, rfl, ⟨_, rfl⟩, _, rfl, rfl, trivial, _, rfl, ?_⟩
        refine ite2 (fun h2 => ?_) (fun h2 => ?_)
        · rw [h2, Bool.true_and] at k
          refine ⟨_, rfl, ⟨_, rfl⟩, _, rfl, rfl, trivial, _, rfl, ?_⟩
          refine ite2 (fun h3 => ?_) (fun h3 => ?_)
          · rw [h3, Bool.true_and] at k
            exact ⟨_, rfl, ⟨_, rfl⟩, _, rfl, rfl, trivial, k⟩
          · have : Txt.isalpha z = false := by simpa using h3
            rw [this, Bool.false_and] at k
            exact k
        · have : Txt.isascii z = false := by simpa using h2
          rw [this, Bool.false_and] at k
          exact k
      · rw [e0] at h1
        have : decide (z.length ≤ 6) = false := by simpa using h1
        rw [this, Bool.false_and] at k
        exact k
    · exact ⟨_, rfl, _, _, _, _, _, rfl, .ty _, ty, e, _, rfl, k⟩
theorem scNames : FnScope ["value", "one"] ["value"] (defScope sNames) := ⟨rfl, rfl, rfl, by decide +kernel, rfl, by decide +kernel, by decide +kernel⟩
theorem ok_names {f fS fN : Addr} {fd fdS fdN : FuncData} (F : Fun K "are_names" "are_names" sNames f fd) (T : TxtK mg) (GS : FnOk P w K mg base CX0 1 fS fdS ["value"] (spSeq K)) (gS : mg "is_sequence" = some (.ref fS)) (kS : PySem.W.keepIn K (.ref fS) = true) (bS : Binds K fdS ["value"] [])
    (GN : FnOk P w K mg base CX0 1 fN fdN ["value"] (spName K)) (gN : mg "is_name" = some (.ref fN)) (kN : PySem.W.keepIn K (.ref fN) = true) (bN : Binds K fdN ["value"] []) : FnOk P w K mg base CX0 2 f fd ["value"] (spNames K) := by
  refine F.ok scNames (fun vs H Q E h => ?_) (fun cdv A outer s H vs Q E hr h => ?_)
  · obtain ⟨x, rfl, _⟩ := h
    rfl
  · obtain ⟨x, rfl, h⟩ := h
    rcases h with ⟨h, k⟩ | ⟨a, xs, bs, rfl, hx, hl, hb, k⟩
    · refine ⟨_, (pss_cons (ps_if (pt_not (pt_val (pe_call GS hr (by rfl) gS kS bS .nil pass0 (pa_cons (pv 0) pa_nil)))) (pss_one (ps_ret pe_bl)) pss_nil) pss_never), ?_⟩
      exact ⟨_, rfl, _, false, rfl, h, fun H' s => ⟨_, rfl, k H' s⟩⟩
    · have fin : ∀ H1 l, Same H H1 → H1 l = some (.lst (bs.map V.bl)) → (Q (.bl (bs.all id)) H1 ↔ Q (.bl (bs.all id)) H1) := fun _ _ _ _ => Iff.rfl
      have turn : ∀ {G : Hp} {D : Addr} {i : Nat} {x : V}, Same H G → xs[i]? = some x → ∃ b, bs[i]? = some b ∧ NmB K G x b := fun {G D i x} s hi => by
        have li := (List.getElem?_eq_some_iff.mp hi).1
        rw [← hb.1] at li
        exact ⟨bs[i], by simp [li], (hb.2 i x _ hi (by simp [li])).same s⟩
      rcases hx with hx | hx
      · refine ⟨_, (pss_cons (ps_if (pt_not (pt_val (pe_call GS hr (by rfl) gS kS bS .nil pass0 (pa_cons (pv 0) pa_nil)))) (pss_one (ps_ret pe_bl)) pss_nil)
          (pss_one (ps_ret (pe_and (pe_cmpR op_gt (pe_callB call_len_seq (by rfl) T.len PySem.boot_len (pa_cons (pv 0) pa_nil)) pe_int (nomark _)) (pe_one (pe_callB (cr_all rfl) (by rfl) T.all (by decide +kernel) (pa_cons
            (pe_lc (own := [("one", 1)]) (g := gName 1) (tt := tYes) (by rfl) scNames.nd (pi_list (pv 0)) (blkOk_by (N := ["value", "one"]) (sc := defScope sNames) (by decide +kernel)) (fun _ _ _ _ _ => pg_name (i := 1) scNames.nd rfl (Or.inl rfl)) (fun _ _ _ _ _ => pts_nil) (fun _ _ _ _ _ => pe_call GN hr (by rfl) gN kN bN .nil pass0 (pa_cons (pv 1) pa_nil))) pa_nil))))))), ?_⟩
        refine ⟨_, rfl, _, true, rfl, SqX.seq (.inl hx), fun H1 s1 => ⟨_, rfl, ?_⟩⟩
        refine ⟨_, rfl, a, xs, rfl, .inl (SqL.of (s1 _ _ hx)), _, _, rfl, rfl, _, rfl, ?_⟩
        have e0 : decide (((xs.length : Nat) : Int) > 0) = decide (0 < xs.length) := by
          by_cases q : 0 < xs.length
          · rw [decide_eq_true q, decide_eq_true (by omega)]
          · rw [decide_eq_false q, decide_eq_false (by omega)]
        refine ite2 (fun h1 => ?_) (fun h1 => ?_)
        · have h2 : decide (0 < xs.length) = true := by rw [← e0]; exact h1
          rw [h2] at k
          refine ⟨_, rfl, a, rfl, ⟨_, SqL.of (s1 _ _ hx)⟩, fun D nD => lc_list (K := K) (a := a) (xs := xs) (fun i G => Same H1 G ∧ G D = some (.lst ((bs.take i).map V.bl))) ⟨Same.new nD, upd_same⟩ (fun i G _ q => SqL.of (q.1 _ _ (s1 _ _ hx))) ?_ ?_⟩
          · rintro i x G hi ⟨sG, hD⟩
            obtain ⟨b, eb, nb⟩ := turn (D := D) (s1.trans sG) hi
            refine ⟨rfl, _, rfl, x, b, rfl, nb, _, hD, ?_, fun c u e => by rw [upd_ne (ne_of_none e nD)]; exact sG _ _ e, ?_⟩
            · rw [List.length_map, List.length_take]
              have : i < xs.length := (List.getElem?_eq_some_iff.mp hi).1
              exact small1000 (by omega)
            · rw [upd_same, List.take_succ, eb, List.map_append]
              rfl
          · rintro G ⟨sG, hD⟩
            refine ⟨D, bs, rfl, ?_, ?_⟩
            · rw [← hb.1, List.take_length] at hD
              exact SqL.of hD
            · exact k G (s1.trans sG)
        · have h2 : decide (0 < xs.length) = false := by rw [← e0]; simpa using h1
          rw [h2] at k
          exact k H1 s1
      · refine ⟨_, (pss_cons (ps_if (pt_not (pt_val (pe_call GS hr (by rfl) gS kS bS .nil pass0 (pa_cons (pv 0) pa_nil)))) (pss_one (ps_ret pe_bl)) pss_nil)
          (pss_one (ps_ret (pe_and (pe_cmpR op_gt (pe_callB call_len_seq (by rfl) T.len PySem.boot_len (pa_cons (pv 0) pa_nil)) pe_int (nomark _)) (pe_one (pe_callB (cr_all rfl) (by rfl) T.all (by decide +kernel) (pa_cons
            (pe_lc (own := [("one", 1)]) (g := gName 1) (tt := tYes) (by rfl) scNames.nd (pi_tup (pv 0)) (blkOk_by (N := ["value", "one"]) (sc := defScope sNames) (by decide +kernel)) (fun _ _ _ _ _ => pg_name (i := 1) scNames.nd rfl (Or.inl rfl)) (fun _ _ _ _ _ => pts_nil) (fun _ _ _ _ _ => pe_call GN hr (by rfl) gN kN bN .nil pass0 (pa_cons (pv 1) pa_nil))) pa_nil))))))), ?_⟩
        refine ⟨_, rfl, _, true, rfl, SqX.seq (.inr hx), fun H1 s1 => ⟨_, rfl, ?_⟩⟩
        refine ⟨_, rfl, a, xs, rfl, .inr (SqT.of (s1 _ _ hx)), _, _, rfl, rfl, _, rfl, ?_⟩
        have e0 : decide (((xs.length : Nat) : Int) > 0) = decide (0 < xs.length) := by
          by_cases q : 0 < xs.length
          · rw [decide_eq_true q, decide_eq_true (by omega)]
          · rw [decide_eq_false q, decide_eq_false (by omega)]
        refine ite2 (fun h1 => ?_) (fun h1 => ?_)
        · have h2 : decide (0 < xs.length) = true := by rw [← e0]; exact h1
          rw [h2] at k
          refine ⟨_, rfl, a, rfl, ⟨_, SqT.of (s1 _ _ hx)⟩, fun D nD => lc_tup (K := K) (a := a) (xs := xs) (fun i G => Same H1 G ∧ G D = some (.lst ((bs.take i).map V.bl))) ⟨Same.new nD, upd_same⟩ (fun i G _ q => SqT.of (q.1 _ _ (s1 _ _ hx))) ?_ ?_⟩
          · rintro i x G hi ⟨sG, hD⟩
            obtain ⟨b, eb, nb⟩ := turn (D := D) (s1.trans sG) hi
            refine ⟨rfl, _, rfl, x, b, rfl, nb, _, hD, ?_, fun c u e => by rw [upd_ne (ne_of_none e nD)]; exact sG _ _ e, ?_⟩
            · rw [List.length_map, List.length_take]
              have : i < xs.length := (List.getElem?_eq_some_iff.mp hi).1
              exact small1000 (by omega)
            · rw [upd_same, List.take_succ, eb, List.map_append]
              rfl
          · rintro G ⟨sG, hD⟩
            refine ⟨D, bs, rfl, ?_, ?_⟩
            · rw [← hb.1, List.take_length] at hD
              exact SqL.of hD
            · exact k G (s1.trans sG)
        · have h2 : decide (0 < xs.length) = false := by rw [← e0]; simpa using h1
          rw [h2] at k
          exact k H1 s1
theorem scReq : FnScope ["holds", "word"] ["holds", "word"] (defScope sReq) := ⟨rfl, rfl, rfl, by decide +kernel, rfl, by decide +kernel, by decide +kernel⟩
/-- require, where what is asked holds -/
theorem ok_req {f : Addr} {fd : FuncData} (F : Fun K "require" "require" sReq f fd) : FnOk P w K mg base CX0 1 f fd ["holds", "word"] spReq := by
  refine F.ok scReq (fun vs H Q E h => ?_) (fun cdv A outer s H vs Q E hr h => ?_)
  · obtain ⟨v, rfl, _⟩ := h
    rfl
  · obtain ⟨v, rfl, k⟩ := h
    exact ⟨_, pss_one (ps_if (pt_not (pt_val (pv 0))) pss_never pss_nil), _, rfl, _, rfl, k⟩
theorem scRem : FnScope ["value"] ["value"] (defScope sRem) := ⟨rfl, rfl, rfl, by decide +kernel, rfl, by decide +kernel, by decide +kernel⟩
theorem ok_rem {f fN : Addr} {fd fdN : FuncData} (F : Fun K "is_remark" "is_remark" sRem f fd) (T : TxtK mg) (GN : FnOk P w K mg base CX0 1 fN fdN ["value"] (spName K)) (gN : mg "is_name" = some (.ref fN)) (kN : PySem.W.keepIn K (.ref fN) = true) (bN : Binds K fdN ["value"] []) :
    FnOk P w K mg base CX0 2 f fd ["value"] (spRem K) := by
  refine F.ok scRem (fun vs H Q E h => ?_) (fun cdv A outer s H vs Q E hr h => ?_)
  · obtain ⟨x, rfl, _⟩ := h
    rfl
  · obtain ⟨x, rfl, h⟩ := h
    refine ⟨_, (pss_one (ps_ret (pe_and (pe_callB call_isi (by rfl) T.isinstance (by decide +kernel) (pa_cons (pv 0) (pa_cons (pe_bltn (v := .ty "str") (by rfl) T.str (by decide +kernel) rfl) pa_nil))) (pe_one (pe_or (pe_cmpR op_eq (pv 0) pe_str (nomark _)) (pe_one (pe_call GN hr (by rfl) gN kN bN .nil pass0 (pa_cons (pv 0) pa_nil)))))))), ?_⟩
    rcases h with ⟨z, rfl, hz, k⟩ | ⟨⟨t, ty, e⟩, k⟩
    · obtain ⟨t, ty, e⟩ := isT_str (K := K) (H := H) (z := z)
      refine ⟨_, rfl, _, _, _, _, _, rfl, .ty _, ty, e, _, rfl, ?_⟩
      refine ⟨_, rfl, rfl, _, rfl, ?_⟩
      unfold remarkB at k
      refine ite2 (fun h1 => ?_) (fun h1 => ?_)
      · rw [h1] at k
        exact k
      · have : decide (V.str z = V.str "") = false := by simpa using h1
        rw [this, Bool.false_or] at k
        exact ⟨_, rfl, _, _, rfl, .inl ⟨z, rfl, hz, rfl⟩, k⟩
    · exact ⟨_, rfl, _, _, _, _, _, rfl, .ty _, ty, e, _, rfl, k⟩
end
end Lay
set_option Elab.async false
set_option linter.all false
set_option maxRecDepth 100000
set_option maxHeartbeats 4000000
set_option pp.maxSteps 700
namespace Lay
open PySem PySem.Spec PyProof.Rows L2
/-- an error class with an __init__ of its own that keeps f -/
structure XC (K : PySem.W.Frag) (mg : Str → Option Value) (C fI : Addr) (x f : Str) : Prop where
  oex : OexC K C
  init : PySem.W.findIn K (.ref C) "__init__" = some (some (.ref fI))
  tI : PySem.W.typeIn K (.ref fI) = some (.type "function")
  gC : mg x = some (.ref C)
  no : PySem.W.findIn K (.ref C) f = some none
  isC : ExcC K C
  xf : XfC K C
def spInit (K : PySem.W.Frag) (C : Addr) (f : Str) : Sp := fun vs H Q _ => ∃ (a : Addr) (v : V), vs = [.ref a, v] ∧ OexC K C ∧ PySem.W.findIn K (.ref C) f = some none ∧ H a = some (exo a C none) ∧
  ∀ dx, H dx = none → dx ≠ a → Q .non (upd (upd H dx (exd dx [(f, v)])) a (exo a C (some dx)))
/-- what raising such a class comes to -/
theorem raised_at {K : PySem.W.Frag} {C a : Addr} {f : Str} {H : Hp} {v : V} {Q : XK} (T : OexC K C) (no : PySem.W.findIn K (.ref C) f = some none) (ha : H a = none)
    (k : ∀ H' d, Same H H' → H d = none → H' d = some (.xd [(f, v)]) → Q (.ref C) (some d) H') :
    spInit K C f [.ref a, v] (upd H a (exo a C none)) (fun u H2 => u = .non ∧ ∃ (d : Addr) (fs : List (Str × V)), H2 a = some (exo a C (some d)) ∧ H2 d = some (exd d fs) ∧ H d = none ∧ Q (.ref C) (some d) (upd (del H2 a) d (.xd fs))) (fun _ _ _ => False) := by
  refine ⟨a, v, rfl, T, no, upd_same, fun dx hd ne => ?_⟩
  have hd' : H dx = none := by
    rw [upd_ne ne] at hd
    exact hd
  refine ⟨rfl, dx, _, upd_same, by rw [upd_ne ne, upd_same], hd', k _ dx (fun b o e => ?_) hd' upd_same⟩
  have nb : b ≠ a := ne_of_none e ha
  have nd : b ≠ dx := ne_of_none e hd'
  rw [upd_ne nd, del_ne nb, upd_ne nb, upd_ne nd, upd_ne nb]
  exact e
/-! C(e, ..) where what is let out depends on the slots; isinstance of an exception that the suite holds, with a dict. -/
section
variable {X : Cx} {CX : CXT} {k : Nat} {f C : Addr} {fd : FuncData} {ps : List Str} {sp : Sp} {E : L2.St → XK} {x m : Str} {p pos : Pos} {e : Expr} {es : List Expr} {t : TA} {ds : List Value} {dvs : List V}
theorem run_makeS {pins : List (Addr × Obj)} {σ : L2.St} {H : Hp} {s : Shared} {Q : VK} {us : List Value} {vs : List V} (M : Mk X.K C f) (F : FnOk X.prog X.w X.K X.mg X.base CX k f fd ps sp) (hr : Room (k + 1) X.A) (hb : Binds X.K fd ps ds) (hd : Vals dvs ds)
    (hx : PassesAt CX X σ (E σ)) (I : Inv X pins σ H s) (r : Vals vs us)
    (h : ∀ x dx, H x = none → H dx = none → dx ≠ x → sp (.ref x :: (vs ++ dvs)) (upd (upd H dx (.own x)) x (.ins C dx [])) (fun v H2 => v = .non ∧ Q (.ref x) H2) (E σ)) :
    wpAny (model X.prog X.w) X.A (call (.ref C) us) (EP X pins σ Q) X.xe s := by
  have hq := h (s.heap.objs.size + 1) s.heap.objs.size (I.hok.fresh (Nat.le_succ _)) (I.hok.fresh (Nat.le_refl _)) (Nat.ne_of_lt (Nat.lt_succ_self _))
  have I2 := Inv.made (C := C) I
  have r2 : Vals (V.ref (s.heap.objs.size + 1) :: (vs ++ dvs)) (Value.ref (s.heap.objs.size + 1) :: (us ++ ds)) := .cons rfl (r.append hd)
  have hl : (Value.ref (s.heap.objs.size + 1) :: us ++ ds).length = ps.length := by
    have e := r2.length
    rw [F.len _ _ _ _ hq] at e
    exact e.symm
  refine wpAny_call (make_map (f := f) I.kIn M.makes M.init (beq_iff_eq.mp M.fn) (codeAny_mono (F.run _ X.stack _ _ ⟨Value.ref (s.heap.objs.size + 1) :: us, []⟩ (Value.ref (s.heap.objs.size + 1) :: (us ++ ds)) _ _ (E σ) (hr.make C us [])
    (I2.env0.make C us []) (hb _ (Value.ref (s.heap.objs.size + 1) :: us) I2.kIn hl) r2 hq) fun r s' hq' => ?_))
  cases r with
  | error e => exact hx pins _ _ e s' I2 hq'
  | ok fl =>
    cases fl with
    | ret u =>
      obtain ⟨v, H', I3, rv, ev, q3⟩ := I2.after hq'
      subst ev
      exact ⟨rv, ⟨V.ref (s.heap.objs.size + 1), H', I3, rfl, q3⟩⟩
    | next => exact False.elim hq'
    | brk => exact False.elim hq'
    | cont => exact False.elim hq'
def tMakeS (C : Addr) (sp : Sp) (dvs : List V) (E : L2.St → XK) (t : TA) : TE := fun σ H Q => t σ H fun vs H1 => ∀ x dx, H1 x = none → H1 dx = none → dx ≠ x → sp (.ref x :: (vs ++ dvs)) (upd (upd H1 dx (.own x)) x (.ins C dx [])) (fun v H2 => v = .non ∧ Q (.ref x) H2) (E σ)
theorem pe_makeS (M : Mk X.K C f) (F : FnOk X.prog X.w X.K X.mg X.base CX k f fd ps sp) (hr : Room (k + 1) X.A) (hg : Gl X x) (hm : X.mg x = some (.ref C)) (hb : Binds X.K fd ps ds) (hd : Vals dvs ds) (hx : ∀ σ, PassesAt CX X σ (E σ))
    (ha : PA X (e :: es) t) (hdb : (x == ("__debug__" : Str)) = false := by decide) (he : starEach (e :: es) X.env = (false, eval e X.env) :: starEach es X.env := by rfl) (hpl : (backTo pos (starEach es X.env)).any (·.1) = false := by rfl) :
    PE X (.Call (.Name x p) (e :: es) [] pos) (tMakeS C sp dvs E t) := by
  refine ⟨fun pins s σ H Q I h => ?_⟩
  refine wpAny_Call_Name_kw (ld_glob I hg hm ?_ hdb)
  refine PySem.W.callWith_K (h₀ := X.base) I.ok.mod.kin M.kp (thn (ha.run pos pins s σ H _ I h) fun us s1 ⟨vs, H1, I1, r, q⟩ => ⟨I1.kIn, ?_⟩) he hpl
  exact run_makeS M F hr hb hd (hx σ) I1 r q
/-- isinstance(e, c), e the exception that the suite holds, a dict with it -/
def rIsEX (K : PySem.W.Frag) (a : Addr) (cls : Value) (d : Option Addr) : List V → Hp → VK → Prop := fun xs H Q => ∃ (D dd : Addr) (fs : List (Str × V)) (c : V) (cv : Value) (b : Bool), xs = [.ref a, c] ∧ cls = .ref D ∧ d = some dd ∧ H dd = some (.xd fs) ∧ ExcC K D ∧ ClsV c cv ∧
  PySem.W.kitOne K (.ref D) cv = some b ∧ Q (.bl b) H
theorem call_isEX {a : Addr} {cls : Value} {d : Option Addr} {oe : Obj} {pn : List (Addr × Obj)} (hz : Zc cls d oe) (hf : ∃ vs, oe.data = .fields vs) : CallR (X.suite a ((a, oe) :: pn)) (.builtin "isinstance") (rIsEX X.K a cls d) := by
  intro pins s σ H xs us Q I r h
  obtain ⟨D, dd, fs, c, cv, b, rfl, ec, ed, hdd, C, k, e, q⟩ := h
  obtain ⟨u1, u2, rfl, r1, r2⟩ := vals2 r
  cases r1
  have e2 := k.eq r2
  subst e2 ec ed
  have hcl : (PySem.W.clsIn X.K D).isSome = true := by
    obtain ⟨cd, hc, _⟩ := PySem.W.any_some C.hd
    rw [hc]
    rfl
  obtain ⟨hget, _⟩ := I.pin (a, oe) (List.mem_append_left _ List.mem_cons_self)
  obtain ⟨vs, hv⟩ := hf
  have hx : ObjOk X.prog X.w H s.heap dd (.xd fs) := I.hok dd _ hdd
  obtain ⟨mA, hns, hrel⟩ := hx
  obtain ⟨od, ho, hl⟩ := lookIn_ns hns
  have J : PySem.W.InstAt s.heap a oe D (some od) := ⟨hget, hz.1, by unfold PySem.W.notCls; rw [hv] <;> rfl, by rw [hz.2]; exact ho⟩
  exact PySem.W.kia_one (PySem.W.kitx_exc hcl C.hg C.hk C.hs C.ha C.hn C.ht C.hm) I.kIn J e (fun z => nomatch z) fun tk => ⟨.bl b, H, I.kept (t' := tk) fun _ _ z => z, rfl, q⟩
end

abbrev sIPc : Stmt := inClass (top 3) 0
def Raised (D : Addr) (H : Hp) (z : Str) (E : XK) : Prop := ∀ H' d, Same H H' → H d = none → H' d = some (.xd [("word", .str z)]) → E (.ref D) (some d) H'
theorem Raised.same {D : Addr} {H H' : Hp} {z : Str} {E : XK} (s : Same H H') (h : Raised D H z E) : Raised D H' z E := fun G d s2 n e => h G d (s.trans s2) (s.free n) e
/-- require, whatever it is asked -/
def spReqX (D : Addr) : Sp := fun vs H Q E => ∃ (b : Bool) (z : Str), vs = [.bl b, .str z] ∧ (b = true → Q .non H) ∧ (b = false → Raised D H z E)
section
variable {P : Program} {w : World} {K : PySem.W.Frag} {mg : Str → Option Value} {base : Heap}
theorem scIPc : FnScope ["self", "word"] ["self", "word"] (defScope sIPc) := ⟨rfl, rfl, rfl, by decide +kernel, rfl, by decide +kernel, by decide +kernel⟩
theorem ok_iPc {f C : Addr} {fd : FuncData} (F : Fun K "__init__" "InvalidPiece.__init__" sIPc f fd) : FnOk P w K mg base CX0 1 f fd ["self", "word"] (spInit K C "word") := by
  refine F.ok scIPc (fun vs H Q E h => ?_) (fun cdv A outer s H vs Q E hr h => ?_)
  · obtain ⟨a, v, rfl, _⟩ := h
    rfl
  · obtain ⟨a, v, rfl, T, no, ha, k⟩ := h
    exact ⟨_, pss_one (ps_ost (pv 0) (pv 1)), _, rfl, _, rfl, a, C, rfl, T, no, .inl ⟨ha, fun dx h1 h2 => k dx h1 h2⟩⟩
theorem ok_reqX {f fI D : Addr} {fd fdI : FuncData} (F : Fun K "require" "require" sReq f fd) (Y : XC K mg D fI "InvalidPiece" "word") (GI : FnOk P w K mg base CX0 1 fI fdI ["self", "word"] (spInit K D "word")) (bI : Binds K fdI ["self", "word"] []) : FnOk P w K mg base (L2.CX P w) 3 f fd ["holds", "word"] (spReqX D) := by
  refine F.okX scReq (fun vs H Q E h => ?_) (fun cdv A outer s H vs Q E hr h => ?_)
  · obtain ⟨b, z, rfl, _⟩ := h
    rfl
  · obtain ⟨b, z, rfl, k1, k2⟩ := h
    refine ⟨_, (pss_one (ps_if (pt_not (pt_val (pv 0))) (pss_one (ps_raise rfl (takes_of rfl rfl rfl rfl) (pmk_oex Y.oex Y.init Y.tI GI hr bI .nil pass0 (by rfl) Y.gC (pa_cons (pv 1) pa_nil)))) pss_nil)), ?_⟩
    cases b with
    | true => exact ⟨_, rfl, _, rfl, k1 rfl⟩
    | false => exact ⟨_, rfl, _, rfl, _, rfl, (by show 1 ≤ 1000; decide), fun a ha => raised_at Y.oex Y.no ha fun G d s2 n e => k2 rfl G d s2 n e⟩
end
end Lay
set_option Elab.async false
set_option linter.all false
set_option maxRecDepth 100000
set_option maxHeartbeats 4000000
set_option pp.maxSteps 700
namespace Lay
open PySem PySem.Spec PyProof.Rows L2
theorem iteN {c : Bool} {A B : Prop} (h : c = false) (x : B) : if c = true then A else B := by
  rw [if_neg (by rw [h]; exact Bool.false_ne_true)]
  exact x
theorem iteY {c : Bool} {A B : Prop} (h : c = true) (x : A) : if c = true then A else B := by
  rw [if_pos h]
  exact x
theorem same_put {H H1 : Hp} {p : Addr} {o : HO} (s : Same H H1) (n : H p = none) : Same H (upd H1 p o) := fun b u e => by
  rw [upd_ne (ne_of_none e n)]
  exact s _ _ e
theorem fits {n : Nat} (h : n ≤ 1000) : n ≤ sizeLine := Nat.le_trans h (by decide)
theorem made_same {x dx : Addr} {H H' : Hp} {o : HO} (hx : H x = none) (hd : H dx = none) (k : Kept x (upd (upd H dx (.own x)) x o) H') : Same H H' := fun b u e => k b u (ne_of_none e hx) (by rw [upd_ne (ne_of_none e hx), upd_ne (ne_of_none e hd)]; exact e)
theorem fresh_own {H : Hp} {p d : Addr} {o : HO} (np : H p = none) (ne : d ≠ p) : upd H d o p = none := by
  rw [upd_ne (Ne.symm ne)]
  exact np
theorem Same.rfl {H : Hp} : Same H H := fun _ _ e => e
/-! defs by their names -/
/-- the module's names that must be Python's own -/
structure Bt (mg : Str → Option Value) : Prop where
  int : mg "int" = none
  bool : mg "bool" = none
  str : mg "str" = none
  list : mg "list" = none
  tuple : mg "tuple" = none
  dict : mg "dict" = none
  isinstance : mg "isinstance" = none
  len : mg "len" = none
  all : mg "all" = none
  any : mg "any" = none
  abs : mg "abs" = none
  range : mg "range" = none
  enumerate : mg "enumerate" = none
  zip : mg "zip" = none
  max : mg "max" = none
  min : mg "min" = none
  repr : mg "repr" = none
  sorted : mg "sorted" = none
/-- the def n as it stands behind the top -/
def Dfn (K : PySem.W.Frag) (mg : Str → Option Value) (n : Str) (st : Stmt) (ps : List Str) : Prop := ∃ f fd, Fun K n n st f fd ∧ mg n = some (.ref f) ∧ Binds K fd ps []
/-- the def n keeps a promise -/
def Has (P : Program) (w : World) (K : PySem.W.Frag) (mg : Str → Option Value) (base : Heap) (CX : CXT) (k : Nat) (n : Str) (ps : List Str) (sp : Sp) : Prop :=
  ∃ f fd, FnOk P w K mg base CX k f fd ps sp ∧ mg n = some (.ref f) ∧ PySem.W.keepIn K (.ref f) = true ∧ Binds K fd ps []
section
variable {P : Program} {w : World} {K : PySem.W.Frag} {mg : Str → Option Value} {base : Heap} {n : Str} {st : Stmt} {N ps : List Str} {k : Nat} {sp : Sp}
theorem Dfn.has (D : Dfn K mg n st ps) (S : FnScope N ps (defScope st)) (len : ∀ vs H Q E, sp vs H Q E → vs.length = ps.length)
    (hbody : ∀ (f : Addr) (cdv : Value) (A : Around) (outer : List Env) (s : Shared) (H : Hp) (vs : List V) (Q : VK) (E : XK), Room k (A.deeper (envOfC n (defScope st) s.heap.objs.size f cdv)) → sp vs H Q E →
      ∃ t, PSs (cxOf CX0 P w K mg base N n (defScope st) f cdv A outer s H E).nox (defBody st) t ∧ t { nx := fun _ H' => Q .non H', rt := Q } (start N vs) H) : Has P w K mg base CX0 (k + 1) n ps sp := by
  obtain ⟨f, fd, F, g, b⟩ := D
  exact ⟨f, fd, F.ok S len (hbody f), g, F.kp, b⟩
theorem Dfn.hasX (D : Dfn K mg n st ps) (S : FnScope N ps (defScope st)) (len : ∀ vs H Q E, sp vs H Q E → vs.length = ps.length)
    (hbody : ∀ (f : Addr) (cdv : Value) (A : Around) (outer : List Env) (s : Shared) (H : Hp) (vs : List V) (Q : VK) (E : XK), Room k (A.deeper (envOfC n (defScope st) s.heap.objs.size f cdv)) → sp vs H Q E →
      ∃ t, PSs (cxOf (L2.CX P w) P w K mg base N n (defScope st) f cdv A outer s H E) (defBody st) t ∧ t { nx := fun _ H' => Q .non H', rt := Q } (start N vs) H) : Has P w K mg base (L2.CX P w) (k + 1) n ps sp := by
  obtain ⟨f, fd, F, g, b⟩ := D
  exact ⟨f, fd, F.okX S len (hbody f), g, F.kp, b⟩
theorem Has.mono {CX : CXT} {j : Nat} (h : Has P w K mg base CX j n ps sp) (l : j ≤ k) : Has P w K mg base CX k n ps sp := by
  obtain ⟨f, fd, F, r⟩ := h
  exact ⟨f, fd, F.mono l, r⟩
theorem Has.imp {CX : CXT} {sp' : Sp} (h : Has P w K mg base CX k n ps sp) (i : ∀ vs H Q E, sp' vs H Q E → sp vs H Q E) : Has P w K mg base CX k n ps sp' := by
  obtain ⟨f, fd, F, r⟩ := h
  exact ⟨f, fd, F.imp i, r⟩
end
section
variable {X : Cx} {CX : CXT} {k : Nat} {ps : List Str} {sp : Sp} {E : XK} {n : Str} {p pos : Pos} {e : Expr} {es : List Expr} {t : TA}
theorem pe_callH (D : Has X.prog X.w X.K X.mg X.base CX k n ps sp) (hr : Room k X.A) (hg : Gl X n) (hx : Passes CX X E) (ha : PA X (e :: es) t) (hdb : (n == ("__debug__" : Str)) = false := by decide)
    (he : starEach (e :: es) X.env = (false, eval e X.env) :: starEach es X.env := by rfl) (hpl : (backTo pos (starEach es X.env)).any (·.1) = false := by rfl) : PE X (.Call (.Name n p) (e :: es) [] pos) (tCall sp [] E t) := by
  obtain ⟨f, fd, F, g, kp, b⟩ := D
  exact pe_call F hr hg g kp b .nil hx ha hdb he hpl
theorem pe_callH0 (D : Has X.prog X.w X.K X.mg X.base CX k n ps sp) (hr : Room k X.A) (hg : Gl X n) (hx : Passes CX X E) (hdb : (n == ("__debug__" : Str)) = false := by decide) : PE X (.Call (.Name n p) [] [] pos) (tCall sp [] E tNil) := by
  obtain ⟨f, fd, F, g, kp, b⟩ := D
  exact pe_call0 F hr hg g kp b .nil hx hdb
end
section
variable {X : Cx}
/-- xs == [], any xs -/
theorem op_eqNil (hu : X.A.units + 64 < cLine) : OpR X (compareOp .Eq) (fun x y H Q => ∃ a b xs, x = .ref a ∧ y = .ref b ∧ SqL X.K H a xs ∧ H b = some (.lst []) ∧ Q (.bl xs.isEmpty) H) := by
  intro pins s σ H x y v u Q I rx ry h
  obtain ⟨a, b, xs, rfl, rfl, ha, hb, q⟩ := h
  cases xs with
  | nil => exact op_eqD hu pins s σ H _ _ v u Q I rx ry ⟨.list [], .list [], .lst ha .nil, .lst (SqL.of hb) .nil, rfl, rfl, q⟩
  | cons z zs =>
    cases rx
    cases ry
    obtain ⟨its, r, p1, _⟩ := I.list ha
    obtain ⟨its2, r2, p2, _⟩ := I.list (SqL.of hb)
    cases r2
    refine SeqAt.eq_list_lengthsAt p1.isList p2.isList ?_ (by omega) ⟨.bl false, H, I, rfl, q⟩
    cases r
    rfl
end
/-! rules that name K -/
def rLenK (K : PySem.W.Frag) : List V → Hp → VK → Prop := fun xs H Q => ∃ p ys, xs = [.ref p] ∧ (SqL K H p ys ∨ SqT K H p ys) ∧ Q (.int ys.length) H
section
variable {X : Cx} {K : PySem.W.Frag}
theorem call_lenK (hK : X.K = K) : CallR X (.builtin "len") (rLenK K) := by
  subst hK
  exact call_len_seq
theorem call_isiK (hK : X.K = K) : CallR X (.builtin "isinstance") (rIsi K) := by
  subst hK
  exact call_isi
theorem call_isiTK (hK : X.K = K) : CallR X (.builtin "isinstance") (rIsiT K) := by
  subst hK
  exact call_isiT
theorem ix_listK (hK : X.K = K) : IxR X (rIxL K) := by
  subst hK
  exact ix_list
theorem op_inK (hK : X.K = K) : OpR X (compareOp .In) (rIn K false) := by
  subst hK
  exact op_in_seq
theorem op_notInK (hK : X.K = K) : OpR X (compareOp .NotIn) (rIn K true) := by
  subst hK
  exact op_notIn_seq
end
/-! a list or a tuple, walked -/
def SqK (K : PySem.W.Frag) (k : Bool) (H : Hp) (a : Addr) (xs : List V) : Prop := match k with
  | false => SqL K H a xs
  | true => SqT K H a xs
theorem SqK.same {K : PySem.W.Frag} {k : Bool} {H H' : Hp} {a : Addr} {xs : List V} (e : Same H H') (h : SqK K k H a xs) : SqK K k H' a xs := by
  cases k with
  | false =>
    rcases h with (h | ⟨o, h⟩) | h
    · exact .inl (.inl (e _ _ h))
    · exact .inl (.inr ⟨o, e _ _ h⟩)
    · exact .inr h
  | true =>
    rcases h with (h | ⟨o, h⟩) | h
    · exact .inl (.inl (e _ _ h))
    · exact .inl (.inr ⟨o, e _ _ h⟩)
    · exact .inr h
def iSq (K : PySem.W.Frag) (te : TE) : TI := fun σ H R => te σ H fun x H1 => ∃ (a : Addr) (xs : List V) (k : Bool), x = .ref a ∧ SqK K k H1 a xs ∧ ∀ J, Walk J xs.length (fun G => SqK K k G a xs) (YAt xs) → R J H1
theorem pi_sq {X : Cx} {K : PySem.W.Frag} (hK : X.K = K) {l tg : Expr} {te : TE} (hl : PE X l te) : PI X tg l (iSq K te) := by
  subst hK
  refine ⟨fun pins s σ H R I h => thn (hl.run pins s σ H _ I h) fun v s1 ⟨x, H1, I1, r1, a, xs, k, e, hq, q⟩ => ?_⟩
  subst e
  cases r1
  have done : ∀ b ∈ [s1.heap.objs.size], FpOk X pins H1 b := fun b hb => by
    rw [List.mem_singleton.mp hb]
    exact I1.fpOk (Nat.le_refl _) (I1.hok.fresh (Nat.le_refl _))
  cases k with
  | false =>
    obtain ⟨its, rv, p, hz⟩ := I1.list hq
    have q := q _ walk_list
    refine wpAny_pyIter_list p.isList ?_
    exact ⟨s1.heap.objs.size, [s1.heap.objs.size], _, _, H1, rfl, I1.kept (t' := s1.toks) fun b o e => Heap.get?_push_of_some _ e, turn_list a _, ⟨_, Heap.get?_push_size _ rfl, rfl, rfl⟩, done, q⟩
  | true =>
    obtain ⟨its, rv, p, hz⟩ := I1.tuple hq
    have q := q _ walk_tup
    refine wpAny_pyIter_tuple (show s1.heap.IsTuple a its.toArray from p) ?_
    exact ⟨s1.heap.objs.size, [s1.heap.objs.size], _, _, H1, rfl, I1.kept (t' := s1.toks) fun b o e => Heap.get?_push_of_some _ e, turn_tuple a _, ⟨_, Heap.get?_push_size _ rfl, rfl, rfl⟩, done, q⟩
/-! names, sign by sign -/
def az (c : Nat) : Bool := decide (97 ≤ c) && decide (c ≤ 122)
theorem az_iff {c : Nat} : az c = true ↔ 97 ≤ c ∧ c ≤ 122 := by
  unfold az
  rw [Bool.and_eq_true, decide_eq_true_iff, decide_eq_true_iff]
theorem ch128 : ∀ c, c < 128 → (Unicode.isAlpha c && !(Unicode.isUpper c || Unicode.isTitle c)) = az c ∧ (az c = true → Unicode.isLower c = true) := by decide +kernel
theorem nameB_eq (z : Str) : nameB z = (decide (z.length ≤ 6) && (decide (0 < z.length) && z.cps.all az)) := by
  unfold nameB Txt.isascii Txt.isalpha Txt.islower
  congr 1
  apply Bool.eq_iff_iff.mpr
  simp only [Bool.and_eq_true, decide_eq_true_iff, Array.all_eq_true', Array.any_eq_true', Bool.not_eq_true', Array.any_eq_false', gt_iff_lt]
  constructor
  · rintro ⟨h1, ⟨h2, h3⟩, _, h5⟩
    refine ⟨h2, fun c hc => ?_⟩
    rw [← (ch128 c (h1 c hc)).1, Bool.and_eq_true]
    refine ⟨h3 c hc, ?_⟩
    have := h5 c hc
    simpa using this
  · rintro ⟨h2, h3⟩
    have lt : ∀ c, c ∈ z.cps → c < 128 := fun c hc => by
      have := (az_iff.mp (h3 c hc)).2
      omega
    refine ⟨lt, ⟨h2, fun c hc => ?_⟩, ?_, fun c hc => ?_⟩
    · have := (ch128 c (lt c hc)).1
      rw [h3 c hc, Bool.and_eq_true] at this
      exact this.1
    · have h0 : 0 < z.cps.size := h2
      exact ⟨z.cps[0], Array.getElem_mem h0, (ch128 _ (lt _ (Array.getElem_mem h0))).2 (h3 _ (Array.getElem_mem h0))⟩
    · have := (ch128 c (lt c hc)).1
      rw [h3 c hc, Bool.and_eq_true] at this
      simpa using this.2
def alphaS : Str := "abcdefghijklmnopqrstuvwxyz"
theorem alpha_list : alphaS.cps.toList = List.range' 97 26 := by decide +kernel
theorem mem_alpha {c : Nat} : decide (c ∈ alphaS.cps.toList) = az c := by
  rw [alpha_list]
  apply Bool.eq_iff_iff.mpr
  rw [decide_eq_true_iff, List.mem_range'_1, az_iff]
  omega
end Lay
set_option Elab.async false
set_option linter.all false
set_option maxRecDepth 100000
set_option maxHeartbeats 4000000
namespace Lay
open PySem L2
/-- what a piece is made of -/
structure PD where
  word : Str
  parts : List Str
  broken : Bool
  marked : Bool
  ahead : Str
  behind : Str
  blanks : Int
  left : Bool
structure PD.Ok (d : PD) : Prop where
  word : nameB d.word = true
  some : 0 < d.parts.length
  few : d.parts.length ≤ 1000
  parts : ∀ z ∈ d.parts, nameB z = true
  ahead : remarkB d.ahead = true
  behind : remarkB d.behind = true
  b0 : 0 ≤ d.blanks
  b3 : d.blanks < 3
theorem remarkB_len {z : Str} (h : remarkB z = true) : z.length ≤ 6 := by
  unfold remarkB at h
  rcases Bool.or_eq_true_iff.mp h with h | h
  · have e : z = ("" : Str) := V.str.inj (of_decide_eq_true h)
    rw [e]
    decide
  · exact nameB_len h
theorem six_line {n : Nat} (h : n ≤ 6) : n ≤ sizeLine := Nat.le_trans h (by decide)
/-- its attributes, the tuple of the items at t -/
def pieceF (d : PD) (t : Addr) : List (Str × V) :=
  putF "left" (.bl d.left) (putF "blanks" (.int d.blanks) (putF "behind" (.str d.behind) (putF "ahead" (.str d.ahead) (putF "marked" (.bl d.marked) (putF "broken" (.bl d.broken) (putF "parts" (.ref t) (putF "word" (.str d.word) [])))))))
/-- at p a piece of d -/
def PieceAt (K : PySem.W.Frag) (C : Addr) (H : Hp) (p : Addr) (d : PD) : Prop := ∃ dx t, H p = some (.ins C dx (pieceF d t)) ∧ H t = some (.tup (d.parts.map V.str))
theorem SqT.same {K : PySem.W.Frag} {H H' : Hp} {a : Addr} {xs : List V} (e : Same H H') (h : SqT K H a xs) : SqT K H' a xs := by
  rcases h with (h | ⟨o, h⟩) | h
  · exact .inl (.inl (e _ _ h))
  · exact .inl (.inr ⟨o, e _ _ h⟩)
  · exact .inr h
theorem PieceAt.same {K : PySem.W.Frag} {C : Addr} {H H' : Hp} {p : Addr} {d : PD} (s : Same H H') (h : PieceAt K C H p d) : PieceAt K C H' p d := by
  obtain ⟨dx, t, h1, h2⟩ := h
  exact ⟨dx, t, s _ _ h1, s _ _ h2⟩
/-- what the class Piece says of itself -/
structure PieceC (K : PySem.W.Frag) (C : Addr) : Prop where
  cl : Cls K C
  word : NoAttr K C "word"
  parts : NoAttr K C "parts"
  broken : NoAttr K C "broken"
  marked : NoAttr K C "marked"
  ahead : NoAttr K C "ahead"
  behind : NoAttr K C "behind"
  blanks : NoAttr K C "blanks"
  left : NoAttr K C "left"
def spPieceI (C : Addr) (K : PySem.W.Frag) : Sp := fun vs H Q _ => ∃ (p a dx : Addr) (d : PD), vs = [.ref p, .str d.word, .ref a, .bl d.broken, .bl d.marked, .str d.ahead, .str d.behind, .int d.blanks, .bl d.left] ∧ d.Ok ∧ SqX K H a (d.parts.map V.str) ∧
  H p = some (.ins C dx []) ∧ ∀ H' t, Kept p H H' → H' p = some (.ins C dx (pieceF d t)) → H' t = some (.tup (d.parts.map V.str)) → Q .non H'
abbrev sPieceI : Stmt := inClass (top 20) 0
theorem few_put {f : Str} {v : V} {fs : List (Str × V)} {n : Nat} (h : fs.length ≤ n) : (putF f v fs).length ≤ n + 1 := Nat.le_trans (length_putF f v fs) (Nat.succ_le_succ h)
theorem few_1000 {fs : List (Str × V)} {n : Nat} (h : fs.length ≤ n) (hn : n < 1000) : fs.length < 1000 := Nat.lt_of_le_of_lt h hn
section
variable {P : Program} {w : World} {K : PySem.W.Frag} {mg : Str → Option Value} {base : Heap}
theorem scPi : FnScope ["self", "word", "parts", "broken", "marked", "ahead", "behind", "blanks", "left"] ["self", "word", "parts", "broken", "marked", "ahead", "behind", "blanks", "left"] (defScope sPieceI) := ⟨rfl, rfl, rfl, by decide +kernel, rfl, by decide +kernel, by decide +kernel⟩
/-- the defs that Piece asks -/
structure PieceD (P : Program) (w : World) (K : PySem.W.Frag) (mg : Str → Option Value) (base : Heap) (fR fN fM fE fU : Addr) (dR dN dM dE dU : FuncData) : Prop where
  GR : FnOk P w K mg base CX0 1 fR dR ["holds", "word"] spReq
  gR : mg "require" = some (.ref fR)
  kR : PySem.W.keepIn K (.ref fR) = true
  bR : Binds K dR ["holds", "word"] []
  GN : FnOk P w K mg base CX0 1 fN dN ["value"] (spName K)
  gN : mg "is_name" = some (.ref fN)
  kN : PySem.W.keepIn K (.ref fN) = true
  bN : Binds K dN ["value"] []
  GM : FnOk P w K mg base CX0 2 fM dM ["value"] (spNames K)
  gM : mg "are_names" = some (.ref fM)
  kM : PySem.W.keepIn K (.ref fM) = true
  bM : Binds K dM ["value"] []
  GE : FnOk P w K mg base CX0 2 fE dE ["value"] (spRem K)
  gE : mg "is_remark" = some (.ref fE)
  kE : PySem.W.keepIn K (.ref fE) = true
  bE : Binds K dE ["value"] []
  GU : FnOk P w K mg base CX0 2 fU dU ["value", "many"] (spNum K)
  gU : mg "is_number" = some (.ref fU)
  kU : PySem.W.keepIn K (.ref fU) = true
  bU : Binds K dU ["value", "many"] []
theorem ok_pieceI {f C : Addr} {fd : FuncData} {dvs : List V} {fR fN fM fE fU : Addr} {dR dN dM dE dU : FuncData} (F : FunD K "__init__" "Piece.__init__" (defArgs sPieceI) (defBody sPieceI) (defScope sPieceI) dvs [] f fd) (T : TxtK mg) (Z : PieceC K C) (D : PieceD P w K mg base fR fN fM fE fU dR dN dM dE dU) :
    FnOk P w K mg base CX0 3 f fd ["self", "word", "parts", "broken", "marked", "ahead", "behind", "blanks", "left"] (spPieceI C K) := by
  refine F.ok scPi (fun vs H Q E h => ?_) (fun cdv A outer s H vs Q E hr h => ?_)
  · obtain ⟨p, a, dx, d, rfl, _⟩ := h
    rfl
  · obtain ⟨p, a, dx, d, rfl, o, ha, hp, k⟩ := h
    have hr1 := hr.mono (show 1 ≤ 2 by decide)
    suffices h : ∃ t, PSs (cxOf CX0 P w K mg base ["self", "word", "parts", "broken", "marked", "ahead", "behind", "blanks", "left"] "Piece.__init__" (defScope sPieceI) f cdv A outer s H E).nox (defBody sPieceI) t ∧ t { nx := fun _ H' => Q .non H', rt := Q } (start ["self", "word", "parts", "broken", "marked", "ahead", "behind", "blanks", "left"] [.ref p, .str d.word, .ref a, .bl d.broken, .bl d.marked, .str d.ahead, .str d.behind, .int d.blanks, .bl d.left]) H by
      obtain ⟨t, h1, h2⟩ := h
      exact ⟨t, h1.nox, h2⟩
    refine ⟨_, (pss_cons (ps_expr (pe_call D.GR hr1 (by rfl) D.gR D.kR D.bR .nil pass0 (pa_cons (pe_call D.GN hr1 (by rfl) D.gN D.kN D.bN .nil pass0 (pa_cons (pv 1) pa_nil)) (pa_cons pe_str pa_nil))))
    (pss_cons (ps_expr (pe_call D.GR hr1 (by rfl) D.gR D.kR D.bR .nil pass0 (pa_cons (pe_call D.GM hr (by rfl) D.gM D.kM D.bM .nil pass0 (pa_cons (pv 2) pa_nil)) (pa_cons pe_str pa_nil))))
    (pss_cons (ps_expr (pe_call D.GR hr1 (by rfl) D.gR D.kR D.bR .nil pass0 (pa_cons (pe_callB call_isi (by rfl) T.isinstance (by decide +kernel) (pa_cons (pv 3) (pa_cons (pe_bltn (v := .ty "bool") (by rfl) T.bool (by decide +kernel) rfl) pa_nil))) (pa_cons pe_str pa_nil))))
    (pss_cons (ps_expr (pe_call D.GR hr1 (by rfl) D.gR D.kR D.bR .nil pass0 (pa_cons (pe_callB call_isi (by rfl) T.isinstance (by decide +kernel) (pa_cons (pv 4) (pa_cons (pe_bltn (v := .ty "bool") (by rfl) T.bool (by decide +kernel) rfl) pa_nil))) (pa_cons pe_str pa_nil))))
    (pss_cons (ps_expr (pe_call D.GR hr1 (by rfl) D.gR D.kR D.bR .nil pass0 (pa_cons (pe_call D.GE hr (by rfl) D.gE D.kE D.bE .nil pass0 (pa_cons (pv 5) pa_nil)) (pa_cons pe_str pa_nil))))
    (pss_cons (ps_expr (pe_call D.GR hr1 (by rfl) D.gR D.kR D.bR .nil pass0 (pa_cons (pe_call D.GE hr (by rfl) D.gE D.kE D.bE .nil pass0 (pa_cons (pv 6) pa_nil)) (pa_cons pe_str pa_nil))))
    (pss_cons (ps_expr (pe_call D.GR hr1 (by rfl) D.gR D.kR D.bR .nil pass0 (pa_cons (pe_call D.GU hr (by rfl) D.gU D.kU D.bU .nil pass0 (pa_cons (pv 7) (pa_cons pe_int pa_nil))) (pa_cons pe_str pa_nil))))
    (pss_cons (ps_expr (pe_call D.GR hr1 (by rfl) D.gR D.kR D.bR .nil pass0 (pa_cons (pe_callB call_isi (by rfl) T.isinstance (by decide +kernel) (pa_cons (pv 8) (pa_cons (pe_bltn (v := .ty "bool") (by rfl) T.bool (by decide +kernel) rfl) pa_nil))) (pa_cons pe_str pa_nil))))
    (pss_cons (ps_fld (pv 0) (pv 1) rfl)
    (C8.pss_cut (ps_fld (pv 0) (pe_callTy call_tuple_of (by rfl) T.tuple (by decide +kernel) (pa_cons (pv 2) pa_nil)) rfl)
    (pss_cons (ps_fld (pv 0) (pv 3) rfl)
    (pss_cons (ps_fld (pv 0) (pv 4) rfl)
    (pss_cons (ps_fld (pv 0) (pv 5) rfl)
    (pss_cons (ps_fld (pv 0) (pv 6) rfl)
    (pss_cons (ps_fld (pv 0) (pv 7) rfl)
    (pss_one (ps_fld (pv 0) (pv 8) rfl))))))))))))))))), ?_⟩
    have nap : a ≠ p := by
      rcases ha with ha | ha
      · exact ne_of ha hp (fun z => nomatch z)
      · exact ne_of ha hp (fun z => nomatch z)
    refine ⟨_, rfl, _, true, rfl, .inl ⟨_, rfl, six_line (nameB_len o.word), o.word.symm⟩, _, rfl, ?_⟩
    have hall : (decide (0 < (d.parts.map V.str).length) && (List.replicate d.parts.length true).all id) = true := by
      rw [List.length_map, decide_eq_true o.some, Bool.true_and, List.all_eq_true]
      intro b hb
      rw [(List.mem_replicate.mp hb).2]
      rfl
    refine ⟨_, rfl, _, rfl, .inr ⟨a, _, List.replicate d.parts.length true, rfl, ha, by rw [List.length_map]; exact o.few, ⟨by rw [List.length_replicate, List.length_map], fun i x b hx hb => ?_⟩, fun H1 s1 => ⟨_, by rw [hall]; rfl, ?_⟩⟩⟩
    · rw [List.getElem?_map] at hx
      cases q : d.parts[i]? with
      | none =>
        rw [q] at hx
        cases hx
      | some z =>
        rw [q] at hx
        cases hx
        have hz := o.parts z (List.mem_of_getElem? q)
        have eb : b = true := (List.mem_replicate.mp (List.mem_of_getElem? hb)).2
        exact .inl ⟨z, rfl, six_line (nameB_len hz), by rw [eb, hz]⟩
    obtain ⟨t3, y3, e3⟩ := isT_bl (K := K) (H := H1) (z := d.broken)
    refine ⟨_, rfl, _, _, _, _, _, rfl, .ty _, y3, e3, _, rfl, ?_⟩
    obtain ⟨t4, y4, e4⟩ := isT_bl (K := K) (H := H1) (z := d.marked)
    refine ⟨_, rfl, _, _, _, _, _, rfl, .ty _, y4, e4, _, rfl, ?_⟩
    refine ⟨_, rfl, _, rfl, .inl ⟨_, rfl, six_line (remarkB_len o.ahead), _, by rw [o.ahead]; rfl, ?_⟩⟩
    refine ⟨_, rfl, _, rfl, .inl ⟨_, rfl, six_line (remarkB_len o.behind), _, by rw [o.behind]; rfl, ?_⟩⟩
    refine ⟨_, rfl, _, _, rfl, .inl ⟨_, rfl, _, by rw [decide_eq_true o.b0, decide_eq_true o.b3]; rfl, ?_⟩⟩
    obtain ⟨t8, y8, e8⟩ := isT_bl (K := K) (H := H1) (z := d.left)
    refine ⟨_, rfl, _, _, _, _, _, rfl, .ty _, y8, e8, _, rfl, ?_⟩
    refine ⟨_, rfl, _, rfl, p, C, dx, _, rfl, s1 _ _ hp, Z.cl, Z.word, (by show 0 < 1000; decide), ?_⟩
    refine ⟨fun σ' G => σ' = start ["self", "word", "parts", "broken", "marked", "ahead", "behind", "blanks", "left"] [.ref p, .str d.word, .ref a, .bl d.broken, .bl d.marked, .str d.ahead, .str d.behind, .int d.blanks, .bl d.left] ∧
      ∃ t, Kept p H G ∧ t ≠ p ∧ G p = some (.ins C dx (putF "parts" (.ref t) (putF "word" (.str d.word) []))) ∧ G t = some (.tup (d.parts.map V.str)), ?_, ?_⟩
    · have k1 : Kept p H (upd H1 p (.ins C dx (putF "word" (.str d.word) []))) := (Kept.of_same s1).trans Kept.box
      rcases ha with ha | ha
      · refine ⟨_, rfl, a, _, rfl, .inl ⟨SqL.of (k1 _ _ nap ha), fun l hl => ⟨_, rfl, p, C, dx, _, rfl, Same.new hl _ _ upd_same, Z.cl, Z.parts, few_1000 (few_put (Nat.zero_le 0)) (by decide), rfl, l, (k1.trans (Kept.new hl)).trans Kept.box, ?_, upd_same, ?_⟩⟩⟩
        · intro z
          rw [z, upd_same] at hl
          cases hl
        · have nlp : l ≠ p := fun z => by
            rw [z, upd_same] at hl
            cases hl
          rw [upd_ne nlp, upd_same]
      · refine ⟨_, rfl, a, _, rfl, .inr ⟨SqT.of (k1 _ _ nap ha), _, rfl, p, C, dx, _, rfl, upd_same, Z.cl, Z.parts, few_1000 (few_put (Nat.zero_le 0)) (by decide), rfl, a, k1.trans Kept.box, nap, upd_same, (by rw [upd_ne nap]; exact k1 _ _ nap ha)⟩⟩
    · rintro σ' G ⟨rfl, t, kG, ntp, hG, ht⟩
      refine ⟨_, rfl, _, rfl, p, C, dx, _, rfl, hG, Z.cl, Z.broken, few_1000 (few_put (few_put (Nat.zero_le 0))) (by decide), ?_⟩
      refine ⟨_, rfl, _, rfl, p, C, dx, _, rfl, upd_same, Z.cl, Z.marked, few_1000 (few_put (few_put (few_put (Nat.zero_le 0)))) (by decide), ?_⟩
      refine ⟨_, rfl, _, rfl, p, C, dx, _, rfl, upd_same, Z.cl, Z.ahead, few_1000 (few_put (few_put (few_put (few_put (Nat.zero_le 0))))) (by decide), ?_⟩
      refine ⟨_, rfl, _, rfl, p, C, dx, _, rfl, upd_same, Z.cl, Z.behind, few_1000 (few_put (few_put (few_put (few_put (few_put (Nat.zero_le 0)))))) (by decide), ?_⟩
      refine ⟨_, rfl, _, rfl, p, C, dx, _, rfl, upd_same, Z.cl, Z.blanks, few_1000 (few_put (few_put (few_put (few_put (few_put (few_put (Nat.zero_le 0))))))) (by decide), ?_⟩
      refine ⟨_, rfl, _, rfl, p, C, dx, _, rfl, upd_same, Z.cl, Z.left, few_1000 (few_put (few_put (few_put (few_put (few_put (few_put (few_put (Nat.zero_le 0)))))))) (by decide), ?_⟩
      simp only [upd_upd]
      exact k _ t (kG.trans Kept.box) upd_same (Kept.box _ _ ntp ht)
end
end Lay
set_option Elab.async false
set_option linter.all false
set_option maxRecDepth 100000
set_option maxHeartbeats 4000000
set_option pp.maxSteps 1000
namespace Lay
open PySem PySem.Spec PyProof.Rows L2
theorem fitsN {n : Nat} (h : n ≤ 1000000) : n ≤ sizeLine := by rw [sizeLine_eq]; omega
theorem sum_few : ∀ {zs : List Str} {n : Nat}, (∀ z ∈ zs, z.length ≤ n) → (zs.map (·.length)).sum ≤ zs.length * n
  | [], _, _ => by simp
  | z :: zs, n, h => by
    have h1 := h z List.mem_cons_self
    have h2 := sum_few (zs := zs) fun y hy => h y (List.mem_cons_of_mem _ hy)
    rw [List.map_cons, List.sum_cons, List.length_cons, Nat.succ_mul]
    omega
theorem sjoin_le (sep : Str) : ∀ ts : List Str, (Str.join sep ts).length ≤ (ts.map (·.length)).sum + ts.length * sep.length
  | [] => by
    show (Str.join sep []).length ≤ _
    have : (Str.join sep []).length = 0 := rfl
    omega
  | [t] => by
    show t.length ≤ _
    rw [List.map_cons, List.sum_cons]
    omega
  | t :: u :: r => by
    have ih := sjoin_le sep (u :: r)
    show (t ++ sep ++ Str.join sep (u :: r)).length ≤ _
    rw [Str.length_append, Str.length_append, List.map_cons, List.sum_cons, List.length_cons, Nat.succ_mul]
    omega
theorem join_le (sep : Str) (ts : List Str) : (Txt.join sep ts).length ≤ (ts.map (·.length)).sum + ts.length * sep.length := by
  rw [TL.join_eq]
  exact sjoin_le sep ts
/-! ### the rows of a piece -/
def signS (d : PD) : Str := if d.left = true then Str.ofString "!" else Str.ofString ""
def headS (d : PD) : Str := ((Str.empty ++ signS d) ++ d.word) ++ Str.ofString "("
def tailS (d : PD) : Str := if d.behind.length = 0 then Str.ofString ")" else (Str.empty ++ Str.ofString ")  # ") ++ d.behind
def commaS (d : PD) : Str := if d.marked = true then Str.ofString "," else Str.ofString ""
def itemS (z : Str) : Str := ((Str.empty ++ Str.ofString "  ") ++ z) ++ Str.ofString ","
def lastS (d : PD) (z : Str) : Str := ((Str.empty ++ Str.ofString "  ") ++ z) ++ commaS d
def bodyS (d : PD) : List Str := if d.broken = true then headS d :: ((d.parts.dropLast.map itemS) ++ [lastS d (d.parts.getLastD Str.empty), tailS d])
  else [((headS d ++ Txt.join ", " d.parts) ++ commaS d) ++ tailS d]
def remarkS (d : PD) : List Str := if d.ahead.length = 0 then [] else [(Str.empty ++ Str.ofString "# ") ++ d.ahead]
def rowsS (d : PD) : List Str := List.replicate d.blanks.toNat (Str.ofString "") ++ (remarkS d ++ bodyS d)
def spText (K : PySem.W.Frag) (C : Addr) (g : PD → Str) : Sp := fun vs H Q _ => ∃ (p : Addr) (d : PD), vs = [.ref p] ∧ PieceAt K C H p d ∧ d.Ok ∧ d.parts.length ≤ 30 ∧ Q (.str (g d)) H
def spRowsOf (K : PySem.W.Frag) (C : Addr) (g : PD → List Str) : Sp := fun vs H Q _ => ∃ (p : Addr) (d : PD), vs = [.ref p] ∧ PieceAt K C H p d ∧ d.Ok ∧ d.parts.length ≤ 30 ∧ ∀ l H', Same H H' → H l = none → H' l = some (.lst ((g d).map V.str)) → Q (.ref l) H'
theorem headS_len {d : PD} (o : d.Ok) : (headS d).length ≤ 8 := by
  have h1 := nameB_len o.word
  have h2 : (signS d).length ≤ 1 := by
    unfold signS
    split <;> decide
  have h3 : (Str.ofString "(").length = 1 := by decide
  have h4 : Str.empty.length = 0 := by decide
  unfold headS
  rw [Str.length_append, Str.length_append, Str.length_append]
  omega
theorem tailS_len {d : PD} (o : d.Ok) : (tailS d).length ≤ 11 := by
  have h1 := remarkB_len o.behind
  have h3 : (Str.ofString ")  # ").length = 5 := by decide
  have h4 : Str.empty.length = 0 := by decide
  unfold tailS
  split
  · decide
  · rw [Str.length_append, Str.length_append]
    omega
theorem commaS_len {d : PD} : (commaS d).length ≤ 1 := by
  unfold commaS
  split <;> decide
section
variable {X : Cx}
theorem sl_tupS : SlR X (fun x lo hi H Q => ∃ a xs, x = .ref a ∧ SqT X.K H a xs ∧ ∀ p H', Same H H' → SqT X.K H' p (cutV xs lo hi) → Q (.ref p) H') := by
  intro pins s σ H x v vl vu lo hi sl Q I rx hs pl pu h
  obtain ⟨a, xs, rfl, hx, q⟩ := h
  refine sl_tupA pins s σ H _ v vl vu lo hi sl Q I rx hs pl pu ⟨a, xs, rfl, hx, fun w => ?_, fun _ p np => q p _ (Same.new np) (SqT.of upd_same)⟩
  refine q a H (Same.refl H) ?_
  unfold cutV
  rw [w.1, w.2, List.drop_zero, Nat.sub_zero, List.take_length]
  exact hx
end
abbrev sHead : Stmt := top 16
section
variable {P : Program} {w : World} {K : PySem.W.Frag} {mg : Str → Option Value} {base : Heap}
theorem scHead : FnScope ["piece", "sign"] ["piece"] (defScope sHead) := ⟨rfl, rfl, rfl, by decide +kernel, rfl, by decide +kernel, by decide +kernel⟩
theorem ok_head {f C : Addr} {fd : FuncData} (F : Fun K "head_of" "head_of" sHead f fd) (Z : PieceC K C) : FnOk P w K mg base CX0 1 f fd ["piece"] (spText K C headS) := by
  refine F.ok scHead (fun vs H Q E h => ?_) (fun cdv A outer s H vs Q E hr h => ?_)
  · obtain ⟨p, d, rfl, _⟩ := h
    rfl
  · obtain ⟨p, d, rfl, ⟨dx, t, hp, ht⟩, o, few, k⟩ := h
    refine ⟨_, (pss_cons (ps_set (i := 1) scHead.nd rfl (.inl rfl) (pe_ifExp (pt_val (pe_fld (pv 0) rfl)) pe_str pe_str))
      (pss_one (ps_ret (pe_joined (.cons (pe_fmt (pv 1)) (.cons (pe_fmt (pe_fld (pv 0) rfl)) (.cons pe_str .nil))))))), ?_⟩
    have hl := headS_len o
    have h1 := nameB_len o.word
    have h3 : (Str.ofString "(").length = 1 := by decide
    have h4 : Str.empty.length = 0 := by decide
    refine ⟨_, rfl, p, C, dx, _, _, rfl, hp, Z.cl, Z.left, rfl, d.left, rfl, ?_⟩
    by_cases q : d.left = true
    · refine iteY q ?_
      have e : headS d = ((Str.empty ++ Str.ofString "!") ++ d.word) ++ Str.ofString "(" := by
        unfold headS signS
        rw [if_pos q]
      rw [e] at k hl
      have l0 : (Str.ofString "!").length = 1 := by decide
      exact ⟨_, rfl, .inl ⟨_, rfl, fitsN (by omega), _, rfl, fitsN (by rw [Str.length_append]; omega), _, rfl, p, C, dx, _, _, rfl, hp, Z.cl, Z.word, rfl, .inl ⟨_, rfl, fitsN (by omega), _, rfl, fitsN (by rw [Str.length_append, Str.length_append]; omega), _, rfl, fitsN (by omega), k⟩⟩⟩
    · refine iteN (by simpa using q) ?_
      have e : headS d = ((Str.empty ++ Str.ofString "") ++ d.word) ++ Str.ofString "(" := by
        unfold headS signS
        rw [if_neg q]
      rw [e] at k hl
      have l0 : (Str.ofString "").length = 0 := by decide
      exact ⟨_, rfl, .inl ⟨_, rfl, fitsN (by omega), _, rfl, fitsN (by rw [Str.length_append]; omega), _, rfl, p, C, dx, _, _, rfl, hp, Z.cl, Z.word, rfl, .inl ⟨_, rfl, fitsN (by omega), _, rfl, fitsN (by rw [Str.length_append, Str.length_append]; omega), _, rfl, fitsN (by omega), k⟩⟩⟩
end
end Lay
set_option Elab.async false
set_option linter.all false
set_option maxRecDepth 100000
set_option maxHeartbeats 4000000
set_option pp.maxSteps 1000
namespace Lay
open PySem PySem.Spec PyProof.Rows L2
section
variable {X : Cx}
def signs (x : Str) : List V := x.cps.toList.map fun c => V.str ⟨#[c]⟩
/-- list(x) of a text -/
theorem call_listS (hc : X.calm = true) : CallR X (.type "list") (fun xs H Q => ∃ x : Str, xs = [.str x] ∧ x.cps.size ≤ 1000 ∧ ∀ l, H l = none → Q (.ref l) (upd H l (.lst (signs x)))) := by
  intro pins s σ H xs us Q I r h
  obtain ⟨x, rfl, hz, q⟩ := h
  obtain ⟨u, rfl, t, rfl⟩ := vals1 r
  refine call_list_str (hn := fits hz) (I.ok.hd hc) x t fun h' tk acc c' hk e hi => ?_
  refine ⟨.ref s.heap.objs.size, upd H s.heap.objs.size (.lst (signs x)), I.laid hk (Nat.le_refl _) ⟨by unfold signs; rw [List.length_map, Array.length_toList]; exact fits hz, acc.toList, c', ?_, by rw [Array.toArray_toList]; exact e⟩, rfl, q _ (I.hok.fresh (Nat.le_refl _))⟩
  refine vals_of_idx _ _ (by unfold signs; rw [List.length_map, Array.length_toList, Array.length_toList]; exact hi.1) fun j u hj => ?_
  obtain ⟨c, t', hc, rfl⟩ := hi.2 j u (by rw [← Array.getElem?_toList]; exact hj)
  exact ⟨.str ⟨#[c]⟩, by simp [signs, hc], ⟨_, rfl⟩⟩
end
/-! ### names that are drawn -/
def sixC : List Nat := [97, 98, 99, 120, 121, 122]
def Six (z : Str) : Prop := ∀ c ∈ z.cps.toList, c ∈ sixC
theorem six_all : ∀ c ∈ sixC, c < 128 ∧ Unicode.isAlpha c = true ∧ Unicode.isLower c = true ∧ (Unicode.isUpper c || Unicode.isTitle c) = false := by decide +kernel
theorem Six.append {a b : Str} (h : Six a) (k : Six b) : Six (a ++ b) := fun c hc => by
  have e : (a ++ b).cps.toList = a.cps.toList ++ b.cps.toList := by
    cases a
    cases b
    exact Array.toList_append
  rw [e] at hc
  exact (List.mem_append.mp hc).elim (h c) (k c)
theorem Six.join : ∀ {zs : List Str}, (∀ z ∈ zs, Six z ∧ z.length = 1) → Six (Str.join "" zs) ∧ (Str.join "" zs).length = zs.length
  | [], _ => ⟨fun c hc => by
      have e : (Str.join "" []).cps.toList = [] := by decide
      rw [e] at hc
      exact (List.not_mem_nil hc).elim, by decide⟩
  | [z], h => ⟨(h z (List.mem_singleton.mpr rfl)).1, (h z (List.mem_singleton.mpr rfl)).2⟩
  | z :: y :: r, h => by
    have ih := Six.join (zs := y :: r) fun x hx => h x (List.mem_cons_of_mem _ hx)
    have h0 := h z List.mem_cons_self
    have e : Six (Str.ofString "") := fun c hc => by
      have e : (Str.ofString "").cps.toList = [] := by decide
      rw [e] at hc
      exact (List.not_mem_nil hc).elim
    have e1 : (Str.ofString "").length = 0 := by decide
    refine ⟨(h0.1.append e).append ih.1, ?_⟩
    show ((z ++ Str.ofString "") ++ Str.join "" (y :: r)).length = _
    rw [Str.length_append, Str.length_append, ih.2, h0.2, e1, List.length_cons, List.length_cons, List.length_cons]
    omega
theorem Six.name {z : Str} (h : Six z) (l0 : 0 < z.length) (l6 : z.length ≤ 6) : nameB z = true := by
  have hs : z.cps.size = z.length := rfl
  unfold nameB Txt.isascii Txt.isalpha Txt.islower
  simp only [Bool.and_eq_true, decide_eq_true_eq]
  refine ⟨l6, ?_, ⟨l0, ?_⟩, ?_, ?_⟩
  · rw [Array.all_eq_true']
    exact fun c hc => decide_eq_true (six_all c (h c (Array.mem_toList_iff.mpr hc))).1
  · rw [Array.all_eq_true']
    exact fun c hc => (six_all c (h c (Array.mem_toList_iff.mpr hc))).2.1
  · rw [Array.any_eq_true']
    have hm : z.cps[0]'(by omega) ∈ z.cps := Array.getElem_mem _
    exact ⟨_, hm, (six_all _ (h _ (Array.mem_toList_iff.mpr hm))).2.2.1⟩
  · rw [Bool.not_eq_true']
    cases e : z.cps.any fun c => Unicode.isUpper c || Unicode.isTitle c with
    | false => rfl
    | true =>
      rw [Array.any_eq_true'] at e
      obtain ⟨c, hc, hu⟩ := e
      rw [(six_all c (h c (Array.mem_toList_iff.mpr hc))).2.2.2] at hu
      cases hu
theorem signs_six : ∀ v ∈ signs (Str.ofString "abcxyz"), ∃ z, v = V.str z ∧ Six z ∧ z.length = 1 := fun v hv => by
  obtain ⟨c, hc, rfl⟩ := List.mem_map.mp hv
  refine ⟨_, rfl, fun d hd => ?_, rfl⟩
  have e : (Str.ofString "abcxyz").cps.toList = sixC := by decide +kernel
  rw [e] at hc
  have : d = c := by simpa using hd
  rw [this]
  exact hc
abbrev sLName : Stmt := top 38
def lnN : List Str := ["_law_box_here", "_law_most", "_law_letters", "_law_many", "_law_turn"]
def spLName : Sp := fun vs H Q _ => ∃ (b : Addr) (m : Int), vs = [.ref b, .int m] ∧ BoxAt H b ∧ 0 < m ∧ m ≤ 6 ∧ ∀ z H', Kept b H H' → BoxAt H' b → nameB z = true → Q (.str z) H'
section
variable {P : Program} {w : World} {K : PySem.W.Frag} {mg : Str → Option Value} {base : Heap}
theorem scLName : FnScope lnN ["_law_box_here", "_law_most"] (defScope sLName) := ⟨rfl, rfl, rfl, by decide +kernel, rfl, by decide +kernel, by decide +kernel⟩
theorem ok_lname {f fT fK : Addr} {fd dT dK : FuncData} (F : Fun K "_law_name" "_law_name" sLName f fd) (hrange : mg "range" = none) (hlist : mg "list" = none)
    (GT : FnOk P w K mg base CX0 1 fT dT ["_law_box_here", "_law_many"] spTake) (gT : mg "_law_take" = some (.ref fT)) (kT : PySem.W.keepIn K (.ref fT) = true) (bT : Binds K dT ["_law_box_here", "_law_many"] [])
    (GK : FnOk P w K mg base CX0 2 fK dK ["_law_box_here", "_law_items"] (spPick K)) (gK : mg "_law_pick" = some (.ref fK)) (kK : PySem.W.keepIn K (.ref fK) = true) (bK : Binds K dK ["_law_box_here", "_law_items"] []) : FnOk P w K mg base CX0 3 f fd ["_law_box_here", "_law_most"] spLName := by
  refine F.ok scLName (fun vs H Q E h => ?_) (fun cdv A outer s H vs Q E hr h => ?_)
  · obtain ⟨b, m, rfl, _⟩ := h
    rfl
  · obtain ⟨b, m, rfl, hb, m0, m6, k⟩ := h
    have hr1 := hr.mono (show 1 ≤ 2 by decide)
    refine ⟨_, (pss_cons (ps_asg (pe_tup (pa_cons pe_str (pa_cons (pe_op op_add pe_int (pe_call GT hr1 (by rfl) gT kT bT .nil pass0 (pa_cons (pv 0) (pa_cons (pv 1) pa_nil)))) pa_nil))) (pg_tup rfl (pgs_cons (pg_name (i := 2) scLName.nd rfl (.inr rfl)) (pgs_cons (pg_name (i := 3) scLName.nd rfl (.inl rfl)) pgs_nil))))
      (pss_one (ps_ret (pe_bm PySem.F.plainAttrs_str PySem.F.slot_str_join PySem.F.type_str_join mt_join pe_str (pa_cons
        (pe_lc (own := [("_law_turn", 4)]) (g := gName 4) (tt := tYes) (by rfl) scLName.nd (pi_range1 (by rfl) hrange (pa_cons (pv 3) pa_nil)) (blkOk_by (N := lnN) (sc := defScope sLName) (by decide +kernel))
          (fun _ _ _ _ _ => pg_name (i := 4) scLName.nd rfl (Or.inl rfl)) (fun _ _ _ _ _ => pts_nil)
          (fun _ _ _ _ _ => pe_call GK hr (by rfl) gK kK bK .nil pass0 (pa_cons (pv 0) (pa_cons (pe_callTy (call_listS rfl) (by rfl) hlist (by decide +kernel) (pa_cons (pv 2) pa_nil)) pa_nil)))) pa_nil))))), ?_⟩
    refine ⟨_, rfl, _, rfl, b, m, rfl, hb, m0, by omega, fun r o r0 r1 ob => ?_⟩
    have b1 : BoxAt (upd H b o) b := BoxAt.box ob
    have k1 : Kept b H (upd H b o) := Kept.box
    generalize upd H b o = G1 at *
    refine ⟨1, r, rfl, rfl, (by show 2 ≤ sizeLine; decide), fun p np => ⟨p, _, rfl, SqT.of upd_same, rfl, _, _, rfl, _, _, rfl, rfl, ?_⟩⟩
    have sp := Same.new np (o := .tup [.str "abcxyz", .int (1 + r)])
    have b2 : BoxAt (upd G1 p (.tup [.str "abcxyz", .int (1 + r)])) b := BoxAt.new b1 np
    have k2 : Kept b H (upd G1 p (.tup [.str "abcxyz", .int (1 + r)])) := k1.trans (Kept.of_same sp)
    generalize upd G1 p (.tup [.str "abcxyz", .int (1 + r)]) = G2 at *
    have ls : (signs (Str.ofString "abcxyz")).length = 6 := by decide +kernel
    refine ⟨rfl, _, rfl, 1 + r, rfl, by omega, by omega, fun D nD => lc_range (lo := 0) (n := Int.toNat _) (fun n G' => ∃ zs : List Str, Kept b G2 G' ∧ BoxAt G' b ∧ D ≠ b ∧ G' D = some (.lst (zs.map V.str)) ∧ zs.length = n ∧ ∀ z ∈ zs, Six z ∧ z.length = 1)
      ⟨[], Kept.new nD, b2.new nD, b2.ne nD, upd_same, rfl, fun z h => (List.not_mem_nil h).elim⟩ ?_ ?_⟩
    · rintro n G' hn ⟨zs, k', b', nb, hD, hl, hz⟩
      refine ⟨rfl, _, rfl, _, rfl, _, rfl, by decide +kernel, fun l nl => ?_⟩
      refine ⟨b, l, _, rfl, b'.new nl, b'.ne nl, SqL.of upd_same, by rw [ls]; decide, by rw [ls]; decide, fun v o hv ho => ?_⟩
      obtain ⟨z, rfl, z1, z2⟩ := signs_six v hv
      have nlD : D ≠ l := ne_of_none hD nl
      have kb : Kept b G' (upd (upd G' l (.lst (signs (Str.ofString "abcxyz")))) b o) := (Kept.new nl).trans Kept.box
      refine ⟨_, kb _ _ nb hD, ?_, zs ++ [z], fun c u n1 e => ?_, ?_, nb, by rw [upd_same, List.map_append]; rfl, by rw [List.length_append, hl]; rfl, fun y hy => ?_⟩
      · rw [List.length_map, hl]
        exact small1000 (by omega)
      · rw [upd_ne (ne_of_none e nD)]
        exact kb _ _ n1 (k' _ _ n1 e)
      · obtain ⟨o2, e2, y2⟩ : BoxAt (upd (upd G' l (.lst (signs (Str.ofString "abcxyz")))) b o) b := BoxAt.box ho
        exact ⟨o2, by rw [upd_ne (Ne.symm nb)]; exact e2, y2⟩
      · rcases List.mem_append.mp hy with h | h
        · exact hz y h
        · rw [List.mem_singleton] at h
          subst h
          exact ⟨z1, z2⟩
    · rintro G' ⟨zs, k', b', nb, hD, hl, hz⟩
      have hj := Six.join hz
      have hsum := sum_few (n := 1) fun z hz' => Nat.le_of_eq (hz z hz').2
      have j0 : (Str.ofString "").length = 0 := by decide
      refine ⟨_, D, zs, rfl, rfl, .inl (SqL.of hD), by rw [j0]; omega, k _ _ (k2.trans k') b' ?_⟩
      rw [TL.join_eq]
      exact hj.1.name (by rw [hj.2, hl]; omega) (by rw [hj.2, hl]; omega)
end
end Lay
set_option Elab.async false
set_option linter.all false
set_option maxRecDepth 100000
set_option maxHeartbeats 4000000
set_option pp.maxSteps 1500
namespace Lay
open PySem PySem.Spec PyProof.Rows L2 KwX
def kw : Key := .inr "word"
def kp : Key := .inr "parts"
def kb : Key := .inr "broken"
def km : Key := .inr "marked"
def ka : Key := .inr "ahead"
def kh : Key := .inr "behind"
def kn : Key := .inr "blanks"
def kl : Key := .inr "left"
/-- how a piece is written, as the law's dict -/
def Nd (kvs : List (Key × V)) : Prop := (kvs.map (·.1)).Nodup
theorem Nd.nil : Nd [] := List.Pairwise.nil
theorem Nd.put {kvs : List (Key × V)} {k : Key} {v : V} (h : Nd kvs) : Nd (putK kvs k v) := by
  unfold Nd putK
  split
  · rw [List.map_map]
    rw [show ((fun x : Key × V => x.1) ∘ fun kv : Key × V => if kv.1 = k then (kv.1, v) else kv) = (fun x => x.1) from funext fun kv => by
      show (if kv.1 = k then (kv.1, v) else kv).1 = kv.1
      split <;> rfl]
    exact h
  · rename_i e
    have n : valV kvs k = none := by
      have := valV_any k kvs
      cases c : valV kvs k with
      | none => rfl
      | some _ =>
        rw [c] at this
        exact absurd this e
    rw [List.map_append]
    refine List.nodup_append.mpr ⟨h, by simp, fun a ha b hb => ?_⟩
    rintro rfl
    simp only [List.map_cons, List.map_nil, List.mem_singleton] at hb
    subst hb
    rw [valV_any, n] at e
    obtain ⟨⟨k2, v2⟩, hm, rfl⟩ := List.mem_map.mp ha
    have := List.any_eq_false.mp (show (kvs.any fun kv => decide (kv.1 = k2)) = false by rw [valV_any, n]; rfl) _ hm
    simp at this
theorem Nd.merge : ∀ {more kvs : List (Key × V)}, Nd kvs → Nd (mergeK kvs more)
  | [], _, h => h
  | p :: ps, kvs, h => Nd.merge (more := ps) (Nd.put (k := p.1) (v := p.2) h)
structure LF (kvs : List (Key × V)) (lp : Addr) (d : PD) : Prop where
  nd : Nd kvs
  len : kvs.length ≤ 8
  w : valV kvs kw = some (.str d.word)
  p : valV kvs kp = some (.ref lp)
  b : valV kvs kb = some (.bl d.broken)
  m : valV kvs km = some (.bl d.marked)
  a : valV kvs ka = some (.str d.ahead)
  h : valV kvs kh = some (.str d.behind)
  n : valV kvs kn = some (.int d.blanks)
  l : valV kvs kl = some (.bl d.left)
def DictAt (G : Hp) (q lp : Addr) (d : PD) : Prop := ∃ kvs, G q = some (.dK kvs) ∧ G lp = some (.lst (d.parts.map V.str)) ∧ LF kvs lp d
theorem DictAt.same {G G' : Hp} {q lp : Addr} {d : PD} (s : Same G G') (h : DictAt G q lp d) : DictAt G' q lp d := by
  obtain ⟨kvs, h1, h2, h3⟩ := h
  exact ⟨kvs, s _ _ h1, s _ _ h2, h3⟩
def spLPiece : Sp := fun vs H Q _ => ∃ (b : Addr) (m : Int), vs = [.ref b, .int m] ∧ BoxAt H b ∧ 0 < m ∧ m ≤ 8 ∧
  ∀ q lp d H', Kept b H H' → BoxAt H' b → d.Ok → d.parts.length ≤ 8 → DictAt H' q lp d → H q = none → H lp = none → Q (.ref q) H'
theorem merge2 (kvs : List (Key × V)) (k1 k2 : Key) (v1 v2 : V) (j : Key) (ne : k1 ≠ k2) : valV (mergeK kvs (mergeK [] [(k1, v1), (k2, v2)])) j = if j = k2 then some v2 else if j = k1 then some v1 else valV kvs j := by
  have e : mergeK [] [(k1, v1), (k2, v2)] = [(k1, v1), (k2, v2)] := by
    show putK (putK [] k1 v1) k2 v2 = _
    have e1 : putK ([] : List (Key × V)) k1 v1 = [(k1, v1)] := rfl
    rw [e1, putK_new]
    · rfl
    · rw [valV_neg ne]
      rfl
  rw [e]
  show valV (putK (putK kvs k1 v1) k2 v2) j = _
  rw [valV_put, valV_put]
theorem len2 (kvs : List (Key × V)) (k1 k2 : Key) (v1 v2 : V) : (mergeK [] [(k1, v1), (k2, v2)]).length ≤ 2 := length_mergeK _ _
abbrev sLPiece : Stmt := top 39
def lpN : List Str := ["_law_box_here", "_law_many", "_law_found", "_law_place", "_law_turn"]
section
variable {P : Program} {w : World} {K : PySem.W.Frag} {mg : Str → Option Value} {base : Heap}
theorem scLPiece : FnScope lpN ["_law_box_here", "_law_many"] (defScope sLPiece) := ⟨rfl, rfl, rfl, by decide +kernel, rfl, by decide +kernel, by decide +kernel⟩
theorem ok_lpiece {f fT fK fN : Addr} {fd dT dK dN : FuncData} (F : Fun K "_law_piece" "_law_piece" sLPiece f fd) (hrange : mg "range" = none)
    (GT : FnOk P w K mg base CX0 1 fT dT ["_law_box_here", "_law_many"] spTake) (gT : mg "_law_take" = some (.ref fT)) (kT : PySem.W.keepIn K (.ref fT) = true) (bT : Binds K dT ["_law_box_here", "_law_many"] [])
    (GK : FnOk P w K mg base CX0 2 fK dK ["_law_box_here", "_law_items"] (spPick K)) (gK : mg "_law_pick" = some (.ref fK)) (kK : PySem.W.keepIn K (.ref fK) = true) (bK : Binds K dK ["_law_box_here", "_law_items"] [])
    (GN : FnOk P w K mg base CX0 3 fN dN ["_law_box_here", "_law_most"] spLName) (gN : mg "_law_name" = some (.ref fN)) (kN : PySem.W.keepIn K (.ref fN) = true) (bN : Binds K dN ["_law_box_here", "_law_most"] []) : FnOk P w K mg base CX0 4 f fd ["_law_box_here", "_law_many"] spLPiece := by
  refine F.ok scLPiece (fun vs H Q E h => ?_) (fun cdv A outer s H vs Q E hr h => ?_)
  · obtain ⟨b, m, rfl, _⟩ := h
    rfl
  · obtain ⟨b, m, rfl, hb, m0, m8, k⟩ := h
    have hr1 := hr.mono (show 1 ≤ 3 by decide)
    have hr2 := hr.mono (show 2 ≤ 3 by decide)
    have hu : (A.deeper (envOfC "_law_piece" (defScope sLPiece) s.heap.objs.size f cdv)).units + 1 < cLine := by have := hr.units; omega
    refine ⟨_, (C8.pss_cut (ps_set (i := 2) scLPiece.nd rfl (.inl rfl) (pe_disp (pps_cons pe_str (pe_call GN hr (by rfl) gN kN bN .nil pass0 (pa_cons (pv 0) (pa_cons pe_int pa_nil))) (pps_cons pe_str
        (pe_lc (own := [("_law_turn", 4)]) (g := gName 4) (tt := tYes) (by rfl) scLPiece.nd (pi_range1 (by rfl) hrange (pa_cons (pe_op op_add pe_int (pe_call GT hr1 (by rfl) gT kT bT .nil pass0 (pa_cons (pv 0) (pa_cons (pv 1) pa_nil)))) pa_nil)) (blkOk_by (N := lpN) (sc := defScope sLPiece) (by decide +kernel))
          (fun _ _ _ _ _ => pg_name (i := 4) scLPiece.nd rfl (Or.inl rfl)) (fun _ _ _ _ _ => pts_nil)
          (fun _ _ _ _ _ => pe_call GN hr (by rfl) gN kN bN .nil pass0 (pa_cons (pv 0) (pa_cons pe_int pa_nil)))) pps_nil)) rfl rfl (by decide) (by decide)))
      (C8.pss_cut (ps_expr (pe_dupd (pv 2) (pe_disp (pps_cons pe_str (pe_cmpR op_eq (pe_call GT hr1 (by rfl) gT kT bT .nil pass0 (pa_cons (pv 0) (pa_cons pe_int pa_nil))) pe_int (nomark _)) (pps_cons pe_str (pe_cmpR op_eq (pe_call GT hr1 (by rfl) gT kT bT .nil pass0 (pa_cons (pv 0) (pa_cons pe_int pa_nil))) pe_int (nomark _)) pps_nil)) rfl rfl (by decide) (by decide)) ⟨by rfl, by rfl, by rfl, by rfl⟩))
      (C8.pss_cut (ps_for PassesOwn.never rfl (pi_tup (pe_tup (pa_cons pe_str (pa_cons pe_str pa_nil)))) (pg_name (i := 3) scLPiece.nd rfl (.inl rfl))
        (pss_one (ps_dput hu (pv 2) (pv 3) (pe_ifExp (pt_cmpR op_eq (pe_call GT hr1 (by rfl) gT kT bT .nil pass0 (pa_cons (pv 0) (pa_cons pe_int pa_nil))) pe_int (nomark _)) (pe_call GN hr (by rfl) gN kN bN .nil pass0 (pa_cons (pv 0) (pa_cons pe_int pa_nil))) pe_str) (by rfl))))
      (pss_cons (ps_expr (pe_dupd (pv 2) (pe_disp (pps_cons pe_str (pe_call GK hr2 (by rfl) gK kK bK .nil pass0 (pa_cons (pv 0) (pa_cons (pe_lst (pa_cons pe_int (pa_cons pe_int (pa_cons pe_int (pa_cons pe_int (pa_cons pe_int pa_nil)))))) pa_nil))) (pps_cons pe_str (pe_cmpR op_eq (pe_call GT hr1 (by rfl) gT kT bT .nil pass0 (pa_cons (pv 0) (pa_cons pe_int pa_nil))) pe_int (nomark _)) pps_nil)) rfl rfl (by decide) (by decide)) ⟨by rfl, by rfl, by rfl, by rfl⟩))
      (pss_one (ps_ret (pv 2))))))), ?_⟩
    refine ⟨fun σ G => ∃ (q lp : Addr) (wd : Str) (ps : List Str) (kvs : List (Key × V)), σ = [some (.ref b), some (.int m), some (.ref q), none, none] ∧ Kept b H G ∧ BoxAt G b ∧ H q = none ∧ H lp = none ∧ G q = some (.dK kvs) ∧ G lp = some (.lst (ps.map V.str)) ∧ kvs.length ≤ 2 ∧ nameB wd = true ∧ 0 < ps.length ∧ ps.length ≤ 8 ∧ (∀ z ∈ ps, nameB z = true) ∧ Nd kvs ∧ valV kvs kw = some (.str wd) ∧ valV kvs kp = some (.ref lp), ?_, ?_⟩
    · refine fun q nq => ?_
      have qb : q ≠ b := hb.ne nq
      refine ⟨_, rfl, b, 3, rfl, hb.new nq, by decide, by decide, fun wd G1 k1 b1 gw => ?_⟩
      refine ⟨_, rfl, _, rfl, b, m, rfl, b1, m0, by omega, fun r o r0 r1 ob => ?_⟩
      have kB : Kept b (upd H q (.dK [])) (upd G1 b o) := k1.trans Kept.box
      have bB : BoxAt (upd G1 b o) b := BoxAt.box ob
      generalize upd G1 b o = G2 at *
      refine ⟨1, r, rfl, rfl, 1 + r, rfl, by omega, by omega, fun D nD => lc_range (lo := 0) (n := Int.toNat _) (fun n G' => ∃ zs : List Str, Kept b G2 G' ∧ BoxAt G' b ∧ D ≠ b ∧ G' D = some (.lst (zs.map V.str)) ∧ zs.length = n ∧ ∀ z ∈ zs, nameB z = true)
        ⟨[], Kept.new nD, bB.new nD, bB.ne nD, upd_same, rfl, fun z h => (List.not_mem_nil h).elim⟩ ?_ ?_⟩
      · rintro n G' hn ⟨zs, k', b', nb, hD, hl, hz⟩
        refine ⟨rfl, _, rfl, b, 6, rfl, b', by decide, by decide, fun z G3 k3 b3 gz => ⟨_, k3 _ _ nb hD, ?_, zs ++ [z], fun c u n1 e => ?_, ?_, nb, by rw [upd_same, List.map_append]; rfl, by rw [List.length_append, hl]; rfl, fun y hy => ?_⟩⟩
        · rw [List.length_map, hl]
          exact small1000 (by omega)
        · rw [upd_ne (ne_of_none e nD)]
          exact k3 _ _ n1 (k' _ _ n1 e)
        · obtain ⟨o2, e2, y2⟩ := b3
          exact ⟨o2, by rw [upd_ne (Ne.symm nb)]; exact e2, y2⟩
        · rcases List.mem_append.mp hy with h | h
          · exact hz y h
          · rw [List.mem_singleton] at h
            subst h
            exact gz
      · rintro G' ⟨zs, k', b', nb, hD, hl, hz⟩
        have k0 : Kept b (upd H q (.dK [])) G' := kB.trans k'
        have hq : G' q = some (.dK []) := k0 _ _ qb upd_same
        have nlp : H D = none := by
          cases e : H D with
          | none => rfl
          | some u =>
            have := kB _ _ nb (Same.new nq _ _ e)
            rw [nD] at this
            cases this
        have Dq : D ≠ q := ne_of hD hq (fun z => nomatch z)
        refine ⟨hq, [(kw, .str wd), (kp, .ref D)], rfl, (by show 2 ≤ 15; decide), q, D, wd, zs, _, rfl, fun c u n1 e => ?_, ?_, nq, nlp, upd_same, by rw [upd_ne Dq]; exact hD, len2 [] _ _ _ _, gw, by omega, by omega, hz, Nd.merge Nd.nil, ?_, ?_⟩
        · rw [upd_ne (ne_of_none e nq)]
          exact k0 _ _ n1 (Same.new nq _ _ e)
        · obtain ⟨o2, e2, y2⟩ := b'
          exact ⟨o2, by rw [upd_ne (Ne.symm qb)]; exact e2, y2⟩
        · have := merge2 [] kw kp (.str wd) (.ref D) kw (by decide)
          exact this
        · have := merge2 [] kw kp (.str wd) (.ref D) kp (by decide)
          exact this
    · rintro σ G ⟨q, lp, wd, ps, kvs, rfl, kG, bG, nq, nl, hq, hl, lk, gw, p0, p8, gp, vnd, vw, vp⟩
      have qb : q ≠ b := fun z => by
        rw [z] at nq
        obtain ⟨o, e, _⟩ := hb
        rw [nq] at e
        cases e
      refine ⟨fun σ G => ∃ (kvs : List (Key × V)) (bb mm : Bool), σ = [some (.ref b), some (.int m), some (.ref q), none, none] ∧ Kept b H G ∧ BoxAt G b ∧ G q = some (.dK kvs) ∧ G lp = some (.lst (ps.map V.str)) ∧ kvs.length ≤ 4 ∧ Nd kvs ∧ valV kvs kw = some (.str wd) ∧ valV kvs kp = some (.ref lp) ∧ valV kvs kb = some (.bl bb) ∧ valV kvs km = some (.bl mm), ?_, ?_⟩
      · refine ⟨_, rfl, q, rfl, .inl ⟨_, .inl hq⟩, fun u nu => ?_⟩
        have ub : u ≠ b := bG.ne nu
        have qu : q ≠ u := ne_of_none hq nu
        refine ⟨_, rfl, b, 2, rfl, bG.new nu, by decide, by decide, fun r1 o1 _ _ ob1 => ⟨rfl, _, rfl, b, 2, rfl, BoxAt.box ob1, by decide, by decide, fun r2 o2 _ _ ob2 => ⟨rfl, ?_⟩⟩⟩
        have kk : Kept b (upd G u (.dK [])) (upd (upd (upd G u (.dK [])) b o1) b o2) := Kept.box.trans Kept.box
        have bb2 : BoxAt (upd (upd (upd G u (.dK [])) b o1) b o2) b := BoxAt.box ob2
        generalize upd (upd (upd G u (.dK [])) b o1) b o2 = G3 at *
        have kG3 : Kept b G G3 := (Kept.new nu).trans kk
        have hu3 : G3 u = some (.dK []) := kk _ _ ub upd_same
        have hq3 := kG3 _ _ qb hq
        have lpq : lp ≠ q := ne_of hl hq (fun z => nomatch z)
        have lpb : lp ≠ b := fun z => by
          rw [z] at nl
          obtain ⟨o, e, _⟩ := hb
          rw [nl] at e
          cases e
        have hl3 := kG3 _ _ lpb hl
        have lpu : lp ≠ u := ne_of_none hl nu
        refine ⟨hu3, [(kb, .bl (decide (V.int r1 = V.int 0))), (km, .bl (decide (V.int r2 = V.int 0)))], rfl, (by show 2 ≤ 15; decide), u, _, _, rfl, by rw [upd_ne qu]; exact hq3, upd_same, qu, by have := len2 [] kb km (.bl (decide (V.int r1 = V.int 0))) (.bl (decide (V.int r2 = V.int 0))); omega, _, decide (V.int r1 = V.int 0), decide (V.int r2 = V.int 0), rfl, fun c w n1 e => ?_, ?_, upd_same, ?_, ?_, Nd.merge vnd, ?_, ?_, ?_, ?_⟩
        · have hc := kG _ _ n1 e
          rw [upd_ne (ne_of_none e nq), upd_ne (ne_of_none hc nu)]
          exact kG3 _ _ n1 hc
        · obtain ⟨o3, e3, y3⟩ := bb2
          exact ⟨o3, by rw [upd_ne (Ne.symm qb), upd_ne (Ne.symm ub)]; exact e3, y3⟩
        · rw [upd_ne lpq, upd_ne lpu]
          exact hl3
        · have h1 := length_mergeK (mergeK [] [(kb, V.bl (decide (V.int r1 = V.int 0))), (km, .bl (decide (V.int r2 = V.int 0)))]) kvs
          have h2 := len2 [] kb km (.bl (decide (V.int r1 = V.int 0))) (.bl (decide (V.int r2 = V.int 0)))
          omega
        · rw [merge2 _ _ _ _ _ _ (by decide), if_neg (by decide), if_neg (by decide)]
          exact vw
        · rw [merge2 _ _ _ _ _ _ (by decide), if_neg (by decide), if_neg (by decide)]
          exact vp
        · rw [merge2 _ _ _ _ _ _ (by decide), if_neg (by decide), if_pos rfl]
        · rw [merge2 _ _ _ _ _ _ (by decide), if_pos rfl]
      · rintro σ G ⟨kvs, bb, mm, rfl, kG, bG, hq, hl, lk, vnd, vw, vp, vb, vm⟩
        have lpq : lp ≠ q := ne_of hl hq (fun z => nomatch z)
        have lpb : lp ≠ b := fun z => by
          rw [z] at nl
          obtain ⟨o, e, _⟩ := hb
          rw [nl] at e
          cases e
        refine ⟨fun σ G => ∃ (x3 : Option V) (kvs : List (Key × V)) (a c : Str), σ = [some (.ref b), some (.int m), some (.ref q), x3, none] ∧ Kept b H G ∧ BoxAt G b ∧ G q = some (.dK kvs) ∧ G lp = some (.lst (ps.map V.str)) ∧ kvs.length ≤ 6 ∧ Nd kvs ∧ valV kvs kw = some (.str wd) ∧ valV kvs kp = some (.ref lp) ∧ valV kvs kb = some (.bl bb) ∧ valV kvs km = some (.bl mm) ∧
          remarkB a = true ∧ remarkB c = true ∧ valV kvs ka = some (.str a) ∧ valV kvs kh = some (.str c), ?_, ?_⟩
        · refine ⟨(by show 2 ≤ sizeLine; decide), fun T nT => ?_⟩
          have sT := Same.new nT (o := .tup [.str "ahead", .str "behind"])
          have Tb : T ≠ b := bG.ne nT
          refine ⟨T, rfl, ⟨_, SqT.of upd_same⟩, for_tup (K := K) (xs := [.str "ahead", .str "behind"]) (fun i σ G' => ∃ (x3 : Option V) (kvs : List (Key × V)), σ = [some (.ref b), some (.int m), some (.ref q), x3, none] ∧ Kept b H G' ∧ BoxAt G' b ∧ G' T = some (.tup [.str "ahead", .str "behind"]) ∧ G' q = some (.dK kvs) ∧ G' lp = some (.lst (ps.map V.str)) ∧ kvs.length ≤ 4 + i ∧ Nd kvs ∧ valV kvs kw = some (.str wd) ∧ valV kvs kp = some (.ref lp) ∧ valV kvs kb = some (.bl bb) ∧ valV kvs km = some (.bl mm) ∧
            (1 ≤ i → ∃ a, remarkB a = true ∧ valV kvs ka = some (.str a)) ∧ (2 ≤ i → ∃ c, remarkB c = true ∧ valV kvs kh = some (.str c)))
            ⟨_, kvs, rfl, kG.trans (Kept.of_same sT), bG.new nT, upd_same, sT _ _ hq, sT _ _ hl, lk, vnd, vw, vp, vb, vm, fun z => absurd z (by decide), fun z => absurd z (by decide)⟩ (fun i σ G' _ z => by
              obtain ⟨_, _, _, _, _, z, _⟩ := z
              exact SqT.of z) ?_ ?_⟩
          · rintro i x σ G' hi ⟨x3, kvs, rfl, kG, bG, hT, hq, hl, lk, vnd, vw, vp, vb, vm, va, vh⟩
            have fin : ∀ (z : Str) (Gz : Hp), remarkB z = true → Kept b G' Gz → BoxAt Gz b → ∃ a H4, V.ref q = .ref a ∧ DPut Gz a x (.str z) H4 ∧ ∃ (x3' : Option V) (kvs : List (Key × V)), [some (V.ref b), some (.int m), some (.ref q), some x, none] = [some (.ref b), some (.int m), some (.ref q), x3', none] ∧ Kept b H H4 ∧ BoxAt H4 b ∧ H4 T = some (.tup [.str "ahead", .str "behind"]) ∧ H4 q = some (.dK kvs) ∧ H4 lp = some (.lst (ps.map V.str)) ∧ kvs.length ≤ 4 + (i + 1) ∧ Nd kvs ∧ valV kvs kw = some (.str wd) ∧ valV kvs kp = some (.ref lp) ∧ valV kvs kb = some (.bl bb) ∧ valV kvs km = some (.bl mm) ∧
                (1 ≤ i + 1 → ∃ a, remarkB a = true ∧ valV kvs ka = some (.str a)) ∧ (2 ≤ i + 1 → ∃ c, remarkB c = true ∧ valV kvs kh = some (.str c)) := fun z Gz rz kz bz => by
              have hqz := kz _ _ qb hq
              have hTz := kz _ _ Tb hT
              have hlz := kz _ _ lpb hl
              have Tq : T ≠ q := ne_of hT hq (fun z => nomatch z)
              have hk : ∀ k : Key, Kept b H (upd Gz q (.dK (putK kvs k (.str z)))) ∧ BoxAt (upd Gz q (.dK (putK kvs k (.str z)))) b ∧ upd Gz q (.dK (putK kvs k (.str z))) T = some (.tup [.str "ahead", .str "behind"]) ∧ upd Gz q (.dK (putK kvs k (.str z))) lp = some (.lst (ps.map V.str)) ∧ (putK kvs k (.str z)).length ≤ 4 + (i + 1) := fun k => by
                refine ⟨fun c w n1 e => ?_, ?_, by rw [upd_ne Tq]; exact hTz, by rw [upd_ne lpq]; exact hlz, by have := length_putK kvs k (.str z); omega⟩
                · rw [upd_ne (ne_of_none e nq)]
                  exact kz _ _ n1 (kG _ _ n1 e)
                · obtain ⟨o3, e3, y3⟩ := bz
                  exact ⟨o3, by rw [upd_ne (Ne.symm qb)]; exact e3, y3⟩
              have i2 : i < 2 := (List.getElem?_eq_some_iff.mp hi).1
              have ll : kvs.length < sizeLine := small1000 (by omega)
              rcases (show i = 0 ∨ i = 1 by omega) with rfl | rfl
              · cases hi
                obtain ⟨p1, p2, p3, p4, p5⟩ := hk ka
                refine ⟨q, _, rfl, DPut.k (k := ka) hqz ll, _, _, rfl, p1, p2, p3, upd_same, p4, p5, Nd.put vnd, ?_, ?_, ?_, ?_, fun _ => ⟨z, rz, ?_⟩, fun z => absurd z (by decide)⟩
                · rw [valV_put, if_neg (by decide)]; exact vw
                · rw [valV_put, if_neg (by decide)]; exact vp
                · rw [valV_put, if_neg (by decide)]; exact vb
                · rw [valV_put, if_neg (by decide)]; exact vm
                · rw [valV_put, if_pos rfl]
              · cases hi
                obtain ⟨p1, p2, p3, p4, p5⟩ := hk kh
                obtain ⟨a, ra, ea⟩ := va (Nat.le_refl 1)
                refine ⟨q, _, rfl, DPut.k (k := kh) hqz ll, _, _, rfl, p1, p2, p3, upd_same, p4, p5, Nd.put vnd, ?_, ?_, ?_, ?_, fun _ => ⟨a, ra, ?_⟩, fun _ => ⟨z, rz, ?_⟩⟩
                · rw [valV_put, if_neg (by decide)]; exact vw
                · rw [valV_put, if_neg (by decide)]; exact vp
                · rw [valV_put, if_neg (by decide)]; exact vb
                · rw [valV_put, if_neg (by decide)]; exact vm
                · rw [valV_put, if_neg (by decide)]; exact ea
                · rw [valV_put, if_pos rfl]
            refine ⟨_, rfl, b, 3, rfl, bG, by decide, by decide, fun r o _ _ ob => ⟨rfl, _, rfl, ?_⟩⟩
            cases decide (V.int r = V.int 0) with
            | true =>
              refine iteY rfl ⟨_, rfl, b, 6, rfl, BoxAt.box ob, by decide, by decide, fun z Gz kz bz gz => ⟨_, rfl, _, rfl, ?_⟩⟩
              exact fin z Gz (by unfold remarkB; rw [gz, Bool.or_true]) (Kept.box.trans kz) bz
            | false =>
              refine iteN rfl ⟨_, rfl, _, rfl, ?_⟩
              exact fin "" _ (by decide +kernel) Kept.box (BoxAt.box ob)
          · rintro σ G' ⟨x3, kvs, rfl, kG, bG, hT, hq, hl, lk, vnd, vw, vp, vb, vm, va, vh⟩
            obtain ⟨a, ra, ea⟩ := va (by decide)
            obtain ⟨c, rc, ec⟩ := vh (by decide)
            exact ⟨_, kvs, a, c, rfl, kG, bG, hq, hl, lk, vnd, vw, vp, vb, vm, ra, rc, ea, ec⟩
        · rintro σ G ⟨x3, kvs, a, c, rfl, kG, bG, hq, hl, lk, vnd, vw, vp, vb, vm, ra, rc, va, vh⟩
          refine ⟨_, rfl, q, rfl, .inl ⟨_, .inl hq⟩, fun u nu => ?_⟩
          have ub : u ≠ b := bG.ne nu
          have qu : q ≠ u := ne_of_none hq nu
          have bu := bG.new nu (o := .dK [])
          have su := Same.new nu (o := .dK [])
          refine ⟨_, rfl, (by show 5 ≤ sizeLine; decide), fun l nl2 => ⟨b, l, _, rfl, bu.new nl2, bu.ne nl2, SqL.of upd_same, by decide, by decide, fun v o1 hv ob1 => ?_⟩⟩
          obtain ⟨n, rfl, n0, n3⟩ : ∃ n : Int, v = .int n ∧ 0 ≤ n ∧ n < 3 := by
            simp only [List.mem_cons, List.not_mem_nil, or_false] at hv
            rcases hv with rfl | rfl | rfl | rfl | rfl
            · exact ⟨_, rfl, by decide, by decide⟩
            · exact ⟨_, rfl, by decide, by decide⟩
            · exact ⟨_, rfl, by decide, by decide⟩
            · exact ⟨_, rfl, by decide, by decide⟩
            · exact ⟨_, rfl, by decide, by decide⟩
          refine ⟨_, rfl, b, 5, rfl, BoxAt.box ob1, by decide, by decide, fun r2 o2 _ _ ob2 => ⟨rfl, ?_⟩⟩
          have kk : Kept b (upd G u (.dK [])) (upd (upd (upd (upd G u (.dK [])) l (.lst [.int 0, .int 0, .int 0, .int 1, .int 2])) b o1) b o2) := ((Kept.new nl2).trans Kept.box).trans Kept.box
          have bb2 : BoxAt (upd (upd (upd (upd G u (.dK [])) l (.lst [.int 0, .int 0, .int 0, .int 1, .int 2])) b o1) b o2) b := BoxAt.box ob2
          generalize upd (upd (upd (upd G u (.dK [])) l (.lst [.int 0, .int 0, .int 0, .int 1, .int 2])) b o1) b o2 = G3 at *
          have kG3 : Kept b G G3 := (Kept.new nu).trans kk
          have hu3 : G3 u = some (.dK []) := kk _ _ ub upd_same
          have hq3 := kG3 _ _ qb hq
          have hl3 := kG3 _ _ lpb hl
          have lpu : lp ≠ u := ne_of_none hl nu
          refine ⟨hu3, [(kn, .int n), (kl, .bl (decide (V.int r2 = V.int 0)))], rfl, (by show 2 ≤ 15; decide), u, _, _, rfl, by rw [upd_ne qu]; exact hq3, upd_same, qu, by have := len2 [] kn kl (.int n) (.bl (decide (V.int r2 = V.int 0))); omega, _, rfl, ?_⟩
          refine k q lp ⟨wd, ps, bb, mm, a, c, n, decide (V.int r2 = V.int 0)⟩ _ (fun c w n1 e => ?_) ?_ ⟨gw, p0, by show ps.length ≤ 1000; omega, gp, ra, rc, n0, n3⟩ p8 ⟨_, upd_same, ?_, Nd.merge vnd, by have h1 := length_mergeK (mergeK [] [(kn, V.int n), (kl, .bl (decide (V.int r2 = V.int 0)))]) kvs; have h2 := len2 [] kn kl (.int n) (.bl (decide (V.int r2 = V.int 0))); omega, ?_, ?_, ?_, ?_, ?_, ?_, ?_, ?_⟩ nq nl
          · have hc := kG _ _ n1 e
            rw [upd_ne (ne_of_none e nq), upd_ne (ne_of_none hc nu)]
            exact kG3 _ _ n1 hc
          · obtain ⟨o3, e3, y3⟩ := bb2
            exact ⟨o3, by rw [upd_ne (Ne.symm qb), upd_ne (Ne.symm ub)]; exact e3, y3⟩
          · rw [upd_ne lpq, upd_ne lpu]
            exact hl3
          · rw [merge2 _ _ _ _ _ _ (by decide), if_neg (by decide), if_neg (by decide)]; exact vw
          · rw [merge2 _ _ _ _ _ _ (by decide), if_neg (by decide), if_neg (by decide)]; exact vp
          · rw [merge2 _ _ _ _ _ _ (by decide), if_neg (by decide), if_neg (by decide)]; exact vb
          · rw [merge2 _ _ _ _ _ _ (by decide), if_neg (by decide), if_neg (by decide)]; exact vm
          · rw [merge2 _ _ _ _ _ _ (by decide), if_neg (by decide), if_neg (by decide)]; exact va
          · rw [merge2 _ _ _ _ _ _ (by decide), if_neg (by decide), if_neg (by decide)]; exact vh
          · rw [merge2 _ _ _ _ _ _ (by decide), if_neg (by decide), if_pos rfl]
          · rw [merge2 _ _ _ _ _ _ (by decide), if_pos rfl]
end
end Lay
set_option Elab.async false
set_option linter.all false
set_option maxRecDepth 100000
set_option maxHeartbeats 4000000
set_option pp.maxSteps 1500
namespace Lay
open PySem PySem.Spec PyProof.Rows L2
section
variable {G : Hp} {q lp : Addr} {d : PD} (h : DictAt G q lp d)
include h
theorem dg_w : DGet G q (.str "word") (some (.str d.word)) := by
  obtain ⟨kvs, h1, _, h3⟩ := h
  exact .inl ⟨kvs, kw, .inl h1, rfl, h3.w.symm⟩
theorem dg_p : DGet G q (.str "parts") (some (.ref lp)) := by
  obtain ⟨kvs, h1, _, h3⟩ := h
  exact .inl ⟨kvs, kp, .inl h1, rfl, h3.p.symm⟩
theorem dg_b : DGet G q (.str "broken") (some (.bl d.broken)) := by
  obtain ⟨kvs, h1, _, h3⟩ := h
  exact .inl ⟨kvs, kb, .inl h1, rfl, h3.b.symm⟩
theorem dg_m : DGet G q (.str "marked") (some (.bl d.marked)) := by
  obtain ⟨kvs, h1, _, h3⟩ := h
  exact .inl ⟨kvs, km, .inl h1, rfl, h3.m.symm⟩
theorem dg_a : DGet G q (.str "ahead") (some (.str d.ahead)) := by
  obtain ⟨kvs, h1, _, h3⟩ := h
  exact .inl ⟨kvs, ka, .inl h1, rfl, h3.a.symm⟩
theorem dg_h : DGet G q (.str "behind") (some (.str d.behind)) := by
  obtain ⟨kvs, h1, _, h3⟩ := h
  exact .inl ⟨kvs, kh, .inl h1, rfl, h3.h.symm⟩
theorem dg_n : DGet G q (.str "blanks") (some (.int d.blanks)) := by
  obtain ⟨kvs, h1, _, h3⟩ := h
  exact .inl ⟨kvs, kn, .inl h1, rfl, h3.n.symm⟩
theorem dg_l : DGet G q (.str "left") (some (.bl d.left)) := by
  obtain ⟨kvs, h1, _, h3⟩ := h
  exact .inl ⟨kvs, kl, .inl h1, rfl, h3.l.symm⟩
theorem dg_lp : G lp = some (.lst (d.parts.map V.str)) := by
  obtain ⟨kvs, h1, h2, h3⟩ := h
  exact h2
end
theorem hu_of {k : Nat} {A : Around} (hr : Room k A) : A.units + 1 < cLine := by
  have := hr.units
  omega
def psPiece : List Str := ["self", "word", "parts", "broken", "marked", "ahead", "behind", "blanks", "left"]
def spLMade (K : PySem.W.Frag) (C : Addr) : Sp := fun vs H Q _ => ∃ (q lp : Addr) (d : PD), vs = [.ref q] ∧ DictAt H q lp d ∧ d.Ok ∧ d.parts.length ≤ 30 ∧ ∀ y H', Same H H' → H y = none → PieceAt K C H' y d → Q (.ref y) H'
def frontS (b : Bool) : Str := if b = true then Str.ofString "!" else Str.ofString ""
def endS (b : Bool) : Str := if b = true then Str.ofString "," else Str.ofString ""
def moreS (z : Str) : Str := if z.length = 0 then Str.ofString "" else Str.ofString "  # " ++ z
def flatS (d : PD) (mk : Bool) (rm : Str) : Str := (((((frontS d.left ++ d.word) ++ Str.ofString "(") ++ Txt.join ", " d.parts) ++ endS mk) ++ Str.ofString ")") ++ moreS rm
def spLFlat : Sp := fun vs H Q _ => ∃ (q lp : Addr) (d : PD) (mk : Bool) (rm : Str), vs = [.ref q, .bl mk, .str rm] ∧ DictAt H q lp d ∧ d.Ok ∧ d.parts.length ≤ 30 ∧ remarkB rm = true ∧ Q (.str (flatS d mk rm)) H
abbrev sLMade : Stmt := top 40
abbrev sLFlat : Stmt := top 41
theorem str_ne {z : Str} : decide (V.str z = V.str "") = decide (z.length = 0) := by
  apply decide_eq_decide.mpr
  constructor
  · intro e
    rw [V.str.inj e]
    decide
  · intro e
    have : z.cps = #[] := Array.eq_empty_of_size_eq_zero e
    cases z
    cases this
    rfl
section
variable {P : Program} {w : World} {K : PySem.W.Frag} {mg : Str → Option Value} {base : Heap}
theorem scLMade : FnScope ["_law_piece_here", "_law_words"] ["_law_piece_here"] (defScope sLMade) := ⟨rfl, rfl, rfl, by decide +kernel, rfl, by decide +kernel, by decide +kernel⟩
theorem ok_lmade {f fI C : Addr} {fd dI : FuncData} (F : Fun K "_law_made" "_law_made" sLMade f fd) (gC : mg "Piece" = some (.ref C)) (M : Mk K C fI)
    (GI : FnOk P w K mg base CX0 3 fI dI psPiece (spPieceI C K)) (bI : Binds K dI psPiece []) : FnOk P w K mg base CX0 5 f fd ["_law_piece_here"] (spLMade K C) := by
  refine F.ok scLMade (fun vs H Q E h => ?_) (fun cdv A outer s H vs Q E hr h => ?_)
  · obtain ⟨q, lp, d, rfl, _⟩ := h
    rfl
  · obtain ⟨q, lp, d, rfl, hD, o, few, k⟩ := h
    refine ⟨_, (pss_cons (ps_set (i := 1) scLMade.nd rfl (.inl rfl) (pe_tup (pa_cons (pe_dget (hu_of hr) (pv 0) pe_str (fun _ _ => rfl)) (pa_cons (pe_dget (hu_of hr) (pv 0) pe_str (fun _ _ => rfl)) (pa_cons (pe_dget (hu_of hr) (pv 0) pe_str (fun _ _ => rfl)) (pa_cons (pe_dget (hu_of hr) (pv 0) pe_str (fun _ _ => rfl)) (pa_cons (pe_dget (hu_of hr) (pv 0) pe_str (fun _ _ => rfl)) (pa_cons (pe_dget (hu_of hr) (pv 0) pe_str (fun _ _ => rfl)) pa_nil))))))))
      (pss_one (ps_ret (pe_make M GI hr (by rfl) gC bI .nil pass0 (pa_cons (pe_ix ix_tup (pv 1) pe_int (fun _ _ => rfl)) (pa_cons (pe_ix ix_tup (pv 1) pe_int (fun _ _ => rfl)) (pa_cons (pe_ix ix_tup (pv 1) pe_int (fun _ _ => rfl)) (pa_cons (pe_ix ix_tup (pv 1) pe_int (fun _ _ => rfl)) (pa_cons (pe_ix ix_tup (pv 1) pe_int (fun _ _ => rfl)) (pa_cons (pe_ix ix_tup (pv 1) pe_int (fun _ _ => rfl))
        (pa_cons (pe_dget (hu_of hr) (pv 0) pe_str (fun _ _ => rfl)) (pa_cons (pe_dget (hu_of hr) (pv 0) pe_str (fun _ _ => rfl)) pa_nil)))))))))))), ?_⟩
    refine ⟨_, rfl, q, _, rfl, dg_w hD, _, rfl, q, _, rfl, dg_p hD, _, rfl, q, _, rfl, dg_b hD, _, rfl, q, _, rfl, dg_m hD, _, rfl, q, _, rfl, dg_a hD, _, rfl, q, _, rfl, dg_h hD, (by show 6 ≤ sizeLine; decide), fun t nt => ?_⟩
    have st := Same.new nt (o := .tup [.str d.word, .ref lp, .bl d.broken, .bl d.marked, .str d.ahead, .str d.behind])
    have hD1 := hD.same st
    have ht : upd H t (.tup [.str d.word, .ref lp, .bl d.broken, .bl d.marked, .str d.ahead, .str d.behind]) t = some (.tup [.str d.word, .ref lp, .bl d.broken, .bl d.marked, .str d.ahead, .str d.behind]) := upd_same
    generalize upd H t (.tup [.str d.word, .ref lp, .bl d.broken, .bl d.marked, .str d.ahead, .str d.behind]) = G at *
    refine ⟨_, rfl, t, _, 0, _, rfl, rfl, SqT.of ht, rfl, _, rfl, t, _, 1, _, rfl, rfl, SqT.of ht, rfl, _, rfl, t, _, 2, _, rfl, rfl, SqT.of ht, rfl, _, rfl, t, _, 3, _, rfl, rfl, SqT.of ht, rfl, _, rfl, t, _, 4, _, rfl, rfl, SqT.of ht, rfl, _, rfl, t, _, 5, _, rfl, rfl, SqT.of ht, rfl, _, rfl, q, _, rfl, dg_n hD1, _, rfl, q, _, rfl, dg_l hD1, fun x dx nx nd ne => ?_⟩
    have zz := (Same.new nd (o := .own x)).trans (Same.new (fresh_own (o := .own x) nx ne) (o := .ins C dx []))
    refine ⟨x, lp, dx, d, rfl, o, .inl (zz _ _ (dg_lp hD1)), upd_same, fun H2 t2 kp2 hx ht2 => ⟨rfl, ?_⟩⟩
    have s2 := made_same nx nd kp2
    exact k x H2 (st.trans s2) (st.free nx) ⟨dx, t2, hx, ht2⟩
theorem scLFlat : FnScope ["_law_piece_here", "_law_is_marked", "_law_remark_here", "_law_end", "_law_front", "_law_more"] ["_law_piece_here", "_law_is_marked", "_law_remark_here"] (defScope sLFlat) := ⟨rfl, rfl, rfl, by decide +kernel, rfl, by decide +kernel, by decide +kernel⟩
theorem ok_lflat {f : Addr} {fd : FuncData} (F : Fun K "_law_flat" "_law_flat" sLFlat f fd) : FnOk P w K mg base CX0 1 f fd ["_law_piece_here", "_law_is_marked", "_law_remark_here"] spLFlat := by
  refine F.ok scLFlat (fun vs H Q E h => ?_) (fun cdv A outer s H vs Q E hr h => ?_)
  · obtain ⟨q, lp, d, mk, rm, rfl, _⟩ := h
    rfl
  · obtain ⟨q, lp, d, mk, rm, rfl, hD, o, few, hrm, k⟩ := h
    refine ⟨_, (C8.pss_cut (ps_set (i := 3) scLFlat.nd rfl (.inl rfl) (pe_ifExp (pt_val (pv 1)) pe_str pe_str))
      (C8.pss_cut (ps_set (i := 4) scLFlat.nd rfl (.inl rfl) (pe_ifExp (pt_val (pe_dget (hu_of hr) (pv 0) pe_str (fun _ _ => rfl))) pe_str pe_str))
      (C8.pss_cut (ps_set (i := 5) scLFlat.nd rfl (.inl rfl) (pe_ifExp (pt_cmpR op_ne (pv 2) pe_str (nomark _)) (pe_op op_add_str pe_str (pv 2)) pe_str))
      (pss_one (ps_ret (pe_op op_add_str (pe_op op_add_str (pe_op op_add_str (pe_op op_add_str (pe_op op_add_str (pe_op op_add_str (pv 4) (pe_dget (hu_of hr) (pv 0) pe_str (fun _ _ => rfl))) pe_str) (pe_bm PySem.F.plainAttrs_str PySem.F.slot_str_join PySem.F.type_str_join mt_join pe_str (pa_cons (pe_dget (hu_of hr) (pv 0) pe_str (fun _ _ => rfl)) pa_nil))) (pv 3)) pe_str) (pv 5))))))), ?_⟩
    refine ⟨fun σ G => σ = [some (.ref q), some (.bl mk), some (.str rm), some (.str (endS mk)), none, none] ∧ G = H, ?_, ?_⟩
    · refine ⟨_, rfl, mk, rfl, ?_⟩
      cases mk with
      | true => exact iteY rfl ⟨rfl, rfl⟩
      | false => exact iteN rfl ⟨rfl, rfl⟩
    rintro σ G ⟨rfl, rfl⟩
    refine ⟨fun σ G' => σ = [some (.ref q), some (.bl mk), some (.str rm), some (.str (endS mk)), some (.str (frontS d.left)), none] ∧ G' = G, ?_, ?_⟩
    · refine ⟨_, rfl, q, _, rfl, dg_l hD, d.left, rfl, ?_⟩
      cases e : d.left with
      | true => exact iteY rfl ⟨rfl, rfl⟩
      | false => exact iteN rfl ⟨rfl, rfl⟩
    rintro σ G' ⟨rfl, rfl⟩
    have lr := remarkB_len hrm
    have j5 : (Str.ofString "  # ").length = 4 := by decide
    refine ⟨fun σ G => σ = [some (.ref q), some (.bl mk), some (.str rm), some (.str (endS mk)), some (.str (frontS d.left)), some (.str (moreS rm))] ∧ G = G', ?_, ?_⟩
    · refine ⟨_, rfl, rfl, _, rfl, ?_⟩
      rw [str_ne]
      by_cases e : rm.length = 0
      · refine iteN (by rw [e]; rfl) ⟨?_, rfl⟩
        unfold moreS
        rw [if_pos e]
        rfl
      · refine iteY (by simp [e]) ⟨_, rfl, _, _, rfl, rfl, fitsN (by omega), ?_, rfl⟩
        unfold moreS
        rw [if_neg e]
        rfl
    rintro σ G ⟨rfl, rfl⟩
    have lf : (frontS d.left).length ≤ 1 := by unfold frontS; split <;> decide
    have le : (endS mk).length ≤ 1 := by unfold endS; split <;> decide
    have lm : (moreS rm).length ≤ 10 := by
      unfold moreS
      split
      · decide
      · rw [Str.length_append]
        omega
    have lw := nameB_len o.word
    have j1 : (Str.ofString ", ").length = 2 := by decide
    have j2 : (Str.ofString "(").length = 1 := by decide
    have j3 : (Str.ofString ")").length = 1 := by decide
    have hsum := sum_few (n := 6) fun z hz => nameB_len (o.parts z hz)
    have hjoin := join_le ", " d.parts
    rw [j1] at hjoin
    refine ⟨_, rfl, _, rfl, q, _, rfl, dg_w hD, _, _, rfl, rfl, fitsN (by omega), _, _, rfl, rfl, fitsN (by rw [Str.length_append]; omega), rfl, _, rfl, q, _, rfl, dg_p hD, _, lp, d.parts, rfl, rfl, .inl (SqL.of (dg_lp hD)), by rw [j1]; omega, _, _, rfl, rfl, fitsN (by rw [Str.length_append, Str.length_append]; omega), _, rfl, _, _, rfl, rfl, fitsN (by rw [Str.length_append, Str.length_append, Str.length_append]; omega), _, _, rfl, rfl, fitsN (by rw [Str.length_append, Str.length_append, Str.length_append, Str.length_append]; omega), _, rfl, _, _, rfl, rfl, fitsN (by rw [Str.length_append, Str.length_append, Str.length_append, Str.length_append, Str.length_append]; omega), k⟩
end
end Lay
set_option Elab.async false
set_option linter.all false
set_option maxRecDepth 100000
set_option maxHeartbeats 4000000
set_option pp.maxSteps 900
namespace Lay
open PySem PySem.Spec PyProof.Rows L2 KwX
/-! the bare length; equal pieces -/
def bareN (d : PD) : Int := ((headS d).length : Int) + ((Txt.join ", " d.parts).length : Int) + 1
abbrev sEqPc : Stmt := inClass (top 20) 3
def spBare (K : PySem.W.Frag) (C : Addr) : Sp := fun vs H Q _ => ∃ (p : Addr) (d : PD), vs = [.ref p] ∧ PieceAt K C H p d ∧ d.Ok ∧ d.parts.length ≤ 30 ∧ Q (.int (bareN d)) H
/-- isinstance(x, Piece) -/
def IsP (K : PySem.W.Frag) (C : Addr) (H : Hp) (x : V) (b : Bool) : Prop := ∃ t, TyX K H x t ∧ PySem.W.kitOne K t (.ref C) = some b
theorem IsP.same {K : PySem.W.Frag} {C : Addr} {H H' : Hp} {x : V} {b : Bool} (s : Same H H') (h : IsP K C H x b) : IsP K C H' x b := by
  obtain ⟨t, h1, h2⟩ := h
  exact ⟨t, TyX.same s h1, h2⟩
/-- what isinstance asks of a class -/
structure ClsI (K : PySem.W.Frag) (C : Addr) : Prop where
  cl : Cls K C
  ha : PySem.W.findIn K (.ref C) "__class__" = some (some (.builtin "object.__class__"))
  hn : PySem.W.specialIn K (.builtin "object.__class__") "__get__" = some (some (.builtin "getset_descriptor.__get__"))
  htk : PySem.W.takesIn K (.builtin "object.__class__") = some true
  hm : PySem.W.mroIn K C (.type "object") = some true
theorem ClsI.at {K : PySem.W.Frag} {C a dx : Addr} {H : Hp} {fs : List (Str × V)} (c : ClsI K C) (h : H a = some (.ins C dx fs)) : TyX K H (.ref a) (.ref C) := .base (.ins h c.cl c.ha c.hn c.htk c.hm)
theorem ClsI.yes {K : PySem.W.Frag} {C a dx : Addr} {H : Hp} {fs : List (Str × V)} (c : ClsI K C) (h : H a = some (.ins C dx fs)) : IsP K C H (.ref a) true := ⟨_, c.at h, by unfold PySem.W.kitOne; rw [if_pos (by simp)]⟩
/-- a piece as data -/
def dataL (d : PD) : List PyData := [.str d.word, .tuple (d.parts.map .str), .bool d.broken, .bool d.marked, .str d.ahead, .str d.behind, .int d.blanks, .bool d.left]
def eqB (d e : PD) : Bool := PyData.eqvAll (dataL d) (dataL e)
theorem eqB_eq (d e : PD) : eqB d e = (decide (V.str d.word = .str e.word) && (PyData.eqvAll (d.parts.map .str) (e.parts.map .str) && (decide (V.bl d.broken = .bl e.broken) && (decide (V.bl d.marked = .bl e.marked) && (decide (V.str d.ahead = .str e.ahead) && (decide (V.str d.behind = .str e.behind) && (decide (V.int d.blanks = .int e.blanks) && (decide (V.bl d.left = .bl e.left))))))))) := by
  have s : ∀ a b : Str, decide (V.str a = .str b) = (a == b) := fun a b => by
    apply Bool.eq_iff_iff.mpr
    rw [decide_eq_true_iff, beq_iff_eq]
    exact ⟨fun h => V.str.inj h, fun h => by rw [h]⟩
  have bl : ∀ a b : Bool, decide (V.bl a = .bl b) = (a == b) := fun a b => by cases a <;> cases b <;> decide
  have it : ∀ a b : Int, decide (V.int a = .int b) = (a == b) := fun a b => dec_int
  unfold eqB dataL
  simp only [PyData.eqvAll, PyData.eqv, s, bl, it, Bool.and_true]
theorem eqvAll_strs : ∀ {xs ys : List Str}, PyData.eqvAll (xs.map .str) (ys.map .str) = true → xs = ys
  | [], [], _ => rfl
  | x :: xs, y :: ys, h => by
    simp only [List.map_cons, PyData.eqvAll, PyData.eqv, Bool.and_eq_true, beq_iff_eq] at h
    rw [h.1, eqvAll_strs h.2]
  | [], _ :: _, h => by simp [PyData.eqvAll] at h
  | _ :: _, [], h => by simp [PyData.eqvAll] at h
theorem eqvAll_refl : ∀ xs : List Str, PyData.eqvAll (xs.map .str) (xs.map .str) = true
  | [] => rfl
  | x :: xs => by simp [PyData.eqvAll, PyData.eqv, eqvAll_refl xs]
theorem eqB_self (d : PD) : eqB d d = true := by
  rw [eqB_eq]
  simp [eqvAll_refl]
theorem eqB_iff {d e : PD} : eqB d e = true ↔ d = e := by
  constructor
  · intro h
    rw [eqB_eq] at h
    simp only [Bool.and_eq_true, decide_eq_true_iff] at h
    obtain ⟨h1, h2, h3, h4, h5, h6, h7, h8⟩ := h
    obtain ⟨w, ps, b, m, a, bh, n, l⟩ := d
    obtain ⟨w2, ps2, b2, m2, a2, bh2, n2, l2⟩ := e
    cases h1
    cases h3
    cases h4
    cases h5
    cases h6
    cases h7
    cases h8
    have h2 : ps = ps2 := eqvAll_strs h2
    rw [h2]
  · rintro rfl
    exact eqB_self d
def spEqP (K : PySem.W.Frag) (C : Addr) : Sp := fun vs H Q _ => ∃ (p : Addr) (y : V) (d : PD), vs = [.ref p, y] ∧ PieceAt K C H p d ∧ d.Ok ∧ ((∃ q e, y = .ref q ∧ PieceAt K C H q e ∧ e.Ok ∧ Q (.bl (eqB d e)) H) ∨ (IsP K C H y false ∧ Q (.bl false) H))
theorem strs_dp {K : PySem.W.Frag} {H : Hp} : ∀ ws : List Str, DpAll K H (ws.map V.str) (ws.map PyData.str)
  | [] => .nil
  | w :: ws => .cons (.str w) (strs_dp ws)
theorem canLay_strs : ∀ ws : List Str, (∀ z ∈ ws, PyData.strOk z = true) → PyData.canLayAll0 (ws.map PyData.str) = true
  | [], _ => by simp [PyData.canLayAll0]
  | n :: r, h => by simp [PyData.canLayAll0, PyData.canLay0, h n List.mem_cons_self, canLay_strs r fun z hz => h z (List.mem_cons_of_mem _ hz)]
theorem depth_strs : ∀ ws : List Str, PyData.depthAll (ws.map PyData.str) ≤ 1
  | [] => by simp [PyData.depthAll]
  | n :: r => by
    have := depth_strs r
    simp only [List.map_cons, PyData.depthAll, PyData.depth]
    omega
theorem shaped_strs (ws : List Str) (h : ∀ z ∈ ws, PyData.strOk z = true) : PySem.SeqAt.shaped (.tuple (ws.map PyData.str)) = true := by
  have h1 := depth_strs ws
  have h2 : PyData.depth (.tuple (ws.map PyData.str)) ≤ 64 := by simp only [PyData.depth]; omega
  show (PyData.canLay0 (.tuple (ws.map PyData.str)) && decide (PyData.depth (.tuple (ws.map PyData.str)) ≤ 64)) = true
  rw [Bool.and_eq_true]
  exact ⟨by simp only [PyData.canLay0]; exact canLay_strs ws h, decide_eq_true h2⟩
theorem ascii_strOk {z : Str} (h1 : Txt.isascii z = true) : PyData.strOk z = true := by
  unfold Txt.isascii at h1
  unfold PyData.strOk
  rw [Array.all_eq_true'] at h1 ⊢
  intro c hc
  have := of_decide_eq_true (h1 c hc)
  exact decide_eq_true (by omega)
theorem nameB_ascii {z : Str} (h : nameB z = true) : Txt.isascii z = true := by
  unfold nameB at h
  exact (Bool.and_eq_true_iff.mp (Bool.and_eq_true_iff.mp h).2).1
theorem nameB_strOk {z : Str} (h : nameB z = true) : PyData.strOk z = true := ascii_strOk (nameB_ascii h)
theorem remB_ascii {z : Str} (h : remarkB z = true) : Txt.isascii z = true := by
  unfold remarkB at h
  rcases Bool.or_eq_true_iff.mp h with h | h
  · have e : z = ("" : Str) := V.str.inj (of_decide_eq_true h)
    rw [e]
    decide +kernel
  · exact nameB_ascii h
theorem eqv_tup (xs ys : List PyData) : PyData.eqv (.tuple xs) (.tuple ys) = PyData.eqvAll xs ys := by rw [PyData.eqv]
section
variable {P : Program} {w : World} {K : PySem.W.Frag} {mg : Str → Option Value} {base : Heap}
theorem scEqP : FnScope ["self", "other"] ["self", "other"] (defScope sEqPc) := ⟨rfl, rfl, rfl, by decide +kernel, rfl, by decide +kernel, by decide +kernel⟩
theorem ok_eqP {f C : Addr} {fd : FuncData} (F : Fun K "__eq__" "Piece.__eq__" sEqPc f fd) (B : Bt mg) (c : ClsI K C) (Z : PieceC K C) (gC : mg "Piece" = some (.ref C)) : FnOk P w K mg base CX0 1 f fd ["self", "other"] (spEqP K C) := by
  refine F.ok scEqP (fun vs H Q E h => ?_) (fun cdv A outer s H vs Q E hr h => ?_)
  · obtain ⟨p, y, d, rfl, _⟩ := h
    rfl
  · obtain ⟨p, y, d, rfl, ⟨dx, t, hp, ht⟩, o, h⟩ := h
    refine ⟨_, pss_one (ps_ret (pe_and (pe_callB (call_isiK (K := K) rfl) (by rfl) B.isinstance (by decide +kernel) (pa_cons (pv 1) (pa_cons (pe_glob (v := .ref C) (by rfl) gC rfl) pa_nil)))
      (pe_and (pe_cmpR op_eq (pe_fld (pv 0) rfl) (pe_fld (pv 1) rfl) (nomark _))
      (pe_and (pe_cmpR (op_eqD hr.units) (pe_fld (pv 0) rfl) (pe_fld (pv 1) rfl) (nomark _))
      (pe_and (pe_cmpR op_eq (pe_fld (pv 0) rfl) (pe_fld (pv 1) rfl) (nomark _))
      (pe_and (pe_cmpR op_eq (pe_fld (pv 0) rfl) (pe_fld (pv 1) rfl) (nomark _))
      (pe_and (pe_cmpR op_eq (pe_fld (pv 0) rfl) (pe_fld (pv 1) rfl) (nomark _))
      (pe_and (pe_cmpR op_eq (pe_fld (pv 0) rfl) (pe_fld (pv 1) rfl) (nomark _))
      (pe_and (pe_cmpR op_eq (pe_fld (pv 0) rfl) (pe_fld (pv 1) rfl) (nomark _))
      (pe_one (pe_cmpR op_eq (pe_fld (pv 0) rfl) (pe_fld (pv 1) rfl) (nomark _)))))))))))), ?_⟩
    rcases h with ⟨q, e, rfl, ⟨dx2, t2, hq, ht2⟩, o2, k⟩ | ⟨⟨u, ty, eu⟩, k⟩
    · rw [eqB_eq] at k
      have cut : ∀ {c r : Bool} {R : Prop}, (c = true → Q (.bl r) H → R) → (c = false → Q (.bl false) H → R) → Q (.bl (c && r)) H → R := fun {c r R} h1 h2 k => by
        cases c with
        | true => exact h1 rfl k
        | false => exact h2 rfl k
      have sh : PySem.SeqAt.shaped (.tuple (d.parts.map PyData.str)) = true := shaped_strs _ fun z hz => nameB_strOk (o.parts z hz)
      have sh2 : PySem.SeqAt.shaped (.tuple (e.parts.map PyData.str)) = true := shaped_strs _ fun z hz => nameB_strOk (o2.parts z hz)
      refine ⟨_, rfl, _, _, _, _, true, rfl, .own _, c.at hq, (by unfold PySem.W.kitOne; rw [if_pos (by simp)]), _, rfl, iteY rfl ?_⟩
      refine ⟨_, rfl, p, C, dx, _, _, rfl, hp, Z.cl, Z.word, rfl, _, rfl, q, C, dx2, _, _, rfl, hq, Z.cl, Z.word, rfl, rfl, _, rfl, ?_⟩
      refine cut (fun h k => iteY h ?_) (fun h k => iteN h k) k
      refine ⟨_, rfl, p, C, dx, _, _, rfl, hp, Z.cl, Z.parts, rfl, _, rfl, q, C, dx2, _, _, rfl, hq, Z.cl, Z.parts, rfl, .tuple (d.parts.map .str), .tuple (e.parts.map .str), .tup (SqT.of ht) (strs_dp _), .tup (SqT.of ht2) (strs_dp _), sh, sh2, _, rfl, ?_⟩
      rw [eqv_tup]
      refine cut (fun h k => iteY h ?_) (fun h k => iteN h k) k
      refine ⟨_, rfl, p, C, dx, _, _, rfl, hp, Z.cl, Z.broken, rfl, _, rfl, q, C, dx2, _, _, rfl, hq, Z.cl, Z.broken, rfl, rfl, _, rfl, ?_⟩
      refine cut (fun h k => iteY h ?_) (fun h k => iteN h k) k
      refine ⟨_, rfl, p, C, dx, _, _, rfl, hp, Z.cl, Z.marked, rfl, _, rfl, q, C, dx2, _, _, rfl, hq, Z.cl, Z.marked, rfl, rfl, _, rfl, ?_⟩
      refine cut (fun h k => iteY h ?_) (fun h k => iteN h k) k
      refine ⟨_, rfl, p, C, dx, _, _, rfl, hp, Z.cl, Z.ahead, rfl, _, rfl, q, C, dx2, _, _, rfl, hq, Z.cl, Z.ahead, rfl, rfl, _, rfl, ?_⟩
      refine cut (fun h k => iteY h ?_) (fun h k => iteN h k) k
      refine ⟨_, rfl, p, C, dx, _, _, rfl, hp, Z.cl, Z.behind, rfl, _, rfl, q, C, dx2, _, _, rfl, hq, Z.cl, Z.behind, rfl, rfl, _, rfl, ?_⟩
      refine cut (fun h k => iteY h ?_) (fun h k => iteN h k) k
      refine ⟨_, rfl, p, C, dx, _, _, rfl, hp, Z.cl, Z.blanks, rfl, _, rfl, q, C, dx2, _, _, rfl, hq, Z.cl, Z.blanks, rfl, rfl, _, rfl, ?_⟩
      refine cut (fun h k => iteY h ?_) (fun h k => iteN h k) k
      exact ⟨_, rfl, p, C, dx, _, _, rfl, hp, Z.cl, Z.left, rfl, _, rfl, q, C, dx2, _, _, rfl, hq, Z.cl, Z.left, rfl, rfl, k⟩
    · exact ⟨_, rfl, _, _, _, _, false, rfl, .own _, ty, eu, _, rfl, iteN rfl k⟩
end
end Lay
set_option Elab.async false
set_option linter.all false
set_option maxRecDepth 100000
set_option maxHeartbeats 4000000
/-! str(x), x == y, x != y, x + y by what an own class defines. -/
namespace Lay
open PySem PySem.Spec PyProof.Rows L2
section
variable {X : Cx} {CX : CXT} {C f : Addr} {n : Nat} {fd : FuncData} {ps : List Str} {sp : Sp}
/-- a def called beneath, with its values -/
theorem run_sub {A : Around} {pins : List (Addr × Obj)} {σ : L2.St} {H : Hp} {s : Shared} {Q : VK} {us : List Value} {vs : List V} {Post : Value → Shared → Prop} (F : FnOk X.prog X.w X.K X.mg X.base CX n f fd ps sp) (hr : Sub X n A) (hb : Binds X.K fd ps []) (hx : Passes CX X E0)
    (I : Inv X pins σ H s) (r : Vals vs us) (h : sp vs H Q E0) (post : ∀ v u H' s', Inv X pins σ H' s' → RelV v u → Q v H' → Post u s') : wpAny (model X.prog X.w) A (call (.ref f) us) Post X.xe s := by
  have hl : us.length = ps.length := by rw [← r.length]; exact F.len _ _ _ _ h
  have b := hb s us I.kIn (by rw [List.append_nil]; exact hl)
  rw [List.append_nil] at b
  have e := I.env0
  have e0 : Env0 X.prog X.w X.K X.mg X.base A X.stack s H := ⟨by rw [hr.fr]; exact e.frames, e.mod, e.bs, e.bsz, e.funs, e.frf, e.hok, e.bare⟩
  refine wpAny_call (codeAny_mono (F.run A X.stack s H ⟨us, []⟩ us vs Q E0 hr.room e0 b r h) fun r s' hq => ?_)
  cases r with
  | error er => exact hx pins σ H s er s' I hq
  | ok fl =>
    cases fl with
    | ret u =>
      obtain ⟨v, H', I', rv, q⟩ := I.after hq
      exact post v u H' s' I' rv q
    | next => exact False.elim hq
    | brk => exact False.elim hq
    | cont => exact False.elim hq
theorem call_strOwn (F : FnOk X.prog X.w X.K X.mg X.base CX n f fd ps sp) (hs : PySem.W.findIn X.K (.ref C) "__str__" = some (some (.ref f))) (hf : PySem.W.isFn X.K (.ref f) = true) (hr : Room (n + 2) X.A) (hb : Binds X.K fd ps []) (hx : Passes CX X E0) :
    CallR X (.type "str") (fun xs H Q => ∃ (a dx : Addr) (fs : List (Str × V)), xs = [.ref a] ∧ H a = some (.ins C dx fs) ∧ sp [.ref a] H (fun v H' => ∃ z, v = .str z ∧ Q (.str z) H') E0) := by
  intro pins s σ H xs us Q I r h
  obtain ⟨a, dx, fs, rfl, ha, q⟩ := h
  obtain ⟨u, rfl, ru⟩ := vals1 r
  cases ru
  obtain ⟨mA, J, _⟩ := ins_get I.hok ha
  obtain ⟨od, J, _⟩ := J.look
  have sb : Sub X n X.A.in1.in1 := ⟨hr.in1.in1, rfl⟩
  refine PySem.W.kso_call sb.room.units0 I.kIn J hs hf (run_sub (vs := [V.ref a]) F sb hb hx I (.cons rfl .nil) q fun v u H' s' I' rv hq => ?_)
  obtain ⟨z, rfl, hq⟩ := hq
  obtain ⟨t, rfl⟩ := rv
  exact ⟨.str z, H', I', ⟨t, rfl⟩, hq⟩
/-- x == y, two instances of the class -/
theorem op_eqOwn (F : FnOk X.prog X.w X.K X.mg X.base CX n f fd ps sp) (hs : PySem.W.findIn X.K (.ref C) "__eq__" = some (some (.ref f))) (hf : PySem.W.isFn X.K (.ref f) = true) (hr : Room n X.A) (hb : Binds X.K fd ps []) (hx : Passes CX X E0) :
    OpR X (compareOp .Eq) (fun x y H Q => ∃ (a b dx dy : Addr) (fs gs : List (Str × V)), x = .ref a ∧ y = .ref b ∧ H a = some (.ins C dx fs) ∧ H b = some (.ins C dy gs) ∧ sp [.ref a, .ref b] H (fun v H' => ∃ z, v = .bl z ∧ Q (.bl z) H') E0) := by
  intro pins s σ H x y v u Q I rx ry h
  obtain ⟨a, b, dx, dy, fs, gs, rfl, rfl, ha, hb2, q⟩ := h
  cases rx
  cases ry
  obtain ⟨mA, J, _⟩ := ins_get I.hok ha
  obtain ⟨mB, J', _⟩ := ins_get I.hok hb2
  obtain ⟨od, J, _⟩ := J.look
  obtain ⟨od', J', _⟩ := J'.look
  obtain ⟨m, hF⟩ := I.fr
  have sb : Sub X n X.A := ⟨hr, rfl⟩
  show wpAny (model X.prog X.w) X.A (richCompare .Eq (.ref a) (.ref b)) (EP X pins σ Q) X.xe s
  refine PySem.W.cmp_K (op := .Eq) (tb := .ref C) sb.room.units0 hF I.ok.mod.kin J J'.type (by simp [PySem.W.notFirst]) hs hf (run_sub (vs := [V.ref a, V.ref b]) F sb hb hx I (.cons rfl (.cons rfl .nil)) q fun v u H' s' I' rv hq => ?_)
  obtain ⟨z, rfl, hq⟩ := hq
  cases rv
  exact ⟨.bl z, H', I', rfl, hq⟩
/-- x + y, two instances of the class, by its __add__ -/
theorem op_addOwn (F : FnOk X.prog X.w X.K X.mg X.base CX n f fd ps sp) (hs : PySem.W.findIn X.K (.ref C) "__add__" = some (some (.ref f))) (hc : PySem.W.selfFirst X.K C = true) (hf : PySem.W.isFn X.K (.ref f) = true) (hr : Room n X.A) (hb : Binds X.K fd ps []) (hx : Passes CX X E0) :
    OpR X (binaryOp .Add) (fun x y H Q => ∃ (a b dx dy : Addr) (fs gs : List (Str × V)), x = .ref a ∧ y = .ref b ∧ H a = some (.ins C dx fs) ∧ H b = some (.ins C dy gs) ∧ sp [.ref a, .ref b] H (fun v H' => ∃ c, v = .ref c ∧ Q (.ref c) H') E0) := by
  intro pins s σ H x y v u Q I rx ry h
  obtain ⟨a, b, dx, dy, fs, gs, rfl, rfl, ha, hb2, q⟩ := h
  cases rx
  cases ry
  obtain ⟨mA, J, _⟩ := ins_get I.hok ha
  obtain ⟨mB, J', _⟩ := ins_get I.hok hb2
  obtain ⟨od, J, _⟩ := J.look
  obtain ⟨od', J', _⟩ := J'.look
  obtain ⟨m, hF⟩ := I.fr
  have sb : Sub X n X.A := ⟨hr, rfl⟩
  refine PySem.W.binop_K (op := .Add) hF I.ok.mod.kin J J'.type hc hs hf (run_sub (vs := [V.ref a, V.ref b]) F sb hb hx I (.cons rfl (.cons rfl .nil)) q fun v u H' s' I' rv hq => ?_)
  obtain ⟨c, rfl, hq⟩ := hq
  cases rv
  exact ⟨.ref c, H', I', rfl, hq⟩
end
section
variable {prog : Program} {w : World} {A : Around} {E : Value → Shared → Prop} {s : Shared} {K : PySem.W.Frag} {x C f : Addr} {ox : Obj} {od : Option Obj} {b : Value}
theorem check_slot_K {M : Model} {id owner n : String} {rest : List Value} {Q : Unit → Shared → Prop} (hk : builtinKind id = some .slot) (hs : splitId id = some (owner, n))
    (ha : argsOk id ⟨.ref x :: rest, []⟩) (X : K.In s.heap) (I : PySem.W.InstAt s.heap x ox C od) (hm : PySem.W.mroIn K C (.type owner) = some true) (hq : Q () s) :
    wpAny M A (checkBuiltinCall id ⟨.ref x :: rest, []⟩) Q E s := by
  simp only [checkBuiltinCall, hk, hs]
  refine wpAny_bind ?_
  · unfold isInstance
    refine wpAny_bind (I.type.here ((PySem.W.looks_mroIn X hm).here ?_))
    rw [if_neg (by decide : ¬ (!true) = true)]
    cases hsig : Manifest.signature? id with
    | none => exact wpAny_pure hq
    | some sig =>
      simp only [argsOk, hsig] at ha
      have h2 : Bind.checkArgs id sig ⟨.ref x :: rest, []⟩ = pure () := ha
      show wpAny M A (Bind.checkArgs id sig ⟨.ref x :: rest, []⟩) Q E _
      rw [h2]
      exact wpAny_pure hq
theorem ne_entry {Q : PySem.Fin → Shared → Prop} (hu : A.units < cLine) (X : K.In s.heap) (I : PySem.W.InstAt s.heap x ox C od) (heq : PySem.W.findIn K (.ref C) "__eq__" = some (some (.ref f))) (hf : PySem.W.isFn K (.ref f) = true)
    (h : wpAny (model prog w) A (call (.ref f) [.ref x, b]) (fun v s' => ∃ z, v = .bool z ∧ Q (.done (.ret (.bool (!z)))) s') E s) : wpAny (model prog w) A (Builtin.«object.__ne__» ⟨[.ref x, b], []⟩) Q E s := by
  unfold Builtin.«object.__ne__»
  repeat (first | with_reducible refine wpAny_cRoomFor hu ?_ | (with_reducible refine PySem.W.ifBound_K X I heq hf (wpAny_mono h ?_ fun _ _ e => e)) | wp_step)
  rintro v s' ⟨z, rfl, q⟩
  repeat (first | wp_step)
  exact q
theorem ifBound_B {M : Model} {id : String} {name : Str} {args : List Value} {Q : Option Value → Shared → Prop} (S : ∀ v, bindSpecial (.builtin id) v = pure (.builtin id, [v])) (X : K.In s.heap) (I : PySem.W.InstAt s.heap x ox C od) (hs : PySem.W.findIn K (.ref C) name = some (some (.builtin id)))
    (h : wpAny M A (call (.builtin id) (.ref x :: args)) (fun v => Q (some v)) E s) : wpAny M A (callSpecialIfBound? (.ref x) name args) Q E s := by
  simp only [callSpecialIfBound?, bindSpecialIfBound?]
  refine wpAny_holding (wpAny_bind (wpAny_bind (wpAny_bind (I.type.here ((PySem.W.looks_findIn X hs).here ?_)))))
  simp only [S]
  refine wpAny_bind (wpAny_askSetting (wpAny_ite ?_))
  have fin : wpAny M A (call (.builtin id) ([.ref x] ++ args) >>= fun v => pure (some v)) Q E s := wpAny_bind (wpAny_mono h (fun v s' h' => wpAny_pure h') fun _ _ h' => h')
  split
  · exact wpAny_bind (wpAny_pure (wpAny_pure (by exact fin)))
  · exact wpAny_tryCatch (wpAny_bind (wpAny_pure (wpAny_pure (by exact fin))))
theorem ne_own {Q : Value → Shared → Prop} (hu : A.units + 1 < cLine) (X : K.In s.heap) (I : PySem.W.InstAt s.heap x ox C od) (hb : PySem.W.Looks (model prog w) s.heap (typeOf b) (.ref C)) (hne : PySem.W.findIn K (.ref C) "__ne__" = some (some (.builtin "object.__ne__")))
    (heq : PySem.W.findIn K (.ref C) "__eq__" = some (some (.ref f))) (hf : PySem.W.isFn K (.ref f) = true) (hm : PySem.W.mroIn K C (.type "object") = some true)
    (h : wpAny (model prog w) A.in1 (call (.ref f) [.ref x, b]) (fun v s' => ∃ z, v = .bool z ∧ Q (.bool (!z)) s') E s) : wpAny (model prog w) A (richCompare .NotEq (.ref x) b) Q E s := by
  have one : wpAny (model prog w) A (tryCompare (.ref x) "__ne__" b) (fun r s' => ∃ v, r = some v ∧ Q v s') E s := by
    unfold tryCompare
    refine wpAny_bind (ifBound_B F.cmp_object.ne.bind X I hne (wpAny_call (codeAny_call_builtin F.cmp_object.ne.plain F.cmpEntry_ne (check_slot_K F.cmpKind_ne F.cmpSplit_ne (F.cmpArgs_ne _ _) X I hm (ne_entry (A := A.in1) hu X I heq hf ?_)))))
    refine wpAny_mono h (fun v s' hv => ?_) fun _ _ e => e
    obtain ⟨z, rfl, q⟩ := hv
    exact ⟨z, rfl, wpAny_pure ⟨_, rfl, q⟩⟩
  unfold richCompare
  simp only [oneThing_ref]
  refine wpAny_holding (wpAny_bind (wpAny_cRoomFor (Nat.lt_of_succ_lt hu) ?_))
  refine wpAny_bind (I.type.here (wpAny_bind (hb.here ?_)))
  rw [if_neg (by simp)]
  refine wpAny_bind (wpAny_pure ?_)
  simp only [Bool.false_eq_true, if_false]
  refine wpAny_bind (wpAny_mono one (fun r s' z => ?_) fun _ _ e => e)
  obtain ⟨v, rfl, hq⟩ := z
  exact wpAny_pure hq
end
section
variable {X : Cx} {CX : CXT} {C f : Addr} {n : Nat} {fd : FuncData} {ps : List Str} {sp : Sp}
/-- x != y, two instances of the class, by its __eq__ -/
theorem op_neOwn (F : FnOk X.prog X.w X.K X.mg X.base CX n f fd ps sp) (hs : PySem.W.findIn X.K (.ref C) "__eq__" = some (some (.ref f))) (hne : PySem.W.findIn X.K (.ref C) "__ne__" = some (some (.builtin "object.__ne__"))) (hm : PySem.W.mroIn X.K C (.type "object") = some true)
    (hf : PySem.W.isFn X.K (.ref f) = true) (hr : Room (n + 1) X.A) (hb : Binds X.K fd ps []) (hx : Passes CX X E0) :
    OpR X (compareOp .NotEq) (fun x y H Q => ∃ (a b dx dy : Addr) (fs gs : List (Str × V)), x = .ref a ∧ y = .ref b ∧ H a = some (.ins C dx fs) ∧ H b = some (.ins C dy gs) ∧ sp [.ref a, .ref b] H (fun v H' => ∃ z, v = .bl z ∧ Q (.bl (!z)) H') E0) := by
  intro pins s σ H x y v u Q I rx ry h
  obtain ⟨a, b, dx, dy, fs, gs, rfl, rfl, ha, hb2, q⟩ := h
  cases rx
  cases ry
  obtain ⟨mA, J, _⟩ := ins_get I.hok ha
  obtain ⟨mB, J', _⟩ := ins_get I.hok hb2
  obtain ⟨od, J, _⟩ := J.look
  obtain ⟨od', J', _⟩ := J'.look
  have sb : Sub X n X.A.in1 := ⟨hr.in1, rfl⟩
  show wpAny (model X.prog X.w) X.A (richCompare .NotEq (.ref a) (.ref b)) (EP X pins σ Q) X.xe s
  refine ne_own sb.room.units0 I.kIn J J'.type hne hs hf hm (run_sub (vs := [V.ref a, V.ref b]) F sb hb hx I (.cons rfl (.cons rfl .nil)) q fun v u H' s' I' rv hq => ?_)
  obtain ⟨z, rfl, hq⟩ := hq
  cases rv
  exact ⟨z, rfl, .bl (!z), H', I', rfl, hq⟩
/-- len(x) by its __len__ -/
theorem call_lenOwn (F : FnOk X.prog X.w X.K X.mg X.base CX n f fd ps sp) (hs : PySem.W.findIn X.K (.ref C) "__len__" = some (some (.ref f))) (hf : PySem.W.isFn X.K (.ref f) = true) (hr : Room (n + 1) X.A) (hb : Binds X.K fd ps []) (hx : Passes CX X E0) :
    CallR X (.builtin "len") (fun xs H Q => ∃ (a dx : Addr) (fs : List (Str × V)), xs = [.ref a] ∧ H a = some (.ins C dx fs) ∧ sp [.ref a] H (fun v H' => ∃ k : Int, v = .int k ∧ 0 ≤ k ∧ k < 2 ^ 63 ∧ Q (.int k) H') E0) := by
  intro pins s σ H xs us Q I r h
  obtain ⟨a, dx, fs, rfl, ha, q⟩ := h
  obtain ⟨u, rfl, ru⟩ := vals1 r
  cases ru
  obtain ⟨mA, J, _⟩ := ins_get I.hok ha
  obtain ⟨od, J, _⟩ := J.look
  obtain ⟨m, hF⟩ := I.fr
  have sb : Sub X n X.A.in1 := ⟨hr.in1, rfl⟩
  refine PySem.W.len_K hF I.ok.mod.kin J hs hf (run_sub (vs := [V.ref a]) F sb hb hx I (.cons rfl .nil) q fun v u H' s' I' rv hq => ?_)
  obtain ⟨k, rfl, k0, k1, hq⟩ := hq
  obtain ⟨t, rfl⟩ := rv
  exact ⟨⟨k0, k1⟩, .int k, H', I'.tok _, ⟨_, rfl⟩, hq⟩
end
end Lay
set_option Elab.async false
set_option linter.all false
set_option maxRecDepth 100000
set_option maxHeartbeats 4000000
/-! x += y by __add__; sequences of the same objects compared. -/
namespace Lay
open PySem PySem.Spec PyProof.Rows L2
theorem refs_eq : ∀ {xs : List V} {as bs : List Value}, (∀ v ∈ xs, ∃ p, v = V.ref p) → Vals xs as → Vals xs bs → as = bs
  | [], _, _, _, ra, rb => by
    cases ra
    cases rb
    rfl
  | x :: xs, _, _, h, ra, rb => by
    obtain ⟨p, rfl⟩ := h x List.mem_cons_self
    cases ra with
    | cons r1 ra =>
      cases rb with
      | cons r2 rb =>
        cases r1
        cases r2
        rw [refs_eq (fun v hv => h v (List.mem_cons_of_mem _ hv)) ra rb]
section
variable {X : Cx}
theorem op_neSameT (hu : X.A.units + 64 < cLine) : OpR X (compareOp .NotEq) (fun x y H Q => ∃ a b xs, x = .ref a ∧ y = .ref b ∧ SqT X.K H a xs ∧ SqT X.K H b xs ∧ (∀ v ∈ xs, ∃ p, v = V.ref p) ∧ Q (.bl false) H) := by
  intro pins s σ H x y v u Q I rx ry h
  obtain ⟨a, b, xs, rfl, rfl, ha, hb, hr, q⟩ := h
  cases rx
  cases ry
  obtain ⟨its, r, p1, _⟩ := I.tuple ha
  obtain ⟨its2, r2, p2, _⟩ := I.tuple hb
  obtain rfl := refs_eq hr r r2
  refine SeqAt.RcNeAt.tuples (A := X.A) (e := fun _ => true) p1 p2 (by omega) (fun j h1 h2 => SeqAt.EqAt.same _) X.prog X.w X.xe (EP X pins σ Q) ?_
  have : (!((List.range (min its.toArray.size its.toArray.size)).all (fun _ => true) && its.toArray.size == its.toArray.size)) = false := by simp
  rw [this]
  exact ⟨.bl false, H, I, rfl, q⟩
theorem op_eqSameT (hu : X.A.units + 64 < cLine) : OpR X (compareOp .Eq) (fun x y H Q => ∃ a b xs, x = .ref a ∧ y = .ref b ∧ SqT X.K H a xs ∧ SqT X.K H b xs ∧ (∀ v ∈ xs, ∃ p, v = V.ref p) ∧ Q (.bl true) H) := by
  intro pins s σ H x y v u Q I rx ry h
  obtain ⟨a, b, xs, rfl, rfl, ha, hb, hr, q⟩ := h
  cases rx
  cases ry
  obtain ⟨its, r, p1, _⟩ := I.tuple ha
  obtain ⟨its2, r2, p2, _⟩ := I.tuple hb
  obtain rfl := refs_eq hr r r2
  refine SeqAt.RcAt.tuples (A := X.A) (e := fun _ => true) p1 p2 (by omega) (fun j h1 h2 => SeqAt.EqAt.same _) X.prog X.w X.xe (EP X pins σ Q) ?_
  have : ((List.range (min its.toArray.size its.toArray.size)).all (fun _ => true) && its.toArray.size == its.toArray.size) = true := by simp
  rw [this]
  exact ⟨.bl true, H, I, rfl, q⟩
theorem op_neSameL (hu : X.A.units + 64 < cLine) : OpR X (compareOp .NotEq) (fun x y H Q => ∃ a b xs, x = .ref a ∧ y = .ref b ∧ SqL X.K H a xs ∧ SqL X.K H b xs ∧ (∀ v ∈ xs, ∃ p, v = V.ref p) ∧ Q (.bl false) H) := by
  intro pins s σ H x y v u Q I rx ry h
  obtain ⟨a, b, xs, rfl, rfl, ha, hb, hr, q⟩ := h
  cases rx
  cases ry
  obtain ⟨its, r, p1, _⟩ := I.list ha
  obtain ⟨its2, r2, p2, _⟩ := I.list hb
  obtain rfl := refs_eq hr r r2
  refine SeqAt.RcNeAt.lists (A := X.A) (e := fun _ => true) p1.isList p2.isList rfl (by omega) (fun j h1 h2 => SeqAt.EqAt.same _) X.prog X.w X.xe (EP X pins σ Q) ?_
  have : (!((List.range its.toArray.size).all (fun _ => true))) = false := by simp
  rw [this]
  exact ⟨.bl false, H, I, rfl, q⟩
end
section
variable {prog : Program} {w : World} {A : Around} {E : Value → Shared → Prop} {s : Shared} {K : PySem.W.Frag} {x C L f : Addr} {h₀ : Heap} {m : Str → Option Value} {ox : Obj} {od : Option Obj}
theorem fillsI_K {M : Model} {h : Heap} {cd : ClassData} {nm : String} {b : Bool} (X : K.In h) (hc : PySem.W.clsIn K C = some cd) (hm : cd.mro = [.ref C, .type "object"]) (h1 : PySem.W.findIn K (.ref C) (PySem.dunderI nm) = some none)
    (h2 : PySem.W.findIn K (.type "object") (PySem.dunderI nm) = some none) : PySem.W.Looks M h (fillsInplaceSlot (.ref C) nm b) false := by
  intro A Q E s k q
  unfold fillsInplaceSlot
  refine wpAny_bind ((PySem.W.looks_clsIn X hc).andThen (f := fun cd => pure cd.mro) .now A _ E s k ?_)
  rw [hm, List.anyM_cons]
  refine wpAny_bind (wpAny_bind (PySem.W.looks_findIn X h1 A _ E s k ?_))
  refine wpAny_pure ?_
  rw [if_neg Bool.false_ne_true, List.anyM_cons]
  refine wpAny_bind (wpAny_bind (PySem.W.looks_findIn X h2 A _ E s k ?_))
  refine wpAny_pure ?_
  rw [if_neg Bool.false_ne_true]
  exact wpAny_pure q
theorem iop_K {op : Operator} {b : Value} {cd : ClassData} {Q : Value → Shared → Prop} (F : PyProof.Rows.Fr h₀ L s.heap m) (X₀ : K.In h₀) (I : PySem.W.InstAt s.heap x ox C od) (hb : PySem.W.Looks (model prog w) s.heap (typeOf b) (.ref C)) (hcd : PySem.W.clsIn K C = some cd) (hm : cd.mro = [.ref C, .type "object"])
    (h1 : PySem.W.findIn K (.ref C) (PySem.dunderI op.info.2) = some none) (h2 : PySem.W.findIn K (.type "object") (PySem.dunderI op.info.2) = some none)
    (hs : PySem.W.findIn K (.ref C) (PySem.dunder op.info.2) = some (some (.ref f))) (hf : PySem.W.isFn K (.ref f) = true)
    (h : wpAny (model prog w) A (call (.ref f) [.ref x, b]) (PySem.W.CmpBack Q) E s) : wpAny (model prog w) A (inplaceOp op (.ref x) b) Q E s := by
  have X := X₀.keeps F.keep
  unfold inplaceOp
  refine wpAny_holding (wpAny_bind (I.type.here (wpAny_bind ((fillsI_K X hcd hm h1 h2).here ?_))))
  simp only [Bool.false_eq_true, if_false]
  refine wpAny_bind ?_
  unfold binaryOp1
  refine wpAny_bind (I.type.here (wpAny_bind (hb.here (wpAny_bind ((PySem.W.fills_K X hcd hm hs).here ?_)))))
  simp only [beq_self_eq_true, if_true]
  refine wpAny_bind (wpAny_pure ?_)
  simp only [Bool.and_false, Bool.false_eq_true, if_false, Bool.false_and]
  refine wpAny_bind (wpAny_pure ?_)
  simp only [Bool.false_eq_true, if_false]
  refine wpAny_bind (m := tryMethod (.ref x) _ b) ?_
  unfold tryMethod
  refine wpAny_bind (PySem.W.special_fn X I hs (beq_iff_eq.mp hf) (wpAny_mono h (fun v s' hv => ?_) fun _ _ e => e))
  cases v <;> first | exact hv.elim | exact wpAny_pure (wpAny_pure (wpAny_pure hv))
end
section
variable {X : Cx} {CX : CXT} {C f : Addr} {n : Nat} {fd : FuncData} {ps : List Str} {sp : Sp}
/-- x += y, two instances of the class, by its __add__ -/
theorem ip_addOwn {cd : ClassData} (F : FnOk X.prog X.w X.K X.mg X.base CX n f fd ps sp) (hs : PySem.W.findIn X.K (.ref C) "__add__" = some (some (.ref f))) (hcd : PySem.W.clsIn X.K C = some cd) (hm : cd.mro = [.ref C, .type "object"]) (h1 : PySem.W.findIn X.K (.ref C) "__iadd__" = some none)
    (h2 : PySem.W.findIn X.K (.type "object") "__iadd__" = some none) (hf : PySem.W.isFn X.K (.ref f) = true) (hr : Room n X.A) (hb : Binds X.K fd ps []) (hx : Passes CX X E0) :
    PIp X .Add (fun x y H Q => ∃ (a b dx dy : Addr) (fs gs : List (Str × V)), x = .ref a ∧ y = .ref b ∧ H a = some (.ins C dx fs) ∧ H b = some (.ins C dy gs) ∧ sp [.ref a, .ref b] H (fun v H' => ∃ c, v = .ref c ∧ Q (.ref c) H') E0) := by
  intro pins s σ H x y v u Q I rx ry h
  obtain ⟨a, b, dx, dy, fs, gs, rfl, rfl, ha, hb2, q⟩ := h
  cases rx
  cases ry
  obtain ⟨mA, J, _⟩ := ins_get I.hok ha
  obtain ⟨mB, J', _⟩ := ins_get I.hok hb2
  obtain ⟨od, J, _⟩ := J.look
  obtain ⟨od', J', _⟩ := J'.look
  obtain ⟨m, hF⟩ := I.fr
  have sb : Sub X n X.A := ⟨hr, rfl⟩
  refine iop_K (op := .Add) hF I.ok.mod.kin J J'.type hcd hm h1 h2 hs hf (run_sub (vs := [V.ref a, V.ref b]) F sb hb hx I (.cons rfl (.cons rfl .nil)) q fun v u H' s' I' rv hq => ?_)
  obtain ⟨c, rfl, hq⟩ := hq
  cases rv
  exact ⟨.ref c, H', I', rfl, hq⟩
end
end Lay
set_option Elab.async false
set_option linter.all false
set_option maxRecDepth 100000
set_option maxHeartbeats 4000000
set_option pp.maxSteps 1000
namespace Lay
open PySem PySem.Spec PyProof.Rows L2
abbrev sTail : Stmt := top 17
abbrev sBody : Stmt := top 18
abbrev sRowsOf : Stmt := top 19
section
variable {P : Program} {w : World} {K : PySem.W.Frag} {mg : Str → Option Value} {base : Heap}
theorem scTail : FnScope ["piece"] ["piece"] (defScope sTail) := ⟨rfl, rfl, rfl, by decide +kernel, rfl, by decide +kernel, by decide +kernel⟩
theorem ok_tail {f C : Addr} {fd : FuncData} (F : Fun K "tail_of" "tail_of" sTail f fd) (Z : PieceC K C) : FnOk P w K mg base CX0 1 f fd ["piece"] (spText K C tailS) := by
  refine F.ok scTail (fun vs H Q E h => ?_) (fun cdv A outer s H vs Q E hr h => ?_)
  · obtain ⟨p, d, rfl, _⟩ := h
    rfl
  · obtain ⟨p, d, rfl, ⟨dx, t, hp, ht⟩, o, few, k⟩ := h
    refine ⟨_, pss_one (ps_ret (pe_ifExp (pt_truth (pe_fld (pv 0) rfl) (by intro _; rfl)) (pe_joined (.cons pe_str (.cons (pe_fmt (pe_fld (pv 0) rfl)) .nil))) pe_str)), ?_⟩
    have h1 := remarkB_len o.behind
    have h3 : (Str.ofString ")  # ").length = 5 := by decide
    have h4 : Str.empty.length = 0 := by decide
    refine ⟨_, rfl, p, C, dx, _, _, rfl, hp, Z.cl, Z.behind, rfl, _, ⟨fitsN (by omega), rfl⟩, ?_⟩
    by_cases q : d.behind.length = 0
    · refine iteN (by rw [q]; rfl) ?_
      have e : tailS d = Str.ofString ")" := by
        unfold tailS
        rw [if_pos q]
      rw [e] at k
      exact k
    · refine iteY (by simp; omega) ?_
      have e : tailS d = (Str.empty ++ Str.ofString ")  # ") ++ d.behind := by
        unfold tailS
        rw [if_neg q]
      rw [e] at k
      exact ⟨_, rfl, fitsN (by rw [Str.length_append]; omega), _, rfl, p, C, dx, _, _, rfl, hp, Z.cl, Z.behind, rfl, .inl ⟨_, rfl, fitsN (by omega), _, rfl, fitsN (by rw [Str.length_append, Str.length_append]; omega), k⟩⟩
end
end Lay
set_option Elab.async false
set_option linter.all false
set_option maxRecDepth 100000
set_option maxHeartbeats 4000000
set_option pp.maxSteps 1000
namespace Lay
open PySem PySem.Spec PyProof.Rows L2
def tJoin (ts : List TE) : TE := fun σ H Q => tJs ts Str.empty σ H fun out H1 => Q (.str out) H1
theorem pe_joinedN {X : Cx} {v1 v2 : Expr} {rest : List Expr} {ts : List TE} {pos : Pos} (h : PJ X (v1 :: v2 :: rest) ts) : PE X (.JoinedStr (v1 :: v2 :: rest) pos) (tJoin ts) := pe_joined h
theorem cut_last (xs : List V) : cutV xs none (some (-1)) = xs.dropLast := by
  unfold cutV
  have e : HT.sIx xs.length xs.length (some (-1)) = xs.length - 1 := by
    show (if (-1 : Int) < 0 then ((-1 : Int) + (xs.length : Int)).toNat else min (-1 : Int).toNat xs.length) = _
    rw [if_pos (by decide)]
    omega
  rw [HT.sIx_none, e, List.drop_zero, Nat.sub_zero, List.dropLast_eq_take]
theorem at_last {zs : List Str} (h : 0 < zs.length) : atI (zs.map V.str) (-1) = some (.str (zs.getLastD Str.empty)) := by
  have e : ixN (zs.map V.str).length (-1) = some (zs.length - 1) := by
    unfold ixN
    rw [List.length_map, if_neg (by decide), if_pos (by omega)]
    congr 1
    omega
  unfold atI
  rw [e]
  show (zs.map V.str)[zs.length - 1]? = _
  rw [List.getElem?_map, List.getLastD_eq_getLast?, List.getLast?_eq_getElem?]
  have hl : zs.length - 1 < zs.length := by omega
  rw [List.getElem?_eq_getElem hl]
  rfl
theorem rowsOf_len {d : PD} (o : d.Ok) (l : d.parts.length ≤ 30) : (bodyS d).length ≤ 40 := by
  unfold bodyS
  split
  · rw [List.length_cons, List.length_append, List.length_map, List.length_dropLast]
    show _ + 2 + 1 ≤ 40
    omega
  · show 1 ≤ 40
    decide
section
variable {P : Program} {w : World} {K : PySem.W.Frag} {mg : Str → Option Value} {base : Heap}
theorem scBody : FnScope ["piece", "comma", "upper", "last", "part"] ["piece"] (defScope sBody) := ⟨rfl, rfl, rfl, by decide +kernel, rfl, by decide +kernel, by decide +kernel⟩
theorem ok_body {f fH fT C : Addr} {fd dH dT : FuncData} (F : Fun K "body_rows" "body_rows" sBody f fd) (Z : PieceC K C)
    (GH : FnOk P w K mg base CX0 1 fH dH ["piece"] (spText K C headS)) (gH : mg "head_of" = some (.ref fH)) (kH : PySem.W.keepIn K (.ref fH) = true) (bH : Binds K dH ["piece"] [])
    (GT : FnOk P w K mg base CX0 1 fT dT ["piece"] (spText K C tailS)) (gT : mg "tail_of" = some (.ref fT)) (kT : PySem.W.keepIn K (.ref fT) = true) (bT : Binds K dT ["piece"] []) : FnOk P w K mg base CX0 2 f fd ["piece"] (spRowsOf K C bodyS) := by
  refine F.ok scBody (fun vs H Q E h => ?_) (fun cdv A outer s H vs Q E hr h => ?_)
  · obtain ⟨p, d, rfl, _⟩ := h
    rfl
  · obtain ⟨p, d, rfl, hP, o, few, k⟩ := h
    refine ⟨_, (C8.pss_cut (ps_set (i := 1) scBody.nd rfl (.inl rfl) (pe_ifExp (pt_val (pe_fld (pv 0) rfl)) pe_str pe_str))
      (pss_cons (ps_if (pt_not (pt_val (pe_fld (pv 0) rfl)))
        (pss_one (ps_ret (pe_lst (pa_cons (pe_op op_add_str (pe_op op_add_str (pe_op op_add_str (pe_call GH hr (by rfl) gH kH bH .nil pass0 (pa_cons (pv 0) pa_nil)) (pe_bm PySem.F.plainAttrs_str PySem.F.slot_str_join PySem.F.type_str_join mt_join pe_str (pa_cons (pe_fld (pv 0) rfl) pa_nil))) (pv 1)) (pe_call GT hr (by rfl) gT kT bT .nil pass0 (pa_cons (pv 0) pa_nil))) pa_nil))))
        pss_nil)
      (pss_cons (ps_setLc (i := 2) (own := [("part", 4)]) (g := gName 4) (tt := tYes) rfl scBody.nd rfl rfl (sw_true rfl rfl rfl (by decide +kernel)) (pi_tup (pe_slice sl_tupS (pe_fld (pv 0) rfl) po_none (po_some (pe_un un_neg pe_int)))) (blkOk_by (N := ["piece", "comma", "upper", "last", "part"]) (sc := defScope sBody) (by decide +kernel))
          (fun _ _ _ _ _ => pg_name (i := 4) scBody.nd rfl (Or.inl rfl)) (fun _ _ _ _ _ => pts_nil) (fun _ _ _ _ _ => pe_joinedN (.cons pe_str (.cons (pe_fmt (pv 4)) (.cons pe_str .nil)))))
      (pss_cons (ps_set (i := 3) scBody.nd rfl (.inl rfl) (pe_joined (.cons pe_str (.cons (pe_fmt (pe_ix ix_tup (pe_fld (pv 0) rfl) (pe_un un_neg pe_int) (fun _ _ => rfl))) (.cons (pe_fmt (pv 1)) .nil)))))
      (pss_one (ps_ret (pe_lst (pa_cons (pe_call GH hr (by rfl) gH kH bH .nil pass0 (pa_cons (pv 0) pa_nil)) (StX.pa_star (pv 2) (pa_cons (pv 3) (pa_cons (pe_call GT hr (by rfl) gT kT bT .nil pass0 (pa_cons (pv 0) pa_nil)) pa_nil))))))))))), ?_⟩
    obtain ⟨dx, t, hp, ht⟩ := id hP
    refine ⟨fun σ G => σ = [some (.ref p), some (.str (commaS d)), none, none, none] ∧ G = H, ?_, ?_⟩
    · refine ⟨_, rfl, p, C, dx, _, _, rfl, hp, Z.cl, Z.marked, rfl, d.marked, rfl, ?_⟩
      by_cases q : d.marked = true
      · refine iteY q ⟨?_, rfl⟩
        unfold commaS
        rw [if_pos q]
        rfl
      · refine iteN (by simpa using q) ⟨?_, rfl⟩
        unfold commaS
        rw [if_neg q]
        rfl
    · rintro σ G ⟨rfl, rfl⟩
      refine ⟨_, rfl, p, C, dx, _, _, rfl, hp, Z.cl, Z.broken, rfl, d.broken, rfl, ?_⟩
      have hH := headS_len o
      have hT := tailS_len o
      have hC := commaS_len (d := d)
      have j1 : (Str.ofString ", ").length = 2 := by decide
      have j2 : (Str.ofString "  ").length = 2 := by decide
      have j3 : (Str.ofString ",").length = 1 := by decide
      have j4 : Str.empty.length = 0 := by decide
      have hsum := sum_few (n := 6) fun z hz => nameB_len (o.parts z hz)
      have hjoin := join_le ", " d.parts
      rw [j1] at hjoin
      by_cases q : d.broken = true
      · refine iteN (by rw [q]; rfl) ?_
        have eb : bodyS d = headS d :: ((d.parts.dropLast.map itemS) ++ [lastS d (d.parts.getLastD Str.empty), tailS d]) := by
          unfold bodyS
          rw [if_pos q]
        rw [eb] at k
        refine ⟨_, rfl, p, C, dx, _, _, rfl, hp, Z.cl, Z.parts, rfl, 1, rfl, -1, rfl, t, _, rfl, (SqT.of ht), fun u G1 s1 hu => ?_⟩
        rw [cut_last, ← List.map_dropLast] at hu
        have ld : d.parts.dropLast.length ≤ 30 := by rw [List.length_dropLast]; omega
        refine ⟨u, rfl, ⟨_, hu⟩, fun D nD => lc_tup (K := K) (a := u) (xs := d.parts.dropLast.map V.str) (fun i G' => Same G1 G' ∧ G' D = some (.lst ((d.parts.dropLast.take i).map fun z => V.str (itemS z))))
          ⟨Same.new nD, upd_same⟩ (fun i G' _ q => SqT.same q.1 hu) ?_ ?_⟩
        · rintro i x G' hi ⟨sG, hD⟩
          obtain ⟨z, hz, rfl⟩ : ∃ z, d.parts.dropLast[i]? = some z ∧ V.str z = x := by
            rw [List.getElem?_map] at hi
            cases e : d.parts.dropLast[i]? with
            | none => rw [e] at hi; cases hi
            | some y => rw [e] at hi; exact ⟨y, rfl, Option.some.inj hi⟩
          have lz := nameB_len (o.parts z (List.dropLast_subset _ (List.mem_of_getElem? hz)))
          refine ⟨rfl, _, rfl, fitsN (by rw [Str.length_append]; omega), _, rfl, .inl ⟨_, rfl, fitsN (by omega), _, rfl, fitsN (by rw [Str.length_append, Str.length_append]; omega), _, rfl, fitsN (by rw [Str.length_append, Str.length_append, Str.length_append]; omega), _, hD, ?_, fun c w e => ?_, ?_⟩⟩
          · rw [List.length_map, List.length_take]
            exact Nat.lt_of_le_of_lt (Nat.min_le_right _ _) (Nat.lt_of_le_of_lt ld (by rw [sizeLine_eq]; decide))
          · rw [upd_ne (ne_of_none e nD)]
            exact sG _ _ e
          · rw [upd_same, List.take_succ, hz, List.map_append]
            rfl
        · rintro G2 ⟨s2, hD⟩
          rw [List.length_map, List.take_length] at hD
          have s12 := s1.trans s2
          have hp2 := s12 _ _ hp
          have ht2 := SqT.same (K := K) s12 (SqT.of ht)
          have hP2 := hP.same s12
          have lz : (d.parts.getLastD Str.empty).length ≤ 6 := by
            obtain ⟨a, ha⟩ : ∃ a, d.parts.getLast? = some a := by
              cases e : d.parts with
              | nil => have := o.some; rw [e] at this; exact absurd this (by decide)
              | cons x xs => exact ⟨_, List.getLast?_cons⟩
            rw [List.getLastD_eq_getLast?, ha]
            exact nameB_len (o.parts a (List.mem_of_getLast? ha))
          refine ⟨_, rfl, fitsN (by rw [Str.length_append]; omega), _, rfl, p, C, dx, _, _, rfl, hp2, Z.cl, Z.parts, rfl, 1, rfl, t, _, -1, _, rfl, rfl, ht2, at_last o.some, .inl ⟨_, rfl, fitsN (by omega), _, rfl, fitsN (by rw [Str.length_append, Str.length_append]; omega), ?_⟩⟩
          refine ⟨_, rfl, .inl ⟨_, rfl, fitsN (by omega), _, rfl, fitsN (by rw [Str.length_append, Str.length_append, Str.length_append]; omega), _, rfl, p, d, rfl, hP2, o, few, _, rfl, D, _, rfl, .inr (SqL.of hD), _, rfl, _, rfl, p, d, rfl, hP2, o, few, ?_, fun l nl => ?_⟩⟩
          · refine fitsN ?_
            rw [List.length_cons, List.length_append, List.length_map]
            show _ + 2 + 1 ≤ 1000000
            omega
          · refine k l _ (s12.trans (Same.new nl)) (s12.free nl) ?_
            rw [upd_same]
            simp [lastS]
            rfl
      · refine iteY (by simpa using q) ?_
        have eb : bodyS d = [((headS d ++ Txt.join ", " d.parts) ++ commaS d) ++ tailS d] := by
          unfold bodyS
          rw [if_neg q]
        rw [eb] at k
        refine ⟨_, rfl, p, d, rfl, hP, o, few, rfl, _, rfl, p, C, dx, _, _, rfl, hp, Z.cl, Z.parts, rfl, _, t, d.parts, rfl, rfl, .inr (SqT.of ht), by rw [j1]; omega, _, _, rfl, rfl, fitsN (by omega), _, rfl, _, _, rfl, rfl, fitsN (by rw [Str.length_append]; omega), _, rfl, p, d, rfl, hP, o, few, _, _, rfl, rfl, fitsN (by rw [Str.length_append, Str.length_append]; omega), (by show 1 ≤ sizeLine; decide), fun l nl => ?_⟩
        exact k l _ (Same.new nl) nl upd_same
end
end Lay
set_option Elab.async false
set_option linter.all false
set_option maxRecDepth 100000
set_option maxHeartbeats 4000000
set_option pp.maxSteps 1000
namespace Lay
open PySem PySem.Spec PyProof.Rows L2
theorem flat_one {α : Type} (x : α) : ∀ n : Nat, (List.replicate n [x]).flatten = List.replicate n x
  | 0 => rfl
  | n + 1 => by
    show [x] ++ (List.replicate n [x]).flatten = _
    rw [flat_one x n]
    rfl
theorem rowsS_len {d : PD} (o : d.Ok) (l : d.parts.length ≤ 30) : (rowsS d).length ≤ 43 := by
  have h1 := rowsOf_len o l
  have h2 := o.b3
  have h3 : (remarkS d).length ≤ 1 := by
    unfold remarkS
    split
    · exact Nat.zero_le _
    · exact Nat.le_refl _
  unfold rowsS
  rw [List.length_append, List.length_append, List.length_replicate]
  omega
section
variable {P : Program} {w : World} {K : PySem.W.Frag} {mg : Str → Option Value} {base : Heap}
theorem scRowsOf : FnScope ["piece", "blank", "remark"] ["piece"] (defScope sRowsOf) := ⟨rfl, rfl, rfl, by decide +kernel, rfl, by decide +kernel, by decide +kernel⟩
theorem ok_rowsOf {f fB C : Addr} {fd dB : FuncData} (F : Fun K "rows_of" "rows_of" sRowsOf f fd) (Z : PieceC K C)
    (GB : FnOk P w K mg base CX0 2 fB dB ["piece"] (spRowsOf K C bodyS)) (gB : mg "body_rows" = some (.ref fB)) (kB : PySem.W.keepIn K (.ref fB) = true) (bB : Binds K dB ["piece"] []) : FnOk P w K mg base CX0 3 f fd ["piece"] (spRowsOf K C rowsS) := by
  refine F.ok scRowsOf (fun vs H Q E h => ?_) (fun cdv A outer s H vs Q E hr h => ?_)
  · obtain ⟨p, d, rfl, _⟩ := h
    rfl
  · obtain ⟨p, d, rfl, hP, o, few, k⟩ := h
    refine ⟨_, (pss_cons (ps_set (i := 1) scRowsOf.nd rfl (.inl rfl) (pe_op op_rep (pe_lst (pa_cons pe_str pa_nil)) (pe_fld (pv 0) rfl)))
      (C8.pss_cut (ps_set (i := 2) scRowsOf.nd rfl (.inl rfl) (pe_ifExp (pt_truth (pe_fld (pv 0) rfl) (by intro _; rfl)) (pe_lst (pa_cons (pe_joined (.cons pe_str (.cons (pe_fmt (pe_fld (pv 0) rfl)) .nil))) pa_nil)) (pe_lst pa_nil)))
      (pss_one (ps_ret (pe_lst (StX.pa_star (pv 1) (StX.pa_star (pv 2) (StX.pa_star (pe_call GB hr (by rfl) gB kB bB .nil pass0 (pa_cons (pv 0) pa_nil)) pa_nil)))))))), ?_⟩
    obtain ⟨dx, t, hp, ht⟩ := id hP
    have j2 : (Str.ofString "# ").length = 2 := by decide
    have j4 : Str.empty.length = 0 := by decide
    have la := remarkB_len o.ahead
    have b0 := o.b0
    have b3 := o.b3
    refine ⟨(by show 1 ≤ sizeLine; decide), fun l0 n0 => ?_⟩
    have s0 := Same.new n0 (o := .lst [.str ""])
    refine ⟨_, rfl, p, C, dx, _, _, rfl, s0 _ _ hp, Z.cl, Z.blanks, rfl, l0, d.blanks, _, rfl, rfl, upd_same, by omega, by omega, fitsN (by show 1 * d.blanks.toNat ≤ 1000000; omega), fun l1 n1 => ?_⟩
    rw [flat_one]
    have s1 := Same.new n1 (o := .lst (List.replicate d.blanks.toNat (V.str "")))
    have h1 : upd (upd H l0 (.lst [.str ""])) l1 (.lst (List.replicate d.blanks.toNat (V.str ""))) l1 = some (.lst (List.replicate d.blanks.toNat (V.str ""))) := upd_same
    have s01 := s0.trans s1
    generalize upd (upd H l0 (.lst [.str ""])) l1 (.lst (List.replicate d.blanks.toNat (V.str ""))) = G at *
    refine ⟨fun σ G' => ∃ l2, σ = [some (.ref p), some (.ref l1), some (.ref l2)] ∧ Same G G' ∧ G' l2 = some (.lst ((remarkS d).map V.str)), ?_, ?_⟩
    · refine ⟨_, rfl, p, C, dx, _, _, rfl, s01 _ _ hp, Z.cl, Z.ahead, rfl, _, ⟨fitsN (by omega), rfl⟩, ?_⟩
      by_cases q : d.ahead.length = 0
      · refine iteN (by rw [q]; rfl) ⟨Nat.zero_le _, fun l2 n2 => ⟨l2, rfl, Same.new n2, ?_⟩⟩
        unfold remarkS
        rw [if_pos q]
        exact upd_same
      · refine iteY (by simp; omega) ?_
        refine ⟨_, rfl, fitsN (by rw [Str.length_append]; omega), _, rfl, p, C, dx, _, _, rfl, s01 _ _ hp, Z.cl, Z.ahead, rfl, .inl ⟨_, rfl, fitsN (by omega), _, rfl, fitsN (by rw [Str.length_append, Str.length_append]; omega), ⟨(by show 1 ≤ sizeLine; decide), fun l2 n2 => ⟨l2, rfl, Same.new n2, ?_⟩⟩⟩⟩
        unfold remarkS
        rw [if_neg q]
        exact upd_same
    · rintro σ G' ⟨l2, rfl, s2, h2⟩
      have s02 := s01.trans s2
      refine ⟨_, rfl, l1, _, rfl, .inr (SqL.of (s2 _ _ h1)), _, rfl, l2, _, rfl, .inr (SqL.of h2), _, rfl, p, d, rfl, hP.same s02, o, few, fun l3 G3 s3 n3 h3 => ⟨l3, _, rfl, .inr (SqL.of h3), ?_, fun l4 n4 => ?_⟩⟩
      · have hh := rowsS_len o few
        unfold rowsS at hh
        refine fitsN ?_
        rw [List.append_nil, List.length_append, List.length_append, List.length_replicate, List.length_map, List.length_map]
        rw [List.length_append, List.length_append, List.length_replicate] at hh
        omega
      · refine k l4 _ ((s02.trans s3).trans (Same.new n4)) ((s02.trans s3).free n4) ?_
        rw [upd_same]
        unfold rowsS
        rw [List.map_append, List.map_append, List.map_replicate, List.append_nil]
end
end Lay
set_option Elab.async false
set_option linter.all false
set_option maxRecDepth 100000
set_option maxHeartbeats 4000000
/-! enumerate over a tuple. -/
namespace Lay
open PySem PySem.Spec PyProof.Rows L2
open AutoSeq1 (wpAny_loadPart')
abbrev tupIt (t : Addr) : Obj := { cls := .type "tuple_iterator", data := .fields #[.ref t, .int 0 0] }
abbrev enumOf (it : Addr) : Obj := { cls := .type "enumerate", data := .fields #[.none, .bool false, .ref it, rawInt 0, .none, .none] }
theorem ent_new (t : Addr) (items : Array Value) : Meets (Builtin.«enumerate.__new__» ⟨[.type "enumerate", .ref t], []⟩)
    (fun _ R s => s.heap.IsTuple t items ∧ R (.ok (.ret (.ref (s.heap.push (tupIt t)).objs.size))) { s with heap := (s.heap.push (tupIt t)).push (enumOf s.heap.objs.size) }) :=
  .of_wp fun prog w A R s h => by
    obtain ⟨hp, g, d, tk, os⟩ := s
    obtain ⟨ht, h⟩ := h
    have hsub := sub_enumerate
    have hT : Heap.IsTuple (Shared.heap ⟨hp, g, d, tk, os⟩) t items := ht
    obtain ⟨o, ho, _⟩ := id ht
    wp_walk using wpAny_loadPart' ho
    refine wpAny_stack_any fun st => wpAny_pure ?_
    split
    · rename_i c _ _ _ _ _
      cases (c == Value.type "enumerate") <;> (wp_walk using wpAny_loadPart' ho, wpAny_pyIter_tuple hT; exact ⟨_, rfl, h⟩)
    · wp_walk using wpAny_loadPart' ho, wpAny_pyIter_tuple hT
      exact ⟨_, rfl, h⟩
theorem ent_call {prog : Program} {w : World} {A : Around} {E : Value → Shared → Prop} {s : Shared} {t : Addr} {items : Array Value} {Q : Value → Shared → Prop} (hT : s.heap.IsTuple t items)
    (h : ∀ h', IsEnum h' (s.heap.objs.size + 1) s.heap.objs.size 0 .none → h'.IsTupleIter s.heap.objs.size t 0 → (∀ b o, s.heap.get? b = some o → h'.get? b = some o) → Q (.ref (s.heap.objs.size + 1)) { s with heap := h' }) :
    wpAny (model prog w) A (call (.type "enumerate") [.ref t]) Q E s := by
  refine callType_new F.called_enumerate (by decide) (F.typeCall_enumerate_1 _) (F.newCall_enumerate_1 _) (fun obj => F.args_object_init_2 obj _) F.entry_enumerate_new (ent_new t items) ⟨hT, ?_⟩
  have hz : (s.heap.push (tupIt t)).objs.size = s.heap.objs.size + 1 := Heap.size_push ..
  show _ ∧ _
  rw [hz]
  have he : IsEnum ((s.heap.push (tupIt t)).push (enumOf s.heap.objs.size)) (s.heap.objs.size + 1) s.heap.objs.size 0 .none := by
    have y := Heap.get?_push_size (s.heap.push (tupIt t)) (o := enumOf s.heap.objs.size) rfl
    rw [hz] at y
    exact y
  exact ⟨⟨_, he, rfl⟩, h _ he ⟨_, Heap.get?_push_of_some _ (Heap.get?_push_size _ rfl), rfl, rfl⟩ fun b o x => Heap.get?_push_of_some _ (Heap.get?_push_of_some _ x)⟩
/-- the tuple at a, each item in a new pair -/
def IteT (K : PySem.W.Frag) (a : Addr) : It :=
  ⟨fun i H => ∃ (xs : List V) (x : V), SqT K H a xs ∧ xs[i]? = some x, fun i H v H' => ∃ T x, v = .ref T ∧ H T = none ∧ H' = upd H T (.tup [.int (i : Nat), x]) ∧ ∀ xs, SqT K H a xs → xs[i]? = some x, fun i H => ∃ xs : List V, SqT K H a xs ∧ xs.length = i⟩
theorem turn_enumT {P : Program} {w : World} {K : PySem.W.Frag} {elts : List Expr} {kk : Nat} {tpos : Pos} (a e it : Addr) :
    Turn P w K (.Tuple elts kk tpos) (IteT K a) [e, it] e (fun i h => (∃ old, IsEnum h e it ((i : Nat) : Int) old) ∧ h.IsTupleIter it a i ∧ e ≠ it) where
  mem := by simp
  obj := fun i h st b hb => by
    obtain ⟨⟨old, he⟩, ⟨o, ho, _, hd⟩, _⟩ := st
    rcases List.mem_cons.mp hb with z | hb
    · rw [z]
      exact ⟨_, he, fun v q => nomatch q⟩
    · rw [List.mem_singleton.mp hb]
      exact ⟨o, ho, fun v q => by
        rw [hd] at q
        cases q⟩
  keep := fun i h h' st k => by
    obtain ⟨⟨old, he⟩, hi, hne⟩ := st
    exact ⟨⟨old, k e (by simp) _ he⟩, hi.at fun o q => k it (by simp) o q, hne⟩
  item := by
    intro X hP hw hK hc i pins s σ H E I hf st hg
    subst hP hw hK
    obtain ⟨⟨old, he⟩, hit, hne⟩ := st
    obtain ⟨xs, x, hq, hx⟩ := hg
    obtain ⟨its, rv, p, hz⟩ := I.tuple hq
    obtain ⟨u, hu, ru⟩ := rv.get hx
    have eL : e < s.heap.objs.size := Heap.lt_size he
    have itL : it < s.heap.objs.size := by
      obtain ⟨_, q, _⟩ := hit
      exact Heap.lt_size q
    have p' : s.heap.IsTuple a its.toArray := p
    have ta : a ≠ it := fun z => by
      obtain ⟨o1, q1, c1, _⟩ := hit
      obtain ⟨o2, q2, c2, _⟩ := p'
      rw [← z, q2] at q1
      cases q1
      rw [c2] at c1
      exact absurd c1 (by decide)
    have te : a ≠ e := fun z => by
      obtain ⟨o2, q2, c2, _⟩ := p'
      rw [z, he] at q2
      cases q2
      have c3 : Value.type "enumerate" = Value.type "tuple" := c2
      exact absurd c3 (by decide)
    have hlt : i < its.toArray.size := by
      have := (List.getElem?_eq_some_iff.mp hu).1
      simpa using this
    refine wpAny_pyNext_enum_itemD (Draws.tuple (prog := X.prog) (w := X.w) (A := X.A.in1) (I.ok.hd hc) it a ta its.toArray) he ⟨hit, p'⟩ hlt hne (by simp [hne, Ne.symm te]) fun y h' tk hy ho hst hT hsz hk => ?_
    obtain rfl : y = u := by
      have q : its[i]? = some y := by simpa using hy
      rw [hu] at q
      exact (Option.some.inj q).symm
    refine ⟨_, rfl, wpAny_letOwnedTupleGo_enum (s := { s with heap := h', toks := tk + 1 }) ho fun h'' he' sb => ?_⟩
    have hT2 : h''.get? s.heap.objs.size = some { cls := .type "tuple", data := .seq #[.int i tk, y] } := (sb.2 _ (Nat.ne_of_gt eL)).trans hT
    have new : ObjOk X.prog X.w (upd H s.heap.objs.size (.tup [.int (i : Nat), x])) h'' s.heap.objs.size (.tup [.int (i : Nat), x]) :=
      ⟨by show 2 ≤ sizeLine; decide, [.int i tk, y], .cons ⟨_, rfl⟩ (.cons ru .nil), ⟨_, hT2, rfl, _, rfl⟩⟩
    have J : Inv X pins σ (upd H s.heap.objs.size (.tup [.int (i : Nat), x])) { s with heap := h'', toks := tk + 1 } :=
      I.turnedNew (ch := [e, it]) (fun b ob hb q => (sb.2 b (fun z => hb (by simp [z]))).trans (hk b ob (fun z => hb (by simp [z])) (fun z => hb (by simp [z])) q)) hf (Nat.le_refl _) new
    refine ⟨.ref s.heap.objs.size, _, J, rfl, ⟨_, x, rfl, I.hok.fresh (Nat.le_refl _), rfl, fun ys hy => by rw [I.tuple_inj hy hq]; exact hx⟩, ⟨⟨y, ?_⟩, hst.1.at fun o q => (sb.2 it (Ne.symm hne)).trans q, hne⟩, fun b hb => ?_⟩
    · have e1 : ((i + 1 : Nat) : Int) = (i : Int) + 1 := by omega
      rw [e1]
      exact he'
    · have bL : b < s.heap.objs.size := by
        rcases List.mem_cons.mp hb with z | hb
        · rw [z]
          exact eL
        · rw [List.mem_singleton.mp hb]
          exact itL
      rw [upd_ne (Nat.ne_of_lt bL)]
      exact (hf b hb).1
  done := by
    intro X hP hw hK hc i pins s σ H E I hf st hg
    subst hP hw hK
    obtain ⟨⟨old, he⟩, hit, hne⟩ := st
    obtain ⟨xs, hq, hx⟩ := hg
    obtain ⟨its, rv, p, hz⟩ := I.tuple hq
    obtain ⟨f0, f1, f2, f3, f4, f5⟩ := hf it (by simp)
    have p' : s.heap.IsTuple a its.toArray := p
    have ta : a ≠ it := fun z => by
      obtain ⟨o1, q1, c1, _⟩ := hit
      obtain ⟨o2, q2, c2, _⟩ := p'
      rw [← z, q2] at q1
      cases q1
      rw [c2] at c1
      exact absurd c1 (by decide)
    have hn : i = its.toArray.size := by
      have := rv.length
      simp
      omega
    exact wpAny_pyNext_enum_endD (Draws.tuple (prog := X.prog) (w := X.w) (A := X.A.in1) (I.ok.hd hc) it a ta its.toArray) he (by rw [← hn]; exact ⟨hit, p'⟩) fun h' eb => ⟨rfl, I.turned (t' := s.toks) (fun b o hb q => eb b o hb q) f0 f1 f3 f4 f5⟩
  self := fun A i s Q E st h => by
    obtain ⟨⟨_, he⟩, _⟩ := st
    exact wpAny_pyIter_enum he h
/-- what enumerate goes over: a list, or a tuple -/
def iEnum2 (K : PySem.W.Frag) (ta : TA) : TI := fun σ H R => ta σ H fun vs H1 => ∃ (a : Addr) (xs : List V), vs = [.ref a] ∧ ((SqL K H1 a xs ∧ R (Ite K a) H1) ∨ (SqT K H1 a xs ∧ R (IteT K a) H1))
theorem pi_enum2 {X : Cx} {e : Expr} {ta : TA} {p pos tpos : Pos} {elts : List Expr} {kk : Nat} (hg : Gl X "enumerate") (hm : X.mg "enumerate" = none) (ha : PA X [e] ta) (hs : starEach [e] X.env = [(false, eval e X.env)] := by rfl) :
    PI X (.Tuple elts kk tpos) (.Call (.Name "enumerate" p) [e] [] pos) (iEnum2 X.K ta) := by
  refine ⟨fun pins s σ H R I h => ?_⟩
  refine Call_ (ld_blt I hg hm boot_enumerate (PyProof.Rows.callWith_type1 (thn (ha.run pos pins s σ H _ I h) fun us s1 ⟨vs, H1, I1, r1, q1⟩ => ?_) hs rfl))
  obtain ⟨a, xs, ex, q⟩ := q1
  subst ex
  obtain ⟨u, rfl, ru⟩ := vals1 r1
  cases ru
  have young : ∀ b, b ∈ [s1.heap.objs.size + 1, s1.heap.objs.size] → FpOk X pins H1 b := fun b hb => by
    have hle : s1.heap.objs.size ≤ b := by
      rcases List.mem_cons.mp hb with z | hb
      · rw [z]
        exact Nat.le_add_right _ _
      · rw [List.mem_singleton.mp hb]
        exact Nat.le_refl _
    exact I1.fpOk hle (I1.hok.fresh hle)
  rcases q with ⟨hq, q⟩ | ⟨hq, q⟩
  · obtain ⟨its, rv, p', hz⟩ := I1.list hq
    refine call_enumerate_list p'.isList fun h' he hit hsz hk => wpAny_pyIter_enum he ?_
    have I2 : Inv X pins σ H1 { s1 with heap := h' } := I1.kept (t' := s1.toks) hk
    exact ⟨s1.heap.objs.size + 1, [s1.heap.objs.size + 1, s1.heap.objs.size], _, _, H1, rfl, I2, turn_enum a (s1.heap.objs.size + 1) s1.heap.objs.size, ⟨⟨.none, he⟩, hit, Nat.succ_ne_self _⟩, young, q⟩
  · obtain ⟨its, rv, p', hz⟩ := I1.tuple hq
    refine ent_call (show s1.heap.IsTuple a its.toArray from p') fun h' he hit hk => wpAny_pyIter_enum he ?_
    have I2 : Inv X pins σ H1 { s1 with heap := h' } := I1.kept (t' := s1.toks) hk
    exact ⟨s1.heap.objs.size + 1, [s1.heap.objs.size + 1, s1.heap.objs.size], _, _, H1, rfl, I2, turn_enumT a (s1.heap.objs.size + 1) s1.heap.objs.size, ⟨⟨.none, he⟩, hit, Nat.succ_ne_self _⟩, young, q⟩
theorem walk_enumT {K : PySem.W.Frag} {a : Addr} {xs : List V} : Walk (IteT K a) xs.length (fun H => SqT K H a xs) (YPair (fun i => some (.int (i : Nat))) (fun i => xs[i]?)) := by
  refine ⟨fun i _ hi q => ⟨xs, xs[i], q, by simp [hi]⟩, fun _ q => ⟨xs, q, rfl⟩, fun i H v H' _ q y => ?_⟩
  obtain ⟨T, x, h1, h2, h3, h4⟩ := y
  exact ⟨T, .int (i : Nat), x, h1, h2, h3, rfl, h4 xs q⟩
end Lay
set_option Elab.async false
set_option linter.all false
set_option maxRecDepth 100000
set_option maxHeartbeats 4000000
set_option pp.maxSteps 1000
namespace Lay
open PySem L2
theorem small1000 {n : Nat} (h : n < 1000) : n < sizeLine := Nat.lt_of_lt_of_le h (fitsN (by decide))
abbrev sCheck : Stmt := top 22
theorem scCheck : FnScope ["value", "at", "one"] ["value"] (defScope sCheck) := ⟨rfl, rfl, rfl, by decide +kernel, rfl, by decide +kernel, by decide +kernel⟩
structure ProgC (K : PySem.W.Frag) (CP : Addr) : Prop where
  cl : Cls K CP
  pieces : NoAttr K CP "pieces"
abbrev sProgI : Stmt := inClass (top 33) 0
theorem scProgI : FnScope ["self", "pieces"] ["self", "pieces"] (defScope sProgI) := ⟨rfl, rfl, rfl, by decide +kernel, rfl, by decide +kernel, by decide +kernel⟩
theorem SqL.same {K : PySem.W.Frag} {H H' : Hp} {a : Addr} {xs : List V} (e : Same H H') (h : SqL K H a xs) : SqL K H' a xs := by
  rcases h with (h | ⟨o, h⟩) | h
  · exact .inl (.inl (e _ _ h))
  · exact .inl (.inr ⟨o, e _ _ h⟩)
  · exact .inr h
/-- a tuple that is tracked, or a written one -/
def TupG (K : PySem.W.Frag) (H : Hp) (a : Addr) (xs : List V) : Prop := H a = some (.tup xs) ∨ ∃ (o : Obj) (its : Array Value) (n : Nat), K.lookup a = some o ∧ o.cls = .type "tuple" ∧ o.data = .seq its n ∧ its.size ≤ sizeLine ∧ Vals xs its.toList
theorem TupG.sqT {K : PySem.W.Frag} {H : Hp} {a : Addr} {xs : List V} (h : TupG K H a xs) : SqT K H a xs := by
  rcases h with h | h
  · exact SqT.of h
  · exact .inr h
theorem TupG.same {K : PySem.W.Frag} {H H' : Hp} {a : Addr} {xs : List V} (s : Same H H') (h : TupG K H a xs) : TupG K H' a xs := h.imp (s _ _) id
theorem TupG.put_ins {K : PySem.W.Frag} {H : Hp} {a p C dx : Addr} {fs : List (Str × V)} {o : HO} {xs : List V} (h : TupG K H a xs) (hp : H p = some (.ins C dx fs)) : TupG K (upd H p o) a xs := by
  rcases h with h | h
  · exact .inl (by rw [upd_ne (ne_of h hp (fun z => nomatch z))]; exact h)
  · exact .inr h
theorem TupG.seq {K : PySem.W.Frag} {H : Hp} {a : Addr} {xs : List V} (h : TupG K H a xs) : IsSeq K H (.ref a) true := by
  rcases h with h | ⟨o, its, n, h1, h2, _⟩
  · exact SqX.seq (.inr h)
  · exact ⟨_, .kTuple h1 h2, kitAny_lt (b := false) (c := true) (kit_ty (by decide +kernel)) (kit_ty (by decide +kernel))⟩
/-- a list, or any tuple (the written ones, too) -/
def SqG (K : PySem.W.Frag) (H : Hp) (a : Addr) (xs : List V) : Prop := H a = some (.lst xs) ∨ TupG K H a xs
theorem SqG.same {K : PySem.W.Frag} {H H' : Hp} {a : Addr} {xs : List V} (s : Same H H') (h : SqG K H a xs) : SqG K H' a xs := h.imp (s _ _) fun q => q.same s
theorem SqG.seq {K : PySem.W.Frag} {H : Hp} {a : Addr} {xs : List V} (h : SqG K H a xs) : IsSeq K H (.ref a) true := by
  rcases h with h | h
  · exact SqX.seq (.inl h)
  · exact h.seq
theorem SqG.of {K : PySem.W.Frag} {H : Hp} {a : Addr} {xs : List V} (h : SqX K H a xs) : SqG K H a xs := h.imp id .inl
section
variable {X : Cx}
theorem call_tupleG : CallR X (.type "tuple") (fun xs H Q => ∃ a ys, xs = [.ref a] ∧ SqG X.K H a ys ∧ ∀ l H', Same H H' → TupG X.K H' l ys → Q (.ref l) H') := by
  intro pins s σ H xs us Q I r h
  obtain ⟨a, ys, rfl, hs, q⟩ := h
  refine call_tuple_of pins s σ H _ us Q I r ⟨a, ys, rfl, ?_⟩
  rcases hs with hs | hs
  · exact .inl ⟨SqL.of hs, fun l nl => q l _ (Same.new nl) (.inl upd_same)⟩
  · exact .inr ⟨hs.sqT, q a H (Same.refl H) hs⟩
end
theorem kit_same {K : PySem.W.Frag} {C : Addr} : PySem.W.kitOne K (.ref C) (.ref C) = some true := by
  unfold PySem.W.kitOne
  rw [if_pos (by simp)]
section
variable {X : Cx}
theorem op_catG : OpR X (binaryOp .Add) (fun x y H Q => ∃ a b xs ys, x = .ref a ∧ y = .ref b ∧ TupG X.K H a xs ∧ TupG X.K H b ys ∧ xs.length + ys.length ≤ 1000 ∧ ∀ p H', Same H H' → TupG X.K H' p (xs ++ ys) → Q (.ref p) H') := by
  intro pins s σ H x y v u Q I rx ry h
  obtain ⟨a, b, xs, ys, rfl, rfl, ha, hb, hl, q⟩ := h
  refine op_catA pins s σ H _ _ v u Q I rx ry ⟨a, b, xs, ys, rfl, rfl, ha.sqT, hb.sqT, fits hl, fun e => ?_, fun _ e => ?_, fun _ _ p np => q p _ (Same.new np) (.inl upd_same)⟩
  · subst e
    exact q b H (Same.refl H) hb
  · subst e
    exact q a H (Same.refl H) (by rw [List.append_nil]; exact ha)
end

/-- pieces, one by one -/
def PcsAt (K : PySem.W.Frag) (C : Addr) (H : Hp) (xs : List V) (ds : List PD) : Prop := xs.length = ds.length ∧ (∀ d ∈ ds, d.Ok ∧ d.parts.length ≤ 30) ∧ ∀ (i : Nat) (x : V) (d : PD), xs[i]? = some x → ds[i]? = some d → ∃ p, x = .ref p ∧ PieceAt K C H p d
theorem PcsAt.same {K : PySem.W.Frag} {C : Addr} {H H' : Hp} {xs : List V} {ds : List PD} (s : Same H H') (h : PcsAt K C H xs ds) : PcsAt K C H' xs ds :=
  ⟨h.1, h.2.1, fun i x d hx hd => by
    obtain ⟨p, e, hp⟩ := h.2.2 i x d hx hd
    exact ⟨p, e, hp.same s⟩⟩
theorem PieceAt.isP {K : PySem.W.Frag} {C p : Addr} {H : Hp} {d : PD} (c : ClsI K C) (h : PieceAt K C H p d) : IsP K C H (.ref p) true := by
  obtain ⟨dx, t, h1, h2⟩ := h
  exact ⟨_, c.at h1, kit_same⟩
theorem PcsAt.isP {K : PySem.W.Frag} {C : Addr} {H : Hp} {xs : List V} {ds : List PD} (c : ClsI K C) (h : PcsAt K C H xs ds) : ∀ v ∈ xs, IsP K C H v true := fun v hv => by
  obtain ⟨i, hi, e⟩ := List.mem_iff_getElem.mp hv
  obtain ⟨p, rfl, hp⟩ := h.2.2 i v (ds[i]'(by rw [← h.1]; exact hi)) (by rw [List.getElem?_eq_getElem hi, e]) (List.getElem?_eq_getElem _)
  exact hp.isP c
theorem PcsAt.append {K : PySem.W.Frag} {C : Addr} {H : Hp} {xs ys : List V} {ds es : List PD} (h : PcsAt K C H xs ds) (k : PcsAt K C H ys es) : PcsAt K C H (xs ++ ys) (ds ++ es) := by
  refine ⟨by rw [List.length_append, List.length_append, h.1, k.1], fun d hd => (List.mem_append.mp hd).elim (h.2.1 d) (k.2.1 d), fun i x d hx hd => ?_⟩
  rcases Nat.lt_or_ge i xs.length with l | l
  · rw [List.getElem?_append_left l] at hx
    rw [List.getElem?_append_left (by rw [← h.1]; exact l)] at hd
    exact h.2.2 i x d hx hd
  · rw [List.getElem?_append_right l] at hx
    rw [List.getElem?_append_right (by rw [← h.1]; exact l), ← h.1] at hd
    exact k.2.2 _ x d hx hd
theorem PcsAt.nil {K : PySem.W.Frag} {C : Addr} {H : Hp} : PcsAt K C H [] [] := ⟨rfl, fun d h => (List.not_mem_nil h).elim, fun i x d h _ => by cases h⟩
def progF (t : Addr) : List (Str × V) := putF "pieces" (.ref t) []
/-- at p a program with the tuple t of pieces -/
def ProgT (K : PySem.W.Frag) (C CP : Addr) (H : Hp) (p t : Addr) (xs : List V) (ds : List PD) : Prop := ∃ dx, H p = some (.ins CP dx (progF t)) ∧ TupG K H t xs ∧ PcsAt K C H xs ds ∧ ds.length ≤ 900
theorem ProgT.same {K : PySem.W.Frag} {C CP : Addr} {H H' : Hp} {p t : Addr} {xs : List V} {ds : List PD} (s : Same H H') (h : ProgT K C CP H p t xs ds) : ProgT K C CP H' p t xs ds := by
  obtain ⟨dx, h1, h2, h3, h4⟩ := h
  exact ⟨dx, s _ _ h1, h2.same s, h3.same s, h4⟩
def spCheckG (K : PySem.W.Frag) (C : Addr) : Sp := fun vs H Q _ => ∃ a xs, vs = [.ref a] ∧ SqG K H a xs ∧ xs.length ≤ 1000 ∧ (∀ v ∈ xs, IsP K C H v true) ∧ ∀ H', Same H H' → Q .non H'
def spProgG (K : PySem.W.Frag) (C CP : Addr) : Sp := fun vs H Q _ => ∃ (p dx a : Addr) (xs : List V), vs = [.ref p, .ref a] ∧ H p = some (.ins CP dx []) ∧ SqG K H a xs ∧ xs.length ≤ 1000 ∧ (∀ v ∈ xs, IsP K C H v true) ∧
  ∀ H' t, TupG K H' t xs → Kept p H H' → H' p = some (.ins CP dx (progF t)) → Q .non H'
section
variable {P : Program} {w : World} {K : PySem.W.Frag} {mg : Str → Option Value} {base : Heap}
theorem ok_checkG {f fS C : Addr} {fd fdS : FuncData} (F : Fun K "check_pieces" "check_pieces" sCheck f fd) (T : TxtK mg) (GS : FnOk P w K mg base CX0 1 fS fdS ["value"] (spSeq K)) (gS : mg "is_sequence" = some (.ref fS)) (kS : PySem.W.keepIn K (.ref fS) = true) (bS : Binds K fdS ["value"] [])
    (gP : mg "Piece" = some (.ref C)) : FnOk P w K mg base CX0 2 f fd ["value"] (spCheckG K C) := by
  refine F.ok scCheck (fun vs H Q E h => ?_) (fun cdv A outer s H vs Q E hr h => ?_)
  · obtain ⟨a, xs, rfl, _⟩ := h
    rfl
  · obtain ⟨a, xs, rfl, hx, hl, hi, k⟩ := h
    refine ⟨_, (pss_cons (ps_if (pt_not (pt_val (pe_call GS hr (by rfl) gS kS bS .nil pass0 (pa_cons (pv 0) pa_nil)))) pss_never pss_nil)
    (pss_one (ps_for PassesOwn.never rfl (pi_enum2 (by rfl) T.enumerate (pa_cons (pv 0) pa_nil)) (pg_tup rfl (pgs_cons (pg_name (i := 1) scCheck.nd rfl (.inl rfl)) (pgs_cons (pg_name (i := 2) scCheck.nd rfl (.inl rfl)) pgs_nil)))
      (pss_one (ps_if (pt_not (pt_val (pe_callB call_isi (by rfl) T.isinstance (by decide +kernel) (pa_cons (pv 2) (pa_cons (pe_glob (v := .ref C) (by rfl) gP rfl) pa_nil))))) pss_never pss_nil))))), ?_⟩
    refine ⟨_, rfl, _, true, rfl, hx.seq, fun H1 s1 => ⟨_, rfl, ?_⟩⟩
    rcases hx with hx | hx
    · refine ⟨_, rfl, a, xs, rfl, .inl ⟨SqL.of (s1 _ _ hx), for_it walk_enum (fun i σ G => (∃ x1 x2, σ = [some (.ref a), x1, x2]) ∧ Same H G) ⟨⟨_, _, rfl⟩, s1⟩ (fun i σ G _ q => SqL.of (q.2 _ _ hx)) ?_ ?_⟩⟩
      · rintro i x σ G G' hi' ⟨⟨x1, x2, rfl⟩, sG⟩ ⟨T0, u, v, rfl, hT, rfl, e1, e2⟩
        cases e1
        have e2 : xs[i]? = some v := e2
        have sT := Same.new hT (o := .tup [.int (i : Nat), v])
        obtain ⟨t, ty, et⟩ := ((hi v (List.mem_of_getElem? e2)).same sG).same sT
        exact ⟨T0, _, rfl, SqT.of upd_same, rfl, _, _, rfl, _, _, rfl, rfl, _, rfl, _, _, _, _, _, rfl, .own _, ty, et, _, rfl, ⟨_, _, rfl⟩, sG.trans sT⟩
      · rintro σ G ⟨_, sG⟩
        exact k G sG
    · refine ⟨_, rfl, a, xs, rfl, .inr ⟨(hx.same s1).sqT, for_it walk_enumT (fun i σ G => (∃ x1 x2, σ = [some (.ref a), x1, x2]) ∧ Same H G) ⟨⟨_, _, rfl⟩, s1⟩ (fun i σ G _ q => (hx.same q.2).sqT) ?_ ?_⟩⟩
      · rintro i x σ G G' hi' ⟨⟨x1, x2, rfl⟩, sG⟩ ⟨T0, u, v, rfl, hT, rfl, e1, e2⟩
        cases e1
        have e2 : xs[i]? = some v := e2
        have sT := Same.new hT (o := .tup [.int (i : Nat), v])
        obtain ⟨t, ty, et⟩ := ((hi v (List.mem_of_getElem? e2)).same sG).same sT
        exact ⟨T0, _, rfl, SqT.of upd_same, rfl, _, _, rfl, _, _, rfl, rfl, _, rfl, _, _, _, _, _, rfl, .own _, ty, et, _, rfl, ⟨_, _, rfl⟩, sG.trans sT⟩
      · rintro σ G ⟨_, sG⟩
        exact k G sG
theorem ok_progG {f fC C CP : Addr} {fd fdC : FuncData} {dvs : List V} (F : FunD K "__init__" "Program.__init__" (defArgs sProgI) (defBody sProgI) (defScope sProgI) dvs [] f fd) (T : TxtK mg) (Z : ProgC K CP)
    (GC : FnOk P w K mg base CX0 2 fC fdC ["value"] (spCheckG K C)) (gC : mg "check_pieces" = some (.ref fC)) (kC : PySem.W.keepIn K (.ref fC) = true) (bC : Binds K fdC ["value"] []) : FnOk P w K mg base CX0 3 f fd ["self", "pieces"] (spProgG K C CP) := by
  refine F.ok scProgI (fun vs H Q E h => ?_) (fun cdv A outer s H vs Q E hr h => ?_)
  · obtain ⟨p, dx, a, xs, rfl, _⟩ := h
    rfl
  · obtain ⟨p, dx, a, xs, rfl, hp, hx, hl, hi, k⟩ := h
    refine ⟨_, (pss_cons (ps_expr (pe_call GC hr (by rfl) gC kC bC .nil pass0 (pa_cons (pv 1) pa_nil)))
      (pss_one (ps_fld (pv 0) (pe_callTy call_tupleG (by rfl) T.tuple (by decide +kernel) (pa_cons (pv 1) pa_nil)) rfl))), ?_⟩
    refine ⟨_, rfl, a, xs, rfl, hx, hl, hi, fun H1 s1 => ⟨_, rfl, a, xs, rfl, hx.same s1, fun l H2 s2 hl2 => ⟨_, rfl, p, CP, dx, _, rfl, s2 _ _ (s1 _ _ hp), Z.cl, Z.pieces, (by show 0 < 1000; decide), ?_⟩⟩⟩
    exact k _ l (hl2.put_ins (s2 _ _ (s1 _ _ hp))) ((Kept.of_same (s1.trans s2)).trans Kept.box) upd_same
end
end Lay
set_option Elab.async false
set_option linter.all false
set_option maxRecDepth 100000
set_option maxHeartbeats 4000000
set_option pp.maxSteps 1000
namespace Lay
open PySem PySem.Spec PyProof.Rows L2
theorem pi_listK {X : Cx} {K : PySem.W.Frag} {tg l : Expr} {tl : TE} (hK : X.K = K) (hl : PE X l tl) : PI X tg l (iList K tl) := by
  subst hK
  exact pi_list hl
theorem it_tup {K : PySem.W.Frag} {a : Addr} {xs : List V} {H0 : Hp} {Qd : Hp → Prop} {B : V → Hp → (Hp → Prop) → Prop} (Pv : Nat → Hp → Prop) (h0 : Pv 0 H0) (hl : ∀ i H, i ≤ xs.length → Pv i H → SqT K H a xs)
    (hs : ∀ i x H, xs[i]? = some x → Pv i H → B x H (Pv (i + 1))) (hd : ∀ H, Pv xs.length H → Qd H) :
    ∃ W : Nat → Nat → Hp → Prop, (∃ m, W 0 m H0) ∧ ∀ i m H, W i m H →
      ((Itt K a).stop i H ∧ Qd H) ∨ ((Itt K a).go i H ∧ ∃ Nx : Hp → Prop, (∀ H', Nx H' → ∃ m', m' < m ∧ W (i + 1) m' H') ∧ ∀ x H', (Itt K a).yld i H x H' → B x H' Nx) := by
  refine ⟨fun i m H => m = xs.length - i ∧ i ≤ xs.length ∧ Pv i H, ⟨xs.length, by simp, Nat.zero_le _, h0⟩, ?_⟩
  rintro i m H ⟨rfl, hi, p⟩
  have q := hl i H hi p
  by_cases hlt : i < xs.length
  · refine .inr ⟨⟨xs, xs[i], q, by simp [hlt]⟩, Pv (i + 1), fun H' p' => ⟨xs.length - (i + 1), by omega, rfl, hlt, p'⟩, fun x H' y => ?_⟩
    obtain ⟨e, y⟩ := y
    subst e
    exact hs i x H' (y xs q) p
  · have e : i = xs.length := by omega
    subst e
    exact .inl ⟨⟨xs, q, Nat.le_refl _⟩, hd H p⟩
theorem it_lst {K : PySem.W.Frag} {a : Addr} {xs : List V} {H0 : Hp} {Qd : Hp → Prop} {B : V → Hp → (Hp → Prop) → Prop} (Pv : Nat → Hp → Prop) (h0 : Pv 0 H0) (hl : ∀ i H, i ≤ xs.length → Pv i H → SqL K H a xs)
    (hs : ∀ i x H, xs[i]? = some x → Pv i H → B x H (Pv (i + 1))) (hd : ∀ H, Pv xs.length H → Qd H) :
    ∃ W : Nat → Nat → Hp → Prop, (∃ m, W 0 m H0) ∧ ∀ i m H, W i m H →
      ((Itl K a).stop i H ∧ Qd H) ∨ ((Itl K a).go i H ∧ ∃ Nx : Hp → Prop, (∀ H', Nx H' → ∃ m', m' < m ∧ W (i + 1) m' H') ∧ ∀ x H', (Itl K a).yld i H x H' → B x H' Nx) := by
  refine ⟨fun i m H => m = xs.length - i ∧ i ≤ xs.length ∧ Pv i H, ⟨xs.length, by simp, Nat.zero_le _, h0⟩, ?_⟩
  rintro i m H ⟨rfl, hi, p⟩
  have q := hl i H hi p
  by_cases hlt : i < xs.length
  · refine .inr ⟨⟨xs, xs[i], q, by simp [hlt]⟩, Pv (i + 1), fun H' p' => ⟨xs.length - (i + 1), by omega, rfl, hlt, p'⟩, fun x H' y => ?_⟩
    obtain ⟨e, y⟩ := y
    subst e
    exact hs i x H' (y xs q) p
  · have e : i = xs.length := by omega
    subst e
    exact .inl ⟨⟨xs, q, Nat.le_refl _⟩, hd H p⟩
def progRows (ds : List PD) : List Str := (ds.map rowsS).flatten
def progText (ds : List PD) : Str := Txt.join "\n" (progRows ds)
theorem progRows_take {ds : List PD} {i : Nat} {d : PD} (h : ds[i]? = some d) : progRows (ds.take (i + 1)) = progRows (ds.take i) ++ rowsS d := by
  unfold progRows
  rw [List.take_succ, h, List.map_append, List.flatten_append]
  simp
theorem progRows_len : ∀ {ds : List PD}, (∀ d ∈ ds, d.Ok ∧ d.parts.length ≤ 30) → (progRows ds).length ≤ 43 * ds.length
  | [], _ => Nat.zero_le _
  | d :: ds, h => by
    have h1 := rowsS_len (h d List.mem_cons_self).1 (h d List.mem_cons_self).2
    have h2 := progRows_len (ds := ds) fun e he => h e (List.mem_cons_of_mem _ he)
    unfold progRows at h2 ⊢
    rw [List.map_cons, List.flatten_cons, List.length_append, List.length_cons]
    omega
theorem bodyS_few {d : PD} (o : d.Ok) (l : d.parts.length ≤ 30) : ∀ z ∈ bodyS d, z.length ≤ 300 := by
  have hH := headS_len o
  have hT := tailS_len o
  have hC := commaS_len (d := d)
  have j1 : (Str.ofString ", ").length = 2 := by decide
  have j2 : (Str.ofString "  ").length = 2 := by decide
  have j3 : (Str.ofString ",").length = 1 := by decide
  have j4 : Str.empty.length = 0 := by decide
  have hsum := sum_few (n := 6) fun z hz => nameB_len (o.parts z hz)
  have hjoin := join_le ", " d.parts
  rw [j1] at hjoin
  intro z hz
  unfold bodyS at hz
  split at hz
  · simp only [List.mem_cons, List.mem_append, List.mem_map, List.not_mem_nil, or_false] at hz
    rcases hz with rfl | ⟨y, hy, rfl⟩ | rfl | rfl
    · omega
    · have := nameB_len (o.parts y (List.dropLast_subset _ hy))
      unfold itemS
      rw [Str.length_append, Str.length_append, Str.length_append]
      omega
    · have lz : (d.parts.getLastD Str.empty).length ≤ 6 := by
        obtain ⟨a, ha⟩ : ∃ a, d.parts.getLast? = some a := by
          cases e : d.parts with
          | nil => have := o.some; rw [e] at this; exact absurd this (by decide)
          | cons x xs => exact ⟨_, List.getLast?_cons⟩
        rw [List.getLastD_eq_getLast?, ha]
        exact nameB_len (o.parts a (List.mem_of_getLast? ha))
      unfold lastS
      rw [Str.length_append, Str.length_append, Str.length_append]
      omega
    · omega
  · rw [List.mem_singleton] at hz
    subst hz
    rw [Str.length_append, Str.length_append, Str.length_append]
    omega
theorem rowsS_few {d : PD} (o : d.Ok) (l : d.parts.length ≤ 30) : ∀ z ∈ rowsS d, z.length ≤ 300 := by
  intro z hz
  unfold rowsS at hz
  rcases List.mem_append.mp hz with h | h
  · rw [(List.mem_replicate.mp h).2]
    decide
  · rcases List.mem_append.mp h with h | h
    · unfold remarkS at h
      split at h
      · exact (List.not_mem_nil h).elim
      · rw [List.mem_singleton] at h
        subst h
        have j2 : (Str.ofString "# ").length = 2 := by decide
        have j4 : Str.empty.length = 0 := by decide
        have la := remarkB_len o.ahead
        rw [Str.length_append, Str.length_append]
        omega
    · exact bodyS_few o l z h
theorem progRows_few {ds : List PD} (h : ∀ d ∈ ds, d.Ok ∧ d.parts.length ≤ 30) : ∀ z ∈ progRows ds, z.length ≤ 300 := by
  intro z hz
  obtain ⟨l, hl, hz⟩ := List.mem_flatten.mp hz
  obtain ⟨d, hd, rfl⟩ := List.mem_map.mp hl
  exact rowsS_few (h d hd).1 (h d hd).2 z hz
abbrev sStrP : Stmt := inClass (top 33) 7
def spStrP (K : PySem.W.Frag) (C CP : Addr) : Sp := fun vs H Q _ => ∃ (p t : Addr) (xs : List V) (ds : List PD), vs = [.ref p] ∧ ProgT K C CP H p t xs ds ∧ ∀ H', Same H H' → Q (.str (progText ds)) H'
section
variable {P : Program} {w : World} {K : PySem.W.Frag} {mg : Str → Option Value} {base : Heap}
theorem scStrP : FnScope ["self", "piece", "row"] ["self"] (defScope sStrP) := ⟨rfl, rfl, rfl, by decide +kernel, rfl, by decide +kernel, by decide +kernel⟩
theorem ok_strP {f fR C CP : Addr} {fd dR : FuncData} (F : Fun K "__str__" "Program.__str__" sStrP f fd) (Z : ProgC K CP)
    (GR : FnOk P w K mg base CX0 3 fR dR ["piece"] (spRowsOf K C rowsS)) (gR : mg "rows_of" = some (.ref fR)) (kR : PySem.W.keepIn K (.ref fR) = true) (bR : Binds K dR ["piece"] []) : FnOk P w K mg base CX0 4 f fd ["self"] (spStrP K C CP) := by
  refine F.ok scStrP (fun vs H Q E h => ?_) (fun cdv A outer s H vs Q E hr h => ?_)
  · obtain ⟨p, t, xs, ds, rfl, _⟩ := h
    rfl
  · obtain ⟨p, t, xs, ds, rfl, hT, k⟩ := h
    refine ⟨_, pss_one (ps_ret (pe_bm PySem.F.plainAttrs_str PySem.F.slot_str_join PySem.F.type_str_join mt_join pe_str (pa_cons
      (pe_lc2 (own := [("piece", 1), ("row", 2)]) (vs1 := [2]) (g := gName 1) (tt := tYes) (g1 := gName 2) (tt1 := tYes) (by rfl) scStrP.nd (pi_tup (pe_fld (pv 0) rfl)) (blkOk_by (N := ["self", "piece", "row"]) (sc := defScope sStrP) (by decide +kernel)) (by decide)
        (fun _ _ _ _ _ => pg_name (i := 1) scStrP.nd rfl (Or.inl rfl)) (fun _ _ _ _ _ => pts_nil)
        (fun _ _ _ _ _ => pi_listK (K := K) rfl (pe_call GR hr (by rfl) gR kR bR .nil pass0 (pa_cons (pv 1) pa_nil)))
        (fun _ _ _ _ _ => pg_name (i := 2) scStrP.nd rfl (Or.inl rfl)) (fun _ _ _ _ _ => pts_nil)
        (fun _ _ _ _ _ => pv 2)) pa_nil))), ?_⟩
    obtain ⟨dx, hp, ht, hps, hl⟩ := id hT
    refine ⟨rfl, _, rfl, p, CP, dx, _, _, rfl, hp, Z.cl, Z.pieces, rfl, t, rfl, ⟨_, ht.sqT⟩, fun D nD => it_tup (K := K) (a := t) (xs := xs) (fun i G => Same H G ∧ G D = some (.lst ((progRows (ds.take i)).map V.str))) ⟨Same.new nD, upd_same⟩ (fun i G _ q => SqT.same q.1 ht.sqT) ?_ ?_⟩
    · rintro i x G hi ⟨sG, hD⟩
      have li := (List.getElem?_eq_some_iff.mp hi).1
      obtain ⟨d, ed⟩ : ∃ d, ds[i]? = some d := ⟨_, List.getElem?_eq_getElem (by rw [← hps.1]; exact li)⟩
      obtain ⟨q, rfl, hq⟩ := (hps.same sG).2.2 i x _ hi ed
      obtain ⟨o, few⟩ := hps.2.1 d (List.mem_of_getElem? ed)
      have hlen := progRows_len (ds := ds.take i) fun e he => hps.2.1 e (List.mem_of_mem_take he)
      have hlen2 := rowsS_len o few
      rw [List.length_take] at hlen
      refine ⟨rfl, _, rfl, q, d, rfl, hq, o, few, fun l G2 s2 n2 hl2 => ⟨l, rfl, ⟨_, SqL.of hl2⟩, it_lst (K := K) (a := l) (xs := (rowsS d).map V.str) (fun j G' => Same H G' ∧ G' l = some (.lst ((rowsS d).map V.str)) ∧ G' D = some (.lst ((progRows (ds.take i) ++ (rowsS d).take j).map V.str)))
        ⟨sG.trans s2, hl2, by rw [List.take_zero, List.append_nil]; exact s2 _ _ hD⟩ (fun j G' _ z => SqL.of z.2.1) ?_ ?_⟩⟩
      · rintro j y G' hj ⟨sG', hl', hD'⟩
        obtain ⟨z, hz, rfl⟩ : ∃ z, (rowsS d)[j]? = some z ∧ V.str z = y := by
          rw [List.getElem?_map] at hj
          cases e : (rowsS d)[j]? with
          | none => rw [e] at hj; cases hj
          | some y => rw [e] at hj; exact ⟨y, rfl, Option.some.inj hj⟩
        have nlD : l ≠ D := Ne.symm (ne_of_none hD n2)
        refine ⟨rfl, _, rfl, _, hD', ?_, fun c u e => ?_, by rw [upd_ne nlD]; exact hl', ?_⟩
        · rw [List.length_map, List.length_append, List.length_take]
          refine Nat.lt_of_lt_of_le (m := 1000000) ?_ (fitsN (Nat.le_refl _))
          omega
        · rw [upd_ne (ne_of_none e nD)]
          exact sG' _ _ e
        · rw [upd_same, List.take_succ, hz, List.map_append, List.map_append, List.map_append, List.append_assoc]
          rfl
      · rintro G' ⟨sG', hl', hD'⟩
        rw [List.length_map, List.take_length] at hD'
        exact ⟨sG', by rw [hD', progRows_take ed]⟩
    · rintro G ⟨sG, hD⟩
      rw [hps.1, List.take_length] at hD
      have hlen := progRows_len (ds := ds) hps.2.1
      have hsum := sum_few (n := 300) (progRows_few hps.2.1)
      have j : (Str.ofString "\n").length = 1 := by decide
      exact ⟨_, D, progRows ds, rfl, rfl, .inl (SqL.of hD), by rw [j]; omega, k G sG⟩
end
end Lay
set_option Elab.async false
set_option linter.all false
set_option maxRecDepth 100000
set_option maxHeartbeats 4000000
/-! Texts cut up again. -/
namespace TxL
open PySem PySem.StrLaws Builtin Builtin.Str
def L (x : Str) : List Nat := x.cps.toList
theorem L_len (x : Str) : (L x).length = x.length := by simp [L, Str.length]
theorem L_app (a b : Str) : L (a ++ b) = L a ++ L b := by simp [L, Str.cps_append]
theorem L_inj {a b : Str} (h : L a = L b) : a = b := Str.ext' (Array.toList_inj.mp h)
theorem L_sub (s : Str) (i j : Nat) : L (strSub s i j) = ((L s).drop i).take (j - i) := strSub_toList s i j
theorem at_iff {x y : Str} {i : Nat} : At x y x.length i ↔ i + y.length ≤ x.length ∧ ((L x).drop i).take y.length = L y := by
  unfold At
  rw [subAt_eq]
  exact and_congr_right fun _ => beq_iff_eq
/-- the j-th sign of what stands at i -/
theorem at_get {x y : Str} {i j c : Nat} (h : At x y x.length i) (hj : (L y)[j]? = some c) : (L x)[i + j]? = some c := by
  obtain ⟨_, e⟩ := at_iff.mp h
  rw [← e] at hj
  have hlt : j < y.length := by
    have := (List.getElem?_eq_some_iff.mp hj).1
    rw [List.length_take] at this
    omega
  rw [List.getElem?_take_of_lt hlt, List.getElem?_drop] at hj
  exact hj
theorem at_mid (a y b : Str) : At (a ++ y ++ b) y (a ++ y ++ b).length a.length := by
  rw [at_iff, L_app, L_app, Str.length_append, Str.length_append]
  refine ⟨by omega, ?_⟩
  rw [List.append_assoc, ← L_len a, List.drop_left, ← L_len y, List.take_left]
theorem free_get {l : List Nat} {c i : Nat} (h : c ∉ l) : l[i]? ≠ some c := fun e => h (List.mem_of_getElem? e)
/-- x.partition(y), where y's sign c stands in nothing before -/
theorem part_at {a y b : Str} {j c : Nat} (hj : (L y)[j]? = some c) (bef : ∀ i, i < j → (L y)[i]? ≠ some c) (free : c ∉ L a) : Txt.partition (a ++ y ++ b) y = (a, y, b) := by
  have hm := at_mid a y b
  have key : ∀ k, k < a.length → ¬ At (a ++ y ++ b) y (a ++ y ++ b).length k := fun k hk h => by
    have g := at_get h hj
    rw [L_app, L_app, List.append_assoc] at g
    by_cases q : k + j < a.length
    · rw [List.getElem?_append_left (by rw [L_len]; exact q)] at g
      exact free_get free g
    · rw [List.getElem?_append_right (by rw [L_len]; omega), L_len] at g
      have hy : j < (L y).length := (List.getElem?_eq_some_iff.mp hj).1
      rw [List.getElem?_append_left (by omega)] at g
      exact bef _ (by omega) g
  unfold Txt.partition
  rcases occ_head (a ++ y ++ b) y 1 (Nat.le_refl 1) with ⟨_, hn⟩ | ⟨i, r, e, hi, hk⟩
  · exact absurd hm (hn _)
  · rw [e]
    have ei : i = a.length := by
      rcases Nat.lt_trichotomy i a.length with h | h | h
      · exact absurd hi (key i h)
      · exact h
      · exact absurd hm (hk _ h)
    subst ei
    have e1 : strSub (a ++ y ++ b) 0 a.length = a := L_inj (by rw [L_sub, L_app, L_app, List.append_assoc, List.drop_zero, Nat.sub_zero, ← L_len a, List.take_left])
    have e2 : strSub (a ++ y ++ b) (a.length + y.length) (a ++ y ++ b).length = b := L_inj (by
      rw [L_sub, L_app, L_app, Str.length_append, Str.length_append, show a.length + y.length = (L a ++ L y).length by rw [List.length_append, L_len, L_len], List.drop_left]
      refine List.take_of_length_le ?_
      rw [List.length_append, L_len, L_len, L_len]
      omega)
    show (strSub (a ++ y ++ b) 0 a.length, y, strSub (a ++ y ++ b) (a.length + y.length) (a ++ y ++ b).length) = _
    rw [e1, e2]
theorem part_no {x y : Str} {c : Nat} (hc : c ∈ L y) (free : c ∉ L x) : Txt.partition x y = (x, Str.empty, Str.empty) := by
  unfold Txt.partition
  rcases occ_head x y 1 (Nat.le_refl 1) with ⟨e, _⟩ | ⟨i, r, e, hi, _⟩
  · rw [e]
  · obtain ⟨j, hj⟩ := List.mem_iff_getElem?.mp hc
    exact absurd (at_get hi hj) (free_get free)
theorem start_iff {x y : Str} : Txt.startswith x y = true ↔ (L x).take y.length = L y := by
  unfold Txt.startswith
  rw [subAt_eq, Bool.and_eq_true, decide_eq_true_eq, beq_iff_eq]
  show _ ∧ ((L x).drop 0).take y.length = L y ↔ _
  rw [List.drop_zero]
  constructor
  · exact fun h => h.2
  · intro h
    have := congrArg List.length h
    rw [List.length_take, L_len, L_len] at this
    exact ⟨by omega, h⟩
theorem start_app (a b : Str) : Txt.startswith (a ++ b) a = true := by
  rw [start_iff, L_app, ← L_len a, List.take_left]
theorem start_no {x y : Str} {c : Nat} (hy : (L y)[0]? = some c) (hx : (L x)[0]? ≠ some c) : Txt.startswith x y = false := by
  cases h : Txt.startswith x y with
  | false => rfl
  | true =>
    have e := start_iff.mp h
    rw [← e] at hy
    have hlt := (List.getElem?_eq_some_iff.mp hy).1
    rw [List.length_take] at hlt
    rw [List.getElem?_take_of_lt (by omega)] at hy
    exact absurd hy hx
theorem pre_app (a b : Str) : Txt.removeprefix (a ++ b) a = b := by
  rw [removeprefix_eq]
  have h := start_app a b
  unfold Txt.startswith at h
  rw [if_pos h]
  refine L_inj ?_
  show ((L (a ++ b)).drop a.length).take ((a ++ b).length - a.length) = L b
  rw [L_app, ← L_len a, List.drop_left]
  refine List.take_of_length_le ?_
  rw [L_len, Str.length_append, L_len]
  omega
theorem pre_no {x y : Str} (h : Txt.startswith x y = false) : Txt.removeprefix x y = x := by
  rw [removeprefix_eq]
  unfold Txt.startswith at h
  rw [if_neg (by rw [h]; decide)]
theorem end_iff {x y : Str} : Txt.endswith x y = true ↔ y.length ≤ x.length ∧ (L x).drop (x.length - y.length) = L y := by
  unfold Txt.endswith
  rw [subAt_eq, Bool.and_eq_true, decide_eq_true_eq, beq_iff_eq, Nat.zero_add]
  refine and_congr_right fun h => ?_
  show ((L x).drop (x.length - y.length)).take y.length = L y ↔ _
  rw [List.take_of_length_le (by rw [List.length_drop, L_len]; omega)]
theorem end_app (a b : Str) : Txt.endswith (a ++ b) b = true := by
  rw [end_iff, Str.length_append, L_app]
  refine ⟨by omega, ?_⟩
  rw [show a.length + b.length - b.length = (L a).length by rw [L_len]; omega, List.drop_left]
theorem suf_app (a b : Str) : Txt.removesuffix (a ++ b) b = a := by
  rw [removesuffix_eq]
  have h := end_app a b
  unfold Txt.endswith at h
  rw [if_pos h]
  refine L_inj ?_
  show ((L (a ++ b)).drop 0).take ((a ++ b).length - b.length - 0) = L a
  rw [List.drop_zero, L_app, Str.length_append, show a.length + b.length - b.length - 0 = (L a).length by rw [L_len]; omega, List.take_left]
theorem suf_no {x y : Str} (h : Txt.endswith x y = false) : Txt.removesuffix x y = x := by
  rw [removesuffix_eq]
  unfold Txt.endswith at h
  rw [if_neg (by rw [h]; decide)]
/-- the last sign is another one -/
theorem end_no {x : Str} {c : Nat} (h : (L x).getLast? ≠ some c) : Txt.endswith x ⟨#[c]⟩ = false := by
  cases e : Txt.endswith x ⟨#[c]⟩ with
  | false => rfl
  | true =>
    obtain ⟨h1, h2⟩ := end_iff.mp e
    have h3 : (⟨#[c]⟩ : Str).length = 1 := rfl
    rw [h3] at h1 h2
    exfalso
    apply h
    rw [← List.take_append_drop (x.length - 1) (L x), h2]
    show (List.take (x.length - 1) (L x) ++ [c]).getLast? = some c
    rw [List.getLast?_concat]
/-! ### split -/
theorem drop_join {sep p q : Str} {r : List Str} : L (Str.join sep (p :: q :: r)) = L p ++ (L sep ++ L (Str.join sep (q :: r))) := by
  show L (p ++ sep ++ Str.join sep (q :: r)) = _
  rw [L_app, L_app, List.append_assoc]
theorem parts_are {x sep : Str} {c : Nat} (h0 : (L sep)[0]? = some c) : ∀ (ps : List Str) (a f : Nat) (cuts : List Nat), ps ≠ [] → (∀ p ∈ ps, c ∉ L p) → (L x).drop a = L (Str.join sep ps) → ChainG x sep x.length a cuts f → (∀ k, f ≤ k → ¬ At x sep x.length k) →
    partsFrom x sep.length a cuts = ps
  | [], _, _, _, h, _, _, _, _ => absurd rfl h
  | [p], a, f, cuts, _, fr, e, ch, no => by
    have e' : (L x).drop a = L p := e
    have none : ∀ k, a ≤ k → ¬ At x sep x.length k := fun k hk h => by
      have g := at_get h h0
      rw [Nat.add_zero, show k = a + (k - a) by omega, ← List.getElem?_drop, e'] at g
      exact free_get (fr p List.mem_cons_self) g
    cases cuts with
    | nil =>
      show [strSub x a x.length] = [p]
      rw [L_inj (a := strSub x a x.length) (b := p) (by rw [L_sub, e']; exact List.take_of_length_le (by rw [← e', List.length_drop, L_len]; exact Nat.le_refl _))]
    | cons c1 r => exact absurd ch.2.1 (none _ ch.1)
  | p :: q :: r, a, f, cuts, _, fr, e, ch, no => by
    rw [drop_join] at e
    have lx : x.length - a = p.length + (sep.length + (Str.join sep (q :: r)).length) := by
      have := congrArg List.length e
      rw [List.length_drop, List.length_append, List.length_append, L_len, L_len, L_len, L_len] at this
      exact this
    have sl : 0 < sep.length := by
      have := (List.getElem?_eq_some_iff.mp h0).1
      rw [L_len] at this
      exact this
    have hat : At x sep x.length (a + p.length) := by
      rw [at_iff]
      refine ⟨by omega, ?_⟩
      rw [← List.drop_drop, e, ← L_len p, List.drop_left, ← L_len sep, List.take_left]
    have lo : ∀ k, a ≤ k → k < a + p.length → ¬ At x sep x.length k := fun k hk hl h => by
      have g := at_get h h0
      rw [Nat.add_zero, show k = a + (k - a) by omega, ← List.getElem?_drop, e, List.getElem?_append_left (by rw [L_len]; omega)] at g
      exact free_get (fr p List.mem_cons_self) g
    cases cuts with
    | nil =>
      have ef : f = a := ch
      exact absurd hat (no _ (by omega))
    | cons c1 t =>
      obtain ⟨h1, h2, h3, h4⟩ := ch
      have ec : c1 = a + p.length := by
        rcases Nat.lt_trichotomy c1 (a + p.length) with h | h | h
        · exact absurd h2 (lo _ h1 h)
        · exact h
        · exact absurd hat (h3 _ (by omega) h)
      subst ec
      have e1 : strSub x a (a + p.length) = p := L_inj (by rw [L_sub, e, show a + p.length - a = (L p).length by rw [L_len]; omega, List.take_left])
      have e2 : (L x).drop (a + p.length + sep.length) = L (Str.join sep (q :: r)) := by
        rw [← List.drop_drop, ← List.drop_drop, e, ← L_len p, List.drop_left, ← L_len sep, List.drop_left]
      have ih := parts_are h0 (q :: r) _ f t (by simp) (fun z hz => fr z (List.mem_cons_of_mem _ hz)) e2 h4 no
      show strSub x a (a + p.length) :: partsFrom x sep.length (a + p.length + sep.length) t = _
      rw [e1, ih]
theorem split_join {sep : Str} {c : Nat} (h0 : (L sep)[0]? = some c) (hk : PySem.Builtin.Str.strKind sep = 1) {ps : List Str} (ne : ps ≠ []) (fr : ∀ p ∈ ps, c ∉ L p) : Txt.split (Txt.join sep ps) sep = ps := by
  have ej : Txt.join sep ps = Str.join sep ps := glued_eq_join sep ps
  rw [ej]
  have sl : 1 ≤ sep.length := by
    have := (List.getElem?_eq_some_iff.mp h0).1
    rw [L_len] at this
    exact this
  obtain ⟨f, ch, no⟩ := occ_tight (Str.join sep ps) sep sl
  have key := parts_are h0 ps 0 f _ ne fr (by rw [List.drop_zero]) ch no
  unfold Txt.split
  have k1 : ¬ PySem.Builtin.Str.strKind (Str.join sep ps) < PySem.Builtin.Str.strKind sep := by
    rw [hk]
    unfold PySem.Builtin.Str.strKind
    split
    · decide
    · split <;> decide
  by_cases hl : (Str.join sep ps).length < sep.length
  · rw [if_pos (by rw [decide_eq_true hl]; rfl)]
    cases ps with
    | nil => exact absurd rfl ne
    | cons p r =>
      cases r with
      | nil => rfl
      | cons q t =>
        have := congrArg List.length (drop_join (sep := sep) (p := p) (q := q) (r := t))
        rw [List.length_append, List.length_append, L_len, L_len, L_len] at this
        omega
  · rw [if_neg (by rw [decide_eq_false hl, decide_eq_false k1]; decide)]
    by_cases he : (occurrences (Str.join sep ps) sep 0 (Str.join sep ps).length ((Str.join sep ps).length + 1)).isEmpty = true
    · rw [if_pos he]
      rw [List.isEmpty_iff.mp he] at key
      refine Eq.trans ?_ key
      show [Str.join sep ps] = [strSub (Str.join sep ps) 0 (Str.join sep ps).length]
      rw [L_inj (a := strSub (Str.join sep ps) 0 (Str.join sep ps).length) (b := Str.join sep ps) (by rw [L_sub, List.drop_zero]; exact List.take_of_length_le (by rw [L_len]; exact Nat.le_refl _))]
    · rw [if_neg he, partsBetween_eq]
      exact key
end TxL
set_option Elab.async false
set_option linter.all false
set_option maxRecDepth 100000
set_option maxHeartbeats 4000000
set_option pp.maxSteps 1500
namespace Lay
open PySem TxL
/-! Reading rows, as plain functions: a value, or the row that is refused. -/
abbrev Rd (α : Type) := Except Nat α
def rowR (rows : List Str) (i : Nat) : Rd Str := match rows[i]? with
  | some r => .ok r
  | none => .error i
def blanksR (rows : List Str) (i : Nat) : Rd Nat := match rowR rows i with
  | .error e => .error e
  | .ok r => if r.length ≠ 0 then .ok 0 else match rowR rows (i + 1) with
    | .error e => .error e
    | .ok r2 => if r2.length ≠ 0 then .ok 1 else .ok 2
def aheadR (rows : List Str) (i : Nat) : Rd Str := match rowR rows i with
  | .error e => .error e
  | .ok r => if Txt.startswith r "# " = true then (if nameB (Txt.removeprefix r "# ") = true then .ok (Txt.removeprefix r "# ") else .error i) else .ok (Str.ofString "")
def headR (rows : List Str) (i : Nat) : Rd (Str × Bool × Str) := match rowR rows i with
  | .error e => .error e
  | .ok r => let p := Txt.partition (Txt.removeprefix r "!") "("
    if p.2.1.length = 0 ∨ nameB p.1 = false then .error i else .ok (p.1, Txt.startswith r "!", p.2.2)
def remarkR (t : Str) (i : Nat) : Rd (Str × Str) := let p := Txt.partition t "  # "
  if p.2.1.length ≠ 0 ∧ nameB p.2.2 = false then .error i else .ok (p.1, p.2.2)
def flatR (rest : Str) (i : Nat) : Rd (List Str × Bool × Str × Nat) := match remarkR rest i with
  | .error e => .error e
  | .ok (body, behind) => let inside := Txt.removesuffix body ")"
    let parts := Txt.split (Txt.removesuffix inside ",") ", "
    if Txt.endswith body ")" = false ∨ parts.all nameB = false then .error i else .ok (parts, Txt.endswith inside ",", behind, i + 1)
def itemR (rows : List Str) (i : Nat) : Rd (Str × Bool) := match rowR rows i with
  | .error e => .error e
  | .ok r => let p := Txt.removesuffix (Txt.removeprefix r "  ") ","
    if Txt.startswith r "  " = false ∨ nameB p = false then .error i else .ok (p, Txt.endswith r ",")
/-- the items from row i on; n rows at most -/
def itemsR (rows : List Str) : Nat → Nat → Rd (List Str × Bool)
  | 0, i => .error i
  | n + 1, i => match itemR rows i with
    | .error e => .error e
    | .ok (p, false) => .ok ([p], false)
    | .ok (p, true) => match rowR rows (i + 1) with
      | .error e => .error e
      | .ok r => if Txt.startswith r "  " = false then .ok ([p], true) else match itemsR rows n (i + 1) with
        | .error e => .error e
        | .ok (ps, c) => .ok (p :: ps, c)
def brokenR (rows : List Str) (i : Nat) : Rd (List Str × Bool × Str × Nat) := match itemsR rows rows.length i with
  | .error e => .error e
  | .ok (ps, c) => match rowR rows (i + ps.length) with
    | .error e => .error e
    | .ok r => match remarkR r (i + ps.length) with
      | .error e => .error e
      | .ok (body, behind) => if body = Str.ofString ")" then .ok (ps, c, behind, i + ps.length + 1) else .error (i + ps.length)
def pieceR (rows : List Str) (i : Nat) : Rd (PD × Nat) := match blanksR rows i with
  | .error e => .error e
  | .ok b => match aheadR rows (i + b) with
    | .error e => .error e
    | .ok a => let j := if a.length ≠ 0 then i + b + 1 else i + b
      match headR rows j with
      | .error e => .error e
      | .ok (w, l, rest) => if rest.length = 0 then (match brokenR rows (j + 1) with
          | .error e => .error e
          | .ok (ps, m, h, k) => .ok (⟨w, ps, true, m, a, h, b, l⟩, k))
        else (match flatR rest j with
          | .error e => .error e
          | .ok (ps, m, h, k) => .ok (⟨w, ps, false, m, a, h, b, l⟩, k))
/-- the pieces from row i on; n at most -/
def piecesR (rows : List Str) : Nat → Nat → Rd (List PD)
  | 0, i => if i < rows.length then .error i else .ok []
  | n + 1, i => if i < rows.length then (match pieceR rows i with
      | .error e => .error e
      | .ok (d, k) => match piecesR rows n k with
        | .error e => .error e
        | .ok ds => .ok (d :: ds)) else .ok []
/-! ### what is told is read -/
theorem name_az {z : Str} (h : nameB z = true) : 0 < z.length ∧ ∀ c ∈ L z, 97 ≤ c ∧ c ≤ 122 := by
  rw [nameB_eq, Bool.and_eq_true, Bool.and_eq_true, decide_eq_true_iff, decide_eq_true_iff, Array.all_eq_true'] at h
  exact ⟨h.2.1, fun c hc => az_iff.mp (h.2.2 c (by simpa [L] using hc))⟩
theorem name_free {z : Str} (h : nameB z = true) {c : Nat} (hc : ¬ (97 ≤ c ∧ c ≤ 122)) : c ∉ L z := fun hm => hc ((name_az h).2 c hm)
theorem name_first {z : Str} (h : nameB z = true) (y : List Nat) {c : Nat} (hc : ¬ (97 ≤ c ∧ c ≤ 122)) : (L z ++ y)[0]? ≠ some c := by
  have h1 := (name_az h).1
  rw [List.getElem?_append_left (by rw [L_len]; exact h1)]
  exact free_get (name_free h hc)
theorem name_last {z : Str} (h : nameB z = true) (y : List Nat) {c : Nat} (hc : ¬ (97 ≤ c ∧ c ≤ 122)) : (y ++ L z).getLast? ≠ some c := by
  have h1 := (name_az h).1
  rw [← L_len] at h1
  rw [List.getLast?_append]
  cases e : (L z).getLast? with
  | none =>
    rw [List.getLast?_eq_none_iff.mp e] at h1
    exact absurd h1 (by decide)
  | some x =>
    intro q
    have q2 : x = c := by simpa using q
    subst q2
    exact hc ((name_az h).2 x (List.mem_of_getLast? e))
theorem join_free {sep : Str} {c : Nat} (hs : c ∉ L sep) : ∀ {ps : List Str}, (∀ p ∈ ps, c ∉ L p) → c ∉ L (Str.join sep ps)
  | [], _ => by
    show c ∉ L Str.empty
    simp [L, Str.empty]
  | [p], h => h p List.mem_cons_self
  | p :: q :: r, h => by
    rw [drop_join]
    simp only [List.mem_append, not_or]
    exact ⟨h p List.mem_cons_self, hs, join_free hs fun z hz => h z (List.mem_cons_of_mem _ hz)⟩
theorem join_last {sep : Str} {c : Nat} (hc : ¬ (97 ≤ c ∧ c ≤ 122)) : ∀ {ps : List Str}, ps ≠ [] → (∀ p ∈ ps, nameB p = true) → 0 < (L (Str.join sep ps)).length ∧ (L (Str.join sep ps)).getLast? ≠ some c
  | [], h, _ => absurd rfl h
  | [p], _, h => by
    have h1 := h p List.mem_cons_self
    refine ⟨by show 0 < (L p).length; rw [L_len]; exact (name_az h1).1, ?_⟩
    have := name_last h1 [] hc
    show (L p).getLast? ≠ some c
    simpa using this
  | p :: q :: r, _, h => by
    obtain ⟨a, b⟩ := join_last (sep := sep) hc (ps := q :: r) (by simp) fun z hz => h z (List.mem_cons_of_mem _ hz)
    rw [drop_join]
    refine ⟨by rw [List.length_append, List.length_append]; omega, ?_⟩
    rw [List.getLast?_append, List.getLast?_append]
    cases e : (L (Str.join sep (q :: r))).getLast? with
    | none =>
      rw [List.getLast?_eq_none_iff.mp e] at a
      exact absurd a (by decide)
    | some x =>
      rw [e] at b
      simpa using b
theorem joinT (sep : Str) (ps : List Str) : Txt.join sep ps = Str.join sep ps := StrLaws.glued_eq_join sep ps
theorem empty_of {z : Str} (h : z.length = 0) : z = Str.ofString "" := L_inj (by
  have := L_len z
  rw [h] at this
  rw [List.length_eq_zero_iff.mp this]
  decide +kernel)
/-- the row, from row i of the rows on -/
theorem row_of {rows rest : List Str} {r : Str} {i : Nat} (h : rows.drop i = r :: rest) : rowR rows i = .ok r := by
  unfold rowR
  have : rows[i]? = some r := by rw [show i = i + 0 by omega, ← List.getElem?_drop, h]; rfl
  rw [this]
theorem next_of {rows rest : List Str} {r : Str} {i : Nat} (h : rows.drop i = r :: rest) : rows.drop (i + 1) = rest := by
  rw [← List.drop_drop, h]
  rfl
/-- a head row: sign, word, paren, rest -/
theorem head_read {rows post : List Str} {i : Nat} {l : Bool} {w rest : Str} (hw : nameB w = true) (h : rows.drop i = (((if l = true then Str.ofString "!" else Str.ofString "") ++ w) ++ Str.ofString "(" ++ rest) :: post) : headR rows i = .ok (w, l, rest) := by
  unfold headR
  rw [row_of h]
  have e1 : Txt.removeprefix (((if l = true then Str.ofString "!" else Str.ofString "") ++ w) ++ Str.ofString "(" ++ rest) "!" = w ++ Str.ofString "(" ++ rest ∧ Txt.startswith (((if l = true then Str.ofString "!" else Str.ofString "") ++ w) ++ Str.ofString "(" ++ rest) "!" = l := by
    cases l with
    | true =>
      simp only [if_true]
      rw [Str.append_assoc, Str.append_assoc, ← Str.append_assoc w]
      exact ⟨pre_app _ _, start_app _ _⟩
    | false =>
      simp only [Bool.false_eq_true, if_false]
      have ee : Str.ofString "" ++ w = w := Str.empty_append w
      rw [ee]
      have s : Txt.startswith (w ++ Str.ofString "(" ++ rest) "!" = false := start_no (c := 33) (by decide +kernel) (by rw [L_app, L_app, List.append_assoc]; exact name_first hw _ (by decide))
      exact ⟨pre_no s, s⟩
  have e2 : Txt.partition (w ++ Str.ofString "(" ++ rest) "(" = (w, Str.ofString "(", rest) := part_at (j := 0) (c := 40) (by decide +kernel) (fun i hi => absurd hi (by omega)) (name_free hw (by decide))
  simp only [e1.1, e1.2, e2]
  rw [if_neg (by rw [hw]; decide)]
theorem remark_read {body b : Str} {i : Nat} (fr : 35 ∉ L body) (hb : remarkB b = true) : remarkR (if b.length = 0 then body else body ++ Str.ofString "  # " ++ b) i = .ok (body, b) := by
  unfold remarkR
  by_cases h : b.length = 0
  · rw [if_pos h]
    have e : Txt.partition body "  # " = (body, Str.empty, Str.empty) := part_no (c := 35) (by decide +kernel) fr
    simp only [e]
    rw [if_neg (by decide), empty_of h]
    rfl
  · rw [if_neg h]
    have e : Txt.partition (body ++ Str.ofString "  # " ++ b) "  # " = (body, Str.ofString "  # ", b) := part_at (j := 2) (c := 35) (by decide +kernel) (fun i hi => by
      rcases (show i = 0 ∨ i = 1 by omega) with rfl | rfl <;> decide +kernel) fr
    simp only [e]
    have hn : nameB b = true := by
      unfold remarkB at hb
      rcases Bool.or_eq_true_iff.mp hb with z | z
      · have e : b = ("" : Str) := L2.V.str.inj (of_decide_eq_true z)
        rw [e] at h
        exact absurd (by decide) h
      · exact z
    rw [if_neg (by rw [hn]; simp)]
theorem split_parts {ps : List Str} (ne : ps ≠ []) (hp : ∀ p ∈ ps, nameB p = true) : Txt.split (Txt.join ", " ps) ", " = ps :=
  split_join (c := 44) (by decide +kernel) (by decide +kernel) ne fun p h => name_free (hp p h) (by decide)
theorem all_names {ps : List Str} (hp : ∀ p ∈ ps, nameB p = true) : ps.all nameB = true := List.all_eq_true.mpr hp
theorem flat_read {ps : List Str} {m : Bool} {b : Str} {i : Nat} (ne : ps ≠ []) (hp : ∀ p ∈ ps, nameB p = true) (hb : remarkB b = true) :
    flatR ((Txt.join ", " ps ++ (if m = true then Str.ofString "," else Str.ofString "")) ++ (if b.length = 0 then Str.ofString ")" else (Str.empty ++ Str.ofString ")  # ") ++ b)) i = .ok (ps, m, b, i + 1) := by
  have ej : Txt.join ", " ps = Str.join ", " ps := joinT _ _
  have fr : 35 ∉ L (Txt.join ", " ps) := by
    rw [ej]
    exact join_free (by decide +kernel) fun p h => name_free (hp p h) (by decide)
  have body : ∀ cs : Str, 35 ∉ L cs → remarkR ((Txt.join ", " ps ++ cs) ++ (if b.length = 0 then Str.ofString ")" else (Str.empty ++ Str.ofString ")  # ") ++ b)) i = .ok ((Txt.join ", " ps ++ cs) ++ Str.ofString ")", b) := fun cs hc => by
    have e : ((Txt.join ", " ps ++ cs) ++ (if b.length = 0 then Str.ofString ")" else (Str.empty ++ Str.ofString ")  # ") ++ b)) = (if b.length = 0 then (Txt.join ", " ps ++ cs) ++ Str.ofString ")" else ((Txt.join ", " ps ++ cs) ++ Str.ofString ")") ++ Str.ofString "  # " ++ b) := by
      split
      · rfl
      · rw [Str.empty_append, show Str.ofString ")  # " = Str.ofString ")" ++ Str.ofString "  # " by decide +kernel]
        simp only [Str.append_assoc]
    rw [e]
    refine remark_read ?_ hb
    rw [L_app, L_app, List.mem_append, List.mem_append]
    rintro ((h | h) | h)
    · exact fr h
    · exact hc h
    · revert h
      decide +kernel
  unfold flatR
  cases m with
  | true =>
    simp only [if_true]
    rw [body _ (by decide +kernel)]
    simp only [suf_app, end_app]
    rw [split_parts ne hp, all_names hp, if_neg (by decide)]
  | false =>
    simp only [Bool.false_eq_true, if_false]
    rw [body _ (by decide +kernel)]
    have ee : Txt.join ", " ps ++ Str.ofString "" = Txt.join ", " ps := Str.append_empty _
    have en : Txt.endswith (Txt.join ", " ps) "," = false := end_no (c := 44) (by rw [ej]; exact (join_last (by decide) ne hp).2)
    simp only [suf_app, end_app]
    rw [ee, suf_no en, split_parts ne hp, all_names hp, if_neg (by decide), en]
/-! rows of a broken piece -/
theorem item_read {rows post : List Str} {z : Str} {m : Bool} {i : Nat} (hz : nameB z = true) (h : rows.drop i = (((Str.empty ++ Str.ofString "  ") ++ z) ++ (if m = true then Str.ofString "," else Str.ofString "")) :: post) : itemR rows i = .ok (z, m) := by
  unfold itemR
  rw [row_of h, Str.empty_append]
  cases m with
  | true =>
    simp only [if_true]
    rw [Str.append_assoc]
    simp only [pre_app, start_app, suf_app]
    rw [if_neg (by rw [hz]; decide), ← Str.append_assoc, end_app]
  | false =>
    simp only [Bool.false_eq_true, if_false]
    have ee : Str.ofString "  " ++ z ++ Str.ofString "" = Str.ofString "  " ++ z := Str.append_empty _
    have e1 : Txt.endswith z "," = false := end_no (c := 44) (by have := name_last hz [] (c := 44) (by decide); simpa using this)
    have e2 : Txt.endswith (Str.ofString "  " ++ z) "," = false := end_no (c := 44) (by rw [L_app]; exact name_last hz _ (by decide))
    rw [ee]
    simp only [pre_app, start_app]
    rw [suf_no e1, if_neg (by rw [hz]; decide), e2]
theorem items_read {rows post : List Str} {m : Bool} {t : Str} (ht : Txt.startswith t "  " = false) : ∀ (ps : List Str) (n i : Nat), ps ≠ [] → ps.length ≤ n → (∀ p ∈ ps, nameB p = true) →
    rows.drop i = (ps.dropLast.map itemS ++ [((Str.empty ++ Str.ofString "  ") ++ ps.getLastD Str.empty) ++ (if m = true then Str.ofString "," else Str.ofString "")]) ++ t :: post → itemsR rows n i = .ok (ps, m)
  | [], _, _, h, _, _, _ => absurd rfl h
  | p :: r, 0, _, _, h, _, _ => absurd h (by simp)
  | [p], n + 1, i, _, _, hp, h => by
    have h1 : rows.drop i = (((Str.empty ++ Str.ofString "  ") ++ p) ++ (if m = true then Str.ofString "," else Str.ofString "")) :: t :: post := h
    unfold itemsR
    rw [item_read (hp p List.mem_cons_self) h1]
    cases m with
    | false => rfl
    | true =>
      have h2 := next_of h1
      simp only
      rw [row_of h2]
      simp only
      rw [if_pos ht]
  | p :: q :: r, n + 1, i, _, hn, hp, h => by
    have h1 : rows.drop i = (((Str.empty ++ Str.ofString "  ") ++ p) ++ (if true = true then Str.ofString "," else Str.ofString "")) :: (((q :: r).dropLast.map itemS ++ [((Str.empty ++ Str.ofString "  ") ++ (q :: r).getLastD Str.empty) ++ (if m = true then Str.ofString "," else Str.ofString "")]) ++ t :: post) := h
    have h2 := next_of h1
    have ih := items_read ht (q :: r) n (i + 1) (by simp) (by simp at hn ⊢; omega) (fun z hz => hp z (List.mem_cons_of_mem _ hz)) h2
    unfold itemsR
    rw [item_read (m := true) (hp p List.mem_cons_self) h1]
    simp only
    have row : ∃ x rest, rows.drop (i + 1) = x :: rest ∧ Txt.startswith x "  " = true := by
      rw [h2]
      cases r with
      | nil =>
        refine ⟨_, _, rfl, ?_⟩
        show Txt.startswith (((Str.empty ++ Str.ofString "  ") ++ q) ++ _) "  " = true
        rw [Str.empty_append, Str.append_assoc]
        exact start_app _ _
      | cons a b =>
        refine ⟨itemS q, _, rfl, ?_⟩
        unfold itemS
        rw [Str.empty_append, Str.append_assoc]
        exact start_app _ _
    obtain ⟨x, rest, hx, sx⟩ := row
    rw [row_of hx]
    simp only
    rw [if_neg (by rw [sx]; decide), ih]
theorem nx_drop {rows a b : List Str} {i : Nat} (h : rows.drop i = a ++ b) : rows.drop (i + a.length) = b := by
  rw [← List.drop_drop, h, List.drop_left]
theorem rows_len {rows a b : List Str} {i : Nat} (h : rows.drop i = a ++ b) : a.length ≤ rows.length := by
  have := congrArg List.length h
  rw [List.length_drop, List.length_append] at this
  omega
theorem mine_len (ps : List Str) (ne : ps ≠ []) (x : Str) : (ps.dropLast.map itemS ++ [x]).length = ps.length := by
  rw [List.length_append, List.length_map, List.length_dropLast]
  have : 0 < ps.length := List.length_pos_iff.mpr ne
  show ps.length - 1 + 1 = _
  omega
theorem tail_start {b : Str} : Txt.startswith (if b.length = 0 then Str.ofString ")" else (Str.empty ++ Str.ofString ")  # ") ++ b) "  " = false := by
  refine start_no (c := 32) (by decide +kernel) ?_
  split
  · decide +kernel
  · rw [Str.empty_append, L_app, List.getElem?_append_left (by decide +kernel)]
    decide +kernel
theorem broken_read {rows post : List Str} {ps : List Str} {m : Bool} {b : Str} {i : Nat} (ne : ps ≠ []) (hp : ∀ p ∈ ps, nameB p = true) (hb : remarkB b = true)
    (h : rows.drop i = (ps.dropLast.map itemS ++ [((Str.empty ++ Str.ofString "  ") ++ ps.getLastD Str.empty) ++ (if m = true then Str.ofString "," else Str.ofString "")]) ++ (if b.length = 0 then Str.ofString ")" else (Str.empty ++ Str.ofString ")  # ") ++ b) :: post) : brokenR rows i = .ok (ps, m, b, i + ps.length + 1) := by
  unfold brokenR
  have ln := mine_len ps ne (((Str.empty ++ Str.ofString "  ") ++ ps.getLastD Str.empty) ++ (if m = true then Str.ofString "," else Str.ofString ""))
  have few : ps.length ≤ rows.length := by
    have := rows_len h
    rw [ln] at this
    exact this
  rw [items_read tail_start ps rows.length i ne few hp h]
  simp only
  have h2 := nx_drop h
  rw [ln] at h2
  rw [row_of h2]
  simp only
  have e : (if b.length = 0 then Str.ofString ")" else (Str.empty ++ Str.ofString ")  # ") ++ b) = (if b.length = 0 then Str.ofString ")" else Str.ofString ")" ++ Str.ofString "  # " ++ b) := by
    split
    · rfl
    · rw [Str.empty_append, show Str.ofString ")  # " = Str.ofString ")" ++ Str.ofString "  # " by decide +kernel]
  rw [e, remark_read (by decide +kernel) hb]
  simp only
  rw [if_pos trivial]
theorem blanks_read {rows post : List Str} {b i : Nat} {z : Str} (hb : b ≤ 2) (hz : z.length ≠ 0) (h : rows.drop i = List.replicate b (Str.ofString "") ++ z :: post) : blanksR rows i = .ok b := by
  unfold blanksR
  have e0 : ¬ (Str.ofString "").length ≠ 0 := by decide
  rcases (show b = 0 ∨ b = 1 ∨ b = 2 by omega) with rfl | rfl | rfl
  · have h1 : rows.drop i = z :: post := h
    rw [row_of h1]
    simp only
    rw [if_pos hz]
  · have h1 : rows.drop i = Str.ofString "" :: z :: post := h
    rw [row_of h1]
    simp only
    rw [if_neg e0, row_of (next_of h1)]
    simp only
    rw [if_pos hz]
  · have h1 : rows.drop i = Str.ofString "" :: Str.ofString "" :: z :: post := h
    rw [row_of h1]
    simp only
    rw [if_neg e0, row_of (next_of h1)]
    simp only
    rw [if_neg e0]
theorem first_no {l : Bool} {w y : Str} (hw : nameB w = true) : Txt.startswith (((if l = true then Str.ofString "!" else Str.ofString "") ++ w) ++ y) "# " = false := by
  refine start_no (c := 35) (by decide +kernel) ?_
  cases l with
  | true =>
    simp only [if_true]
    rw [Str.append_assoc, L_app, List.getElem?_append_left (by decide +kernel)]
    decide +kernel
  | false =>
    simp only [Bool.false_eq_true, if_false]
    have ee : Str.ofString "" ++ w = w := Str.empty_append w
    rw [ee, L_app]
    exact name_first hw _ (by decide)
theorem rem_name {b : Str} (hb : remarkB b = true) (h : b.length ≠ 0) : nameB b = true := by
  unfold remarkB at hb
  rcases Bool.or_eq_true_iff.mp hb with z | z
  · have e : b = ("" : Str) := L2.V.str.inj (of_decide_eq_true z)
    rw [e] at h
    exact absurd (by decide) h
  · exact z
theorem headS_is (d : PD) : headS d = ((if d.left = true then Str.ofString "!" else Str.ofString "") ++ d.word) ++ Str.ofString "(" := by
  unfold headS signS
  rw [Str.empty_append]
/-- a piece's rows, read -/
theorem piece_read {rows post : List Str} {d : PD} {i : Nat} (o : d.Ok) (h : rows.drop i = rowsS d ++ post) : pieceR rows i = .ok (d, i + (rowsS d).length) := by
  have ne : d.parts ≠ [] := fun z => by
    have := o.some
    rw [z] at this
    exact absurd this (by decide)
  have hb2 : d.blanks.toNat ≤ 2 := by have := o.b3; omega
  unfold rowsS at h
  rw [List.append_assoc] at h
  have hd0 : (headS d).length ≠ 0 := by
    unfold headS
    rw [Str.length_append]
    have : (Str.ofString "(").length = 1 := by decide
    omega
  -- the first row that is not blank
  have first : ∃ z rest, remarkS d ++ bodyS d ++ post = z :: rest ∧ z.length ≠ 0 := by
    unfold remarkS
    split
    · unfold bodyS
      split
      · exact ⟨_, _, rfl, hd0⟩
      · refine ⟨_, _, rfl, ?_⟩
        rw [Str.length_append, Str.length_append, Str.length_append]
        omega
    · refine ⟨_, _, rfl, ?_⟩
      rw [Str.length_append, Str.length_append]
      have : (Str.ofString "# ").length = 2 := by decide
      omega
  obtain ⟨z, rest, ez, hz⟩ := first
  have hbl : blanksR rows i = .ok d.blanks.toNat := blanks_read hb2 hz (by rw [h, ez])
  have h1 : rows.drop (i + d.blanks.toNat) = remarkS d ++ bodyS d ++ post := by
    have := nx_drop h
    rw [List.length_replicate] at this
    exact this
  -- the remark above
  have key : aheadR rows (i + d.blanks.toNat) = .ok d.ahead ∧ rows.drop (if d.ahead.length ≠ 0 then i + d.blanks.toNat + 1 else i + d.blanks.toNat) = bodyS d ++ post := by
    unfold remarkS at h1
    by_cases e : d.ahead.length = 0
    · rw [if_pos e] at h1
      rw [if_neg (by rw [e]; decide)]
      refine ⟨?_, h1⟩
      have hr : ∃ y rest, bodyS d ++ post = (headS d ++ y) :: rest := by
        unfold bodyS
        split
        · exact ⟨Str.ofString "", _, by rw [show headS d ++ Str.ofString "" = headS d from Str.append_empty _]; rfl⟩
        · exact ⟨_, _, by rw [Str.append_assoc, Str.append_assoc]; rfl⟩
      obtain ⟨y, rest, er⟩ := hr
      have h2 : rows.drop (i + d.blanks.toNat) = (headS d ++ y) :: rest := by rw [h1]; exact er
      unfold aheadR
      rw [row_of h2]
      simp only
      rw [if_neg (by
        rw [headS_is, Str.append_assoc, first_no o.word]
        decide), ← empty_of e]
    · rw [if_neg e] at h1
      rw [if_pos e]
      have h2 : rows.drop (i + d.blanks.toNat) = ((Str.empty ++ Str.ofString "# ") ++ d.ahead) :: (bodyS d ++ post) := h1
      refine ⟨?_, next_of h2⟩
      unfold aheadR
      rw [row_of h2, Str.empty_append]
      simp only
      rw [if_pos (start_app _ _), pre_app, if_pos (rem_name o.ahead e)]
  unfold pieceR
  rw [hbl]
  simp only
  rw [key.1]
  simp only
  generalize hj : (if d.ahead.length ≠ 0 then i + d.blanks.toNat + 1 else i + d.blanks.toNat) = j at key ⊢
  have hlen : i + (rowsS d).length = j + (bodyS d).length := by
    unfold rowsS remarkS
    rw [List.length_append, List.length_append, List.length_replicate, ← hj]
    split <;> rename_i q <;> simp [q] <;> omega
  have hk := key.2
  have bl : ((d.blanks.toNat : Nat) : Int) = d.blanks := Int.toNat_of_nonneg o.b0
  unfold bodyS at hk hlen
  by_cases hbr : d.broken = true
  · rw [if_pos hbr] at hk hlen
    have h3 : rows.drop j = (((if d.left = true then Str.ofString "!" else Str.ofString "") ++ d.word) ++ Str.ofString "(" ++ Str.ofString "") :: ((d.parts.dropLast.map itemS) ++ [lastS d (d.parts.getLastD Str.empty), tailS d] ++ post) := by
      rw [show ∀ x : Str, x ++ Str.ofString "" = x from Str.append_empty, ← headS_is]
      exact hk
    rw [head_read o.word h3]
    simp only
    rw [if_pos (by decide)]
    have h4 := next_of h3
    have h5 : rows.drop (j + 1) = (d.parts.dropLast.map itemS ++ [((Str.empty ++ Str.ofString "  ") ++ d.parts.getLastD Str.empty) ++ (if d.marked = true then Str.ofString "," else Str.ofString "")]) ++ (if d.behind.length = 0 then Str.ofString ")" else (Str.empty ++ Str.ofString ")  # ") ++ d.behind) :: post := by
      rw [h4]
      unfold lastS commaS tailS
      simp only [List.append_assoc, List.cons_append, List.nil_append]
    rw [broken_read ne o.parts o.behind h5]
    simp only
    rw [hlen, List.length_cons, List.length_append, List.length_map, List.length_dropLast, bl]
    have l0 := o.some
    refine congrArg Except.ok (Prod.ext ?_ ?_)
    · show _ = d
      rw [show true = d.broken from hbr.symm]
    · show j + 1 + d.parts.length + 1 = j + (d.parts.length - 1 + 2 + 1)
      omega
  · rw [if_neg hbr] at hk hlen
    have h3 : rows.drop j = (((if d.left = true then Str.ofString "!" else Str.ofString "") ++ d.word) ++ Str.ofString "(" ++ ((Txt.join ", " d.parts ++ commaS d) ++ tailS d)) :: post := by
      rw [← headS_is, ← Str.append_assoc, ← Str.append_assoc]
      exact hk
    rw [head_read o.word h3]
    simp only
    have pos : ¬ ((Txt.join ", " d.parts ++ commaS d) ++ tailS d).length = 0 := by
      have := (join_last (sep := ", ") (c := 44) (by decide) ne o.parts).1
      rw [L_len, ← joinT] at this
      rw [Str.length_append, Str.length_append]
      omega
    rw [if_neg pos]
    have e : flatR ((Txt.join ", " d.parts ++ commaS d) ++ tailS d) j = .ok (d.parts, d.marked, d.behind, j + 1) := flat_read ne o.parts o.behind
    rw [e]
    simp only
    rw [hlen, bl]
    refine congrArg Except.ok (Prod.ext ?_ ?_)
    · show _ = d
      rw [show false = d.broken by simpa using hbr]
    · rfl
theorem rowsS_pos (d : PD) : 0 < (rowsS d).length := by
  unfold rowsS bodyS
  rw [List.length_append, List.length_append]
  split
  · rw [List.length_cons]
    omega
  · show 0 < _ + (_ + 1)
    omega
theorem pieces_read {rows : List Str} : ∀ (ds : List PD) (n i : Nat), ds.length ≤ n → (∀ d ∈ ds, d.Ok) → rows.drop i = (ds.map rowsS).flatten → piecesR rows n i = .ok ds
  | [], n, i, _, _, h => by
    have e : ¬ i < rows.length := fun hl => by
      have := congrArg List.length h
      rw [List.length_drop] at this
      simp at this
      omega
    cases n <;> (unfold piecesR; rw [if_neg e])
  | d :: ds, 0, i, h, _, _ => absurd h (by simp)
  | d :: ds, n + 1, i, hn, ho, h => by
    rw [List.map_cons, List.flatten_cons] at h
    have lt : i < rows.length := by
      have := congrArg List.length h
      rw [List.length_drop, List.length_append] at this
      have := rowsS_pos d
      omega
    unfold piecesR
    rw [if_pos lt, piece_read (ho d List.mem_cons_self) h]
    simp only
    rw [pieces_read ds n _ (by simp at hn ⊢; omega) (fun e he => ho e (List.mem_cons_of_mem _ he)) (nx_drop h)]
end Lay
set_option Elab.async false
set_option linter.all false
set_option maxRecDepth 100000
set_option maxHeartbeats 4000000
set_option pp.maxSteps 900
namespace Lay
open PySem PySem.Spec PyProof.Rows L2
/-! the defs that read, where what they read is read -/
def RowsAt (K : PySem.W.Frag) (H : Hp) (l : Addr) (rows : List Str) : Prop := SqL K H l (rows.map V.str) ∧ ∀ r ∈ rows, r.length ≤ 1000000
theorem RowsAt.same {K : PySem.W.Frag} {H H' : Hp} {l : Addr} {rows : List Str} (s : Same H H') (h : RowsAt K H l rows) : RowsAt K H' l rows := ⟨s.seq h.1, h.2⟩
theorem rowR_ok {rows : List Str} {i : Nat} {r : Str} (h : rowR rows i = .ok r) : rows[i]? = some r := by
  unfold rowR at h
  split at h
  · cases h
    assumption
  · cases h
theorem atI_nat {xs : List V} {i : Nat} {v : V} (h : xs[i]? = some v) : atI xs (i : Int) = some v := by
  have hl := (List.getElem?_eq_some_iff.mp h).1
  unfold atI ixN
  rw [if_pos (by omega)]
  show (if (i : Int) < xs.length then some (Int.toNat i) else none).bind _ = _
  rw [if_pos (by omega)]
  exact h
theorem str_e0 {z : Str} : decide (V.str z = V.str "") = decide (z.length = 0) := by
  by_cases h : z.length = 0
  · rw [empty_of h]
    decide +kernel
  · rw [decide_eq_false h]
    refine decide_eq_false fun e => h ?_
    have e2 : z = ("" : Str) := V.str.inj e
    rw [e2]
    decide
theorem pre_len (x y : Str) : (Txt.removeprefix x y).length ≤ x.length := by
  rw [StrLaws.removeprefix_eq]
  split
  · rw [← TxL.L_len]
    show ((x.cps.toList.drop y.length).take (x.length - y.length)).toArray.toList.length ≤ _
    rw [List.toList_toArray, List.length_take]
    omega
  · exact Nat.le_refl _
theorem suf_len (x y : Str) : (Txt.removesuffix x y).length ≤ x.length := by
  rw [StrLaws.removesuffix_eq]
  split
  · rw [← TxL.L_len]
    show ((x.cps.toList.drop 0).take (x.length - y.length - 0)).toArray.toList.length ≤ _
    rw [List.toList_toArray, List.length_take]
    omega
  · exact Nat.le_refl _
theorem sub_len (x : Str) (i j : Nat) : (Builtin.Str.strSub x i j).length ≤ x.length := by
  rw [← TxL.L_len, TxL.L_sub, List.length_take, List.length_drop, TxL.L_len]
  omega
theorem part_len (x y : Str) : (Txt.partition x y).1.length ≤ x.length ∧ (Txt.partition x y).2.2.length ≤ x.length := by
  unfold Txt.partition
  split
  · exact ⟨sub_len _ _ _, sub_len _ _ _⟩
  · exact ⟨Nat.le_refl _, by show 0 ≤ _; exact Nat.zero_le _⟩
theorem RowsAt.len {K : PySem.W.Frag} {H : Hp} {l : Addr} {rows : List Str} {i : Nat} {r : Str} (h : RowsAt K H l rows) (g : rowR rows i = .ok r) : r.length ≤ 1000000 := h.2 r (List.mem_of_getElem? (rowR_ok g))
theorem blanks_facts {rows : List Str} {i b : Nat} (h : blanksR rows i = .ok b) : b ≤ 2 ∧ (∀ c, c < b → ∃ r, rowR rows (i + c) = .ok r ∧ r.length = 0) ∧ (b < 2 → ∃ r, rowR rows (i + b) = .ok r ∧ r.length ≠ 0) := by
  unfold blanksR at h
  split at h
  · cases h
  · rename_i r hr
    split at h
    · cases h
      rename_i q
      exact ⟨by decide, fun c hc => absurd hc (by omega), fun _ => ⟨r, hr, q⟩⟩
    · rename_i q
      have q0 : r.length = 0 := by omega
      split at h
      · cases h
      · rename_i r2 hr2
        split at h
        · cases h
          rename_i q2
          refine ⟨by decide, fun c hc => ?_, fun _ => ⟨r2, hr2, q2⟩⟩
          obtain rfl : c = 0 := by omega
          exact ⟨r, hr, q0⟩
        · cases h
          rename_i q2
          refine ⟨by decide, fun c hc => ?_, fun hc => absurd hc (by decide)⟩
          rcases (show c = 0 ∨ c = 1 by omega) with rfl | rfl
          · exact ⟨r, hr, q0⟩
          · exact ⟨r2, hr2, by omega⟩
theorem ahead_facts {rows : List Str} {i : Nat} {a : Str} (h : aheadR rows i = .ok a) : ∃ r, rowR rows i = .ok r ∧ ((Txt.startswith r "# " = true ∧ nameB (Txt.removeprefix r "# ") = true ∧ a = Txt.removeprefix r "# ") ∨ (Txt.startswith r "# " = false ∧ a = Str.ofString "")) := by
  unfold aheadR at h
  split at h
  · cases h
  · rename_i r hr
    refine ⟨r, hr, ?_⟩
    split at h
    · rename_i q
      split at h
      · rename_i n
        cases h
        exact .inl ⟨q, n, rfl⟩
      · cases h
    · rename_i q
      cases h
      exact .inr ⟨by simpa using q, rfl⟩
theorem head_facts {rows : List Str} {i : Nat} {w : Str} {b : Bool} {s : Str} (h : headR rows i = .ok (w, b, s)) : ∃ r, rowR rows i = .ok r ∧ (Txt.partition (Txt.removeprefix r "!") "(").2.1.length ≠ 0 ∧ nameB (Txt.partition (Txt.removeprefix r "!") "(").1 = true ∧ w = (Txt.partition (Txt.removeprefix r "!") "(").1 ∧ b = Txt.startswith r "!" ∧ s = (Txt.partition (Txt.removeprefix r "!") "(").2.2 := by
  unfold headR at h
  split at h
  · cases h
  · rename_i r hr
    simp only at h
    split at h
    · cases h
    · rename_i q
      cases h
      rw [not_or] at q
      exact ⟨r, hr, q.1, by simpa using q.2, rfl, rfl, rfl⟩
theorem remark_facts {t : Str} {i : Nat} {x y : Str} (h : remarkR t i = .ok (x, y)) : ((Txt.partition t "  # ").2.1.length = 0 ∨ nameB (Txt.partition t "  # ").2.2 = true) ∧ x = (Txt.partition t "  # ").1 ∧ y = (Txt.partition t "  # ").2.2 := by
  unfold remarkR at h
  simp only at h
  split at h
  · cases h
  · rename_i q
    cases h
    refine ⟨?_, rfl, rfl⟩
    by_cases e : (Txt.partition t "  # ").2.1.length = 0
    · exact .inl e
    · exact .inr (by
        cases n : nameB (Txt.partition t "  # ").2.2 with
        | true => rfl
        | false => exact absurd ⟨e, n⟩ q)
theorem item_facts {rows : List Str} {i : Nat} {z : Str} {c : Bool} (h : itemR rows i = .ok (z, c)) : ∃ r, rowR rows i = .ok r ∧ Txt.startswith r "  " = true ∧ nameB z = true ∧ z = Txt.removesuffix (Txt.removeprefix r "  ") "," ∧ c = Txt.endswith r "," := by
  unfold itemR at h
  split at h
  · cases h
  · rename_i r hr
    simp only at h
    split at h
    · cases h
    · rename_i q
      cases h
      rw [not_or] at q
      exact ⟨r, hr, by simpa using q.1, by simpa using q.2, rfl, rfl⟩
abbrev sRowAt : Stmt := top 23
abbrev sRBl : Stmt := top 24
abbrev sRAh : Stmt := top 25
abbrev sRHd : Stmt := top 26
abbrev sSpl : Stmt := top 27
abbrev sRFl : Stmt := top 28
abbrev sRIt : Stmt := top 29
abbrev sRBr : Stmt := top 30
abbrev sRPc : Stmt := top 31
abbrev sRPs : Stmt := top 32
def raP : List Str := ["rows", "at"]
def spRowAt (K : PySem.W.Frag) : Sp := fun vs H Q _ => ∃ (l : Addr) (rows : List Str) (i : Nat) (r : Str), vs = [.ref l, .int i] ∧ RowsAt K H l rows ∧ rowR rows i = .ok r ∧ Q (.str r) H
def spRBl (K : PySem.W.Frag) : Sp := fun vs H Q _ => ∃ (l : Addr) (rows : List Str) (i b : Nat), vs = [.ref l, .int i] ∧ RowsAt K H l rows ∧ blanksR rows i = .ok b ∧ Q (.int b) H
def spRAh (K : PySem.W.Frag) : Sp := fun vs H Q _ => ∃ (l : Addr) (rows : List Str) (i : Nat) (a : Str), vs = [.ref l, .int i] ∧ RowsAt K H l rows ∧ aheadR rows i = .ok a ∧ Q (.str a) H
def spRHd (K : PySem.W.Frag) : Sp := fun vs H Q _ => ∃ (l : Addr) (rows : List Str) (i : Nat) (w : Str) (b : Bool) (r : Str), vs = [.ref l, .int i] ∧ RowsAt K H l rows ∧ headR rows i = .ok (w, b, r) ∧ ∀ p H', Same H H' → H' p = some (.tup [.str w, .bl b, .str r]) → Q (.ref p) H'
def spSpl (K : PySem.W.Frag) : Sp := fun vs H Q _ => ∃ (t : Str) (i : Nat) (x y : Str), vs = [.str t, .int i] ∧ t.length ≤ 1000000 ∧ remarkR t i = .ok (x, y) ∧ ∀ p H', Same H H' → H' p = some (.tup [.str x, .str y]) → Q (.ref p) H'
def spRIt (K : PySem.W.Frag) : Sp := fun vs H Q _ => ∃ (l : Addr) (rows : List Str) (i : Nat) (z : Str) (c : Bool), vs = [.ref l, .int i] ∧ RowsAt K H l rows ∧ itemR rows i = .ok (z, c) ∧ ∀ p H', Same H H' → H' p = some (.tup [.str z, .bl c]) → Q (.ref p) H'
section
variable {P : Program} {w : World} {K : PySem.W.Frag} {mg : Str → Option Value} {base : Heap}
theorem scRowAt : FnScope ["rows", "at"] raP (defScope sRowAt) := ⟨rfl, rfl, rfl, by decide +kernel, rfl, by decide +kernel, by decide +kernel⟩
theorem has_rowAt (B : Bt mg) (D : Dfn K mg "row_at" sRowAt raP) : Has P w K mg base CX0 1 "row_at" raP (spRowAt K) := by
  refine D.has scRowAt (fun vs H Q E h => ?_) (fun f cdv A outer s H vs Q E hr h => ?_)
  · obtain ⟨l, rows, i, r, rfl, _⟩ := h
    rfl
  · obtain ⟨l, rows, i, r, rfl, hs, hrow, k⟩ := h
    refine ⟨_, (pss_cons (ps_if (pt_cmpR op_eq (pv 1) (pe_callB (call_lenK (K := K) rfl) (by rfl) B.len PySem.boot_len (pa_cons (pv 0) pa_nil)) (nomark _)) pss_never pss_nil)
      (pss_one (ps_ret (pe_ix ix_list (pv 0) (pv 1) (fun _ _ => rfl))))), ?_⟩
    have hg := rowR_ok hrow
    have hl := (List.getElem?_eq_some_iff.mp hg).1
    refine ⟨_, rfl, _, rfl, l, _, rfl, .inl hs.1, rfl, _, rfl, iteN (by
      rw [dec_int, List.length_map]
      simp
      omega) ?_⟩
    exact ⟨_, rfl, _, rfl, l, _, _, _, rfl, rfl, hs.1, atI_nat (by rw [List.getElem?_map, hg]; rfl), k⟩
theorem scRBl : FnScope ["rows", "at", "blanks"] raP (defScope sRBl) := ⟨rfl, rfl, rfl, by decide +kernel, rfl, by decide +kernel, by decide +kernel⟩
theorem has_RBl (DR : Has P w K mg base CX0 1 "row_at" raP (spRowAt K)) (D : Dfn K mg "read_blanks" sRBl raP) : Has P w K mg base CX0 2 "read_blanks" raP (spRBl K) := by
  refine D.has scRBl (fun vs H Q E h => ?_) (fun f cdv A outer s H vs Q E hr h => ?_)
  · obtain ⟨l, rows, i, b, rfl, _⟩ := h
    rfl
  · obtain ⟨l, rows, i, b, rfl, hs, hb, k⟩ := h
    refine ⟨_, (pss_cons (ps_set (i := 2) scRBl.nd rfl (.inl rfl) pe_int)
      (pss_cons (ps_while PassesOwn.never (PW.pt (pw_and (pt_cmpR op_lt (pv 2) pe_int (nomark _)) (pw_and1 (pt_cmpR op_eq (pe_callH DR hr (by rfl) pass0 (pa_cons (pv 0) (pa_cons (pe_op op_add (pv 1) (pv 2)) pa_nil))) pe_str (nomark _)))))
        (pss_one (ps_aug (i := 2) scRBl.nd rfl (.inl rfl) pe_int ip_add)))
      (pss_one (ps_ret (pv 2))))), ?_⟩
    obtain ⟨h2, he, hn⟩ := blanks_facts hb
    refine ⟨fun m σ' H' => ∃ c : Nat, m = 2 - c ∧ c ≤ b ∧ σ' = [some (.ref l), some (.int i), some (.int c)] ∧ H' = H, ⟨_, 0, rfl, Nat.zero_le _, rfl, rfl⟩, ?_⟩
    rintro m σ' H' ⟨c, rfl, hc, rfl, rfl⟩
    refine ⟨_, rfl, _, _, rfl, rfl, _, rfl, ?_⟩
    by_cases c2 : c < 2
    · refine iteY (decide_eq_true (by omega)) ?_
      have row : ∃ r, rowR rows (i + c) = .ok r ∧ (decide (r.length = 0) = decide (c < b)) := by
        by_cases q : c < b
        · obtain ⟨r, h1, h3⟩ := he c q
          exact ⟨r, h1, by rw [decide_eq_true h3, decide_eq_true q]⟩
        · obtain rfl : c = b := by omega
          obtain ⟨r, h1, h3⟩ := hn c2
          exact ⟨r, h1, by rw [decide_eq_false h3, decide_eq_false q]⟩
      obtain ⟨r, hr1, hr2⟩ := row
      refine ⟨_, rfl, _, rfl, _, rfl, _, _, rfl, rfl, l, rows, i + c, r, by rw [Int.natCast_add]; rfl, hs, hr1, rfl, _, rfl, ?_⟩
      rw [str_e0, hr2]
      by_cases q : c < b
      · refine iteY (decide_eq_true q) ⟨fun σ2 H2 => σ2 = [some (.ref l), some (.int i), some (.int ((c : Int) + 1))] ∧ H2 = H', fun σ2 H2 z => ⟨2 - (c + 1), by omega, c + 1, rfl, by omega, z.1, z.2⟩, _, rfl, _, _, rfl, rfl, rfl, rfl⟩
      · obtain rfl : c = b := by omega
        exact iteN (decide_eq_false q) ⟨_, rfl, k⟩
    · obtain rfl : c = b := by omega
      exact iteN (decide_eq_false (by omega)) (iteN rfl ⟨_, rfl, k⟩)
theorem scRAh : FnScope ["rows", "at", "row", "remark"] raP (defScope sRAh) := ⟨rfl, rfl, rfl, by decide +kernel, rfl, by decide +kernel, by decide +kernel⟩
theorem has_RAh (DR : Has P w K mg base CX0 1 "row_at" raP (spRowAt K)) (DN : Has P w K mg base CX0 1 "is_name" ["value"] (spName K)) (D : Dfn K mg "read_ahead" sRAh raP) : Has P w K mg base CX0 2 "read_ahead" raP (spRAh K) := by
  refine D.has scRAh (fun vs H Q E h => ?_) (fun f cdv A outer s H vs Q E hr h => ?_)
  · obtain ⟨l, rows, i, b, rfl, _⟩ := h
    rfl
  · obtain ⟨l, rows, i, b, rfl, hs, hb, k⟩ := h
    refine ⟨_, (pss_cons (ps_set (i := 2) scRAh.nd rfl (.inl rfl) (pe_callH DR hr (by rfl) pass0 (pa_cons (pv 0) (pa_cons (pv 1) pa_nil))))
    (pss_cons (ps_if (pt_not (pt_val (pe_bm PySem.F.plainAttrs_str PySem.F.slot_str_startswith PySem.F.type_str_startswith mt_startswith (pv 2) (pa_cons pe_str pa_nil))))
      (pss_one (ps_ret pe_str))
      pss_nil)
    (pss_cons (ps_set (i := 3) scRAh.nd rfl (.inl rfl) (pe_bm PySem.F.plainAttrs_str PySem.F.slot_str_removeprefix PySem.F.type_str_removeprefix mt_removeprefix (pv 2) (pa_cons pe_str pa_nil)))
    (pss_cons (ps_if (pt_not (pt_val (pe_callH DN hr (by rfl) pass0 (pa_cons (pv 3) pa_nil)))) pss_never pss_nil)
    (pss_one (ps_ret (pv 3))))))), ?_⟩
    obtain ⟨r, hr0, hc⟩ := ahead_facts hb
    have rl := hs.len hr0
    refine ⟨_, rfl, _, rfl, l, rows, i, r, rfl, hs, hr0, _, rfl, rfl, _, _, rfl, rfl, _, rfl, ?_⟩
    rcases hc with ⟨h1, h2, rfl⟩ | ⟨h1, rfl⟩
    · refine iteN (by rw [h1]; rfl) ⟨_, rfl, rfl, _, _, rfl, rfl, fitsN rl, _, rfl, _, _, rfl, .inl ⟨_, rfl, six_line (nameB_len h2), rfl⟩, _, rfl, iteN (by rw [h2]; rfl) ⟨_, rfl, k⟩⟩
    · exact iteY (by rw [h1]; rfl) k
theorem scRHd : FnScope ["rows", "at", "row", "word", "paren", "rest"] raP (defScope sRHd) := ⟨rfl, rfl, rfl, by decide +kernel, rfl, by decide +kernel, by decide +kernel⟩
theorem has_RHd (DR : Has P w K mg base CX0 1 "row_at" raP (spRowAt K)) (DN : Has P w K mg base CX0 1 "is_name" ["value"] (spName K)) (D : Dfn K mg "read_head" sRHd raP) : Has P w K mg base CX0 2 "read_head" raP (spRHd K) := by
  refine D.has scRHd (fun vs H Q E h => ?_) (fun f cdv A outer s H vs Q E hr h => ?_)
  · obtain ⟨l, rows, i, w, b, r, rfl, _⟩ := h
    rfl
  · obtain ⟨l, rows, i, w, b, r, rfl, hs, hb, k⟩ := h
    refine ⟨_, (pss_cons (ps_set (i := 2) scRHd.nd rfl (.inl rfl) (pe_callH DR hr (by rfl) pass0 (pa_cons (pv 0) (pa_cons (pv 1) pa_nil))))
    (pss_cons (ps_asg (pe_bm PySem.F.plainAttrs_str PySem.F.slot_str_partition PySem.F.type_str_partition mt_partition (pe_bm PySem.F.plainAttrs_str PySem.F.slot_str_removeprefix PySem.F.type_str_removeprefix mt_removeprefix (pv 2) (pa_cons pe_str pa_nil)) (pa_cons pe_str pa_nil)) (pg_tup rfl (pgs_cons (pg_name (i := 3) scRHd.nd rfl (.inl rfl)) (pgs_cons (pg_name (i := 4) scRHd.nd rfl (.inl rfl)) (pgs_cons (pg_name (i := 5) scRHd.nd rfl (.inl rfl)) pgs_nil)))))
    (pss_cons (ps_if (PW.pt (pw_or (pt_cmpR op_eq (pv 4) pe_str (nomark _)) (pw_or1 (pt_not (pt_val (pe_callH DN hr (by rfl) pass0 (pa_cons (pv 3) pa_nil))))))) pss_never pss_nil)
    (pss_one (ps_ret (pe_tup (pa_cons (pv 3) (pa_cons (pe_bm PySem.F.plainAttrs_str PySem.F.slot_str_startswith PySem.F.type_str_startswith mt_startswith (pv 2) (pa_cons pe_str pa_nil)) (pa_cons (pv 5) pa_nil))))))))), ?_⟩
    obtain ⟨r0, hr0, h1, h2, rfl, rfl, rfl⟩ := head_facts hb
    have rl := hs.len hr0
    have pl := pre_len r0 "!"
    refine ⟨_, rfl, _, rfl, l, rows, i, r0, rfl, hs, hr0, _, rfl, rfl, _, _, rfl, rfl, fitsN rl, rfl, _, _, rfl, rfl, by decide, fitsN (by omega), fun p np => ?_⟩
    have s1 := Same.new np (o := .tup [.str (Txt.partition (Txt.removeprefix r0 "!") "(").1, .str (Txt.partition (Txt.removeprefix r0 "!") "(").2.1, .str (Txt.partition (Txt.removeprefix r0 "!") "(").2.2])
    refine ⟨p, _, rfl, SqT.of upd_same, rfl, _, _, rfl, _, _, rfl, _, _, rfl, rfl, ?_⟩
    refine ⟨_, rfl, rfl, _, rfl, iteN (by rw [str_e0]; exact decide_eq_false h1) ?_⟩
    refine ⟨_, rfl, _, _, rfl, .inl ⟨_, rfl, six_line (nameB_len h2), rfl⟩, _, rfl, iteN (by rw [h2]; rfl) ?_⟩
    refine ⟨_, rfl, _, rfl, rfl, _, _, rfl, rfl, _, rfl, (by show 3 ≤ sizeLine; decide), fun q nq => ?_⟩
    exact k q _ (s1.trans (Same.new nq)) upd_same
def spP : List Str := ["text", "at"]
theorem scSpl : FnScope ["text", "at", "body", "sign", "remark"] spP (defScope sSpl) := ⟨rfl, rfl, rfl, by decide +kernel, rfl, by decide +kernel, by decide +kernel⟩
theorem has_Spl (DN : Has P w K mg base CX0 1 "is_name" ["value"] (spName K)) (D : Dfn K mg "split_remark" sSpl spP) : Has P w K mg base CX0 2 "split_remark" spP (spSpl K) := by
  refine D.has scSpl (fun vs H Q E h => ?_) (fun f cdv A outer s H vs Q E hr h => ?_)
  · obtain ⟨t, i, x, y, rfl, _⟩ := h
    rfl
  · obtain ⟨t, i, x, y, rfl, tl, hb, k⟩ := h
    refine ⟨_, (pss_cons (ps_asg (pe_bm PySem.F.plainAttrs_str PySem.F.slot_str_partition PySem.F.type_str_partition mt_partition (pv 0) (pa_cons pe_str pa_nil)) (pg_tup rfl (pgs_cons (pg_name (i := 2) scSpl.nd rfl (.inl rfl)) (pgs_cons (pg_name (i := 3) scSpl.nd rfl (.inl rfl)) (pgs_cons (pg_name (i := 4) scSpl.nd rfl (.inl rfl)) pgs_nil)))))
    (pss_cons (ps_if (PW.pt (pw_and (pt_cmpR op_ne (pv 3) pe_str (nomark _)) (pw_and1 (pt_not (pt_val (pe_callH DN hr (by rfl) pass0 (pa_cons (pv 4) pa_nil))))))) pss_never pss_nil)
    (pss_one (ps_ret (pe_tup (pa_cons (pv 2) (pa_cons (pv 4) pa_nil))))))), ?_⟩
    obtain ⟨hc, rfl, rfl⟩ := remark_facts hb
    have pl := part_len t "  # "
    refine ⟨_, rfl, rfl, _, _, rfl, rfl, by decide, fitsN tl, fun p np => ?_⟩
    have s1 := Same.new np (o := .tup [.str (Txt.partition t "  # ").1, .str (Txt.partition t "  # ").2.1, .str (Txt.partition t "  # ").2.2])
    refine ⟨p, _, rfl, SqT.of upd_same, rfl, _, _, rfl, _, _, rfl, _, _, rfl, rfl, ?_⟩
    have last : ∀ H2, Same (upd H p (.tup [.str (Txt.partition t "  # ").1, .str (Txt.partition t "  # ").2.1, .str (Txt.partition t "  # ").2.2])) H2 → ∀ q, H2 q = none → Q (.ref q) (upd H2 q (.tup [.str (Txt.partition t "  # ").1, .str (Txt.partition t "  # ").2.2])) := fun H2 s2 q nq => k q _ ((s1.trans s2).trans (Same.new nq)) upd_same
    refine ⟨_, rfl, rfl, _, rfl, ?_⟩
    rw [str_e0]
    by_cases e : (Txt.partition t "  # ").2.1.length = 0
    · exact iteN (by rw [decide_eq_true e]; rfl) (iteN rfl ⟨_, rfl, _, rfl, (by show 2 ≤ sizeLine; decide), fun q nq => last _ Same.rfl q nq⟩)
    · have hn : nameB (Txt.partition t "  # ").2.2 = true := hc.resolve_left e
      refine iteY (by rw [decide_eq_false e]; rfl) ⟨_, rfl, _, _, rfl, .inl ⟨_, rfl, fitsN (by omega), rfl⟩, _, rfl, iteN (by rw [hn]; rfl) ⟨_, rfl, _, rfl, (by show 2 ≤ sizeLine; decide), fun q nq => last _ Same.rfl q nq⟩⟩
theorem scRIt : FnScope ["rows", "at", "row", "part"] raP (defScope sRIt) := ⟨rfl, rfl, rfl, by decide +kernel, rfl, by decide +kernel, by decide +kernel⟩
theorem has_RIt (DR : Has P w K mg base CX0 1 "row_at" raP (spRowAt K)) (DN : Has P w K mg base CX0 1 "is_name" ["value"] (spName K)) (D : Dfn K mg "read_item" sRIt raP) : Has P w K mg base CX0 2 "read_item" raP (spRIt K) := by
  refine D.has scRIt (fun vs H Q E h => ?_) (fun f cdv A outer s H vs Q E hr h => ?_)
  · obtain ⟨l, rows, i, z, c, rfl, _⟩ := h
    rfl
  · obtain ⟨l, rows, i, z, c, rfl, hs, hb, k⟩ := h
    refine ⟨_, (pss_cons (ps_set (i := 2) scRIt.nd rfl (.inl rfl) (pe_callH DR hr (by rfl) pass0 (pa_cons (pv 0) (pa_cons (pv 1) pa_nil))))
    (pss_cons (ps_set (i := 3) scRIt.nd rfl (.inl rfl) (pe_bm PySem.F.plainAttrs_str PySem.F.slot_str_removesuffix PySem.F.type_str_removesuffix mt_removesuffix (pe_bm PySem.F.plainAttrs_str PySem.F.slot_str_removeprefix PySem.F.type_str_removeprefix mt_removeprefix (pv 2) (pa_cons pe_str pa_nil)) (pa_cons pe_str pa_nil)))
    (pss_cons (ps_if (PW.pt (pw_or (pt_not (pt_val (pe_bm PySem.F.plainAttrs_str PySem.F.slot_str_startswith PySem.F.type_str_startswith mt_startswith (pv 2) (pa_cons pe_str pa_nil)))) (pw_or1 (pt_not (pt_val (pe_callH DN hr (by rfl) pass0 (pa_cons (pv 3) pa_nil))))))) pss_never pss_nil)
    (pss_one (ps_ret (pe_tup (pa_cons (pv 3) (pa_cons (pe_bm PySem.F.plainAttrs_str PySem.F.slot_str_endswith PySem.F.type_str_endswith mt_endswith (pv 2) (pa_cons pe_str pa_nil)) pa_nil)))))))), ?_⟩
    obtain ⟨r0, hr0, h1, h2, rfl, rfl⟩ := item_facts hb
    have rl := hs.len hr0
    have pl := pre_len r0 "  "
    refine ⟨_, rfl, _, rfl, l, rows, i, r0, rfl, hs, hr0, _, rfl, rfl, _, _, rfl, rfl, fitsN rl, rfl, _, _, rfl, rfl, fitsN (by omega), ?_⟩
    refine ⟨_, rfl, rfl, _, _, rfl, rfl, _, rfl, iteN (by rw [h1]; rfl) ?_⟩
    refine ⟨_, rfl, _, _, rfl, .inl ⟨_, rfl, six_line (nameB_len h2), rfl⟩, _, rfl, iteN (by rw [h2]; rfl) ?_⟩
    exact ⟨_, rfl, _, rfl, rfl, _, _, rfl, rfl, (by show 2 ≤ sizeLine; decide), fun q nq => k q _ (Same.new nq) upd_same⟩
end
end Lay
set_option Elab.async false
set_option linter.all false
set_option maxRecDepth 100000
set_option maxHeartbeats 4000000
set_option pp.maxSteps 900
namespace Lay
open PySem PySem.Spec PyProof.Rows L2
theorem flat_facts {t : Str} {i : Nat} {ps : List Str} {m : Bool} {b : Str} {e : Nat} (h : flatR t i = .ok (ps, m, b, e)) : ∃ body, remarkR t i = .ok (body, b) ∧ Txt.endswith body ")" = true ∧ ps = Txt.split (Txt.removesuffix (Txt.removesuffix body ")") ",") ", " ∧ ps.all nameB = true ∧ m = Txt.endswith (Txt.removesuffix body ")") "," ∧ e = i + 1 := by
  unfold flatR at h
  split at h
  · cases h
  · rename_i body behind hr
    simp only at h
    split at h
    · cases h
    · rename_i q
      cases h
      rw [not_or] at q
      exact ⟨body, hr, by simpa using q.1, rfl, by simpa using q.2, rfl, rfl⟩
theorem take_one {α : Type} {xs : List α} {z : α} (h : xs[0]? = some z) : xs.take 1 = [z] := by
  cases xs with
  | nil => cases h
  | cons a r =>
    cases h
    rfl
theorem take_snoc {α : Type} {xs : List α} {k : Nat} {z : α} (h : xs[k]? = some z) : xs.take (k + 1) = xs.take k ++ [z] := by
  rw [List.take_add_one, h]
  rfl
theorem nmbs {K : PySem.W.Frag} {H : Hp} {ps : List Str} (h : ps.all nameB = true) : NmBs K H (ps.map V.str) (ps.map nameB) := by
  refine ⟨by rw [List.length_map, List.length_map], fun i x b h1 h2 => ?_⟩
  rw [List.getElem?_map] at h1 h2
  cases e : ps[i]? with
  | none =>
    rw [e] at h1
    cases h1
  | some z =>
    rw [e] at h1 h2
    cases h1
    cases h2
    exact .inl ⟨z, rfl, six_line (nameB_len (List.all_eq_true.mp h z (List.mem_of_getElem? e))), rfl⟩
theorem all_id {ps : List Str} (h : ps.all nameB = true) : (ps.map nameB).all id = true := by
  rw [List.all_map]
  exact h
def spRFl (K : PySem.W.Frag) : Sp := fun vs H Q _ => ∃ (t : Str) (i : Nat) (ps : List Str) (m : Bool) (b : Str) (e : Nat), vs = [.str t, .int i] ∧ t.length ≤ 1000000 ∧ flatR t i = .ok (ps, m, b, e) ∧ 0 < ps.length ∧ ps.length ≤ 1000 ∧ ∀ p lp H', Same H H' → H' p = some (.tup [.ref lp, .bl m, .str b, .int e]) → H' lp = some (.lst (ps.map V.str)) → Q (.ref p) H'
def spRBr (K : PySem.W.Frag) : Sp := fun vs H Q _ => ∃ (l : Addr) (rows : List Str) (i : Nat) (ps : List Str) (m : Bool) (b : Str) (e : Nat), vs = [.ref l, .int i] ∧ RowsAt K H l rows ∧ brokenR rows i = .ok (ps, m, b, e) ∧ ps.length ≤ 1000 ∧ ∀ p lp H', Same H H' → H' p = some (.tup [.ref lp, .bl m, .str b, .int e]) → H' lp = some (.lst (ps.map V.str)) → Q (.ref p) H'
theorem items_facts {rows : List Str} : ∀ (n i : Nat) (ps : List Str) (c : Bool), itemsR rows n i = .ok (ps, c) → 0 < ps.length ∧ (∀ k z, ps[k]? = some z → itemR rows (i + k) = .ok (z, if k + 1 < ps.length then true else c)) ∧
    (∀ k, k + 1 < ps.length → ∃ r, rowR rows (i + (k + 1)) = .ok r ∧ Txt.startswith r "  " = true) ∧ (c = true → ∃ r, rowR rows (i + ps.length) = .ok r ∧ Txt.startswith r "  " = false)
  | 0, i, ps, c, h => by
    unfold itemsR at h
    cases h
  | n + 1, i, ps, c, h => by
    unfold itemsR at h
    split at h
    · cases h
    · rename_i p hp
      cases h
      refine ⟨Nat.one_pos, fun k z hz => ?_, fun k hk => absurd hk (by simp), fun z => nomatch z⟩
      cases k with
      | zero =>
        cases hz
        exact hp
      | succ k => simp at hz
    · rename_i p hp
      split at h
      · cases h
      · rename_i r hr
        split at h
        · rename_i q
          cases h
          refine ⟨Nat.one_pos, fun k z hz => ?_, fun k hk => absurd hk (by simp), fun _ => ⟨r, hr, q⟩⟩
          cases k with
          | zero =>
            cases hz
            exact hp
          | succ k => simp at hz
        · rename_i q
          split at h
          · cases h
          · rename_i qs c2 hq
            cases h
            obtain ⟨h1, h2, h3, h4⟩ := items_facts n (i + 1) qs c hq
            refine ⟨Nat.succ_pos _, fun k z hz => ?_, fun k hk => ?_, fun e => ?_⟩
            · cases k with
              | zero =>
                cases hz
                rw [if_pos (by rw [List.length_cons]; omega)]
                exact hp
              | succ k =>
                have := h2 k z hz
                rw [show i + (k + 1) = i + 1 + k by omega, this]
                simp only [List.length_cons, Nat.add_lt_add_iff_right]
            · cases k with
              | zero => exact ⟨r, hr, by simpa using q⟩
              | succ k =>
                obtain ⟨r2, g1, g2⟩ := h3 k (by rw [List.length_cons] at hk; omega)
                exact ⟨r2, by rw [show i + (k + 1 + 1) = i + 1 + (k + 1) by omega]; exact g1, g2⟩
            · obtain ⟨r2, g1, g2⟩ := h4 e
              exact ⟨r2, by rw [List.length_cons, show i + (qs.length + 1) = i + 1 + qs.length by omega]; exact g1, g2⟩
theorem broken_facts {rows : List Str} {i : Nat} {ps : List Str} {m : Bool} {b : Str} {e : Nat} (h : brokenR rows i = .ok (ps, m, b, e)) : itemsR rows rows.length i = .ok (ps, m) ∧ e = i + ps.length + 1 ∧ ∃ r, rowR rows (i + ps.length) = .ok r ∧ remarkR r (i + ps.length) = .ok (Str.ofString ")", b) := by
  unfold brokenR at h
  split at h
  · cases h
  · rename_i qs c hq
    split at h
    · cases h
    · rename_i r hr
      split at h
      · cases h
      · rename_i body behind hb
        split at h
        · rename_i q
          cases h
          subst q
          exact ⟨hq, rfl, r, hr, hb⟩
        · cases h
section
variable {P : Program} {w : World} {K : PySem.W.Frag} {mg : Str → Option Value} {base : Heap}
def flP : List Str := ["rest", "at"]
theorem scRFl : FnScope ["rest", "at", "body", "behind", "inside", "parts"] flP (defScope sRFl) := ⟨rfl, rfl, rfl, by decide +kernel, rfl, by decide +kernel, by decide +kernel⟩
theorem has_RFl (DS : Has P w K mg base CX0 2 "split_remark" spP (spSpl K)) (DA : Has P w K mg base CX0 2 "are_names" ["value"] (spNames K)) (D : Dfn K mg "read_flat" sRFl flP) : Has P w K mg base CX0 3 "read_flat" flP (spRFl K) := by
  refine D.has scRFl (fun vs H Q E h => ?_) (fun f cdv A outer s H vs Q E hr h => ?_)
  · obtain ⟨t, i, ps, m, b, e, rfl, _⟩ := h
    rfl
  · obtain ⟨t, i, ps, m, b, e, rfl, tl, hb, p0, p1, k⟩ := h
    refine ⟨_, (pss_cons (ps_asg (pe_callH DS hr (by rfl) pass0 (pa_cons (pv 0) (pa_cons (pv 1) pa_nil))) (pg_tup rfl (pgs_cons (pg_name (i := 2) scRFl.nd rfl (.inl rfl)) (pgs_cons (pg_name (i := 3) scRFl.nd rfl (.inl rfl)) pgs_nil))))
    (pss_cons (ps_set (i := 4) scRFl.nd rfl (.inl rfl) (pe_bm PySem.F.plainAttrs_str PySem.F.slot_str_removesuffix PySem.F.type_str_removesuffix mt_removesuffix (pv 2) (pa_cons pe_str pa_nil)))
    (pss_cons (ps_set (i := 5) scRFl.nd rfl (.inl rfl) (pe_bm PySem.F.plainAttrs_str PySem.F.slot_str_split PySem.F.type_str_split mt_split (pe_bm PySem.F.plainAttrs_str PySem.F.slot_str_removesuffix PySem.F.type_str_removesuffix mt_removesuffix (pv 4) (pa_cons pe_str pa_nil)) (pa_cons pe_str pa_nil)))
    (pss_cons (ps_if (PW.pt (pw_or (pt_not (pt_val (pe_bm PySem.F.plainAttrs_str PySem.F.slot_str_endswith PySem.F.type_str_endswith mt_endswith (pv 2) (pa_cons pe_str pa_nil)))) (pw_or1 (pt_not (pt_val (pe_callH DA hr (by rfl) pass0 (pa_cons (pv 5) pa_nil))))))) pss_never pss_nil)
    (pss_one (ps_ret (pe_tup (pa_cons (pv 5) (pa_cons (pe_bm PySem.F.plainAttrs_str PySem.F.slot_str_endswith PySem.F.type_str_endswith mt_endswith (pv 4) (pa_cons pe_str pa_nil)) (pa_cons (pv 3) (pa_cons (pe_op op_add (pv 1) pe_int) pa_nil))))))))))), ?_⟩
    obtain ⟨body, hrm, h1, hps, h2, rfl, rfl⟩ := flat_facts hb
    have bl : body.length ≤ 1000000 := by
      obtain ⟨_, e1, _⟩ := remark_facts hrm
      have := (part_len t "  # ").1
      rw [e1]
      omega
    have sl := suf_len body ")"
    have sl2 := suf_len (Txt.removesuffix body ")") ","
    refine ⟨_, rfl, _, rfl, t, i, body, b, rfl, tl, hrm, fun p H1 s1 hp => ⟨p, _, rfl, SqT.of hp, rfl, _, _, rfl, _, _, rfl, rfl, ?_⟩⟩
    refine ⟨_, rfl, rfl, _, _, rfl, rfl, fitsN bl, ?_⟩
    refine ⟨_, rfl, rfl, _, _, rfl, rfl, fitsN (by omega), rfl, _, _, rfl, rfl, by decide, by rw [sizeLine_eq]; omega, fun lp nlp => ?_⟩
    rw [← hps]
    have s2 := Same.new nlp (o := .lst (ps.map V.str))
    refine ⟨_, rfl, rfl, _, _, rfl, rfl, _, rfl, iteN (by rw [h1]; rfl) ?_⟩
    refine ⟨_, rfl, _, rfl, .inr ⟨lp, _, _, rfl, .inl upd_same, by rw [List.length_map]; exact p1, nmbs h2, fun H2 s3 => ⟨_, rfl, iteN ?_ ?_⟩⟩⟩
    · rw [all_id h2, List.length_map, decide_eq_true p0]
      rfl
    refine ⟨_, rfl, _, rfl, rfl, _, _, rfl, rfl, _, rfl, _, rfl, _, _, rfl, rfl, (by show 4 ≤ sizeLine; decide), fun q nq => ?_⟩
    have s4 := Same.new nq (o := .tup [.ref lp, .bl (Txt.endswith (Txt.removesuffix body ")") ","), .str b, .int ((i : Int) + 1)])
    exact k q lp _ (s1.trans (s2.trans (s3.trans s4))) (by rw [upd_same]; rfl) ((s3.trans s4) _ _ upd_same)
def brN : List Str := ["rows", "at", "part", "comma", "parts", "end", "body", "behind"]
theorem scRBr : FnScope brN raP (defScope sRBr) := ⟨rfl, rfl, rfl, by decide +kernel, rfl, by decide +kernel, by decide +kernel⟩
theorem has_RBr (B : Bt mg) (DR : Has P w K mg base CX0 1 "row_at" raP (spRowAt K)) (DI : Has P w K mg base CX0 2 "read_item" raP (spRIt K)) (DS : Has P w K mg base CX0 2 "split_remark" spP (spSpl K)) (D : Dfn K mg "read_broken" sRBr raP) : Has P w K mg base CX0 3 "read_broken" raP (spRBr K) := by
  refine D.has scRBr (fun vs H Q E h => ?_) (fun f cdv A outer s H vs Q E hr h => ?_)
  · obtain ⟨l, rows, i, ps, m, b, e, rfl, _⟩ := h
    rfl
  · obtain ⟨l, rows, i, ps, m, b, e, rfl, hs, hb, p1, k⟩ := h
    have hr1 := hr.mono (show 1 ≤ 2 by decide)
    refine ⟨_, (pss_cons (ps_asg (pe_callH DI hr (by rfl) pass0 (pa_cons (pv 0) (pa_cons (pv 1) pa_nil))) (pg_tup rfl (pgs_cons (pg_name (i := 2) scRBr.nd rfl (.inl rfl)) (pgs_cons (pg_name (i := 3) scRBr.nd rfl (.inl rfl)) pgs_nil))))
    (pss_cons (ps_set (i := 4) scRBr.nd rfl (.inl rfl) (pe_lst (pa_cons (pv 2) pa_nil)))
    (pss_cons (ps_while PassesOwn.never (PW.pt (pw_and (pt_val (pv 3)) (pw_and1 (pt_val (pe_bm PySem.F.plainAttrs_str PySem.F.slot_str_startswith PySem.F.type_str_startswith mt_startswith (pe_callH DR hr1 (by rfl) pass0 (pa_cons (pv 0) (pa_cons (pe_op op_add (pv 1) (pe_callB (call_lenK (K := K) rfl) (by rfl) B.len PySem.boot_len (pa_cons (pv 4) pa_nil))) pa_nil))) (pa_cons pe_str pa_nil))))))
      (pss_cons (ps_asg (pe_callH DI hr (by rfl) pass0 (pa_cons (pv 0) (pa_cons (pe_op op_add (pv 1) (pe_callB (call_lenK (K := K) rfl) (by rfl) B.len PySem.boot_len (pa_cons (pv 4) pa_nil))) pa_nil))) (pg_tup rfl (pgs_cons (pg_name (i := 2) scRBr.nd rfl (.inl rfl)) (pgs_cons (pg_name (i := 3) scRBr.nd rfl (.inl rfl)) pgs_nil))))
      (pss_one (ps_expr (pe_bm PySem.F.plainAttrs_list PySem.F.slot_list_append PySem.F.type_list_append mt_append (pv 4) (pa_cons (pv 2) pa_nil))))))
    (pss_cons (ps_set (i := 5) scRBr.nd rfl (.inl rfl) (pe_op op_add (pv 1) (pe_callB (call_lenK (K := K) rfl) (by rfl) B.len PySem.boot_len (pa_cons (pv 4) pa_nil))))
    (pss_cons (ps_asg (pe_callH DS hr (by rfl) pass0 (pa_cons (pe_callH DR hr1 (by rfl) pass0 (pa_cons (pv 0) (pa_cons (pv 5) pa_nil))) (pa_cons (pv 5) pa_nil))) (pg_tup rfl (pgs_cons (pg_name (i := 6) scRBr.nd rfl (.inl rfl)) (pgs_cons (pg_name (i := 7) scRBr.nd rfl (.inl rfl)) pgs_nil))))
    (pss_cons (ps_if (pt_cmpR op_ne (pv 6) pe_str (nomark _)) pss_never pss_nil)
    (pss_one (ps_ret (pe_tup (pa_cons (pv 4) (pa_cons (pv 3) (pa_cons (pv 7) (pa_cons (pe_op op_add (pv 5) pe_int) pa_nil))))))))))))), ?_⟩
    obtain ⟨hit, rfl, r, hrow, hrm⟩ := broken_facts hb
    obtain ⟨n0, hi, hg, hend⟩ := items_facts _ _ _ _ hit
    obtain ⟨z0, hz0⟩ : ∃ z, ps[0]? = some z := ⟨_, List.getElem?_eq_getElem n0⟩
    have h0 := hi 0 z0 hz0
    refine ⟨_, rfl, _, rfl, l, rows, i, z0, _, rfl, hs, h0, fun p H1 s1 hp => ⟨p, _, rfl, SqT.of hp, rfl, _, _, rfl, _, _, rfl, rfl, ?_⟩⟩
    refine ⟨_, rfl, (by show 1 ≤ sizeLine; decide), fun lp nlp => ?_⟩
    have s2 := s1.trans (Same.new nlp (o := .lst [.str z0]))
    have nH : H lp = none := s1.free nlp
    refine ⟨fun mm σ' H' => ∃ (k : Nat) (x : V), 0 < k ∧ k ≤ ps.length ∧ mm = ps.length - k ∧ σ' = [some (.ref l), some (.int i), some x, some (.bl (if k < ps.length then true else m)), some (.ref lp), none, none, none] ∧ Same H H' ∧ H' lp = some (.lst ((ps.take k).map V.str)), ⟨_, 1, _, Nat.one_pos, n0, rfl, rfl, s2, ?_⟩, ?_⟩
    · rw [upd_same, take_one hz0]
      rfl
    · rintro mm σ' H' ⟨kk, x, k0, kl, rfl, rfl, s3, hlp⟩
      have hs' := hs.same s3
      have ei : (i : Int) + ((List.map V.str (List.take kk ps)).length : Int) = ((i + kk : Nat) : Int) := by rw [List.length_map, List.length_take, Nat.min_eq_left kl, Int.natCast_add]
      refine ⟨_, rfl, _, rfl, ?_⟩
      by_cases q : kk < ps.length
      · obtain ⟨r2, hr2, st2⟩ : ∃ r, rowR rows (i + kk) = .ok r ∧ Txt.startswith r "  " = true := by
          have := hg (kk - 1) (by omega)
          rw [show kk - 1 + 1 = kk by omega] at this
          exact this
        obtain ⟨z, hz⟩ : ∃ z, ps[kk]? = some z := ⟨_, List.getElem?_eq_getElem q⟩
        refine iteY (by rw [if_pos q]) ?_
        refine ⟨_, rfl, _, rfl, _, rfl, lp, _, rfl, .inl (SqL.of hlp), _, _, rfl, rfl, l, rows, i + kk, r2, by rw [← ei]; rfl, hs', hr2, rfl, _, _, rfl, rfl, _, rfl, iteY st2 ?_⟩
        refine ⟨fun σ2 H2 => ∃ x : V, σ2 = [some (.ref l), some (.int i), some x, some (.bl (if kk + 1 < ps.length then true else m)), some (.ref lp), none, none, none] ∧ Same H H2 ∧ H2 lp = some (.lst ((ps.take (kk + 1)).map V.str)), fun σ2 H2 ⟨x2, e1, e2, e3⟩ => ⟨ps.length - (kk + 1), by omega, kk + 1, x2, by omega, by omega, rfl, e1, e2, e3⟩, ?_⟩
        refine ⟨_, rfl, _, rfl, _, rfl, lp, _, rfl, .inl (SqL.of hlp), _, _, rfl, rfl, l, rows, i + kk, z, _, by rw [← ei]; rfl, hs', hi kk z hz, fun p2 H2 s4 hp2 => ⟨p2, _, rfl, SqT.of hp2, rfl, _, _, rfl, _, _, rfl, rfl, ?_⟩⟩
        have hlp2 := s4 _ _ hlp
        refine ⟨_, rfl, .inl ⟨rfl, _, SqL.of hlp2⟩, _, rfl, lp, _, _, rfl, rfl, hlp2, ?_, _, rfl, same_put (s3.trans s4) nH, ?_⟩
        · rw [List.length_map, List.length_take]
          exact small1000 (by omega)
        · rw [upd_same, take_snoc hz, List.map_append]
          rfl
      · obtain rfl : kk = ps.length := by omega
        rw [List.take_length] at hlp ei
        rcases Bool.eq_false_or_eq_true m with e | e
        · obtain ⟨r2, hr2, st2⟩ := hend e
          refine iteY (by rw [if_neg q]; exact e) ?_
          refine ⟨_, rfl, _, rfl, _, rfl, lp, _, rfl, .inl (SqL.of hlp), _, _, rfl, rfl, l, rows, i + ps.length, r2, by rw [← ei]; rfl, hs', hr2, rfl, _, _, rfl, rfl, _, rfl, iteN st2 ?_⟩
          refine ⟨_, rfl, _, rfl, lp, _, rfl, .inl (SqL.of hlp), _, _, rfl, rfl, ?_⟩
          refine ⟨_, rfl, _, rfl, l, rows, i + ps.length, r, by rw [← ei]; rfl, hs', hrow, _, rfl, r, i + ps.length, Str.ofString ")", b, by rw [← ei]; rfl, hs'.len hrow, hrm, fun p3 H3 s5 hp3 => ⟨p3, _, rfl, SqT.of hp3, rfl, _, _, rfl, _, _, rfl, rfl, ?_⟩⟩
          refine ⟨_, rfl, rfl, _, rfl, iteN (by rw [decide_eq_true rfl]; rfl) ?_⟩
          refine ⟨_, rfl, _, rfl, _, rfl, _, rfl, _, _, rfl, rfl, (by show 4 ≤ sizeLine; decide), fun q2 nq => ?_⟩
          refine k q2 lp _ (s3.trans (s5.trans (Same.new nq))) ?_ ((s5.trans (Same.new nq)) _ _ hlp)
          rw [upd_same, if_neg q, ei]
          rfl
        · refine iteN (by rw [if_neg q]; exact e) (iteN rfl ?_)
          refine ⟨_, rfl, _, rfl, lp, _, rfl, .inl (SqL.of hlp), _, _, rfl, rfl, ?_⟩
          refine ⟨_, rfl, _, rfl, l, rows, i + ps.length, r, by rw [← ei]; rfl, hs', hrow, _, rfl, r, i + ps.length, Str.ofString ")", b, by rw [← ei]; rfl, hs'.len hrow, hrm, fun p3 H3 s5 hp3 => ⟨p3, _, rfl, SqT.of hp3, rfl, _, _, rfl, _, _, rfl, rfl, ?_⟩⟩
          refine ⟨_, rfl, rfl, _, rfl, iteN (by rw [decide_eq_true rfl]; rfl) ?_⟩
          refine ⟨_, rfl, _, rfl, _, rfl, _, rfl, _, _, rfl, rfl, (by show 4 ≤ sizeLine; decide), fun q2 nq => ?_⟩
          refine k q2 lp _ (s3.trans (s5.trans (Same.new nq))) ?_ ((s5.trans (Same.new nq)) _ _ hlp)
          rw [upd_same, if_neg q, ei]
          rfl
end
end Lay
set_option Elab.async false
set_option linter.all false
set_option maxRecDepth 100000
set_option maxHeartbeats 4000000
set_option pp.maxSteps 900
namespace Lay
open PySem PySem.Spec PyProof.Rows L2
theorem piece_facts {rows : List Str} {i : Nat} {d : PD} {e : Nat} (h : pieceR rows i = .ok (d, e)) : ∃ (b : Nat) (j : Nat) (rest : Str), blanksR rows i = .ok b ∧ d.blanks = (b : Int) ∧ aheadR rows (i + b) = .ok d.ahead ∧ j = (if d.ahead.length ≠ 0 then i + b + 1 else i + b) ∧ headR rows j = .ok (d.word, d.left, rest) ∧
    ((rest.length = 0 ∧ d.broken = true ∧ brokenR rows (j + 1) = .ok (d.parts, d.marked, d.behind, e)) ∨ (rest.length ≠ 0 ∧ d.broken = false ∧ flatR rest j = .ok (d.parts, d.marked, d.behind, e))) := by
  unfold pieceR at h
  split at h
  · cases h
  · rename_i b hb
    split at h
    · cases h
    · rename_i a ha
      simp only at h
      split at h
      · cases h
      · rename_i w l rest hh
        split at h
        · rename_i q
          split at h
          · cases h
          · rename_i ps m hd k hbr
            cases h
            exact ⟨b, _, rest, hb, rfl, ha, rfl, hh, .inl ⟨q, rfl, hbr⟩⟩
        · rename_i q
          split at h
          · cases h
          · rename_i ps m hd k hbr
            cases h
            exact ⟨b, _, rest, hb, rfl, ha, rfl, hh, .inr ⟨q, rfl, hbr⟩⟩
def spRPc (K : PySem.W.Frag) (C : Addr) : Sp := fun vs H Q _ => ∃ (l : Addr) (rows : List Str) (i : Nat) (d : PD) (e : Nat), vs = [.ref l, .int i] ∧ RowsAt K H l rows ∧ pieceR rows i = .ok (d, e) ∧ d.Ok ∧ ∀ p y H', Same H H' → H' p = some (.tup [.ref y, .int e]) → PieceAt K C H' y d → Q (.ref p) H'
def pcN : List Str := ["rows", "at", "blanks", "start", "ahead", "word", "left", "rest", "broken", "parts", "marked", "behind", "end"]
def psPieceR : List Str := ["self", "word", "parts", "broken", "marked", "ahead", "behind", "blanks", "left"]
section
variable {P : Program} {w : World} {K : PySem.W.Frag} {mg : Str → Option Value} {base : Heap}
theorem scRPc : FnScope pcN raP (defScope sRPc) := ⟨rfl, rfl, rfl, by decide +kernel, rfl, by decide +kernel, by decide +kernel⟩
theorem has_RPc {C fI : Addr} {dI : FuncData} (gC : mg "Piece" = some (.ref C)) (M : Mk K C fI) (GI : FnOk P w K mg base CX0 3 fI dI psPieceR (spPieceI C K)) (bI : Binds K dI psPieceR [])
    (DB : Has P w K mg base CX0 2 "read_blanks" raP (spRBl K)) (DA : Has P w K mg base CX0 2 "read_ahead" raP (spRAh K)) (DH : Has P w K mg base CX0 2 "read_head" raP (spRHd K)) (DF : Has P w K mg base CX0 3 "read_flat" flP (spRFl K)) (DR : Has P w K mg base CX0 3 "read_broken" raP (spRBr K))
    (D : Dfn K mg "read_piece" sRPc raP) : Has P w K mg base CX0 5 "read_piece" raP (spRPc K C) := by
  refine D.has scRPc (fun vs H Q E h => ?_) (fun f cdv A outer s H vs Q E hr h => ?_)
  · obtain ⟨l, rows, i, d, e, rfl, _⟩ := h
    rfl
  · obtain ⟨l, rows, i, d, e, rfl, hs, hp, od, k⟩ := h
    have hr2 := hr.mono (show 2 ≤ 4 by decide)
    have hr3 := hr.mono (show 3 ≤ 4 by decide)
    refine ⟨_, (pss_cons (ps_set (i := 2) scRPc.nd rfl (.inl rfl) (pe_callH DB hr2 (by rfl) pass0 (pa_cons (pv 0) (pa_cons (pv 1) pa_nil))))
    (pss_cons (ps_set (i := 3) scRPc.nd rfl (.inl rfl) (pe_op op_add (pv 1) (pv 2)))
    (pss_cons (ps_set (i := 4) scRPc.nd rfl (.inl rfl) (pe_callH DA hr2 (by rfl) pass0 (pa_cons (pv 0) (pa_cons (pv 3) pa_nil))))
    (C8.pss_cut (ps_if (pt_cmpR op_ne (pv 4) pe_str (nomark _)) (pss_one (ps_aug (i := 3) scRPc.nd rfl (.inl rfl) pe_int ip_add)) pss_nil)
    (pss_cons (ps_asg (pe_callH DH hr2 (by rfl) pass0 (pa_cons (pv 0) (pa_cons (pv 3) pa_nil))) (pg_tup rfl (pgs_cons (pg_name (i := 5) scRPc.nd rfl (.inl rfl)) (pgs_cons (pg_name (i := 6) scRPc.nd rfl (.inl rfl)) (pgs_cons (pg_name (i := 7) scRPc.nd rfl (.inl rfl)) pgs_nil)))))
    (pss_cons (ps_set (i := 8) scRPc.nd rfl (.inl rfl) (pe_cmpR op_eq (pv 7) pe_str (nomark _)))
    (C8.pss_cut (ps_if (pt_val (pv 8))
      (pss_one (ps_asg (pe_callH DR hr3 (by rfl) pass0 (pa_cons (pv 0) (pa_cons (pe_op op_add (pv 3) pe_int) pa_nil))) (pg_tup rfl (pgs_cons (pg_name (i := 9) scRPc.nd rfl (.inl rfl)) (pgs_cons (pg_name (i := 10) scRPc.nd rfl (.inl rfl)) (pgs_cons (pg_name (i := 11) scRPc.nd rfl (.inl rfl)) (pgs_cons (pg_name (i := 12) scRPc.nd rfl (.inl rfl)) pgs_nil)))))))
      (pss_one (ps_asg (pe_callH DF hr3 (by rfl) pass0 (pa_cons (pv 7) (pa_cons (pv 3) pa_nil))) (pg_tup rfl (pgs_cons (pg_name (i := 9) scRPc.nd rfl (.inl rfl)) (pgs_cons (pg_name (i := 10) scRPc.nd rfl (.inl rfl)) (pgs_cons (pg_name (i := 11) scRPc.nd rfl (.inl rfl)) (pgs_cons (pg_name (i := 12) scRPc.nd rfl (.inl rfl)) pgs_nil))))))))
    (pss_one (ps_ret (pe_tup (pa_cons (pe_make (E := E0) M GI hr (by rfl) gC bI .nil pass0 (pa_cons (pv 5) (pa_cons (pv 9) (pa_cons (pv 8) (pa_cons (pv 10) (pa_cons (pv 4) (pa_cons (pv 11) (pa_cons (pv 2) (pa_cons (pv 6) pa_nil))))))))) (pa_cons (pv 12) pa_nil)))))))))))), ?_⟩
    obtain ⟨b, j, rest, hb, eb, ha, ej, hh, hc⟩ := piece_facts hp
    refine ⟨_, rfl, _, rfl, l, rows, i, b, rfl, hs, hb, ?_⟩
    refine ⟨_, rfl, _, rfl, _, _, rfl, rfl, ?_⟩
    refine ⟨_, rfl, _, rfl, l, rows, i + b, d.ahead, by rw [Int.natCast_add]; rfl, hs, ha, ?_⟩
    refine ⟨fun σ G => σ = [some (.ref l), some (.int i), some (.int b), some (.int j), some (.str d.ahead), none, none, none, none, none, none, none, none] ∧ G = H, ?_, ?_⟩
    · refine ⟨_, rfl, rfl, _, rfl, ?_⟩
      rw [str_e0]
      by_cases q : d.ahead.length = 0
      · refine iteN (by rw [decide_eq_true q]; rfl) ⟨?_, rfl⟩
        rw [ej, if_neg (by rw [q]; decide), Int.natCast_add]
        rfl
      · refine iteY (by rw [decide_eq_false q]; rfl) ⟨_, rfl, _, _, rfl, rfl, ?_, rfl⟩
        rw [ej, if_pos q, Int.natCast_add, Int.natCast_add]
        rfl
    rintro σ G ⟨rfl, rfl⟩
    refine ⟨_, rfl, _, rfl, l, rows, j, d.word, d.left, rest, rfl, hs, hh, fun p H1 s1 hp1 => ⟨p, _, rfl, SqT.of hp1, rfl, _, _, rfl, _, _, rfl, _, _, rfl, rfl, ?_⟩⟩
    refine ⟨_, rfl, rfl, ?_⟩
    rw [str_e0]
    have rl : rest.length ≤ 1000000 := by
      obtain ⟨r0, hr0, _, _, _, _, rfl⟩ := head_facts hh
      have h1 := hs.len hr0
      have h2 := pre_len r0 "!"
      have h3 := (part_len (Txt.removeprefix r0 "!") "(").2
      omega
    refine ⟨fun σ G' => ∃ lp : Addr, σ = [some (.ref l), some (.int i), some (.int b), some (.int j), some (.str d.ahead), some (.str d.word), some (.bl d.left), some (.str rest), some (.bl d.broken), some (.ref lp), some (.bl d.marked), some (.str d.behind), some (.int e)] ∧ Same G G' ∧ G' lp = some (.lst (d.parts.map V.str)), ?_, ?_⟩
    · rcases hc with ⟨q, qb, hc⟩ | ⟨q, qb, hc⟩
      · refine ⟨_, rfl, _, rfl, iteY (decide_eq_true q) ?_⟩
        refine ⟨_, rfl, _, rfl, _, _, rfl, rfl, l, rows, j + 1, d.parts, d.marked, d.behind, e, by rw [Int.natCast_add]; rfl, hs.same s1, hc, od.few, fun p2 lp H2 s2 hp2 hlp => ⟨p2, _, rfl, SqT.of hp2, rfl, _, _, rfl, _, _, rfl, _, _, rfl, _, _, rfl, rfl, lp, ?_, s1.trans s2, hlp⟩⟩
        rw [qb, decide_eq_true q]
        rfl
      · refine ⟨_, rfl, _, rfl, iteN (decide_eq_false q) ?_⟩
        refine ⟨_, rfl, _, rfl, rest, j, d.parts, d.marked, d.behind, e, rfl, rl, hc, od.some, od.few, fun p2 lp H2 s2 hp2 hlp => ⟨p2, _, rfl, SqT.of hp2, rfl, _, _, rfl, _, _, rfl, _, _, rfl, _, _, rfl, rfl, lp, ?_, s1.trans s2, hlp⟩⟩
        rw [qb, decide_eq_false q]
        rfl
    rintro σ G' ⟨lp, rfl, s3, hlp⟩
    refine ⟨_, rfl, _, rfl, _, rfl, _, rfl, _, rfl, _, rfl, _, rfl, _, rfl, fun x dx nx nd ne => ?_⟩
    have zz := (Same.new nd (o := .own x)).trans (Same.new (fresh_own (o := .own x) nx ne) (o := .ins C dx []))
    refine ⟨x, lp, dx, d, by rw [eb]; rfl, od, .inl (zz _ _ hlp), upd_same, fun H4 t4 kp4 hx ht => ⟨rfl, ?_⟩⟩
    have s4 := made_same nx nd kp4
    refine ⟨_, rfl, (by show 2 ≤ sizeLine; decide), fun q nq => ?_⟩
    have s5 := Same.new nq (o := .tup [.ref x, .int e])
    exact k q x _ (s3.trans (s4.trans s5)) upd_same (PieceAt.same s5 ⟨dx, t4, hx, ht⟩)
end
end Lay
set_option Elab.async false
set_option linter.all false
set_option maxRecDepth 100000
set_option maxHeartbeats 4000000
set_option pp.maxSteps 900
namespace Lay
open PySem PySem.Spec PyProof.Rows L2
theorem pieces_step {rows : List Str} {n i : Nat} {ds : List PD} (h : piecesR rows n i = .ok ds) : (¬ i < rows.length ∧ ds = []) ∨ (i < rows.length ∧ ∃ m d k es, n = m + 1 ∧ pieceR rows i = .ok (d, k) ∧ piecesR rows m k = .ok es ∧ ds = d :: es) := by
  cases n with
  | zero =>
    unfold piecesR at h
    split at h
    · cases h
    · rename_i q
      cases h
      exact .inl ⟨q, rfl⟩
  | succ n =>
    unfold piecesR at h
    split at h
    · rename_i q
      split at h
      · cases h
      · rename_i d k hp
        split at h
        · cases h
        · rename_i es he
          cases h
          exact .inr ⟨q, n, d, k, es, rfl, hp, he, rfl⟩
    · rename_i q
      cases h
      exact .inl ⟨q, rfl⟩
theorem PcsAt.one {K : PySem.W.Frag} {C p : Addr} {H : Hp} {d : PD} (h : PieceAt K C H p d) (o : d.Ok) (f : d.parts.length ≤ 30) : PcsAt K C H [.ref p] [d] := by
  refine ⟨rfl, fun e he => ?_, fun i x e hx he => ?_⟩
  · rw [List.mem_singleton] at he
    subst he
    exact ⟨o, f⟩
  · cases i with
    | zero =>
      cases hx
      cases he
      exact ⟨p, rfl, h⟩
    | succ i => simp at hx
theorem PcsAt.put {K : PySem.W.Frag} {C a : Addr} {H : Hp} {xs ys : List V} {ds : List PD} {o : HO} (h : PcsAt K C H xs ds) (ha : H a = some (.lst ys)) : PcsAt K C (upd H a o) xs ds :=
  ⟨h.1, h.2.1, fun i x d hx hd => by
    obtain ⟨p, e, dx, t, h1, h2⟩ := h.2.2 i x d hx hd
    exact ⟨p, e, dx, t, by rw [upd_ne (ne_of h1 ha (fun z => nomatch z))]; exact h1, by rw [upd_ne (ne_of h2 ha (fun z => nomatch z))]; exact h2⟩⟩
def spRPs (K : PySem.W.Frag) (C : Addr) : Sp := fun vs H Q _ => ∃ (l : Addr) (rows : List Str) (n : Nat) (ds : List PD), vs = [.ref l] ∧ RowsAt K H l rows ∧ piecesR rows n 0 = .ok ds ∧ n ≤ 900 ∧ (∀ d ∈ ds, d.Ok ∧ d.parts.length ≤ 30) ∧ ∀ lp xs H', Same H H' → H' lp = some (.lst xs) → PcsAt K C H' xs ds → Q (.ref lp) H'
section
variable {P : Program} {w : World} {K : PySem.W.Frag} {mg : Str → Option Value} {base : Heap}
theorem scRPs : FnScope ["rows", "pieces", "at", "piece"] ["rows"] (defScope sRPs) := ⟨rfl, rfl, rfl, by decide +kernel, rfl, by decide +kernel, by decide +kernel⟩
theorem has_RPs {C : Addr} (B : Bt mg) (DP : Has P w K mg base CX0 5 "read_piece" raP (spRPc K C)) (D : Dfn K mg "read_pieces" sRPs ["rows"]) : Has P w K mg base CX0 6 "read_pieces" ["rows"] (spRPs K C) := by
  refine D.has scRPs (fun vs H Q E h => ?_) (fun f cdv A outer s H vs Q E hr h => ?_)
  · obtain ⟨l, rows, n, ds, rfl, _⟩ := h
    rfl
  · obtain ⟨l, rows, n, ds, rfl, hs, hp, hn, od, k⟩ := h
    refine ⟨_, (pss_cons (ps_set (i := 1) scRPs.nd rfl (.inl rfl) (pe_lst pa_nil))
    (pss_cons (ps_set (i := 2) scRPs.nd rfl (.inl rfl) pe_int)
    (pss_cons (ps_while PassesOwn.never (pt_cmpR op_lt (pv 2) (pe_callB (call_lenK (K := K) rfl) (by rfl) B.len PySem.boot_len (pa_cons (pv 0) pa_nil)) (nomark _))
      (pss_cons (ps_asg (pe_callH DP hr (by rfl) pass0 (pa_cons (pv 0) (pa_cons (pv 2) pa_nil))) (pg_tup rfl (pgs_cons (pg_name (i := 3) scRPs.nd rfl (.inl rfl)) (pgs_cons (pg_name (i := 2) scRPs.nd rfl (.inl rfl)) pgs_nil))))
      (pss_one (ps_expr (pe_bm PySem.F.plainAttrs_list PySem.F.slot_list_append PySem.F.type_list_append mt_append (pv 1) (pa_cons (pv 3) pa_nil))))))
    (pss_one (ps_ret (pv 1)))))), ?_⟩
    refine ⟨(by show 0 ≤ sizeLine; exact Nat.zero_le _), fun lp nlp => ?_⟩
    refine ⟨fun mm σ' H' => ∃ (done todo : List PD) (i : Nat) (xs : List V) (x : Option V), ds = done ++ todo ∧ done.length + mm ≤ n ∧ piecesR rows mm i = .ok todo ∧ σ' = [some (.ref l), some (.ref lp), some (.int i), x] ∧ Same H H' ∧ H' lp = some (.lst xs) ∧ PcsAt K C H' xs done,
      ⟨n, [], ds, 0, [], none, rfl, by simp, hp, rfl, Same.new nlp, upd_same, PcsAt.nil⟩, ?_⟩
    rintro mm σ' H' ⟨done, todo, i, xs, x, eds, hm, hpr, rfl, s1, hlp, hpc⟩
    refine ⟨_, rfl, _, rfl, l, _, rfl, .inl (hs.same s1).1, _, _, rfl, rfl, _, rfl, ?_⟩
    rw [List.length_map]
    rcases pieces_step hpr with ⟨q, rfl⟩ | ⟨q, m, d, k2, es, rfl, h1, h2, rfl⟩
    · refine iteN (decide_eq_false (by omega)) ⟨_, rfl, ?_⟩
      rw [List.append_nil] at eds
      subst eds
      exact k lp xs _ s1 hlp hpc
    · have hd := od d (by rw [eds]; simp)
      refine iteY (decide_eq_true (by omega)) ⟨fun σ2 H2 => ∃ (xs2 : List V) (x2 : Option V), σ2 = [some (.ref l), some (.ref lp), some (.int k2), x2] ∧ Same H H2 ∧ H2 lp = some (.lst xs2) ∧ PcsAt K C H2 xs2 (done ++ [d]), fun σ2 H2 ⟨xs2, x2, e1, e2, e3, e4⟩ => ⟨m, by omega, done ++ [d], es, k2, xs2, x2, by rw [eds]; simp, by rw [List.length_append]; show done.length + 1 + m ≤ n; omega, h2, e1, e2, e3, e4⟩, ?_⟩
      refine ⟨_, rfl, _, rfl, l, rows, i, d, k2, rfl, hs.same s1, h1, hd.1, fun p y H2 s2 hp2 hy => ⟨p, _, rfl, SqT.of hp2, rfl, _, _, rfl, _, _, rfl, rfl, ?_⟩⟩
      have hlp2 := s2 _ _ hlp
      have pc := (hpc.same s2).append (PcsAt.one hy hd.1 hd.2)
      refine ⟨_, rfl, .inl ⟨rfl, _, SqL.of hlp2⟩, _, rfl, lp, _, _, rfl, rfl, hlp2, ?_, _, _, rfl, same_put (s1.trans s2) (by
        have : H lp = none := nlp
        exact this), upd_same, pc.put hlp2⟩
      rw [hpc.1]
      exact small1000 (by omega)
end
end Lay
set_option Elab.async false
set_option linter.all false
set_option maxRecDepth 100000
set_option maxHeartbeats 4000000
set_option pp.maxSteps 900
namespace Lay
open PySem PySem.Spec PyProof.Rows L2 KwX
/-! a class called by a local name; a classmethod called by keywords -/
section
variable {X : Cx} {CX : CXT} {k i : Nat} {f C : Addr} {fd : FuncData} {ps : List Str} {sp : Sp} {dvs : List V} {ds : List Value} {E : XK} {x : Str} {p pos : Pos} {e : Expr} {es : List Expr} {t : TA}
def tMakeL (i : Nat) (C : Addr) (sp : Sp) (dvs : List V) (E : XK) (t : TA) : TE := fun σ H Q => σ[i]? = some (some (.ref C)) ∧ tMake C sp dvs E t σ H Q
theorem pe_makeL (M : Mk X.K C f) (F : FnOk X.prog X.w X.K X.mg X.base CX k f fd ps sp) (hr : Room (k + 1) X.A) (hN : X.N[i]? = some x) (hv : Vis X.env.scope x) (hb : Binds X.K fd ps ds) (hd : Vals dvs ds) (hx : Passes CX X E) (ha : PA X (e :: es) t)
    (hdb : (x == ("__debug__" : Str)) = false := by decide) (hcd : (x == ("__classdict__" : Str)) = false := by decide)
    (he : starEach (e :: es) X.env = (false, eval e X.env) :: starEach es X.env := by rfl) (hpl : (backTo pos (starEach es X.env)).any (·.1) = false := by rfl) : PE X (.Call (.Name x p) (e :: es) [] pos) (tMakeL i C sp dvs E t) := by
  refine ⟨fun pins s σ H Q I h => ?_⟩
  obtain ⟨hs, ht⟩ := h
  refine wpAny_Call_Name_kw (thn ((pe_var (pos := p) hN hv hdb hcd).run pins s σ H (fun v H1 => v = .ref C ∧ H1 = H) I ⟨.ref C, hs, rfl, rfl⟩) fun u s1 ⟨v, H1, I1, r1, q1⟩ => ?_)
  obtain ⟨rfl, rfl⟩ := q1
  cases r1
  refine PySem.W.callWith_K (h₀ := X.base) I1.ok.mod.kin M.kp (thn (ha.run pos pins s1 σ _ _ I1 ht) fun us s2 ⟨vs, H2, I2, r, q⟩ => ⟨I2.kIn, ?_⟩) he hpl
  exact run_make M F hr hb hd hx I2 r q
end
section
variable {X : Cx} {CX : CXT} {k : Nat} {C p g : Addr} {mc : Value} {ks : List Str} {sp : List V → List V → Hp → VK → XK → Prop} {E : XK} {m : Str} {pos apos : Pos} {o : Expr} {kws : List Keyword} {ta : TE} {tk : TA}
def tCMethK (C : Addr) (sp : List V → List V → Hp → VK → XK → Prop) (E : XK) (ta : TE) (tk : TA) : TE := fun σ H Q => ta σ H fun x H1 => x = .ref C ∧ tk σ H1 fun zs H2 => sp [.ref C] zs H2 Q E
theorem pe_cmethK {pl : Sem Bool} (he : PE X o ta) (r : ClX.CRead X.K C mc) (c : ClX.CMet X.K C mc m p g) (F : FnRK X.prog X.w X.K X.mg X.base CX k g ks sp) (hr : Room k X.A) (hx : Passes CX X E) (hkw : PK X kws tk)
    (hall : (backToKw pos (keywordEach kws X.env)).all (·.1.isSome) = true := by rfl) (hks : (backToKw pos (keywordEach kws X.env)).filterMap (·.1) = ks := by rfl)
    (hpl : ((backTo pos (starEach [] X.env)).any (·.1) || (backToKw pos (keywordEach kws X.env)).any (·.1.isNone)) = false := by rfl)
    (ht : eval (.Call (.Attribute o m apos) [] kws pos) X.env = (do
      let ov ← eval o X.env
      standAt apos.atName
      let (f, first) ← holding [ov] (getMethod ov m pl)
      callWith pos f first (backTo pos (starEach [] X.env)) (backToKw pos (keywordEach kws X.env))) := by rfl) :
    PE X (.Call (.Attribute o m apos) [] kws pos) (tCMethK C sp E ta tk) := by
  refine ⟨fun pins s σ H Q I h => ?_⟩
  refine PySem.W.methodCall_KW (pl := pl) (thn (he.run pins s σ H _ I h) fun u s1 ⟨x, H1, I1, rx, ex, q⟩ => ?_) ht
  subst ex
  obtain rfl : u = Value.ref C := rx
  refine ClX.getmethcm_ok I1 r c fun s2 I2 => ?_
  refine PySem.W.callWith_of hpl (PySem.W.keeps_M (K := X.K) (self := .ref C) c.fi) (PyProof.Rows.evalArgs_kw2_nil hall ?_)
  refine thn (hkw.run pos _ s2 σ H1 _ I2 q) fun ws s3 ⟨zs, H2, I3, rz, q2⟩ => ⟨⟨ClX.pin_at I3, I3.kIn⟩, ?_⟩
  rw [hks]
  have z : wpAny (model X.prog X.w) X.A (call (.ref s1.heap.objs.size) [] (ks.zip ws)) (EP X ((s1.heap.objs.size, PySem.W.methodObj (.ref g) (.ref C)) :: pins) σ Q) X.xe s3 :=
    wpAny_call (PySem.W.method_call (ClX.pin_at I3) (run_fnRK (us := [.ref C]) (vs := [.ref C]) F hr hx I3 (.cons rfl .nil) rz q2))
  exact thn z fun _ _ y => ClX.unpinE y
end
end Lay
set_option Elab.async false
set_option linter.all false
set_option maxRecDepth 100000
set_option maxHeartbeats 4000000
set_option pp.maxSteps 900
namespace Lay
open PySem PySem.Spec PyProof.Rows L2 KwX
/-! programs: two compared, one read -/
theorem fnrk_pos {CX : CXT} {P : Program} {w : World} {K : PySem.W.Frag} {mg : Str → Option Value} {base : Heap} {k n : Nat} {f : Addr} {fd : FuncData} {ps ks : List Str} {sp : Sp} (F : FnOk P w K mg base CX k f fd ps sp)
    (hb : ∀ (s : Shared) (us ws : List Value), us.length = n → ws.length = ks.length → BindsTo s fd ⟨us, ks.zip ws⟩ (ps.zip (us ++ ws))) : FnRK P w K mg base CX k f ks (fun vs zs H Q E => vs.length = n ∧ zs.length = ks.length ∧ sp (vs ++ zs) H Q E) := by
  intro A outer s H us ws vs zs Q E hr e0 r rz ⟨h1, h2, h3⟩
  exact F.run A outer s H _ (us ++ ws) (vs ++ zs) Q E hr e0 (hb s us ws (by rw [← r.length]; exact h1) (by rw [← rz.length]; exact h2)) (r.append rz) h3
abbrev sEqP : Stmt := inClass (top 33) 6
abbrev sRead : Stmt := inClass (top 33) 1
def spEqPg (K : PySem.W.Frag) (C CP : Addr) : Sp := fun vs H Q _ => ∃ (p q t1 t2 : Addr) (xs ys : List V) (ds es : List PD), vs = [.ref p, .ref q] ∧ ProgT K C CP H p t1 xs ds ∧ ProgT K C CP H q t2 ys es ∧ ∀ H', Same H H' → Q (.bl (decide (V.str (progText ds) = V.str (progText es)))) H'
def spRead (K : PySem.W.Frag) (C CP : Addr) : Sp := fun vs H Q _ => ∃ (t : Str) (n : Nat) (ds : List PD), vs = [.ref CP, .str t] ∧ t.length ≤ 1000000 ∧ t.length ≠ 0 ∧ (∀ r ∈ Txt.split t "\n", r.length ≤ 1000000) ∧ piecesR (Txt.split t "\n") n 0 = .ok ds ∧ n ≤ 900 ∧ ds.length ≤ 900 ∧ (∀ d ∈ ds, d.Ok ∧ d.parts.length ≤ 30) ∧ ∀ p u xs H', Same H H' → ProgT K C CP H' p u xs ds → Q (.ref p) H'
section
variable {P : Program} {w : World} {K : PySem.W.Frag} {mg : Str → Option Value} {base : Heap}
theorem scEqPg : FnScope ["self", "other"] ["self", "other"] (defScope sEqP) := ⟨rfl, rfl, rfl, by decide +kernel, rfl, by decide +kernel, by decide +kernel⟩
theorem ok_eqPg {f fS C CP : Addr} {fd fdS : FuncData} (F : Fun K "__eq__" "Program.__eq__" sEqP f fd) (T : TxtK mg) (hstr : mg "str" = none) (c : ClsI K CP) (gT : mg "Program" = some (.ref CP))
    (GS : FnOk P w K mg base CX0 4 fS fdS ["self"] (spStrP K C CP)) (hs : PySem.W.findIn K (.ref CP) "__str__" = some (some (.ref fS))) (hf : PySem.W.isFn K (.ref fS) = true) (bS : Binds K fdS ["self"] []) : FnOk P w K mg base CX0 7 f fd ["self", "other"] (spEqPg K C CP) := by
  refine F.ok scEqPg (fun vs H Q E h => ?_) (fun cdv A outer s H vs Q E hr h => ?_)
  · obtain ⟨p, q, t1, t2, xs, ys, ds, es, rfl, _⟩ := h
    rfl
  · obtain ⟨p, q, t1, t2, xs, ys, ds, es, rfl, hp, hq, k⟩ := h
    refine ⟨_, pss_one (ps_ret (pe_and (pe_callB call_isi (by rfl) T.isinstance (by decide +kernel) (pa_cons (pv 1) (pa_cons (pe_glob (v := .ref CP) (by rfl) gT rfl) pa_nil)))
      (pe_one (pe_cmpR op_eq (pe_callTy (call_strOwn GS hs hf hr bS pass0) (by rfl) hstr (by decide +kernel) (pa_cons (pv 0) pa_nil)) (pe_callTy (call_strOwn GS hs hf hr bS pass0) (by rfl) hstr (by decide +kernel) (pa_cons (pv 1) pa_nil)) (nomark _))))), ?_⟩
    obtain ⟨dx2, hq2, _⟩ := id hq
    obtain ⟨dx1, hp1, _⟩ := id hp
    refine ⟨_, rfl, _, _, _, _, true, rfl, .own _, c.at hq2, kit_same, _, rfl, iteY rfl ?_⟩
    refine ⟨_, rfl, p, dx1, _, rfl, hp1, p, t1, xs, ds, rfl, hp, fun H1 s1 => ⟨_, rfl, _, rfl, q, dx2, _, rfl, s1 _ _ hq2, q, t2, ys, es, rfl, hq.same s1, fun H2 s2 => ⟨_, rfl, rfl, k H2 (s1.trans s2)⟩⟩⟩
theorem scRead : FnScope ["cls", "text"] ["cls", "text"] (defScope sRead) := ⟨rfl, rfl, rfl, by decide +kernel, rfl, by decide +kernel, by decide +kernel⟩
theorem ok_read {f fI C CP : Addr} {fd dI : FuncData} (F : Fun K "read" "Program.read" sRead f fd) (B : Bt mg) (c : ClsI K C) (M : Mk K CP fI) (GI : FnOk P w K mg base CX0 3 fI dI ["self", "pieces"] (spProgG K C CP)) (bI : Binds K dI ["self", "pieces"] []) (DP : Has P w K mg base CX0 6 "read_pieces" ["rows"] (spRPs K C)) :
    FnOk P w K mg base CX0 7 f fd ["cls", "text"] (spRead K C CP) := by
  refine F.ok scRead (fun vs H Q E h => ?_) (fun cdv A outer s H vs Q E hr h => ?_)
  · obtain ⟨t, n, ds, rfl, _⟩ := h
    rfl
  · obtain ⟨t, n, ds, rfl, tl, t0, rl, hp, hn, hd, od, k⟩ := h
    have hr4 := hr.mono (show 4 ≤ 6 by decide)
    refine ⟨_, (pss_cons (ps_if (pt_not (pt_val (pe_callB (call_isiK (K := K) rfl) (by rfl) B.isinstance (by decide +kernel) (pa_cons (pv 1) (pa_cons (pe_bltn (v := .ty "str") (by rfl) B.str (by decide +kernel) rfl) pa_nil))))) pss_never pss_nil)
    (pss_cons (ps_if (pt_cmpR op_eq (pv 1) pe_str (nomark _)) pss_never pss_nil)
    (pss_one (ps_ret (pe_makeL (i := 0) (E := E0) M GI hr4 rfl (by first | exact .inl rfl | exact .inr rfl) bI .nil pass0 (pa_cons (pe_callH DP hr (by rfl) pass0 (pa_cons (pe_bm PySem.F.plainAttrs_str PySem.F.slot_str_split PySem.F.type_str_split mt_split (pv 1) (pa_cons pe_str pa_nil)) pa_nil)) pa_nil)))))), ?_⟩
    obtain ⟨ty0, ty, e⟩ := isT_str (K := K) (H := H) (z := t)
    refine ⟨_, rfl, _, _, _, _, _, rfl, .ty _, ty, e, _, rfl, iteN rfl ?_⟩
    refine ⟨_, rfl, rfl, _, rfl, iteN (by rw [str_e0]; exact decide_eq_false t0) ?_⟩
    refine ⟨rfl, _, rfl, rfl, _, _, rfl, rfl, by decide, by rw [sizeLine_eq]; omega, fun l nl => ?_⟩
    refine ⟨l, Txt.split t "\n", n, ds, rfl, ⟨SqL.of upd_same, rl⟩, hp, hn, od, fun lp xs H1 s1 hlp hpc => ?_⟩
    have s0 := (Same.new nl (o := .lst ((Txt.split t "\n").map V.str))).trans s1
    intro y dx nx nd ne
    have zz := (Same.new nd (o := .own y)).trans (Same.new (fresh_own (o := .own y) nx ne) (o := .ins CP dx []))
    refine ⟨y, dx, lp, xs, rfl, upd_same, .inl (zz _ _ hlp), by rw [hpc.1]; omega, (hpc.same zz).isP c, fun H2 u hu kp hx => ⟨rfl, ?_⟩⟩
    have s2 := made_same nx nd kp
    exact k y u xs H2 (s0.trans s2) ⟨dx, hx, hu, hpc.same s2, hd⟩
end
end Lay
set_option Elab.async false
set_option linter.all false
set_option maxRecDepth 100000
set_option maxHeartbeats 4000000
set_option pp.maxSteps 900
namespace Lay
open PySem PySem.Spec PyProof.Rows L2 TxL
/-! a program's text, read -/
theorem az_no10 {z : Str} (h : nameB z = true) : 10 ∉ L z := name_free h (by decide)
theorem app_no {a b : Str} {c : Nat} (h1 : c ∉ L a) (h2 : c ∉ L b) : c ∉ L (a ++ b) := by
  rw [L_app, List.mem_append, not_or]
  exact ⟨h1, h2⟩
theorem rem_no10 {z : Str} (h : remarkB z = true) : 10 ∉ L z := by
  by_cases e : z.length = 0
  · rw [empty_of e]
    decide +kernel
  · exact az_no10 (rem_name h e)
theorem empty_no {c : Nat} : c ∉ L Str.empty := by simp [L, Str.empty]
theorem rows_no10 {d : PD} (o : d.Ok) : ∀ z ∈ rowsS d, 10 ∉ L z := by
  have hd : 10 ∉ L (headS d) := by
    rw [headS_is]
    refine app_no (app_no ?_ (az_no10 o.word)) (by decide +kernel)
    split <;> decide +kernel
  have tl : 10 ∉ L (tailS d) := by
    unfold tailS
    split
    · decide +kernel
    · exact app_no (app_no empty_no (by decide +kernel)) (rem_no10 o.behind)
  have cm : 10 ∉ L (commaS d) := by
    unfold commaS
    split <;> decide +kernel
  have jn : 10 ∉ L (Txt.join ", " d.parts) := by
    rw [joinT]
    exact join_free (by decide +kernel) fun p hp => az_no10 (o.parts p hp)
  have lst : 10 ∉ L (d.parts.getLastD Str.empty) := by
    rw [List.getLastD_eq_getLast?]
    cases e : d.parts.getLast? with
    | none => exact empty_no
    | some x => exact az_no10 (o.parts x (List.mem_of_getLast? e))
  intro z hz
  unfold rowsS remarkS bodyS at hz
  rcases List.mem_append.mp hz with h | h
  · rw [List.eq_of_mem_replicate h]
    decide +kernel
  · rcases List.mem_append.mp h with h | h
    · split at h
      · exact (List.not_mem_nil h).elim
      · rw [List.mem_singleton] at h
        rw [h]
        exact app_no (app_no empty_no (by decide +kernel)) (rem_no10 o.ahead)
    · split at h
      · rcases List.mem_cons.mp h with h | h
        · rw [h]; exact hd
        · rcases List.mem_append.mp h with h | h
          · obtain ⟨y, hy, rfl⟩ := List.mem_map.mp h
            exact app_no (app_no (app_no empty_no (by decide +kernel)) (az_no10 (o.parts y ((List.dropLast_sublist d.parts).subset hy)))) (by decide +kernel)
          · simp only [List.mem_cons, List.not_mem_nil, or_false] at h
            rcases h with rfl | rfl
            · exact app_no (app_no (app_no empty_no (by decide +kernel)) lst) cm
            · exact tl
      · rw [List.mem_singleton] at h
        rw [h]
        exact app_no (app_no (app_no hd jn) cm) tl
theorem prog_read {ds : List PD} (ne : ds ≠ []) (h : ∀ d ∈ ds, d.Ok ∧ d.parts.length ≤ 30) (few : ds.length ≤ 50) : (progText ds).length ≤ 1000000 ∧ (progText ds).length ≠ 0 ∧ (∀ r ∈ Txt.split (progText ds) "\n", r.length ≤ 1000000) ∧ piecesR (Txt.split (progText ds) "\n") ds.length 0 = .ok ds := by
  have rne : progRows ds ≠ [] := by
    cases ds with
    | nil => exact absurd rfl ne
    | cons d es =>
      intro z
      have := congrArg List.length z
      unfold progRows at this
      rw [List.map_cons, List.flatten_cons, List.length_append] at this
      have p := rowsS_pos d
      simp only [List.length_nil] at this
      omega
  have sp : Txt.split (progText ds) "\n" = progRows ds := split_join (c := 10) (by decide +kernel) (by decide +kernel) rne fun z hz => by
    unfold progRows at hz
    obtain ⟨l, hl, hz⟩ := List.mem_flatten.mp hz
    obtain ⟨d, hd, rfl⟩ := List.mem_map.mp hl
    exact rows_no10 (h d hd).1 z hz
  have rf := progRows_few h
  have rl := progRows_len h
  refine ⟨?_, ?_, ?_, ?_⟩
  · unfold progText
    have h1 := join_le "\n" (progRows ds)
    have h2 := sum_few (zs := progRows ds) (n := 300) rf
    rw [show (Str.ofString "\n").length = 1 by decide] at h1
    omega
  · intro e
    have e2 := empty_of e
    rw [e2] at sp
    have e3 : Txt.split (Str.ofString "") "\n" = [Str.ofString ""] := by decide +kernel
    rw [e3] at sp
    have rd : ∃ d ∈ ds, ∃ z ∈ rowsS d, z.length ≠ 0 := by
      cases ds with
      | nil => exact absurd rfl ne
      | cons d es =>
        refine ⟨d, List.mem_cons_self, ?_⟩
        have hd0 : (headS d).length ≠ 0 := by
          unfold headS
          rw [Str.length_append]
          have : (Str.ofString "(").length = 1 := by decide
          omega
        unfold rowsS bodyS
        split
        · exact ⟨headS d, by simp, hd0⟩
        · refine ⟨_, List.mem_append_right _ (List.mem_append_right _ List.mem_cons_self), ?_⟩
          rw [Str.length_append, Str.length_append, Str.length_append]
          omega
    obtain ⟨d, hd, z, hz, z0⟩ := rd
    have hm : z ∈ progRows ds := List.mem_flatten.mpr ⟨_, List.mem_map.mpr ⟨d, hd, rfl⟩, hz⟩
    rw [← sp, List.mem_singleton] at hm
    rw [hm] at z0
    exact z0 (by decide)
  · intro r hr
    rw [sp] at hr
    have := rf r hr
    omega
  · rw [sp]
    exact pieces_read ds ds.length 0 (Nat.le_refl _) (fun d hd => (h d hd).1) (by rw [List.drop_zero]; rfl)
end Lay
set_option Elab.async false
set_option linter.all false
set_option maxRecDepth 100000
set_option maxHeartbeats 4000000
namespace Lay
open PySem PySem.Spec PyProof.Rows L2
section
variable {X : Cx}
theorem pe_mono {e : Expr} {t t' : TE} (h : PE X e t) (m : ∀ σ H Q, t' σ H Q → t σ H Q) : PE X e t' := ⟨fun pins s σ H Q I q => h.run pins s σ H Q I (m σ H Q q)⟩
end
/-- a reading with a weaker wish -/
def clo (t : TE) : TE := fun σ H Q => ∃ R : VK, t σ H R ∧ ∀ v H1, R v H1 → Q v H1
def cloA (t : TA) : TA := fun σ H Q => ∃ R : List V → Hp → Prop, t σ H R ∧ ∀ v H1, R v H1 → Q v H1
section
variable {X : Cx} {e : Expr} {es : List Expr} {ta : TE} {t : TA}
theorem pe_clo (he : PE X e ta) : PE X e (clo ta) := ⟨fun pins s σ H Q I h => by
  obtain ⟨R, hR, m⟩ := h
  refine thn (he.run pins s σ H R I hR) fun v s' hv => ?_
  obtain ⟨x, H', I', r, q⟩ := hv
  exact ⟨x, H', I', r, m _ _ q⟩⟩
theorem pa_clo (ha : PA X es t) : PA X es (cloA t) := ⟨fun pos pins s σ H Q I h => by
  obtain ⟨R, hR, m⟩ := h
  refine thn (ha.run pos pins s σ H R I hR) fun v s' hv => ?_
  obtain ⟨x, H', I', r, q⟩ := hv
  exact ⟨x, H', I', r, m _ _ q⟩⟩
end
section
variable {X : Cx} {CT : Addr}
theorem pe_fldX {e : Expr} {ta : TE} {f : Str} {pos : Pos} (he : PE X e ta) (c : Cls X.K CT) (nf : NoAttr X.K CT f) (hb : attributeBase e f X.env (eval e X.env) = eval e X.env := by rfl) :
    PE X (.Attribute e f pos) (fun σ H Q => ta σ H fun x H1 => ∃ p dx fs v, x = .ref p ∧ H1 p = some (.ins CT dx fs) ∧ fs.lookup f = some v ∧ Q v H1) := by
  refine pe_mono (pe_fld (pe_clo he) hb) fun σ H Q h => ⟨_, h, fun v H1 q => ?_⟩
  obtain ⟨p, dx, fs, y, rfl, hp, hl, q⟩ := q
  exact ⟨p, CT, dx, fs, y, rfl, hp, c, nf, hl, q⟩
end
end Lay
set_option Elab.async false
set_option linter.all false
set_option maxRecDepth 100000
set_option maxHeartbeats 4000000
set_option pp.maxSteps 1000
namespace Lay
open PySem PySem.Spec PyProof.Rows L2
abbrev sLenP : Stmt := inClass (top 33) 2
abbrev sGetP : Stmt := inClass (top 33) 3
abbrev sAddP : Stmt := inClass (top 33) 5
def spLenP (K : PySem.W.Frag) (C CP : Addr) : Sp := fun vs H Q _ => ∃ (p t : Addr) (xs : List V) (ds : List PD), vs = [.ref p] ∧ ProgT K C CP H p t xs ds ∧ Q (.int ds.length) H
def spGetG (K : PySem.W.Frag) (C CP : Addr) : Sp := fun vs H Q _ => ∃ (p t : Addr) (i : Nat) (xs : List V) (ds : List PD) (v : V), vs = [.ref p, .int i] ∧ ProgT K C CP H p t xs ds ∧ xs[i]? = some v ∧ Q v H
def spAddP (K : PySem.W.Frag) (C CP : Addr) : Sp := fun vs H Q _ => ∃ (p q t1 t2 : Addr) (xs ys : List V) (ds es : List PD), vs = [.ref p, .ref q] ∧ ProgT K C CP H p t1 xs ds ∧ ProgT K C CP H q t2 ys es ∧ ds.length + es.length ≤ 900 ∧ ∀ c u H', Same H H' → H c = none → ProgT K C CP H' c u (xs ++ ys) (ds ++ es) → Q (.ref c) H'
section
variable {P : Program} {w : World} {K : PySem.W.Frag} {mg : Str → Option Value} {base : Heap}
theorem scLenP : FnScope ["self"] ["self"] (defScope sLenP) := ⟨rfl, rfl, rfl, by decide +kernel, rfl, by decide +kernel, by decide +kernel⟩
theorem ok_lenP {f C CP : Addr} {fd : FuncData} (F : Fun K "__len__" "Program.__len__" sLenP f fd) (hlen : mg "len" = none) (Z : ProgC K CP) : FnOk P w K mg base CX0 1 f fd ["self"] (spLenP K C CP) := by
  refine F.ok scLenP (fun vs H Q E h => ?_) (fun cdv A outer s H vs Q E hr h => ?_)
  · obtain ⟨p, t, xs, ds, rfl, _⟩ := h
    rfl
  · obtain ⟨p, t, xs, ds, rfl, ⟨dx, hp, ht, hps, hl⟩, k⟩ := h
    refine ⟨_, pss_one (ps_ret (pe_callB call_len_seq (by rfl) hlen PySem.boot_len (pa_cons (pe_fld (pv 0) rfl) pa_nil))), ?_⟩
    refine ⟨_, rfl, p, CP, dx, _, _, rfl, hp, Z.cl, Z.pieces, rfl, t, xs, rfl, .inr ht.sqT, ?_⟩
    rw [hps.1]
    exact k
theorem scGetP : FnScope ["self", "at"] ["self", "at"] (defScope sGetP) := ⟨rfl, rfl, rfl, by decide +kernel, rfl, by decide +kernel, by decide +kernel⟩
theorem ok_getG {f fN C CP : Addr} {fd fdN : FuncData} (F : Fun K "__getitem__" "Program.__getitem__" sGetP f fd) (hlen : mg "len" = none) (Z : ProgC K CP)
    (GN : FnOk P w K mg base CX0 2 fN fdN ["value", "many"] (spNum K)) (gN : mg "is_number" = some (.ref fN)) (kN : PySem.W.keepIn K (.ref fN) = true) (bN : Binds K fdN ["value", "many"] []) : FnOk P w K mg base CX0 3 f fd ["self", "at"] (spGetG K C CP) := by
  refine F.ok scGetP (fun vs H Q E h => ?_) (fun cdv A outer s H vs Q E hr h => ?_)
  · obtain ⟨p, t, i, xs, ds, v, rfl, _⟩ := h
    rfl
  · obtain ⟨p, t, i, xs, ds, v, rfl, ⟨dx, hp, ht, hps, hl⟩, hi, k⟩ := h
    refine ⟨_, (pss_cons (ps_if (pt_not (pt_val (pe_call GN hr (by rfl) gN kN bN .nil pass0 (pa_cons (pv 1) (pa_cons (pe_callB call_len_seq (by rfl) hlen PySem.boot_len (pa_cons (pe_fld (pv 0) rfl) pa_nil)) pa_nil))))) pss_never pss_nil)
      (pss_one (ps_ret (pe_ix ix_tup (pe_fld (pv 0) rfl) (pv 1) (fun _ _ => rfl))))), ?_⟩
    have li := (List.getElem?_eq_some_iff.mp hi).1
    refine ⟨_, rfl, _, rfl, p, CP, dx, _, _, rfl, hp, Z.cl, Z.pieces, rfl, t, xs, rfl, .inr ht.sqT, _, _, rfl, .inl ⟨_, rfl, _, rfl, iteN (by simp [li]) ?_⟩⟩
    exact ⟨_, rfl, p, CP, dx, _, _, rfl, hp, Z.cl, Z.pieces, rfl, _, rfl, t, xs, _, v, rfl, rfl, ht.sqT, atI_nat hi, k⟩
theorem scAddP : FnScope ["self", "other"] ["self", "other"] (defScope sAddP) := ⟨rfl, rfl, rfl, by decide +kernel, rfl, by decide +kernel, by decide +kernel⟩
theorem ok_addP {f fP C CP : Addr} {fd fdP : FuncData} (F : Fun K "__add__" "Program.__add__" sAddP f fd) (T : TxtK mg) (c0 : ClsI K C) (c : ClsI K CP) (Z : ProgC K CP) (gT : mg "Program" = some (.ref CP)) (M : Mk K CP fP)
    (GP : FnOk P w K mg base CX0 3 fP fdP ["self", "pieces"] (spProgG K C CP)) (bP : Binds K fdP ["self", "pieces"] []) : FnOk P w K mg base CX0 5 f fd ["self", "other"] (spAddP K C CP) := by
  refine F.ok scAddP (fun vs H Q E h => ?_) (fun cdv A outer s H vs Q E hr h => ?_)
  · obtain ⟨p, q, t1, t2, xs, ys, ds, es, rfl, _⟩ := h
    rfl
  · obtain ⟨p, q, t1, t2, xs, ys, ds, es, rfl, hp, hq, hl, k⟩ := h
    refine ⟨_, (pss_cons (ps_if (pt_not (pt_val (pe_callB call_isi (by rfl) T.isinstance (by decide +kernel) (pa_cons (pv 1) (pa_cons (pe_glob (v := .ref CP) (by rfl) gT rfl) pa_nil))))) pss_never pss_nil)
      (pss_one (ps_ret (pe_make M GP hr (by rfl) gT bP .nil pass0 (pa_cons (pe_op op_catG (pe_fld (pv 0) rfl) (pe_fld (pv 1) rfl)) pa_nil))))), ?_⟩
    obtain ⟨dx2, hq2, ht2, hr2, hl2⟩ := id hq
    obtain ⟨dx1, hp1, ht1, hr1, hl1⟩ := id hp
    refine ⟨_, rfl, _, _, _, _, true, rfl, .own _, c.at hq2, kit_same, _, rfl, iteN rfl ?_⟩
    refine ⟨_, rfl, p, CP, dx1, _, _, rfl, hp1, Z.cl, Z.pieces, rfl, _, rfl, q, CP, dx2, _, _, rfl, hq2, Z.cl, Z.pieces, rfl, t1, t2, xs, ys, rfl, rfl, ht1, ht2, by rw [hr1.1, hr2.1]; omega, fun u H1 s1 hu => fun x dx nx nd ne => ?_⟩
    have zz := (Same.new nd (o := .own x)).trans (Same.new (fresh_own (o := .own x) nx ne) (o := .ins CP dx []))
    have rr := ((hr1.append hr2).same s1)
    refine ⟨x, dx, u, xs ++ ys, rfl, upd_same, .inr (hu.same zz), by rw [List.length_append, hr1.1, hr2.1]; omega, (rr.same zz).isP c0, fun H2 t ht kp hx => ⟨rfl, ?_⟩⟩
    have s2 := made_same nx nd kp
    exact k x t H2 (s1.trans s2) (s1.free nx) ⟨dx, hx, ht, rr.same s2, by rw [List.length_append]; exact hl⟩
theorem fnok_or {CX : CXT} {k : Nat} {f : Addr} {fd : FuncData} {ps : List Str} {s1 s2 : Sp} (F : FnOk P w K mg base CX k f fd ps s1) (G : FnOk P w K mg base CX k f fd ps s2) : FnOk P w K mg base CX k f fd ps (fun vs H Q E => s1 vs H Q E ∨ s2 vs H Q E) :=
  ⟨fun vs H Q E h => h.elim (F.len vs H Q E) (G.len vs H Q E), fun A outer s H args us vs Q E hr e b r h => h.elim (F.run A outer s H args us vs Q E hr e b r) (G.run A outer s H args us vs Q E hr e b r)⟩
theorem fnr_pos {CX : CXT} {k : Nat} {f : Addr} {fd : FuncData} {ps : List Str} {sp : Sp} (F : FnOk P w K mg base CX k f fd ps sp) (hb : ∀ (s : Shared) (us : List Value), us.length = ps.length → BindsTo s fd ⟨us, []⟩ (ps.zip us)) : FnR P w K mg base CX k f sp :=
  fun A outer s H us vs Q E hr e0 r h => F.run A outer s H _ us vs Q E hr e0 (hb s us (by rw [← r.length]; exact F.len _ _ _ _ h)) r h
def spReadE (K : PySem.W.Frag) (C CP : Addr) : Sp := fun vs H Q _ => vs = [.ref CP, .str (progText [])] ∧ ∀ p u xs H', Same H H' → ProgT K C CP H' p u xs [] → Q (.ref p) H'
end
section
variable {X : Cx} {CX : CXT} {k i : Nat} {f C : Addr} {fd : FuncData} {ps : List Str} {sp : Sp} {dvs : List V} {ds : List Value} {E : XK} {x : Str} {p pos : Pos}
theorem pe_makeL0 (M : Mk X.K C f) (F : FnOk X.prog X.w X.K X.mg X.base CX k f fd ps sp) (hr : Room (k + 1) X.A) (hN : X.N[i]? = some x) (hv : Vis X.env.scope x) (hb : Binds X.K fd ps ds) (hd : Vals dvs ds) (hx : Passes CX X E)
    (hdb : (x == ("__debug__" : Str)) = false := by decide) (hcd : (x == ("__classdict__" : Str)) = false := by decide) : PE X (.Call (.Name x p) [] [] pos) (tMakeL i C sp dvs E tNil) := by
  refine ⟨fun pins s σ H Q I h => ?_⟩
  obtain ⟨hs, ht⟩ := h
  refine wpAny_Call_Name_kw (thn ((pe_var (pos := p) hN hv hdb hcd).run pins s σ H (fun v H1 => v = .ref C ∧ H1 = H) I ⟨.ref C, hs, rfl, rfl⟩) fun u s1 ⟨v, H1, I1, r1, q1⟩ => ?_)
  obtain ⟨rfl, rfl⟩ := q1
  cases r1
  exact PySem.W.callWith_K0 I1.kIn M.kp (run_make (us := []) M F hr hb hd hx I1 .nil ht)
end
section
variable {P : Program} {w : World} {K : PySem.W.Frag} {mg : Str → Option Value} {base : Heap}
theorem ok_readE {f fI C CP e : Addr} {fd dI : FuncData} {ds : List Value} (F : Fun K "read" "Program.read" sRead f fd) (B : Bt mg) (M : Mk K CP fI) (GI : FnOk P w K mg base CX0 3 fI dI ["self", "pieces"] (spProgG K C CP)) (hd : Vals [V.ref e] ds) (bI : Binds K dI ["self", "pieces"] ds) (he : ∀ H, TupG K H e []) :
    FnOk P w K mg base CX0 7 f fd ["cls", "text"] (spReadE K C CP) := by
  refine F.ok scRead (fun vs H Q E h => ?_) (fun cdv A outer s H vs Q E hr h => ?_)
  · obtain ⟨rfl, _⟩ := h
    rfl
  · obtain ⟨rfl, k⟩ := h
    have hr4 := hr.mono (show 4 ≤ 6 by decide)
    refine ⟨_, (pss_cons (ps_if (pt_not (pt_val (pe_callB (call_isiK (K := K) rfl) (by rfl) B.isinstance (by decide +kernel) (pa_cons (pv 1) (pa_cons (pe_bltn (v := .ty "str") (by rfl) B.str (by decide +kernel) rfl) pa_nil))))) pss_never pss_nil)
    (pss_cons (ps_if (pt_cmpR op_eq (pv 1) pe_str (nomark _)) (pss_one (ps_ret (pe_makeL0 (i := 0) (E := E0) M GI hr4 rfl (by first | exact .inl rfl | exact .inr rfl) bI hd pass0))) pss_nil)
    pss_never)), ?_⟩
    obtain ⟨ty0, ty, e1⟩ := isT_str (K := K) (H := H) (z := progText [])
    refine ⟨_, rfl, _, _, _, _, _, rfl, .ty _, ty, e1, _, rfl, iteN rfl ?_⟩
    refine ⟨_, rfl, rfl, _, rfl, iteY (by decide +kernel) ?_⟩
    refine ⟨rfl, fun y dx nx nd ne => ?_⟩
    have zz := (Same.new nd (o := .own y)).trans (Same.new (fresh_own (o := .own y) nx ne) (o := .ins CP dx []))
    refine ⟨y, dx, e, [], rfl, upd_same, .inr (he _), Nat.zero_le _, fun v h => (List.not_mem_nil h).elim, fun H2 u hu kp hx => ⟨rfl, ?_⟩⟩
    exact k y u [] H2 (made_same nx nd kp) ⟨dx, hx, hu, PcsAt.nil, Nat.zero_le _⟩
end
end Lay
set_option Elab.async false
set_option linter.all false
set_option maxRecDepth 100000
set_option maxHeartbeats 4000000
set_option pp.maxSteps 1500
namespace Lay
open PySem PySem.Spec PyProof.Rows L2
section
variable {X : Cx} {CX : CXT} {C f : Addr} {n : Nat} {fd : FuncData} {ps : List Str} {sp : Sp} {E : L2.St → XK}
theorem run_subS {A : Around} {pins : List (Addr × Obj)} {σ : L2.St} {H : Hp} {s : Shared} {Q : VK} {us : List Value} {vs : List V} (F : FnOk X.prog X.w X.K X.mg X.base CX n f fd ps sp) (hr : Sub X n A) (hb : Binds X.K fd ps []) (hx : PassesAt CX X σ (E σ))
    (I : Inv X pins σ H s) (r : Vals vs us) (h : sp vs H Q (E σ)) : wpAny (model X.prog X.w) A (call (.ref f) us) (EP X pins σ Q) X.xe s := by
  have hl : us.length = ps.length := by rw [← r.length]; exact F.len _ _ _ _ h
  have b := hb s us I.kIn (by rw [List.append_nil]; exact hl)
  rw [List.append_nil] at b
  have e := I.env0
  have e0 : Env0 X.prog X.w X.K X.mg X.base A X.stack s H := ⟨by rw [hr.fr]; exact e.frames, e.mod, e.bs, e.bsz, e.funs, e.frf, e.hok, e.bare⟩
  refine wpAny_call (codeAny_mono (F.run A X.stack s H ⟨us, []⟩ us vs Q (E σ) hr.room e0 b r h) fun r s' hq => ?_)
  cases r with
  | error er => exact hx pins H s er s' I hq
  | ok fl =>
    cases fl with
    | ret u => exact I.after hq
    | next => exact False.elim hq
    | brk => exact False.elim hq
    | cont => exact False.elim hq
def tIxO (C : Addr) (sp : Sp) (E : L2.St → XK) (ta tb : TE) : TE := fun σ H Q => ta σ H fun x H1 => tb σ H1 fun y H2 => ∃ a dx fs, x = .ref a ∧ H2 a = some (.ins C dx fs) ∧ sp [.ref a, y] H2 Q (E σ)
/-- a[b] by its __getitem__ -/
theorem pe_ixO {a b : Expr} {ta tb : TE} {pos : Pos} (F : FnOk X.prog X.w X.K X.mg X.base CX n f fd ps sp) (hs : PySem.W.findIn X.K (.ref C) "__getitem__" = some (some (.ref f))) (hfi : PySem.W.fnIn X.K f = true) (hf : PySem.W.isFn X.K (.ref f) = true) (hr : Room (n + 1) X.A) (hb : Binds X.K fd ps [])
    (hx : ∀ σ, PassesAt CX X σ (E σ)) (ha : PE X a ta) (hbx : PE X b tb) (hsl : ∀ x i, subscripted b true (.ref x) i = runValue (.builtin "lifetime.subscript" ⟨[.ref x, i], []⟩) := by intros; with_unfolding_all rfl) : PE X (.Subscript a b pos) (tIxO C sp E ta tb) := by
  refine ⟨fun pins s σ H Q I h => ?_⟩
  refine Subscript_ (binT ha hbx I (R := fun x y H2 => ∃ a dx fs, x = .ref a ∧ H2 a = some (.ins C dx fs) ∧ sp [.ref a, y] H2 Q (E σ)) h fun v u s2 x y H2 I2 rx ry q => ?_)
  obtain ⟨p, dx, fs, rfl, hp, q⟩ := q
  cases rx
  obtain ⟨mA, J, _⟩ := ins_get I2.hok hp
  obtain ⟨od, J, _⟩ := J.look
  obtain ⟨m, hF⟩ := I2.fr
  exact PySem.W.sub_K hF I2.ok.mod.kin J hs hfi hf (run_subS (vs := [V.ref p, y]) F ⟨hr.in1, rfl⟩ hb (hx σ) I2 (.cons rfl (.cons ry .nil)) q) (hsl _ _)
theorem passE0 {σ : L2.St} : PassesAt CX0 X σ ((fun _ => E0) σ) := fun _ _ _ _ _ _ h => h.elim
end
end Lay
set_option Elab.async false
set_option linter.all false
set_option maxRecDepth 100000
set_option maxHeartbeats 4000000
set_option pp.maxSteps 900
namespace Lay
open PySem TxL
/-! Rows cut up: what a cut tells of the row. -/
theorem s_assoc (a b c : Str) : a ++ b ++ c = a ++ (b ++ c) := L_inj (by rw [L_app, L_app, L_app, L_app, List.append_assoc])
theorem start_inv {x y : Str} (h : Txt.startswith x y = true) : x = y ++ Txt.removeprefix x y := by
  have h1 := start_iff.mp h
  have e : x = y ++ ⟨((L x).drop y.length).toArray⟩ := L_inj (by
    rw [L_app, ← h1]
    show L x = _ ++ (((L x).drop y.length).toArray).toList
    rw [List.toList_toArray, List.take_append_drop])
  rw [e, pre_app]
theorem end_inv {x y : Str} (h : Txt.endswith x y = true) : x = Txt.removesuffix x y ++ y := by
  obtain ⟨h0, h1⟩ := end_iff.mp h
  have e : x = ⟨((L x).take (x.length - y.length)).toArray⟩ ++ y := L_inj (by
    rw [L_app, ← h1]
    show L x = (((L x).take (x.length - y.length)).toArray).toList ++ _
    rw [List.toList_toArray, List.take_append_drop])
  rw [e, suf_app]
theorem part_inv {x y : Str} (h : (Txt.partition x y).2.1.length ≠ 0) : x = (Txt.partition x y).1 ++ y ++ (Txt.partition x y).2.2 ∧ (Txt.partition x y).2.1 = y ∧ ∀ k, k < (Txt.partition x y).1.length → ¬ StrLaws.At x y x.length k := by
  unfold Txt.partition at h ⊢
  rcases StrLaws.occ_head x y 1 (Nat.le_refl 1) with ⟨e, _⟩ | ⟨i, r, e, hi, hk⟩
  · rw [e] at h
    exact absurd rfl h
  · rw [e]
    obtain ⟨h1, h2⟩ := at_iff.mp hi
    refine ⟨L_inj ?_, rfl, fun k hl => hk k ?_⟩
    · show L x = L (Builtin.Str.strSub x 0 i ++ y ++ Builtin.Str.strSub x (i + y.length) x.length)
      rw [L_app, L_app, L_sub, L_sub, List.drop_zero, Nat.sub_zero, ← h2]
      rw [List.take_of_length_le (l := List.drop (i + y.length) (L x)) (by rw [List.length_drop, L_len]; exact Nat.le_refl _), List.append_assoc, ← List.drop_drop, List.take_append_drop, List.take_append_drop]
    · have : (Builtin.Str.strSub x 0 i).length = i := by
        rw [← L_len, L_sub, List.drop_zero, Nat.sub_zero, List.length_take, L_len]
        omega
      rw [this] at hl
      exact hl
theorem part_inv0 {x y : Str} (hy : y.length ≠ 0) (h : (Txt.partition x y).2.1.length = 0) : (Txt.partition x y).1 = x ∧ (Txt.partition x y).2.2 = Str.ofString "" ∧ ∀ k, ¬ StrLaws.At x y x.length k := by
  unfold Txt.partition at h ⊢
  rcases StrLaws.occ_head x y 1 (Nat.le_refl 1) with ⟨e, hn⟩ | ⟨i, r, e, hi, hk⟩
  · rw [e]
    exact ⟨rfl, rfl, hn⟩
  · rw [e] at h
    exact absurd h hy
/-! ### slices -/
section
variable {z : Str}
theorem cL (lo hi : Option Int) : L (Txt.slice z lo hi) = ((L z).drop (HT.sIx z.length 0 lo)).take (HT.sIx z.length z.length hi - HT.sIx z.length 0 lo) := by
  rw [← C8.cutS_slice]
  unfold L L2.cutS
  rw [List.toList_toArray]
theorem c_pre (n : Nat) : L (Txt.slice z none (some (n : Int))) = (L z).take n := by
  rw [cL, HT.sIx_none, HT.sIx_nat, List.drop_zero, Nat.sub_zero, ← L_len]
  rcases Nat.le_total n (L z).length with h | h
  · rw [Nat.min_eq_left h]
  · rw [Nat.min_eq_right h, List.take_length, List.take_of_length_le h]
theorem c_suf (n : Nat) : L (Txt.slice z (some (n : Int)) none) = (L z).drop n := by
  rw [cL, HT.sIx_none, HT.sIx_nat, ← L_len]
  rcases Nat.le_total n (L z).length with h | h
  · rw [Nat.min_eq_left h, List.take_of_length_le (by rw [List.length_drop]; exact Nat.le_refl _)]
  · rw [Nat.min_eq_right h, List.drop_length, List.drop_of_length_le h, List.take_nil]
theorem c_mid (i j : Nat) : L (Txt.slice z (some (i : Int)) (some (j : Int))) = ((L z).drop i).take (j - i) := by
  rw [cL, HT.sIx_nat, HT.sIx_nat, ← L_len]
  rcases Nat.le_total i (L z).length with h | h
  · rw [Nat.min_eq_left h]
    rcases Nat.le_total j (L z).length with h2 | h2
    · rw [Nat.min_eq_left h2]
    · rw [Nat.min_eq_right h2, List.take_of_length_le (by rw [List.length_drop]; exact Nat.le_refl _), List.take_of_length_le (by rw [List.length_drop]; omega)]
  · rw [Nat.min_eq_right h, List.drop_length, List.drop_of_length_le h, List.take_nil, List.take_nil]
theorem six_m1 (n d : Nat) : HT.sIx n d (some (-1)) = n - 1 := by
  show (if (-1 : Int) < 0 then ((-1 : Int) + (n : Int)).toNat else min (-1 : Int).toNat n) = n - 1
  rw [if_pos (by decide)]
  omega
theorem c_init : L (Txt.slice z none (some (-1))) = (L z).take (z.length - 1) := by
  rw [cL, HT.sIx_none, six_m1, List.drop_zero, Nat.sub_zero]
theorem c_last : L (Txt.slice z (some (-1)) none) = (L z).drop (z.length - 1) := by
  rw [cL, HT.sIx_none, six_m1, List.take_of_length_le]
  rw [List.length_drop, L_len]
  omega
theorem c_midm (i : Nat) : L (Txt.slice z (some (i : Int)) (some (-1))) = ((L z).take (z.length - 1)).drop i := by
  rw [cL, six_m1, HT.sIx_nat, List.drop_take]
  rcases Nat.le_total i z.length with h | h
  · rw [Nat.min_eq_left h]
  · rw [Nat.min_eq_right h, List.drop_of_length_le (l := L z) (i := i) (by rw [L_len]; exact h), List.drop_of_length_le (l := L z) (i := z.length) (by rw [L_len]; exact Nat.le_refl _), List.take_nil, List.take_nil]
end
/-! ### find -/
theorem mem_first {c : Nat} {x : Str} (h : c ∈ L x) : ∃ a b : Str, x = a ++ ⟨#[c]⟩ ++ b ∧ c ∉ L a := by
  obtain ⟨as, bs, e, hn⟩ := List.eq_append_cons_of_mem h
  refine ⟨⟨as.toArray⟩, ⟨bs.toArray⟩, L_inj ?_, by show c ∉ as.toArray.toList; rw [List.toList_toArray]; exact hn⟩
  rw [L_app, L_app, e]
  show _ = as.toArray.toList ++ [c] ++ bs.toArray.toList
  rw [List.toList_toArray, List.toList_toArray, List.append_assoc]
  rfl
theorem find_at {a b : Str} {c : Nat} (h : c ∉ L a) : Txt.find (a ++ ⟨#[c]⟩ ++ b) ⟨#[c]⟩ = a.length := by
  unfold Txt.find
  rcases StrLaws.occ_head (a ++ ⟨#[c]⟩ ++ b) ⟨#[c]⟩ 1 (Nat.le_refl 1) with ⟨_, hn⟩ | ⟨i, r, e, hi, hk⟩
  · exact absurd (at_mid a ⟨#[c]⟩ b) (hn _)
  · rw [e]
    have ei : i = a.length := by
      rcases Nat.lt_trichotomy i a.length with l | l | l
      · have g := at_get (j := 0) (c := c) hi rfl
        rw [Nat.add_zero, L_app, L_app, List.append_assoc, List.getElem?_append_left (by rw [L_len]; exact l)] at g
        exact absurd (List.mem_of_getElem? g) h
      · exact l
      · exact absurd (at_mid a ⟨#[c]⟩ b) (hk _ l)
    rw [ei]
theorem find_no {x : Str} {c : Nat} (h : c ∉ L x) : Txt.find x ⟨#[c]⟩ = -1 := by
  unfold Txt.find
  rcases StrLaws.occ_head x ⟨#[c]⟩ 1 (Nat.le_refl 1) with ⟨e, hn⟩ | ⟨i, r, e, hi, hk⟩
  · rw [e]
  · have g := at_get (j := 0) (c := c) hi rfl
    exact absurd (List.mem_of_getElem? g) h
end Lay
set_option Elab.async false
set_option linter.all false
set_option maxRecDepth 100000
set_option maxHeartbeats 4000000
set_option pp.maxSteps 900
namespace Lay
open PySem PySem.Spec PyProof.Rows L2
/-! a def by its name, whatever it comes to; what is raised with a number -/
def HasR (P : Program) (w : World) (K : PySem.W.Frag) (mg : Str → Option Value) (base : Heap) (CX : CXT) (k : Nat) (n : Str) (sp : Sp) : Prop :=
  ∃ f, FnR P w K mg base CX k f sp ∧ mg n = some (.ref f) ∧ PySem.W.keepIn K (.ref f) = true
section
variable {P : Program} {w : World} {K : PySem.W.Frag} {mg : Str → Option Value} {base : Heap} {n : Str} {ps : List Str} {k : Nat} {sp s1 s2 : Sp} {CX : CXT}
theorem Has.r (h : Has P w K mg base CX k n ps sp) : HasR P w K mg base CX k n sp := by
  obtain ⟨f, fd, F, g, kp, b⟩ := h
  exact ⟨f, (F.raw b .nil).imp (fun vs H Q E h => by rw [List.append_nil]; exact h), g, kp⟩
theorem HasR.up (h : HasR P w K mg base CX0 k n sp) : HasR P w K mg base CX k n sp := by
  obtain ⟨f, F, g, kp⟩ := h
  refine ⟨f, fun A outer s H us vs Q E hr e0 r hs => codeAny_mono (F A outer s H us vs Q E hr e0 r hs) fun r s' hq => ?_, g, kp⟩
  cases r with
  | error e => exact hq.elim
  | ok fl => cases fl <;> exact hq
theorem HasR.or (h1 : HasR P w K mg base CX k n s1) (h2 : HasR P w K mg base CX k n s2) : HasR P w K mg base CX k n (fun vs H Q E => s1 vs H Q E ∨ s2 vs H Q E) := by
  obtain ⟨f, F, g, kp⟩ := h1
  obtain ⟨f2, F2, g2, _⟩ := h2
  rw [g] at g2
  cases g2
  exact ⟨f, fun A outer s H us vs Q E hr e0 r hs => hs.elim (F A outer s H us vs Q E hr e0 r) (F2 A outer s H us vs Q E hr e0 r), g, kp⟩
end
section
variable {X : Cx} {CX : CXT} {k : Nat} {sp : Sp} {E : XK} {n : Str} {p pos : Pos} {e : Expr} {es : List Expr} {t : TA}
theorem pe_callR (D : HasR X.prog X.w X.K X.mg X.base CX k n sp) (hr : Room k X.A) (hg : Gl X n) (hx : Passes CX X E) (ha : PA X (e :: es) t) (hdb : (n == ("__debug__" : Str)) = false := by decide)
    (he : starEach (e :: es) X.env = (false, eval e X.env) :: starEach es X.env := by rfl) (hpl : (backTo pos (starEach es X.env)).any (·.1) = false := by rfl) : PE X (.Call (.Name n p) (e :: es) [] pos) (tCall sp [] E t) := by
  obtain ⟨f, F, g, kp⟩ := D
  refine ⟨fun pins s σ H Q I h => ?_⟩
  refine wpAny_Call_Name_kw (ld_glob I hg g ?_ hdb)
  refine PySem.W.callWith_K (h₀ := X.base) I.ok.mod.kin kp (thn (ha.run pos pins s σ H _ I h) fun us s1 ⟨vs, H1, I1, r, q⟩ => ⟨I1.kIn, ?_⟩) he hpl
  have q : sp (vs ++ []) H1 Q E := q
  rw [List.append_nil] at q
  exact wpAny_call (run_fnR F hr hx I1 r q)
end
def RaisedA (D : Addr) (H : Hp) (v : V) (E : XK) : Prop := ∀ H' d, Same H H' → H d = none → H' d = some (.xd [("at", v)]) → E (.ref D) (some d) H'
theorem RaisedA.same {D : Addr} {H H' : Hp} {v : V} {E : XK} (s : Same H H') (h : RaisedA D H v E) : RaisedA D H' v E := fun G d s2 n e => h G d (s.trans s2) (s.free n) e
abbrev sIText : Stmt := inClass (top 5) 0
section
variable {P : Program} {w : World} {K : PySem.W.Frag} {mg : Str → Option Value} {base : Heap}
theorem scIText : FnScope ["self", "at"] ["self", "at"] (defScope sIText) := ⟨rfl, rfl, rfl, by decide +kernel, rfl, by decide +kernel, by decide +kernel⟩
theorem ok_iText {f C : Addr} {fd : FuncData} (F : Fun K "__init__" "InvalidText.__init__" sIText f fd) : FnOk P w K mg base CX0 1 f fd ["self", "at"] (spInit K C "at") := by
  refine F.ok scIText (fun vs H Q E h => ?_) (fun cdv A outer s H vs Q E hr h => ?_)
  · obtain ⟨a, v, rfl, _⟩ := h
    rfl
  · obtain ⟨a, v, rfl, T, no, ha, k⟩ := h
    exact ⟨_, pss_one (ps_ost (pv 0) (pv 1)), _, rfl, _, rfl, a, C, rfl, T, no, .inl ⟨ha, fun dx h1 h2 => k dx h1 h2⟩⟩
end
/-- InvalidText, to be raised -/
def ErrT (P : Program) (w : World) (K : PySem.W.Frag) (mg : Str → Option Value) (base : Heap) (D : Addr) : Prop := ∃ fI fdI, XC K mg D fI "InvalidText" "at" ∧ FnOk P w K mg base CX0 1 fI fdI ["self", "at"] (spInit K D "at") ∧ Binds K fdI ["self", "at"] []
/-! ### which rows are refused -/
theorem row_err {rows : List Str} {i e : Nat} (h : rowR rows i = .error e) (l : i ≤ rows.length) : e = i ∧ i = rows.length := by
  unfold rowR at h
  split at h
  · cases h
  · rename_i q
    cases h
    have := List.getElem?_eq_none_iff.mp q
    exact ⟨rfl, by omega⟩
theorem row_lt {rows : List Str} {i : Nat} {r : Str} (h : rowR rows i = .ok r) : i < rows.length := (List.getElem?_eq_some_iff.mp (rowR_ok h)).1
theorem row_at {rows : List Str} {i : Nat} (h : i < rows.length) : ∃ r, rowR rows i = .ok r := by
  unfold rowR
  rw [List.getElem?_eq_getElem h]
  exact ⟨_, rfl⟩
theorem row_end {rows : List Str} : rowR rows rows.length = .error rows.length := by
  unfold rowR
  rw [List.getElem?_eq_none_iff.mpr (Nat.le_refl _)]
theorem blanks_err {rows : List Str} {i e : Nat} (h : blanksR rows i = .error e) (l : i ≤ rows.length) : ∃ c, c < 2 ∧ e = i + c ∧ i + c = rows.length ∧ ∀ c', c' < c → ∃ r, rowR rows (i + c') = .ok r ∧ r.length = 0 := by
  unfold blanksR at h
  split at h
  · rename_i e2 he
    cases h
    obtain ⟨h1, h2⟩ := row_err he l
    exact ⟨0, by decide, h1, h2, fun c hc => absurd hc (by omega)⟩
  · rename_i r hr
    split at h
    · cases h
    · rename_i q
      split at h
      · rename_i e2 he
        cases h
        have := row_lt hr
        obtain ⟨h1, h2⟩ := row_err he (by omega)
        refine ⟨1, by decide, h1, h2, fun c hc => ?_⟩
        obtain rfl : c = 0 := by omega
        exact ⟨r, hr, by omega⟩
      · split at h <;> cases h
theorem ahead_err {rows : List Str} {i e : Nat} (h : aheadR rows i = .error e) (l : i ≤ rows.length) : e = i ∧ (i = rows.length ∨ ∃ r, rowR rows i = .ok r ∧ Txt.startswith r "# " = true ∧ nameB (Txt.removeprefix r "# ") = false) := by
  unfold aheadR at h
  split at h
  · rename_i e2 he
    cases h
    obtain ⟨h1, h2⟩ := row_err he l
    exact ⟨h1, .inl h2⟩
  · rename_i r hr
    split at h
    · rename_i q
      split at h
      · cases h
      · rename_i n
        cases h
        exact ⟨rfl, .inr ⟨r, hr, q, by simpa using n⟩⟩
    · cases h
theorem head_err {rows : List Str} {i e : Nat} (h : headR rows i = .error e) (l : i ≤ rows.length) : e = i ∧ (i = rows.length ∨ ∃ r, rowR rows i = .ok r ∧ ((Txt.partition (Txt.removeprefix r "!") "(").2.1.length = 0 ∨ nameB (Txt.partition (Txt.removeprefix r "!") "(").1 = false)) := by
  unfold headR at h
  split at h
  · rename_i e2 he
    cases h
    obtain ⟨h1, h2⟩ := row_err he l
    exact ⟨h1, .inl h2⟩
  · rename_i r hr
    simp only at h
    split at h
    · rename_i q
      cases h
      exact ⟨rfl, .inr ⟨r, hr, q⟩⟩
    · cases h
theorem remark_err {t : Str} {i e : Nat} (h : remarkR t i = .error e) : e = i ∧ (Txt.partition t "  # ").2.1.length ≠ 0 ∧ nameB (Txt.partition t "  # ").2.2 = false := by
  unfold remarkR at h
  simp only at h
  split at h
  · rename_i q
    cases h
    exact ⟨rfl, q⟩
  · cases h
theorem item_err {rows : List Str} {i e : Nat} (h : itemR rows i = .error e) (l : i ≤ rows.length) : e = i ∧ (i = rows.length ∨ ∃ r, rowR rows i = .ok r ∧ (Txt.startswith r "  " = false ∨ nameB (Txt.removesuffix (Txt.removeprefix r "  ") ",") = false)) := by
  unfold itemR at h
  split at h
  · rename_i e2 he
    cases h
    obtain ⟨h1, h2⟩ := row_err he l
    exact ⟨h1, .inl h2⟩
  · rename_i r hr
    simp only at h
    split at h
    · rename_i q
      cases h
      exact ⟨rfl, .inr ⟨r, hr, q⟩⟩
    · cases h
theorem flat_err {t : Str} {i e : Nat} (h : flatR t i = .error e) : e = i ∧ (remarkR t i = .error i ∨ ∃ body b, remarkR t i = .ok (body, b) ∧ (Txt.endswith body ")" = false ∨ (Txt.split (Txt.removesuffix (Txt.removesuffix body ")") ",") ", ").all nameB = false)) := by
  unfold flatR at h
  split at h
  · rename_i e2 he
    cases h
    have := (remark_err he).1
    subst this
    exact ⟨rfl, .inl he⟩
  · rename_i body b hb
    simp only at h
    split at h
    · rename_i q
      cases h
      exact ⟨rfl, .inr ⟨body, b, hb, q⟩⟩
    · cases h
/-- what stands behind the items zs, the row at next; n rows of items at most -/
def goR (rows : List Str) : Nat → Nat → List Str → Bool → Rd (List Str × Bool × Str × Nat)
  | 0, i, zs, m => match rowR rows i with
    | .error e => .error e
    | .ok r => if m = true ∧ Txt.startswith r "  " = true then .error i else match remarkR r i with
      | .error e => .error e
      | .ok (body, b) => if body = Str.ofString ")" then .ok (zs, m, b, i + 1) else .error i
  | n + 1, i, zs, m => match rowR rows i with
    | .error e => .error e
    | .ok r => if m = true ∧ Txt.startswith r "  " = true then (match itemR rows i with
        | .error e => .error e
        | .ok (p, c) => goR rows n (i + 1) (zs ++ [p]) c) else match remarkR r i with
      | .error e => .error e
      | .ok (body, b) => if body = Str.ofString ")" then .ok (zs, m, b, i + 1) else .error i
def endR (rows : List Str) (i : Nat) (zs : List Str) (m : Bool) : Rd (List Str × Bool × Str × Nat) := match rowR rows i with
  | .error e => .error e
  | .ok r => match remarkR r i with
    | .error e => .error e
    | .ok (body, b) => if body = Str.ofString ")" then .ok (zs, m, b, i + 1) else .error i
theorem go_false {rows : List Str} {n i : Nat} {zs : List Str} : goR rows n i zs false = endR rows i zs false := by
  unfold endR
  cases n <;> (unfold goR; cases rowR rows i <;> rfl)
theorem go_end {rows : List Str} {n i : Nat} {zs : List Str} {m : Bool} {r : Str} (h : rowR rows i = .ok r) (s : Txt.startswith r "  " = false) : goR rows n i zs m = endR rows i zs m := by
  unfold endR
  cases n <;> (unfold goR; rw [h]; simp only [s]; rw [if_neg (by simp)])
theorem go_no {rows : List Str} {n i e : Nat} {zs : List Str} {m : Bool} (h : rowR rows i = .error e) : goR rows n i zs m = .error e := by
  cases n <;> (unfold goR; rw [h])
theorem go_items {rows : List Str} : ∀ (n i : Nat) (zs : List Str), (match itemsR rows n i with
    | .error e => (.error e : Rd (List Str × Bool × Str × Nat))
    | .ok (ps, c) => endR rows (i + ps.length) (zs ++ ps) c) = match n with
    | 0 => .error i
    | m + 1 => match itemR rows i with
      | .error e => .error e
      | .ok (p, c) => goR rows m (i + 1) (zs ++ [p]) c
  | 0, i, zs => rfl
  | n + 1, i, zs => by
    simp only
    unfold itemsR
    cases h : itemR rows i with
    | error e => rfl
    | ok pc =>
      obtain ⟨p, c⟩ := pc
      cases c with
      | false =>
        simp only
        rw [go_false]
        rfl
      | true =>
        simp only
        cases hr : rowR rows (i + 1) with
        | error e =>
          simp only
          rw [go_no hr]
        | ok r =>
          simp only
          by_cases s : Txt.startswith r "  " = false
          · rw [if_pos s, go_end hr s]
            rfl
          · rw [if_neg s]
            have ih := go_items (rows := rows) n (i + 1) (zs ++ [p])
            have s2 : Txt.startswith r "  " = true := by simpa using s
            cases n with
            | zero =>
              unfold goR itemsR
              rw [hr]
              simp only
              rw [if_pos ⟨trivial, s2⟩]
            | succ m =>
              unfold goR
              rw [hr]
              simp only
              rw [if_pos ⟨trivial, s2⟩]
              refine Eq.trans ?_ ih
              cases itemsR rows (m + 1) (i + 1) with
              | error e => rfl
              | ok q =>
                obtain ⟨ps, c⟩ := q
                simp only
                rw [List.append_assoc, List.length_cons, show i + (ps.length + 1) = i + 1 + ps.length by omega]
                rfl
theorem broken_go {rows : List Str} {i : Nat} (h : rows.length ≠ 0) : brokenR rows i = match itemR rows i with
    | .error e => .error e
    | .ok (p, c) => goR rows (rows.length - 1) (i + 1) [p] c := by
  have := go_items (rows := rows) rows.length i []
  obtain ⟨n, e⟩ : ∃ n, rows.length = n + 1 := ⟨rows.length - 1, by omega⟩
  rw [e] at this ⊢
  rw [show n + 1 - 1 = n by omega]
  have e2 : brokenR rows i = (match itemsR rows (n + 1) i with
    | .error e => (.error e : Rd (List Str × Bool × Str × Nat))
    | .ok (ps, c) => endR rows (i + ps.length) ([] ++ ps) c) := by
    unfold brokenR endR
    rw [e]
    cases itemsR rows (n + 1) i with
    | error e => rfl
    | ok q =>
      obtain ⟨ps, c⟩ := q
      simp only
      rfl
  rw [e2, this]
  rfl
theorem piece_err {rows : List Str} {i e : Nat} (h : pieceR rows i = .error e) : blanksR rows i = .error e ∨ ∃ b, blanksR rows i = .ok b ∧ (aheadR rows (i + b) = .error e ∨ ∃ a j, aheadR rows (i + b) = .ok a ∧ j = (if a.length ≠ 0 then i + b + 1 else i + b) ∧ (headR rows j = .error e ∨ ∃ w l rest, headR rows j = .ok (w, l, rest) ∧ ((rest.length = 0 ∧ brokenR rows (j + 1) = .error e) ∨ (rest.length ≠ 0 ∧ flatR rest j = .error e)))) := by
  unfold pieceR at h
  split at h
  · rename_i e2 he
    cases h
    exact .inl he
  · rename_i b hb
    refine .inr ⟨b, hb, ?_⟩
    split at h
    · rename_i e2 he
      cases h
      exact .inl he
    · rename_i a ha
      simp only at h
      refine .inr ⟨a, _, ha, rfl, ?_⟩
      split at h
      · rename_i e2 he
        cases h
        exact .inl he
      · rename_i w l rest hh
        refine .inr ⟨w, l, rest, hh, ?_⟩
        split at h
        · rename_i q
          refine .inl ⟨q, ?_⟩
          split at h
          · rename_i e2 he
            cases h
            exact he
          · cases h
        · rename_i q
          refine .inr ⟨q, ?_⟩
          split at h
          · rename_i e2 he
            cases h
            exact he
          · cases h
end Lay
set_option Elab.async false
set_option linter.all false
set_option maxRecDepth 100000
set_option maxHeartbeats 4000000
set_option pp.maxSteps 900
namespace Lay
open PySem PySem.Spec PyProof.Rows L2
/-! the defs that read, where a row is refused -/
def Few (rows : List Str) : Prop := rows.length ≤ 900 ∧ ∀ r ∈ rows, r.length ≤ 900
def spXRow (K : PySem.W.Frag) (D : Addr) : Sp := fun vs H _ E => ∃ (l : Addr) (rows : List Str), vs = [.ref l, .int rows.length] ∧ RowsAt K H l rows ∧ RaisedA D H (.int rows.length) E
def spXBl (K : PySem.W.Frag) (D : Addr) : Sp := fun vs H _ E => ∃ (l : Addr) (rows : List Str) (i e : Nat), vs = [.ref l, .int i] ∧ RowsAt K H l rows ∧ i ≤ rows.length ∧ blanksR rows i = .error e ∧ RaisedA D H (.int e) E
def spXAh (K : PySem.W.Frag) (D : Addr) : Sp := fun vs H _ E => ∃ (l : Addr) (rows : List Str) (i e : Nat), vs = [.ref l, .int i] ∧ RowsAt K H l rows ∧ i ≤ rows.length ∧ aheadR rows i = .error e ∧ RaisedA D H (.int e) E
def spXHd (K : PySem.W.Frag) (D : Addr) : Sp := fun vs H _ E => ∃ (l : Addr) (rows : List Str) (i e : Nat), vs = [.ref l, .int i] ∧ RowsAt K H l rows ∧ i ≤ rows.length ∧ headR rows i = .error e ∧ RaisedA D H (.int e) E
def spXIt (K : PySem.W.Frag) (D : Addr) : Sp := fun vs H _ E => ∃ (l : Addr) (rows : List Str) (i e : Nat), vs = [.ref l, .int i] ∧ RowsAt K H l rows ∧ i ≤ rows.length ∧ itemR rows i = .error e ∧ RaisedA D H (.int e) E
def spXSpl (D : Addr) : Sp := fun vs H _ E => ∃ (t : Str) (i e : Nat), vs = [.str t, .int i] ∧ t.length ≤ 1000000 ∧ remarkR t i = .error e ∧ RaisedA D H (.int e) E
def spXFl (D : Addr) : Sp := fun vs H _ E => ∃ (t : Str) (i e : Nat), vs = [.str t, .int i] ∧ t.length ≤ 900 ∧ flatR t i = .error e ∧ RaisedA D H (.int e) E
theorem join_ge (sep : Str) (h : 0 < sep.length) : ∀ (ps : List Str), ps.length ≤ (Str.join sep ps).length + 1
  | [] => Nat.zero_le _
  | [p] => by show 1 ≤ p.length + 1; omega
  | p :: q :: r => by
    have := join_ge sep h (q :: r)
    have e : (Str.join sep (p :: q :: r)).length = p.length + sep.length + (Str.join sep (q :: r)).length := by
      show (p ++ sep ++ Str.join sep (q :: r)).length = _
      rw [Str.length_append, Str.length_append]
    rw [e, List.length_cons]
    omega
theorem split_few {x sep : Str} (h : 0 < sep.length) : (Txt.split x sep).length ≤ x.length + 1 := by
  have := join_ge sep h (Txt.split x sep)
  rw [StrLaws.join_split] at this
  exact this
theorem split_each {x sep : Str} (h : 0 < sep.length) : ∀ p ∈ Txt.split x sep, p.length ≤ x.length := by
  have key : ∀ (ps : List Str), ∀ p ∈ ps, p.length ≤ (Str.join sep ps).length := by
    intro ps
    induction ps with
    | nil => intro p hp; exact (List.not_mem_nil hp).elim
    | cons q r ih =>
      intro p hp
      cases r with
      | nil =>
        rw [List.mem_singleton] at hp
        rw [hp]
        exact Nat.le_refl _
      | cons y ys =>
        have e : (Str.join sep (q :: y :: ys)).length = q.length + sep.length + (Str.join sep (y :: ys)).length := by
          show (q ++ sep ++ Str.join sep (y :: ys)).length = _
          rw [Str.length_append, Str.length_append]
        rcases List.mem_cons.mp hp with hp | hp
        · rw [hp, e]
          omega
        · have := ih p hp
          omega
  intro p hp
  have := key _ p hp
  rw [StrLaws.join_split] at this
  exact this
theorem nmbs_any {K : PySem.W.Frag} {H : Hp} {ps : List Str} (h : ∀ p ∈ ps, p.length ≤ 1000000) : NmBs K H (ps.map V.str) (ps.map nameB) := by
  refine ⟨by rw [List.length_map, List.length_map], fun i x b h1 h2 => ?_⟩
  rw [List.getElem?_map] at h1 h2
  cases e : ps[i]? with
  | none =>
    rw [e] at h1
    cases h1
  | some z =>
    rw [e] at h1 h2
    cases h1
    cases h2
    exact .inl ⟨z, rfl, fitsN (h z (List.mem_of_getElem? e)), rfl⟩
section
variable {P : Program} {w : World} {K : PySem.W.Frag} {mg : Str → Option Value} {base : Heap}
theorem has_rowAtX {D : Addr} (B : Bt mg) (Y : ErrT P w K mg base D) (F : Dfn K mg "row_at" sRowAt raP) : Has P w K mg base (L2.CX P w) 3 "row_at" raP (spXRow K D) := by
  obtain ⟨fI, dI, Y, GI, bI⟩ := Y
  refine F.hasX scRowAt (fun vs H Q E h => ?_) (fun f cdv A outer s H vs Q E hr h => ?_)
  · obtain ⟨l, rows, rfl, _⟩ := h
    rfl
  · obtain ⟨l, rows, rfl, hs, k⟩ := h
    refine ⟨_, (pss_cons (ps_if (pt_cmpR op_eq (pv 1) (pe_callB (call_lenK (K := K) rfl) (by rfl) B.len PySem.boot_len (pa_cons (pv 0) pa_nil)) (nomark _)) (pss_one (ps_raise rfl (takes_of rfl rfl rfl rfl) (pmk_oex Y.oex Y.init Y.tI GI hr bI .nil pass0 (by rfl) Y.gC (pa_cons (pv 1) pa_nil)))) pss_nil) pss_never), ?_⟩
    exact ⟨_, rfl, _, rfl, l, _, rfl, .inl hs.1, rfl, _, rfl, iteY (by rw [List.length_map]; exact decide_eq_true rfl) ⟨_, rfl, (by show 1 ≤ 1000; decide), fun a ha => raised_at Y.oex Y.no ha k⟩⟩
theorem has_RBlX {D : Addr} (DR : HasR P w K mg base (L2.CX P w) 3 "row_at" (fun vs H Q E => spRowAt K vs H Q E ∨ spXRow K D vs H Q E)) (F : Dfn K mg "read_blanks" sRBl raP) : Has P w K mg base (L2.CX P w) 4 "read_blanks" raP (spXBl K D) := by
  refine F.hasX scRBl (fun vs H Q E h => ?_) (fun f cdv A outer s H vs Q E hr h => ?_)
  · obtain ⟨l, rows, i, e, rfl, _⟩ := h
    rfl
  · obtain ⟨l, rows, i, e, rfl, hs, il, hb, k⟩ := h
    refine ⟨_, (pss_cons (ps_set (i := 2) scRBl.nd rfl (.inl rfl) pe_int)
      (pss_cons (ps_while (passes_of rfl) (PW.pt (pw_and (pt_cmpR op_lt (pv 2) pe_int (nomark _)) (pw_and1 (pt_cmpR op_eq (pe_callR (E := E) DR hr (by rfl) (passes_call (takes_of rfl rfl rfl rfl) fun _ _ _ _ h => h) (pa_cons (pv 0) (pa_cons (pe_op op_add (pv 1) (pv 2)) pa_nil))) pe_str (nomark _)))))
        (pss_one (ps_aug (i := 2) scRBl.nd rfl (.inl rfl) pe_int ip_add)))
      (pss_one (ps_ret (pv 2))))), ?_⟩
    obtain ⟨b, b2, rfl, eb, hz⟩ := blanks_err hb il
    refine ⟨fun m σ' H' => ∃ c : Nat, m = 2 - c ∧ c ≤ b ∧ σ' = [some (.ref l), some (.int i), some (.int c)] ∧ H' = H, ⟨_, 0, rfl, Nat.zero_le _, rfl, rfl⟩, ?_⟩
    rintro m σ' H' ⟨c, rfl, hc, rfl, rfl⟩
    refine ⟨_, rfl, _, _, rfl, rfl, _, rfl, iteY (decide_eq_true (by omega)) ?_⟩
    refine ⟨_, rfl, _, rfl, _, rfl, _, _, rfl, rfl, ?_⟩
    by_cases q : c < b
    · obtain ⟨r, h1, h3⟩ := hz c q
      refine .inl ⟨l, rows, i + c, r, by rw [Int.natCast_add]; rfl, hs, h1, rfl, _, rfl, ?_⟩
      rw [str_e0]
      exact iteY (decide_eq_true h3) ⟨fun σ2 H2 => σ2 = [some (.ref l), some (.int i), some (.int ((c : Int) + 1))] ∧ H2 = H', fun σ2 H2 z => ⟨2 - (c + 1), by omega, c + 1, rfl, by omega, z.1, z.2⟩, _, rfl, _, _, rfl, rfl, rfl, rfl⟩
    · obtain rfl : c = b := by omega
      refine .inr ⟨l, rows, by rw [← eb, Int.natCast_add]; rfl, hs, ?_⟩
      rw [← eb]
      exact k
theorem has_RAhX {D : Addr} (Y : ErrT P w K mg base D) (DX : HasR P w K mg base (L2.CX P w) 3 "row_at" (spXRow K D)) (DR : Has P w K mg base CX0 1 "row_at" raP (spRowAt K)) (DN : Has P w K mg base CX0 1 "is_name" ["value"] (spName K)) (F : Dfn K mg "read_ahead" sRAh raP) : Has P w K mg base (L2.CX P w) 4 "read_ahead" raP (spXAh K D) := by
  obtain ⟨fI, dI, Y, GI, bI⟩ := Y
  refine F.hasX scRAh (fun vs H Q E h => ?_) (fun f cdv A outer s H vs Q E hr h => ?_)
  · obtain ⟨l, rows, i, e, rfl, _⟩ := h
    rfl
  · obtain ⟨l, rows, i, e, rfl, hs, il, hb, k⟩ := h
    obtain ⟨rfl, rfl | ⟨r, hr0, h1, h2⟩⟩ := ahead_err hb il
    · exact ⟨_, (pss_cons (ps_set (i := 2) scRAh.nd rfl (.inl rfl) (pe_callR (E := E) DX hr (by rfl) (passes_call (takes_of rfl rfl rfl rfl) fun _ _ _ _ h => h) (pa_cons (pv 0) (pa_cons (pv 1) pa_nil)))) pss_never), _, rfl, _, rfl, l, rows, rfl, hs, k⟩
    · refine ⟨_, (pss_cons (ps_set (i := 2) scRAh.nd rfl (.inl rfl) (pe_callH DR (hr.mono (by decide)) (by rfl) pass0 (pa_cons (pv 0) (pa_cons (pv 1) pa_nil))))
      (pss_cons (ps_if (pt_not (pt_val (pe_bm PySem.F.plainAttrs_str PySem.F.slot_str_startswith PySem.F.type_str_startswith mt_startswith (pv 2) (pa_cons pe_str pa_nil)))) pss_never pss_nil)
      (pss_cons (ps_set (i := 3) scRAh.nd rfl (.inl rfl) (pe_bm PySem.F.plainAttrs_str PySem.F.slot_str_removeprefix PySem.F.type_str_removeprefix mt_removeprefix (pv 2) (pa_cons pe_str pa_nil)))
      (pss_cons (ps_if (pt_not (pt_val (pe_callH DN (hr.mono (by decide)) (by rfl) pass0 (pa_cons (pv 3) pa_nil)))) (pss_one (ps_raise rfl (takes_of rfl rfl rfl rfl) (pmk_oex Y.oex Y.init Y.tI GI (hr.mono (by decide)) bI .nil pass0 (by rfl) Y.gC (pa_cons (pv 1) pa_nil)))) pss_nil)
      pss_never)))), ?_⟩
      have rl := hs.len hr0
      have pl := pre_len r "# "
      exact ⟨_, rfl, _, rfl, l, rows, _, r, rfl, hs, hr0, _, rfl, rfl, _, _, rfl, rfl, _, rfl, iteN (by rw [h1]; rfl) ⟨_, rfl, rfl, _, _, rfl, rfl, fitsN rl, _, rfl, _, _, rfl, .inl ⟨_, rfl, fitsN (by omega), rfl⟩, _, rfl, iteY (by rw [h2]; rfl) ⟨_, rfl, (by show 1 ≤ 1000; decide), fun a ha => raised_at Y.oex Y.no ha k⟩⟩⟩
theorem has_RHdX {D : Addr} (Y : ErrT P w K mg base D) (DX : HasR P w K mg base (L2.CX P w) 3 "row_at" (spXRow K D)) (DR : Has P w K mg base CX0 1 "row_at" raP (spRowAt K)) (DN : Has P w K mg base CX0 1 "is_name" ["value"] (spName K)) (F : Dfn K mg "read_head" sRHd raP) : Has P w K mg base (L2.CX P w) 4 "read_head" raP (spXHd K D) := by
  obtain ⟨fI, dI, Y, GI, bI⟩ := Y
  refine F.hasX scRHd (fun vs H Q E h => ?_) (fun f cdv A outer s H vs Q E hr h => ?_)
  · obtain ⟨l, rows, i, e, rfl, _⟩ := h
    rfl
  · obtain ⟨l, rows, i, e, rfl, hs, il, hb, k⟩ := h
    obtain ⟨rfl, rfl | ⟨r, hr0, hc⟩⟩ := head_err hb il
    · exact ⟨_, (pss_cons (ps_set (i := 2) scRHd.nd rfl (.inl rfl) (pe_callR (E := E) DX hr (by rfl) (passes_call (takes_of rfl rfl rfl rfl) fun _ _ _ _ h => h) (pa_cons (pv 0) (pa_cons (pv 1) pa_nil)))) pss_never), _, rfl, _, rfl, l, rows, rfl, hs, k⟩
    · refine ⟨_, (pss_cons (ps_set (i := 2) scRHd.nd rfl (.inl rfl) (pe_callH DR (hr.mono (by decide)) (by rfl) pass0 (pa_cons (pv 0) (pa_cons (pv 1) pa_nil))))
      (pss_cons (ps_asg (pe_bm PySem.F.plainAttrs_str PySem.F.slot_str_partition PySem.F.type_str_partition mt_partition (pe_bm PySem.F.plainAttrs_str PySem.F.slot_str_removeprefix PySem.F.type_str_removeprefix mt_removeprefix (pv 2) (pa_cons pe_str pa_nil)) (pa_cons pe_str pa_nil)) (pg_tup rfl (pgs_cons (pg_name (i := 3) scRHd.nd rfl (.inl rfl)) (pgs_cons (pg_name (i := 4) scRHd.nd rfl (.inl rfl)) (pgs_cons (pg_name (i := 5) scRHd.nd rfl (.inl rfl)) pgs_nil)))))
      (pss_cons (ps_if (PW.pt (pw_or (pt_cmpR op_eq (pv 4) pe_str (nomark _)) (pw_or1 (pt_not (pt_val (pe_callH DN (hr.mono (by decide)) (by rfl) pass0 (pa_cons (pv 3) pa_nil))))))) (pss_one (ps_raise rfl (takes_of rfl rfl rfl rfl) (pmk_oex Y.oex Y.init Y.tI GI (hr.mono (by decide)) bI .nil pass0 (by rfl) Y.gC (pa_cons (pv 1) pa_nil)))) pss_nil)
      pss_never))), ?_⟩
      have rl := hs.len hr0
      have pl := pre_len r "!"
      have pp := part_len (Txt.removeprefix r "!") "("
      refine ⟨_, rfl, _, rfl, l, rows, _, r, rfl, hs, hr0, _, rfl, rfl, _, _, rfl, rfl, fitsN rl, rfl, _, _, rfl, rfl, by decide, fitsN (by omega), fun p np => ?_⟩
      have s1 := Same.new np (o := .tup [.str (Txt.partition (Txt.removeprefix r "!") "(").1, .str (Txt.partition (Txt.removeprefix r "!") "(").2.1, .str (Txt.partition (Txt.removeprefix r "!") "(").2.2])
      refine ⟨p, _, rfl, SqT.of upd_same, rfl, _, _, rfl, _, _, rfl, _, _, rfl, rfl, ?_⟩
      refine ⟨_, rfl, rfl, _, rfl, ?_⟩
      rw [str_e0]
      by_cases q : (Txt.partition (Txt.removeprefix r "!") "(").2.1.length = 0
      · exact iteY (decide_eq_true q) ⟨_, rfl, (by show 1 ≤ 1000; decide), fun a ha => raised_at Y.oex Y.no ha (k.same s1)⟩
      · have n0 := hc.resolve_left q
        exact iteN (decide_eq_false q) ⟨_, rfl, _, _, rfl, .inl ⟨_, rfl, fitsN (by omega), rfl⟩, _, rfl, iteY (by rw [n0]; rfl) ⟨_, rfl, (by show 1 ≤ 1000; decide), fun a ha => raised_at Y.oex Y.no ha (k.same s1)⟩⟩
end
end Lay
set_option Elab.async false
set_option linter.all false
set_option maxRecDepth 100000
set_option maxHeartbeats 4000000
set_option pp.maxSteps 900
namespace Lay
open PySem PySem.Spec PyProof.Rows L2
def spXBr (K : PySem.W.Frag) (D : Addr) : Sp := fun vs H _ E => ∃ (l : Addr) (rows : List Str) (i e : Nat), vs = [.ref l, .int i] ∧ RowsAt K H l rows ∧ Few rows ∧ i ≤ rows.length ∧ rows.length ≠ 0 ∧ brokenR rows i = .error e ∧ RaisedA D H (.int e) E
section
variable {P : Program} {w : World} {K : PySem.W.Frag} {mg : Str → Option Value} {base : Heap}
theorem has_SplX {D : Addr} (Y : ErrT P w K mg base D) (DN : Has P w K mg base CX0 1 "is_name" ["value"] (spName K)) (F : Dfn K mg "split_remark" sSpl spP) : Has P w K mg base (L2.CX P w) 3 "split_remark" spP (spXSpl D) := by
  obtain ⟨fI, dI, Y, GI, bI⟩ := Y
  refine F.hasX scSpl (fun vs H Q E h => ?_) (fun f cdv A outer s H vs Q E hr h => ?_)
  · obtain ⟨t, i, e, rfl, _⟩ := h
    rfl
  · obtain ⟨t, i, e, rfl, tl, hb, k⟩ := h
    refine ⟨_, (pss_cons (ps_asg (pe_bm PySem.F.plainAttrs_str PySem.F.slot_str_partition PySem.F.type_str_partition mt_partition (pv 0) (pa_cons pe_str pa_nil)) (pg_tup rfl (pgs_cons (pg_name (i := 2) scSpl.nd rfl (.inl rfl)) (pgs_cons (pg_name (i := 3) scSpl.nd rfl (.inl rfl)) (pgs_cons (pg_name (i := 4) scSpl.nd rfl (.inl rfl)) pgs_nil)))))
    (pss_cons (ps_if (PW.pt (pw_and (pt_cmpR op_ne (pv 3) pe_str (nomark _)) (pw_and1 (pt_not (pt_val (pe_callH DN (hr.mono (by decide)) (by rfl) pass0 (pa_cons (pv 4) pa_nil))))))) (pss_one (ps_raise rfl (takes_of rfl rfl rfl rfl) (pmk_oex Y.oex Y.init Y.tI GI hr bI .nil pass0 (by rfl) Y.gC (pa_cons (pv 1) pa_nil)))) pss_nil)
    pss_never)), ?_⟩
    obtain ⟨rfl, h1, h2⟩ := remark_err hb
    have pl := part_len t "  # "
    refine ⟨_, rfl, rfl, _, _, rfl, rfl, by decide, fitsN tl, fun p np => ?_⟩
    have s1 := Same.new np (o := .tup [.str (Txt.partition t "  # ").1, .str (Txt.partition t "  # ").2.1, .str (Txt.partition t "  # ").2.2])
    refine ⟨p, _, rfl, SqT.of upd_same, rfl, _, _, rfl, _, _, rfl, _, _, rfl, rfl, ?_⟩
    refine ⟨_, rfl, rfl, _, rfl, ?_⟩
    rw [str_e0]
    exact iteY (by rw [decide_eq_false h1]; rfl) ⟨_, rfl, _, _, rfl, .inl ⟨_, rfl, fitsN (by omega), rfl⟩, _, rfl, iteY (by rw [h2]; rfl) ⟨_, rfl, (by show 1 ≤ 1000; decide), fun a ha => raised_at Y.oex Y.no ha (k.same s1)⟩⟩
theorem has_RItX {D : Addr} (Y : ErrT P w K mg base D) (DX : HasR P w K mg base (L2.CX P w) 3 "row_at" (spXRow K D)) (DR : Has P w K mg base CX0 1 "row_at" raP (spRowAt K)) (DN : Has P w K mg base CX0 1 "is_name" ["value"] (spName K)) (F : Dfn K mg "read_item" sRIt raP) : Has P w K mg base (L2.CX P w) 4 "read_item" raP (spXIt K D) := by
  obtain ⟨fI, dI, Y, GI, bI⟩ := Y
  refine F.hasX scRIt (fun vs H Q E h => ?_) (fun f cdv A outer s H vs Q E hr h => ?_)
  · obtain ⟨l, rows, i, e, rfl, _⟩ := h
    rfl
  · obtain ⟨l, rows, i, e, rfl, hs, il, hb, k⟩ := h
    obtain ⟨rfl, rfl | ⟨r, hr0, hc⟩⟩ := item_err hb il
    · exact ⟨_, (pss_cons (ps_set (i := 2) scRIt.nd rfl (.inl rfl) (pe_callR (E := E) DX hr (by rfl) (passes_call (takes_of rfl rfl rfl rfl) fun _ _ _ _ h => h) (pa_cons (pv 0) (pa_cons (pv 1) pa_nil)))) pss_never), _, rfl, _, rfl, l, rows, rfl, hs, k⟩
    · refine ⟨_, (pss_cons (ps_set (i := 2) scRIt.nd rfl (.inl rfl) (pe_callH DR (hr.mono (by decide)) (by rfl) pass0 (pa_cons (pv 0) (pa_cons (pv 1) pa_nil))))
      (pss_cons (ps_set (i := 3) scRIt.nd rfl (.inl rfl) (pe_bm PySem.F.plainAttrs_str PySem.F.slot_str_removesuffix PySem.F.type_str_removesuffix mt_removesuffix (pe_bm PySem.F.plainAttrs_str PySem.F.slot_str_removeprefix PySem.F.type_str_removeprefix mt_removeprefix (pv 2) (pa_cons pe_str pa_nil)) (pa_cons pe_str pa_nil)))
      (pss_cons (ps_if (PW.pt (pw_or (pt_not (pt_val (pe_bm PySem.F.plainAttrs_str PySem.F.slot_str_startswith PySem.F.type_str_startswith mt_startswith (pv 2) (pa_cons pe_str pa_nil)))) (pw_or1 (pt_not (pt_val (pe_callH DN (hr.mono (by decide)) (by rfl) pass0 (pa_cons (pv 3) pa_nil))))))) (pss_one (ps_raise rfl (takes_of rfl rfl rfl rfl) (pmk_oex Y.oex Y.init Y.tI GI (hr.mono (by decide)) bI .nil pass0 (by rfl) Y.gC (pa_cons (pv 1) pa_nil)))) pss_nil)
      pss_never))), ?_⟩
      have rl := hs.len hr0
      have pl := pre_len r "  "
      have sl := suf_len (Txt.removeprefix r "  ") ","
      refine ⟨_, rfl, _, rfl, l, rows, _, r, rfl, hs, hr0, _, rfl, rfl, _, _, rfl, rfl, fitsN rl, rfl, _, _, rfl, rfl, fitsN (by omega), ?_⟩
      refine ⟨_, rfl, rfl, _, _, rfl, rfl, _, rfl, ?_⟩
      by_cases q : Txt.startswith r "  " = false
      · exact iteY (by rw [q]; rfl) ⟨_, rfl, (by show 1 ≤ 1000; decide), fun a ha => raised_at Y.oex Y.no ha k⟩
      · have q2 : Txt.startswith r "  " = true := by simpa using q
        have n0 := hc.resolve_left q
        exact iteN (by rw [q2]; rfl) ⟨_, rfl, _, _, rfl, .inl ⟨_, rfl, fitsN (by omega), rfl⟩, _, rfl, iteY (by rw [n0]; rfl) ⟨_, rfl, (by show 1 ≤ 1000; decide), fun a ha => raised_at Y.oex Y.no ha k⟩⟩
theorem has_RFlX {D : Addr} (Y : ErrT P w K mg base D) (DSX : HasR P w K mg base (L2.CX P w) 3 "split_remark" (spXSpl D)) (DS : Has P w K mg base CX0 2 "split_remark" spP (spSpl K)) (DA : Has P w K mg base CX0 2 "are_names" ["value"] (spNames K)) (F : Dfn K mg "read_flat" sRFl flP) : Has P w K mg base (L2.CX P w) 4 "read_flat" flP (spXFl D) := by
  obtain ⟨fI, dI, Y, GI, bI⟩ := Y
  refine F.hasX scRFl (fun vs H Q E h => ?_) (fun f cdv A outer s H vs Q E hr h => ?_)
  · obtain ⟨t, i, e, rfl, _⟩ := h
    rfl
  · obtain ⟨t, i, e, rfl, tl, hb, k⟩ := h
    obtain ⟨rfl, hb | ⟨body, b, hrm, hc⟩⟩ := flat_err hb
    · exact ⟨_, (pss_cons (ps_asg (pe_callR (E := E) DSX hr (by rfl) (passes_call (takes_of rfl rfl rfl rfl) fun _ _ _ _ h => h) (pa_cons (pv 0) (pa_cons (pv 1) pa_nil))) (pg_tup rfl (pgs_cons (pg_name (i := 2) scRFl.nd rfl (.inl rfl)) (pgs_cons (pg_name (i := 3) scRFl.nd rfl (.inl rfl)) pgs_nil)))) pss_never), _, rfl, _, rfl, t, e, e, rfl, by omega, hb, k⟩
    · refine ⟨_, (pss_cons (ps_asg (pe_callH DS (hr.mono (by decide)) (by rfl) pass0 (pa_cons (pv 0) (pa_cons (pv 1) pa_nil))) (pg_tup rfl (pgs_cons (pg_name (i := 2) scRFl.nd rfl (.inl rfl)) (pgs_cons (pg_name (i := 3) scRFl.nd rfl (.inl rfl)) pgs_nil))))
      (pss_cons (ps_set (i := 4) scRFl.nd rfl (.inl rfl) (pe_bm PySem.F.plainAttrs_str PySem.F.slot_str_removesuffix PySem.F.type_str_removesuffix mt_removesuffix (pv 2) (pa_cons pe_str pa_nil)))
      (pss_cons (ps_set (i := 5) scRFl.nd rfl (.inl rfl) (pe_bm PySem.F.plainAttrs_str PySem.F.slot_str_split PySem.F.type_str_split mt_split (pe_bm PySem.F.plainAttrs_str PySem.F.slot_str_removesuffix PySem.F.type_str_removesuffix mt_removesuffix (pv 4) (pa_cons pe_str pa_nil)) (pa_cons pe_str pa_nil)))
      (pss_cons (ps_if (PW.pt (pw_or (pt_not (pt_val (pe_bm PySem.F.plainAttrs_str PySem.F.slot_str_endswith PySem.F.type_str_endswith mt_endswith (pv 2) (pa_cons pe_str pa_nil)))) (pw_or1 (pt_not (pt_val (pe_callH DA (hr.mono (by decide)) (by rfl) pass0 (pa_cons (pv 5) pa_nil))))))) (pss_one (ps_raise rfl (takes_of rfl rfl rfl rfl) (pmk_oex Y.oex Y.init Y.tI GI (hr.mono (by decide)) bI .nil pass0 (by rfl) Y.gC (pa_cons (pv 1) pa_nil)))) pss_nil)
      pss_never)))), ?_⟩
      have bl : body.length ≤ 900 := by
        obtain ⟨_, e1, _⟩ := remark_facts hrm
        have := (part_len t "  # ").1
        rw [e1]
        omega
      have sl := suf_len body ")"
      have sl2 := suf_len (Txt.removesuffix body ")") ","
      refine ⟨_, rfl, _, rfl, t, e, body, b, rfl, by omega, hrm, fun p H1 s1 hp => ⟨p, _, rfl, SqT.of hp, rfl, _, _, rfl, _, _, rfl, rfl, ?_⟩⟩
      refine ⟨_, rfl, rfl, _, _, rfl, rfl, fitsN (by omega), ?_⟩
      refine ⟨_, rfl, rfl, _, _, rfl, rfl, fitsN (by omega), rfl, _, _, rfl, rfl, by decide, by rw [sizeLine_eq]; omega, fun lp nlp => ?_⟩
      have few := split_few (x := Txt.removesuffix (Txt.removesuffix body ")") ",") (sep := ", ") (by decide)
      have each := split_each (x := Txt.removesuffix (Txt.removesuffix body ")") ",") (sep := ", ") (by decide)
      generalize Txt.split (Txt.removesuffix (Txt.removesuffix body ")") ",") ", " = ps at *
      have s2 := Same.new nlp (o := .lst (ps.map V.str))
      refine ⟨_, rfl, rfl, _, _, rfl, rfl, _, rfl, ?_⟩
      by_cases q : Txt.endswith body ")" = false
      · exact iteY (by rw [q]; rfl) ⟨_, rfl, (by show 1 ≤ 1000; decide), fun a ha => raised_at Y.oex Y.no ha (k.same (s1.trans s2))⟩
      · have q2 : Txt.endswith body ")" = true := by simpa using q
        have n0 := hc.resolve_left q
        refine iteN (by rw [q2]; rfl) ⟨_, rfl, _, rfl, .inr ⟨lp, _, _, rfl, .inl upd_same, by rw [List.length_map]; omega, nmbs_any fun p hp => by have := each p hp; omega, fun H2 s3 => ⟨_, rfl, iteY ?_ ⟨_, rfl, (by show 1 ≤ 1000; decide), fun a ha => raised_at Y.oex Y.no ha (k.same ((s1.trans s2).trans s3))⟩⟩⟩⟩
        rw [List.all_map, show (id ∘ nameB) = nameB from rfl, n0, Bool.and_false]
        rfl
theorem has_RBrX {D : Addr} (B : Bt mg) (Y : ErrT P w K mg base D) (DRB : HasR P w K mg base (L2.CX P w) 3 "row_at" (fun vs H Q E => spRowAt K vs H Q E ∨ spXRow K D vs H Q E)) (DIB : HasR P w K mg base (L2.CX P w) 4 "read_item" (fun vs H Q E => spRIt K vs H Q E ∨ spXIt K D vs H Q E)) (DSB : HasR P w K mg base (L2.CX P w) 3 "split_remark" (fun vs H Q E => spSpl K vs H Q E ∨ spXSpl D vs H Q E)) (F : Dfn K mg "read_broken" sRBr raP) : Has P w K mg base (L2.CX P w) 5 "read_broken" raP (spXBr K D) := by
  obtain ⟨fI, dI, Y, GI, bI⟩ := Y
  refine F.hasX scRBr (fun vs H Q E h => ?_) (fun f cdv A outer s H vs Q E hr h => ?_)
  · obtain ⟨l, rows, i, e, rfl, _⟩ := h
    rfl
  · obtain ⟨l, rows, i, e, rfl, hs, few, il, r0, hb, k⟩ := h
    refine ⟨_, (pss_cons (ps_asg (pe_callR (E := E) DIB hr (by rfl) (passes_call (takes_of rfl rfl rfl rfl) fun _ _ _ _ h => h) (pa_cons (pv 0) (pa_cons (pv 1) pa_nil))) (pg_tup rfl (pgs_cons (pg_name (i := 2) scRBr.nd rfl (.inl rfl)) (pgs_cons (pg_name (i := 3) scRBr.nd rfl (.inl rfl)) pgs_nil))))
    (pss_cons (ps_set (i := 4) scRBr.nd rfl (.inl rfl) (pe_lst (pa_cons (pv 2) pa_nil)))
    (C8.pss_cut (ps_while (passes_of rfl) (PW.pt (pw_and (pt_val (pv 3)) (pw_and1 (pt_val (pe_bm PySem.F.plainAttrs_str PySem.F.slot_str_startswith PySem.F.type_str_startswith mt_startswith (pe_callR (E := E) DRB (hr.mono (by decide)) (by rfl) (passes_call (takes_of rfl rfl rfl rfl) fun _ _ _ _ h => h) (pa_cons (pv 0) (pa_cons (pe_op op_add (pv 1) (pe_callB (call_lenK (K := K) rfl) (by rfl) B.len PySem.boot_len (pa_cons (pv 4) pa_nil))) pa_nil))) (pa_cons pe_str pa_nil))))))
      (pss_cons (ps_asg (pe_callR (E := E) DIB hr (by rfl) (passes_call (takes_of rfl rfl rfl rfl) fun _ _ _ _ h => h) (pa_cons (pv 0) (pa_cons (pe_op op_add (pv 1) (pe_callB (call_lenK (K := K) rfl) (by rfl) B.len PySem.boot_len (pa_cons (pv 4) pa_nil))) pa_nil))) (pg_tup rfl (pgs_cons (pg_name (i := 2) scRBr.nd rfl (.inl rfl)) (pgs_cons (pg_name (i := 3) scRBr.nd rfl (.inl rfl)) pgs_nil))))
      (pss_one (ps_expr (pe_bm PySem.F.plainAttrs_list PySem.F.slot_list_append PySem.F.type_list_append mt_append (pv 4) (pa_cons (pv 2) pa_nil))))))
    (pss_cons (ps_set (i := 5) scRBr.nd rfl (.inl rfl) (pe_op op_add (pv 1) (pe_callB (call_lenK (K := K) rfl) (by rfl) B.len PySem.boot_len (pa_cons (pv 4) pa_nil))))
    (pss_cons (ps_asg (pe_callR (E := E) DSB (hr.mono (by decide)) (by rfl) (passes_call (takes_of rfl rfl rfl rfl) fun _ _ _ _ h => h) (pa_cons (pe_callR (E := E) DRB (hr.mono (by decide)) (by rfl) (passes_call (takes_of rfl rfl rfl rfl) fun _ _ _ _ h => h) (pa_cons (pv 0) (pa_cons (pv 5) pa_nil))) (pa_cons (pv 5) pa_nil))) (pg_tup rfl (pgs_cons (pg_name (i := 6) scRBr.nd rfl (.inl rfl)) (pgs_cons (pg_name (i := 7) scRBr.nd rfl (.inl rfl)) pgs_nil))))
    (pss_cons (ps_if (pt_cmpR op_ne (pv 6) pe_str (nomark _)) (pss_one (ps_raise rfl (takes_of rfl rfl rfl rfl) (pmk_oex Y.oex Y.init Y.tI GI (hr.mono (by decide)) bI .nil pass0 (by rfl) Y.gC (pa_cons (pv 5) pa_nil)))) pss_nil)
    pss_never)))))), ?_⟩
    rw [broken_go r0] at hb
    cases hit : itemR rows i with
    | error e2 =>
      rw [hit] at hb
      cases hb
      exact ⟨_, rfl, _, rfl, .inr ⟨l, rows, i, e, rfl, hs, il, hit, k⟩⟩
    | ok pc =>
    obtain ⟨z0, c0⟩ := pc
    rw [hit] at hb
    simp only at hb
    have il1 : i < rows.length := by
      obtain ⟨r1, hr1, _⟩ := item_facts hit
      exact row_lt hr1
    refine ⟨_, rfl, _, rfl, .inl ⟨l, rows, i, z0, c0, rfl, hs, hit, fun p H1 s1 hp => ⟨p, _, rfl, SqT.of hp, rfl, _, _, rfl, _, _, rfl, rfl, ?_⟩⟩⟩
    refine ⟨_, rfl, (by show 1 ≤ sizeLine; decide), fun lp nlp => ?_⟩
    have s2 := s1.trans (Same.new nlp (o := .lst [.str z0]))
    have nH : H lp = none := s1.free nlp
    have fl := few.1
    refine ⟨fun σ' H' => ∃ (zs : List Str) (x : V) (m : Bool), i + zs.length ≤ rows.length ∧ σ' = [some (.ref l), some (.int i), some x, some (.bl m), some (.ref lp), none, none, none] ∧ Same H H' ∧ H' lp = some (.lst (zs.map V.str)) ∧ endR rows (i + zs.length) zs m = .error e, ?_, ?_⟩
    · refine ⟨fun mm σ' H' => ∃ (zs : List Str) (x : V) (m : Bool) (n : Nat), i + zs.length ≤ rows.length ∧ mm = rows.length - (i + zs.length) ∧ rows.length - (i + zs.length) ≤ n ∧ σ' = [some (.ref l), some (.int i), some x, some (.bl m), some (.ref lp), none, none, none] ∧ Same H H' ∧ H' lp = some (.lst (zs.map V.str)) ∧ goR rows n (i + zs.length) zs m = .error e,
        ⟨_, [z0], _, c0, rows.length - 1, by show i + 1 ≤ _; omega, rfl, by show rows.length - (i + 1) ≤ _; omega, rfl, s2, upd_same, hb⟩, ?_⟩
      rintro mm σ' H' ⟨zs, x, m, n, hz, rfl, hn, rfl, s3, hlp, hg⟩
      have hs' := hs.same s3
      have ei : (i : Int) + ((zs.map V.str).length : Int) = ((i + zs.length : Nat) : Int) := by rw [List.length_map, Int.natCast_add]
      refine ⟨_, rfl, _, rfl, ?_⟩
      cases m with
      | false =>
        rw [go_false] at hg
        exact iteN rfl (iteN rfl ⟨zs, x, false, hz, rfl, s3, hlp, hg⟩)
      | true =>
        refine iteY rfl ⟨_, rfl, _, rfl, _, rfl, lp, _, rfl, .inl (SqL.of hlp), _, _, rfl, rfl, ?_⟩
        by_cases q : i + zs.length = rows.length
        · have er : e = rows.length := by
            rw [go_no (e := rows.length) (by rw [q]; exact row_end)] at hg
            cases hg
            rfl
          refine .inr ⟨l, rows, by rw [← q]; show [V.ref l, V.int ((i : Int) + ((zs.map V.str).length : Int))] = _; rw [ei], hs', ?_⟩
          rw [← er]
          exact k.same s3
        · have hlt : i + zs.length < rows.length := by omega
          obtain ⟨r, hr2⟩ := row_at hlt
          refine .inl ⟨l, rows, i + zs.length, r, by rw [← ei]; rfl, hs', hr2, rfl, _, _, rfl, rfl, _, rfl, ?_⟩
          cases st : Txt.startswith r "  " with
          | false =>
            rw [go_end hr2 st] at hg
            exact iteN rfl ⟨zs, x, true, hz, rfl, s3, hlp, hg⟩
          | true =>
            refine iteY rfl ?_
            obtain ⟨n2, rfl⟩ : ∃ n2, n = n2 + 1 := ⟨n - 1, by omega⟩
            unfold goR at hg
            rw [hr2] at hg
            simp only at hg
            rw [if_pos ⟨trivial, st⟩] at hg
            refine ⟨fun σ2 H2 => ∃ (zs2 : List Str) (x2 : V) (m2 : Bool) (n3 : Nat), i + zs2.length ≤ rows.length ∧ rows.length - (i + zs2.length) < rows.length - (i + zs.length) ∧ rows.length - (i + zs2.length) ≤ n3 ∧ σ2 = [some (.ref l), some (.int i), some x2, some (.bl m2), some (.ref lp), none, none, none] ∧ Same H H2 ∧ H2 lp = some (.lst (zs2.map V.str)) ∧ goR rows n3 (i + zs2.length) zs2 m2 = .error e, fun σ2 H2 ⟨zs2, x2, m2, n3, a1, a2, a3, a4, a5, a6, a7⟩ => ⟨_, a2, zs2, x2, m2, n3, a1, rfl, a3, a4, a5, a6, a7⟩, ?_⟩
            refine ⟨_, rfl, _, rfl, _, rfl, lp, _, rfl, .inl (SqL.of hlp), _, _, rfl, rfl, ?_⟩
            cases hi2 : itemR rows (i + zs.length) with
            | error e2 =>
              rw [hi2] at hg
              cases hg
              exact .inr ⟨l, rows, i + zs.length, e, by rw [← ei]; rfl, hs', hz, hi2, k.same s3⟩
            | ok pc =>
              obtain ⟨z1, c1⟩ := pc
              rw [hi2] at hg
              simp only at hg
              refine .inl ⟨l, rows, i + zs.length, z1, c1, by rw [← ei]; rfl, hs', hi2, fun p2 H2 s4 hp2 => ⟨p2, _, rfl, SqT.of hp2, rfl, _, _, rfl, _, _, rfl, rfl, ?_⟩⟩
              have hlp2 := s4 _ _ hlp
              have lz : (zs ++ [z1]).length = zs.length + 1 := by rw [List.length_append]; rfl
              refine ⟨_, rfl, .inl ⟨rfl, _, SqL.of hlp2⟩, _, rfl, lp, _, _, rfl, rfl, hlp2, ?_, zs ++ [z1], _, c1, n2, by rw [lz]; omega, by rw [lz]; omega, by rw [lz]; omega, rfl, same_put (s3.trans s4) nH, ?_, by rw [lz]; exact hg⟩
              · rw [List.length_map]
                exact small1000 (by omega)
              · rw [upd_same, List.map_append]
                rfl
    · rintro σ' H' ⟨zs, x, m, hz, rfl, s3, hlp, he⟩
      have hs' := hs.same s3
      have ei : (i : Int) + ((zs.map V.str).length : Int) = ((i + zs.length : Nat) : Int) := by rw [List.length_map, Int.natCast_add]
      refine ⟨_, rfl, _, rfl, lp, _, rfl, .inl (SqL.of hlp), _, _, rfl, rfl, ?_⟩
      unfold endR at he
      refine ⟨_, rfl, _, rfl, ?_⟩
      cases hr2 : rowR rows (i + zs.length) with
      | error e2 =>
        rw [hr2] at he
        cases he
        obtain ⟨h1, h2⟩ := row_err hr2 hz
        refine .inr ⟨l, rows, by rw [← h2, ← ei]; rfl, hs', ?_⟩
        rw [← h2, ← h1]
        exact k.same s3
      | ok r =>
        rw [hr2] at he
        simp only at he
        refine .inl ⟨l, rows, i + zs.length, r, by rw [← ei]; rfl, hs', hr2, _, rfl, ?_⟩
        cases hrm : remarkR r (i + zs.length) with
        | error e2 =>
          rw [hrm] at he
          cases he
          exact .inr ⟨r, i + zs.length, e, by rw [← ei]; rfl, hs'.len hr2, hrm, k.same s3⟩
        | ok bb =>
          obtain ⟨body, b⟩ := bb
          rw [hrm] at he
          simp only at he
          split at he
          · cases he
          · rename_i q
            cases he
            refine .inl ⟨r, i + zs.length, body, b, by rw [← ei]; rfl, hs'.len hr2, hrm, fun p3 H3 s5 hp3 => ⟨p3, _, rfl, SqT.of hp3, rfl, _, _, rfl, _, _, rfl, rfl, ?_⟩⟩
            refine ⟨_, rfl, rfl, _, rfl, iteY ?_ ⟨_, rfl, (by show 1 ≤ 1000; decide), fun a ha => raised_at Y.oex Y.no ha (show RaisedA D _ (V.int ((i : Int) + ((zs.map V.str).length : Int))) E by rw [ei]; exact k.same (s3.trans s5))⟩⟩
            rw [decide_eq_false (fun z => q (V.str.inj z))]
            rfl
end
end Lay
set_option Elab.async false
set_option linter.all false
set_option maxRecDepth 100000
set_option maxHeartbeats 4000000
set_option pp.maxSteps 900
namespace Lay
open PySem TxL
/-! what is read is what is told: the rows of a piece that is read -/
theorem e_app (x : Str) : Str.ofString "" ++ x = x := Str.empty_append x
theorem app_e (x : Str) : x ++ Str.ofString "" = x := Str.append_empty x
theorem drop_row {rows : List Str} {i : Nat} {r : Str} (h : rowR rows i = .ok r) : rows.drop i = r :: rows.drop (i + 1) := by
  have g := rowR_ok h
  have l := (List.getElem?_eq_some_iff.mp g).1
  have e := (List.getElem?_eq_some_iff.mp g).2
  rw [List.drop_eq_getElem_cons l, e]
theorem blanks_inv {rows : List Str} {i b : Nat} (h : blanksR rows i = .ok b) : b ≤ 2 ∧ rows.drop i = List.replicate b (Str.ofString "") ++ rows.drop (i + b) ∧ i + b ≤ rows.length ∧ (b < 2 → ∃ r, rowR rows (i + b) = .ok r ∧ r.length ≠ 0) := by
  obtain ⟨h2, hz, hn⟩ := blanks_facts h
  refine ⟨h2, ?_, ?_, hn⟩
  · rcases (show b = 0 ∨ b = 1 ∨ b = 2 by omega) with rfl | rfl | rfl
    · rfl
    · obtain ⟨r, h1, h3⟩ := hz 0 (by decide)
      rw [Nat.add_zero] at h1
      rw [drop_row h1, empty_of h3]
      rfl
    · obtain ⟨r, h1, h3⟩ := hz 0 (by decide)
      obtain ⟨r2, h4, h5⟩ := hz 1 (by decide)
      rw [Nat.add_zero] at h1
      rw [drop_row h1, empty_of h3, drop_row h4, empty_of h5]
      rfl
  · rcases Nat.eq_zero_or_pos b with rfl | p
    · obtain ⟨r, h1, _⟩ := hn (by decide)
      have := row_lt h1
      omega
    · obtain ⟨r, h1, _⟩ := hz (b - 1) (by omega)
      have := row_lt h1
      omega
theorem name_pos {z : Str} (h : nameB z = true) : z.length ≠ 0 := by
  have := (name_az h).1
  omega
theorem rem_of_name {z : Str} (h : nameB z = true) : remarkB z = true := by
  unfold remarkB
  rw [h, Bool.or_true]
theorem rem_empty : remarkB (Str.ofString "") = true := by decide +kernel
theorem ahead_inv {rows : List Str} {i : Nat} {a : Str} (h : aheadR rows i = .ok a) : remarkB a = true ∧ ∃ r, rowR rows i = .ok r ∧ (if a.length = 0 then Txt.startswith r "# " = false else r = Str.ofString "# " ++ a) := by
  obtain ⟨r, hr, ⟨h1, h2, rfl⟩ | ⟨h1, rfl⟩⟩ := ahead_facts h
  · refine ⟨rem_of_name h2, r, hr, ?_⟩
    rw [if_neg (name_pos h2)]
    exact start_inv h1
  · refine ⟨rem_empty, r, hr, ?_⟩
    rw [if_pos (by decide)]
    exact h1
theorem head_inv {rows : List Str} {i : Nat} {w rest : Str} {l : Bool} (h : headR rows i = .ok (w, l, rest)) : nameB w = true ∧ ∃ r, rowR rows i = .ok r ∧ r = ((if l = true then Str.ofString "!" else Str.ofString "") ++ w) ++ Str.ofString "(" ++ rest := by
  obtain ⟨r, hr, h1, h2, rfl, rfl, rfl⟩ := head_facts h
  refine ⟨h2, r, hr, ?_⟩
  obtain ⟨e, _, _⟩ := part_inv h1
  cases s : Txt.startswith r "!" with
  | true =>
    rw [if_pos rfl]
    have e2 := start_inv s
    generalize Txt.removeprefix r "!" = y at *
    rw [e2]
    generalize Txt.partition y "(" = p at *
    rw [e]
    simp only [s_assoc]
  | false =>
    rw [if_neg (by decide), e_app]
    have e2 := pre_no s
    rw [e2] at e ⊢
    exact e
theorem remark_inv {t x y : Str} {i : Nat} (h : remarkR t i = .ok (x, y)) : remarkB y = true ∧ t = (if y.length = 0 then x else x ++ Str.ofString "  # " ++ y) := by
  obtain ⟨h1, rfl, rfl⟩ := remark_facts h
  by_cases q : (Txt.partition t "  # ").2.1.length = 0
  · obtain ⟨e1, e2, _⟩ := part_inv0 (by decide) q
    rw [e1, e2]
    exact ⟨rem_empty, (if_pos (by decide)).symm⟩
  · have n := h1.resolve_left q
    refine ⟨rem_of_name n, ?_⟩
    rw [if_neg (name_pos n)]
    exact (part_inv q).1
theorem split_ne {x sep : Str} (h : sep.length ≠ 0) : Txt.split x sep ≠ [] := by
  intro z
  have e := StrLaws.join_split x sep
  rw [z] at e
  have e2 : x = Str.ofString "" := by rw [← e]; rfl
  rw [e2] at z
  unfold Txt.split at z
  rw [if_pos (by rw [decide_eq_true (by show 0 < sep.length; omega)]; rfl)] at z
  cases z
theorem flat_inv {t : Str} {i e : Nat} {ps : List Str} {m : Bool} {b : Str} (h : flatR t i = .ok (ps, m, b, e)) : e = i + 1 ∧ ps ≠ [] ∧ (∀ p ∈ ps, nameB p = true) ∧ remarkB b = true ∧ t = (Txt.join ", " ps ++ (if m = true then Str.ofString "," else Str.ofString "")) ++ (if b.length = 0 then Str.ofString ")" else (Str.empty ++ Str.ofString ")  # ") ++ b) := by
  obtain ⟨body, hrm, h1, rfl, h2, rfl, rfl⟩ := flat_facts h
  obtain ⟨hb, et⟩ := remark_inv hrm
  refine ⟨rfl, split_ne (by decide), fun p hp => List.all_eq_true.mp h2 p hp, hb, ?_⟩
  have e1 := end_inv h1
  rw [joinT, StrLaws.join_split]
  generalize Txt.removesuffix body ")" = ins at *
  have e3 : Txt.removesuffix ins "," ++ (if Txt.endswith ins "," = true then Str.ofString "," else Str.ofString "") = ins := by
    cases s : Txt.endswith ins "," with
    | true =>
      rw [if_pos rfl]
      exact (end_inv s).symm
    | false =>
      rw [if_neg (by decide), app_e]
      exact suf_no s
  rw [e3, et, e1]
  split
  · rfl
  · rw [Str.empty_append, show Str.ofString ")  # " = Str.ofString ")" ++ Str.ofString "  # " by decide +kernel]
    simp only [s_assoc]
/-- the rows of the items -/
def itemRows (m : Bool) : List Str → List Str
  | [] => []
  | [p] => [((Str.empty ++ Str.ofString "  ") ++ p) ++ (if m = true then Str.ofString "," else Str.ofString "")]
  | p :: q :: r => itemS p :: itemRows m (q :: r)
theorem itemRows_eq (m : Bool) : ∀ (ps : List Str), ps ≠ [] → itemRows m ps = ps.dropLast.map itemS ++ [((Str.empty ++ Str.ofString "  ") ++ ps.getLastD Str.empty) ++ (if m = true then Str.ofString "," else Str.ofString "")]
  | [], h => absurd rfl h
  | [p], _ => rfl
  | p :: q :: r, _ => by
    show itemS p :: itemRows m (q :: r) = _
    rw [itemRows_eq m (q :: r) (by simp)]
    rfl
theorem item_inv {rows : List Str} {i : Nat} {z : Str} {c : Bool} (h : itemR rows i = .ok (z, c)) : nameB z = true ∧ rowR rows i = .ok (((Str.empty ++ Str.ofString "  ") ++ z) ++ (if c = true then Str.ofString "," else Str.ofString "")) := by
  obtain ⟨r, hr, h1, h2, rfl, rfl⟩ := item_facts h
  refine ⟨h2, ?_⟩
  rw [hr, Str.empty_append]
  refine congrArg Except.ok ?_
  have e1 := start_inv h1
  cases s : Txt.endswith r "," with
  | true =>
    have e2 := end_inv s
    rw [if_pos rfl]
    generalize hy : Txt.removeprefix r "  " = y at *
    have e3 : Txt.endswith y "," = true := by
      cases q : Txt.endswith y "," with
      | true => rfl
      | false =>
        rw [suf_no q] at h2
        exfalso
        have e5 : (L r).getLast? ≠ some 44 := by
          rw [e1, L_app]
          exact name_last h2 _ (by decide)
        have e6 := end_no (x := r) (c := 44) e5
        have e7 : Txt.endswith r "," = false := e6
        rw [e7] at s
        cases s
    rw [s_assoc, ← end_inv e3]
    exact e1
  | false =>
    rw [if_neg (by decide), app_e]
    have e3 : Txt.endswith (Txt.removeprefix r "  ") "," = false := by
      cases q : Txt.endswith (Txt.removeprefix r "  ") "," with
      | false => rfl
      | true =>
        exfalso
        have e4 := end_inv q
        have e5 : r = (Str.ofString "  " ++ Txt.removesuffix (Txt.removeprefix r "  ") ",") ++ Str.ofString "," := by
          rw [s_assoc]
          refine e1.trans ?_
          exact congrArg (fun x => Str.ofString "  " ++ x) e4
        have e6 : Txt.endswith r "," = true := by
          rw [e5]
          exact end_app _ _
        rw [e6] at s
        cases s
    rw [suf_no e3]
    exact e1
theorem items_inv {rows : List Str} : ∀ (n i : Nat) (ps : List Str) (m : Bool), itemsR rows n i = .ok (ps, m) → ps ≠ [] ∧ (∀ p ∈ ps, nameB p = true) ∧ rows.drop i = itemRows m ps ++ rows.drop (i + ps.length)
  | 0, i, ps, m, h => by
    unfold itemsR at h
    cases h
  | n + 1, i, ps, m, h => by
    unfold itemsR at h
    split at h
    · cases h
    · rename_i p hp
      cases h
      obtain ⟨h1, h2⟩ := item_inv hp
      exact ⟨by simp, fun z hz => by rw [List.mem_singleton] at hz; rw [hz]; exact h1, drop_row h2⟩
    · rename_i p hp
      obtain ⟨h1, h2⟩ := item_inv hp
      split at h
      · cases h
      · rename_i r hr
        split at h
        · cases h
          exact ⟨by simp, fun z hz => by rw [List.mem_singleton] at hz; rw [hz]; exact h1, drop_row h2⟩
        · split at h
          · cases h
          · rename_i qs c2 hq
            cases h
            obtain ⟨g1, g2, g3⟩ := items_inv n (i + 1) qs _ hq
            refine ⟨by simp, fun z hz => ?_, ?_⟩
            · rcases List.mem_cons.mp hz with hz | hz
              · rw [hz]; exact h1
              · exact g2 z hz
            · rw [drop_row h2, g3, List.length_cons, show i + (qs.length + 1) = i + 1 + qs.length by omega]
              cases qs with
              | nil => exact absurd rfl g1
              | cons q r => rfl
theorem broken_inv {rows : List Str} {i e : Nat} {ps : List Str} {m : Bool} {b : Str} (h : brokenR rows i = .ok (ps, m, b, e)) : e = i + ps.length + 1 ∧ ps ≠ [] ∧ (∀ p ∈ ps, nameB p = true) ∧ remarkB b = true ∧ rows.drop i = itemRows m ps ++ (if b.length = 0 then Str.ofString ")" else (Str.empty ++ Str.ofString ")  # ") ++ b) :: rows.drop e := by
  obtain ⟨h1, rfl, r, hr, hrm⟩ := broken_facts h
  obtain ⟨g1, g2, g3⟩ := items_inv _ _ _ _ h1
  obtain ⟨hb, et⟩ := remark_inv hrm
  refine ⟨rfl, g1, g2, hb, ?_⟩
  have e9 : (if b.length = 0 then Str.ofString ")" else Str.ofString ")" ++ Str.ofString "  # " ++ b) = (if b.length = 0 then Str.ofString ")" else (Str.empty ++ Str.ofString ")  # ") ++ b) := by
    split
    · rfl
    · rw [Str.empty_append, show Str.ofString ")  # " = Str.ofString ")" ++ Str.ofString "  # " by decide +kernel]
  rw [g3, drop_row hr, et, e9]
theorem drop_len {rows a : List Str} {i k : Nat} (h : rows.drop i = a ++ rows.drop k) (l : i ≤ rows.length) (hk : k ≤ rows.length) : k = i + a.length := by
  have := congrArg List.length h
  rw [List.length_append, List.length_drop, List.length_drop] at this
  omega
theorem itemRows_len (m : Bool) : ∀ ps : List Str, (itemRows m ps).length = ps.length
  | [] => rfl
  | [p] => rfl
  | p :: q :: r => by
    show (itemRows m (q :: r)).length + 1 = _
    rw [itemRows_len m (q :: r)]
    rfl
theorem join_len_few {ps : List Str} {t x y : Str} (h : t = (Txt.join ", " ps ++ x) ++ y) (l : t.length ≤ 900) : ps.length ≤ 1000 := by
  have := join_ge (Str.ofString ", ") (by decide) ps
  have e := congrArg Str.length h
  rw [Str.length_append, Str.length_append, joinT] at e
  have e2 : (Str.join ("," ++ " " : String) ps).length = (Str.join ("," ++ " " : String) ps).length := rfl
  omega
theorem piece_inv {rows : List Str} {i k : Nat} {d : PD} (few : Few rows) (h : pieceR rows i = .ok (d, k)) : d.Ok ∧ i < k ∧ k ≤ rows.length ∧ rows.drop i = rowsS d ++ rows.drop k := by
  obtain ⟨b, j, rest, hb, eb, ha, ej, hh, hc⟩ := piece_facts h
  obtain ⟨b2, hdb, hbl, _⟩ := blanks_inv hb
  obtain ⟨ra, r, hr, hra⟩ := ahead_inv ha
  obtain ⟨hw, r1, hr1, e1⟩ := head_inv hh
  have j1 := row_lt hr1
  have hda : rows.drop (i + b) = remarkS d ++ rows.drop j := by
    unfold remarkS
    by_cases q : d.ahead.length = 0
    · rw [if_pos q, ej, if_neg (by rw [q]; decide)]
      rfl
    · rw [if_neg q] at hra ⊢
      rw [ej, if_pos q, drop_row hr, hra, Str.empty_append]
      rfl
  have bl : d.blanks.toNat = b := by rw [eb]; rfl
  have ji : i ≤ j := by rw [ej]; split <;> omega
  have key : ∃ d2 : PD, d2 = d ∧ d.parts ≠ [] ∧ (∀ p ∈ d.parts, nameB p = true) ∧ remarkB d.behind = true ∧ d.parts.length ≤ 1000 ∧ j < k ∧ k ≤ rows.length ∧ rows.drop j = bodyS d ++ rows.drop k := by
    rcases hc with ⟨q, qb, hc⟩ | ⟨q, qb, hc⟩
    · obtain ⟨ek, g1, g2, g3, g4⟩ := broken_inv hc
      have hk : k ≤ rows.length := by
        have := congrArg List.length g4
        rw [List.length_append, List.length_cons, List.length_drop, List.length_drop, itemRows_len] at this
        omega
      refine ⟨d, rfl, g1, g2, g3, by have := few.1; omega, by omega, hk, ?_⟩
      unfold bodyS
      rw [if_pos qb, drop_row hr1, e1, empty_of q, app_e, ← headS_is, g4, itemRows_eq _ _ g1]
      unfold lastS commaS tailS
      simp only [List.append_assoc, List.cons_append, List.nil_append]
    · obtain ⟨ek, g1, g2, g3, g4⟩ := flat_inv hc
      have rl : rest.length ≤ 900 := by
        have h1 := few.2 r1 (List.mem_of_getElem? (rowR_ok hr1))
        have h2 := congrArg Str.length e1
        rw [Str.length_append] at h2
        omega
      refine ⟨d, rfl, g1, g2, g3, join_len_few g4 rl, by omega, by omega, ?_⟩
      unfold bodyS
      rw [if_neg (by rw [qb]; decide), drop_row hr1, e1, ← headS_is, g4, ek]
      unfold commaS tailS
      simp only [s_assoc]
      rfl
  obtain ⟨_, _, k1, k2, k3, k4, k5, k6, k7⟩ := key
  refine ⟨⟨hw, List.length_pos_iff.mpr k1, k4, k2, ra, k3, by rw [eb]; omega, by rw [eb]; omega⟩, by omega, k6, ?_⟩
  unfold rowsS
  rw [hdb, hda, k7, bl]
  simp only [List.append_assoc]
theorem pieces_inv {rows : List Str} (few : Few rows) : ∀ (n i : Nat) (ds : List PD), i ≤ rows.length → piecesR rows n i = .ok ds → (∀ d ∈ ds, d.Ok) ∧ progRows ds = rows.drop i ∧ ds.length ≤ rows.length - i
  | n, i, ds, hi, h => by
    rcases pieces_step h with ⟨q, rfl⟩ | ⟨q, m, d, k2, es, rfl, h1, h2, rfl⟩
    · have e : i = rows.length := by omega
      subst e
      refine ⟨fun d hd => (List.not_mem_nil hd).elim, ?_, Nat.zero_le _⟩
      rw [List.drop_length]
      rfl
    · obtain ⟨o, lt, le, e⟩ := piece_inv few h1
      obtain ⟨g1, g2, g3⟩ := pieces_inv few m k2 es le h2
      refine ⟨fun z hz => ?_, ?_, by rw [List.length_cons]; omega⟩
      · rcases List.mem_cons.mp hz with hz | hz
        · rw [hz]; exact o
        · exact g1 z hz
      · have e2 : progRows (d :: es) = rowsS d ++ progRows es := by
          unfold progRows
          rw [List.map_cons, List.flatten_cons]
        rw [e2, g2, e]
end Lay
set_option Elab.async false
set_option linter.all false
set_option maxRecDepth 100000
set_option maxHeartbeats 4000000
set_option pp.maxSteps 900
namespace Lay
open PySem PySem.Spec PyProof.Rows L2 KwX
def spXPc (K : PySem.W.Frag) (D : Addr) : Sp := fun vs H _ E => ∃ (l : Addr) (rows : List Str) (i e : Nat), vs = [.ref l, .int i] ∧ RowsAt K H l rows ∧ Few rows ∧ i < rows.length ∧ pieceR rows i = .error e ∧ RaisedA D H (.int e) E
def spXPs (K : PySem.W.Frag) (D : Addr) : Sp := fun vs H _ E => ∃ (l : Addr) (rows : List Str) (e : Nat), vs = [.ref l] ∧ RowsAt K H l rows ∧ Few rows ∧ piecesR rows rows.length 0 = .error e ∧ RaisedA D H (.int e) E
def spXRead (K : PySem.W.Frag) (CP D : Addr) : Sp := fun vs H _ E => ∃ x, vs = [.ref CP, x] ∧ ((IsT K H x "str" false ∧ RaisedA D H (.int 0) E) ∨ ∃ (t : Str) (e : Nat), x = .str t ∧ t.length ≤ 1000000 ∧ t.length ≠ 0 ∧ Few (Txt.split t "\n") ∧ piecesR (Txt.split t "\n") (Txt.split t "\n").length 0 = .error e ∧ RaisedA D H (.int e) E)
section
variable {P : Program} {w : World} {K : PySem.W.Frag} {mg : Str → Option Value} {base : Heap}
theorem has_RPcX {D : Addr} (DB : Has P w K mg base CX0 2 "read_blanks" raP (spRBl K)) (DA : Has P w K mg base CX0 2 "read_ahead" raP (spRAh K)) (DH : Has P w K mg base CX0 2 "read_head" raP (spRHd K))
    (DBX : HasR P w K mg base (L2.CX P w) 4 "read_blanks" (spXBl K D)) (DAX : HasR P w K mg base (L2.CX P w) 4 "read_ahead" (spXAh K D)) (DHX : HasR P w K mg base (L2.CX P w) 4 "read_head" (spXHd K D)) (DFX : HasR P w K mg base (L2.CX P w) 4 "read_flat" (spXFl D)) (DRX : HasR P w K mg base (L2.CX P w) 5 "read_broken" (spXBr K D))
    (F : Dfn K mg "read_piece" sRPc raP) : Has P w K mg base (L2.CX P w) 6 "read_piece" raP (spXPc K D) := by
  refine F.hasX scRPc (fun vs H Q E h => ?_) (fun f cdv A outer s H vs Q E hr h => ?_)
  · obtain ⟨l, rows, i, e, rfl, _⟩ := h
    rfl
  · obtain ⟨l, rows, i, e, rfl, hs, few, il, hp, k⟩ := h
    rcases piece_err hp with hb | ⟨b, hb, h2⟩
    · exact ⟨_, (pss_cons (ps_set (i := 2) scRPc.nd rfl (.inl rfl) (pe_callR (E := E) DBX (hr.mono (by decide)) (by rfl) (passes_call (takes_of rfl rfl rfl rfl) fun _ _ _ _ h => h) (pa_cons (pv 0) (pa_cons (pv 1) pa_nil)))) pss_never), _, rfl, _, rfl, l, rows, i, e, rfl, hs, by omega, hb, k⟩
    obtain ⟨b2, _, ib, _⟩ := blanks_inv hb
    have ei : (V.int ((i : Int) + (b : Int))) = V.int ((i + b : Nat) : Int) := by rw [Int.natCast_add]
    rcases h2 with ha | ⟨a, j, ha, ej, h2⟩
    · refine ⟨_, (pss_cons (ps_set (i := 2) scRPc.nd rfl (.inl rfl) (pe_callH DB (hr.mono (by decide)) (by rfl) pass0 (pa_cons (pv 0) (pa_cons (pv 1) pa_nil)))) (pss_cons (ps_set (i := 3) scRPc.nd rfl (.inl rfl) (pe_op op_add (pv 1) (pv 2))) (pss_cons (ps_set (i := 4) scRPc.nd rfl (.inl rfl) (pe_callR (E := E) DAX (hr.mono (by decide)) (by rfl) (passes_call (takes_of rfl rfl rfl rfl) fun _ _ _ _ h => h) (pa_cons (pv 0) (pa_cons (pv 3) pa_nil)))) pss_never))), ?_⟩
      refine ⟨_, rfl, _, rfl, l, rows, i, b, rfl, hs, hb, ?_⟩
      refine ⟨_, rfl, _, rfl, _, _, rfl, rfl, ?_⟩
      exact ⟨_, rfl, _, rfl, l, rows, i + b, e, by rw [← ei]; rfl, hs, ib, ha, k⟩
    have jl : j ≤ rows.length := by
      obtain ⟨_, r, hr0, _⟩ := ahead_inv ha
      have := row_lt hr0
      rw [ej]
      split <;> omega
    rcases h2 with hh | ⟨w0, l0, rest, hh, h2⟩
    · refine ⟨_, (pss_cons (ps_set (i := 2) scRPc.nd rfl (.inl rfl) (pe_callH DB (hr.mono (by decide)) (by rfl) pass0 (pa_cons (pv 0) (pa_cons (pv 1) pa_nil)))) (pss_cons (ps_set (i := 3) scRPc.nd rfl (.inl rfl) (pe_op op_add (pv 1) (pv 2))) (pss_cons (ps_set (i := 4) scRPc.nd rfl (.inl rfl) (pe_callH DA (hr.mono (by decide)) (by rfl) pass0 (pa_cons (pv 0) (pa_cons (pv 3) pa_nil)))) (C8.pss_cut (ps_if (pt_cmpR op_ne (pv 4) pe_str (nomark _)) (pss_one (ps_aug (i := 3) scRPc.nd rfl (.inl rfl) pe_int ip_add)) pss_nil) (pss_cons (ps_asg (pe_callR (E := E) DHX (hr.mono (by decide)) (by rfl) (passes_call (takes_of rfl rfl rfl rfl) fun _ _ _ _ h => h) (pa_cons (pv 0) (pa_cons (pv 3) pa_nil))) (pg_tup rfl (pgs_cons (pg_name (i := 5) scRPc.nd rfl (.inl rfl)) (pgs_cons (pg_name (i := 6) scRPc.nd rfl (.inl rfl)) (pgs_cons (pg_name (i := 7) scRPc.nd rfl (.inl rfl)) pgs_nil))))) pss_never))))), ?_⟩
      refine ⟨_, rfl, _, rfl, l, rows, i, b, rfl, hs, hb, ?_⟩
      refine ⟨_, rfl, _, rfl, _, _, rfl, rfl, ?_⟩
      refine ⟨_, rfl, _, rfl, l, rows, i + b, a, by rw [← ei]; rfl, hs, ha, ?_⟩
      refine ⟨fun σ G => σ = [some (.ref l), some (.int i), some (.int b), some (.int j), some (.str a), none, none, none, none, none, none, none, none] ∧ G = H, ?_, ?_⟩
      · refine ⟨_, rfl, rfl, _, rfl, ?_⟩
        rw [str_e0]
        by_cases q : a.length = 0
        · refine iteN (by rw [decide_eq_true q]; rfl) ⟨?_, rfl⟩
          rw [ej, if_neg (by rw [q]; decide), Int.natCast_add]
          rfl
        · refine iteY (by rw [decide_eq_false q]; rfl) ⟨_, rfl, _, _, rfl, rfl, ?_, rfl⟩
          rw [ej, if_pos q, Int.natCast_add, Int.natCast_add]
          rfl
      rintro σ G ⟨rfl, rfl⟩
      exact ⟨_, rfl, _, rfl, l, rows, j, e, rfl, hs, jl, hh, k⟩
    · refine ⟨_, (pss_cons (ps_set (i := 2) scRPc.nd rfl (.inl rfl) (pe_callH DB (hr.mono (by decide)) (by rfl) pass0 (pa_cons (pv 0) (pa_cons (pv 1) pa_nil)))) (pss_cons (ps_set (i := 3) scRPc.nd rfl (.inl rfl) (pe_op op_add (pv 1) (pv 2))) (pss_cons (ps_set (i := 4) scRPc.nd rfl (.inl rfl) (pe_callH DA (hr.mono (by decide)) (by rfl) pass0 (pa_cons (pv 0) (pa_cons (pv 3) pa_nil)))) (C8.pss_cut (ps_if (pt_cmpR op_ne (pv 4) pe_str (nomark _)) (pss_one (ps_aug (i := 3) scRPc.nd rfl (.inl rfl) pe_int ip_add)) pss_nil) (pss_cons (ps_asg (pe_callH DH (hr.mono (by decide)) (by rfl) pass0 (pa_cons (pv 0) (pa_cons (pv 3) pa_nil))) (pg_tup rfl (pgs_cons (pg_name (i := 5) scRPc.nd rfl (.inl rfl)) (pgs_cons (pg_name (i := 6) scRPc.nd rfl (.inl rfl)) (pgs_cons (pg_name (i := 7) scRPc.nd rfl (.inl rfl)) pgs_nil)))))
      (pss_cons (ps_set (i := 8) scRPc.nd rfl (.inl rfl) (pe_cmpR op_eq (pv 7) pe_str (nomark _)))
      (pss_cons (ps_if (pt_val (pv 8)) (pss_cons (ps_asg (pe_callR (E := E) DRX (hr.mono (by decide)) (by rfl) (passes_call (takes_of rfl rfl rfl rfl) fun _ _ _ _ h => h) (pa_cons (pv 0) (pa_cons (pe_op op_add (pv 3) pe_int) pa_nil))) (pg_tup rfl (pgs_cons (pg_name (i := 9) scRPc.nd rfl (.inl rfl)) (pgs_cons (pg_name (i := 10) scRPc.nd rfl (.inl rfl)) (pgs_cons (pg_name (i := 11) scRPc.nd rfl (.inl rfl)) (pgs_cons (pg_name (i := 12) scRPc.nd rfl (.inl rfl)) pgs_nil)))))) pss_nil) (pss_cons (ps_asg (pe_callR (E := E) DFX (hr.mono (by decide)) (by rfl) (passes_call (takes_of rfl rfl rfl rfl) fun _ _ _ _ h => h) (pa_cons (pv 7) (pa_cons (pv 3) pa_nil))) (pg_tup rfl (pgs_cons (pg_name (i := 9) scRPc.nd rfl (.inl rfl)) (pgs_cons (pg_name (i := 10) scRPc.nd rfl (.inl rfl)) (pgs_cons (pg_name (i := 11) scRPc.nd rfl (.inl rfl)) (pgs_cons (pg_name (i := 12) scRPc.nd rfl (.inl rfl)) pgs_nil)))))) pss_nil)) pss_never))))))), ?_⟩
      refine ⟨_, rfl, _, rfl, l, rows, i, b, rfl, hs, hb, ?_⟩
      refine ⟨_, rfl, _, rfl, _, _, rfl, rfl, ?_⟩
      refine ⟨_, rfl, _, rfl, l, rows, i + b, a, by rw [← ei]; rfl, hs, ha, ?_⟩
      refine ⟨fun σ G => σ = [some (.ref l), some (.int i), some (.int b), some (.int j), some (.str a), none, none, none, none, none, none, none, none] ∧ G = H, ?_, ?_⟩
      · refine ⟨_, rfl, rfl, _, rfl, ?_⟩
        rw [str_e0]
        by_cases q : a.length = 0
        · refine iteN (by rw [decide_eq_true q]; rfl) ⟨?_, rfl⟩
          rw [ej, if_neg (by rw [q]; decide), Int.natCast_add]
          rfl
        · refine iteY (by rw [decide_eq_false q]; rfl) ⟨_, rfl, _, _, rfl, rfl, ?_, rfl⟩
          rw [ej, if_pos q, Int.natCast_add, Int.natCast_add]
          rfl
      rintro σ G ⟨rfl, rfl⟩
      refine ⟨_, rfl, _, rfl, l, rows, j, w0, l0, rest, rfl, hs, hh, fun p H1 s1 hp1 => ⟨p, _, rfl, SqT.of hp1, rfl, _, _, rfl, _, _, rfl, _, _, rfl, rfl, ?_⟩⟩
      refine ⟨_, rfl, rfl, ?_⟩
      rw [str_e0]
      obtain ⟨_, r1, hr1, e1⟩ := head_inv hh
      have jlt := row_lt hr1
      rcases h2 with ⟨q, hc⟩ | ⟨q, hc⟩
      · refine ⟨_, rfl, _, rfl, iteY (decide_eq_true q) ?_⟩
        exact ⟨_, rfl, _, rfl, _, _, rfl, rfl, l, rows, j + 1, e, by rw [Int.natCast_add]; rfl, hs.same s1, few, by omega, by omega, hc, k.same s1⟩
      · refine ⟨_, rfl, _, rfl, iteN (decide_eq_false q) ?_⟩
        have rl : rest.length ≤ 900 := by
          have h1 := few.2 r1 (List.mem_of_getElem? (rowR_ok hr1))
          have h2 := congrArg Str.length e1
          rw [Str.length_append] at h2
          omega
        exact ⟨_, rfl, _, rfl, rest, j, e, rfl, rl, hc, k.same s1⟩
theorem has_RPsX {C D : Addr} (B : Bt mg) (DPB : HasR P w K mg base (L2.CX P w) 6 "read_piece" (fun vs H Q E => spRPc K C vs H Q E ∨ spXPc K D vs H Q E)) (F : Dfn K mg "read_pieces" sRPs ["rows"]) : Has P w K mg base (L2.CX P w) 7 "read_pieces" ["rows"] (spXPs K D) := by
  refine F.hasX scRPs (fun vs H Q E h => ?_) (fun f cdv A outer s H vs Q E hr h => ?_)
  · obtain ⟨l, rows, e, rfl, _⟩ := h
    rfl
  · obtain ⟨l, rows, e, rfl, hs, few, hp, k⟩ := h
    refine ⟨_, (pss_cons (ps_set (i := 1) scRPs.nd rfl (.inl rfl) (pe_lst pa_nil))
    (pss_cons (ps_set (i := 2) scRPs.nd rfl (.inl rfl) pe_int)
    (pss_cons (ps_while (passes_of rfl) (pt_cmpR op_lt (pv 2) (pe_callB (call_lenK (K := K) rfl) (by rfl) B.len PySem.boot_len (pa_cons (pv 0) pa_nil)) (nomark _))
      (pss_cons (ps_asg (pe_callR (E := E) DPB hr (by rfl) (passes_call (takes_of rfl rfl rfl rfl) fun _ _ _ _ h => h) (pa_cons (pv 0) (pa_cons (pv 2) pa_nil))) (pg_tup rfl (pgs_cons (pg_name (i := 3) scRPs.nd rfl (.inl rfl)) (pgs_cons (pg_name (i := 2) scRPs.nd rfl (.inl rfl)) pgs_nil))))
      (pss_one (ps_expr (pe_bm PySem.F.plainAttrs_list PySem.F.slot_list_append PySem.F.type_list_append mt_append (pv 1) (pa_cons (pv 3) pa_nil))))))
    pss_never))), ?_⟩
    have fl := few.1
    refine ⟨(by show 0 ≤ sizeLine; exact Nat.zero_le _), fun lp nlp => ?_⟩
    refine ⟨fun mm σ' H' => ∃ (i n : Nat) (xs : List V) (x : Option V), mm = rows.length - i ∧ i ≤ rows.length ∧ rows.length - i ≤ n ∧ piecesR rows n i = .error e ∧ σ' = [some (.ref l), some (.ref lp), some (.int i), x] ∧ Same H H' ∧ H' lp = some (.lst xs) ∧ xs.length ≤ i,
      ⟨_, 0, rows.length, [], none, rfl, Nat.zero_le _, by omega, hp, rfl, Same.new nlp, upd_same, Nat.zero_le _⟩, ?_⟩
    rintro mm σ' H' ⟨i, n, xs, x, rfl, il, hn, hpr, rfl, s1, hlp, lx⟩
    refine ⟨_, rfl, _, rfl, l, _, rfl, .inl (hs.same s1).1, _, _, rfl, rfl, _, rfl, ?_⟩
    rw [List.length_map]
    have lt : i < rows.length := by
      rcases Nat.lt_or_ge i rows.length with q | q
      · exact q
      · exfalso
        cases n <;> (unfold piecesR at hpr; rw [if_neg (by omega)] at hpr; cases hpr)
    obtain ⟨n2, rfl⟩ : ∃ n2, n = n2 + 1 := ⟨n - 1, by omega⟩
    unfold piecesR at hpr
    rw [if_pos lt] at hpr
    refine iteY (decide_eq_true (by omega)) ⟨fun σ2 H2 => ∃ (i2 n3 : Nat) (xs2 : List V) (x2 : Option V), rows.length - i2 < rows.length - i ∧ i2 ≤ rows.length ∧ rows.length - i2 ≤ n3 ∧ piecesR rows n3 i2 = .error e ∧ σ2 = [some (.ref l), some (.ref lp), some (.int i2), x2] ∧ Same H H2 ∧ H2 lp = some (.lst xs2) ∧ xs2.length ≤ i2, fun σ2 H2 ⟨i2, n3, xs2, x2, e0, e1, e2, e3, e4, e5, e6, e7⟩ => ⟨_, e0, i2, n3, xs2, x2, rfl, e1, e2, e3, e4, e5, e6, e7⟩, ?_⟩
    cases hpc : pieceR rows i with
    | error e2 =>
      rw [hpc] at hpr
      cases hpr
      exact ⟨_, rfl, _, rfl, .inr ⟨l, rows, i, e, rfl, hs.same s1, few, lt, hpc, k.same s1⟩⟩
    | ok dk =>
      obtain ⟨d, k2⟩ := dk
      rw [hpc] at hpr
      simp only at hpr
      obtain ⟨od, lt2, le2, _⟩ := piece_inv few hpc
      refine ⟨_, rfl, _, rfl, .inl ⟨l, rows, i, d, k2, rfl, hs.same s1, hpc, od, fun p y H2 s2 hp2 hy => ⟨p, _, rfl, SqT.of hp2, rfl, _, _, rfl, _, _, rfl, rfl, ?_⟩⟩⟩
      have hlp2 := s2 _ _ hlp
      refine ⟨_, rfl, .inl ⟨rfl, _, SqL.of hlp2⟩, _, rfl, lp, _, _, rfl, rfl, hlp2, small1000 (by omega), k2, n2, _, _, by omega, le2, by omega, ?_, rfl, same_put (s1.trans s2) (by
        have : H lp = none := nlp
        exact this), upd_same, by rw [List.length_append]; show xs.length + 1 ≤ k2; omega⟩
      split at hpr
      · rename_i e2 he
        cases hpr
        exact he
      · cases hpr
theorem ok_readX {f fI C CP D : Addr} {fd dI : FuncData} (F : Fun K "read" "Program.read" sRead f fd) (B : Bt mg) (Y : ErrT P w K mg base D) (M : Mk K CP fI) (GI : FnOk P w K mg base CX0 3 fI dI ["self", "pieces"] (spProgG K C CP)) (bI : Binds K dI ["self", "pieces"] []) (DP : HasR P w K mg base (L2.CX P w) 7 "read_pieces" (spXPs K D)) :
    FnOk P w K mg base (L2.CX P w) 8 f fd ["cls", "text"] (spXRead K CP D) := by
  obtain ⟨fE, dE, Y, GE, bI2⟩ := Y
  refine F.okX scRead (fun vs H Q E h => ?_) (fun cdv A outer s H vs Q E hr h => ?_)
  · obtain ⟨x, rfl, _⟩ := h
    rfl
  · obtain ⟨x, rfl, ⟨⟨ty0, ty, e1⟩, k⟩ | ⟨t, e, rfl, tl, t0, few, hp, k⟩⟩ := h
    · refine ⟨_, (pss_cons (ps_if (pt_not (pt_val (pe_callB (call_isiK (K := K) rfl) (by rfl) B.isinstance (by decide +kernel) (pa_cons (pv 1) (pa_cons (pe_bltn (v := .ty "str") (by rfl) B.str (by decide +kernel) rfl) pa_nil))))) (pss_one (ps_raise rfl (takes_of rfl rfl rfl rfl) (pmk_oex Y.oex Y.init Y.tI GE (hr.mono (by decide)) bI2 .nil pass0 (by rfl) Y.gC (pa_cons pe_int pa_nil)))) pss_nil) pss_never), ?_⟩
      exact ⟨_, rfl, _, _, _, _, _, rfl, .ty _, ty, e1, _, rfl, iteY rfl ⟨(by show 1 ≤ 1000; decide), fun a ha => raised_at Y.oex Y.no ha k⟩⟩
    · have hr4 := hr.mono (show 4 ≤ 7 by decide)
      refine ⟨_, (pss_cons (ps_if (pt_not (pt_val (pe_callB (call_isiK (K := K) rfl) (by rfl) B.isinstance (by decide +kernel) (pa_cons (pv 1) (pa_cons (pe_bltn (v := .ty "str") (by rfl) B.str (by decide +kernel) rfl) pa_nil))))) pss_never pss_nil)
      (pss_cons (ps_if (pt_cmpR op_eq (pv 1) pe_str (nomark _)) pss_never pss_nil)
      (pss_one (ps_ret (pe_makeL (i := 0) (E := E0) M GI hr4 rfl (by first | exact .inl rfl | exact .inr rfl) bI .nil pass0 (pa_cons (pe_callR (E := E) DP hr (by rfl) (passes_call (takes_of rfl rfl rfl rfl) fun _ _ _ _ h => h) (pa_cons (pe_bm PySem.F.plainAttrs_str PySem.F.slot_str_split PySem.F.type_str_split mt_split (pv 1) (pa_cons pe_str pa_nil)) pa_nil)) pa_nil)))))), ?_⟩
      obtain ⟨ty0, ty, e1⟩ := isT_str (K := K) (H := H) (z := t)
      refine ⟨_, rfl, _, _, _, _, _, rfl, .ty _, ty, e1, _, rfl, iteN rfl ?_⟩
      refine ⟨_, rfl, rfl, _, rfl, iteN (by rw [str_e0]; exact decide_eq_false t0) ?_⟩
      refine ⟨rfl, _, rfl, rfl, _, _, rfl, rfl, by decide, by rw [sizeLine_eq]; omega, fun l nl => ?_⟩
      exact ⟨l, Txt.split t "
", e, rfl, ⟨SqL.of upd_same, fun r hr => by have := few.2 r hr; omega⟩, few, hp, k.same (Same.new nl)⟩
end
end Lay
set_option Elab.async false
set_option linter.all false
set_option maxRecDepth 100000
set_option maxHeartbeats 4000000
set_option pp.maxSteps 900
namespace Lay
open PySem TxL
/-! The law's own look at rows: what it cuts out is what is read. -/
theorem sl_start {r p : Str} {n : Nat} (hn : p.length = n) : Txt.slice r none (some (n : Int)) = p ↔ Txt.startswith r p = true := by
  rw [start_iff, hn, ← c_pre]
  exact ⟨fun h => by rw [h], fun h => L_inj h⟩
theorem sl_rest {r p : Str} {n : Nat} (hn : p.length = n) (h : Txt.startswith r p = true) : Txt.removeprefix r p = Txt.slice r (some (n : Int)) none := by
  refine L_inj ?_
  have e := start_inv h
  generalize Txt.removeprefix r p = y at e
  rw [c_suf, e, L_app, ← hn, ← L_len, List.drop_left]
theorem sl_app {r : Str} (n : Nat) : r = Txt.slice r none (some (n : Int)) ++ Txt.slice r (some (n : Int)) none := L_inj (by rw [L_app, c_pre, c_suf, List.take_append_drop])
theorem sl_appm {r : Str} : r = Txt.slice r none (some (-1)) ++ Txt.slice r (some (-1)) none := L_inj (by rw [L_app, c_init, c_last, List.take_append_drop])
theorem sl_end {r : Str} {c : Nat} : Txt.slice r (some (-1)) none = (⟨#[c]⟩ : Str) ↔ Txt.endswith r ⟨#[c]⟩ = true := by
  rw [end_iff]
  have l1 : (⟨#[c]⟩ : Str).length = 1 := rfl
  rw [l1]
  constructor
  · intro h
    have e : L (Txt.slice r (some (-1)) none) = [c] := by rw [h]; rfl
    rw [c_last] at e
    refine ⟨?_, e⟩
    have := congrArg List.length e
    rw [List.length_drop, L_len] at this
    simp only [List.length_cons, List.length_nil] at this
    omega
  · rintro ⟨_, h⟩
    exact L_inj (by rw [c_last]; exact h)
theorem sl_init {r : Str} {c : Nat} (h : Txt.endswith r ⟨#[c]⟩ = true) : Txt.removesuffix r ⟨#[c]⟩ = Txt.slice r none (some (-1)) := by
  refine L_inj ?_
  have e := end_inv h
  generalize Txt.removesuffix r ⟨#[c]⟩ = y at e
  rw [c_init, e, L_app, Str.length_append]
  show L y = (L y ++ [c]).take (y.length + 1 - 1)
  rw [Nat.add_sub_cancel, ← L_len, List.take_left]
/-! ### a remark at the end -/
def lRem (t : Str) : Option Str := if t.length = 0 then some (Str.ofString "") else if Txt.slice t none (some 4) = Str.ofString "  # " ∧ nameB (Txt.slice t (some 4) none) = true then some (Txt.slice t (some 4) none) else none
def afterS (b : Str) : Str := if b.length = 0 then Str.ofString "" else Str.ofString "  # " ++ b
theorem lRem_some {t b : Str} (h : lRem t = some b) : remarkB b = true ∧ t = afterS b := by
  unfold lRem at h
  split at h
  · rename_i q
    cases h
    exact ⟨rem_empty, empty_of q⟩
  · split at h
    · rename_i q
      cases h
      refine ⟨rem_of_name q.2, ?_⟩
      unfold afterS
      rw [if_neg (name_pos q.2), ← q.1]
      exact sl_app 4
    · cases h
theorem lRem_of {b : Str} (h : remarkB b = true) : lRem (afterS b) = some b := by
  unfold lRem afterS
  by_cases q : b.length = 0
  · rw [if_pos q, if_pos (by decide), empty_of q]
  · rw [if_neg q]
    have e1 : Txt.slice (Str.ofString "  # " ++ b) none (some 4) = Str.ofString "  # " := (sl_start (n := 4) (by decide)).mpr (start_app _ _)
    have e2 : Txt.slice (Str.ofString "  # " ++ b) (some 4) none = b := by
      have := sl_rest (n := 4) (p := Str.ofString "  # ") (by decide) (start_app (Str.ofString "  # ") b)
      rw [pre_app] at this
      exact this.symm
    rw [if_neg (by rw [Str.length_append]; have : (Str.ofString "  # ").length = 4 := by decide
                   omega), e1, e2, if_pos ⟨rfl, rem_name h q⟩]
/-! ### a piece in one row -/
def oWord0 (r : Str) : Str := Txt.slice r none (some (Txt.find r "("))
def oIn (r : Str) : Str := Txt.slice r (some (Txt.find r "(" + 1)) (some (Txt.find r ")"))
def oBh (r : Str) : Option Str := lRem (Txt.slice r (some (Txt.find r ")" + 1)) none)
def oLeft (r : Str) : Bool := decide (L2.V.str (Txt.slice (oWord0 r) none (some 1)) = L2.V.str "!")
def oWord (r : Str) : Str := if oLeft r = true then Txt.slice (oWord0 r) (some 1) none else oWord0 r
def oMark (r : Str) : Bool := decide (L2.V.str (Txt.slice (oIn r) (some (-1)) none) = L2.V.str ",")
def oParts (r : Str) : List Str := Txt.split (if oMark r = true then Txt.slice (oIn r) none (some (-1)) else oIn r) ", "
theorem dstr {x y : Str} : decide (L2.V.str x = L2.V.str y) = decide (x = y) := decide_eq_decide.mpr ⟨fun h => L2.V.str.inj h, fun h => by rw [h]⟩
def oForm (l : Bool) (w : Str) (ps : List Str) (m : Bool) (b : Str) : Str := ((if l = true then Str.ofString "!" else Str.ofString "") ++ w) ++ Str.ofString "(" ++ ((Txt.join ", " ps ++ (if m = true then Str.ofString "," else Str.ofString "")) ++ Str.ofString ")" ++ afterS b)
/-- A ( I ) D -/
theorem o_cut {A I D r : Str} (hA : 40 ∉ L A) (h2 : 41 ∉ L (A ++ Str.ofString "(" ++ I)) (e : r = A ++ Str.ofString "(" ++ (I ++ Str.ofString ")" ++ D)) : Txt.find r "(" = A.length ∧ Txt.find r ")" = ((A.length + 1 + I.length : Nat) : Int) ∧ oWord0 r = A ∧ oIn r = I ∧ oBh r = lRem D := by
  have f1 : Txt.find r "(" = A.length := by rw [e]; exact find_at hA
  have e2 : r = (A ++ Str.ofString "(" ++ I) ++ Str.ofString ")" ++ D := by rw [e]; simp only [s_assoc]
  have l1 : (Str.ofString "(").length = 1 := by decide
  have f2 : Txt.find r ")" = ((A.length + 1 + I.length : Nat) : Int) := by
    have z : Txt.find r ")" = ((A ++ Str.ofString "(" ++ I).length : Int) := by rw [e2]; exact find_at h2
    rw [z, Str.length_append, Str.length_append, l1]
  have la : (L A).length = A.length := L_len A
  have li : (L I).length = I.length := L_len I
  have Lr : L r = L A ++ (40 :: (L I ++ (41 :: L D))) := by
    rw [e, L_app, L_app, L_app, L_app, List.append_assoc, List.append_assoc]
    rfl
  refine ⟨f1, f2, L_inj ?_, L_inj ?_, ?_⟩
  · unfold oWord0
    rw [f1, c_pre, Lr, ← la, List.take_left]
  · unfold oIn
    rw [f1, f2, show (A.length : Int) + 1 = ((A.length + 1 : Nat) : Int) by omega, c_mid, Lr, show A.length + 1 = (L A ++ [40]).length by rw [List.length_append, la]; rfl, show L A ++ 40 :: (L I ++ 41 :: L D) = (L A ++ [40]) ++ (L I ++ 41 :: L D) by simp, List.drop_left]
    rw [Nat.add_sub_cancel_left, ← li, List.take_left]
  · unfold oBh
    refine congrArg lRem (L_inj ?_)
    rw [f2, show ((A.length + 1 + I.length : Nat) : Int) + 1 = ((A.length + 1 + I.length + 1 : Nat) : Int) by omega, c_suf, Lr, show L A ++ 40 :: (L I ++ 41 :: L D) = (L A ++ [40] ++ L I ++ [41]) ++ L D by simp, show A.length + 1 + I.length + 1 = (L A ++ [40] ++ L I ++ [41]).length by simp [la, li]; omega, List.drop_left]
theorem o_form {l : Bool} {w : Str} {ps : List Str} {m : Bool} {b : Str} (hw : nameB w = true) (ne : ps ≠ []) (hp : ∀ p ∈ ps, nameB p = true) (hb : remarkB b = true) :
    0 ≤ Txt.find (oForm l w ps m b) "(" ∧ Txt.find (oForm l w ps m b) "(" ≤ Txt.find (oForm l w ps m b) ")" ∧ oBh (oForm l w ps m b) = some b ∧ oLeft (oForm l w ps m b) = l ∧ oWord (oForm l w ps m b) = w ∧ oMark (oForm l w ps m b) = m ∧ oParts (oForm l w ps m b) = ps := by
  have hx : ∀ c, ¬ (97 ≤ c ∧ c ≤ 122) → c ≠ 33 → c ∉ L ((if l = true then Str.ofString "!" else Str.ofString "") ++ w) := fun c hc h33 => by
    rw [L_app, List.mem_append, not_or]
    refine ⟨?_, name_free hw hc⟩
    cases l with
    | true =>
      intro z
      have : c ∈ [33] := z
      rw [List.mem_singleton] at this
      exact h33 this
    | false =>
      rw [if_neg (by decide)]
      intro z
      cases z
  have hj : ∀ c, ¬ (97 ≤ c ∧ c ≤ 122) → c ≠ 44 → c ≠ 32 → c ∉ L (Txt.join ", " ps ++ (if m = true then Str.ofString "," else Str.ofString "")) := fun c hc h44 h32 => by
    rw [L_app, List.mem_append, not_or, joinT]
    refine ⟨join_free (fun z => ?_) fun p h => name_free (hp p h) hc, ?_⟩
    · have : c ∈ [44, 32] := z
      simp only [List.mem_cons, List.not_mem_nil, or_false] at this
      rcases this with q | q
      · exact h44 q
      · exact h32 q
    · cases m with
      | true =>
        intro z
        have : c ∈ [44] := z
        rw [List.mem_singleton] at this
        exact h44 this
      | false =>
        intro z
        cases z
  have h41 : 41 ∉ L (((if l = true then Str.ofString "!" else Str.ofString "") ++ w) ++ Str.ofString "(" ++ (Txt.join ", " ps ++ (if m = true then Str.ofString "," else Str.ofString ""))) := by
    rw [L_app, L_app, List.mem_append, List.mem_append, not_or, not_or]
    exact ⟨⟨hx 41 (by decide) (by decide), by decide +kernel⟩, hj 41 (by decide) (by decide) (by decide)⟩
  obtain ⟨f1, f2, g1, g2, g3⟩ := o_cut (r := oForm l w ps m b) (hx 40 (by decide) (by decide)) h41 rfl
  have eL : oLeft (oForm l w ps m b) = l := by
    unfold oLeft
    rw [g1, dstr]
    cases l with
    | true =>
      refine decide_eq_true ((sl_start (n := 1) (by decide)).mpr ?_)
      exact start_app _ _
    | false =>
      refine decide_eq_false fun z => ?_
      have := (sl_start (n := 1) (by decide)).mp z
      have e : Txt.startswith (Str.ofString "" ++ w) "!" = false := start_no (c := 33) (by decide +kernel) (by rw [e_app]; have := name_first hw [] (c := 33) (by decide); rw [List.append_nil] at this; exact this)
      rw [if_neg (by decide)] at this
      rw [this] at e
      cases e
  have lj := join_last (sep := ", ") (c := 44) (by decide) ne hp
  have eM : oMark (oForm l w ps m b) = m := by
    unfold oMark
    rw [g2, dstr]
    cases m with
    | true => exact decide_eq_true (sl_end.mpr (end_app _ _))
    | false =>
      refine decide_eq_false fun z => ?_
      have := sl_end.mp z
      rw [if_neg (by decide), app_e, joinT] at this
      have e : Txt.endswith (Str.join ", " ps) "," = false := end_no (x := Str.join ", " ps) (c := 44) lj.2
      exact Bool.noConfusion (e.symm.trans this)
  refine ⟨by rw [f1]; omega, by rw [f1, f2]; omega, by rw [g3]; exact lRem_of hb, eL, ?_, eM, ?_⟩
  · unfold oWord
    rw [eL, g1]
    cases l with
    | true =>
      rw [if_pos rfl, if_pos rfl]
      have := sl_rest (n := 1) (p := Str.ofString "!") (by decide) (start_app (Str.ofString "!") w)
      rw [pre_app] at this
      exact this.symm
    | false =>
      rw [if_neg (by decide), if_neg (by decide), e_app]
  · unfold oParts
    rw [eM, g2]
    cases m with
    | true =>
      rw [if_pos rfl, if_pos rfl]
      have := sl_init (c := 44) (end_app (Txt.join ", " ps) ⟨#[44]⟩)
      rw [suf_app] at this
      rw [show Str.ofString "," = (⟨#[44]⟩ : Str) by decide +kernel, ← this]
      exact split_parts ne hp
    | false =>
      rw [if_neg (by decide), if_neg (by decide), app_e]
      exact split_parts ne hp
theorem o_inv {r b : Str} (h0 : 0 ≤ Txt.find r "(") (h1 : Txt.find r "(" ≤ Txt.find r ")") (h2 : oBh r = some b) : r = oForm (oLeft r) (oWord r) (oParts r) (oMark r) b ∧ remarkB b = true ∧ oParts r ≠ [] := by
  have m40 : 40 ∈ L r := by
    by_cases q : 40 ∈ L r
    · exact q
    · have e : Txt.find r "(" = -1 := find_no q
      rw [e] at h0
      exact absurd h0 (by decide)
  have m41 : 41 ∈ L r := by
    by_cases q : 41 ∈ L r
    · exact q
    · have e : Txt.find r ")" = -1 := find_no q
      rw [e] at h1
      omega
  obtain ⟨A, B, eA, nA⟩ := mem_first m40
  obtain ⟨C, D, eC, nC⟩ := mem_first m41
  have fA : Txt.find r "(" = A.length := by rw [eA]; exact find_at nA
  have fC : Txt.find r ")" = C.length := by rw [eC]; exact find_at nC
  rw [fA, fC] at h1
  have LA : L r = L A ++ 40 :: L B := by rw [eA, L_app, L_app, List.append_assoc]; rfl
  have LC : L r = L C ++ 41 :: L D := by rw [eC, L_app, L_app, List.append_assoc]; rfl
  have la : (L A).length = A.length := L_len A
  have lc : (L C).length = C.length := L_len C
  have lt : A.length < C.length := by
    rcases Nat.lt_or_ge A.length C.length with q | q
    · exact q
    · have q2 : A.length = C.length := by omega
      have g1 : (L r)[A.length]? = some 40 := by rw [LA, List.getElem?_append_right (by omega), la, Nat.sub_self]; rfl
      have g2 : (L r)[A.length]? = some 41 := by rw [LC, List.getElem?_append_right (by omega), lc, q2, Nat.sub_self]; rfl
      rw [g1] at g2
      cases g2
  have eB : L B = (L C).drop (A.length + 1) ++ 41 :: L D := by
    have d1 : (L r).drop (A.length + 1) = L B := by
      rw [LA, show L A ++ 40 :: L B = (L A ++ [40]) ++ L B by simp, show A.length + 1 = (L A ++ [40]).length by simp [la], List.drop_left]
    rw [← d1, LC, List.drop_append_of_le_length (by omega)]
  have hI : ∃ I : Str, L I = (L C).drop (A.length + 1) := ⟨⟨((L C).drop (A.length + 1)).toArray⟩, by show ((L C).drop (A.length + 1)).toArray.toList = _; rw [List.toList_toArray]⟩
  obtain ⟨I, eI⟩ := hI
  have eBs : B = I ++ Str.ofString ")" ++ D := L_inj (by rw [eB, L_app, L_app, eI, List.append_assoc]; rfl)
  have er : r = A ++ Str.ofString "(" ++ (I ++ Str.ofString ")" ++ D) := by rw [← eBs]; exact eA
  have n41 : 41 ∉ L (A ++ Str.ofString "(" ++ I) := by
    have ln : C.length = (L (A ++ Str.ofString "(" ++ I)).length := by
      rw [L_len, Str.length_append, Str.length_append]
      have l1 : (Str.ofString "(").length = 1 := by decide
      have l2 : I.length = C.length - (A.length + 1) := by rw [← L_len, eI, List.length_drop, lc]
      omega
    have e : L (A ++ Str.ofString "(" ++ I) = L C := by
      have t1 : (L r).take C.length = L C := by rw [LC, ← lc, List.take_left]
      rw [← t1, er, show A ++ Str.ofString "(" ++ (I ++ Str.ofString ")" ++ D) = (A ++ Str.ofString "(" ++ I) ++ (Str.ofString ")" ++ D) by simp only [s_assoc]]
      generalize A ++ Str.ofString "(" ++ I = Z at *
      rw [L_app]
      rw [ln, List.take_left]
    rw [e]
    exact nC
  obtain ⟨_, _, g1, g2, g3⟩ := o_cut nA n41 er
  rw [g3] at h2
  obtain ⟨hb, eD⟩ := lRem_some h2
  refine ⟨?_, hb, split_ne (by decide)⟩
  have w1 : (if oLeft r = true then Str.ofString "!" else Str.ofString "") ++ oWord r = A := by
    unfold oWord
    cases q : oLeft r with
    | true =>
      rw [if_pos rfl, if_pos rfl, g1]
      unfold oLeft at q
      rw [g1, dstr] at q
      have q2 := of_decide_eq_true q
      have e := sl_app (r := A) 1
      rw [show ((1 : Nat) : Int) = 1 from rfl, q2] at e
      exact e.symm
    | false => rw [if_neg (by decide), if_neg (by decide), e_app, g1]
  have w2 : Txt.join ", " (oParts r) ++ (if oMark r = true then Str.ofString "," else Str.ofString "") = I := by
    unfold oParts
    rw [joinT, StrLaws.join_split, g2]
    cases q : oMark r with
    | true =>
      rw [if_pos rfl, if_pos rfl]
      unfold oMark at q
      rw [g2, dstr] at q
      have q2 := of_decide_eq_true q
      have e := sl_appm (r := I)
      rw [q2] at e
      exact e.symm
    | false => rw [if_neg (by decide), if_neg (by decide), app_e]
  unfold oForm
  rw [w1, w2, ← eD]
  exact er
theorem tail_after (b : Str) : (if b.length = 0 then Str.ofString ")" else (Str.empty ++ Str.ofString ")  # ") ++ b) = Str.ofString ")" ++ afterS b := by
  unfold afterS
  by_cases q : b.length = 0
  · rw [if_pos q, if_pos q, app_e]
  · rw [if_neg q, if_neg q, Str.empty_append, show Str.ofString ")  # " = Str.ofString ")" ++ Str.ofString "  # " by decide +kernel]
    simp only [s_assoc]
theorem c_mid0 {r : Str} : L (Txt.slice r (some 0) (some (-1))) = (L r).take (r.length - 1) := by
  have := c_midm (z := r) 0
  rw [List.drop_zero] at this
  exact this
theorem c_mid1 {r : Str} : L (Txt.slice r (some 1) (some (-1))) = ((L r).take (r.length - 1)).drop 1 := c_midm (z := r) 1
theorem c_mid2 {r : Str} : L (Txt.slice r (some 2) (some (-1))) = ((L r).take (r.length - 1)).drop 2 := c_midm (z := r) 2
/-- whether a row is a piece in one row -/
def oGood (r : Str) : Bool := decide (0 ≤ Txt.find r "(") && (decide (Txt.find r "(" ≤ Txt.find r ")") && ((oBh r).isSome && (nameB (oWord r) && (oParts r).all nameB)))
theorem one_ok {rows : List Str} {r : Str} {j : Nat} (hr : rowR rows j = .ok r) (h : oGood r = true) : ∃ b rest, oBh r = some b ∧ remarkB b = true ∧ nameB (oWord r) = true ∧ oParts r ≠ [] ∧ (∀ p ∈ oParts r, nameB p = true) ∧ headR rows j = .ok (oWord r, oLeft r, rest) ∧ rest.length ≠ 0 ∧ flatR rest j = .ok (oParts r, oMark r, b, j + 1) := by
  unfold oGood at h
  simp only [Bool.and_eq_true, decide_eq_true_eq] at h
  obtain ⟨h0, h1, h2, h3, h4⟩ := h
  obtain ⟨b, hb⟩ := Option.isSome_iff_exists.mp h2
  obtain ⟨er, rb, ne⟩ := o_inv h0 h1 hb
  have hp : ∀ p ∈ oParts r, nameB p = true := List.all_eq_true.mp h4
  refine ⟨b, _, hb, rb, h3, ne, hp, head_read (post := rows.drop (j + 1)) h3 (by rw [drop_row hr]; refine congrArg (· :: _) ?_; exact er), ?_, ?_⟩
  · rw [Str.length_append, Str.length_append]
    have : (Str.ofString ")").length = 1 := by decide
    omega
  · have e2 : (Txt.join ", " (oParts r) ++ (if oMark r = true then Str.ofString "," else Str.ofString "")) ++ Str.ofString ")" ++ afterS b = (Txt.join ", " (oParts r) ++ (if oMark r = true then Str.ofString "," else Str.ofString "")) ++ (if b.length = 0 then Str.ofString ")" else (Str.empty ++ Str.ofString ")  # ") ++ b) := by
      rw [tail_after, s_assoc]
    rw [e2]
    exact flat_read ne hp rb
theorem one_no {rows : List Str} {r w rest : Str} {l : Bool} {j : Nat} (hr : rowR rows j = .ok r) (h : oGood r = false) (hh : headR rows j = .ok (w, l, rest)) : flatR rest j = .error j := by
  cases hf : flatR rest j with
  | error e =>
    rw [(flat_err hf).1]
  | ok q =>
    exfalso
    obtain ⟨ps, m, b, e⟩ := q
    obtain ⟨_, ne, hp, hb, et⟩ := flat_inv hf
    obtain ⟨hw, r1, hr1, e1⟩ := head_inv hh
    rw [hr] at hr1
    cases hr1
    have er : r = oForm l w ps m b := by
      rw [e1, et, tail_after]
      unfold oForm
      rw [s_assoc (Txt.join ", " ps ++ _)]
    obtain ⟨g0, g1, g2, g3, g4, g5, g6⟩ := o_form (l := l) (m := m) hw ne hp hb
    rw [er] at h
    unfold oGood at h
    rw [decide_eq_true g0, decide_eq_true g1, g2, g4, g6, hw, all_names hp] at h
    cases h
/-! ### a broken piece -/
def bLeft (r : Str) : Bool := decide (L2.V.str (Txt.slice r none (some 1)) = L2.V.str "!")
def bWord (r : Str) : Str := Txt.slice r (some (if bLeft r = true then 1 else 0)) (some (-1))
def bGood (r : Str) : Bool := decide (L2.V.str (Txt.slice r (some (-1)) none) = L2.V.str "(") && nameB (bWord r)
theorem b_ok {rows : List Str} {r : Str} {j : Nat} (hr : rowR rows j = .ok r) (h : bGood r = true) : nameB (bWord r) = true ∧ headR rows j = .ok (bWord r, bLeft r, Str.ofString "") := by
  unfold bGood at h
  rw [Bool.and_eq_true, dstr, decide_eq_true_eq] at h
  obtain ⟨h1, h2⟩ := h
  refine ⟨h2, head_read (post := rows.drop (j + 1)) h2 ?_⟩
  rw [drop_row hr, app_e]
  refine congrArg (· :: _) ?_
  have e1 := sl_appm (r := r)
  rw [h1] at e1
  have ew : (if bLeft r = true then Str.ofString "!" else Str.ofString "") ++ bWord r = Txt.slice r none (some (-1)) := by
    unfold bWord
    cases q : bLeft r with
    | false =>
      rw [if_neg (by decide), if_neg (by decide), e_app]
      refine L_inj ?_
      rw [c_mid0, c_init]
    | true =>
      rw [if_pos rfl, if_pos rfl]
      unfold bLeft at q
      rw [dstr] at q
      have q2 := of_decide_eq_true q
      refine L_inj ?_
      rw [L_app, c_mid1, c_init]
      have q3 : (L r).take 1 = [33] := by
        have := congrArg L q2
        have e9 := c_pre (z := r) 1
        exact e9.symm.trans this
      have lr : 2 ≤ r.length := by
        have := name_pos h2
        rcases Nat.lt_or_ge r.length 2 with z | z
        · exfalso
          apply this
          rw [← L_len]
          unfold bWord
          rw [show bLeft r = true by unfold bLeft; rw [dstr]; exact q, if_pos rfl, c_mid1, List.length_drop, List.length_take]
          omega
        · exact z
      show [33] ++ _ = _
      rw [← q3]
      have : (L r).take 1 = ((L r).take (r.length - 1)).take 1 := by rw [List.take_take, Nat.min_eq_left (by omega)]
      rw [this, List.take_append_drop]
  rw [ew]
  exact e1
theorem b_form {rows : List Str} {r w rest : Str} {l : Bool} {j : Nat} (hr : rowR rows j = .ok r) (hh : headR rows j = .ok (w, l, rest)) (h0 : rest.length = 0) : bLeft r = l ∧ bWord r = w ∧ bGood r = true := by
  obtain ⟨hw, r1, hr1, e1⟩ := head_inv hh
  rw [hr] at hr1
  cases hr1
  rw [empty_of h0, app_e] at e1
  have eL : bLeft r = l := by
    unfold bLeft
    rw [dstr, e1]
    cases l with
    | true =>
      refine decide_eq_true ((sl_start (n := 1) (by decide)).mpr ?_)
      rw [if_pos rfl, s_assoc]
      exact start_app _ _
    | false =>
      refine decide_eq_false fun z => ?_
      have := (sl_start (n := 1) (by decide)).mp z
      rw [if_neg (by decide), e_app] at this
      have e : Txt.startswith (w ++ Str.ofString "(") "!" = false := start_no (c := 33) (by decide +kernel) (by rw [L_app]; exact name_first hw _ (by decide))
      exact Bool.noConfusion (e.symm.trans this)
  have eE : Txt.slice r (some (-1)) none = Str.ofString "(" := sl_end.mpr (by rw [e1]; exact end_app _ _)
  have eI : Txt.slice r none (some (-1)) = (if l = true then Str.ofString "!" else Str.ofString "") ++ w := by
    have := sl_init (c := 40) (r := r) (by rw [e1]; exact end_app _ _)
    rw [← this, e1]
    exact suf_app _ _
  have eW : bWord r = w := by
    unfold bWord
    rw [eL]
    refine L_inj ?_
    have e2 := congrArg L eI
    rw [c_init, L_app] at e2
    cases l with
    | true =>
      rw [if_pos rfl, c_mid1, e2, if_pos rfl]
      rfl
    | false =>
      rw [if_neg (by decide), c_mid0, e2, if_neg (by decide)]
      rfl
  refine ⟨eL, eW, ?_⟩
  unfold bGood
  rw [dstr, decide_eq_true eE, eW, hw]
  rfl
/-! an item; the last row -/
def iEnd (r : Str) : Bool := decide (L2.V.str (Txt.slice r (some (-1)) none) = L2.V.str ",")
def iPart (r : Str) : Str := if iEnd r = true then Txt.slice r (some 2) (some (-1)) else Txt.slice r (some 2) none
theorem i_start {r : Str} : decide (L2.V.str (Txt.slice r none (some 2)) = L2.V.str "  ") = Txt.startswith r "  " := by
  rw [dstr]
  cases h : Txt.startswith r "  " with
  | true => exact decide_eq_true ((sl_start (n := 2) (by decide)).mpr h)
  | false => exact decide_eq_false fun z => Bool.noConfusion (h.symm.trans ((sl_start (n := 2) (by decide)).mp z))
theorem i_end {r : Str} : iEnd r = Txt.endswith r "," := by
  unfold iEnd
  rw [dstr]
  cases h : Txt.endswith r "," with
  | true => exact decide_eq_true (sl_end.mpr h)
  | false => exact decide_eq_false fun z => Bool.noConfusion (h.symm.trans (sl_end (c := 44).mp z))
theorem i_part {r : Str} (h : Txt.startswith r "  " = true) : Txt.removesuffix (Txt.removeprefix r "  ") "," = iPart r := by
  have e := sl_rest (n := 2) (p := Str.ofString "  ") (by decide) h
  have e1 := start_inv h
  unfold iPart
  rw [i_end]
  have e2 : Txt.removeprefix r "  " = Txt.slice r (some 2) none := e
  cases q : Txt.endswith r "," with
  | true =>
    rw [if_pos rfl]
    have lr : 2 + (Txt.removeprefix r "  ").length = r.length := by
      have := congrArg Str.length e1
      rw [Str.length_append] at this
      have l2 : (Str.ofString "  ").length = 2 := by decide
      omega
    have ey : Txt.endswith (Txt.removeprefix r "  ") "," = true := by
      cases z : Txt.endswith (Txt.removeprefix r "  ") "," with
      | true => rfl
      | false =>
        exfalso
        generalize Txt.removeprefix r "  " = y at *
        have gl : (L y).getLast? ≠ some 44 := by
          intro g
          have : Txt.endswith y "," = true := by
            obtain ⟨a, ea⟩ := List.getLast?_eq_some_iff.mp g
            have : y = ⟨a.toArray⟩ ++ Str.ofString "," := L_inj (by rw [L_app, ea]; show _ = a.toArray.toList ++ [44]; rw [List.toList_toArray])
            rw [this]
            exact end_app _ _
          exact Bool.noConfusion (z.symm.trans this)
        have : Txt.endswith r "," = false := end_no (c := 44) (by
          rw [e1, L_app, List.getLast?_append]
          cases k : (L y).getLast? with
          | none =>
            show some 32 ≠ some 44
            decide
          | some c =>
            intro g
            rw [k] at gl
            exact gl (by simpa using g))
        exact Bool.noConfusion (this.symm.trans q)
    have e9 : Txt.removesuffix (Txt.removeprefix r "  ") "," = Txt.slice (Txt.removeprefix r "  ") none (some (-1)) := sl_init (c := 44) ey
    rw [e9]
    refine L_inj ?_
    have e8 : L (Txt.removeprefix r "  ") = (L r).drop 2 := by
      rw [e2]
      exact c_suf (z := r) 2
    rw [c_init, c_mid2, List.drop_take, e8]
    congr 1
    omega
  | false =>
    rw [if_neg (by decide), ← e2]
    refine suf_no ?_
    cases z : Txt.endswith (Txt.removeprefix r "  ") "," with
    | false => rfl
    | true =>
      exfalso
      have e4 := end_inv z
      have e5 : r = (Str.ofString "  " ++ Txt.removesuffix (Txt.removeprefix r "  ") ",") ++ Str.ofString "," := by
        rw [s_assoc]
        refine e1.trans ?_
        exact congrArg (fun x => Str.ofString "  " ++ x) e4
      have : Txt.endswith r "," = true := by
        rw [e5]
        exact end_app _ _
      exact Bool.noConfusion (q.symm.trans this)
theorem end_law {r : Str} {i : Nat} (h : Txt.slice r none (some 1) = Str.ofString ")") : (∀ b, lRem (Txt.slice r (some 1) none) = some b → remarkR r i = .ok (Str.ofString ")", b)) ∧ (lRem (Txt.slice r (some 1) none) = none → remarkR r i = .error i ∨ ∃ body b, remarkR r i = .ok (body, b) ∧ body ≠ Str.ofString ")") := by
  have e := sl_app (r := r) 1
  rw [show ((1 : Nat) : Int) = 1 from rfl, h] at e
  constructor
  · intro b hb
    obtain ⟨rb, et⟩ := lRem_some hb
    rw [e, et]
    have e2 : Str.ofString ")" ++ afterS b = (if b.length = 0 then Str.ofString ")" else Str.ofString ")" ++ Str.ofString "  # " ++ b) := by
      unfold afterS
      split
      · exact app_e _
      · simp only [s_assoc]
    rw [e2]
    exact remark_read (by decide +kernel) rb
  · intro hn
    cases hr : remarkR r i with
    | error e2 => exact .inl (by rw [(remark_err hr).1])
    | ok q =>
      obtain ⟨body, b⟩ := q
      refine .inr ⟨body, b, rfl, fun z => ?_⟩
      subst z
      obtain ⟨rb, er⟩ := remark_inv hr
      have e2 : r = Str.ofString ")" ++ afterS b := by
        rw [er]
        unfold afterS
        split
        · exact (app_e _).symm
        · simp only [s_assoc]
      have e3 : Txt.slice r (some 1) none = afterS b := by
        have := sl_rest (n := 1) (r := r) (p := Str.ofString ")") (by decide) (by rw [e2]; exact start_app _ _)
        rw [show ((1 : Nat) : Int) = 1 from rfl] at this
        rw [← this, e2]
        exact pre_app _ _
      rw [e3, lRem_of rb] at hn
      cases hn
theorem end_no2 {r body b : Str} {i : Nat} (h : Txt.slice r none (some 1) ≠ Str.ofString ")") (hr : remarkR r i = .ok (body, b)) : body ≠ Str.ofString ")" := by
  intro z
  subst z
  obtain ⟨rb, er⟩ := remark_inv hr
  apply h
  refine (sl_start (n := 1) (by decide)).mpr ?_
  rw [er]
  split
  · have := start_app (Str.ofString ")") (Str.ofString "")
    rw [app_e] at this
    exact this
  · rw [s_assoc]
    exact start_app _ _
theorem h_start {r : Str} : decide (L2.V.str (Txt.slice r none (some 2)) = L2.V.str "# ") = Txt.startswith r "# " := by
  rw [dstr]
  cases h : Txt.startswith r "# " with
  | true => exact decide_eq_true ((sl_start (n := 2) (by decide)).mpr h)
  | false => exact decide_eq_false fun z => Bool.noConfusion (h.symm.trans ((sl_start (n := 2) (by decide)).mp z))
theorem h_rest {r : Str} (h : Txt.startswith r "# " = true) : Txt.removeprefix r "# " = Txt.slice r (some 2) none := sl_rest (n := 2) (p := Str.ofString "# ") (by decide) h
end Lay
set_option Elab.async false
set_option linter.all false
set_option maxRecDepth 100000
set_option maxHeartbeats 4000000
set_option pp.maxSteps 900
namespace Lay
open PySem PySem.Spec PyProof.Rows L2 KwX LiI
/-! the law's own reading, def by def -/
theorem merge_self : ∀ (more kvs : List (Key × V)), Nd (kvs ++ more) → mergeK kvs more = kvs ++ more
  | [], kvs, _ => (List.append_nil _).symm
  | p :: ps, kvs, h => by
    have n : valV kvs p.1 = none := by
      cases e : valV kvs p.1 with
      | none => rfl
      | some v =>
        exfalso
        unfold Nd at h
        rw [List.map_append] at h
        have hm : p.1 ∈ kvs.map (·.1) := by
          have q := valV_any p.1 kvs
          rw [e] at q
          obtain ⟨x, hx, hd⟩ := List.any_eq_true.mp q
          exact List.mem_map.mpr ⟨x, hx, of_decide_eq_true hd⟩
        exact (List.nodup_append.mp h).2.2 _ hm p.1 (by simp) rfl
    have e1 : putK kvs p.1 p.2 = kvs ++ [p] := putK_new _ n
    have ih := merge_self ps (kvs ++ [p]) (by rw [List.append_assoc]; exact h)
    show mergeK (putK kvs p.1 p.2) ps = _
    rw [e1, ih, List.append_assoc]
    rfl
theorem pair_app {α β : Type} {F : α → β → Prop} : ∀ {a : List α} {b : List β} {c : List α} {d : List β}, Paired F a b → Paired F c d → Paired F (a ++ c) (b ++ d)
  | _, _, _, _, .nil, h => h
  | _, _, _, _, .cons x y, h => .cons x (pair_app y h)
theorem zone_read {K : PySem.W.Frag} {H5 G : Hp} {u : Addr} {ts tps : List Addr} {kvs more : List (Key × V)} (s : Same H5 G) (hp : Paired (fun (t : Addr) (q : Key × V) => H5 t = some (.tup [kV q.1, q.2])) ts kvs)
    (h2 : Paired (fun (t : Addr) (q : Key × V) => G t = some (.tup [kV q.1, q.2])) tps more) (nu : G u = none) : SqL K (upd G u (.lst (ts.map V.ref ++ tps.map V.ref))) u ((ts ++ tps).map V.ref) ∧
      Paired (fun p kv => SqT K (upd G u (.lst (ts.map V.ref ++ tps.map V.ref))) p [kV kv.1, kv.2]) (ts ++ tps) (kvs ++ more) := by
  rw [List.map_append]
  have s1 := Same.new nu (o := .lst (ts.map V.ref ++ tps.map V.ref))
  exact ⟨SqL.of upd_same, pair_app (Paired.mapP hp fun a b h => SqT.of (s1 _ _ (s _ _ h))) (Paired.mapP h2 fun a b h => SqT.of (s1 _ _ h))⟩
def spIsN : Sp := fun vs H Q _ => ∃ z, vs = [.str z] ∧ z.length ≤ 1000000 ∧ ∀ H', Same H H' → Q (.bl (nameB z)) H'
def optV : Option Str → V
  | none => .non
  | some b => .str b
def spLRem : Sp := fun vs H Q _ => ∃ t, vs = [.str t] ∧ t.length ≤ 1000000 ∧ ∀ H', Same H H' → Q (optV (lRem t)) H'
def oneK (w : Str) (lp : Addr) (m : Bool) (b : Str) (l : Bool) : List (Key × V) := [(kw, .str w), (kp, .ref lp), (kb, .bl false), (km, .bl m), (kh, .str b), (kl, .bl l)]
def brkK (w : Str) (lp : Addr) (m : Bool) (b : Str) (l : Bool) : List (Key × V) := [(kw, .str w), (kp, .ref lp), (kb, .bl true), (km, .bl m), (kl, .bl l), (kh, .str b)]
def spOne : Sp := fun vs H Q _ => ∃ r, vs = [.str r] ∧ r.length ≤ 900 ∧ (oGood r = false → ∀ H', Same H H' → Q .non H') ∧ (oGood r = true → ∀ b q lp H', oBh r = some b → Same H H' → H q = none → H lp = none → q ≠ lp → H' q = some (.dK (oneK (oWord r) lp (oMark r) b (oLeft r))) → H' lp = some (.lst ((oParts r).map V.str)) → Q (.ref q) H')
def wNm (z : Str) (i : Nat) : List V := ((z.cps.toList.take i).filter fun c => !az c).map fun c => .str ⟨#[c]⟩
abbrev sIsN : Stmt := top 44
abbrev sLRem : Stmt := top 45
abbrev sOne : Stmt := top 46
def IsNN : List Str := ["_law_text_here", "_law_sign"]
abbrev IsNP : List Str := ["_law_text_here"]
def OneN : List Str := ["_law_line", "_law_spot", "_law_end", "_law_word", "_law_inner", "_law_behind", "_law_left", "_law_marked", "_law_parts", "_law_bad", "_law_found", "_law_part"]
abbrev OneP : List Str := ["_law_line"]
theorem filt_take {ps : List Str} {n : Nat} {z : Str} (hz : ps[n]? = some z) : ((ps.take (n + 1)).filter fun p => !nameB p) = ((ps.take n).filter fun p => !nameB p) ++ (if nameB z = true then [] else [z]) := by
  rw [List.take_succ, hz, List.filter_append]
  congr 1
  cases q : nameB z with
  | true => simp [q]
  | false => simp [q]
theorem filt_empty (ps : List Str) : ((ps.filter fun p => !nameB p).map V.str).isEmpty = ps.all nameB := by
  apply Bool.eq_iff_iff.mpr
  rw [List.isEmpty_iff, List.map_eq_nil_iff, List.filter_eq_nil_iff, List.all_eq_true]
  constructor
  · intro h p hp
    simpa using h p hp
  · intro h p hp
    simp [h p hp]
theorem sl_len (z : Str) (lo hi : Option Int) : (Txt.slice z lo hi).length ≤ z.length := by
  rw [← C8.cutS_slice]
  exact cutS_length z lo hi
section
variable {X : Cx}
theorem op_neNil (hu : X.A.units + 64 < cLine) : OpR X (compareOp .NotEq) (fun x y H Q => ∃ a b xs, x = .ref a ∧ y = .ref b ∧ SqL X.K H a xs ∧ H b = some (.lst []) ∧ Q (.bl (!xs.isEmpty)) H) := by
  intro pins s σ H x y v u Q I rx ry h
  obtain ⟨a, b, xs, rfl, rfl, ha, hb, q⟩ := h
  cases xs with
  | nil => exact op_neD hu pins s σ H _ _ v u Q I rx ry ⟨.list [], .list [], .lst ha .nil, .lst (SqL.of hb) .nil, rfl, rfl, q⟩
  | cons z zs =>
    cases rx
    cases ry
    obtain ⟨its, r, p1, _⟩ := I.list ha
    obtain ⟨its2, r2, p2, _⟩ := I.list (SqL.of hb)
    cases r2
    have hsz : (its.toArray.size != ([] : List Value).toArray.size) = true := by
      cases r
      rfl
    exact (SeqAt.RcNeAt.lists_lengths p1.isList p2.isList hsz (by omega)) _ _ _ _ ⟨.bl true, H, I, rfl, q⟩
end
section
variable {P : Program} {w : World} {K : PySem.W.Frag} {mg : Str → Option Value} {base : Heap}
theorem scIsN : FnScope IsNN IsNP (defScope sIsN) := ⟨rfl, rfl, rfl, by decide +kernel, rfl, by decide +kernel, by decide +kernel⟩
theorem has_IsN (B : Bt mg) (D : Dfn K mg "_law_is_name" sIsN IsNP) : Has P w K mg base CX0 1 "_law_is_name" IsNP spIsN := by
  refine D.has scIsN (fun vs H Q E h => ?_) (fun f cdv A outer s H vs Q E hr h => ?_)
  · obtain ⟨z, rfl, _⟩ := h
    rfl
  · obtain ⟨z, rfl, hz, k⟩ := h
    refine ⟨_, (pss_one (ps_ret (pe_and (pe_chain op_lt op_lt pe_int (pe_callB call_len_str (by rfl) B.len PySem.boot_len (pa_cons (pv 0) pa_nil)) pe_int) (pe_one (pe_cmpR (op_eqNil hr.units) (pe_lc (own := [("_law_sign", 1)]) (g := gName 1) (by rfl) scIsN.nd (pi_str (pv 0)) (blkOk_by (N := IsNN) (sc := defScope sIsN) (by decide +kernel)) (fun _ _ _ _ _ => pg_name (i := 1) scIsN.nd rfl (Or.inl rfl)) (fun _ _ _ _ _ => pts_one (pt_cmpR op_notIn_sign (pv 1) pe_str (by rfl))) (fun _ _ _ _ _ => (pv 1))) (pe_lst pa_nil) (nomark _)))))), ?_⟩
    have ne := nameB_eq z
    have lz : z.length = z.cps.toList.length := rfl
    refine ⟨_, rfl, z, rfl, fitsN hz, _, _, rfl, rfl, _, rfl, ?_⟩
    refine ite2 (fun q => ?_) (fun q => ?_)
    · have q1 : 0 < z.length := by
        have := of_decide_eq_true q
        omega
      refine ⟨_, _, rfl, rfl, _, rfl, ?_⟩
      refine ite2 (fun q2 => ?_) (fun q2 => ?_)
      · have q3 : z.length ≤ 6 := by
          have := of_decide_eq_true q2
          omega
        rw [ne, decide_eq_true q3, decide_eq_true q1, Bool.true_and, Bool.true_and] at k
        refine ⟨_, rfl, z, rfl, fun Dl nD => lc_it walk_str (fun i G => Same H G ∧ G Dl = some (.lst (wNm z i))) ⟨Same.new nD, upd_same⟩ (fun _ _ _ _ => trivial) ?_ ?_⟩
        · rintro i x G G' hi ⟨sG, hD⟩ ⟨rfl, c, hc, rfl⟩
          have hc2 : z.cps.toList[i]? = some c := by rw [← hc]; simp
          have et : wNm z (i + 1) = wNm z i ++ (if az c = true then [] else [V.str ⟨#[c]⟩]) := by
            unfold wNm
            rw [List.take_succ, hc2, List.filter_append, List.map_append]
            congr 1
            cases q : az c with
            | true => simp [q]
            | false => simp [q]
          refine ⟨rfl, _, rfl, c, alphaS, rfl, rfl, ?_⟩
          rw [mem_alpha]
          refine ⟨_, rfl, ?_⟩
          cases q : az c with
          | true =>
            refine iteN rfl ⟨sG, ?_⟩
            rw [hD, et, q]
            simp
          | false =>
            refine iteY rfl ⟨_, rfl, _, hD, ?_, fun a o e => ?_, ?_⟩
            · have : (wNm z i).length ≤ i := by
                unfold wNm
                rw [List.length_map]
                exact Nat.le_trans (List.length_filter_le _ _) (by rw [List.length_take]; omega)
              have hi2 : i < z.length := hi
              exact Nat.lt_of_le_of_lt (show _ ≤ 6 by omega) (by decide)
            · rw [upd_ne (ne_of_none e nD)]
              exact sG _ _ e
            · rw [upd_same, et, q]
              simp
        · rintro G ⟨sG, hD⟩
          have nb : ∀ b, G b = none → b ≠ Dl := fun b e z => by
            rw [z, hD] at e
            cases e
          refine ⟨(by show 0 ≤ sizeLine; exact Nat.zero_le _), fun b hb => ⟨Dl, b, _, rfl, rfl, SqL.of (by rw [upd_ne (Ne.symm (nb b hb))]; exact hD), upd_same, ?_⟩⟩
          have ee : (wNm z z.cps.size).isEmpty = z.cps.all az := by
            unfold wNm
            rw [show z.cps.toList.take z.cps.size = z.cps.toList from List.take_of_length_le (by simp)]
            apply Bool.eq_iff_iff.mpr
            rw [List.isEmpty_iff, List.map_eq_nil_iff, List.filter_eq_nil_iff, Array.all_eq_true']
            constructor
            · intro h c hc
              have := h c (by simpa using hc)
              simpa using this
            · intro h c hc
              have := h c (by simpa using hc)
              simp [this]
          rw [ee]
          exact k _ (sG.trans (Same.new hb))
      · have q3 : ¬ z.length ≤ 6 := fun w => q2 (decide_eq_true (by omega))
        rw [ne, decide_eq_false q3, Bool.false_and] at k
        exact k _ (fun _ _ e => e)
    · have q1 : ¬ 0 < z.length := fun w => q (decide_eq_true (by omega))
      rw [ne, decide_eq_false q1, Bool.false_and, Bool.and_false] at k
      exact ⟨_, rfl, iteN rfl (k _ (fun _ _ e => e))⟩
theorem scLRem : FnScope ["_law_text_here"] IsNP (defScope sLRem) := ⟨rfl, rfl, rfl, by decide +kernel, rfl, by decide +kernel, by decide +kernel⟩
theorem has_LRem (DN : Has P w K mg base CX0 1 "_law_is_name" IsNP spIsN) (D : Dfn K mg "_law_remark" sLRem IsNP) : Has P w K mg base CX0 2 "_law_remark" IsNP spLRem := by
  refine D.has scLRem (fun vs H Q E h => ?_) (fun f cdv A outer s H vs Q E hr h => ?_)
  · obtain ⟨t, rfl, _⟩ := h
    rfl
  · obtain ⟨t, rfl, ht, k⟩ := h
    refine ⟨_, (pss_cons (ps_if (pt_cmpR op_eq (pv 0) pe_str (nomark _)) (pss_one (ps_ret pe_str)) pss_nil)
    (pss_one (ps_ret (pe_ifExp (PW.pt (pw_and (pt_cmpR op_eq (pe_slice C8.sl_txt (pv 0) po_none (po_some pe_int)) pe_str (nomark _)) (pw_and1 (pt_val (pe_callH DN (hr.mono (by decide)) (by rfl) pass0 (pa_cons (pe_slice C8.sl_txt (pv 0) (po_some pe_int) po_none) pa_nil)))))) (pe_slice C8.sl_txt (pv 0) (po_some pe_int) po_none) pe_non)))), ?_⟩
    refine ⟨_, rfl, rfl, _, rfl, ?_⟩
    rw [str_e0]
    unfold lRem at k
    by_cases q : t.length = 0
    · rw [if_pos q] at k
      exact iteY (decide_eq_true q) (k H (fun _ _ e => e))
    rw [if_neg q] at k
    refine iteN (decide_eq_false q) ?_
    refine ⟨_, rfl, _, rfl, t, rfl, fitsN ht, rfl, _, rfl, ?_⟩
    by_cases q1 : Txt.slice t none (some 4) = Str.ofString "  # "
    · refine iteY (by rw [dstr]; exact decide_eq_true q1) ⟨_, rfl, _, rfl, t, rfl, fitsN ht, _, rfl, Nat.le_trans (sl_len t _ _) ht, fun H1 s1 => ⟨_, rfl, ?_⟩⟩
      by_cases q2 : nameB (Txt.slice t (some 4) none) = true
      · rw [if_pos ⟨q1, q2⟩] at k
        exact iteY q2 ⟨_, rfl, _, rfl, t, rfl, fitsN ht, k H1 s1⟩
      · rw [if_neg (fun z => q2 z.2)] at k
        exact iteN (by simpa using q2) (k H1 s1)
    · rw [if_neg (fun z => q1 z.1)] at k
      exact iteN (by rw [dstr]; exact decide_eq_false q1) (iteN rfl (k H (fun _ _ e => e)))

theorem scOne : FnScope OneN OneP (defScope sOne) := ⟨rfl, rfl, rfl, by decide +kernel, rfl, by decide +kernel, by decide +kernel⟩
theorem has_One (B : Bt mg) (DN : Has P w K mg base CX0 1 "_law_is_name" IsNP spIsN) (DR : Has P w K mg base CX0 2 "_law_remark" IsNP spLRem) (D : Dfn K mg "_law_one_row" sOne OneP) : Has P w K mg base CX0 3 "_law_one_row" OneP spOne := by
  refine D.has scOne (fun vs H Q E h => ?_) (fun f cdv A outer s H vs Q E hr h => ?_)
  · obtain ⟨r, rfl, _⟩ := h
    rfl
  · obtain ⟨r, rfl, hl, kN, kY⟩ := h
    refine ⟨_, (pss_cons (ps_set (i := 1) scOne.nd rfl (.inl rfl) (pe_bm PySem.F.plainAttrs_str PySem.F.slot_str_find PySem.F.type_str_find mt_find (pv 0) (pa_cons pe_str pa_nil)))
    (pss_cons (ps_set (i := 2) scOne.nd rfl (.inl rfl) (pe_bm PySem.F.plainAttrs_str PySem.F.slot_str_find PySem.F.type_str_find mt_find (pv 0) (pa_cons pe_str pa_nil)))
    (pss_cons (ps_if (PW.pt (pw_or (pt_cmpR op_lt (pv 1) pe_int (nomark _)) (pw_or1 (pt_cmpR op_lt (pv 2) (pv 1) (nomark _))))) (pss_one (ps_ret pe_non)) pss_nil)
    (C8.pss_cut (ps_par (i := 3) (j := 4) (by rfl) scOne.nd rfl rfl (by decide) rfl rfl (pa_cons (pe_slice C8.sl_txt (pv 0) po_none (po_some (pv 1))) (pa_cons (pe_slice C8.sl_txt (pv 0) (po_some (pe_op op_add (pv 1) pe_int)) (po_some (pv 2))) pa_nil)) (by rfl))
    (C8.pss_cut (ps_set (i := 5) scOne.nd rfl (.inl rfl) (pe_callH DR hr (by rfl) pass0 (pa_cons (pe_slice C8.sl_txt (pv 0) (po_some (pe_op op_add (pv 2) pe_int)) po_none) pa_nil)))
    (pss_cons (ps_set (i := 6) scOne.nd rfl (.inl rfl) (pe_cmpR op_eq (pe_slice C8.sl_txt (pv 3) po_none (po_some pe_int)) pe_str (nomark _)))
    (C8.pss_cut (ps_par (i := 3) (j := 7) (by rfl) scOne.nd rfl rfl (by decide) rfl rfl (pa_cons (pe_ifExp (pt_val (pv 6)) (pe_slice C8.sl_txt (pv 3) (po_some pe_int) po_none) (pv 3)) (pa_cons (pe_cmpR op_eq (pe_slice C8.sl_txt (pv 4) (po_some (pe_un un_neg pe_int)) po_none) pe_str (nomark _)) pa_nil)) (by rfl))
    (C8.pss_cut (ps_set (i := 8) scOne.nd rfl (.inl rfl) (pe_bm PySem.F.plainAttrs_str PySem.F.slot_str_split PySem.F.type_str_split mt_split (pe_ifExp (pt_val (pv 7)) (pe_slice C8.sl_txt (pv 4) po_none (po_some (pe_un un_neg pe_int))) (pv 4)) (pa_cons pe_str pa_nil)))
    (C8.pss_cut (ps_setLc (i := 9) (own := [("_law_part", 11)]) (g := gName 11) rfl scOne.nd rfl rfl (sw_true rfl rfl rfl (by decide +kernel)) (pi_list (pv 8)) (blkOk_by (N := OneN) (sc := defScope sOne) (by decide +kernel)) (fun _ _ _ _ _ => pg_name (i := 11) scOne.nd rfl (Or.inl rfl)) (fun _ _ _ _ _ => pts_one (pt_not (pt_val (pe_callH DN (hr.mono (by decide)) (by rfl) pass0 (pa_cons (pv 11) pa_nil))))) (fun _ _ _ _ _ => (pv 11)))
    (pss_cons (ps_if (PW.pt (pw_or (pt_cmpR op_isN (pv 5) pe_non (nomark _)) (pw_or (pt_not (pt_val (pe_callH DN (hr.mono (by decide)) (by rfl) pass0 (pa_cons (pv 3) pa_nil)))) (pw_or1 (pt_cmpR (op_neNil hr.units) (pv 9) (pe_lst pa_nil) (nomark _)))))) (pss_one (ps_ret pe_non)) pss_nil)
    (pss_cons (ps_set (i := 10) scOne.nd rfl (.inl rfl) (pe_disp (pps_cons pe_str (pv 3) (pps_cons pe_str (pv 8) (pps_cons pe_str pe_bl (pps_cons pe_str (pv 7) (pps_cons pe_str (pv 5) pps_nil))))) rfl rfl (by decide) (by decide)))
    (pss_one (ps_ret (pe_callTy (call_dictP rfl) (by rfl) B.dict (by decide +kernel) (pa_cons (pe_op op_cat (pe_listItems rfl (pv 10) (by rfl) B.list (by decide +kernel)) (pe_lst (pa_cons (pe_tup (pa_cons pe_str (pa_cons (pv 6) pa_nil))) pa_nil))) pa_nil))))))))))))))), ?_⟩
    have rl : r.length ≤ 1000000 := by omega
    refine ⟨_, rfl, rfl, r, _, rfl, rfl, ?_⟩
    refine ⟨_, rfl, rfl, r, _, rfl, rfl, ?_⟩
    refine ⟨_, rfl, _, _, rfl, rfl, _, rfl, ?_⟩
    by_cases q0 : 0 ≤ Txt.find r "("
    case neg =>
      exact iteY (decide_eq_true (by omega)) (kN (by unfold oGood; rw [decide_eq_false q0]; rfl) H (fun _ _ e => e))
    refine iteN (decide_eq_false (by omega)) ⟨_, rfl, _, rfl, _, _, rfl, rfl, _, rfl, ?_⟩
    by_cases q1 : Txt.find r "(" ≤ Txt.find r ")"
    case neg =>
      exact iteY (decide_eq_true (by omega)) (kN (by unfold oGood; rw [decide_eq_true q0, decide_eq_false q1]; rfl) H (fun _ _ e => e))
    refine iteN (decide_eq_false (by omega)) ?_
    have g0 : oGood r = ((oBh r).isSome && (nameB (oWord r) && (oParts r).all nameB)) := by unfold oGood; rw [decide_eq_true q0, decide_eq_true q1]; rfl
    refine ⟨fun σ G => σ = [some (.str r), some (.int (Txt.find r "(")), some (.int (Txt.find r ")")), some (.str (oWord0 r)), some (.str (oIn r)), none, none, none, none, none, none, none] ∧ G = H, ?_, ?_⟩
    · exact ⟨_, rfl, _, rfl, _, rfl, r, rfl, fitsN rl, _, rfl, _, rfl, _, _, rfl, rfl, _, rfl, _, rfl, _, rfl, r, rfl, fitsN rl, _, _, rfl, rfl, rfl⟩
    rintro σ G ⟨rfl, rfl⟩
    have l0 : (oWord0 r).length ≤ 900 := Nat.le_trans (sl_len _ _ _) hl
    have l1 : (oIn r).length ≤ 900 := Nat.le_trans (sl_len _ _ _) hl
    refine ⟨fun σ G' => σ = [some (.str r), some (.int (Txt.find r "(")), some (.int (Txt.find r ")")), some (.str (oWord0 r)), some (.str (oIn r)), some (optV (oBh r)), none, none, none, none, none, none] ∧ Same G G', ?_, ?_⟩
    · exact ⟨_, rfl, _, rfl, _, _, rfl, rfl, _, rfl, r, rfl, fitsN rl, _, rfl, Nat.le_trans (sl_len _ _ _) rl, fun H1 s1 => ⟨rfl, s1⟩⟩
    rintro σ G1 ⟨rfl, s1⟩
    refine ⟨_, rfl, _, rfl, oWord0 r, rfl, fitsN (by omega), rfl, ?_⟩
    refine ⟨fun σ G' => σ = [some (.str r), some (.int (Txt.find r "(")), some (.int (Txt.find r ")")), some (.str (oWord r)), some (.str (oIn r)), some (optV (oBh r)), some (.bl (oLeft r)), some (.bl (oMark r)), none, none, none, none] ∧ Same G G', ?_, ?_⟩
    · refine ⟨_, rfl, _, rfl, ?_⟩
      have e : oWord r = if oLeft r = true then Txt.slice (oWord0 r) (some 1) none else oWord0 r := rfl
      have eM : oMark r = decide (V.str (Txt.slice (oIn r) (some (-1)) none) = V.str ",") := rfl
      by_cases q : oLeft r = true
      · rw [if_pos q] at e
        exact iteY q ⟨_, rfl, _, rfl, oWord0 r, rfl, fitsN (by omega), _, rfl, _, rfl, _, rfl, oIn r, rfl, fitsN (by omega), rfl, _, _, rfl, by rw [e]; rfl, s1⟩
      · rw [if_neg q] at e
        exact iteN (show oLeft r = false by simpa using q) ⟨_, rfl, _, rfl, _, rfl, _, rfl, oIn r, rfl, fitsN (by omega), rfl, _, _, rfl, by rw [e]; rfl, s1⟩
    rintro σ G2 ⟨rfl, s2⟩
    have pf := split_few (x := if oMark r = true then Txt.slice (oIn r) none (some (-1)) else oIn r) (sep := ", ") (by decide)
    have pe := split_each (x := if oMark r = true then Txt.slice (oIn r) none (some (-1)) else oIn r) (sep := ", ") (by decide)
    have lx : (if oMark r = true then Txt.slice (oIn r) none (some (-1)) else oIn r).length ≤ 900 := by
      split
      · exact Nat.le_trans (sl_len _ _ _) l1
      · exact l1
    have eP : oParts r = Txt.split (if oMark r = true then Txt.slice (oIn r) none (some (-1)) else oIn r) ", " := rfl
    rw [← eP] at pf pe
    refine ⟨fun σ G' => ∃ lp, σ = [some (.str r), some (.int (Txt.find r "(")), some (.int (Txt.find r ")")), some (.str (oWord r)), some (.str (oIn r)), some (optV (oBh r)), some (.bl (oLeft r)), some (.bl (oMark r)), some (.ref lp), none, none, none] ∧ Same G G' ∧ G lp = none ∧ G' lp = some (.lst ((oParts r).map V.str)), ?_, ?_⟩
    · refine ⟨_, rfl, _, rfl, ?_⟩
      by_cases q : oMark r = true
      · rw [if_pos q] at eP
        refine iteY q ⟨_, rfl, _, rfl, _, rfl, oIn r, rfl, fitsN (by omega), rfl, _, _, rfl, rfl, by decide, by rw [sizeLine_eq]; have := sl_len (oIn r) none (some (-1)); omega, fun lp nlp => ⟨lp, rfl, s2.trans (Same.new nlp), s2.free nlp, ?_⟩⟩
        rw [upd_same, eP]
      · rw [if_neg q] at eP
        refine iteN (show oMark r = false by simpa using q) ⟨_, rfl, rfl, _, _, rfl, rfl, by decide, by rw [sizeLine_eq]; omega, fun lp nlp => ⟨lp, rfl, s2.trans (Same.new nlp), s2.free nlp, ?_⟩⟩
        rw [upd_same, eP]
    clear s1 s2 G1 G2
    rintro σ G3 ⟨lp, rfl, s3, nlp, hlp⟩
    refine ⟨fun σ G' => ∃ D, σ = [some (.str r), some (.int (Txt.find r "(")), some (.int (Txt.find r ")")), some (.str (oWord r)), some (.str (oIn r)), some (optV (oBh r)), some (.bl (oLeft r)), some (.bl (oMark r)), some (.ref lp), some (.ref D), none, none] ∧ Same G3 G' ∧ G' D = some (.lst (((oParts r).filter fun p => !nameB p).map V.str)), ?_, ?_⟩
    · refine ⟨_, rfl, lp, rfl, ⟨_, SqL.of hlp⟩, fun D nD => lc_list (K := K) (xs := (oParts r).map V.str) (fun n G' => Same G3 G' ∧ G' D = some (.lst ((((oParts r).take n).filter fun p => !nameB p).map V.str))) ⟨Same.new nD, upd_same⟩ (fun n G' _ z => SqL.of (z.1 _ _ hlp)) ?_ ?_⟩
      · rintro n x G' hx ⟨sG, hD⟩
        obtain ⟨z, hz, rfl⟩ : ∃ z, (oParts r)[n]? = some z ∧ V.str z = x := by
          rw [List.getElem?_map] at hx
          cases e : (oParts r)[n]? with
          | none => rw [e] at hx; cases hx
          | some y => rw [e] at hx; exact ⟨y, rfl, Option.some.inj hx⟩
        have lz := pe z (List.mem_of_getElem? hz)
        have et := filt_take hz
        refine ⟨rfl, _, rfl, z, rfl, by omega, fun H1 s1 => ⟨_, rfl, ?_⟩⟩
        cases q : nameB z with
        | true =>
          refine iteN rfl ⟨sG.trans s1, ?_⟩
          rw [s1 _ _ hD, et, q]
          simp
        | false =>
          refine iteY rfl ⟨_, rfl, _, s1 _ _ hD, ?_, fun c u e => ?_, ?_⟩
          · rw [List.length_map]
            have h1 := List.length_filter_le (fun p => !nameB p) ((oParts r).take n)
            rw [List.length_take] at h1
            exact small1000 (by omega)
          · rw [upd_ne (ne_of_none e nD)]
            exact s1 _ _ (sG _ _ e)
          · rw [upd_same, et, q, List.map_append]
            rfl
      · rintro G' ⟨sG, hD⟩
        rw [List.length_map, List.take_length] at hD
        exact ⟨D, rfl, sG, hD⟩
    rintro σ G4 ⟨D, rfl, s4, hD⟩
    refine ⟨_, rfl, rfl, _, rfl, ?_⟩
    cases hb : oBh r with
    | none => exact iteY rfl (kN (by rw [g0, hb]; rfl) _ (s3.trans s4))
    | some b =>
    refine iteN rfl ?_
    rw [hb] at g0
    have lw : (oWord r).length ≤ 900 := by
      unfold oWord
      split
      · exact Nat.le_trans (sl_len _ _ _) l0
      · exact l0
    refine ⟨_, rfl, oWord r, rfl, by omega, fun G5 s5 => ⟨_, rfl, ?_⟩⟩
    have s35 := (s3.trans s4).trans s5
    cases hw : nameB (oWord r) with
    | false => exact iteY rfl (kN (by rw [g0, hw]; rfl) _ s35)
    | true =>
    refine iteN rfl ⟨_, rfl, (by show 0 ≤ sizeLine; exact Nat.zero_le _), fun e1 ne1 => ⟨D, e1, _, rfl, rfl, SqL.of ((s5.trans (Same.new ne1)) _ _ hD), upd_same, _, rfl, ?_⟩⟩
    have sE := Same.new ne1 (o := .lst [])
    have ea := filt_empty (oParts r)
    rw [ea]
    cases hp : (oParts r).all nameB with
    | false => exact iteY rfl (kN (by rw [g0, hw, hp]; rfl) _ (s35.trans sE))
    | true =>
    refine iteN rfl ?_
    have s6 := s35.trans sE
    have hlp6 := ((s4.trans s5).trans sE) _ _ hlp
    have kY := kY (by rw [g0, hw, hp]; rfl) b
    generalize upd G5 e1 (.lst []) = G6 at *
    clear s5 s4 s3 hD sE s35 hlp
    refine fun u nu => ?_
    refine ⟨_, rfl, _, rfl, _, rfl, _, rfl, upd_same, [(kw, .str (oWord r)), (kp, .ref lp), (kb, .bl false), (km, .bl (oMark r)), (kh, .str b)], rfl, (by show 5 ≤ 15; decide), ?_⟩
    rw [upd_upd]
    have e5 : mergeK [] [(kw, V.str (oWord r)), (kp, .ref lp), (kb, .bl false), (km, .bl (oMark r)), (kh, .str b)] = [(kw, V.str (oWord r)), (kp, .ref lp), (kb, .bl false), (km, .bl (oMark r)), (kh, .str b)] := merge_self _ [] (by show [kw, kp, kb, km, kh].Nodup; decide +kernel)
    rw [e5]
    have s7 := s6.trans (Same.new nu (o := .dK [(kw, V.str (oWord r)), (kp, .ref lp), (kb, .bl false), (km, .bl (oMark r)), (kh, .str b)]))
    refine ⟨_, rfl, u, _, rfl, upd_same, fun G8 p8 ts kx np nts npt hp8 hpr => ⟨_, rfl, (by show 2 ≤ sizeLine; decide), fun tp ntp => ⟨(by show 1 ≤ sizeLine; decide), fun l2 nl2 => ?_⟩⟩⟩
    have lts : ts.length = 5 := Paired.length hpr
    have v1 := Same.new ntp (o := .tup [.str "left", .bl (oLeft r)])
    have v2 := Same.new nl2 (o := .lst [.ref tp])
    refine ⟨p8, l2, ts.map V.ref, [.ref tp], rfl, rfl, (v1.trans v2) _ _ hp8, upd_same, ?_, fun x nx => ?_⟩
    · rw [List.length_map, lts]
      show 5 + 1 ≤ sizeLine
      decide
    obtain ⟨z1, z2⟩ := zone_read (K := K) (tps := [tp]) (more := [(kl, .bl (oLeft r))]) (v1.trans v2) hpr (.cons (v2 _ _ upd_same) .nil) nx
    refine ⟨x, _, _, rfl, z1, z2, fun y ny => ?_⟩
    have e6 : mergeK [] ([(kw, V.str (oWord r)), (kp, .ref lp), (kb, .bl false), (km, .bl (oMark r)), (kh, .str b)] ++ [(kl, .bl (oLeft r))]) = oneK (oWord r) lp (oMark r) b (oLeft r) := merge_self _ [] (by show [kw, kp, kb, km, kh, kl].Nodup; decide +kernel)
    rw [e6]
    have v3 := Same.new nx (o := .lst (ts.map V.ref ++ [V.ref tp]))
    have v4 : Same _ _ := (Same.trans kx (v1.trans v2)).trans v3
    have v5 := v4.trans (Same.new ny (o := .dK (oneK (oWord r) lp (oMark r) b (oLeft r))))
    have hlp9 := v5 _ _ (Same.new nu _ _ hlp6)
    exact kY y lp _ hb (s7.trans v5) ((s7.trans v4).free ny) nlp (ne_of_none (v4 _ _ (Same.new nu _ _ hlp6)) ny).symm upd_same hlp9
end
end Lay
set_option Elab.async false
set_option linter.all false
set_option maxRecDepth 100000
set_option maxHeartbeats 4000000
set_option pp.maxSteps 900
namespace Lay
open PySem PySem.Spec PyProof.Rows L2 KwX LiI
theorem at_row {rows : List Str} {i : Nat} {r : Str} (h : rowR rows i = .ok r) : atI (rows.map V.str) (i : Int) = some (.str r) := atI_nat (by rw [List.getElem?_map, rowR_ok h]; rfl)
theorem endR_no {rows zs : List Str} {m : Bool} {j : Nat} {r : Str} (h : rowR rows j = .ok r) (h1 : Txt.slice r none (some 1) ≠ Str.ofString ")") : endR rows j zs m = .error j := by
  unfold endR
  rw [h]
  simp only
  cases hr : remarkR r j with
  | error e => rw [(remark_err hr).1]
  | ok q =>
    obtain ⟨body, b⟩ := q
    simp only
    rw [if_neg (end_no2 h1 hr)]
theorem endR_none {rows zs : List Str} {m : Bool} {j : Nat} {r : Str} (h : rowR rows j = .ok r) (h1 : Txt.slice r none (some 1) = Str.ofString ")") (h2 : lRem (Txt.slice r (some 1) none) = none) : endR rows j zs m = .error j := by
  unfold endR
  rw [h]
  simp only
  rcases (end_law (i := j) h1).2 h2 with e | ⟨body, b, e, ne⟩
  · rw [e]
  · rw [e]
    simp only
    rw [if_neg ne]
theorem endR_some {rows zs : List Str} {m : Bool} {j : Nat} {r b : Str} (h : rowR rows j = .ok r) (h1 : Txt.slice r none (some 1) = Str.ofString ")") (h2 : lRem (Txt.slice r (some 1) none) = some b) : endR rows j zs m = .ok (zs, m, b, j + 1) := by
  unfold endR
  rw [h]
  simp only
  rw [(end_law (i := j) h1).1 b h2]
  simp only
  rw [if_pos trivial]
theorem starts_no {r : Str} (h1 : Txt.slice r none (some 1) = Str.ofString ")") : Txt.startswith r "  " = false := by
  have e := sl_app (r := r) 1
  rw [show ((1 : Nat) : Int) = 1 from rfl, h1] at e
  rw [e]
  refine TxL.start_no (c := 32) (by decide +kernel) ?_
  rw [TxL.L_app, List.getElem?_append_left (by decide +kernel)]
  decide +kernel
theorem item_law {rows : List Str} {j : Nat} {r : Str} (h : rowR rows j = .ok r) (s : Txt.startswith r "  " = true) (n : nameB (iPart r) = true) : itemR rows j = .ok (iPart r, iEnd r) := by
  unfold itemR
  rw [h]
  simp only
  rw [i_part s, if_neg (by rw [s, n]; decide), i_end]
theorem item_bad {rows : List Str} {j : Nat} {r : Str} (h : rowR rows j = .ok r) (hb : Txt.startswith r "  " = false ∨ nameB (iPart r) = false) : itemR rows j = .error j := by
  unfold itemR
  rw [h]
  simp only
  cases s : Txt.startswith r "  " with
  | false => rw [if_pos (.inl rfl)]
  | true =>
    rw [i_part s, if_pos (.inr (hb.resolve_left (by rw [s]; decide)))]
theorem go_step {rows zs : List Str} {n j : Nat} {r p : Str} {c : Bool} (hr : rowR rows j = .ok r) (s : Txt.startswith r "  " = true) (h : itemR rows j = .ok (p, c)) : goR rows (n + 1) j zs true = goR rows n (j + 1) (zs ++ [p]) c := by
  have e : goR rows (n + 1) j zs true = (match rowR rows j with
    | .error e => .error e
    | .ok r => if true = true ∧ Txt.startswith r "  " = true then (match itemR rows j with
        | .error e => .error e
        | .ok (p, c) => goR rows n (j + 1) (zs ++ [p]) c) else match remarkR r j with
      | .error e => .error e
      | .ok (body, b) => if body = Str.ofString ")" then .ok (zs, true, b, j + 1) else .error j) := rfl
  rw [e, hr]
  simp only
  rw [if_pos ⟨trivial, s⟩, h]
/-- where the law's own loop stands: the items zs are read, the row j is next -/
def Lp (rows : List Str) (i n : Nat) (zs : List Str) (m : Bool) : Prop := (zs = [] ∧ m = true) ∨ (zs ≠ [] ∧ brokenR rows i = goR rows n (i + zs.length) zs m)
theorem Lp.bad {rows : List Str} {i n : Nat} {zs : List Str} {m : Bool} {r : Str} (h : Lp rows i n zs m) (hn : rows.length - (i + zs.length) ≤ n) (hr : rowR rows (i + zs.length) = .ok r) (h1 : zs ≠ [] → Txt.slice r none (some 1) ≠ Str.ofString ")")
    (hb : Txt.startswith r "  " = false ∨ nameB (iPart r) = false ∨ m = false) : brokenR rows i = .error (i + zs.length) := by
  have lt := row_lt hr
  rcases h with ⟨rfl, rfl⟩ | ⟨ne, e⟩
  · have hb2 : Txt.startswith r "  " = false ∨ nameB (iPart r) = false := by
      rcases hb with h | h | h
      · exact .inl h
      · exact .inr h
      · cases h
    have e2 : itemR rows i = .error i := item_bad hr hb2
    rw [broken_go (by omega), e2]
    rfl
  · rw [e]
    cases m with
    | false => rw [go_false, endR_no hr (h1 ne)]
    | true =>
      cases s : Txt.startswith r "  " with
      | false => rw [go_end hr s, endR_no hr (h1 ne)]
      | true =>
        have nb : nameB (iPart r) = false := by
          rcases hb with h | h | h
          · rw [s] at h; cases h
          · exact h
          · cases h
        obtain ⟨n2, rfl⟩ : ∃ n2, n = n2 + 1 := ⟨n - 1, by omega⟩
        unfold goR
        rw [hr]
        simp only
        rw [if_pos ⟨trivial, s⟩, item_bad hr (.inr nb)]
theorem Lp.next {rows : List Str} {i n : Nat} {zs : List Str} {m : Bool} {r : Str} (h : Lp rows i n zs m) (hn : rows.length - (i + zs.length) ≤ n) (hr : rowR rows (i + zs.length) = .ok r) (s : Txt.startswith r "  " = true) (nb : nameB (iPart r) = true) (em : m = true) :
    ∃ n2, rows.length - (i + (zs ++ [iPart r]).length) ≤ n2 ∧ Lp rows i n2 (zs ++ [iPart r]) (iEnd r) := by
  have lt := row_lt hr
  have ll : (zs ++ [iPart r]).length = zs.length + 1 := by rw [List.length_append]; rfl
  rcases h with ⟨rfl, _⟩ | ⟨ne, e⟩
  · refine ⟨rows.length - 1, by rw [ll]; show rows.length - (i + (0 + 1)) ≤ _; omega, .inr ⟨by simp, ?_⟩⟩
    have e2 : itemR rows i = .ok (iPart r, iEnd r) := item_law hr s nb
    rw [broken_go (by omega), e2]
    rfl
  · obtain ⟨n2, rfl⟩ : ∃ n2, n = n2 + 1 := ⟨n - 1, by omega⟩
    refine ⟨n2, by rw [ll]; omega, .inr ⟨by simp, ?_⟩⟩
    rw [e, em, go_step hr s (item_law hr s nb), ll]
    rfl
theorem Lp.stop {rows : List Str} {i n : Nat} {zs : List Str} {m : Bool} (h : Lp rows i n zs m) (r0 : rows.length ≠ 0) (hj : i + zs.length = rows.length) : brokenR rows i = .error (i + zs.length) := by
  rcases h with ⟨rfl, _⟩ | ⟨ne, e⟩
  · have hi : i = rows.length := hj
    rw [broken_go r0]
    have : itemR rows i = .error i := by
      unfold itemR
      rw [hi, row_end]
    rw [this]
    rfl
  · rw [e, go_no (e := i + zs.length) (by rw [hj]; exact row_end)]
theorem Lp.last {rows : List Str} {i n : Nat} {zs : List Str} {m : Bool} {r : Str} (h : Lp rows i n zs m) (ne : zs ≠ []) (hr : rowR rows (i + zs.length) = .ok r) (h1 : Txt.slice r none (some 1) = Str.ofString ")") : brokenR rows i = endR rows (i + zs.length) zs m := by
  rcases h with ⟨z, _⟩ | ⟨_, e⟩
  · exact absurd z ne
  · rw [e, go_end hr (starts_no h1)]
def spBrk (K : PySem.W.Frag) : Sp := fun vs H Q _ => ∃ (l : Addr) (rows : List Str) (i : Nat) (r : Str), vs = [.ref l, .int i] ∧ RowsAt K H l rows ∧ Few rows ∧ rowR rows i = .ok r ∧ (bGood r = false → ∀ H', Same H H' → Q (.int i) H') ∧ (bGood r = true → (∀ e, brokenR rows (i + 1) = .error e → ∀ H', Same H H' → Q (.int e) H') ∧
  ∀ ps m b e, brokenR rows (i + 1) = .ok (ps, m, b, e) → ∀ p q lp H', Same H H' → H q = none → H lp = none → q ≠ lp → H' p = some (.tup [.ref q, .int e]) → H' q = some (.dK (brkK (bWord r) lp m b (bLeft r))) → H' lp = some (.lst (ps.map V.str)) → Q (.ref p) H')
abbrev sBrk : Stmt := top 47
def BrkN : List Str := ["_law_lines_here", "_law_at", "_law_left", "_law_word", "_law_parts", "_law_marked", "_law_line", "_law_part", "_law_found"]
abbrev BrkP : List Str := ["_law_lines_here", "_law_at"]
section
variable {P : Program} {w : World} {K : PySem.W.Frag} {mg : Str → Option Value} {base : Heap}
theorem scBrk : FnScope BrkN BrkP (defScope sBrk) := ⟨rfl, rfl, rfl, by decide +kernel, rfl, by decide +kernel, by decide +kernel⟩
theorem has_Brk (B : Bt mg) (DN : Has P w K mg base CX0 1 "_law_is_name" IsNP spIsN) (DR : Has P w K mg base CX0 2 "_law_remark" IsNP spLRem) (D : Dfn K mg "_law_broken" sBrk BrkP) : Has P w K mg base CX0 3 "_law_broken" BrkP (spBrk K) := by
  refine D.has scBrk (fun vs H Q E h => ?_) (fun f cdv A outer s H vs Q E hr h => ?_)
  · obtain ⟨l, rows, i, r, rfl, _⟩ := h
    rfl
  · obtain ⟨l, rows, i, r, rfl, hs, few, hri, kB, kG⟩ := h
    refine ⟨_, (pss_cons (ps_set (i := 2) scBrk.nd rfl (.inl rfl) (pe_cmpR op_eq (pe_slice C8.sl_txt (pe_ix ix_list (pv 0) (pv 1) (fun _ _ => rfl)) po_none (po_some pe_int)) pe_str (nomark _)))
    (C8.pss_cut (ps_par3 (i := 3) (j := 4) (l := 5) (by rfl) scBrk.nd rfl rfl rfl (by decide) (by decide) (by decide) rfl rfl rfl (pa_cons (pe_slice C8.sl_txt (pe_ix ix_list (pv 0) (pv 1) (fun _ _ => rfl)) (po_some (pe_callTy call_int1 (by rfl) B.int (by decide +kernel) (pa_cons (pv 2) pa_nil))) (po_some (pe_un un_neg pe_int))) (pa_cons (pe_lst pa_nil) (pa_cons pe_bl pa_nil))) (by rfl))
    (C8.pss_cut (ps_if (PW.pt (pw_or (pt_cmpR op_ne (pe_slice C8.sl_txt (pe_ix ix_list (pv 0) (pv 1) (fun _ _ => rfl)) (po_some (pe_un un_neg pe_int)) po_none) pe_str (nomark _)) (pw_or1 (pt_not (pt_val (pe_callH DN (hr.mono (by decide)) (by rfl) pass0 (pa_cons (pv 3) pa_nil))))))) (pss_one (ps_ret (pv 1))) pss_nil)
    (C8.pss_cut (ps_set (i := 1) scBrk.nd rfl (.inl rfl) (pe_op op_add (pv 1) pe_int))
    (C8.pss_cut (ps_while PassesOwn.never (PW.pt (pw_and (pt_cmpR op_lt (pv 1) (pe_callB (call_lenK (K := K) rfl) (by rfl) B.len PySem.boot_len (pa_cons (pv 0) pa_nil)) (nomark _)) (pw_and1 (PW.pt (pw_or (pt_cmpR (op_eqNil hr.units) (pv 4) (pe_lst pa_nil) (nomark _)) (pw_or1 (pt_cmpR op_ne (pe_slice C8.sl_txt (pe_ix ix_list (pv 0) (pv 1) (fun _ _ => rfl)) po_none (po_some pe_int)) pe_str (nomark _))))))))
      (pss_cons (ps_set (i := 6) scBrk.nd rfl (.inl rfl) (pe_ix ix_list (pv 0) (pv 1) (fun _ _ => rfl)))
      (C8.pss_cut (ps_set (i := 7) scBrk.nd rfl (.inl rfl) (pe_ifExp (pt_cmpR op_eq (pe_slice C8.sl_txt (pv 6) (po_some (pe_un un_neg pe_int)) po_none) pe_str (nomark _)) (pe_slice C8.sl_txt (pv 6) (po_some pe_int) (po_some (pe_un un_neg pe_int))) (pe_slice C8.sl_txt (pv 6) (po_some pe_int) po_none)))
      (C8.pss_cut (ps_if (PW.pt (pw_or (pt_cmpR op_ne (pe_slice C8.sl_txt (pv 6) po_none (po_some pe_int)) pe_str (nomark _)) (pw_or (pt_not (pt_val (pe_callH DN (hr.mono (by decide)) (by rfl) pass0 (pa_cons (pv 7) pa_nil)))) (pw_or1 (pt_not (pt_val (pv 5))))))) (pss_one (ps_ret (pv 1))) pss_nil)
      (pss_cons (ps_set (i := 5) scBrk.nd rfl (.inl rfl) (pe_cmpR op_eq (pe_slice C8.sl_txt (pv 6) (po_some (pe_un un_neg pe_int)) po_none) pe_str (nomark _)))
      (pss_cons (ps_expr (pe_bm PySem.F.plainAttrs_list PySem.F.slot_list_append PySem.F.type_list_append mt_append (pv 4) (pa_cons (pv 7) pa_nil)))
      (pss_one (ps_set (i := 1) scBrk.nd rfl (.inl rfl) (pe_op op_add (pv 1) pe_int)))))))))
    (C8.pss_cut (ps_if (PW.pt (pw_or (pt_cmpR op_eq (pv 1) (pe_callB (call_lenK (K := K) rfl) (by rfl) B.len PySem.boot_len (pa_cons (pv 0) pa_nil)) (nomark _)) (pw_or1 (pt_cmpR op_isN (pe_callH DR (hr.mono (by decide)) (by rfl) pass0 (pa_cons (pe_slice C8.sl_txt (pe_ix ix_list (pv 0) (pv 1) (fun _ _ => rfl)) (po_some pe_int) po_none) pa_nil)) pe_non (nomark _))))) (pss_one (ps_ret (pv 1))) pss_nil)
    (C8.pss_cut (ps_set (i := 8) scBrk.nd rfl (.inl rfl) (pe_disp (pps_cons pe_str (pv 3) (pps_cons pe_str (pv 4) (pps_cons pe_str pe_bl (pps_cons pe_str (pv 5) (pps_cons pe_str (pv 2) pps_nil))))) rfl rfl (by decide) (by decide)))
    (pss_cons (ps_dput (hu_of hr) (pv 8) pe_str (pe_callH DR (hr.mono (by decide)) (by rfl) pass0 (pa_cons (pe_slice C8.sl_txt (pe_ix ix_list (pv 0) (pv 1) (fun _ _ => rfl)) (po_some pe_int) po_none) pa_nil)) (by rfl))
    (pss_one (ps_ret (pe_tup (pa_cons (pv 8) (pa_cons (pe_op op_add (pv 1) pe_int) pa_nil))))))))))))), ?_⟩
    have fl := few.1
    have ri := row_lt hri
    have lr := few.2 r (List.mem_of_getElem? (rowR_ok hri))
    refine ⟨_, rfl, _, rfl, l, _, _, _, rfl, rfl, hs.1, at_row hri, _, rfl, r, rfl, fitsN (by omega), rfl, ?_⟩
    refine ⟨fun σ G => ∃ lp, σ = [some (.ref l), some (.int i), some (.bl (bLeft r)), some (.str (bWord r)), some (.ref lp), some (.bl true), none, none, none] ∧ Same H G ∧ H lp = none ∧ G lp = some (.lst []), ?_, ?_⟩
    · refine ⟨_, rfl, _, rfl, l, _, _, _, rfl, rfl, hs.1, at_row hri, ?_⟩
      refine ⟨_, rfl, .inr ⟨bLeft r, rfl, _, rfl, _, rfl, _, rfl, r, rfl, fitsN (by omega), Nat.zero_le _, fun lp nlp => ⟨_, _, _, rfl, lp, ?_, Same.new nlp, nlp, upd_same⟩⟩⟩
      rfl
    rintro σ G1 ⟨lp, rfl, s1, nlp, hlp⟩
    have hs1 := hs.same s1
    refine ⟨fun σ G => σ = [some (.ref l), some (.int i), some (.bl (bLeft r)), some (.str (bWord r)), some (.ref lp), some (.bl true), none, none, none] ∧ Same H G ∧ G lp = some (.lst []) ∧ bGood r = true, ?_, ?_⟩
    · have lb : (bWord r).length ≤ 900 := Nat.le_trans (sl_len _ _ _) lr
      refine ⟨_, rfl, _, rfl, l, _, _, _, rfl, rfl, hs1.1, at_row hri, _, rfl, _, rfl, r, rfl, fitsN (by omega), rfl, _, rfl, ?_⟩
      by_cases q : decide (V.str (Txt.slice r (some (-1)) none) = V.str "(") = true
      · refine iteN (by rw [q]; rfl) ⟨_, rfl, bWord r, rfl, by omega, fun G2 s2 => ⟨_, rfl, ?_⟩⟩
        by_cases q2 : nameB (bWord r) = true
        · exact iteN (by rw [q2]; rfl) ⟨rfl, s1.trans s2, s2 _ _ hlp, by unfold bGood; rw [q, q2]; rfl⟩
        · exact iteY (by simpa using q2) ⟨_, rfl, kB (by unfold bGood; rw [q]; simpa using q2) _ (s1.trans s2)⟩
      · have q2 : decide (V.str (Txt.slice r (some (-1)) none) = V.str "(") = false := by simpa using q
        exact iteY (by rw [q2]; rfl) ⟨_, rfl, kB (by unfold bGood; rw [q2]; rfl) _ s1⟩
    rintro σ G2 ⟨rfl, s2, hlp2, hgood⟩
    obtain ⟨kE, kO⟩ := kG hgood
    clear kB kG hs1 hlp s1 G1
    refine ⟨fun σ G => σ = [some (.ref l), some (.int ((i + 1 : Nat) : Int)), some (.bl (bLeft r)), some (.str (bWord r)), some (.ref lp), some (.bl true), none, none, none] ∧ Same H G ∧ G lp = some (.lst []), ?_, ?_⟩
    · exact ⟨_, rfl, _, _, rfl, rfl, by rw [Int.natCast_add]; rfl, s2, hlp2⟩
    rintro σ G3 ⟨rfl, s3, hlp3⟩
    clear hlp2 s2 G2
    refine ⟨fun σ G => ∃ (zs : List Str) (m : Bool) (n : Nat) (x6 x7 : Option V), σ = [some (.ref l), some (.int ((i + 1 + zs.length : Nat) : Int)), some (.bl (bLeft r)), some (.str (bWord r)), some (.ref lp), some (.bl m), x6, x7, none] ∧ Same H G ∧ G lp = some (.lst (zs.map V.str)) ∧ i + 1 + zs.length ≤ rows.length ∧ Lp rows (i + 1) n zs m ∧ rows.length - (i + 1 + zs.length) ≤ n ∧
      (i + 1 + zs.length = rows.length ∨ (zs ≠ [] ∧ ∃ r2, rowR rows (i + 1 + zs.length) = .ok r2 ∧ Txt.slice r2 none (some 1) = Str.ofString ")")), ?_, ?_⟩
    · refine ⟨fun mm σ' G => ∃ (zs : List Str) (m : Bool) (n : Nat) (x6 x7 : Option V), mm = rows.length - (i + 1 + zs.length) ∧ σ' = [some (.ref l), some (.int ((i + 1 + zs.length : Nat) : Int)), some (.bl (bLeft r)), some (.str (bWord r)), some (.ref lp), some (.bl m), x6, x7, none] ∧ Same H G ∧ G lp = some (.lst (zs.map V.str)) ∧ i + 1 + zs.length ≤ rows.length ∧ Lp rows (i + 1) n zs m ∧ rows.length - (i + 1 + zs.length) ≤ n,
        ⟨_, [], true, rows.length, none, none, rfl, rfl, s3, hlp3, by show i + 1 + 0 ≤ _; omega, .inl ⟨rfl, rfl⟩, by omega⟩, ?_⟩
      rintro mm σ' G ⟨zs, m, n, x6, x7, rfl, rfl, sG, hG, hj, hLp, hn⟩
      have hsG := hs.same sG
      refine ⟨_, rfl, _, rfl, l, _, rfl, .inl hsG.1, _, _, rfl, rfl, _, rfl, ?_⟩
      rw [List.length_map]
      by_cases qj : i + 1 + zs.length = rows.length
      · exact iteN (decide_eq_false (by omega)) (iteN rfl ⟨zs, m, n, x6, x7, rfl, sG, hG, hj, hLp, hn, .inl qj⟩)
      refine iteY (decide_eq_true (by omega)) ?_
      obtain ⟨r2, hr2⟩ := row_at (show i + 1 + zs.length < rows.length by omega)
      have lr2 := few.2 r2 (List.mem_of_getElem? (rowR_ok hr2))
      refine ⟨_, rfl, (by show 0 ≤ sizeLine; exact Nat.zero_le _), fun b1 nb1 => ⟨lp, b1, _, rfl, rfl, SqL.of (Same.new nb1 _ _ hG), upd_same, _, rfl, ?_⟩⟩
      have sb := sG.trans (Same.new nb1 (o := .lst []))
      have hGb := (Same.new nb1 (o := .lst [])) _ _ hG
      have hsb := hs.same sb
      generalize upd G b1 (.lst []) = Gb at *
      by_cases z : zs = []
      · have hne : zs ≠ [] → Txt.slice r2 none (some 1) ≠ Str.ofString ")" := fun w => absurd z w
        refine iteY (by rw [z]; rfl) ?_
        refine ⟨fun σ2 G2 => ∃ (zs2 : List Str) (m2 : Bool) (n2 : Nat) (x6 x7 : Option V), rows.length - (i + 1 + zs2.length) < rows.length - (i + 1 + zs.length) ∧ σ2 = [some (.ref l), some (.int ((i + 1 + zs2.length : Nat) : Int)), some (.bl (bLeft r)), some (.str (bWord r)), some (.ref lp), some (.bl m2), x6, x7, none] ∧ Same H G2 ∧ G2 lp = some (.lst (zs2.map V.str)) ∧ i + 1 + zs2.length ≤ rows.length ∧ Lp rows (i + 1) n2 zs2 m2 ∧ rows.length - (i + 1 + zs2.length) ≤ n2, fun σ2 G2 ⟨zs2, m2, n2, x6, x7, a0, a1, a2, a3, a4, a5, a6⟩ => ⟨_, a0, zs2, m2, n2, x6, x7, rfl, a1, a2, a3, a4, a5, a6⟩, ?_⟩
        refine ⟨_, rfl, _, rfl, l, _, _, _, rfl, rfl, hsb.1, at_row hr2, ?_⟩
        refine ⟨fun σ2 G2 => σ2 = [some (.ref l), some (.int ((i + 1 + zs.length : Nat) : Int)), some (.bl (bLeft r)), some (.str (bWord r)), some (.ref lp), some (.bl m), some (.str r2), some (.str (iPart r2)), none] ∧ G2 = Gb, ?_, ?_⟩
        · refine ⟨_, rfl, _, rfl, _, rfl, r2, rfl, fitsN (by omega), rfl, _, rfl, ?_⟩
          have ep : iPart r2 = if iEnd r2 = true then Txt.slice r2 (some 2) (some (-1)) else Txt.slice r2 (some 2) none := rfl
          by_cases q : iEnd r2 = true
          · rw [if_pos q] at ep
            exact iteY q ⟨_, rfl, _, rfl, _, rfl, _, rfl, r2, rfl, fitsN (by omega), by rw [ep]; rfl, rfl⟩
          · rw [if_neg q] at ep
            exact iteN (show iEnd r2 = false by simpa using q) ⟨_, rfl, _, rfl, r2, rfl, fitsN (by omega), by rw [ep]; rfl, rfl⟩
        rintro σ2 G2 ⟨rfl, rfl⟩
        have lp2 : (iPart r2).length ≤ 900 := by
          unfold iPart
          split <;> exact Nat.le_trans (sl_len _ _ _) lr2
        refine ⟨fun σ2 G3 => σ2 = [some (.ref l), some (.int ((i + 1 + zs.length : Nat) : Int)), some (.bl (bLeft r)), some (.str (bWord r)), some (.ref lp), some (.bl m), some (.str r2), some (.str (iPart r2)), none] ∧ Same G2 G3 ∧ Txt.startswith r2 "  " = true ∧ nameB (iPart r2) = true ∧ m = true, ?_, ?_⟩
        · refine ⟨_, rfl, _, rfl, r2, rfl, fitsN (by omega), rfl, _, rfl, ?_⟩
          rw [i_start]
          by_cases q1 : Txt.startswith r2 "  " = true
          · refine iteN (by rw [q1]; rfl) ⟨_, rfl, iPart r2, rfl, by omega, fun G3 s3 => ⟨_, rfl, ?_⟩⟩
            by_cases q2 : nameB (iPart r2) = true
            · refine iteN (by rw [q2]; rfl) ⟨_, rfl, m, rfl, ?_⟩
              by_cases q3 : m = true
              · exact iteN (by rw [q3]; rfl) ⟨rfl, s3, q1, q2, q3⟩
              · exact iteY (by simpa using q3) ⟨_, rfl, kE _ (hLp.bad hn hr2 hne (.inr (.inr (by simpa using q3)))) _ (sb.trans s3)⟩
            · exact iteY (by simpa using q2) ⟨_, rfl, kE _ (hLp.bad hn hr2 hne (.inr (.inl (by simpa using q2)))) _ (sb.trans s3)⟩
          · exact iteY (by simpa using q1) ⟨_, rfl, kE _ (hLp.bad hn hr2 hne (.inl (by simpa using q1))) _ sb⟩
        rintro σ2 G3 ⟨rfl, s3, q1, q2, q3⟩
        refine ⟨_, rfl, _, rfl, _, rfl, r2, rfl, fitsN (by omega), rfl, ?_⟩
        have hG3 := s3 _ _ hGb
        obtain ⟨n2, hn2, hL2⟩ := hLp.next hn hr2 q1 q2 q3
        refine ⟨_, rfl, .inl ⟨rfl, _, SqL.of hG3⟩, _, rfl, lp, _, _, rfl, rfl, hG3, small1000 (by rw [List.length_map]; omega), ?_⟩
        have ll : (zs ++ [iPart r2]).length = zs.length + 1 := by rw [List.length_append]; rfl
        refine ⟨_, rfl, _, _, rfl, rfl, zs ++ [iPart r2], iEnd r2, n2, some (.str r2), some (.str (iPart r2)), by rw [ll]; omega, ?_, same_put (sb.trans s3) nlp, by rw [upd_same, List.map_append]; rfl, by rw [ll]; omega, hL2, hn2⟩
        rw [ll, show i + 1 + (zs.length + 1) = (i + 1 + zs.length) + 1 by omega, Int.natCast_add]
        rfl
      · refine iteN (by cases zs with | nil => exact absurd rfl z | cons x y => rfl) ?_
        refine ⟨_, rfl, _, rfl, l, _, _, _, rfl, rfl, hsb.1, at_row hr2, _, rfl, r2, rfl, fitsN (by omega), rfl, _, rfl, ?_⟩
        rw [dstr]
        by_cases z1 : Txt.slice r2 none (some 1) = Str.ofString ")"
        · refine iteN (by rw [decide_eq_true z1]; rfl) ?_
          exact ⟨zs, m, n, x6, x7, rfl, sb, hGb, hj, hLp, hn, .inr ⟨z, r2, hr2, z1⟩⟩
        · have hne : zs ≠ [] → Txt.slice r2 none (some 1) ≠ Str.ofString ")" := fun _ => z1
          refine iteY (by rw [decide_eq_false z1]; rfl) ?_
          refine ⟨fun σ2 G2 => ∃ (zs2 : List Str) (m2 : Bool) (n2 : Nat) (x6 x7 : Option V), rows.length - (i + 1 + zs2.length) < rows.length - (i + 1 + zs.length) ∧ σ2 = [some (.ref l), some (.int ((i + 1 + zs2.length : Nat) : Int)), some (.bl (bLeft r)), some (.str (bWord r)), some (.ref lp), some (.bl m2), x6, x7, none] ∧ Same H G2 ∧ G2 lp = some (.lst (zs2.map V.str)) ∧ i + 1 + zs2.length ≤ rows.length ∧ Lp rows (i + 1) n2 zs2 m2 ∧ rows.length - (i + 1 + zs2.length) ≤ n2, fun σ2 G2 ⟨zs2, m2, n2, x6, x7, a0, a1, a2, a3, a4, a5, a6⟩ => ⟨_, a0, zs2, m2, n2, x6, x7, rfl, a1, a2, a3, a4, a5, a6⟩, ?_⟩
          refine ⟨_, rfl, _, rfl, l, _, _, _, rfl, rfl, hsb.1, at_row hr2, ?_⟩
          refine ⟨fun σ2 G2 => σ2 = [some (.ref l), some (.int ((i + 1 + zs.length : Nat) : Int)), some (.bl (bLeft r)), some (.str (bWord r)), some (.ref lp), some (.bl m), some (.str r2), some (.str (iPart r2)), none] ∧ G2 = Gb, ?_, ?_⟩
          · refine ⟨_, rfl, _, rfl, _, rfl, r2, rfl, fitsN (by omega), rfl, _, rfl, ?_⟩
            have ep : iPart r2 = if iEnd r2 = true then Txt.slice r2 (some 2) (some (-1)) else Txt.slice r2 (some 2) none := rfl
            by_cases q : iEnd r2 = true
            · rw [if_pos q] at ep
              exact iteY q ⟨_, rfl, _, rfl, _, rfl, _, rfl, r2, rfl, fitsN (by omega), by rw [ep]; rfl, rfl⟩
            · rw [if_neg q] at ep
              exact iteN (show iEnd r2 = false by simpa using q) ⟨_, rfl, _, rfl, r2, rfl, fitsN (by omega), by rw [ep]; rfl, rfl⟩
          rintro σ2 G2 ⟨rfl, rfl⟩
          have lp2 : (iPart r2).length ≤ 900 := by
            unfold iPart
            split <;> exact Nat.le_trans (sl_len _ _ _) lr2
          refine ⟨fun σ2 G3 => σ2 = [some (.ref l), some (.int ((i + 1 + zs.length : Nat) : Int)), some (.bl (bLeft r)), some (.str (bWord r)), some (.ref lp), some (.bl m), some (.str r2), some (.str (iPart r2)), none] ∧ Same G2 G3 ∧ Txt.startswith r2 "  " = true ∧ nameB (iPart r2) = true ∧ m = true, ?_, ?_⟩
          · refine ⟨_, rfl, _, rfl, r2, rfl, fitsN (by omega), rfl, _, rfl, ?_⟩
            rw [i_start]
            by_cases q1 : Txt.startswith r2 "  " = true
            · refine iteN (by rw [q1]; rfl) ⟨_, rfl, iPart r2, rfl, by omega, fun G3 s3 => ⟨_, rfl, ?_⟩⟩
              by_cases q2 : nameB (iPart r2) = true
              · refine iteN (by rw [q2]; rfl) ⟨_, rfl, m, rfl, ?_⟩
                by_cases q3 : m = true
                · exact iteN (by rw [q3]; rfl) ⟨rfl, s3, q1, q2, q3⟩
                · exact iteY (by simpa using q3) ⟨_, rfl, kE _ (hLp.bad hn hr2 hne (.inr (.inr (by simpa using q3)))) _ (sb.trans s3)⟩
              · exact iteY (by simpa using q2) ⟨_, rfl, kE _ (hLp.bad hn hr2 hne (.inr (.inl (by simpa using q2)))) _ (sb.trans s3)⟩
            · exact iteY (by simpa using q1) ⟨_, rfl, kE _ (hLp.bad hn hr2 hne (.inl (by simpa using q1))) _ sb⟩
          rintro σ2 G3 ⟨rfl, s3, q1, q2, q3⟩
          refine ⟨_, rfl, _, rfl, _, rfl, r2, rfl, fitsN (by omega), rfl, ?_⟩
          have hG3 := s3 _ _ hGb
          obtain ⟨n2, hn2, hL2⟩ := hLp.next hn hr2 q1 q2 q3
          refine ⟨_, rfl, .inl ⟨rfl, _, SqL.of hG3⟩, _, rfl, lp, _, _, rfl, rfl, hG3, small1000 (by rw [List.length_map]; omega), ?_⟩
          have ll : (zs ++ [iPart r2]).length = zs.length + 1 := by rw [List.length_append]; rfl
          refine ⟨_, rfl, _, _, rfl, rfl, zs ++ [iPart r2], iEnd r2, n2, some (.str r2), some (.str (iPart r2)), by rw [ll]; omega, ?_, same_put (sb.trans s3) nlp, by rw [upd_same, List.map_append]; rfl, by rw [ll]; omega, hL2, hn2⟩
          rw [ll, show i + 1 + (zs.length + 1) = (i + 1 + zs.length) + 1 by omega, Int.natCast_add]
          rfl
    rintro σ4 G4 ⟨zs, m, n, x6, x7, rfl, s4, hl4, hj, hLp, hn, hend⟩
    have hs4 := hs.same s4
    refine ⟨fun σ G => ∃ (b r2 : Str), σ = [some (.ref l), some (.int ((i + 1 + zs.length : Nat) : Int)), some (.bl (bLeft r)), some (.str (bWord r)), some (.ref lp), some (.bl m), x6, x7, none] ∧ Same H G ∧ G lp = some (.lst (zs.map V.str)) ∧ rowR rows (i + 1 + zs.length) = .ok r2 ∧ lRem (Txt.slice r2 (some 1) none) = some b ∧ brokenR rows (i + 1) = .ok (zs, m, b, i + 1 + zs.length + 1), ?_, ?_⟩
    · refine ⟨_, rfl, _, rfl, l, _, rfl, .inl hs4.1, rfl, _, rfl, ?_⟩
      rw [dec_int, List.length_map]
      rcases hend with hend | ⟨z, r2, hr2, z1⟩
      · exact iteY (by rw [hend]; simp) ⟨_, rfl, kE _ (hLp.stop (by omega) hend) _ s4⟩
      · have lt := row_lt hr2
        have lr2 := few.2 r2 (List.mem_of_getElem? (rowR_ok hr2))
        refine iteN (by simp; omega) ?_
        refine ⟨_, rfl, _, rfl, l, _, _, _, rfl, rfl, hs4.1, at_row hr2, _, rfl, r2, rfl, fitsN (by omega), _, rfl, Nat.le_trans (sl_len _ _ _) (by omega), fun G5 s5 => ⟨rfl, _, rfl, ?_⟩⟩
        have eb := hLp.last z hr2 z1
        cases hb : lRem (Txt.slice r2 (some 1) none) with
        | none => exact iteY rfl ⟨_, rfl, kE _ (by rw [eb]; exact endR_none hr2 z1 hb) _ (s4.trans s5)⟩
        | some b => exact iteN rfl ⟨b, r2, rfl, s4.trans s5, s5 _ _ hl4, hr2, hb, by rw [eb]; exact endR_some hr2 z1 hb⟩
    clear hs4 hl4 s4 G4
    rintro σ5 G5 ⟨b, r2, rfl, s5, hl5, hr2, hb, hbr⟩
    have lr2 := few.2 r2 (List.mem_of_getElem? (rowR_ok hr2))
    refine ⟨fun σ G => ∃ q, σ = [some (.ref l), some (.int ((i + 1 + zs.length : Nat) : Int)), some (.bl (bLeft r)), some (.str (bWord r)), some (.ref lp), some (.bl m), x6, x7, some (.ref q)] ∧ Same H G ∧ G lp = some (.lst (zs.map V.str)) ∧ H q = none ∧ G q = some (.dK [(kw, .str (bWord r)), (kp, .ref lp), (kb, .bl true), (km, .bl m), (kl, .bl (bLeft r))]), ?_, ?_⟩
    · refine fun u nu => ?_
      refine ⟨_, rfl, _, rfl, _, rfl, _, rfl, upd_same, [(kw, .str (bWord r)), (kp, .ref lp), (kb, .bl true), (km, .bl m), (kl, .bl (bLeft r))], rfl, (by show 5 ≤ 15; decide), ?_⟩
      rw [upd_upd]
      have e5 : mergeK [] [(kw, V.str (bWord r)), (kp, .ref lp), (kb, .bl true), (km, .bl m), (kl, .bl (bLeft r))] = [(kw, V.str (bWord r)), (kp, .ref lp), (kb, .bl true), (km, .bl m), (kl, .bl (bLeft r))] := merge_self _ [] (by show [kw, kp, kb, km, kl].Nodup; decide +kernel)
      rw [e5]
      have s6 := Same.new nu (o := .dK [(kw, V.str (bWord r)), (kp, .ref lp), (kb, .bl true), (km, .bl m), (kl, .bl (bLeft r))])
      exact ⟨u, rfl, s5.trans s6, s6 _ _ hl5, s5.free nu, upd_same⟩
    clear hl5 s5 G5
    rintro σ6 G6 ⟨q, rfl, s6, hl6, nq, hq⟩
    have hs6 := hs.same s6
    refine ⟨_, rfl, _, rfl, l, _, _, _, rfl, rfl, hs6.1, at_row hr2, _, rfl, r2, rfl, fitsN (by omega), _, rfl, Nat.le_trans (sl_len _ _ _) (by omega), fun G7 s7 => ?_⟩
    have hq7 := s7 _ _ hq
    have hl7 := s7 _ _ hl6
    rw [hb]
    refine ⟨_, rfl, q, _, rfl, DPut.k (k := kh) hq7 (small1000 (by show 5 < 1000; decide)), ?_⟩
    have e6 : putK [(kw, V.str (bWord r)), (kp, .ref lp), (kb, .bl true), (km, .bl m), (kl, .bl (bLeft r))] kh (optV (some b)) = brkK (bWord r) lp m b (bLeft r) := putK_new _ (by rfl)
    rw [e6]
    have s8 : Same H (upd G7 q (.dK (brkK (bWord r) lp m b (bLeft r)))) := same_put (s6.trans s7) nq
    have lq : lp ≠ q := ne_of hl7 hq7 (fun z => nomatch z)
    refine ⟨_, rfl, _, rfl, _, _, rfl, rfl, (by show 2 ≤ sizeLine; decide), fun p np => ?_⟩
    have s9 := Same.new np (o := .tup [.ref q, .int (((i + 1 + zs.length : Nat) : Int) + 1)])
    exact kO zs m b _ hbr p q lp _ (s8.trans s9) nq nlp lq.symm (by rw [upd_same]; rfl) (s9 _ _ upd_same) (s9 _ _ (by rw [upd_ne lq]; exact hl7))
end
end Lay
set_option Elab.async false
set_option linter.all false
set_option maxRecDepth 100000
set_option maxHeartbeats 4000000
set_option pp.maxSteps 900
namespace Lay
open PySem PySem.Spec PyProof.Rows L2 KwX LiI
def DsAt (G : Hp) (xs : List V) (ds : List PD) : Prop := xs.length = ds.length ∧ (∀ d ∈ ds, d.Ok) ∧ ∀ (i : Nat) (x : V) (d : PD), xs[i]? = some x → ds[i]? = some d → ∃ q lp, x = .ref q ∧ DictAt G q lp d
theorem DsAt.nil {G : Hp} : DsAt G [] [] := ⟨rfl, fun d h => (List.not_mem_nil h).elim, fun i x d h _ => by cases h⟩
theorem DsAt.same {G G' : Hp} {xs : List V} {ds : List PD} (s : Same G G') (h : DsAt G xs ds) : DsAt G' xs ds := ⟨h.1, h.2.1, fun i x d hx hd => by
  obtain ⟨q, lp, e, hq⟩ := h.2.2 i x d hx hd
  exact ⟨q, lp, e, hq.same s⟩⟩
/-- all that is tracked, but for what stands at f (a list of dicts under way) -/
def DsOff (f : Addr) (G : Hp) (xs : List V) (ds : List PD) : Prop := xs.length = ds.length ∧ (∀ d ∈ ds, d.Ok) ∧ ∀ (i : Nat) (x : V) (d : PD), xs[i]? = some x → ds[i]? = some d → ∃ q lp, x = .ref q ∧ q ≠ f ∧ lp ≠ f ∧ DictAt G q lp d
theorem DsOff.at {f : Addr} {G : Hp} {xs : List V} {ds : List PD} (h : DsOff f G xs ds) : DsAt G xs ds := ⟨h.1, h.2.1, fun i x d hx hd => by
  obtain ⟨q, lp, e, _, _, hq⟩ := h.2.2 i x d hx hd
  exact ⟨q, lp, e, hq⟩⟩
theorem DsOff.same {f : Addr} {G G' : Hp} {xs : List V} {ds : List PD} (s : Same G G') (h : DsOff f G xs ds) : DsOff f G' xs ds := ⟨h.1, h.2.1, fun i x d hx hd => by
  obtain ⟨q, lp, e, n1, n2, hq⟩ := h.2.2 i x d hx hd
  exact ⟨q, lp, e, n1, n2, hq.same s⟩⟩
theorem DsOff.put {f : Addr} {G : Hp} {o : HO} {xs : List V} {ds : List PD} (h : DsOff f G xs ds) : DsOff f (upd G f o) xs ds := ⟨h.1, h.2.1, fun i x d hx hd => by
  obtain ⟨q, lp, e, n1, n2, kvs, h1, h2, h3⟩ := h.2.2 i x d hx hd
  exact ⟨q, lp, e, n1, n2, kvs, by rw [upd_ne n1]; exact h1, by rw [upd_ne n2]; exact h2, h3⟩⟩
theorem DsOff.push {f q lp : Addr} {G : Hp} {xs : List V} {ds : List PD} {d : PD} (h : DsOff f G xs ds) (o : d.Ok) (n1 : q ≠ f) (n2 : lp ≠ f) (hq : DictAt G q lp d) : DsOff f G (xs ++ [.ref q]) (ds ++ [d]) := by
  refine ⟨by rw [List.length_append, List.length_append, h.1]; rfl, fun e he => ?_, fun i x e hx he => ?_⟩
  · rcases List.mem_append.mp he with he | he
    · exact h.2.1 e he
    · rw [List.mem_singleton] at he
      subst he
      exact o
  · rcases Nat.lt_or_ge i xs.length with li | li
    · rw [List.getElem?_append_left li] at hx
      rw [List.getElem?_append_left (by rw [← h.1]; exact li)] at he
      exact h.2.2 i x e hx he
    · rw [List.getElem?_append_right li] at hx
      rw [List.getElem?_append_right (by rw [← h.1]; exact li), ← h.1] at he
      have z : i - xs.length = 0 := by
        have := (List.getElem?_eq_some_iff.mp hx).1
        rw [List.length_singleton] at this
        omega
      rw [z] at hx he
      cases hx
      cases he
      exact ⟨q, lp, rfl, n1, n2, hq⟩
theorem one_dict {G : Hp} {q lp : Addr} {w b a : Str} {ps : List Str} {m l : Bool} {c : Nat} (hq : G q = some (.dK (oneK w lp m b l ++ [(ka, .str a), (kn, .int c)]))) (hl : G lp = some (.lst (ps.map V.str))) : DictAt G q lp ⟨w, ps, false, m, a, b, c, l⟩ :=
  ⟨_, hq, hl, ⟨by show [kw, kp, kb, km, kh, kl, ka, kn].Nodup; decide +kernel, by show 8 ≤ 8; decide, rfl, rfl, rfl, rfl, rfl, rfl, rfl, rfl⟩⟩
theorem brk_dict {G : Hp} {q lp : Addr} {w b a : Str} {ps : List Str} {m l : Bool} {c : Nat} (hq : G q = some (.dK (brkK w lp m b l ++ [(ka, .str a), (kn, .int c)]))) (hl : G lp = some (.lst (ps.map V.str))) : DictAt G q lp ⟨w, ps, true, m, a, b, c, l⟩ :=
  ⟨_, hq, hl, ⟨by show [kw, kp, kb, km, kl, kh, ka, kn].Nodup; decide +kernel, by show 8 ≤ 8; decide, rfl, rfl, rfl, rfl, rfl, rfl, rfl, rfl⟩⟩
theorem one_pack {G : Hp} {q lp : Addr} {w b : Str} {ps : List Str} {m l : Bool} (a : Str) (c : Nat) (hq : G q = some (.dK (oneK w lp m b l))) (hl : G lp = some (.lst (ps.map V.str))) : ∃ (kvs : List (Key × V)) (d : PD), d = ⟨w, ps, false, m, a, b, c, l⟩ ∧ G q = some (.dK kvs) ∧ G lp = some (.lst (d.parts.map V.str)) ∧ kvs.length = 6 ∧ mergeK kvs [(ka, .str a), (kn, .int c)] = kvs ++ [(ka, .str a), (kn, .int c)] ∧ ∀ Gx : Hp, Gx q = some (.dK (kvs ++ [(ka, .str a), (kn, .int c)])) → Gx lp = some (.lst (d.parts.map V.str)) → DictAt Gx q lp d :=
  ⟨_, _, rfl, hq, hl, rfl, merge_self _ _ (by show [kw, kp, kb, km, kh, kl, ka, kn].Nodup; decide +kernel), fun Gx h1 h2 => one_dict h1 h2⟩
theorem brk_pack {G : Hp} {q lp : Addr} {w b : Str} {ps : List Str} {m l : Bool} (a : Str) (c : Nat) (hq : G q = some (.dK (brkK w lp m b l))) (hl : G lp = some (.lst (ps.map V.str))) : ∃ (kvs : List (Key × V)) (d : PD), d = ⟨w, ps, true, m, a, b, c, l⟩ ∧ G q = some (.dK kvs) ∧ G lp = some (.lst (d.parts.map V.str)) ∧ kvs.length = 6 ∧ mergeK kvs [(ka, .str a), (kn, .int c)] = kvs ++ [(ka, .str a), (kn, .int c)] ∧ ∀ Gx : Hp, Gx q = some (.dK (kvs ++ [(ka, .str a), (kn, .int c)])) → Gx lp = some (.lst (d.parts.map V.str)) → DictAt Gx q lp d :=
  ⟨_, _, rfl, hq, hl, rfl, merge_self _ _ (by show [kw, kp, kb, km, kl, kh, ka, kn].Nodup; decide +kernel), fun Gx h1 h2 => brk_dict h1 h2⟩
/-! what a piece is refused or read for -/
def Bl (rows : List Str) (i c : Nat) : Prop := ∀ c', c' < c → ∃ r, rowR rows (i + c') = .ok r ∧ r.length = 0
theorem bl_ok {rows : List Str} {i c : Nat} (h : Bl rows i c) (c2 : c ≤ 2) (hn : c = 2 ∨ ∃ r, rowR rows (i + c) = .ok r ∧ r.length ≠ 0) : blanksR rows i = .ok c := by
  unfold blanksR
  rcases (show c = 0 ∨ c = 1 ∨ c = 2 by omega) with rfl | rfl | rfl
  · obtain ⟨r, h1, h2⟩ := hn.resolve_left (by decide)
    rw [Nat.add_zero] at h1
    rw [h1]
    simp only
    rw [if_pos h2]
  · obtain ⟨r, h1, h2⟩ := h 0 (by decide)
    obtain ⟨r2, h3, h4⟩ := hn.resolve_left (by decide)
    rw [Nat.add_zero] at h1
    rw [h1]
    simp only
    rw [if_neg (by omega), h3]
    simp only
    rw [if_pos h4]
  · obtain ⟨r, h1, h2⟩ := h 0 (by decide)
    obtain ⟨r2, h3, h4⟩ := h 1 (by decide)
    rw [Nat.add_zero] at h1
    rw [h1]
    simp only
    rw [if_neg (by omega), h3]
    simp only
    rw [if_neg (by omega)]
theorem piece_e2 {rows : List Str} {i c e : Nat} (h1 : blanksR rows i = .ok c) (h2 : aheadR rows (i + c) = .error e) : pieceR rows i = .error e := by
  unfold pieceR
  rw [h1]
  simp only
  rw [h2]
theorem piece_at {rows : List Str} {i c j : Nat} {a : Str} (h1 : blanksR rows i = .ok c) (h2 : aheadR rows (i + c) = .ok a) (ej : j = if a.length ≠ 0 then i + c + 1 else i + c) : pieceR rows i = match headR rows j with
    | .error e => .error e
    | .ok (w, l, rest) => if rest.length = 0 then (match brokenR rows (j + 1) with
        | .error e => .error e
        | .ok (ps, m, h, k) => .ok (⟨w, ps, true, m, a, h, c, l⟩, k))
      else (match flatR rest j with
        | .error e => .error e
        | .ok (ps, m, h, k) => .ok (⟨w, ps, false, m, a, h, c, l⟩, k)) := by
  subst ej
  unfold pieceR
  rw [h1]
  simp only
  rw [h2]
  all_goals rfl
theorem bl_end {rows : List Str} {i c : Nat} (h : Bl rows i c) (c2 : c ≤ 2) (hj : i + c = rows.length) : pieceR rows i = .error (i + c) := by
  rcases (show c < 2 ∨ c = 2 by omega) with q | rfl
  · have hb : blanksR rows i = .error (i + c) := by
      unfold blanksR
      rcases (show c = 0 ∨ c = 1 by omega) with rfl | rfl
      · rw [Nat.add_zero] at hj
        rw [hj, row_end]
        rfl
      · obtain ⟨r, h1, h2⟩ := h 0 (by decide)
        rw [Nat.add_zero] at h1
        rw [h1]
        simp only
        rw [if_neg (by omega), hj, row_end]
    unfold pieceR
    rw [hb]
  · refine piece_e2 (bl_ok h (Nat.le_refl _) (.inl rfl)) ?_
    unfold aheadR
    rw [hj, row_end]
theorem head_no {rows : List Str} {j : Nat} {r : Str} (hr : rowR rows j = .ok r) (h0 : r.length = 0) : headR rows j = .error j := by
  unfold headR
  rw [hr]
  simp only
  rw [empty_of h0]
  have e : (Txt.partition (Txt.removeprefix (Str.ofString "") "!") "(").2.1.length = 0 := by decide +kernel
  rw [if_pos (.inl e)]
theorem bl_three {rows : List Str} {i : Nat} {r : Str} (h : Bl rows i 2) (hr : rowR rows (i + 2) = .ok r) (h0 : r.length = 0) : pieceR rows i = .error (i + 2) := by
  have ha : aheadR rows (i + 2) = .ok (Str.ofString "") := by
    unfold aheadR
    rw [hr]
    simp only
    rw [empty_of h0, if_neg (by decide +kernel)]
  rw [piece_at (bl_ok h (Nat.le_refl _) (.inl rfl)) ha (j := i + 2) (by rw [if_neg (by decide)]), head_no hr h0]
theorem tail_one {rows : List Str} {i c j : Nat} {a r : Str} (h1 : blanksR rows i = .ok c) (h2 : aheadR rows (i + c) = .ok a) (ej : j = if a.length ≠ 0 then i + c + 1 else i + c) (hr : rowR rows j = .ok r) (g : oGood r = true) {b : Str} (hb : oBh r = some b) : pieceR rows i = .ok (⟨oWord r, oParts r, false, oMark r, a, b, c, oLeft r⟩, j + 1) := by
  obtain ⟨b2, rest, hb2, _, _, _, _, hh, h0, hf⟩ := one_ok hr g
  rw [hb] at hb2
  cases hb2
  rw [piece_at h1 h2 ej, hh]
  simp only
  rw [if_neg h0, hf]
theorem tail_bad {rows : List Str} {i c j : Nat} {a r : Str} (h1 : blanksR rows i = .ok c) (h2 : aheadR rows (i + c) = .ok a) (ej : j = if a.length ≠ 0 then i + c + 1 else i + c) (hr : rowR rows j = .ok r) (g : oGood r = false) (g2 : bGood r = false) : pieceR rows i = .error j := by
  rw [piece_at h1 h2 ej]
  cases hh : headR rows j with
  | error e => rw [(head_err hh (Nat.le_of_lt (row_lt hr))).1]
  | ok q =>
    obtain ⟨w, l, rest⟩ := q
    simp only
    by_cases h0 : rest.length = 0
    · have := (b_form hr hh h0).2.2
      rw [this] at g2
      cases g2
    · rw [if_neg h0, one_no hr g hh]
theorem tail_brk {rows : List Str} {i c j : Nat} {a r : Str} (h1 : blanksR rows i = .ok c) (h2 : aheadR rows (i + c) = .ok a) (ej : j = if a.length ≠ 0 then i + c + 1 else i + c) (hr : rowR rows j = .ok r) (g2 : bGood r = true) : pieceR rows i = match brokenR rows (j + 1) with
    | .error e => .error e
    | .ok (ps, m, h, k) => .ok (⟨bWord r, ps, true, m, a, h, c, bLeft r⟩, k) := by
  obtain ⟨_, hh⟩ := b_ok hr g2
  rw [piece_at h1 h2 ej, hh]
  simp only
  rw [if_pos (by decide)]
/-- what is still to be read behind done -/
def Pz (rows : List Str) (n i : Nat) (done : List PD) : Prop := piecesR rows rows.length 0 = (match piecesR rows n i with
  | .error e => .error e
  | .ok es => .ok (done ++ es))
theorem Pz.bad {rows : List Str} {n i e : Nat} {done : List PD} (h : Pz rows n i done) (lt : i < rows.length) (hn : rows.length - i ≤ n) (hp : pieceR rows i = .error e) : piecesR rows rows.length 0 = .error e := by
  obtain ⟨n2, rfl⟩ : ∃ n2, n = n2 + 1 := ⟨n - 1, by omega⟩
  unfold Pz at h
  rw [h]
  unfold piecesR
  rw [if_pos lt, hp]
theorem Pz.next {rows : List Str} {n i k : Nat} {done : List PD} {d : PD} (h : Pz rows n i done) (lt : i < rows.length) (hn : rows.length - i ≤ n) (hp : pieceR rows i = .ok (d, k)) (lk : i < k) : ∃ n2, rows.length - k ≤ n2 ∧ Pz rows n2 k (done ++ [d]) := by
  obtain ⟨n2, rfl⟩ : ∃ n2, n = n2 + 1 := ⟨n - 1, by omega⟩
  refine ⟨n2, by omega, ?_⟩
  unfold Pz at h ⊢
  rw [h]
  have e : piecesR rows (n2 + 1) i = (if i < rows.length then (match pieceR rows i with
      | .error e => .error e
      | .ok (d, k) => match piecesR rows n2 k with
        | .error e => .error e
        | .ok ds => .ok (d :: ds)) else .ok []) := rfl
  rw [e, if_pos lt, hp]
  simp only
  cases piecesR rows n2 k with
  | error e => rfl
  | ok es =>
    simp only
    rw [List.append_assoc]
    rfl
theorem Pz.done {rows : List Str} {n i : Nat} {done : List PD} (h : Pz rows n i done) (hi : ¬ i < rows.length) : piecesR rows rows.length 0 = .ok done := by
  unfold Pz at h
  rw [h]
  cases n <;> (unfold piecesR; rw [if_neg hi]; simp only; rw [List.append_nil])
def spLRd : Sp := fun vs H Q _ => ∃ t, vs = [.str t] ∧ t.length ≤ 1000000 ∧ Few (Txt.split t "\n") ∧ (t.length = 0 → ∀ f H', Same H H' → H' f = some (.lst []) → Q (.ref f) H') ∧
  (t.length ≠ 0 → (∀ e, piecesR (Txt.split t "\n") (Txt.split t "\n").length 0 = .error e → ∀ H', Same H H' → Q (.int e) H') ∧ ∀ ds, piecesR (Txt.split t "\n") (Txt.split t "\n").length 0 = .ok ds → ∀ f xs H', Same H H' → H' f = some (.lst xs) → DsAt H' xs ds → Q (.ref f) H')
abbrev sLRd : Stmt := top 48
def LRdN : List Str := ["_law_text_here", "_law_lines_here", "_law_found", "_law_at", "_law_blanks", "_law_ahead", "_law_piece_here", "_law_later", "_law_more"]
section
variable {P : Program} {w : World} {K : PySem.W.Frag} {mg : Str → Option Value} {base : Heap}
theorem scLRd : FnScope LRdN IsNP (defScope sLRd) := ⟨rfl, rfl, rfl, by decide +kernel, rfl, by decide +kernel, by decide +kernel⟩
theorem has_LRd (B : Bt mg) (DN : Has P w K mg base CX0 1 "_law_is_name" IsNP spIsN) (DO : Has P w K mg base CX0 3 "_law_one_row" OneP spOne) (DK : Has P w K mg base CX0 3 "_law_broken" BrkP (spBrk K)) (D : Dfn K mg "_law_read" sLRd IsNP) : Has P w K mg base CX0 4 "_law_read" IsNP spLRd := by
  refine D.has scLRd (fun vs H Q E h => ?_) (fun f cdv A outer s H vs Q E hr h => ?_)
  · obtain ⟨t, rfl, _⟩ := h
    rfl
  · obtain ⟨t, rfl, ht, few, k0, k1⟩ := h
    refine ⟨_, (pss_cons (ps_par3 (i := 1) (j := 2) (l := 3) (by rfl) scLRd.nd rfl rfl rfl (by decide) (by decide) (by decide) rfl rfl rfl (pa_cons (pe_bm PySem.F.plainAttrs_str PySem.F.slot_str_split PySem.F.type_str_split mt_split (pv 0) (pa_cons pe_str pa_nil)) (pa_cons (pe_lst pa_nil) (pa_cons pe_int pa_nil))) (by rfl))
    (pss_cons (ps_while PassesOwn.never (PW.pt (pw_and (pt_cmpR op_lt (pv 3) (pe_callB (call_lenK (K := K) rfl) (by rfl) B.len PySem.boot_len (pa_cons (pv 1) pa_nil)) (nomark _)) (pw_and1 (pt_cmpR op_ne (pv 0) pe_str (nomark _)))))
      (C8.pss_cut (ps_asg (pe_tup (pa_cons pe_int (pa_cons pe_str pa_nil))) (pg_tup rfl (pgs_cons (pg_name (i := 4) scLRd.nd rfl (.inl rfl)) (pgs_cons (pg_name (i := 5) scLRd.nd rfl (.inl rfl)) pgs_nil))))
      (C8.pss_cut (ps_while PassesOwn.never (PW.pt (pw_and (pt_cmpR op_lt (pv 3) (pe_callB (call_lenK (K := K) rfl) (by rfl) B.len PySem.boot_len (pa_cons (pv 1) pa_nil)) (nomark _)) (pw_and1 (pt_cmpR op_eq (pe_ix ix_list (pv 1) (pv 3) (fun _ _ => rfl)) pe_str (nomark _)))))
        (pss_cons (ps_if (pt_cmpR op_eq (pv 4) pe_int (nomark _)) (pss_one (ps_ret (pv 3))) pss_nil)
        (pss_one (ps_par (i := 4) (j := 3) (by rfl) scLRd.nd rfl rfl (by decide) rfl rfl (pa_cons (pe_op op_add (pv 4) pe_int) (pa_cons (pe_op op_add (pv 3) pe_int) pa_nil)) (by rfl)))))
      (C8.pss_cut (ps_if (PW.pt (pw_and (pt_cmpR op_lt (pv 3) (pe_callB (call_lenK (K := K) rfl) (by rfl) B.len PySem.boot_len (pa_cons (pv 1) pa_nil)) (nomark _)) (pw_and1 (pt_cmpR op_eq (pe_slice C8.sl_txt (pe_ix ix_list (pv 1) (pv 3) (fun _ _ => rfl)) po_none (po_some pe_int)) pe_str (nomark _)))))
        (pss_cons (ps_set (i := 5) scLRd.nd rfl (.inl rfl) (pe_slice C8.sl_txt (pe_ix ix_list (pv 1) (pv 3) (fun _ _ => rfl)) (po_some pe_int) po_none))
        (pss_cons (ps_if (pt_not (pt_val (pe_callH DN (hr.mono (by decide)) (by rfl) pass0 (pa_cons (pv 5) pa_nil)))) (pss_one (ps_ret (pv 3))) pss_nil)
        (pss_one (ps_set (i := 3) scLRd.nd rfl (.inl rfl) (pe_op op_add (pv 3) pe_int))))) pss_nil)
      (C8.pss_cut (ps_if (pt_cmpR op_eq (pv 3) (pe_callB (call_lenK (K := K) rfl) (by rfl) B.len PySem.boot_len (pa_cons (pv 1) pa_nil)) (nomark _)) (pss_one (ps_ret (pv 3))) pss_nil)
      (C8.pss_cut (ps_par (i := 6) (j := 7) (by rfl) scLRd.nd rfl rfl (by decide) rfl rfl (pa_cons (pe_callH DO (hr.mono (by decide)) (by rfl) pass0 (pa_cons (pe_ix ix_list (pv 1) (pv 3) (fun _ _ => rfl)) pa_nil)) (pa_cons (pe_op op_add (pv 3) pe_int) pa_nil)) (by rfl))
      (C8.pss_cut (ps_if (pt_cmpR op_isN (pv 6) pe_non (nomark _))
        (pss_cons (ps_set (i := 8) scLRd.nd rfl (.inl rfl) (pe_callH DK (hr.mono (by decide)) (by rfl) pass0 (pa_cons (pv 1) (pa_cons (pv 3) pa_nil))))
        (pss_cons (ps_if (pt_val (pe_callB (call_isiK (K := K) rfl) (by rfl) B.isinstance (by decide +kernel) (pa_cons (pv 8) (pa_cons (pe_bltn (v := .ty "int") (by rfl) B.int (by decide +kernel) rfl) pa_nil)))) (pss_one (ps_ret (pv 8))) pss_nil)
        (pss_one (ps_asg (pv 8) (pg_tup rfl (pgs_cons (pg_name (i := 6) scLRd.nd rfl (.inl rfl)) (pgs_cons (pg_name (i := 7) scLRd.nd rfl (.inl rfl)) pgs_nil))))))) pss_nil)
      (C8.pss_cut (ps_expr (pe_dupd (pv 6) (pe_disp (pps_cons pe_str (pv 5) (pps_cons pe_str (pv 4) pps_nil)) rfl rfl (by decide) (by decide)) ⟨by rfl, by rfl, by rfl, by rfl⟩))
      (pss_cons (ps_expr (pe_bm PySem.F.plainAttrs_list PySem.F.slot_list_append PySem.F.type_list_append mt_append (pv 2) (pa_cons (pv 6) pa_nil)))
      (pss_one (ps_set (i := 3) scLRd.nd rfl (.inl rfl) (pv 7))))))))))))
    (pss_one (ps_ret (pv 2))))), ?_⟩
    have fl := few.1
    refine ⟨_, rfl, rfl, _, _, rfl, rfl, by decide, by rw [sizeLine_eq]; omega, fun l nl => ?_⟩
    refine ⟨Nat.zero_le _, fun f nf => ⟨_, _, _, rfl, ?_⟩⟩
    have rows0 : RowsAt K (upd (upd H l (.lst ((Txt.split t "\n").map V.str))) f (.lst [])) l (Txt.split t "\n") := ⟨SqL.of (Same.new nf _ _ upd_same), fun r hr => by have := few.2 r hr; omega⟩
    have s0 : Same H (upd (upd H l (.lst ((Txt.split t "\n").map V.str))) f (.lst [])) := (Same.new nl).trans (Same.new nf)
    have hf0 : upd (upd H l (.lst ((Txt.split t "\n").map V.str))) f (.lst []) f = some (.lst []) := upd_same
    have nfH : H f = none := (Same.new nl).free nf
    have hl0 : upd H l (.lst ((Txt.split t "
").map V.str)) l = some (.lst ((Txt.split t "
").map V.str)) := upd_same
    have lf : l ≠ f := ne_of_none hl0 nf
    clear hl0
    by_cases e0 : t.length = 0
    · refine ⟨fun mm σ' G => σ' = [some (.str t), some (.ref l), some (.ref f), some (.int 0), none, none, none, none, none] ∧ G = upd (upd H l (.lst ((Txt.split t "
").map V.str))) f (.lst []), ⟨0, rfl, rfl⟩, ?_⟩
      rintro mm σ' G ⟨rfl, rfl⟩
      refine ⟨_, rfl, _, rfl, l, _, rfl, .inl rows0.1, _, _, rfl, rfl, _, rfl, ?_⟩
      refine ite2 (fun _ => ?_) (fun _ => ?_)
      · refine ⟨_, rfl, rfl, _, rfl, iteN (by rw [str_e0, decide_eq_true e0]; rfl) ?_⟩
        exact ⟨_, rfl, k0 e0 f _ s0 hf0⟩
      · exact iteN rfl ⟨_, rfl, k0 e0 f _ s0 hf0⟩
    obtain ⟨kE, kO⟩ := k1 e0
    clear k0 k1
    generalize Txt.split t "
" = rows at *
    generalize upd (upd H l (.lst (rows.map V.str))) f (.lst []) = G0 at *
    refine ⟨fun mm σ' G => ∃ (i n : Nat) (done : List PD) (xs : List V) (x4 x5 x6 x7 x8 : Option V), mm = rows.length - i ∧ σ' = [some (.str t), some (.ref l), some (.ref f), some (.int (i : Int)), x4, x5, x6, x7, x8] ∧ Same H G ∧ RowsAt K G l rows ∧ G f = some (.lst xs) ∧ DsOff f G xs done ∧ i ≤ rows.length ∧ rows.length - i ≤ n ∧ Pz rows n i done ∧ done.length ≤ i,
      ⟨_, 0, rows.length, [], [], none, none, none, none, none, rfl, rfl, s0, rows0, hf0, ⟨rfl, fun d h => (List.not_mem_nil h).elim, fun i x d h _ => by cases h⟩, Nat.zero_le _, by omega, ?_, Nat.zero_le _⟩, ?_⟩
    · unfold Pz
      cases piecesR rows rows.length 0 <;> rfl
    rintro mm σ' G ⟨i, n, done, xs, x4, x5, x6, x7, x8, rfl, rfl, sG, hs, hf, hds, il, hn, hz, hd⟩
    refine ⟨_, rfl, _, rfl, l, _, rfl, .inl hs.1, _, _, rfl, rfl, _, rfl, ?_⟩
    rw [List.length_map]
    by_cases lt : i < rows.length
    case neg =>
      refine iteN (decide_eq_false (by omega)) (iteN rfl ⟨_, rfl, kO done (hz.done lt) f xs _ sG hf hds.at⟩)
    refine iteY (decide_eq_true (by omega)) ⟨_, rfl, rfl, _, rfl, iteY (by rw [str_e0, decide_eq_false e0]; rfl) ?_⟩
    refine ⟨fun σ2 G2 => ∃ (i2 n2 : Nat) (done : List PD) (xs : List V) (x4 x5 x6 x7 x8 : Option V), rows.length - i2 < rows.length - i ∧ σ2 = [some (.str t), some (.ref l), some (.ref f), some (.int (i2 : Int)), x4, x5, x6, x7, x8] ∧ Same H G2 ∧ RowsAt K G2 l rows ∧ G2 f = some (.lst xs) ∧ DsOff f G2 xs done ∧ i2 ≤ rows.length ∧ rows.length - i2 ≤ n2 ∧ Pz rows n2 i2 done ∧ done.length ≤ i2, fun σ2 G2 ⟨i2, n2, done, xs, x4, x5, x6, x7, x8, a0, a1, a2, a3, a4, a5, a6, a7, a8, a9⟩ => ⟨_, a0, i2, n2, done, xs, x4, x5, x6, x7, x8, rfl, a1, a2, a3, a4, a5, a6, a7, a8, a9⟩, ?_⟩
    have bad : ∀ (e : Nat) (Gx : Hp), Same H Gx → pieceR rows i = .error e → Q (.int e) Gx := fun e Gx sx hp => kE e (hz.bad lt hn hp) Gx sx
    refine ⟨fun σ2 G2 => σ2 = [some (.str t), some (.ref l), some (.ref f), some (.int (i : Int)), some (.int 0), some (.str ""), x6, x7, x8] ∧ Same G G2, ?_, ?_⟩
    · exact ⟨(by show 2 ≤ sizeLine; decide), fun T nT => ⟨T, _, rfl, SqT.of upd_same, rfl, _, _, rfl, _, _, rfl, rfl, rfl, Same.new nT⟩⟩
    rintro σ2 G2 ⟨rfl, s2⟩
    refine ⟨fun σ3 G3 => ∃ c : Nat, c ≤ 2 ∧ Bl rows i c ∧ i + c ≤ rows.length ∧ (i + c = rows.length ∨ ∃ r, rowR rows (i + c) = .ok r ∧ r.length ≠ 0) ∧ σ3 = [some (.str t), some (.ref l), some (.ref f), some (.int ((i + c : Nat) : Int)), some (.int (c : Int)), some (.str ""), x6, x7, x8] ∧ G3 = G2, ?_, ?_⟩
    · have hs2 := hs.same s2
      refine ⟨fun m2 σ3 G3 => ∃ c : Nat, m2 = 3 - c ∧ c ≤ 2 ∧ Bl rows i c ∧ i + c ≤ rows.length ∧ σ3 = [some (.str t), some (.ref l), some (.ref f), some (.int ((i + c : Nat) : Int)), some (.int (c : Int)), some (.str ""), x6, x7, x8] ∧ G3 = G2, ⟨_, 0, rfl, by omega, fun c' h => absurd h (by omega), by omega, rfl, rfl⟩, ?_⟩
      rintro m2 σ3 G3 ⟨c, rfl, c2, hb, ic, rfl, rfl⟩
      refine ⟨_, rfl, _, rfl, l, _, rfl, .inl hs2.1, _, _, rfl, rfl, _, rfl, ?_⟩
      rw [List.length_map]
      by_cases q : i + c = rows.length
      · exact iteN (decide_eq_false (by omega)) (iteN rfl ⟨c, c2, hb, ic, .inl q, rfl, rfl⟩)
      refine iteY (decide_eq_true (by omega)) ?_
      obtain ⟨r, hr2⟩ := row_at (show i + c < rows.length by omega)
      refine ⟨_, rfl, _, rfl, l, _, _, _, rfl, rfl, hs2.1, at_row hr2, rfl, _, rfl, ?_⟩
      rw [str_e0]
      by_cases q0 : r.length = 0
      case neg => exact iteN (decide_eq_false q0) ⟨c, c2, hb, ic, .inr ⟨r, hr2, q0⟩, rfl, rfl⟩
      refine iteY (decide_eq_true q0) ⟨fun σ4 G4 => σ4 = [some (.str t), some (.ref l), some (.ref f), some (.int ((i + (c + 1) : Nat) : Int)), some (.int ((c + 1 : Nat) : Int)), some (.str ""), x6, x7, x8] ∧ G4 = G3 ∧ c + 1 ≤ 2, fun σ4 G4 ⟨a1, a2, a3⟩ => ⟨_, by omega, c + 1, rfl, a3, fun c' h => ?_, by omega, a1, a2⟩, ?_⟩
      · rcases (show c' < c ∨ c' = c by omega) with h | rfl
        · exact hb c' h
        · exact ⟨r, hr2, q0⟩
      refine ⟨_, rfl, rfl, _, rfl, ?_⟩
      rw [dec_int]
      by_cases q2 : c = 2
      · subst q2
        exact iteY rfl ⟨_, rfl, bad _ _ (sG.trans s2) (bl_three hb hr2 q0)⟩
      · refine iteN (decide_eq_false (by omega)) ⟨_, rfl, _, _, rfl, rfl, _, rfl, _, _, rfl, rfl, _, _, rfl, ?_, rfl, by omega⟩
        rw [show i + (c + 1) = (i + c) + 1 by omega, Int.natCast_add, Int.natCast_add c]
        rfl
    rintro σ3 G3 ⟨c, c2, hb, ic, hend, rfl, rfl⟩
    have hs3 := hs.same s2
    have sH3 := sG.trans s2
    refine ⟨fun σ4 G4 => ∃ (a : Str) (j : Nat), σ4 = [some (.str t), some (.ref l), some (.ref f), some (.int (j : Int)), some (.int (c : Int)), some (.str a), x6, x7, x8] ∧ Same G3 G4 ∧ j ≤ rows.length ∧ (j = rows.length → pieceR rows i = .error j) ∧ (j < rows.length → blanksR rows i = .ok c ∧ aheadR rows (i + c) = .ok a ∧ j = (if a.length ≠ 0 then i + c + 1 else i + c)), ?_, ?_⟩
    · refine ⟨_, rfl, _, rfl, l, _, rfl, .inl hs3.1, _, _, rfl, rfl, _, rfl, ?_⟩
      rw [List.length_map]
      by_cases q : i + c = rows.length
      · exact iteN (decide_eq_false (by omega)) (iteN rfl ⟨Str.ofString "", i + c, rfl, Same.refl _, ic, fun _ => bl_end hb c2 q, fun z => absurd q (by omega)⟩)
      refine iteY (decide_eq_true (by omega)) ?_
      obtain ⟨r, hr2, rn⟩ := hend.resolve_left q
      have hbl := bl_ok hb c2 (.inr ⟨r, hr2, rn⟩)
      have rlen := few.2 r (List.mem_of_getElem? (rowR_ok hr2))
      refine ⟨_, rfl, _, rfl, l, _, _, _, rfl, rfl, hs3.1, at_row hr2, _, rfl, r, rfl, fitsN (by omega), rfl, _, rfl, ?_⟩
      rw [h_start]
      have eA : aheadR rows (i + c) = (if Txt.startswith r "# " = true then (if nameB (Txt.removeprefix r "# ") = true then .ok (Txt.removeprefix r "# ") else .error (i + c)) else .ok (Str.ofString "")) := by
        unfold aheadR
        rw [hr2]
      by_cases q1 : Txt.startswith r "# " = true
      case neg =>
        rw [if_neg q1] at eA
        exact iteN (by simpa using q1) ⟨Str.ofString "", i + c, rfl, Same.refl _, ic, fun z => absurd z q, fun _ => ⟨hbl, eA, by rw [if_neg (by decide)]⟩⟩
      rw [if_pos q1, h_rest q1] at eA
      refine iteY q1 ⟨_, rfl, _, rfl, l, _, _, _, rfl, rfl, hs3.1, at_row hr2, _, rfl, r, rfl, fitsN (by omega), ?_⟩
      refine ⟨_, rfl, _, rfl, Nat.le_trans (sl_len _ _ _) (by omega), fun G4 s4 => ⟨_, rfl, ?_⟩⟩
      by_cases q2 : nameB (Txt.slice r (some 2) none) = true
      case neg =>
        rw [if_neg q2] at eA
        exact iteY (by simpa using q2) ⟨_, rfl, bad _ _ (sH3.trans s4) (piece_e2 hbl eA)⟩
      rw [if_pos q2] at eA
      refine iteN (by rw [q2]; rfl) ⟨_, rfl, _, _, rfl, rfl, Txt.slice r (some 2) none, i + c + 1, by rw [Int.natCast_add (i + c)]; rfl, s4, by have := row_lt hr2; omega, fun z => ?_, fun _ => ⟨hbl, eA, by rw [if_pos (name_pos q2)]⟩⟩
      rw [piece_at hbl eA (j := i + c + 1) (by rw [if_pos (name_pos q2)])]
      have : headR rows (i + c + 1) = .error (i + c + 1) := by
        unfold headR
        rw [z, row_end]
      rw [this]
    clear hend
    rintro σ4 G4 ⟨a, j, rfl, s4, jl, jE, jO⟩
    have hs4 := hs3.same s4
    have sH4 := sH3.trans s4
    refine ⟨fun σ5 G5 => σ5 = [some (.str t), some (.ref l), some (.ref f), some (.int (j : Int)), some (.int (c : Int)), some (.str a), x6, x7, x8] ∧ G5 = G4 ∧ j < rows.length, ?_, ?_⟩
    · refine ⟨_, rfl, _, rfl, l, _, rfl, .inl hs4.1, rfl, _, rfl, ?_⟩
      rw [dec_int, List.length_map]
      by_cases q : j = rows.length
      · exact iteY (by rw [q]; simp) ⟨_, rfl, bad _ _ sH4 (jE q)⟩
      · exact iteN (by simp; omega) ⟨rfl, rfl, by omega⟩
    rintro σ5 G5 ⟨rfl, rfl, jlt⟩
    obtain ⟨hbl, hah, ej⟩ := jO jlt
    obtain ⟨r, hrj⟩ := row_at jlt
    have rlen := few.2 r (List.mem_of_getElem? (rowR_ok hrj))
    clear jE jO
    have hf5 : G5 f = some (.lst xs) := s4 _ _ (s2 _ _ hf)
    refine ⟨fun σ6 G6 => ∃ y, σ6 = [some (.str t), some (.ref l), some (.ref f), some (.int (j : Int)), some (.int (c : Int)), some (.str a), some y, some (.int ((j + 1 : Nat) : Int)), x8] ∧ Same G5 G6 ∧ ((oGood r = false ∧ y = .non) ∨ (oGood r = true ∧ ∃ b q lp, y = .ref q ∧ oBh r = some b ∧ q ≠ f ∧ lp ≠ f ∧ lp ≠ q ∧ G5 q = none ∧ G6 q = some (.dK (oneK (oWord r) lp (oMark r) b (oLeft r))) ∧ G6 lp = some (.lst ((oParts r).map V.str)))), ?_, ?_⟩
    · refine ⟨_, rfl, _, rfl, l, _, _, _, rfl, rfl, hs4.1, at_row hrj, r, rfl, rlen, fun g G6 s6 => ?_, fun g b q lp G6 hb s6 nq nlp nql hq hlp => ?_⟩
      · exact ⟨_, rfl, _, _, rfl, rfl, _, _, rfl, _, by rw [Int.natCast_add]; rfl, s6, .inl ⟨g, rfl⟩⟩
      · exact ⟨_, rfl, _, _, rfl, rfl, _, _, rfl, _, by rw [Int.natCast_add]; rfl, s6, .inr ⟨g, b, q, lp, rfl, hb, (ne_of_none hf5 nq).symm, (ne_of_none hf5 nlp).symm, nql.symm, nq, hq, hlp⟩⟩
    rintro σ6 G6 ⟨y, rfl, s6, hy⟩
    have hs6 := hs4.same s6
    have sH6 := sH4.trans s6
    refine ⟨fun σ7 G7 => ∃ (q lp : Addr) (kvs : List (Key × V)) (d : PD) (k : Nat) (x8 : Option V), σ7 = [some (.str t), some (.ref l), some (.ref f), some (.int (j : Int)), some (.int (c : Int)), some (.str a), some (.ref q), some (.int (k : Int)), x8] ∧ Same G5 G7 ∧ q ≠ f ∧ lp ≠ f ∧ lp ≠ q ∧ G5 q = none ∧ G7 q = some (.dK kvs) ∧ G7 lp = some (.lst (d.parts.map V.str)) ∧ kvs.length = 6 ∧ pieceR rows i = .ok (d, k) ∧ mergeK kvs [(ka, .str a), (kn, .int c)] = kvs ++ [(ka, .str a), (kn, .int c)] ∧ ∀ Gx, Gx q = some (.dK (kvs ++ [(ka, .str a), (kn, .int c)])) → Gx lp = some (.lst (d.parts.map V.str)) → DictAt Gx q lp d, ?_, ?_⟩
    · rcases hy with ⟨g, rfl⟩ | ⟨g, b, q, lp, rfl, hb, q1, q2, q3, nq, hq, hlp⟩
      case inr =>
        have hT := tail_one hbl hah ej hrj g hb
        obtain ⟨kvs, d, ed, e1, e2, e3, e4, e5⟩ := one_pack a c hq hlp
        rw [← ed] at hT
        exact ⟨_, rfl, rfl, _, rfl, iteN rfl ⟨q, lp, kvs, d, j + 1, x8, rfl, s6, q1, q2, q3, nq, e1, e2, e3, hT, e4, e5⟩⟩
      refine ⟨_, rfl, rfl, _, rfl, iteY rfl ?_⟩
      refine ⟨_, rfl, _, rfl, l, rows, j, r, rfl, hs6, few, hrj, fun g2 G7 s7 => ?_, fun g2 => ⟨fun e he G7 s7 => ?_, fun ps m b k hk p q lp G7 s7 nq nlp nql hp hq hlp => ?_⟩⟩
      · obtain ⟨ty0, ty, e1⟩ := (isT_int (K := K) (H := G7) (z := (j : Int))).1
        exact ⟨_, rfl, _, _, _, _, _, rfl, .ty _, ty, e1, _, rfl, iteY rfl ⟨_, rfl, bad j _ (sH6.trans s7) (tail_bad hbl hah ej hrj g g2)⟩⟩
      · obtain ⟨ty0, ty, e1⟩ := (isT_int (K := K) (H := G7) (z := (e : Int))).1
        exact ⟨_, rfl, _, _, _, _, _, rfl, .ty _, ty, e1, _, rfl, iteY rfl ⟨_, rfl, bad e _ (sH6.trans s7) (by rw [tail_brk hbl hah ej hrj g2, he])⟩⟩
      · have hf6 : G6 f = some (.lst xs) := s6 _ _ hf5
        have ety : PySem.W.kitOne K (.type "tuple") (.type "int") = some false := kit_ty (by decide +kernel)
        have hT : pieceR rows i = .ok (⟨bWord r, ps, true, m, a, b, c, bLeft r⟩, k) := by rw [tail_brk hbl hah ej hrj g2, hk]
        obtain ⟨kvs, d, ed, e1, e2, e3, e4, e5⟩ := brk_pack a c hq hlp
        rw [← ed] at hT
        exact ⟨_, rfl, _, _, _, _, _, rfl, .ty _, .base (.tup hp), ety, _, rfl, iteN rfl ⟨_, rfl, p, _, rfl, SqT.of hp, rfl, _, _, rfl, _, _, rfl, rfl, q, lp, kvs, d, k, some (.ref p), rfl, s6.trans s7, (ne_of_none hf6 nq).symm, (ne_of_none hf6 nlp).symm, nql.symm, s6.free nq, e1, e2, e3, hT, e4, e5⟩⟩
    rintro σ7 G7 ⟨q, lp, kvs, d, k, x8, rfl, s7, q1, q2, q3, nq, hq, hlp, l6, hp, em, mk⟩
    obtain ⟨od, lk, kl, _⟩ := piece_inv few hp
    refine ⟨fun σ8 G8 => σ8 = [some (.str t), some (.ref l), some (.ref f), some (.int (j : Int)), some (.int (c : Int)), some (.str a), some (.ref q), some (.int (k : Int)), x8] ∧ Same G5 G8 ∧ DictAt G8 q lp d, ?_, ?_⟩
    · refine ⟨_, rfl, q, rfl, .inl ⟨_, .inl hq⟩, fun u nu => ?_⟩
      have qu : q ≠ u := ne_of_none hq nu
      have lu : lp ≠ u := ne_of_none hlp nu
      have e2 : mergeK [] [(ka, V.str a), (kn, .int c)] = [(ka, V.str a), (kn, .int c)] := merge_self _ [] (by show [ka, kn].Nodup; decide +kernel)
      refine ⟨_, rfl, _, rfl, upd_same, [(ka, .str a), (kn, .int c)], rfl, (by show 2 ≤ 15; decide), u, _, _, rfl, by rw [upd_ne qu, upd_ne qu]; exact hq, upd_same, qu, by rw [e2, l6]; show 6 + 2 ≤ 1000; decide, ?_⟩
      rw [e2, em, upd_upd]
      have su : Same G5 (upd G7 u (.dK [(ka, V.str a), (kn, .int c)])) := s7.trans (Same.new nu)
      exact ⟨rfl, same_put su nq, mk _ upd_same (by rw [upd_ne q3, upd_ne lu]; exact hlp)⟩
    clear hq hlp s7 em mk G7
    rintro σ8 G8 ⟨rfl, s8, hD⟩
    have hf8 := s8 _ _ hf5
    have hds8 : DsOff f G8 xs done := ((hds.same s2).same s4).same s8
    have hs8 := hs4.same s8
    obtain ⟨n2, hn2, hz2⟩ := hz.next lt hn hp lk
    have lxs := hds8.1
    refine ⟨_, rfl, .inl ⟨rfl, _, SqL.of hf8⟩, _, rfl, f, _, _, rfl, rfl, hf8, small1000 (by omega), ?_⟩
    exact ⟨_, rfl, k, n2, done ++ [d], xs ++ [.ref q], some (.int (c : Int)), some (.str a), some (.ref q), some (.int (k : Int)), x8, by omega, rfl, same_put (sH4.trans s8) nfH, ⟨SqL.kept (Kept.box (b := f)) lf hs8.1, hs8.2⟩, upd_same, (hds8.push od q1 q2 hD).put, kl, hn2, hz2, by rw [List.length_append]; show done.length + 1 ≤ k; omega⟩
end
end Lay
set_option Elab.async false
set_option linter.all false
set_option maxRecDepth 100000
set_option maxHeartbeats 4000000
set_option pp.maxSteps 1500
namespace Lay
open PySem PySem.Spec PyProof.Rows L2
theorem kstr_assoc (a b c : Str) : (a ++ b) ++ c = a ++ (b ++ c) := by
  cases a
  cases b
  cases c
  show Str.mk _ = Str.mk _
  congr 1
  exact Array.append_assoc
theorem ke_app (a : Str) : Str.empty ++ a = a := by
  cases a
  show Str.mk _ = Str.mk _
  congr 1
  exact Array.empty_append
theorem kapp_e (a : Str) : a ++ Str.ofString "" = a := by
  have e : Str.ofString "" = ⟨#[]⟩ := by decide
  rw [e]
  cases a
  rfl
theorem tail_eq (d : PD) : tailS d = Str.ofString ")" ++ moreS d.behind := by
  unfold tailS moreS
  split
  · rw [kapp_e]
  · rw [ke_app, show Str.ofString ")  # " = Str.ofString ")" ++ Str.ofString "  # " from by decide, kstr_assoc]
theorem head_eq (d : PD) : headS d = (frontS d.left ++ d.word) ++ Str.ofString "(" := by
  unfold headS
  rw [ke_app]
  rfl
theorem flat_eq (d : PD) : flatS d d.marked d.behind = ((headS d ++ Txt.join ", " d.parts) ++ commaS d) ++ tailS d := by
  rw [tail_eq, head_eq]
  unfold flatS
  rw [kstr_assoc (_ ++ _) (Str.ofString ")")]
  rfl
theorem remark_eq (d : PD) : remarkS d = if d.ahead.length = 0 then [] else [Str.ofString "# " ++ d.ahead] := by
  unfold remarkS
  rw [ke_app]
def rowI (d : PD) (i : Nat) (z : Str) : Str := if i + 1 < d.parts.length then itemS z else lastS d z
theorem snoc_of {α : Type} {l : List α} (h : 0 < l.length) : ∃ init z, l = init ++ [z] := ⟨l.dropLast, l.getLast (List.ne_nil_of_length_pos h), (List.dropLast_concat_getLast _).symm⟩
theorem items_eq {d : PD} (h : 0 < d.parts.length) : d.parts.mapIdx (rowI d) = d.parts.dropLast.map itemS ++ [lastS d (d.parts.getLastD Str.empty)] := by
  obtain ⟨init, z, e⟩ := snoc_of h
  have hl : d.parts.length = init.length + 1 := by rw [e, List.length_append]; rfl
  rw [e, List.mapIdx_concat, List.dropLast_concat]
  have e1 : (init ++ [z]).getLastD Str.empty = z := by simp
  have e2 : rowI d init.length z = lastS d z := by
    unfold rowI
    rw [if_neg (by omega)]
  rw [e1, e2]
  congr 1
  apply List.ext_getElem?
  intro i
  rw [List.getElem?_mapIdx, List.getElem?_map]
  cases e3 : init[i]? with
  | none => rfl
  | some y =>
    have li := (List.getElem?_eq_some_iff.mp e3).1
    show some (rowI d i y) = some (itemS y)
    unfold rowI
    rw [if_pos (by omega)]
abbrev sLLines : Stmt := top 42
abbrev sLText : Stmt := top 43
def llN : List Str := ["_law_piece_here", "_law_found", "_law_last", "_law_at", "_law_part"]
def spLLines : Sp := fun vs H Q _ => ∃ (q lp : Addr) (d : PD), vs = [.ref q] ∧ DictAt H q lp d ∧ d.Ok ∧ d.parts.length ≤ 30 ∧ ∀ l H', Same H H' → H l = none → H' l = some (.lst ((rowsS d).map V.str)) → Q (.ref l) H'
theorem same_putK {G G' : Hp} {g : Addr} {o : HO} (ng : G g = none) (s : Same G G') : Same G (upd G' g o) := fun a u e => by
  rw [upd_ne (ne_of_none e ng)]
  exact s _ _ e
section
variable {P : Program} {w : World} {K : PySem.W.Frag} {mg : Str → Option Value} {base : Heap}
theorem scLLines : FnScope llN ["_law_piece_here"] (defScope sLLines) := ⟨rfl, rfl, rfl, by decide +kernel, rfl, by decide +kernel, by decide +kernel⟩
theorem ok_llines {f fF : Addr} {fd dF : FuncData} (F : Fun K "_law_lines" "_law_lines" sLLines f fd) (hlen : mg "len" = none) (henum : mg "enumerate" = none)
    (GF : FnOk P w K mg base CX0 1 fF dF ["_law_piece_here", "_law_is_marked", "_law_remark_here"] spLFlat) (gF : mg "_law_flat" = some (.ref fF)) (kF : PySem.W.keepIn K (.ref fF) = true) (bF : Binds K dF ["_law_piece_here", "_law_is_marked", "_law_remark_here"] []) : FnOk P w K mg base CX0 2 f fd ["_law_piece_here"] spLLines := by
  refine F.ok scLLines (fun vs H Q E h => ?_) (fun cdv A outer s H vs Q E hr h => ?_)
  · obtain ⟨q, lp, d, rfl, _⟩ := h
    rfl
  · obtain ⟨q, lp, d, rfl, hD, o, few, k⟩ := h
    refine ⟨_, (pss_cons (ps_set (i := 1) scLLines.nd rfl (.inl rfl) (pe_op op_rep (pe_lst (pa_cons pe_str pa_nil)) (pe_dget (hu_of hr) (pv 0) pe_str (fun _ _ => rfl))))
      (C8.pss_cut (ps_if (pt_cmpR op_ne (pe_dget (hu_of hr) (pv 0) pe_str (fun _ _ => rfl)) pe_str (nomark _)) (pss_one (ps_expr (pe_bm PySem.F.plainAttrs_list PySem.F.slot_list_append PySem.F.type_list_append mt_append (pv 1) (pa_cons (pe_op op_add_str pe_str (pe_dget (hu_of hr) (pv 0) pe_str (fun _ _ => rfl))) pa_nil)))) pss_nil)
      (pss_cons (ps_if (pt_not (pt_val (pe_dget (hu_of hr) (pv 0) pe_str (fun _ _ => rfl)))) (pss_cons (ps_expr (pe_bm PySem.F.plainAttrs_list PySem.F.slot_list_append PySem.F.type_list_append mt_append (pv 1) (pa_cons (pe_call GF hr (by rfl) gF kF bF .nil pass0 (pa_cons (pv 0) (pa_cons (pe_dget (hu_of hr) (pv 0) pe_str (fun _ _ => rfl)) (pa_cons (pe_dget (hu_of hr) (pv 0) pe_str (fun _ _ => rfl)) pa_nil)))) pa_nil))) (pss_one (ps_ret (pv 1)))) pss_nil)
      (C8.pss_cut (ps_expr (pe_bm PySem.F.plainAttrs_list PySem.F.slot_list_append PySem.F.type_list_append mt_append (pv 1) (pa_cons (pe_op op_add_str (pe_op op_add_str (pe_ifExp (pt_val (pe_dget (hu_of hr) (pv 0) pe_str (fun _ _ => rfl))) pe_str pe_str) (pe_dget (hu_of hr) (pv 0) pe_str (fun _ _ => rfl))) pe_str) pa_nil)))
      (pss_cons (ps_set (i := 2) scLLines.nd rfl (.inl rfl) (pe_op op_sub (pe_callB call_len_seq (by rfl) hlen (by decide +kernel) (pa_cons (pe_dget (hu_of hr) (pv 0) pe_str (fun _ _ => rfl)) pa_nil)) pe_int))
      (pss_cons (ps_for PassesOwn.never rfl (pi_enum2 (by rfl) henum (pa_cons (pe_dget (hu_of hr) (pv 0) pe_str (fun _ _ => rfl)) pa_nil)) (pg_tup rfl (pgs_cons (pg_name (i := 3) scLLines.nd rfl (.inl rfl)) (pgs_cons (pg_name (i := 4) scLLines.nd rfl (.inl rfl)) pgs_nil)))
        (pss_one (ps_expr (pe_bm PySem.F.plainAttrs_list PySem.F.slot_list_append PySem.F.type_list_append mt_append (pv 1) (pa_cons (pe_op op_add_str (pe_op op_add_str pe_str (pv 4)) (pe_ifExp (PW.pt (pw_or (pt_cmpR op_lt (pv 3) (pv 2) (nomark _)) (pw_or1 (pt_val (pe_dget (hu_of hr) (pv 0) pe_str (fun _ _ => rfl)))))) pe_str pe_str)) pa_nil)))))
      (pss_cons (ps_expr (pe_bm PySem.F.plainAttrs_list PySem.F.slot_list_append PySem.F.type_list_append mt_append (pv 1) (pa_cons (pe_op op_add_str pe_str (pe_ifExp (pt_cmpR op_ne (pe_dget (hu_of hr) (pv 0) pe_str (fun _ _ => rfl)) pe_str (nomark _)) (pe_op op_add_str pe_str (pe_dget (hu_of hr) (pv 0) pe_str (fun _ _ => rfl))) pe_str)) pa_nil)))
      (pss_one (ps_ret (pv 1)))))))))), ?_⟩
    have b0 := o.b0
    have b3 := o.b3
    have la := remarkB_len o.ahead
    have lh := remarkB_len o.behind
    have lw := nameB_len o.word
    have j2 : (Str.ofString "# ").length = 2 := by decide
    refine ⟨(by show 1 ≤ sizeLine; decide), fun l0 n0 => ?_⟩
    have s0 := Same.new n0 (o := .lst [.str ""])
    refine ⟨_, rfl, q, _, rfl, dg_n (hD.same s0), l0, d.blanks, _, rfl, rfl, upd_same, by omega, by omega, fitsN (by show 1 * d.blanks.toNat ≤ 1000000; omega), fun l n1 => ?_⟩
    rw [flat_one]
    have s1 := Same.new n1 (o := .lst (List.replicate d.blanks.toNat (V.str "")))
    have h1 : upd (upd H l0 (.lst [.str ""])) l (.lst (List.replicate d.blanks.toNat (V.str ""))) l = some (.lst (List.replicate d.blanks.toNat (V.str ""))) := upd_same
    have s01 := s0.trans s1
    have nl : H l = none := s0.free n1
    generalize upd (upd H l0 (.lst [.str ""])) l (.lst (List.replicate d.blanks.toNat (V.str ""))) = G at *
    have rb : List.replicate d.blanks.toNat (V.str "") = (List.replicate d.blanks.toNat (Str.ofString "")).map V.str := by rw [List.map_replicate]
    refine ⟨fun σ G' => σ = [some (.ref q), some (.ref l), none, none, none] ∧ Same H G' ∧ G' l = some (.lst ((List.replicate d.blanks.toNat (Str.ofString "") ++ remarkS d).map V.str)), ?_, ?_⟩
    · refine ⟨_, rfl, q, _, rfl, dg_a (hD.same s01), rfl, _, rfl, ?_⟩
      rw [str_ne, remark_eq]
      by_cases e : d.ahead.length = 0
      · refine iteN (by rw [e]; rfl) ⟨rfl, s01, ?_⟩
        rw [if_pos e, List.append_nil, h1, rb]
      · refine iteY (by simp [e]) ⟨_, rfl, .inl ⟨rfl, _, SqL.of h1⟩, _, rfl, q, _, rfl, dg_a (hD.same s01), _, _, rfl, rfl, fitsN (by omega), l, _, _, rfl, rfl, h1, by rw [List.length_replicate]; exact small1000 (by omega), rfl, same_putK nl s01, ?_⟩
        rw [upd_same, if_neg e, rb, List.map_append]
        rfl
    rintro σ G1 ⟨rfl, sG, hl⟩
    have sD := hD.same sG
    have lr : (List.replicate d.blanks.toNat (Str.ofString "") ++ remarkS d).length ≤ 4 := by
      rw [List.length_append, List.length_replicate, remark_eq]
      split
      · show _ + 0 ≤ 4
        omega
      · show _ + 1 ≤ 4
        omega
    have er : rowsS d = (List.replicate d.blanks.toNat (Str.ofString "") ++ remarkS d) ++ bodyS d := by
      unfold rowsS
      rw [List.append_assoc]
    generalize List.replicate d.blanks.toNat (Str.ofString "") ++ remarkS d = R at *
    have hH := headS_len o
    have hC := commaS_len (d := d)
    have j3 : (Str.ofString "  ").length = 2 := by decide
    have j4 : (Str.ofString ",").length = 1 := by decide
    have j5 : (Str.ofString ")").length = 1 := by decide
    have j6 : (Str.ofString "  # ").length = 4 := by decide
    have j7 : (Str.ofString "(").length = 1 := by decide
    have j8 : (Str.ofString "!").length = 1 := by decide
    have j9 : (Str.ofString "").length = 0 := by decide
    refine ⟨_, rfl, q, _, rfl, dg_b sD, d.broken, rfl, ?_⟩
    by_cases eb : d.broken = true
    · refine iteN (by rw [eb]; rfl) ?_
      have ebo : bodyS d = headS d :: ((d.parts.dropLast.map itemS) ++ [lastS d (d.parts.getLastD Str.empty), tailS d]) := by
        unfold bodyS
        rw [if_pos eb]
      refine ⟨fun σ G' => σ = [some (.ref q), some (.ref l), none, none, none] ∧ Same H G' ∧ G' l = some (.lst ((R ++ [headS d]).map V.str)), ?_, ?_⟩
      · refine ⟨_, rfl, .inl ⟨rfl, _, SqL.of hl⟩, _, rfl, q, _, rfl, dg_l sD, d.left, rfl, ?_⟩
        rw [head_eq]
        unfold frontS
        by_cases el : d.left = true
        · refine iteY el ⟨_, rfl, q, _, rfl, dg_w sD, _, _, rfl, rfl, fitsN (by omega), _, _, rfl, rfl, fitsN (by rw [Str.length_append]; omega), l, _, _, rfl, rfl, hl, by rw [List.length_map]; exact small1000 (by omega), rfl, same_putK nl sG, ?_⟩
          rw [upd_same, if_pos el, List.map_append]
          rfl
        · refine iteN (by simpa using el) ⟨_, rfl, q, _, rfl, dg_w sD, _, _, rfl, rfl, fitsN (by omega), _, _, rfl, rfl, fitsN (by rw [Str.length_append]; omega), l, _, _, rfl, rfl, hl, by rw [List.length_map]; exact small1000 (by omega), rfl, same_putK nl sG, ?_⟩
          rw [upd_same, if_neg el, List.map_append]
          rfl
      rintro σ G2 ⟨rfl, s2, hl2⟩
      have sD2 := hD.same s2
      refine ⟨_, rfl, q, _, rfl, dg_p sD2, lp, _, rfl, .inl (SqL.of (dg_lp sD2)), _, _, rfl, rfl, ?_⟩
      refine ⟨_, rfl, q, _, rfl, dg_p sD2, lp, d.parts.map V.str, rfl, .inl ⟨SqL.of (dg_lp sD2), for_it walk_enum (fun i σ G' => (∃ x3 x4, σ = [some (.ref q), some (.ref l), some (.int (((d.parts.map V.str).length : Int) - 1)), x3, x4]) ∧ Same H G' ∧ G' l = some (.lst ((R ++ headS d :: (d.parts.take i).mapIdx (rowI d)).map V.str))) ⟨⟨_, _, rfl⟩, s2, hl2⟩ (fun i σ G' _ z => SqL.of (dg_lp (hD.same z.2.1))) ?_ ?_⟩⟩
      · rintro i x σ G' G'' hi ⟨⟨x3, x4, rfl⟩, sG', hl'⟩ ⟨T0, u, v, rfl, hT, rfl, e1, e2⟩
        cases e1
        have e2 : (d.parts.map V.str)[i]? = some v := e2
        obtain ⟨y, ey, rfl⟩ : ∃ y, d.parts[i]? = some y ∧ V.str y = v := by
          rw [List.getElem?_map] at e2
          cases e : d.parts[i]? with
          | none => rw [e] at e2; cases e2
          | some y => rw [e] at e2; exact ⟨y, rfl, Option.some.inj e2⟩
        have li := (List.getElem?_eq_some_iff.mp ey).1
        have ly := nameB_len (o.parts y (List.mem_of_getElem? ey))
        have sT := Same.new hT (o := .tup [.int (i : Nat), .str y])
        have hT' := sT _ _ hl'
        have sD' := hD.same (sG'.trans sT)
        have grow : (d.parts.take (i + 1)).mapIdx (rowI d) = (d.parts.take i).mapIdx (rowI d) ++ [rowI d i y] := by
          rw [List.take_succ, ey]
          show ((d.parts.take i) ++ [y]).mapIdx (rowI d) = _
          rw [List.mapIdx_concat, List.length_take, Nat.min_eq_left (by omega)]
        have grow2 : ∀ z : Str, rowI d i y = (Str.ofString "  " ++ y) ++ z → ((R ++ headS d :: (d.parts.take i).mapIdx (rowI d)).map V.str) ++ [V.str ((Str.ofString "  " ++ y) ++ z)] = (R ++ headS d :: (d.parts.take (i + 1)).mapIdx (rowI d)).map V.str := fun z ez => by
          rw [grow, ez]
          simp
        have many : ((R ++ headS d :: (d.parts.take i).mapIdx (rowI d)).map V.str).length < sizeLine := by
          rw [List.length_map, List.length_append, List.length_cons, List.length_mapIdx, List.length_take]
          exact small1000 (by omega)
        refine ⟨T0, _, rfl, SqT.of upd_same, rfl, _, _, rfl, _, _, rfl, rfl, ?_⟩
        refine ⟨_, rfl, .inl ⟨rfl, _, SqL.of hT'⟩, _, rfl, _, _, rfl, rfl, fitsN (by omega), _, rfl, _, rfl, _, _, rfl, rfl, _, rfl, ?_⟩
        have ll : (d.parts.map V.str).length = d.parts.length := List.length_map ..
        by_cases c : i + 1 < d.parts.length
        · have hz : rowI d i y = (Str.ofString "  " ++ y) ++ Str.ofString "," := by
            unfold rowI itemS
            rw [if_pos c, ke_app]
          refine iteY (decide_eq_true (by omega)) (iteY rfl ⟨_, _, rfl, rfl, fitsN (by rw [Str.length_append]; omega), l, _, _, rfl, rfl, hT', many, ⟨_, _, rfl⟩, same_putK nl (sG'.trans sT), ?_⟩)
          rw [upd_same, grow2 _ hz]
        · refine iteN (decide_eq_false (by omega)) ⟨_, rfl, q, _, rfl, dg_m sD', d.marked, rfl, ?_⟩
          by_cases em : d.marked = true
          · have hz : rowI d i y = (Str.ofString "  " ++ y) ++ Str.ofString "," := by
              unfold rowI lastS commaS
              rw [if_neg c, if_pos em, ke_app]
            refine iteY em ⟨_, _, rfl, rfl, fitsN (by rw [Str.length_append]; omega), l, _, _, rfl, rfl, hT', many, ⟨_, _, rfl⟩, same_putK nl (sG'.trans sT), ?_⟩
            rw [upd_same, grow2 _ hz]
          · have hz : rowI d i y = (Str.ofString "  " ++ y) ++ Str.ofString "" := by
              unfold rowI lastS commaS
              rw [if_neg c, if_neg em, ke_app]
            refine iteN (by simpa using em) ⟨_, _, rfl, rfl, fitsN (by rw [Str.length_append]; omega), l, _, _, rfl, rfl, hT', many, ⟨_, _, rfl⟩, same_putK nl (sG'.trans sT), ?_⟩
            rw [upd_same, grow2 _ hz]
      · rintro σ G3 ⟨⟨x3, x4, rfl⟩, s3, hl3⟩
        rw [List.length_map, List.take_length, items_eq o.some] at hl3
        have sD3 := hD.same s3
        have many : ((R ++ headS d :: (d.parts.dropLast.map itemS ++ [lastS d (d.parts.getLastD Str.empty)])).map V.str).length < sizeLine := by
          rw [List.length_map, List.length_append, List.length_cons, List.length_append, List.length_map, List.length_dropLast]
          refine small1000 ?_
          show _ + (_ + 1 + 1) < 1000
          omega
        have last : ((R ++ headS d :: (d.parts.dropLast.map itemS ++ [lastS d (d.parts.getLastD Str.empty)])).map V.str) ++ [V.str (tailS d)] = (rowsS d).map V.str := by
          rw [er, ebo]
          simp
        refine ⟨_, rfl, .inl ⟨rfl, _, SqL.of hl3⟩, _, rfl, q, _, rfl, dg_h sD3, rfl, _, rfl, ?_⟩
        rw [str_ne]
        rw [tail_eq] at last
        by_cases e : d.behind.length = 0
        · refine iteN (by rw [e]; rfl) ⟨_, _, rfl, rfl, fitsN (by omega), l, _, _, rfl, rfl, hl3, many, _, rfl, k l _ (same_putK nl s3) nl ?_⟩
          rw [upd_same, ← last]
          unfold moreS
          rw [if_pos e]
        · refine iteY (by simp [e]) ⟨_, rfl, q, _, rfl, dg_h sD3, _, _, rfl, rfl, fitsN (by omega), _, _, rfl, rfl, fitsN (by rw [Str.length_append]; omega), l, _, _, rfl, rfl, hl3, many, _, rfl, k l _ (same_putK nl s3) nl ?_⟩
          rw [upd_same, ← last]
          unfold moreS
          rw [if_neg e]
    · refine iteY (by simpa using eb) ⟨_, rfl, .inl ⟨rfl, _, SqL.of hl⟩, _, rfl, _, rfl, q, _, rfl, dg_m sD, _, rfl, q, _, rfl, dg_h sD, q, lp, d, d.marked, d.behind, rfl, sD, o, few, o.behind, l, _, _, rfl, rfl, hl, by rw [List.length_map]; exact small1000 (by omega), _, rfl, k l _ (same_putK nl sG) nl ?_⟩
      have ebo : bodyS d = [((headS d ++ Txt.join ", " d.parts) ++ commaS d) ++ tailS d] := by
        unfold bodyS
        rw [if_neg eb]
      rw [upd_same, er, ebo, flat_eq, List.map_append]
      rfl
end
/-- the law's dicts, one by one -/
def DictsAt (H : Hp) (xs : List V) (ds : List PD) : Prop := xs.length = ds.length ∧ (∀ d ∈ ds, d.Ok ∧ d.parts.length ≤ 8) ∧ ∀ (i : Nat) (x : V) (d : PD), xs[i]? = some x → ds[i]? = some d → ∃ q lp, x = .ref q ∧ DictAt H q lp d
theorem DictsAt.same {H H' : Hp} {xs : List V} {ds : List PD} (s : Same H H') (h : DictsAt H xs ds) : DictsAt H' xs ds :=
  ⟨h.1, h.2.1, fun i x d hx hd => by
    obtain ⟨q, lp, e, hq⟩ := h.2.2 i x d hx hd
    exact ⟨q, lp, e, hq.same s⟩⟩
def spLText : Sp := fun vs H Q _ => ∃ (a : Addr) (xs : List V) (ds : List PD), vs = [.ref a] ∧ H a = some (.lst xs) ∧ DictsAt H xs ds ∧ ds.length ≤ 900 ∧ ∀ H', Same H H' → Q (.str (progText ds)) H'
section
variable {P : Program} {w : World} {K : PySem.W.Frag} {mg : Str → Option Value} {base : Heap}
theorem scLText : FnScope ["_law_pieces", "_law_found", "_law_piece_here"] ["_law_pieces"] (defScope sLText) := ⟨rfl, rfl, rfl, by decide +kernel, rfl, by decide +kernel, by decide +kernel⟩
theorem ok_ltext {f fL : Addr} {fd dL : FuncData} (F : Fun K "_law_text" "_law_text" sLText f fd)
    (GL : FnOk P w K mg base CX0 2 fL dL ["_law_piece_here"] spLLines) (gL : mg "_law_lines" = some (.ref fL)) (kL : PySem.W.keepIn K (.ref fL) = true) (bL : Binds K dL ["_law_piece_here"] []) : FnOk P w K mg base CX0 3 f fd ["_law_pieces"] spLText := by
  refine F.ok scLText (fun vs H Q E h => ?_) (fun cdv A outer s H vs Q E hr h => ?_)
  · obtain ⟨a, xs, ds, rfl, _⟩ := h
    rfl
  · obtain ⟨a, xs, ds, rfl, ha, hds, hl, k⟩ := h
    refine ⟨_, (pss_cons (ps_set (i := 1) scLText.nd rfl (.inl rfl) (pe_lst pa_nil))
      (pss_cons (ps_for PassesOwn.never rfl (pi_list (pv 0)) (pg_name (i := 2) scLText.nd rfl (.inl rfl))
        (pss_one (ps_expr (pe_bm PySem.F.plainAttrs_list PySem.F.slot_list_extend PySem.F.type_list_extend mt_extend (pv 1) (pa_cons (pe_call GL hr (by rfl) gL kL bL .nil pass0 (pa_cons (pv 2) pa_nil)) pa_nil)))))
      (pss_one (ps_ret (pe_bm PySem.F.plainAttrs_str PySem.F.slot_str_join PySem.F.type_str_join mt_join pe_str (pa_cons (pv 1) pa_nil)))))), ?_⟩
    refine ⟨(by show 0 ≤ sizeLine; exact Nat.zero_le _), fun l nl => ?_⟩
    have sl := Same.new nl (o := .lst [])
    have ok30 : ∀ d ∈ ds, d.Ok ∧ d.parts.length ≤ 30 := fun d hd => ⟨(hds.2.1 d hd).1, by have := (hds.2.1 d hd).2; omega⟩
    refine ⟨_, rfl, a, rfl, ⟨_, SqL.of (sl _ _ ha)⟩, for_list (K := K) (xs := xs) (fun i σ G => ∃ x2, σ = [some (.ref a), some (.ref l), x2] ∧ Same H G ∧ G l = some (.lst ((progRows (ds.take i)).map V.str))) ⟨_, rfl, sl, upd_same⟩ (fun i σ G _ z => by
      obtain ⟨_, _, z, _⟩ := z
      exact SqL.of (z _ _ ha)) ?_ ?_⟩
    · rintro i x σ G hi ⟨x2, rfl, sG, hG⟩
      have li := (List.getElem?_eq_some_iff.mp hi).1
      obtain ⟨d, ed⟩ : ∃ d, ds[i]? = some d := ⟨_, List.getElem?_eq_getElem (by rw [← hds.1]; exact li)⟩
      obtain ⟨q, lp, rfl, hq⟩ := (hds.same sG).2.2 i x d hi ed
      obtain ⟨o, few⟩ := ok30 d (List.mem_of_getElem? ed)
      have hlen := progRows_len (ds := ds.take i) fun e he => ok30 e (List.mem_of_mem_take he)
      have hlen2 := rowsS_len o few
      rw [List.length_take] at hlen
      refine ⟨_, rfl, .inl ⟨rfl, _, SqL.of hG⟩, _, rfl, q, lp, d, rfl, hq, o, few, fun l2 G2 s2 n2 hl2 => ⟨l, l2, _, _, rfl, rfl, s2 _ _ hG, hl2, ?_, _, rfl, same_putK nl (sG.trans s2), ?_⟩⟩
      · rw [List.length_map, List.length_map]
        exact fitsN (by omega)
      · rw [upd_same, progRows_take ed, List.map_append]
    · rintro σ G ⟨x2, rfl, sG, hG⟩
      rw [hds.1, List.take_length] at hG
      have hlen := progRows_len (ds := ds) ok30
      have hsum := sum_few (n := 300) (progRows_few ok30)
      have j : (Str.ofString "\n").length = 1 := by decide
      exact ⟨rfl, _, rfl, _, l, progRows ds, rfl, rfl, .inl (SqL.of hG), by rw [j]; omega, k G sG⟩
end
end Lay
set_option Elab.async false
set_option linter.all false
set_option maxRecDepth 100000
set_option maxHeartbeats 4000000
set_option pp.maxSteps 1000
namespace Lay
open PySem PySem.Spec PyProof.Rows L2 KwX
/-! programs, by what pieces they are of -/
def PP (K : PySem.W.Frag) (C CP : Addr) (H : Hp) (p : Addr) (ds : List PD) : Prop := ∃ t xs, ProgT K C CP H p t xs ds
theorem PP.same {K : PySem.W.Frag} {C CP p : Addr} {H H' : Hp} {ds : List PD} (s : Same H H') (h : PP K C CP H p ds) : PP K C CP H' p ds := by
  obtain ⟨t, xs, h⟩ := h
  exact ⟨t, xs, h.same s⟩
def spReadA (K : PySem.W.Frag) (C CP : Addr) : Sp := fun vs H Q E => spRead K C CP vs H Q E ∨ spReadE K C CP vs H Q E
/-- what is had of the classes -/
structure Pg (P : Program) (w : World) (K : PySem.W.Frag) (mg : Str → Option Value) (base : Heap) (C CP : Addr) : Prop where
  Z : PieceC K C
  c : ClsI K C
  cp : ClsI K CP
  ZP : ProgC K CP
  gP : mg "Program" = some (.ref CP)
  made : ∃ f fd, Mk K CP f ∧ FnOk P w K mg base CX0 3 f fd ["self", "pieces"] (spProgG K C CP) ∧ Binds K fd ["self", "pieces"] [] ∧ ∃ e ds, Vals [V.ref e] ds ∧ Binds K fd ["self", "pieces"] ds ∧ ∀ H, TupG K H e []
  str : ∃ f fd, FnOk P w K mg base CX0 4 f fd ["self"] (spStrP K C CP) ∧ PySem.W.findIn K (.ref CP) "__str__" = some (some (.ref f)) ∧ PySem.W.isFn K (.ref f) = true ∧ Binds K fd ["self"] []
  eqP : ∃ f fd, FnOk P w K mg base CX0 7 f fd ["self", "other"] (spEqPg K C CP) ∧ PySem.W.findIn K (.ref CP) "__eq__" = some (some (.ref f)) ∧ PySem.W.isFn K (.ref f) = true ∧ Binds K fd ["self", "other"] []
  neP : PySem.W.findIn K (.ref CP) "__ne__" = some (some (.builtin "object.__ne__"))
  read : ∃ mc p g, ClX.CRead K CP mc ∧ ClX.CMet K CP mc "read" p g ∧ FnR P w K mg base CX0 7 g (spReadA K C CP)
def rNePg (K : PySem.W.Frag) (C CP : Addr) : R2 := fun x y H Q => ∃ p q ds es, x = .ref p ∧ y = .ref q ∧ PP K C CP H p ds ∧ PP K C CP H q es ∧ ∀ H', Same H H' → Q (.bl (!decide (V.str (progText ds) = V.str (progText es)))) H'
def rEqPg (K : PySem.W.Frag) (C CP : Addr) : R2 := fun x y H Q => ∃ p q ds es, x = .ref p ∧ y = .ref q ∧ PP K C CP H p ds ∧ PP K C CP H q es ∧ ∀ H', Same H H' → Q (.bl (decide (V.str (progText ds) = V.str (progText es)))) H'
def rStrPg (K : PySem.W.Frag) (C CP : Addr) : List V → Hp → VK → Prop := fun xs H Q => ∃ p ds, xs = [.ref p] ∧ PP K C CP H p ds ∧ ∀ H', Same H H' → Q (.str (progText ds)) H'
def tMkPg (K : PySem.W.Frag) (C CP : Addr) (t : TA) : TE := fun σ H Q => t σ H fun vs H1 => ∃ a xs ds, vs = [.ref a] ∧ SqG K H1 a xs ∧ PcsAt K C H1 xs ds ∧ ds.length ≤ 900 ∧ ∀ c H', Same H1 H' → H1 c = none → PP K C CP H' c ds → Q (.ref c) H'
def tMkPg0 (K : PySem.W.Frag) (C CP : Addr) : TE := fun _ H Q => ∀ c H', Same H H' → H c = none → PP K C CP H' c [] → Q (.ref c) H'
def tRead (K : PySem.W.Frag) (C CP : Addr) (t : TA) : TE := fun σ H Q => t σ H fun vs H1 => ∃ ds, vs = [.str (progText ds)] ∧ ds.length ≤ 50 ∧ (∀ d ∈ ds, d.Ok ∧ d.parts.length ≤ 30) ∧ ∀ p H', Same H1 H' → PP K C CP H' p ds → Q (.ref p) H'
section
variable {X : Cx} {C CP : Addr} {K : PySem.W.Frag} (hK : X.K = K) (T : Pg X.prog X.w K X.mg X.base C CP)
include hK T
theorem op_nePg (hr : Room 8 X.A) : OpR X (compareOp .NotEq) (rNePg K C CP) := by
  subst hK
  obtain ⟨f, fd, ok, hs, fn, b⟩ := T.eqP
  intro pins s σ H x y v u Q I rx ry h
  obtain ⟨p, q, ds, es, rfl, rfl, ⟨t1, xs, hp⟩, ⟨t2, ys, hq⟩, k⟩ := h
  obtain ⟨d1, h1, _⟩ := id hp
  obtain ⟨d2, h2, _⟩ := id hq
  exact op_neOwn ok hs T.neP T.cp.hm fn hr b pass0 pins s σ H _ _ v u Q I rx ry ⟨p, q, d1, d2, _, _, rfl, rfl, h1, h2, p, q, t1, t2, xs, ys, ds, es, rfl, hp, hq, fun H' s' => ⟨_, rfl, k H' s'⟩⟩
theorem op_eqPg (hr : Room 7 X.A) : OpR X (compareOp .Eq) (rEqPg K C CP) := by
  subst hK
  obtain ⟨f, fd, ok, hs, fn, b⟩ := T.eqP
  intro pins s σ H x y v u Q I rx ry h
  obtain ⟨p, q, ds, es, rfl, rfl, ⟨t1, xs, hp⟩, ⟨t2, ys, hq⟩, k⟩ := h
  obtain ⟨d1, h1, _⟩ := id hp
  obtain ⟨d2, h2, _⟩ := id hq
  exact op_eqOwn ok hs fn hr b pass0 pins s σ H _ _ v u Q I rx ry ⟨p, q, d1, d2, _, _, rfl, rfl, h1, h2, p, q, t1, t2, xs, ys, ds, es, rfl, hp, hq, fun H' s' => ⟨_, rfl, k H' s'⟩⟩
theorem call_strPg (hr : Room 6 X.A) : CallR X (.type "str") (rStrPg K C CP) := by
  subst hK
  obtain ⟨f, fd, ok, hs, fn, b⟩ := T.str
  intro pins s σ H xs us Q I r h
  obtain ⟨p, ds, rfl, ⟨t, zs, hp⟩, k⟩ := h
  obtain ⟨d1, h1, _⟩ := id hp
  exact call_strOwn ok hs fn hr b pass0 pins s σ H _ us Q I r ⟨p, d1, _, rfl, h1, p, t, zs, ds, rfl, hp, fun H' s' => ⟨_, rfl, k H' s'⟩⟩
theorem pe_mkPg {e : Expr} {t : TA} {x : Str} {p pos : Pos} (hx : x = "Program") (hr : Room 4 X.A) (hg : Gl X x) (ha : PA X [e] t) (he : starEach [e] X.env = (false, eval e X.env) :: starEach [] X.env := by rfl) (hpl : (backTo pos (starEach [] X.env)).any (·.1) = false := by rfl) :
    PE X (.Call (.Name x p) [e] [] pos) (tMkPg K C CP t) := by
  subst hK
  subst hx
  obtain ⟨f, fd, M, ok, b, _⟩ := T.made
  refine pe_mono (pe_make M ok hr hg T.gP b .nil pass0 (pa_clo ha) (by decide) he hpl) fun σ H Q h => ⟨_, h, fun vs H1 q => ?_⟩
  obtain ⟨a, xs, ds, rfl, hs, hR, hl, k⟩ := q
  intro y dx nx nd ne
  have zz := (Same.new nd (o := .own y)).trans (Same.new (fresh_own (o := .own y) nx ne) (o := .ins CP dx []))
  refine ⟨y, dx, a, xs, rfl, upd_same, hs.same zz, by rw [hR.1]; omega, (hR.same zz).isP T.c, fun H2 u hu kp hx => ⟨rfl, ?_⟩⟩
  have s2 := made_same nx nd kp
  exact k y H2 s2 nx ⟨u, xs, dx, hx, hu, hR.same s2, hl⟩
theorem pe_mkPg0 {x : Str} {p pos : Pos} (hx : x = "Program") (hr : Room 4 X.A) (hg : Gl X x) : PE X (.Call (.Name x p) [] [] pos) (tMkPg0 K C CP) := by
  subst hK
  subst hx
  obtain ⟨f, fd, M, ok, _, e, ds, hd, b, he⟩ := T.made
  refine pe_mono (pe_make0 M ok hr hg T.gP b hd pass0 (by decide)) fun σ H Q k => ?_
  intro y dx nx nd ne
  have zz := (Same.new nd (o := .own y)).trans (Same.new (fresh_own (o := .own y) nx ne) (o := .ins CP dx []))
  refine ⟨y, dx, e, [], rfl, upd_same, .inr (he _), Nat.zero_le _, fun v h => (List.not_mem_nil h).elim, fun H2 u hu kp hx => ⟨rfl, ?_⟩⟩
  have s2 := made_same nx nd kp
  exact k y H2 s2 nx ⟨u, [], dx, hx, hu, PcsAt.nil, Nat.zero_le _⟩
theorem pe_read (hr : Room 7 X.A) {e : Expr} {t : TA} {x : Str} {p apos pos : Pos} {pl : Sem Bool} (hx : x = "Program") (hg : Gl X x) (ha : PA X [e] t)
    (hst : starEach [e] X.env = (false, eval e X.env) :: starEach [] X.env := by rfl) (hpl : (backTo pos (starEach [] X.env)).any (·.1) = false := by rfl)
    (ht : eval (.Call (.Attribute (.Name x p) "read" apos) [e] [] pos) X.env = (do
      let ov ← eval (.Name x p) X.env
      standAt apos.atName
      let (f, first) ← holding [ov] (getMethod ov "read" pl)
      callWith pos f first (backTo pos (starEach [e] X.env)) (backToKw pos (keywordEach [] X.env))) := by rfl) : PE X (.Call (.Attribute (.Name x p) "read" apos) [e] [] pos) (tRead K C CP t) := by
  subst hK
  subst hx
  obtain ⟨mc, pR, gR, cr, cm, F⟩ := T.read
  refine pe_mono (ClX.pe_cmeth (E := E0) (pe_glob (v := .ref CP) hg T.gP rfl) cr cm F hr pass0 (pa_clo ha) hst hpl ht) fun σ H Q h => ⟨rfl, _, h, fun vs H1 q => ?_⟩
  obtain ⟨ds, rfl, few, ok, k⟩ := q
  by_cases ne : ds = []
  · subst ne
    exact .inr ⟨rfl, fun p u xs H' s' hp => k p H' s' ⟨u, xs, hp⟩⟩
  · obtain ⟨r1, r2, r3, r4⟩ := prog_read ne ok few
    exact .inl ⟨progText ds, ds.length, ds, rfl, r1, r2, r3, r4, by omega, by omega, ok, fun p u xs H' s' hp => k p H' s' ⟨u, xs, hp⟩⟩
end
end Lay
set_option Elab.async false
set_option linter.all false
set_option maxRecDepth 100000
set_option maxHeartbeats 4000000
set_option pp.maxSteps 900
namespace Lay
open PySem PySem.Spec PyProof.Rows L2 KwX LiI
section
variable {X : Cx} {CX : CXT} {k : Nat} {C p g : Addr} {mc : Value} {sp : Sp} {E : L2.St → XK} {o e : Expr} {es : List Expr} {m : Str} {pos apos : Pos} {ta : TE} {t : TA} {pl : Sem Bool}
theorem run_fnRS {pins : List (Addr × Obj)} {σ : L2.St} {H : Hp} {s : Shared} {Q : VK} {us : List Value} {vs : List V} (F : FnR X.prog X.w X.K X.mg X.base CX k g sp) (hr : Room k X.A) (hx : PassesAt CX X σ (E σ)) (I : Inv X pins σ H s) (r : Vals vs us) (h : sp vs H Q (E σ)) :
    codeAny (model X.prog X.w) X.A (.call (.ref g) ⟨us, []⟩) (fun r s' => match r with | .ok (.ret v) => EP X pins σ Q v s' | .ok _ => False | .error e => X.xe e s') s := by
  refine codeAny_mono (F X.A X.stack s H us vs Q (E σ) hr I.env0 r h) fun r s' hq => ?_
  cases r with
  | error e => exact hx pins H s e s' I hq
  | ok fl =>
    cases fl with
    | ret u => exact I.after hq
    | next => exact False.elim hq
    | brk => exact False.elim hq
    | cont => exact False.elim hq
def tCMethS (C : Addr) (sp : Sp) (E : L2.St → XK) (ta : TE) (t : TA) : TE := fun σ H Q => ta σ H fun x H1 => x = .ref C ∧ t σ H1 fun vs H2 => sp (.ref C :: vs) H2 Q (E σ)
theorem pe_cmethS (he : PE X o ta) (r : ClX.CRead X.K C mc) (c : ClX.CMet X.K C mc m p g) (F : FnR X.prog X.w X.K X.mg X.base CX k g sp) (hr : Room k X.A) (hx : ∀ σ, PassesAt CX X σ (E σ)) (ha : PA X (e :: es) t)
    (hst : starEach (e :: es) X.env = (false, eval e X.env) :: starEach es X.env := by rfl) (hpl : (backTo pos (starEach es X.env)).any (·.1) = false := by rfl)
    (ht : eval (.Call (.Attribute o m apos) (e :: es) [] pos) X.env = (do
      let ov ← eval o X.env
      standAt apos.atName
      let (f, first) ← holding [ov] (getMethod ov m pl)
      callWith pos f first (backTo pos (starEach (e :: es) X.env)) (backToKw pos (keywordEach [] X.env))) := by rfl) :
    PE X (.Call (.Attribute o m apos) (e :: es) [] pos) (tCMethS C sp E ta t) := by
  refine ⟨fun pins s σ H Q I h => ?_⟩
  refine PySem.W.methodCall_KW (pl := pl) (thn (he.run pins s σ H _ I h) fun u s1 ⟨x, H1, I1, rx, ex, q⟩ => ?_) ht
  subst ex
  obtain rfl : u = Value.ref C := rx
  refine ClX.getmethcm_ok I1 r c fun s2 I2 => ?_
  refine ClX.callwith_cm I2 (ClX.base_none I1 (Nat.le_refl _)) c.fi (thn (ha.run pos _ s2 σ H1 _ I2 q) fun us s3 ⟨vs, H2, I3, rv, q2⟩ => ⟨⟨ClX.pin_at I3, I3.kIn⟩, ?_⟩) hst hpl
  have z : wpAny (model X.prog X.w) X.A (call (.ref s1.heap.objs.size) us) (EP X ((s1.heap.objs.size, PySem.W.methodObj (.ref g) (.ref C)) :: pins) σ Q) X.xe s3 :=
    wpAny_call (PySem.W.method_call (ClX.pin_at I3) (run_fnRS (us := .ref C :: us) (vs := .ref C :: vs) F hr (hx σ) I3 (.cons rfl rv) q2))
  exact thn z fun _ _ y => ClX.unpinE y
end
def spReadX (K : PySem.W.Frag) (C CP D : Addr) : Sp := fun vs H Q E => spReadA K C CP vs H Q E ∨ spXRead K CP D vs H Q E
def spTold (K : PySem.W.Frag) (C CP : Addr) : Sp := fun vs H Q _ => ∃ x, vs = [x] ∧ ((IsT K H x "str" false ∧ ∀ H', Same H H' → Q (.int 0) H') ∨ ∃ t, x = .str t ∧ t.length ≤ 1000000 ∧ Few (Txt.split t "\n") ∧ (t.length = 0 → ∀ p H', Same H H' → PP K C CP H' p [] → Q (.ref p) H') ∧
  (t.length ≠ 0 → (∀ e, piecesR (Txt.split t "\n") (Txt.split t "\n").length 0 = .error e → ∀ H', Same H H' → Q (.int e) H') ∧ ∀ ds, piecesR (Txt.split t "\n") (Txt.split t "\n").length 0 = .ok ds → (∀ d ∈ ds, d.parts.length ≤ 30) ∧ ∀ p H', Same H H' → PP K C CP H' p ds → Q (.ref p) H'))
abbrev sTold : Stmt := top 49
abbrev sBent : Stmt := top 50
def BentN : List Str := ["_law_box_here", "_law_lines_here", "_law_form", "_law_at", "_law_odd", "_law_line", "_law_spot", "_law_sign"]
abbrev BentP : List Str := ["_law_box_here", "_law_lines_here"]
theorem cut_lo {xs : List V} {n : Nat} : cutV xs none (some (n : Int)) = xs.take n := by
  unfold cutV
  rw [HT.sIx_none, HT.sIx_nat, List.drop_zero, Nat.sub_zero]
  rcases Nat.le_total n xs.length with h | h
  · rw [Nat.min_eq_left h]
  · rw [Nat.min_eq_right h, List.take_length, List.take_of_length_le h]
theorem cut_hi {xs : List V} {n : Nat} : cutV xs (some (n : Int)) none = xs.drop n := by
  unfold cutV
  rw [HT.sIx_none, HT.sIx_nat]
  rcases Nat.le_total n xs.length with h | h
  · rw [Nat.min_eq_left h, List.take_of_length_le]
    rw [List.length_drop]
    exact Nat.le_refl _
  · rw [Nat.min_eq_right h, List.drop_length, List.drop_of_length_le h, List.take_nil]
/-- rows without a line feed, not too many, not too long -/
def Rs (n : Nat) (rows : List Str) : Prop := rows.length ≤ 400 + n ∧ ∀ r ∈ rows, r.length ≤ 400 + n ∧ 10 ∉ TxL.L r
theorem Rs.part {n a b : Nat} {rows mid : List Str} (h : Rs n rows) (ha : a ≤ rows.length) (hb : a ≤ b) (hm : mid.length ≤ 1) (hr : ∀ r ∈ mid, r.length ≤ 400 + (n + 1) ∧ 10 ∉ TxL.L r) : Rs (n + 1) (rows.take a ++ mid ++ rows.drop b) := by
  refine ⟨?_, fun r hm2 => ?_⟩
  · rw [List.length_append, List.length_append, List.length_take, List.length_drop]
    have := h.1
    omega
  · rcases List.mem_append.mp hm2 with q | q
    · rcases List.mem_append.mp q with q | q
      · have := h.2 r (List.mem_of_mem_take q)
        exact ⟨by omega, this.2⟩
      · exact hr r q
    · have := h.2 r (List.mem_of_mem_drop q)
      exact ⟨by omega, this.2⟩
def odds : List Str := ["", "# a", "a(b)", "a(", "  b,", "  b", ")", "# ", "a()", "a(b,c)", "a(b, )", "a(b) # x", "a(b)  #x", "!a(b)", "!!a(b)", "a(b", ")  # x", "#a", " a(b)", "  b,,", "a(b),", "abcdefg(b)", "a (b)", "# abcdefg"]
def signs8 : List Str := ["", " ", ",", "(", ")", "#", "a", "!"]
theorem odds_ok : ∀ r ∈ odds, r.length ≤ 20 ∧ 10 ∉ TxL.L r := by decide +kernel
theorem signs_ok : ∀ r ∈ signs8, r.length ≤ 1 ∧ 10 ∉ TxL.L r := by decide +kernel
def spBent (K : PySem.W.Frag) : Sp := fun vs H Q _ => ∃ (b l : Addr) (rows : List Str) (n : Nat), vs = [.ref b, .ref l] ∧ BoxAt H b ∧ H l = some (.lst (rows.map V.str)) ∧ l ≠ b ∧ n ≤ 100 ∧ Rs n rows ∧ rows ≠ [] ∧ ∀ (l2 : Addr) (rows2 : List Str) (H' : Hp), Kept b H H' → BoxAt H' b → H l2 = none → Rs (n + 1) rows2 → H' l2 = some (.lst (rows2.map V.str)) → Q (.ref l2) H'
section
variable {P : Program} {w : World} {K : PySem.W.Frag} {mg : Str → Option Value} {base : Heap}
theorem scTold : FnScope ["_law_text_here", "_law_found", "e"] IsNP (defScope sTold) := ⟨rfl, rfl, rfl, by decide +kernel, rfl, by decide +kernel, by decide +kernel⟩
theorem ok_told {f fI C CP D pR gR : Addr} {fd : FuncData} {mc : Value} (F : Fun K "_law_told" "_law_told" sTold f fd) (Y : XC K mg D fI "InvalidText" "at") (ex : PySem.W.exmOne K (.ref D) (.ref D) = some true) (gP : mg "Program" = some (.ref CP)) (cr : ClX.CRead K CP mc) (cm : ClX.CMet K CP mc "read" pR gR)
    (R : FnR P w K mg base (L2.CX P w) 8 gR (spReadX K C CP D)) : FnOk P w K mg base CX0 10 f fd IsNP (spTold K C CP) := by
  refine F.ok scTold (fun vs H Q E h => ?_) (fun cdv A outer s H vs Q E hr h => ?_)
  · obtain ⟨x, rfl, _⟩ := h
    rfl
  · obtain ⟨x, rfl, h⟩ := h
    refine ⟨_, (pss_cons (ps_set (i := 1) scTold.nd rfl (.inl rfl) pe_non)
      (pss_cons (ps_try_as (i := 2) rfl rfl scTold.nd rfl (by rfl) ⟨by rfl, by decide, .inl Y.gC⟩ takes0
        (fun W pn xe tk hp => pss_one (ps_set (i := 1) scTold.nd rfl (.inl rfl) (pe_cmethS (E := WE W) (pe_glob (v := .ref CP) (by rfl) gP rfl) cr cm R (hr.mono (by decide)) (fun σ => passAt tk σ) (pa_cons (pv 0) pa_nil))))
        (fun a oe cls d pn hz hf => pss_one (ps_set (i := 1) scTold.nd rfl (.inl rfl) (pe_xf Y.xf Y.no hz hf (pv 2)))))
      (pss_one (ps_ret (pv 1))))), ?_⟩
    have k8 := rfl (a := 0)
    clear k8
    rcases h with ⟨h, k⟩ | ⟨t, rfl, tl, few, k0, k1⟩
    · refine ⟨rfl, _, rfl, .inr ⟨x, rfl, .inl ⟨h, fun G d s2 n e => ⟨true, ex, fun _ a ha => ?_, fun z => nomatch z⟩⟩⟩⟩
      exact ⟨_, rfl, rfl, rfl, d, _, _, rfl, e, rfl, _, rfl, k G s2⟩
    by_cases e0 : t.length = 0
    · refine ⟨rfl, _, rfl, .inl (.inr ⟨by rw [empty_of e0]; rfl, fun p u xs G s hp => ⟨_, rfl, k0 e0 p G s ⟨u, xs, hp⟩⟩⟩)⟩
    obtain ⟨kE, kO⟩ := k1 e0
    cases hp : piecesR (Txt.split t "\n") (Txt.split t "\n").length 0 with
    | error e =>
      refine ⟨rfl, _, rfl, .inr ⟨_, rfl, .inr ⟨t, e, rfl, tl, e0, few, hp, fun G d s2 n ed => ⟨true, ex, fun _ a ha => ?_, fun z => nomatch z⟩⟩⟩⟩
      exact ⟨_, rfl, rfl, rfl, d, _, _, rfl, ed, rfl, _, rfl, kE e hp G s2⟩
    | ok ds =>
      obtain ⟨k30, kP⟩ := kO ds hp
      obtain ⟨od, _, ln⟩ := pieces_inv few _ _ _ (Nat.zero_le _) hp
      have f1 := few.1
      exact ⟨rfl, _, rfl, .inl (.inl ⟨t, _, ds, rfl, tl, e0, fun r hr => by have := few.2 r hr; omega, hp, f1, by omega, fun d hd => ⟨od d hd, k30 d hd⟩, fun p u xs G s hp => ⟨_, rfl, kP p G s ⟨u, xs, hp⟩⟩⟩)⟩
theorem scBent : FnScope BentN BentP (defScope sBent) := ⟨rfl, rfl, rfl, by decide +kernel, rfl, by decide +kernel, by decide +kernel⟩
theorem has_Bent (B : Bt mg) (DT : Has P w K mg base CX0 1 "_law_take" ["_law_box_here", "_law_many"] spTake) (DP : Has P w K mg base CX0 2 "_law_pick" ["_law_box_here", "_law_items"] (spPick K)) (D : Dfn K mg "_law_bent" sBent BentP) : Has P w K mg base CX0 3 "_law_bent" BentP (spBent K) := by
  refine D.has scBent (fun vs H Q E h => ?_) (fun f cdv A outer s H vs Q E hr h => ?_)
  · obtain ⟨b, l, rows, n, rfl, _⟩ := h
    rfl
  · obtain ⟨b, l, rows, n, rfl, hb, hl, lb, n100, hR, hne, k⟩ := h
    refine ⟨_, (C8.pss_cut (ps_par (i := 2) (j := 3) (by rfl) scBent.nd rfl rfl (by decide) rfl rfl (pa_cons (pe_callH DT (hr.mono (by decide)) (by rfl) pass0 (pa_cons (pv 0) (pa_cons pe_int pa_nil))) (pa_cons (pe_callH DT (hr.mono (by decide)) (by rfl) pass0 (pa_cons (pv 0) (pa_cons (pe_callB (call_lenK (K := K) rfl) (by rfl) B.len PySem.boot_len (pa_cons (pv 1) pa_nil)) pa_nil))) pa_nil)) (by rfl))
    (C8.pss_cut (ps_set (i := 4) scBent.nd rfl (.inl rfl) (pe_lst (pa_cons pe_str (pa_cons pe_str (pa_cons pe_str (pa_cons pe_str (pa_cons pe_str (pa_cons pe_str (pa_cons pe_str (pa_cons pe_str (pa_cons pe_str (pa_cons pe_str (pa_cons pe_str (pa_cons pe_str pa_nil))))))))))))))
    (C8.pss_cut (ps_set (i := 4) scBent.nd rfl (.inl rfl) (pe_op op_cat (pv 4) (pe_lst (pa_cons pe_str (pa_cons pe_str pa_nil)))))
    (C8.pss_cut (ps_set (i := 4) scBent.nd rfl (.inl rfl) (pe_op op_cat (pv 4) (pe_lst (pa_cons pe_str (pa_cons pe_str (pa_cons pe_str (pa_cons pe_str (pa_cons pe_str (pa_cons pe_str (pa_cons pe_str (pa_cons pe_str (pa_cons pe_str (pa_cons pe_str pa_nil)))))))))))))
    (C8.pss_cut (ps_if (pt_cmpR op_eq (pv 2) pe_int (nomark _)) (pss_one (ps_ret (pe_op op_cat (pe_slice sl_list (pv 1) po_none (po_some (pv 3))) (pe_slice sl_list (pv 1) (po_some (pe_op op_add (pv 3) pe_int)) po_none)))) pss_nil)
    (C8.pss_cut (ps_if (pt_cmpR op_lt (pv 2) pe_int (nomark _)) (pss_one (ps_ret (pe_op op_cat (pe_op op_cat (pe_slice sl_list (pv 1) po_none (po_some (pv 3))) (pe_lst (pa_cons (pe_callH DP (hr.mono (by decide)) (by rfl) pass0 (pa_cons (pv 0) (pa_cons (pv 4) pa_nil))) pa_nil))) (pe_slice sl_list (pv 1) (po_some (pe_op op_sub (pe_op op_add (pv 3) (pv 2)) pe_int)) po_none)))) pss_nil)
    (C8.pss_cut (ps_set (i := 5) scBent.nd rfl (.inl rfl) (pe_ix ix_list (pv 1) (pv 3) (fun _ _ => rfl)))
    (C8.pss_cut (ps_set (i := 6) scBent.nd rfl (.inl rfl) (pe_callH DT (hr.mono (by decide)) (by rfl) pass0 (pa_cons (pv 0) (pa_cons (pe_op op_add (pe_callB call_len_str (by rfl) B.len PySem.boot_len (pa_cons (pv 5) pa_nil)) pe_int) pa_nil))))
    (C8.pss_cut (ps_set (i := 7) scBent.nd rfl (.inl rfl) (pe_callH DP (hr.mono (by decide)) (by rfl) pass0 (pa_cons (pv 0) (pa_cons (pe_lst (pa_cons pe_str (pa_cons pe_str (pa_cons pe_str (pa_cons pe_str (pa_cons pe_str (pa_cons pe_str (pa_cons pe_str (pa_cons pe_str pa_nil))))))))) pa_nil))))
    (C8.pss_cut (ps_set (i := 5) scBent.nd rfl (.inl rfl) (pe_op op_add_str (pe_op op_add_str (pe_slice C8.sl_txt (pv 5) po_none (po_some (pv 6))) (pv 7)) (pe_slice C8.sl_txt (pv 5) (po_some (pe_op op_sub (pe_op op_add (pv 6) pe_int) (pv 2))) po_none)))
    (pss_one (ps_ret (pe_op op_cat (pe_op op_cat (pe_slice sl_list (pv 1) po_none (po_some (pv 3))) (pe_lst (pa_cons (pv 5) pa_nil))) (pe_slice sl_list (pv 1) (po_some (pe_op op_add (pv 3) pe_int)) po_none)))))))))))))), ?_⟩
    have r0 := List.length_pos_iff.mpr hne
    have r1 := hR.1
    refine ⟨fun σ G => ∃ fm at1 : Nat, fm < 5 ∧ at1 < rows.length ∧ σ = [some (.ref b), some (.ref l), some (.int (fm : Int)), some (.int (at1 : Int)), none, none, none, none] ∧ Kept b H G ∧ BoxAt G b, ?_, ?_⟩
    · refine ⟨_, rfl, b, 5, rfl, hb, by decide, by decide, fun x o x0 x1 ob => ?_⟩
      have kb : Kept b H (upd H b o) := Kept.box
      refine ⟨_, rfl, _, rfl, l, _, rfl, .inl (SqL.of (kb _ _ lb hl)), b, _, rfl, BoxAt.box ob, by rw [List.length_map]; omega, by rw [List.length_map]; omega, fun y o2 y0 y1 ob2 => ⟨_, _, rfl, x.toNat, y.toNat, by omega, by rw [List.length_map] at y1; omega, ?_, kb.trans Kept.box, BoxAt.box ob2⟩⟩
      rw [Int.toNat_of_nonneg x0, Int.toNat_of_nonneg y0]
      rfl
    rintro σ G1 ⟨fm, at1, fm5, at1l, rfl, kb1, bb1⟩
    refine ⟨fun σ G => ∃ o, σ = [some (.ref b), some (.ref l), some (.int (fm : Int)), some (.int (at1 : Int)), some (.ref o), none, none, none] ∧ Kept b H G ∧ BoxAt G b ∧ G o = some (.lst ((odds.take 12).map V.str)), ?_, ?_⟩
    · exact ⟨(by show 12 ≤ sizeLine; decide), fun o no => ⟨o, rfl, kb1.trans (Kept.new no), bb1.new no, by rw [upd_same]; rfl⟩⟩
    rintro σ G2 ⟨o1, rfl, kb2, bb2, ho1⟩
    clear kb1 bb1 G1
    refine ⟨fun σ G => ∃ o, σ = [some (.ref b), some (.ref l), some (.int (fm : Int)), some (.int (at1 : Int)), some (.ref o), none, none, none] ∧ Kept b H G ∧ BoxAt G b ∧ G o = some (.lst ((odds.take 14).map V.str)), ?_, ?_⟩
    · refine ⟨_, rfl, (by show 2 ≤ sizeLine; decide), fun o2 no2 => ⟨o1, o2, _, _, rfl, rfl, Same.new no2 _ _ ho1, upd_same, (by show 12 + 2 ≤ sizeLine; decide), fun o no => ⟨o, rfl, (kb2.trans (Kept.new no2)).trans (Kept.new no), (bb2.new no2).new no, by rw [upd_same]; rfl⟩⟩⟩
    clear ho1 kb2 bb2 G2 o1
    rintro σ G2 ⟨o1, rfl, kb2, bb2, ho1⟩
    refine ⟨fun σ G => ∃ o, σ = [some (.ref b), some (.ref l), some (.int (fm : Int)), some (.int (at1 : Int)), some (.ref o), none, none, none] ∧ Kept b H G ∧ BoxAt G b ∧ o ≠ b ∧ G o = some (.lst (odds.map V.str)), ?_, ?_⟩
    · refine ⟨_, rfl, (by show 10 ≤ sizeLine; decide), fun o2 no2 => ⟨o1, o2, _, _, rfl, rfl, Same.new no2 _ _ ho1, upd_same, (by show 14 + 10 ≤ sizeLine; decide), fun o no => ⟨o, rfl, (kb2.trans (Kept.new no2)).trans (Kept.new no), (bb2.new no2).new no, (bb2.new no2).ne no, by rw [upd_same]; rfl⟩⟩⟩
    clear ho1 kb2 bb2 G2 o1
    rintro σ G3 ⟨o, rfl, kb3, bb3, ob, ho⟩
    have hl3 := kb3 _ _ lb hl
    have nH : ∀ {x : Addr}, G3 x = none → H x = none := fun {x} hx => by
      cases e : H x with
      | none => rfl
      | some u =>
        have xb : x ≠ b := bb3.ne hx
        rw [kb3 _ _ xb e] at hx
        cases hx
    have lm : (rows.map V.str).length = rows.length := List.length_map ..
    refine ⟨fun σ G => σ = [some (.ref b), some (.ref l), some (.int (fm : Int)), some (.int (at1 : Int)), some (.ref o), none, none, none] ∧ G = G3 ∧ fm ≠ 0, ?_, ?_⟩
    · refine ⟨_, rfl, rfl, _, rfl, ?_⟩
      rw [dec_int]
      by_cases q : fm = 0
      case neg => exact iteN (decide_eq_false (by omega)) ⟨rfl, rfl, q⟩
      refine iteY (decide_eq_true (by omega)) ?_
      refine ⟨_, rfl, _, rfl, _, rfl, l, _, rfl, SqL.of hl3, fun p1 np1 => ?_⟩
      have s1 := Same.new np1 (o := .lst (cutV (rows.map V.str) none (some (at1 : Int))))
      refine ⟨_, rfl, _, rfl, _, _, rfl, rfl, _, rfl, l, _, rfl, SqL.of (s1 _ _ hl3), fun p2 np2 => ?_⟩
      rw [show (at1 : Int) + 1 = ((at1 + 1 : Nat) : Int) by omega]
      have s2 := Same.new np2 (o := .lst (cutV (rows.map V.str) (some ((at1 + 1 : Nat) : Int)) none))
      refine ⟨p1, p2, _, _, rfl, rfl, s2 _ _ upd_same, upd_same, by rw [cut_lo, cut_hi, List.length_take, List.length_drop, lm]; exact fitsN (by omega), fun p np => ?_⟩
      have s3 := Same.new np (o := .lst (cutV (rows.map V.str) none (some (at1 : Int)) ++ cutV (rows.map V.str) (some ((at1 + 1 : Nat) : Int)) none))
      have sx := (s1.trans s2).trans s3
      refine k p (rows.take at1 ++ [] ++ rows.drop (at1 + 1)) _ (kb3.trans (Kept.of_same sx)) (by obtain ⟨u, e, y⟩ := bb3; exact ⟨u, sx _ _ e, y⟩) (nH ((s1.trans s2).free np)) (hR.part (by omega) (by omega) (by simp) (fun r h => (List.not_mem_nil h).elim)) ?_
      rw [upd_same, cut_lo, cut_hi, List.append_nil, List.map_append, List.map_take, List.map_drop]
    rintro σ G ⟨rfl, rfl, f0⟩
    refine ⟨fun σ G' => σ = [some (.ref b), some (.ref l), some (.int (fm : Int)), some (.int (at1 : Int)), some (.ref o), none, none, none] ∧ G' = G ∧ 3 ≤ fm, ?_, ?_⟩
    · refine ⟨_, rfl, _, _, rfl, rfl, _, rfl, ?_⟩
      by_cases q : fm < 3
      case neg => exact iteN (decide_eq_false (by omega)) ⟨rfl, rfl, by omega⟩
      refine iteY (decide_eq_true (by omega)) ?_
      refine ⟨_, rfl, _, rfl, _, rfl, l, _, rfl, SqL.of hl3, fun p1 np1 => ?_⟩
      have s1 := Same.new np1 (o := .lst (cutV (rows.map V.str) none (some (at1 : Int))))
      have bb4 : BoxAt (upd G p1 (.lst (cutV (rows.map V.str) none (some (at1 : Int))))) b := bb3.new np1
      have p1b : p1 ≠ b := bb3.ne np1
      have hp1 : upd G p1 (.lst (cutV (rows.map V.str) none (some (at1 : Int)))) p1 = some (.lst (cutV (rows.map V.str) none (some (at1 : Int)))) := upd_same
      refine ⟨_, rfl, _, rfl, b, o, odds.map V.str, rfl, bb4, ob, SqL.of (s1 _ _ ho), (by show 0 < 24; decide), (by show 24 ≤ 1000; decide), fun v ob2 hv hb2 => ?_⟩
      obtain ⟨z, hz, rfl⟩ := List.mem_map.mp hv
      have kb5 : Kept b G (upd (upd G p1 (.lst (cutV (rows.map V.str) none (some (at1 : Int))))) b ob2) := (Kept.of_same s1).trans Kept.box
      have hp1' : upd (upd G p1 (.lst (cutV (rows.map V.str) none (some (at1 : Int))))) b ob2 p1 = some (.lst (cutV (rows.map V.str) none (some (at1 : Int)))) := by rw [upd_ne p1b]; exact hp1
      have bb5 : BoxAt (upd (upd G p1 (.lst (cutV (rows.map V.str) none (some (at1 : Int))))) b ob2) b := BoxAt.box hb2
      have nG5 : ∀ {x : Addr}, upd (upd G p1 (.lst (cutV (rows.map V.str) none (some (at1 : Int))))) b ob2 x = none → H x = none := fun {x} hx => by
        cases e : H x with
        | none => rfl
        | some u =>
          have xb : x ≠ b := bb5.ne hx
          rw [kb5 _ _ xb (kb3 _ _ xb e)] at hx
          cases hx
      generalize upd (upd G p1 (.lst (cutV (rows.map V.str) none (some (at1 : Int))))) b ob2 = G5 at *
      have hl5 := kb5 _ _ lb hl3
      refine ⟨(by show 1 ≤ sizeLine; decide), fun p2 np2 => ?_⟩
      have s2 := Same.new np2 (o := .lst [.str z])
      refine ⟨p1, p2, _, _, rfl, rfl, s2 _ _ hp1', upd_same, by rw [cut_lo, List.length_take, lm]; exact fitsN (by simp only [List.length_cons, List.length_nil]; omega), fun p3 np3 => ?_⟩
      have s3 := Same.new np3 (o := .lst (cutV (rows.map V.str) none (some (at1 : Int)) ++ [.str z]))
      refine ⟨_, rfl, _, rfl, _, rfl, _, _, rfl, rfl, _, _, rfl, rfl, _, rfl, l, _, rfl, SqL.of (s3 _ _ (s2 _ _ hl5)), fun p4 np4 => ?_⟩
      rw [show (at1 : Int) + (fm : Int) - 1 = ((at1 + (fm - 1) : Nat) : Int) by omega]
      have s4 := Same.new np4 (o := .lst (cutV (rows.map V.str) (some ((at1 + (fm - 1) : Nat) : Int)) none))
      refine ⟨p3, p4, _, _, rfl, rfl, s4 _ _ upd_same, upd_same, by rw [cut_lo, cut_hi, List.length_append, List.length_take, List.length_drop, lm]; exact fitsN (by simp only [List.length_cons, List.length_nil]; omega), fun p np => ?_⟩
      have s5 := Same.new np (o := .lst ((cutV (rows.map V.str) none (some (at1 : Int)) ++ [.str z]) ++ cutV (rows.map V.str) (some ((at1 + (fm - 1) : Nat) : Int)) none))
      have s24 := (s2.trans s3).trans s4
      have sx := s24.trans s5
      refine k p (rows.take at1 ++ [z] ++ rows.drop (at1 + (fm - 1))) _ ((kb3.trans kb5).trans (Kept.of_same sx)) (by obtain ⟨u, e, y⟩ := bb5; exact ⟨u, sx _ _ e, y⟩) (nG5 (s24.free np)) (hR.part (by omega) (by omega) (by simp) (fun r h => by rw [List.mem_singleton] at h; subst h; have := odds_ok r hz; exact ⟨by omega, this.2⟩)) ?_
      rw [upd_same, cut_lo, cut_hi, List.map_append, List.map_append, List.map_take, List.map_drop]
      rfl
    rintro σ G ⟨rfl, rfl, f3⟩
    obtain ⟨z, hz⟩ : ∃ z, rows[at1]? = some z := ⟨_, List.getElem?_eq_getElem at1l⟩
    have zR := hR.2 z (List.mem_of_getElem? hz)
    refine ⟨fun σ G' => σ = [some (.ref b), some (.ref l), some (.int (fm : Int)), some (.int (at1 : Int)), some (.ref o), some (.str z), none, none] ∧ G' = G, ?_, ?_⟩
    · exact ⟨_, rfl, _, rfl, l, _, _, _, rfl, rfl, SqL.of hl3, atI_nat (by rw [List.getElem?_map, hz]; rfl), rfl, rfl⟩
    rintro σ G ⟨rfl, rfl⟩
    refine ⟨fun σ G' => ∃ sp : Nat, σ = [some (.ref b), some (.ref l), some (.int (fm : Int)), some (.int (at1 : Int)), some (.ref o), some (.str z), some (.int (sp : Int)), none] ∧ Kept b H G' ∧ BoxAt G' b, ?_, ?_⟩
    · refine ⟨_, rfl, _, rfl, z, rfl, fitsN (by omega), _, _, rfl, rfl, b, _, rfl, bb3, by omega, by omega, fun x ox x0 x1 hx => ⟨x.toNat, ?_, kb3.trans Kept.box, BoxAt.box hx⟩⟩
      rw [Int.toNat_of_nonneg x0]
      rfl
    clear nH hl3 ho ob kb3 bb3
    rintro σ G4 ⟨sp, rfl, kb4, bb4⟩
    refine ⟨fun σ G' => ∃ sg : Str, sg ∈ signs8 ∧ σ = [some (.ref b), some (.ref l), some (.int (fm : Int)), some (.int (at1 : Int)), some (.ref o), some (.str z), some (.int (sp : Int)), some (.str sg)] ∧ Kept b H G' ∧ BoxAt G' b, ?_, ?_⟩
    · refine ⟨_, rfl, (by show 8 ≤ sizeLine; decide), fun p np => ⟨b, p, signs8.map V.str, rfl, bb4.new np, bb4.ne np, SqL.of (by rw [upd_same]; rfl), (by show 0 < 8; decide), (by show 8 ≤ 1000; decide), fun v ox hv hx => ?_⟩⟩
      obtain ⟨sg, hsg, rfl⟩ := List.mem_map.mp hv
      exact ⟨sg, hsg, rfl, (kb4.trans (Kept.new np)).trans Kept.box, BoxAt.box hx⟩
    clear kb4 bb4 G4
    rintro σ G5 ⟨sg, hsg, rfl, kb5, bb5⟩
    obtain ⟨sg1, sg2⟩ := signs_ok sg hsg
    have l1 := sl_len z none (some (sp : Int))
    have l2 := sl_len z (some ((sp + (4 - fm) : Nat) : Int)) none
    refine ⟨fun σ G' => ∃ z2 : Str, z2.length ≤ 400 + (n + 1) ∧ 10 ∉ TxL.L z2 ∧ σ = [some (.ref b), some (.ref l), some (.int (fm : Int)), some (.int (at1 : Int)), some (.ref o), some (.str z2), some (.int (sp : Int)), some (.str sg)] ∧ G' = G5, ?_, ?_⟩
    · have tl : (Txt.slice z none (some (sp : Int))).length + (Txt.slice z (some ((sp + (4 - fm) : Nat) : Int)) none).length ≤ z.length := by
        rw [← TxL.L_len, ← TxL.L_len, c_pre, c_suf, List.length_take, List.length_drop, TxL.L_len]
        omega
      refine ⟨_, rfl, _, rfl, _, rfl, z, rfl, fitsN (by omega), _, rfl, _, _, rfl, rfl, fitsN (by omega), _, rfl, _, rfl, _, _, rfl, rfl, _, rfl, _, _, rfl, rfl, _, rfl, z, rfl, fitsN (by omega), ?_⟩
      rw [show (sp : Int) + 4 - (fm : Int) = ((sp + (4 - fm) : Nat) : Int) by omega]
      refine ⟨_, _, rfl, rfl, fitsN (by rw [Str.length_append]; omega), _, by rw [Str.length_append, Str.length_append]; omega, ?_, rfl, rfl⟩
      rw [TxL.L_app, TxL.L_app, c_pre, c_suf, List.mem_append, List.mem_append, not_or, not_or]
      exact ⟨⟨fun h => zR.2 (List.mem_of_mem_take h), sg2⟩, fun h => zR.2 (List.mem_of_mem_drop h)⟩
    rintro σ G ⟨z2, z2l, z2n, rfl, rfl⟩
    have hl5 := kb5 _ _ lb hl
    have nH : ∀ {x : Addr}, G x = none → H x = none := fun {x} hx => by
      cases e : H x with
      | none => rfl
      | some u =>
        have xb : x ≠ b := bb5.ne hx
        rw [kb5 _ _ xb e] at hx
        cases hx
    refine ⟨_, rfl, _, rfl, _, rfl, l, _, rfl, SqL.of hl5, fun p1 np1 => ?_⟩
    have s1 := Same.new np1 (o := .lst (cutV (rows.map V.str) none (some (at1 : Int))))
    refine ⟨_, rfl, (by show 1 ≤ sizeLine; decide), fun p2 np2 => ?_⟩
    have s2 := Same.new np2 (o := .lst [.str z2])
    refine ⟨p1, p2, _, _, rfl, rfl, s2 _ _ upd_same, upd_same, by rw [cut_lo, List.length_take, lm]; exact fitsN (by simp only [List.length_cons, List.length_nil]; omega), fun p3 np3 => ?_⟩
    have s3 := Same.new np3 (o := .lst (cutV (rows.map V.str) none (some (at1 : Int)) ++ [.str z2]))
    refine ⟨_, rfl, _, rfl, _, _, rfl, rfl, _, rfl, l, _, rfl, SqL.of (((s1.trans s2).trans s3) _ _ hl5), fun p4 np4 => ?_⟩
    rw [show (at1 : Int) + 1 = ((at1 + 1 : Nat) : Int) by omega]
    have s4 := Same.new np4 (o := .lst (cutV (rows.map V.str) (some ((at1 + 1 : Nat) : Int)) none))
    refine ⟨p3, p4, _, _, rfl, rfl, s4 _ _ upd_same, upd_same, by rw [cut_lo, cut_hi, List.length_append, List.length_take, List.length_drop, lm]; exact fitsN (by simp only [List.length_cons, List.length_nil]; omega), fun p np => ?_⟩
    have s5 := Same.new np (o := .lst ((cutV (rows.map V.str) none (some (at1 : Int)) ++ [.str z2]) ++ cutV (rows.map V.str) (some ((at1 + 1 : Nat) : Int)) none))
    have s14 := ((s1.trans s2).trans s3).trans s4
    have sx := s14.trans s5
    refine k p (rows.take at1 ++ [z2] ++ rows.drop (at1 + 1)) _ (kb5.trans (Kept.of_same sx)) (by obtain ⟨u, e, y⟩ := bb5; exact ⟨u, sx _ _ e, y⟩) (nH (s14.free np)) (hR.part (by omega) (by omega) (by simp) (fun r h => by rw [List.mem_singleton] at h; subst h; exact ⟨z2l, z2n⟩)) ?_
    rw [upd_same, cut_lo, cut_hi, List.map_append, List.map_append, List.map_take, List.map_drop]
    rfl
end
end Lay
set_option Elab.async false
set_option linter.all false
set_option maxRecDepth 100000
set_option maxHeartbeats 4000000
set_option pp.maxSteps 900
namespace Lay
open PySem PySem.Spec PyProof.Rows L2 KwX LiI
/-! the law's texts: how many rows, how long; a refused row is one of them, or the one behind -/
theorem endR_le {rows zs : List Str} {i e : Nat} {m : Bool} (h : endR rows i zs m = .error e) (l : i ≤ rows.length) : e ≤ rows.length := by
  unfold endR at h
  cases hr : rowR rows i with
  | error e2 =>
    rw [hr] at h
    cases h
    have := row_err hr l
    omega
  | ok r =>
    rw [hr] at h
    simp only at h
    cases hm : remarkR r i with
    | error e2 =>
      rw [hm] at h
      cases h
      have := (remark_err hm).1
      omega
    | ok q =>
      obtain ⟨body, b⟩ := q
      rw [hm] at h
      simp only at h
      split at h
      · cases h
      · cases h
        exact l
theorem go_le {rows : List Str} : ∀ (n i : Nat) (zs : List Str) (m : Bool) (e : Nat), goR rows n i zs m = .error e → i ≤ rows.length → e ≤ rows.length
  | n, i, zs, false, e, h, l => by
    rw [go_false] at h
    exact endR_le h l
  | n, i, zs, true, e, h, l => by
    cases hr : rowR rows i with
    | error e2 =>
      rw [go_no hr] at h
      cases h
      have := row_err hr l
      omega
    | ok r =>
      cases s : Txt.startswith r "  " with
      | false =>
        rw [go_end hr s] at h
        exact endR_le h l
      | true =>
        cases n with
        | zero =>
          unfold goR at h
          rw [hr] at h
          simp only at h
          rw [if_pos ⟨trivial, s⟩] at h
          cases h
          exact l
        | succ n =>
          cases hi : itemR rows i with
          | error e2 =>
            unfold goR at h
            rw [hr] at h
            simp only at h
            rw [if_pos ⟨trivial, s⟩, hi] at h
            cases h
            have := (item_err hi l).1
            omega
          | ok pc =>
            obtain ⟨p, c⟩ := pc
            rw [go_step hr s hi] at h
            exact go_le n (i + 1) _ _ e h (by have := row_lt hr; omega)
theorem broken_le {rows : List Str} {i e : Nat} (h : brokenR rows i = .error e) (l : i ≤ rows.length) (r0 : rows.length ≠ 0) : e ≤ rows.length := by
  rw [broken_go r0] at h
  cases hi : itemR rows i with
  | error e2 =>
    rw [hi] at h
    cases h
    have := (item_err hi l).1
    omega
  | ok pc =>
    obtain ⟨p, c⟩ := pc
    rw [hi] at h
    obtain ⟨r, hr, _⟩ := item_facts hi
    exact go_le _ _ _ _ e h (by have := row_lt hr; omega)
theorem piece_le {rows : List Str} {i e : Nat} (h : pieceR rows i = .error e) (l : i < rows.length) : e ≤ rows.length := by
  rcases piece_err h with hb | ⟨b, hb, h2⟩
  · obtain ⟨c, _, h1, h3, _⟩ := blanks_err hb (Nat.le_of_lt l)
    omega
  obtain ⟨_, _, ib, _⟩ := blanks_inv hb
  rcases h2 with ha | ⟨a, j, ha, ej, h2⟩
  · have := (ahead_err ha ib).1
    omega
  have jl : j ≤ rows.length := by
    obtain ⟨_, r, hr0, _⟩ := ahead_inv ha
    have := row_lt hr0
    rw [ej]
    split <;> omega
  rcases h2 with hh | ⟨w, lf, rest, hh, ⟨_, hc⟩ | ⟨_, hc⟩⟩
  · have := (head_err hh jl).1
    omega
  · obtain ⟨_, r, hr0, _⟩ := head_inv hh
    have := row_lt hr0
    exact broken_le hc (by omega) (by omega)
  · have := (flat_err hc).1
    omega
theorem pieces_le {rows : List Str} (few : Few rows) : ∀ (n i e : Nat), rows.length - i ≤ n → piecesR rows n i = .error e → e ≤ rows.length
  | 0, i, e, hn, h => by
    unfold piecesR at h
    rw [if_neg (by omega)] at h
    cases h
  | n + 1, i, e, hn, h => by
    unfold piecesR at h
    by_cases lt : i < rows.length
    · rw [if_pos lt] at h
      cases hp : pieceR rows i with
      | error e2 =>
        rw [hp] at h
        cases h
        exact piece_le hp lt
      | ok dk =>
        obtain ⟨d, k⟩ := dk
        rw [hp] at h
        simp only at h
        obtain ⟨_, lk, _, _⟩ := piece_inv few hp
        cases hq : piecesR rows n k with
        | error e2 =>
          rw [hq] at h
          cases h
          exact pieces_le few n k e (by omega) hq
        | ok es =>
          rw [hq] at h
          cases h
    · rw [if_neg lt] at h
      cases h
theorem rows13 {d : PD} (o : d.Ok) (h : d.parts.length ≤ 8) : (rowsS d).length ≤ 13 := by
  have b3 := o.b3
  have b0 := o.b0
  unfold rowsS remarkS bodyS
  rw [List.length_append, List.length_append, List.length_replicate]
  have h1 : (if d.ahead.length = 0 then ([] : List Str) else [(Str.empty ++ Str.ofString "# ") ++ d.ahead]).length ≤ 1 := by
    split
    · exact Nat.zero_le _
    · exact Nat.le_refl _
  have h2 : (if d.broken = true then headS d :: ((d.parts.dropLast.map itemS) ++ [lastS d (d.parts.getLastD Str.empty), tailS d]) else [((headS d ++ Txt.join ", " d.parts) ++ commaS d) ++ tailS d]).length ≤ 10 := by
    split
    · rw [List.length_cons, List.length_append, List.length_map, List.length_dropLast]
      show d.parts.length - 1 + 2 + 1 ≤ 10
      omega
    · show 1 ≤ 10
      decide
  omega
theorem progRows13 : ∀ {ds : List PD}, (∀ d ∈ ds, d.Ok ∧ d.parts.length ≤ 8) → (progRows ds).length ≤ 13 * ds.length
  | [], _ => Nat.zero_le _
  | d :: ds, h => by
    have h1 := rows13 (h d List.mem_cons_self).1 (h d List.mem_cons_self).2
    have h2 := progRows13 (ds := ds) fun e he => h e (List.mem_cons_of_mem _ he)
    unfold progRows at h2 ⊢
    rw [List.map_cons, List.flatten_cons, List.length_append, List.length_cons]
    omega
theorem rows_no (ds : List PD) (h : ∀ d ∈ ds, d.Ok) : ∀ z ∈ progRows ds, 10 ∉ TxL.L z := fun z hz => by
  unfold progRows at hz
  obtain ⟨l, hl, hz⟩ := List.mem_flatten.mp hz
  obtain ⟨d, hd, rfl⟩ := List.mem_map.mp hl
  exact rows_no10 (h d hd) z hz
theorem rows_ne {ds : List PD} (ne : ds ≠ []) : progRows ds ≠ [] := by
  cases ds with
  | nil => exact absurd rfl ne
  | cons d es =>
    intro z
    have := congrArg List.length z
    unfold progRows at this
    rw [List.map_cons, List.flatten_cons, List.length_append] at this
    have p := rowsS_pos d
    simp only [List.length_nil] at this
    omega
theorem split10 {rows : List Str} (ne : rows ≠ []) (h : ∀ z ∈ rows, 10 ∉ TxL.L z) : Txt.split (Txt.join "\n" rows) "\n" = rows := TxL.split_join (c := 10) (by decide +kernel) (by decide +kernel) ne h
theorem split_e : Txt.split (Str.ofString "") "\n" = [Str.ofString ""] := by decide +kernel
theorem text_e : progText [] = Str.ofString "" := rfl
theorem lines_ok {ds : List PD} (h : ∀ d ∈ ds, d.Ok ∧ d.parts.length ≤ 8) (few : ds.length ≤ 28) : Rs 0 (Txt.split (progText ds) "\n") := by
  by_cases ne : ds = []
  · subst ne
    rw [text_e, split_e]
    refine ⟨by decide, fun r hr => ?_⟩
    rw [List.mem_singleton] at hr
    subst hr
    exact ⟨by decide, by decide +kernel⟩
  · have ok30 : ∀ d ∈ ds, d.Ok ∧ d.parts.length ≤ 30 := fun d hd => ⟨(h d hd).1, by have := (h d hd).2; omega⟩
    unfold progText
    rw [split10 (rows_ne ne) (rows_no ds fun d hd => (h d hd).1)]
    have h1 := progRows13 h
    refine ⟨by omega, fun r hr => ⟨?_, rows_no ds (fun d hd => (h d hd).1) r hr⟩⟩
    have := progRows_few ok30 r hr
    omega
theorem text_len {ds : List PD} (h : ∀ d ∈ ds, d.Ok ∧ d.parts.length ≤ 8) (few : ds.length ≤ 28) : (progText ds).length ≤ 1000000 := by
  by_cases ne : ds = []
  · subst ne
    decide
  · exact (prog_read ne (fun d hd => ⟨(h d hd).1, by have := (h d hd).2; omega⟩) (by omega)).1
theorem bent_text {n : Nat} {rows : List Str} (h : Rs n rows) (n4 : n ≤ 4) : (Txt.join "\n" rows).length ≤ 1000000 ∧ Few (Txt.split (Txt.join "\n" rows) "\n") := by
  have j1 : (Str.ofString "\n").length = 1 := by decide
  have hj := join_le "\n" rows
  have hs := sum_few (zs := rows) (n := 404) fun z hz => by have := (h.2 z hz).1; omega
  have hl := h.1
  rw [j1] at hj
  refine ⟨by omega, ?_⟩
  by_cases ne : rows = []
  · subst ne
    have e : Txt.split (Txt.join "\n" []) "\n" = [Str.ofString ""] := split_e
    rw [e]
    refine ⟨by decide, fun r hr => ?_⟩
    rw [List.mem_singleton] at hr
    subst hr
    decide
  · rw [split10 ne fun z hz => (h.2 z hz).2]
    exact ⟨by omega, fun r hr => by have := (h.2 r hr).1; omega⟩
theorem told_text {t : Str} {ds : List PD} (few : Few (Txt.split t "\n")) (h : piecesR (Txt.split t "\n") (Txt.split t "\n").length 0 = .ok ds) : progText ds = t := by
  obtain ⟨_, e, _⟩ := pieces_inv few _ _ _ (Nat.zero_le _) h
  rw [List.drop_zero] at e
  unfold progText
  rw [e, joinT]
  exact StrLaws.join_split t _
def isErr {α : Type} (r : Rd α) (n : Nat) : Bool := match r with
  | .error e => e == n
  | .ok _ => false
theorem err_of {α : Type} {r : Rd α} {n : Nat} (h : isErr r n = true) : r = .error n := by
  cases r with
  | error e =>
    have : e = n := by simpa [isErr] using h
    rw [this]
  | ok x => cases h
theorem two1 : piecesR (Txt.split (Str.ofString "\n") "\n") (Txt.split (Str.ofString "\n") "\n").length 0 = .error 2 := err_of (by decide +kernel)
theorem two2 : piecesR (Txt.split (Str.ofString "a(b)\n") "\n") (Txt.split (Str.ofString "a(b)\n") "\n").length 0 = .error 2 := err_of (by decide +kernel)
theorem few1 : Few (Txt.split (Str.ofString "\n") "\n") := by
  constructor <;> decide +kernel
theorem few2 : Few (Txt.split (Str.ofString "a(b)\n") "\n") := by
  constructor <;> decide +kernel
end Lay
set_option Elab.async false
set_option linter.all false
set_option maxRecDepth 100000
set_option maxHeartbeats 8000000
set_option pp.maxSteps 700
namespace Lay
open PySem PySem.Spec PyProof.Rows L2 KwX LiI SkE
theorem DictAt.kept {b : Addr} {G G' : Hp} {q lp : Addr} {d : PD} (x : BoxAt G b) (k : Kept b G G') (n : 0 < d.parts.length) (h : DictAt G q lp d) : DictAt G' q lp d := by
  obtain ⟨kvs, h1, h2, h3⟩ := h
  obtain ⟨o, e, g, s, m, ey⟩ := x
  subst ey
  refine ⟨kvs, k _ _ (ne_of h1 e (fun z => nomatch z)) h1, k _ _ (fun z => ?_) h2, h3⟩
  rw [z, e] at h2
  cases hd : d.parts with
  | nil => rw [hd] at n; exact absurd n (by decide)
  | cons y ys => rw [hd] at h2; cases h2
/-- dicts one by one, their lists apart from D -/
def DictsD (D : Addr) (H : Hp) (xs : List V) (ds : List PD) : Prop := xs.length = ds.length ∧ (∀ d ∈ ds, d.Ok ∧ d.parts.length ≤ 8) ∧ ∀ (i : Nat) (x : V) (d : PD), xs[i]? = some x → ds[i]? = some d → ∃ q lp, x = .ref q ∧ lp ≠ D ∧ DictAt H q lp d
theorem DictsD.at {D : Addr} {H : Hp} {xs : List V} {ds : List PD} (h : DictsD D H xs ds) : DictsAt H xs ds := ⟨h.1, h.2.1, fun i x d hx hd => by
  obtain ⟨q, lp, e, _, hq⟩ := h.2.2 i x d hx hd
  exact ⟨q, lp, e, hq⟩⟩
theorem DictsD.kept {b D : Addr} {G G' : Hp} {xs : List V} {ds : List PD} (x : BoxAt G b) (k : Kept b G G') (h : DictsD D G xs ds) : DictsD D G' xs ds := ⟨h.1, h.2.1, fun i y d hx hd => by
  obtain ⟨q, lp, e, n, hq⟩ := h.2.2 i y d hx hd
  exact ⟨q, lp, e, n, hq.kept x k (h.2.1 d (List.mem_of_getElem? hd)).1.some⟩⟩
theorem DictsD.push {D q lp : Addr} {G : Hp} {xs ys : List V} {ds : List PD} {d : PD} (hD : G D = some (.lst ys)) (h : DictsD D G xs ds) (o : d.Ok) (l : d.parts.length ≤ 8) (n : lp ≠ D) (hq : DictAt G q lp d) {ob : HO} : DictsD D (upd G D ob) (xs ++ [.ref q]) (ds ++ [d]) := by
  have one : ∀ {q lp : Addr} {d : PD}, lp ≠ D → DictAt G q lp d → DictAt (upd G D ob) q lp d := fun n h => by
    obtain ⟨kvs, h1, h2, h3⟩ := h
    exact ⟨kvs, by rw [upd_ne (ne_of h1 hD (fun z => nomatch z))]; exact h1, by rw [upd_ne n]; exact h2, h3⟩
  refine ⟨by rw [List.length_append, List.length_append, h.1]; rfl, fun e he => ?_, fun i x e hx he => ?_⟩
  · rcases List.mem_append.mp he with he | he
    · exact h.2.1 e he
    · rw [List.mem_singleton] at he
      subst he
      exact ⟨o, l⟩
  · rcases Nat.lt_or_ge i xs.length with li | li
    · rw [List.getElem?_append_left li] at hx
      rw [List.getElem?_append_left (by rw [← h.1]; exact li)] at he
      obtain ⟨q2, lp2, e2, n2, h2⟩ := h.2.2 i x e hx he
      exact ⟨q2, lp2, e2, n2, one n2 h2⟩
    · rw [List.getElem?_append_right li] at hx
      rw [List.getElem?_append_right (by rw [← h.1]; exact li), ← h.1] at he
      have z : i - xs.length = 0 := by
        have := (List.getElem?_eq_some_iff.mp hx).1
        rw [List.length_singleton] at this
        omega
      rw [z] at hx he
      cases hx
      cases he
      exact ⟨q, lp, rfl, n, one n hq⟩
/-- the box is there, and all but it as it was -/
structure Bx (b : Addr) (G G' : Hp) : Prop where
  k : Kept b G G'
  b : BoxAt G' b
theorem Bx.same {b : Addr} {G G1 G2 : Hp} (h : Bx b G G1) (s : Same G1 G2) : Bx b G G2 := ⟨h.k.trans (Kept.of_same s), by
  obtain ⟨o, e, y⟩ := h.b
  exact ⟨o, s _ _ e, y⟩⟩
theorem Bx.kept {b : Addr} {G G1 G2 : Hp} (h : Bx b G G1) (k : Kept b G1 G2) (x : BoxAt G2 b) : Bx b G G2 := ⟨h.k.trans k, x⟩
theorem Bx.trans {b : Addr} {G G1 G2 : Hp} (h : Bx b G G1) (k : Bx b G1 G2) : Bx b G G2 := ⟨h.k.trans k.k, k.b⟩
theorem cut_m1 {xs : List V} : cutV xs none (some (-1)) = xs.take (xs.length - 1) := by
  unfold cutV
  rw [HT.sIx_none, six_m1, List.drop_zero, Nat.sub_zero]
theorem DictsAt.take {G : Hp} {xs : List V} {ds : List PD} (n : Nat) (h : DictsAt G xs ds) : DictsAt G (xs.take n) (ds.take n) := by
  refine ⟨by rw [List.length_take, List.length_take, h.1], fun d hd => h.2.1 d (List.mem_of_mem_take hd), fun i x d hx hd => ?_⟩
  rw [List.getElem?_take] at hx hd
  split at hx
  · rename_i l
    rw [if_pos l] at hd
    exact h.2.2 i x d hx hd
  · cases hx
theorem DictsAt.kept {b : Addr} {G G' : Hp} {xs : List V} {ds : List PD} (x : BoxAt G b) (k : Kept b G G') (h : DictsAt G xs ds) : DictsAt G' xs ds := ⟨h.1, h.2.1, fun i y d hx hd => by
  obtain ⟨q, lp, e, hq⟩ := h.2.2 i y d hx hd
  exact ⟨q, lp, e, hq.kept x k (h.2.1 d (List.mem_of_getElem? hd)).1.some⟩⟩
theorem PP.at {K : PySem.W.Frag} {C CP p : Addr} {G : Hp} {ds : List PD} (h : PP K C CP G p ds) : ∃ dx fs, G p = some (.ins CP dx fs) := by
  obtain ⟨t, xs, dx, h1, _⟩ := h
  exact ⟨dx, _, h1⟩
def LawN : List Str := ["_law_script", "_law_k", "_law_box_here", "_law_turn", "_law_more", "_law_some", "_law_lines_here", "_law_text_here", "_law_due", "_law_told_here", "_law_thing", "_law_piece_here"]
abbrev LawP : List Str := ["_law_script"]
abbrev sLaw : Stmt := top 51
def spLaw (K : PySem.W.Frag) : Sp := fun vs H Q _ => ∃ (a : Addr) (ns : List Int), vs = [.ref a] ∧ SqL K H a (ns.map V.int) ∧ ns.length ≤ 63 ∧ ∀ H', Q (.bl true) H'
section
variable {P : Program} {w : World} {K : PySem.W.Frag} {mg : Str → Option Value} {base : Heap}
theorem scLaw : FnScope LawN LawP (defScope sLaw) := ⟨rfl, rfl, rfl, by decide +kernel, rfl, by decide +kernel, by decide +kernel⟩
theorem ok_Law {f C CP : Addr} {fd : FuncData} (B : Bt mg) (T : Pg P w K mg base C CP) (ki : PySem.W.kitOne K (.ref CP) (.type "int") = some false)
    (DB : Has P w K mg base CX0 1 "_law_box" ["_law_script", "_law_k", "_law_own"] (spBox K)) (DT : Has P w K mg base CX0 1 "_law_take" ["_law_box_here", "_law_many"] spTake) (DP : Has P w K mg base CX0 4 "_law_piece" ["_law_box_here", "_law_many"] spLPiece) (DM : Has P w K mg base CX0 5 "_law_made" ["_law_piece_here"] (spLMade K C))
    (DK : Has P w K mg base CX0 2 "_law_pick" ["_law_box_here", "_law_items"] (spPick K)) (DX : Has P w K mg base CX0 3 "_law_text" ["_law_pieces"] spLText) (DBt : Has P w K mg base CX0 3 "_law_bent" BentP (spBent K)) (DR : Has P w K mg base CX0 4 "_law_read" IsNP spLRd) (DD : Has P w K mg base CX0 10 "_law_told" IsNP (spTold K C CP)) (F : Fun K "law" "law" sLaw f fd) : FnOk P w K mg base CX0 11 f fd LawP (spLaw K) := by
  refine F.ok scLaw (fun vs H Q E h => ?_) (fun cdv A outer s H vs Q E hr h => ?_)
  · obtain ⟨a, ns, rfl, _⟩ := h
    rfl
  · obtain ⟨a, ns, rfl, hs, hn, k⟩ := h
    refine ⟨_, (pss_cons (ps_for PassesOwn.never rfl (pi_range1 (by rfl) B.range (pa_cons (pe_callB (call_max2 rfl) (by rfl) B.max (by decide +kernel) (pa_cons pe_int (pa_cons (pe_callB (call_min2 rfl) (by rfl) B.min (by decide +kernel) (pa_cons pe_int (pa_cons (pe_callB (call_lenK (K := K) rfl) (by rfl) B.len PySem.boot_len (pa_cons (pv 0) pa_nil)) pa_nil))) pa_nil))) pa_nil)) (pg_name (i := 1) scLaw.nd rfl (.inl rfl))
      (pss_cons (ps_set (i := 2) scLaw.nd rfl (.inr rfl) (pe_callH DB (hr.mono (show 1 ≤ 10 by decide)) (by rfl) pass0 (pa_cons (pv 0) (pa_cons (pv 1) (pa_cons pe_int pa_nil)))))
      (C8.pss_cut (ps_for PassesOwn.never rfl (pi_range1 (by rfl) B.range (pa_cons pe_int pa_nil)) (pg_name (i := 3) scLaw.nd rfl (.inl rfl))
        (C8.pss_cut (ps_setLc (i := 5) (own := [("_law_more", 4)]) (g := gName 4) (tt := tYes) rfl scLaw.nd rfl rfl (sw_true rfl rfl rfl (by decide +kernel)) (pi_range1 (by rfl) B.range (pa_cons (pe_callH DT (hr.mono (show 1 ≤ 10 by decide)) (by rfl) pass0 (pa_cons (pv 2) (pa_cons (pe_ifExp (pt_cmpR op_gt (pv 3) pe_int (nomark _)) pe_int pe_int) pa_nil))) pa_nil)) (blkOk_by (N := LawN) (sc := defScope sLaw) (by decide +kernel)) (fun _ _ _ _ _ => pg_name (i := 4) scLaw.nd rfl (Or.inl rfl)) (fun _ _ _ _ _ => pts_nil) (fun _ _ _ _ _ => (pe_callH DP (hr.mono (show 4 ≤ 10 by decide)) (by rfl) pass0 (pa_cons (pv 2) (pa_cons pe_int pa_nil)))))
        (C8.pss_cut (ps_while PassesOwn.never (pt_cmpR op_gt (pe_callB call_len_str (by rfl) B.len PySem.boot_len (pa_cons (pe_callH DX (hr.mono (show 3 ≤ 10 by decide)) (by rfl) pass0 (pa_cons (pv 5) pa_nil)) pa_nil)) pe_int (nomark _)) (pss_one (ps_set (i := 5) scLaw.nd rfl (.inl rfl) (pe_slice sl_list (pv 5) po_none (po_some (pe_un un_neg pe_int))))))
        (C8.pss_cut (ps_set (i := 6) scLaw.nd rfl (.inl rfl) (pe_bm PySem.F.plainAttrs_str PySem.F.slot_str_split PySem.F.type_str_split mt_split (pe_callH DX (hr.mono (show 3 ≤ 10 by decide)) (by rfl) pass0 (pa_cons (pv 5) pa_nil)) (pa_cons pe_str pa_nil)))
        (C8.pss_cut (ps_if (pt_cmpR (op_nePg (K := K) rfl T (hr.mono (show 8 ≤ 10 by decide))) (pe_read (K := K) rfl T (hr.mono (show 7 ≤ 10 by decide)) rfl (by rfl) (pa_cons (pe_callH DX (hr.mono (show 3 ≤ 10 by decide)) (by rfl) pass0 (pa_cons (pv 5) pa_nil)) pa_nil)) (pe_mkPg (K := K) rfl T rfl (hr.mono (show 4 ≤ 10 by decide)) (by rfl) (pa_cons (pe_lc (own := [("_law_piece_here", 11)]) (g := gName 11) (tt := tYes) (by rfl) scLaw.nd (pi_list (pv 5)) (blkOk_by (N := LawN) (sc := defScope sLaw) (by decide +kernel)) (fun _ _ _ _ _ => pg_name (i := 11) scLaw.nd rfl (Or.inl rfl)) (fun _ _ _ _ _ => pts_nil) (fun _ _ _ _ _ => (pe_callH DM (hr.mono (show 5 ≤ 10 by decide)) (by rfl) pass0 (pa_cons (pv 11) pa_nil)))) pa_nil)) (nomark _)) (pss_one (ps_ret pe_bl)) pss_nil)
        (C8.pss_cut (ps_for PassesOwn.never rfl (pi_range1 (by rfl) B.range (pa_cons (pe_callH DT (hr.mono (show 1 ≤ 10 by decide)) (by rfl) pass0 (pa_cons (pv 2) (pa_cons pe_int pa_nil))) pa_nil)) (pg_name (i := 4) scLaw.nd rfl (.inl rfl))
          (pss_one (ps_set (i := 6) scLaw.nd rfl (.inl rfl) (pe_ifExp (pt_cmpR (op_neNil hr.units) (pv 6) (pe_lst pa_nil) (nomark _)) (pe_callH DBt (hr.mono (show 3 ≤ 10 by decide)) (by rfl) pass0 (pa_cons (pv 2) (pa_cons (pv 6) pa_nil))) (pe_lst (pa_cons pe_str pa_nil))))))
        (C8.pss_cut (ps_set (i := 7) scLaw.nd rfl (.inl rfl) (pe_bm PySem.F.plainAttrs_str PySem.F.slot_str_join PySem.F.type_str_join mt_join pe_str (pa_cons (pv 6) pa_nil)))
        (C8.pss_cut (ps_set (i := 8) scLaw.nd rfl (.inl rfl) (pe_callH DR (hr.mono (show 4 ≤ 10 by decide)) (by rfl) pass0 (pa_cons (pv 7) pa_nil)))
        (C8.pss_cut (ps_if (PW.pt (pw_and (pt_val (pe_callB (call_isiK (K := K) rfl) (by rfl) B.isinstance (by decide +kernel) (pa_cons (pv 8) (pa_cons (pe_bltn (v := .ty "list") (by rfl) B.list (by decide +kernel) rfl) pa_nil)))) (pw_and1 (pt_cmpR (op_neNil hr.units) (pe_lc (own := [("_law_piece_here", 11)]) (g := gName 11) (by rfl) scLaw.nd (pi_list (pv 8)) (blkOk_by (N := LawN) (sc := defScope sLaw) (by decide +kernel)) (fun _ _ _ _ _ => pg_name (i := 11) scLaw.nd rfl (Or.inl rfl)) (fun _ _ _ _ _ => pts_one (pt_cmpR op_gt (pe_callB (call_lenK (K := K) rfl) (by rfl) B.len PySem.boot_len (pa_cons (pe_dget (hu_of hr) (pv 11) pe_str (fun _ _ => rfl)) pa_nil)) pe_int (nomark _))) (fun _ _ _ _ _ => pe_int)) (pe_lst pa_nil) (nomark _))))) (pss_one ps_continue) pss_nil)
        (C8.pss_cut (ps_set (i := 9) scLaw.nd rfl (.inl rfl) (pe_callH DD (hr.mono (show 10 ≤ 10 by decide)) (by rfl) pass0 (pa_cons (pv 7) pa_nil)))
        (C8.pss_cut (ps_if (PW.pt (pw_and (pt_val (pe_callB (call_isiK (K := K) rfl) (by rfl) B.isinstance (by decide +kernel) (pa_cons (pv 8) (pa_cons (pe_bltn (v := .ty "int") (by rfl) B.int (by decide +kernel) rfl) pa_nil)))) (pw_and1 (pt_cmpR op_ne (pe_callB call_repr_int (by rfl) B.repr (by decide +kernel) (pa_cons (pv 9) pa_nil)) (pe_callB call_repr_int (by rfl) B.repr (by decide +kernel) (pa_cons (pv 8) pa_nil)) (nomark _))))) (pss_one (ps_ret pe_bl)) pss_nil)
        (pss_one (ps_if (pt_val (pe_callB (call_isiK (K := K) rfl) (by rfl) B.isinstance (by decide +kernel) (pa_cons (pv 8) (pa_cons (pe_bltn (v := .ty "list") (by rfl) B.list (by decide +kernel) rfl) pa_nil))))
          (pss_one (ps_if (PW.pt (pw_or (pt_val (pe_callB (call_isiK (K := K) rfl) (by rfl) B.isinstance (by decide +kernel) (pa_cons (pv 9) (pa_cons (pe_bltn (v := .ty "int") (by rfl) B.int (by decide +kernel) rfl) pa_nil)))) (pw_or (pt_cmpR op_ne (pe_callTy (call_strPg (K := K) rfl T (hr.mono (show 6 ≤ 10 by decide))) (by rfl) B.str (by decide +kernel) (pa_cons (pv 9) pa_nil)) (pe_callH DX (hr.mono (show 3 ≤ 10 by decide)) (by rfl) pass0 (pa_cons (pv 8) pa_nil)) (nomark _)) (pw_or1 (pt_cmpR op_ne (pe_callTy (call_strPg (K := K) rfl T (hr.mono (show 6 ≤ 10 by decide))) (by rfl) B.str (by decide +kernel) (pa_cons (pv 9) pa_nil)) (pv 7) (nomark _)))))) (pss_one (ps_ret pe_bl)) pss_nil))
          pss_nil)))))))))))))
      (C8.pss_cut (ps_set (i := 10) scLaw.nd rfl (.inl rfl) (pe_callH DK (hr.mono (show 2 ≤ 10 by decide)) (by rfl) pass0 (pa_cons (pv 2) (pa_cons (pe_lst (pa_cons pe_non (pa_cons pe_int (pa_cons pe_bl (pa_cons (pe_lst (pa_cons pe_str pa_nil)) (pa_cons (pe_tup (pa_cons pe_str pa_nil)) (pa_cons (pe_lst pa_nil) (pa_cons pe_int pa_nil)))))))) pa_nil))))
      (pss_one (ps_if (PW.pt (pw_or (pt_cmpR op_ne (pe_callB call_repr_int (by rfl) B.repr (by decide +kernel) (pa_cons (pe_callH DD (hr.mono (show 10 ≤ 10 by decide)) (by rfl) pass0 (pa_cons (pv 10) pa_nil)) pa_nil)) pe_str (nomark _)) (pw_or (pt_cmpR op_ne (pe_callB call_repr_int (by rfl) B.repr (by decide +kernel) (pa_cons (pe_callH DD (hr.mono (show 10 ≤ 10 by decide)) (by rfl) pass0 (pa_cons pe_str pa_nil)) pa_nil)) pe_str (nomark _)) (pw_or1 (pt_cmpR op_ne (pe_callB call_repr_int (by rfl) B.repr (by decide +kernel) (pa_cons (pe_callH DD (hr.mono (show 10 ≤ 10 by decide)) (by rfl) pass0 (pa_cons pe_str pa_nil)) pa_nil)) pe_str (nomark _)))))) (pss_one (ps_ret pe_bl)) pss_nil)))))
    )
    (pss_one (ps_ret (pe_cmpR (op_eqPg (K := K) rfl T (hr.mono (show 7 ≤ 10 by decide))) (pe_read (K := K) rfl T (hr.mono (show 7 ≤ 10 by decide)) rfl (by rfl) (pa_cons pe_str pa_nil)) (pe_mkPg0 (K := K) rfl T rfl (hr.mono (show 4 ≤ 10 by decide)) (by rfl)) (nomark _))))), ?_⟩
    have hmap : (ns.map V.int).length = ns.length := List.length_map ..
    refine ⟨_, rfl, a, _, rfl, .inl hs, _, _, rfl, _, _, rfl, _, rfl, ?_, ?_, for_range (lo := 0) (n := Int.toNat _) (fun i σ G => ∃ x1 x2 x3 x4 x5 x6 x7 x8 x9 x10 x11 : Option V, σ = [some (.ref a), x1, x2, x3, x4, x5, x6, x7, x8, x9, x10, x11] ∧ Same H G)
      ⟨none, none, none, none, none, none, none, none, none, none, none, rfl, Same.refl H⟩ ?_ ?_⟩
    · split <;> split <;> omega
    · split <;> split <;> omega
    · rintro i σ G0 hi ⟨x1, x2, x3, x4, x5, x6, x7, x8, x9, x10, x11, rfl, sG⟩
      have hi3 : i ≤ 2 := by
        revert hi
        split <;> split <;> omega
      refine ⟨_, rfl, _, rfl, a, ns, 0 + (i : Int), 6, rfl, SqL.same sG hs, by omega, by omega, by decide, by decide, by omega, fun b G1 s1 nb b1 => ?_⟩
      refine ⟨fun σ G => ∃ x3 x4 x5 x6 x7 x8 x9 x10 x11 : Option V, σ = [some (.ref a), some (.int (0 + (i : Int))), some (.ref b), x3, x4, x5, x6, x7, x8, x9, x10, x11] ∧ Bx b G1 G, ?_, ?_⟩
      · refine ⟨6, rfl, by decide, by decide, for_range (lo := 0) (n := Int.toNat _) (fun j σ G => ∃ x3 x4 x5 x6 x7 x8 x9 x10 x11 : Option V, σ = [some (.ref a), some (.int (0 + (i : Int))), some (.ref b), x3, x4, x5, x6, x7, x8, x9, x10, x11] ∧ Bx b G1 G)
          ⟨x3, x4, x5, x6, x7, x8, x9, x10, x11, rfl, Kept.refl b G1, b1⟩ ?_ ?_⟩
        · rintro j σ Gn hj ⟨x3, x4, x5, x6, x7, x8, x9, x10, x11, rfl, bx0⟩
          clear sG hi
          refine ⟨fun σ' G => ∃ (L : Addr) (xs : List V) (ds : List PD) (x4 : Option V), σ' = [some (.ref a), some (.int (0 + (i : Int))), some (.ref b), some (.int (0 + (j : Int))), x4, some (.ref L), x6, x7, x8, x9, x10, x11] ∧ Bx b Gn G ∧ L ≠ b ∧ G L = some (.lst xs) ∧ DictsAt G xs ds ∧ ds.length ≤ 28, ?_, ?_⟩
          · refine ⟨_, rfl, _, rfl, _, _, rfl, rfl, _, rfl, ?_⟩
            refine ite2 (fun _ => ?_) (fun _ => ?_)
            · refine ⟨b, 11, rfl, bx0.b, by decide, by decide, fun r o r0 r1 ob => ?_⟩
              have bB : BoxAt (upd Gn b o) b := BoxAt.box ob
              have kB : Kept b Gn (upd Gn b o) := Kept.box
              generalize upd Gn b o = GB at *
              refine ⟨r, rfl, by omega, by omega, fun D nD => lc_range (lo := 0) (n := Int.toNat _) (fun n G' => ∃ (xs : List V) (ds : List PD), Bx b GB G' ∧ D ≠ b ∧ G' D = some (.lst xs) ∧ DictsD D G' xs ds ∧ ds.length = n)
                ⟨[], [], ⟨Kept.new nD, bB.new nD⟩, bB.ne nD, upd_same, ⟨rfl, fun d h => (List.not_mem_nil h).elim, fun i x d h _ => by cases h⟩, rfl⟩ ?_ ?_⟩
              · rintro n G' hn' ⟨xs, ds, b2, nb', hD, hds, hl'⟩
                refine ⟨rfl, _, rfl, b, 6, rfl, b2.b, by decide, by decide, fun q lp d G4 k4 b4 o' few hq nq nlp => ⟨_, k4 _ _ nb' hD, ?_, xs ++ [.ref q], ds ++ [d], ⟨fun c u n1 e => ?_, ?_⟩, nb', upd_same, ?_, by rw [List.length_append, hl']; rfl⟩⟩
                · rw [hds.1, hl']
                  exact small1000 (by omega)
                · rw [upd_ne (ne_of_none e nD)]
                  exact k4 _ _ n1 (b2.k _ _ n1 e)
                · obtain ⟨o2, e2, y2⟩ := b4
                  exact ⟨o2, by rw [upd_ne (Ne.symm nb')]; exact e2, y2⟩
                · exact (hds.kept b2.b k4).push (k4 _ _ nb' hD) o' few (Ne.symm (ne_of_none hD nlp)) hq
              · rintro GA ⟨xs, ds, bA, Db, hDA, hdsA, lds⟩
                exact ⟨D, xs, ds, _, rfl, (⟨kB, bB⟩ : Bx b Gn GB).trans bA, Db, hDA, hdsA.at, by omega⟩
            · refine ⟨b, 29, rfl, bx0.b, by decide, by decide, fun r o r0 r1 ob => ?_⟩
              have bB : BoxAt (upd Gn b o) b := BoxAt.box ob
              have kB : Kept b Gn (upd Gn b o) := Kept.box
              generalize upd Gn b o = GB at *
              refine ⟨r, rfl, by omega, by omega, fun D nD => lc_range (lo := 0) (n := Int.toNat _) (fun n G' => ∃ (xs : List V) (ds : List PD), Bx b GB G' ∧ D ≠ b ∧ G' D = some (.lst xs) ∧ DictsD D G' xs ds ∧ ds.length = n)
                ⟨[], [], ⟨Kept.new nD, bB.new nD⟩, bB.ne nD, upd_same, ⟨rfl, fun d h => (List.not_mem_nil h).elim, fun i x d h _ => by cases h⟩, rfl⟩ ?_ ?_⟩
              · rintro n G' hn' ⟨xs, ds, b2, nb', hD, hds, hl'⟩
                refine ⟨rfl, _, rfl, b, 6, rfl, b2.b, by decide, by decide, fun q lp d G4 k4 b4 o' few hq nq nlp => ⟨_, k4 _ _ nb' hD, ?_, xs ++ [.ref q], ds ++ [d], ⟨fun c u n1 e => ?_, ?_⟩, nb', upd_same, ?_, by rw [List.length_append, hl']; rfl⟩⟩
                · rw [hds.1, hl']
                  exact small1000 (by omega)
                · rw [upd_ne (ne_of_none e nD)]
                  exact k4 _ _ n1 (b2.k _ _ n1 e)
                · obtain ⟨o2, e2, y2⟩ := b4
                  exact ⟨o2, by rw [upd_ne (Ne.symm nb')]; exact e2, y2⟩
                · exact (hds.kept b2.b k4).push (k4 _ _ nb' hD) o' few (Ne.symm (ne_of_none hD nlp)) hq
              · rintro GA ⟨xs, ds, bA, Db, hDA, hdsA, lds⟩
                exact ⟨D, xs, ds, _, rfl, (⟨kB, bB⟩ : Bx b Gn GB).trans bA, Db, hDA, hdsA.at, by omega⟩
          clear x4 x5
          rintro σ G2 ⟨L, xs, ds, x4, rfl, bx, Lb, hL, hD, lds⟩
          refine ⟨fun σ' G => ∃ (L : Addr) (xs : List V) (ds : List PD), σ' = [some (.ref a), some (.int (0 + (i : Int))), some (.ref b), some (.int (0 + (j : Int))), x4, some (.ref L), x6, x7, x8, x9, x10, x11] ∧ Bx b Gn G ∧ L ≠ b ∧ G L = some (.lst xs) ∧ DictsAt G xs ds ∧ ds.length ≤ 28, ?_, ?_⟩
          · refine ⟨fun mm σ' G => ∃ (L : Addr) (xs : List V) (ds : List PD), mm = ds.length ∧ σ' = [some (.ref a), some (.int (0 + (i : Int))), some (.ref b), some (.int (0 + (j : Int))), x4, some (.ref L), x6, x7, x8, x9, x10, x11] ∧ Bx b Gn G ∧ L ≠ b ∧ G L = some (.lst xs) ∧ DictsAt G xs ds ∧ ds.length ≤ 28, ⟨_, L, xs, ds, rfl, rfl, bx, Lb, hL, hD, lds⟩, ?_⟩
            clear bx hL hD lds Lb L xs ds
            rintro mm σ' G ⟨L, xs, ds, rfl, rfl, bx, Lb, hL, hD, lds⟩
            refine ⟨_, rfl, L, xs, ds, rfl, hL, hD, by omega, fun G3 s3 => ⟨_, rfl, fitsN (text_len hD.2.1 lds), _, _, rfl, rfl, _, rfl, ?_⟩⟩
            refine ite2 (fun q => ?_) (fun _ => ⟨L, xs, ds, rfl, bx.same s3, Lb, s3 _ _ hL, hD.same s3, lds⟩)
            have d0 : ds ≠ [] := fun z => by
              subst z
              revert q
              decide +kernel
            have l0 := List.length_pos_iff.mpr d0
            refine ⟨fun σ2 G4 => ∃ (L : Addr) (xs2 : List V) (ds2 : List PD), ds2.length < ds.length ∧ σ2 = [some (.ref a), some (.int (0 + (i : Int))), some (.ref b), some (.int (0 + (j : Int))), x4, some (.ref L), x6, x7, x8, x9, x10, x11] ∧ Bx b Gn G4 ∧ L ≠ b ∧ G4 L = some (.lst xs2) ∧ DictsAt G4 xs2 ds2 ∧ ds2.length ≤ 28, fun σ2 G4 ⟨L, xs2, ds2, a0, a1, a2, a3, a4, a5, a6⟩ => ⟨_, a0, L, xs2, ds2, rfl, a1, a2, a3, a4, a5, a6⟩, ?_⟩
            have b3 := bx.same s3
            refine ⟨_, rfl, _, rfl, _, rfl, L, xs, rfl, SqL.of (s3 _ _ hL), fun p np => ?_⟩
            rw [cut_m1]
            exact ⟨p, _, ds.take (xs.length - 1), by rw [List.length_take, hD.1]; omega, rfl, b3.same (Same.new np), b3.b.ne np, upd_same, ((hD.same s3).same (Same.new np)).take _, by rw [List.length_take]; omega⟩
          clear bx hL hD lds Lb L xs ds G2
          rintro σ G2 ⟨L, xs, ds, rfl, bx, Lb, hL, hD, lds⟩
          have ok30 : ∀ d ∈ ds, d.Ok ∧ d.parts.length ≤ 30 := fun d hd => ⟨(hD.2.1 d hd).1, by have := (hD.2.1 d hd).2; omega⟩
          refine ⟨fun σ' G => ∃ M : Addr, σ' = [some (.ref a), some (.int (0 + (i : Int))), some (.ref b), some (.int (0 + (j : Int))), x4, some (.ref L), some (.ref M), x7, x8, x9, x10, x11] ∧ Same G2 G ∧ M ≠ b ∧ G M = some (.lst ((Txt.split (progText ds) "\n").map V.str)), ?_, ?_⟩
          · exact ⟨_, rfl, L, xs, ds, rfl, hL, hD, by omega, fun G3 s3 => ⟨rfl, _, _, rfl, rfl, by decide, by rw [sizeLine_eq]; have := text_len hD.2.1 lds; omega, fun M nM => ⟨M, rfl, s3.trans (Same.new nM), (bx.same s3).b.ne nM, upd_same⟩⟩⟩
          rintro σ G3 ⟨M, rfl, s3, Mb, hM⟩
          replace hL := s3 _ _ hL
          replace hD := hD.same s3
          replace bx := bx.same s3
          clear s3 G2
          refine ⟨fun σ' G => σ' = [some (.ref a), some (.int (0 + (i : Int))), some (.ref b), some (.int (0 + (j : Int))), x4, some (.ref L), some (.ref M), x7, x8, x9, x10, x11] ∧ Same G3 G, ?_, ?_⟩
          · refine ⟨_, rfl, L, xs, ds, rfl, hL, hD, by omega, fun G4 s4 => ⟨ds, rfl, by omega, ok30, fun q G5 s5 hq => ?_⟩⟩
            have s45 := s4.trans s5
            have hL5 := s45 _ _ hL
            have hD5 := hD.same s45
            refine ⟨_, rfl, L, rfl, ⟨_, SqL.of hL5⟩, fun D nD => lc_list (K := K) (xs := xs) (fun n G' => ∃ hs : List V, Same G5 G' ∧ G' D = some (.lst hs) ∧ PcsAt K C G' hs (ds.take n))
              ⟨[], Same.new nD, upd_same, by rw [List.take_zero]; exact PcsAt.nil⟩ (fun n G' _ z => by
                obtain ⟨_, z, _⟩ := z
                exact SqL.of (z _ _ hL5)) ?_ ?_⟩
            · rintro n x G' hx ⟨hs, sG', hE, pcs⟩
              have ln := (List.getElem?_eq_some_iff.mp hx).1
              obtain ⟨d, ed⟩ : ∃ d, ds[n]? = some d := ⟨_, List.getElem?_eq_getElem (by rw [← hD5.1]; exact ln)⟩
              obtain ⟨q2, lp, rfl, hq2⟩ := (hD5.same sG').2.2 n x d hx ed
              obtain ⟨o', few⟩ := ok30 d (List.mem_of_getElem? ed)
              have lhs : hs.length = n := by
                rw [pcs.1, List.length_take]
                have := (List.getElem?_eq_some_iff.mp ed).1
                omega
              refine ⟨rfl, _, rfl, q2, lp, d, rfl, hq2, o', few, fun y G6 s6 n6 hy => ⟨_, s6 _ _ hE, ?_, hs ++ [.ref y], same_put (sG'.trans s6) nD, upd_same, ?_⟩⟩
              · rw [lhs]
                have := (List.getElem?_eq_some_iff.mp ed).1
                exact small1000 (by omega)
              · rw [List.take_succ, ed]
                exact ((pcs.same s6).append (PcsAt.one hy o' few)).put (s6 _ _ hE)
            · rintro GH ⟨hs, sH, hE, pcs⟩
              rw [hD5.1, List.take_length] at pcs
              exact ⟨D, hs, ds, rfl, .inl hE, pcs, by omega, fun c G6 s6 nc hc => ⟨q, c, _, _, rfl, rfl, (hq.same sH).same s6, hc, fun G7 s7 => ⟨_, rfl, iteN (by simp) ⟨rfl, s45.trans ((sH.trans s6).trans s7)⟩⟩⟩⟩
          rintro σ G4 ⟨rfl, s4⟩
          have hR0 := lines_ok hD.2.1 lds
          replace hM := s4 _ _ hM
          replace bx := bx.same s4
          clear hL hD s4 G3 lds ok30
          generalize Txt.split (progText ds) "\n" = rows0 at *
          clear ds xs
          refine ⟨fun σ' G => ∃ (M : Addr) (rows : List Str) (x4 : Option V), σ' = [some (.ref a), some (.int (0 + (i : Int))), some (.ref b), some (.int (0 + (j : Int))), x4, some (.ref L), some (.ref M), x7, x8, x9, x10, x11] ∧ Bx b Gn G ∧ M ≠ b ∧ G M = some (.lst (rows.map V.str)) ∧ Rs 3 rows, ?_, ?_⟩
          · refine ⟨_, rfl, b, 3, rfl, bx.b, by decide, by decide, fun r o r0 r1 ob => ⟨r, rfl, by omega, by omega, for_range (lo := 0) (n := Int.toNat _) (fun n σ' G => ∃ (M : Addr) (rows : List Str) (x4 : Option V), σ' = [some (.ref a), some (.int (0 + (i : Int))), some (.ref b), some (.int (0 + (j : Int))), x4, some (.ref L), some (.ref M), x7, x8, x9, x10, x11] ∧ Bx b Gn G ∧ M ≠ b ∧ G M = some (.lst (rows.map V.str)) ∧ Rs n rows)
              ⟨M, rows0, x4, rfl, bx.kept Kept.box (BoxAt.box ob), Mb, by rw [upd_ne Mb]; exact hM, hR0⟩ ?_ ?_⟩⟩
            · clear hM hR0 Mb M
              rintro n σ G hn' ⟨M, rows, x4, rfl, bx, Mb, hM, hR⟩
              have n3 : n < 3 := by omega
              refine ⟨_, rfl, (by show 0 ≤ sizeLine; exact Nat.zero_le _), fun e ne => ⟨M, e, _, rfl, rfl, SqL.of (Same.new ne _ _ hM), upd_same, _, rfl, ?_⟩⟩
              have se := Same.new ne (o := .lst [])
              have bxe := bx.same se
              have hMe := se _ _ hM
              generalize upd G e (.lst []) = Ge at *
              by_cases q : rows = []
              · refine iteN (by rw [q]; rfl) ⟨(by show 1 ≤ sizeLine; decide), fun p np => ⟨p, [Str.ofString ""], _, rfl, bxe.same (Same.new np), bxe.b.ne np, upd_same, by show 1 ≤ _; omega, fun r hr => ?_⟩⟩
                rw [List.mem_singleton] at hr
                subst hr
                exact ⟨Nat.zero_le _, by decide +kernel⟩
              · refine iteY (by cases rows with | nil => exact absurd rfl q | cons x y => rfl) ⟨_, rfl, _, rfl, b, M, rows, n, rfl, bxe.b, hMe, Mb, by omega, hR, q, fun l2 rows2 G' kb bb nl2 hR2 hl2 => ⟨l2, rows2, _, rfl, bxe.kept kb bb, bxe.b.ne nl2, hl2, hR2⟩⟩
            · clear hM hR0 Mb M
              rintro σ G ⟨M, rows, x4, rfl, bx, Mb, hM, hR⟩
              refine ⟨M, rows, x4, rfl, bx, Mb, hM, ⟨by have := hR.1; omega, fun r hr => ⟨by have := (hR.2 r hr).1; omega, (hR.2 r hr).2⟩⟩⟩
          clear hM hR0 Mb M bx rows0 x4 G4 x6
          rintro σ G4 ⟨M, rows, x4, rfl, bx, Mb, hM, hR⟩
          obtain ⟨tl, few⟩ := bent_text hR (by decide)
          refine ⟨fun σ' G => σ' = [some (.ref a), some (.int (0 + (i : Int))), some (.ref b), some (.int (0 + (j : Int))), x4, some (.ref L), some (.ref M), some (.str (Txt.join "\n" rows)), x8, x9, x10, x11] ∧ G = G4, ?_, ?_⟩
          · have j1 : (Str.ofString "\n").length = 1 := by decide
            have hs := sum_few (zs := rows) (n := 404) fun z hz => by have := (hR.2 z hz).1; omega
            have hl := hR.1
            exact ⟨rfl, _, rfl, _, M, rows, rfl, rfl, .inl (SqL.of hM), by rw [j1]; omega, rfl, rfl⟩
          rintro σ G ⟨rfl, rfl⟩
          clear hM Mb
          generalize Txt.join "\n" rows = t at *
          clear hR rows
          refine ⟨fun σ' G' => ∃ y : V, σ' = [some (.ref a), some (.int (0 + (i : Int))), some (.ref b), some (.int (0 + (j : Int))), x4, some (.ref L), some (.ref M), some (.str t), some y, x9, x10, x11] ∧ Same G G' ∧ ((∃ e : Nat, y = .int e ∧ t.length ≠ 0 ∧ piecesR (Txt.split t "\n") (Txt.split t "\n").length 0 = .error e) ∨ ∃ (f : Addr) (xs : List V) (ds : List PD), y = .ref f ∧ G' f = some (.lst xs) ∧ DsAt G' xs ds ∧ ((t.length = 0 ∧ ds = []) ∨ (t.length ≠ 0 ∧ piecesR (Txt.split t "\n") (Txt.split t "\n").length 0 = .ok ds))), ?_, ?_⟩
          · exact ⟨_, rfl, t, rfl, tl, few, fun t0 f G5 s5 hf => ⟨_, rfl, s5, .inr ⟨f, [], [], rfl, hf, DsAt.nil, .inl ⟨t0, rfl⟩⟩⟩, fun t0 => ⟨fun e he G5 s5 => ⟨_, rfl, s5, .inl ⟨e, rfl, t0, he⟩⟩, fun ds hds f xs G5 s5 hf hD => ⟨_, rfl, s5, .inr ⟨f, xs, ds, rfl, hf, hD, .inr ⟨t0, hds⟩⟩⟩⟩⟩
          rintro σ G5 ⟨y, rfl, s5, hy⟩
          replace bx := bx.same s5
          clear s5 G
          refine ⟨fun σ' G' => σ' = [some (.ref a), some (.int (0 + (i : Int))), some (.ref b), some (.int (0 + (j : Int))), x4, some (.ref L), some (.ref M), some (.str t), some y, x9, x10, x11] ∧ Same G5 G' ∧ ((∃ e : Nat, y = .int e ∧ t.length ≠ 0 ∧ piecesR (Txt.split t "\n") (Txt.split t "\n").length 0 = .error e) ∨ ∃ (f : Addr) (xs : List V) (ds : List PD), y = .ref f ∧ G' f = some (.lst xs) ∧ DictsAt G' xs ds ∧ ((t.length = 0 ∧ ds = []) ∨ (t.length ≠ 0 ∧ piecesR (Txt.split t "\n") (Txt.split t "\n").length 0 = .ok ds))), ?_, ?_⟩
          · rcases hy with ⟨e, rfl, t0, he⟩ | ⟨f, xs, ds, rfl, hf, hD, hc⟩
            · have kt : PySem.W.kitOne K (.type "int") (.type "list") = some false := kit_ty (by decide +kernel)
              exact ⟨_, rfl, _, _, _, _, _, rfl, .ty _, .base (.int _), kt, _, rfl, iteN rfl (iteN rfl ⟨rfl, Same.refl _, .inl ⟨e, rfl, t0, he⟩⟩)⟩
            · have kt : PySem.W.kitOne K (.type "list") (.type "list") = some true := kit_ty (by decide +kernel)
              refine ⟨_, rfl, _, _, _, _, _, rfl, .ty _, .base (.lst hf), kt, _, rfl, iteY rfl ?_⟩
              refine ⟨_, rfl, f, rfl, ⟨_, SqL.of hf⟩, fun D nD => lc_list (K := K) (xs := xs) (fun n G' => Same G5 G' ∧ ∃ ys : List V, G' D = some (.lst ys) ∧ ys.length ≤ n ∧ (ys = [] → ∀ d ∈ ds.take n, d.parts.length ≤ 8))
                ⟨Same.new nD, [], upd_same, Nat.zero_le _, fun _ d h => by rw [List.take_zero] at h; exact (List.not_mem_nil h).elim⟩ (fun n G' _ z => SqL.of (z.1 _ _ hf)) ?_ ?_⟩
              · rintro n x G' hx ⟨sG', ys, hE, ly, h8⟩
                have ln := (List.getElem?_eq_some_iff.mp hx).1
                obtain ⟨d, ed⟩ : ∃ d, ds[n]? = some d := ⟨_, List.getElem?_eq_getElem (by rw [← hD.1]; exact ln)⟩
                obtain ⟨q2, lp, rfl, hq2⟩ := (hD.same sG').2.2 n x d hx ed
                have nds : n < 1000 := by
                  have l1 := (List.getElem?_eq_some_iff.mp ed).1
                  rcases hc with ⟨_, rfl⟩ | ⟨_, hp⟩
                  · exact absurd l1 (Nat.not_lt_zero _)
                  · have := (pieces_inv few _ _ _ (Nat.zero_le _) hp).2.2
                    have := few.1
                    omega
                refine ⟨rfl, _, rfl, q2, _, rfl, dg_p hq2, lp, _, rfl, .inl (SqL.of (dg_lp hq2)), _, _, rfl, rfl, _, rfl, ?_⟩
                rw [List.length_map]
                by_cases q8 : d.parts.length ≤ 8
                · refine iteN (decide_eq_false (by omega)) ⟨sG', ys, hE, by omega, fun z e he => ?_⟩
                  rw [List.take_succ, ed] at he
                  rcases List.mem_append.mp he with he | he
                  · exact h8 z e he
                  · have : e = d := by simpa using he
                    rw [this]
                    exact q8
                · refine iteY (decide_eq_true (by omega)) ⟨_, hE, small1000 (by omega), same_put sG' nD, ys ++ [.int 1], upd_same, by rw [List.length_append]; show ys.length + 1 ≤ n + 1; omega, fun z => ?_⟩
                  exact absurd z (by simp)
              · rintro G' ⟨sG', ys, hE, ly, h8⟩
                rw [hD.1, List.take_length] at h8
                refine ⟨(by show 0 ≤ sizeLine; exact Nat.zero_le _), fun e ne => ⟨D, e, _, rfl, rfl, SqL.of (Same.new ne _ _ hE), upd_same, _, rfl, ?_⟩⟩
                have se := sG'.trans (Same.new ne (o := .lst []))
                by_cases q : ys = []
                · refine iteN (by rw [q]; rfl) ⟨rfl, se, .inr ⟨f, xs, ds, rfl, se _ _ hf, ⟨hD.1, fun d hd => ⟨hD.2.1 d hd, h8 q d hd⟩, (hD.same se).2.2⟩, hc⟩⟩
                · exact iteY (by cases ys with | nil => exact absurd rfl q | cons x y => rfl) ⟨_, _, _, _, _, _, _, _, _, rfl, (bx0.trans bx).same se⟩
          rintro σ G6 ⟨rfl, s6, hy6⟩
          replace bx := bx.same s6
          clear s6 hy G5
          refine ⟨fun σ' G' => ∃ z : V, σ' = [some (.ref a), some (.int (0 + (i : Int))), some (.ref b), some (.int (0 + (j : Int))), x4, some (.ref L), some (.ref M), some (.str t), some y, some z, x10, x11] ∧ Same G6 G' ∧ ((∃ e : Nat, y = .int e ∧ z = .int e ∧ e ≤ 900) ∨ ∃ (f p : Addr) (xs : List V) (ds : List PD), y = .ref f ∧ z = .ref p ∧ G' f = some (.lst xs) ∧ DictsAt G' xs ds ∧ ds.length ≤ 900 ∧ PP K C CP G' p ds ∧ progText ds = t), ?_, ?_⟩
          · rcases hy6 with ⟨e, rfl, t0, he⟩ | ⟨f, xs, ds, rfl, hf, hD, hc⟩
            · refine ⟨_, rfl, .str t, rfl, .inr ⟨t, rfl, tl, few, fun h => absurd h t0, fun _ => ⟨fun e2 he2 G7 s7 => ?_, fun ds hds => ?_⟩⟩⟩
              · rw [he] at he2
                cases he2
                have := pieces_le few _ _ _ (by omega) he
                have := few.1
                exact ⟨_, rfl, s7, .inl ⟨e, rfl, rfl, by omega⟩⟩
              · rw [he] at hds
                cases hds
            · refine ⟨_, rfl, .str t, rfl, .inr ⟨t, rfl, tl, few, fun h p G7 s7 hp => ?_, fun h => ⟨fun e2 he2 G7 s7 => ?_, fun ds2 hds2 => ?_⟩⟩⟩
              · rcases hc with ⟨_, rfl⟩ | ⟨t0, _⟩
                · exact ⟨_, rfl, s7, .inr ⟨f, p, xs, [], rfl, rfl, s7 _ _ hf, hD.same s7, Nat.zero_le _, hp, (empty_of h).symm⟩⟩
                · exact absurd h t0
              · rcases hc with ⟨t0, _⟩ | ⟨_, hp⟩
                · exact absurd t0 h
                · rw [hp] at he2
                  cases he2
              · rcases hc with ⟨t0, _⟩ | ⟨_, hp⟩
                · exact absurd t0 h
                · rw [hp] at hds2
                  cases hds2
                  have l1 := (pieces_inv few _ _ _ (Nat.zero_le _) hp).2.2
                  have := few.1
                  refine ⟨fun d hd => by have := (hD.2.1 d hd).2; omega, fun p G7 s7 hpp => ⟨_, rfl, s7, .inr ⟨f, p, xs, ds, rfl, rfl, s7 _ _ hf, hD.same s7, by omega, hpp, told_text few hp⟩⟩⟩
          clear hy6
          rintro σ G7 ⟨z, rfl, s7, hz⟩
          replace bx := bx.same s7
          clear s7 G6
          refine ⟨fun σ' G' => σ' = [some (.ref a), some (.int (0 + (i : Int))), some (.ref b), some (.int (0 + (j : Int))), x4, some (.ref L), some (.ref M), some (.str t), some y, some z, x10, x11] ∧ G' = G7, ?_, ?_⟩
          · rcases hz with ⟨e, rfl, rfl, e9⟩ | ⟨f, p, xs, ds, rfl, rfl, hf, hD, l9, hP, ht⟩
            · have kt : PySem.W.kitOne K (.type "int") (.type "int") = some true := kit_ty (by decide +kernel)
              have lg : ((e : Int)).natAbs.log2 < 1920 := by
                have := Nat.log2_le_self ((e : Int)).natAbs
                omega
              exact ⟨_, rfl, _, _, _, _, _, rfl, .ty _, .base (.int _), kt, _, rfl, iteY rfl ⟨_, rfl, _, rfl, lg, _, rfl, _, rfl, lg, rfl, _, rfl, iteN (by simp) ⟨rfl, rfl⟩⟩⟩
            · have kt : PySem.W.kitOne K (.type "list") (.type "int") = some false := kit_ty (by decide +kernel)
              exact ⟨_, rfl, _, _, _, _, _, rfl, .ty _, .base (.lst hf), kt, _, rfl, iteN rfl (iteN rfl ⟨rfl, rfl⟩)⟩
          rintro σ G8 ⟨rfl, rfl⟩
          rcases hz with ⟨e, rfl, rfl, e9⟩ | ⟨f, p, xs, ds, rfl, rfl, hf, hD, l9, hP, ht⟩
          · have kt : PySem.W.kitOne K (.type "int") (.type "list") = some false := kit_ty (by decide +kernel)
            exact ⟨_, rfl, _, _, _, _, _, rfl, .ty _, .base (.int _), kt, _, rfl, iteN rfl ⟨_, _, _, _, _, _, _, _, _, rfl, bx0.trans bx⟩⟩
          · have kt : PySem.W.kitOne K (.type "list") (.type "list") = some true := kit_ty (by decide +kernel)
            obtain ⟨dx, fs, hp⟩ := hP.at
            refine ⟨_, rfl, _, _, _, _, _, rfl, .ty _, .base (.lst hf), kt, _, rfl, iteY rfl ?_⟩
            refine ⟨_, rfl, _, _, _, _, _, rfl, .ty _, T.cp.at hp, ki, _, rfl, iteN rfl ?_⟩
            refine ⟨_, rfl, p, ds, rfl, hP, fun G9 s9 => ⟨_, rfl, f, xs, ds, rfl, s9 _ _ hf, hD.same s9, l9, fun Ga sa => ⟨rfl, _, rfl, iteN (by simp) ?_⟩⟩⟩
            have s9a := s9.trans sa
            exact ⟨_, rfl, p, ds, rfl, hP.same s9a, fun Gb sb => ⟨_, rfl, rfl, _, rfl, iteN (by rw [ht]; simp) ⟨_, _, _, _, _, _, _, _, _, rfl, (bx0.trans bx).same (s9a.trans sb)⟩⟩⟩
        · rintro σ G ⟨x3, x4, x5, x6, x7, x8, x9, x10, x11, rfl, bx⟩
          exact ⟨_, _, _, _, _, _, _, _, _, rfl, bx⟩
      clear x3 x4 x5 x6 x7 x8 x9 x10 x11
      rintro σ G2 ⟨x3, x4, x5, x6, x7, x8, x9, x10, x11, rfl, bx⟩
      refine ⟨fun σ' G => ∃ v : V, σ' = [some (.ref a), some (.int (0 + (i : Int))), some (.ref b), x3, x4, x5, x6, x7, x8, x9, some v, x11] ∧ Bx b G1 G ∧ IsT K G v "str" false, ?_, ?_⟩
      · refine ⟨_, rfl, (by show 1 ≤ sizeLine; decide), fun p1 n1 => ⟨(by show 1 ≤ sizeLine; decide), fun p2 n2 => ⟨(by show 0 ≤ sizeLine; exact Nat.zero_le _), fun p3 n3 => ⟨(by show 7 ≤ sizeLine; decide), fun p4 n4 => ?_⟩⟩⟩⟩
        have t1 := Same.new n1 (o := .lst [.str "a(b)"])
        have t2 := Same.new n2 (o := .tup [.str "a"])
        have t3 := Same.new n3 (o := .lst [])
        have t4 := Same.new n4 (o := .lst [.non, .int 1, .bl true, .ref p1, .ref p2, .ref p3, .int 0])
        have b4 := (((bx.same t1).same t2).same t3).same t4
        have p1b : p1 ≠ b := bx.b.ne n1
        have p2b : p2 ≠ b := (bx.same t1).b.ne n2
        have p3b : p3 ≠ b := ((bx.same t1).same t2).b.ne n3
        have p4b : p4 ≠ b := (((bx.same t1).same t2).same t3).b.ne n4
        have h1 := ((t2.trans t3).trans t4) _ _ (upd_same : upd G2 p1 (.lst [.str "a(b)"]) p1 = _)
        have h2 := (t3.trans t4) _ _ (upd_same : upd (upd G2 p1 (.lst [.str "a(b)"])) p2 (.tup [.str "a"]) p2 = _)
        have h3 := t4 _ _ (upd_same : upd (upd (upd G2 p1 (.lst [.str "a(b)"])) p2 (.tup [.str "a"])) p3 (.lst []) p3 = _)
        refine ⟨b, p4, _, rfl, b4.b, p4b, SqL.of upd_same, (by show 0 < 7; decide), (by show 7 ≤ 1000; decide), fun v o hv ob => ⟨v, rfl, b4.kept Kept.box (BoxAt.box ob), ?_⟩⟩
        have k1 : PySem.W.kitOne K (.type "NoneType") (.type "str") = some false := kit_ty (by decide +kernel)
        have k2 : PySem.W.kitOne K (.type "int") (.type "str") = some false := kit_ty (by decide +kernel)
        have k3 : PySem.W.kitOne K (.type "bool") (.type "str") = some false := kit_ty (by decide +kernel)
        have k4 : PySem.W.kitOne K (.type "list") (.type "str") = some false := kit_ty (by decide +kernel)
        have k5 : PySem.W.kitOne K (.type "tuple") (.type "str") = some false := kit_ty (by decide +kernel)
        simp only [List.mem_cons, List.not_mem_nil, or_false] at hv
        rcases hv with rfl | rfl | rfl | rfl | rfl | rfl | rfl
        · exact ⟨_, .base .non, k1⟩
        · exact ⟨_, .base (.int _), k2⟩
        · exact ⟨_, .base (.bl _), k3⟩
        · exact ⟨_, .base (.lst (by rw [upd_ne p1b]; exact h1)), k4⟩
        · exact ⟨_, .base (.tup (by rw [upd_ne p2b]; exact h2)), k5⟩
        · exact ⟨_, .base (.lst (by rw [upd_ne p3b]; exact h3)), k4⟩
        · exact ⟨_, .base (.int _), k2⟩
      clear bx G2 x10
      rintro σ G2 ⟨v, rfl, bx, hv⟩
      have e0 : decide (V.str (toString (0 : Int)) = V.str "0") = true := by decide +kernel
      have e2 : decide (V.str (toString ((2 : Nat) : Int)) = V.str "2") = true := by decide +kernel
      refine ⟨_, rfl, v, rfl, .inl ⟨hv, fun G3 s3 => ⟨_, rfl, by decide, rfl, _, rfl, iteN ?_ ?_⟩⟩⟩
      · show (!decide (V.str (toString (0 : Int)) = V.str "0")) = false
        rw [e0]
        rfl
      refine ⟨_, rfl, .inr ⟨_, rfl, by decide, few1, fun z => absurd z (by decide), fun _ => ⟨fun e he G4 s4 => ?_, fun ds hds => by rw [two1] at hds; cases hds⟩⟩⟩
      rw [two1] at he
      cases he
      refine ⟨_, rfl, by decide, rfl, _, rfl, iteN ?_ ?_⟩
      · show (!decide (V.str (toString ((2 : Nat) : Int)) = V.str "2")) = false
        rw [e2]
        rfl
      refine ⟨_, rfl, .inr ⟨_, rfl, by decide, few2, fun z => absurd z (by decide), fun _ => ⟨fun e he G5 s5 => ?_, fun ds hds => by rw [two2] at hds; cases hds⟩⟩⟩
      rw [two2] at he
      cases he
      refine ⟨_, rfl, by decide, rfl, _, rfl, iteN ?_ ?_⟩
      · show (!decide (V.str (toString ((2 : Nat) : Int)) = V.str "2")) = false
        rw [e2]
        rfl
      have bx5 := bx.same ((s3.trans s4).trans s5)
      exact ⟨_, _, _, _, _, _, _, _, _, _, _, rfl, fun c u e => bx5.k _ _ (ne_of_none (sG _ _ e) nb) (s1 _ _ (sG _ _ e))⟩
    · rintro σ G ⟨x1, x2, x3, x4, x5, x6, x7, x8, x9, x10, x11, rfl, sG⟩
      refine ⟨[], rfl, by decide, fun d h => (List.not_mem_nil h).elim, fun q G2 s2 hq => fun c G3 s3 nc hc => ⟨q, c, _, _, rfl, rfl, hq.same s3, hc, fun G4 s4 => ?_⟩⟩
      rw [decide_eq_true rfl]
      exact k _
end
end Lay
set_option Elab.async false
set_option linter.all false
set_option maxRecDepth 100000
set_option maxHeartbeats 8000000
namespace Lay
open PySem L2
theorem HasR.mono3 {P : Program} {w : World} {K : PySem.W.Frag} {mg : Str → Option Value} {base : Heap} {CX : CXT} {j k : Nat} {n : Str} {sp : Sp} (h : HasR P w K mg base CX j n sp) (l : j ≤ k := by decide) : HasR P w K mg base CX k n sp := by
  obtain ⟨f, F, g, kp⟩ := h
  exact ⟨f, F.mono l, g, kp⟩
theorem fnr_up {P : Program} {w : World} {K : PySem.W.Frag} {mg : Str → Option Value} {base : Heap} {CX : CXT} {k : Nat} {f : Addr} {sp : Sp} (F : FnR P w K mg base CX0 k f sp) : FnR P w K mg base CX k f sp := fun A outer s H us vs Q E hr e0 r hs => codeAny_mono (F A outer s H us vs Q E hr e0 r hs) fun r s' hq => by
  cases r with
  | error e => exact hq.elim
  | ok fl => cases fl <;> exact hq
theorem fnr_or {P : Program} {w : World} {K : PySem.W.Frag} {mg : Str → Option Value} {base : Heap} {CX : CXT} {k : Nat} {f : Addr} {s1 s2 : Sp} (F : FnR P w K mg base CX k f s1) (G : FnR P w K mg base CX k f s2) : FnR P w K mg base CX k f (fun vs H Q E => s1 vs H Q E ∨ s2 vs H Q E) := fun A outer s H us vs Q E hr e0 r hs => hs.elim (F A outer s H us vs Q E hr e0 r) (G A outer s H us vs Q E hr e0 r)

theorem kit_cls {K : PySem.W.Frag} {C : Addr} {t : Value} {b : Bool} (hd : PySem.W.hasDictIn K C = true) (ty : PySem.W.typeIn K (.ref C) = some (.type "type")) (s : PySem.W.subIn K t (.ref C) = some b) (e : t = .ref C → b = true) : PySem.W.kitOne K t (.ref C) = some b := by
  unfold PySem.W.kitOne
  by_cases h : (t == Value.ref C) = true
  · rw [if_pos h, e (beq_iff_eq.mp h)]
  · rw [if_neg h]
    obtain ⟨cd, hc, _⟩ := PySem.W.any_some hd
    unfold PySem.W.kitCls
    dsimp only
    rw [if_pos (by rw [hc, ty]; rfl)]
    exact s
theorem kit_type {K : PySem.W.Frag} {C : Addr} {n : String} {b : Bool} (hm : PySem.W.kitMeta n = true) (s : PySem.W.subIn K (.ref C) (.type n) = some b) : PySem.W.kitOne K (.ref C) (.type n) = some b := by
  unfold PySem.W.kitOne
  rw [if_neg (fun h => by have q := beq_iff_eq.mp h; cases q)]
  unfold PySem.W.kitCls
  dsimp only
  rw [if_pos hm]
  exact s
theorem np_none {C : Addr} : (PySem.fastBuiltinMro "NoneType").map (·.contains (Value.ref C)) = some false := by
  have e : PySem.fastBuiltinMro "NoneType" = some [.type "NoneType", .type "object"] := by decide +kernel
  rw [e]
  rfl
theorem np_int {C : Addr} : (PySem.fastBuiltinMro "int").map (·.contains (Value.ref C)) = some false := by
  have e : PySem.fastBuiltinMro "int" = some [.type "int", .type "object"] := by decide +kernel
  rw [e]
  rfl
theorem np_bool {C : Addr} : (PySem.fastBuiltinMro "bool").map (·.contains (Value.ref C)) = some false := by
  have e : PySem.fastBuiltinMro "bool" = some [.type "bool", .type "int", .type "object"] := by decide +kernel
  rw [e]
  rfl
theorem np_str {C : Addr} : (PySem.fastBuiltinMro "str").map (·.contains (Value.ref C)) = some false := by
  have e : PySem.fastBuiltinMro "str" = some [.type "str", .type "object"] := by decide +kernel
  rw [e]
  rfl
theorem np_list {C : Addr} : (PySem.fastBuiltinMro "list").map (·.contains (Value.ref C)) = some false := by
  have e : PySem.fastBuiltinMro "list" = some [.type "list", .type "object"] := by decide +kernel
  rw [e]
  rfl
theorem np_tuple {C : Addr} : (PySem.fastBuiltinMro "tuple").map (·.contains (Value.ref C)) = some false := by
  have e : PySem.fastBuiltinMro "tuple" = some [.type "tuple", .type "object"] := by decide +kernel
  rw [e]
  rfl

theorem refs_ok (L : Addr) : PySem.HandSPX.refsVE [.ref L, .type "ValueError", .type "Exception", .type "BaseException", .type "object"] = true := by
  show PySem.HandSPX.refsVE [.type "ValueError", .type "Exception", .type "BaseException", .type "object"] = true
  decide +kernel

def dPiece : List V := [.bl false, .bl false, .str "", .str "", .int 0, .bl false]
theorem binds_piece8 {K : PySem.W.Frag} {f : Addr} {fd : FuncData} (F : FunD K "__init__" "Piece.__init__" (defArgs sPieceI) (defBody sPieceI) (defScope sPieceI) dPiece [] f fd) : Binds K fd psPiece [] := by
  obtain ⟨ds, h1, h2⟩ := F.binds1 (ps := psPiece) 9 6 (fun z => nomatch z) rfl fun T kV doc pm an cdv ct us its h1 h2 => match us, its, h1, h2 with
    | [_, _, _, _, _, _, _, _, _], [_, _, _, _, _, _], _, _ => ⟨_, rfl, rfl⟩
  cases h1
  exact h2
theorem binds_prog {K : PySem.W.Frag} {f e : Addr} {fd : FuncData} (F : FunD K "__init__" "Program.__init__" (defArgs sProgI) (defBody sProgI) (defScope sProgI) [.ref e] [] f fd) : Binds K fd ["self", "pieces"] [] := by
  obtain ⟨ds, h1, h2⟩ := F.binds1 (ps := ["self", "pieces"]) 2 1 (fun z => nomatch z) rfl fun T kV doc pm an cdv ct us its h1 h2 => match us, its, h1, h2 with
    | [_, _], [_], _, _ => ⟨_, rfl, rfl⟩
  cases h1
  exact h2
theorem binds_prog0 {K : PySem.W.Frag} {f e : Addr} {fd : FuncData} (F : FunD K "__init__" "Program.__init__" (defArgs sProgI) (defBody sProgI) (defScope sProgI) [.ref e] [] f fd) : ∃ ds, Vals [V.ref e] ds ∧ Binds K fd ["self", "pieces"] ds :=
  F.binds1 (ps := ["self", "pieces"]) 1 0 (fun z => nomatch z) rfl fun T kV doc pm an cdv ct us its h1 h2 => match us, its, h1, h2 with
    | [_], [_], _, _ => ⟨_, rfl, rfl⟩

theorem all_mk {l : PySem.W.OpenLaw} {w : World} {K : PySem.W.Frag} {h : Heap} {mg : Str → Option Value} {fa L C TC fPI CP TCP eP fGI fsP feP IT fXI pR gR g_int g_num g_seq g_name g_names g_req g_rem g_head g_tail g_body g_rows g_check g_rowat g_rbl g_rah g_rhd g_spl g_rfl g_rit g_rbr g_rpc g_rps g_box g_take g_pick g_lname g_lpiece g_made g_lflat g_llines g_ltext g_isn g_lrem g_one g_brk g_lrd g_told g_bent g_law : Addr} (X : K.In h) (G : h.Ns mainGlobals mg) (hfa : mg "law" = some (.ref fa))
    {od_Ci an_Ci : Option Addr} {sl_Ci : Array (Option Value)} {oc_Ci kV_Ci dc_Ci pm_Ci cd_Ci ct_Ci : Value}
    {u1 u2 u3 : Nat}
    {oc_TC : Value} {od_TC : Option Addr} {n_TC : Nat} {sl_TC : Array (Option Value)}
    {od_CPi an_CPi : Option Addr} {sl_CPi : Array (Option Value)} {oc_CPi kV_CPi dc_CPi pm_CPi cd_CPi ct_CPi : Value}
    {oc_TCP : Value} {od_TCP : Option Addr} {n_TCP : Nat} {sl_TCP : Array (Option Value)}
    {od_eP : Option Addr} {n_eP : Nat} {sl_eP : Array (Option Value)}
    {od_sP an_sP : Option Addr} {sl_sP : Array (Option Value)} {oc_sP kV_sP dc_sP pm_sP cd_sP ct_sP : Value}
    {od_eqP an_eqP : Option Addr} {sl_eqP : Array (Option Value)} {oc_eqP kV_eqP dc_eqP pm_eqP cd_eqP ct_eqP : Value}
    {nm_X qn_X : Str} {N0_X : Addr} {bs_X : List Value} {sn_X : List Str} {sub0_X : List Value} {ab_X : Bool} {col_X : Option Bool} {dd_X : Option Addr} {m0_X m1_X m2_X m3_X m5_X : Option Value}
    {od_X an_X : Option Addr} {sl_X : Array (Option Value)} {oc_X kV_X dc_X pm_X cd_X ct_X : Value}
    {restR : List Value}
    {od_read an_read : Option Addr} {sl_read : Array (Option Value)} {oc_read kV_read dc_read pm_read cd_read ct_read : Value}
    {od_int an_int : Option Addr} {sl_int : Array (Option Value)} {oc_int kV_int dc_int pm_int cd_int ct_int : Value}
    {od_num an_num : Option Addr} {sl_num : Array (Option Value)} {oc_num kV_num dc_num pm_num cd_num ct_num : Value}
    {od_seq an_seq : Option Addr} {sl_seq : Array (Option Value)} {oc_seq kV_seq dc_seq pm_seq cd_seq ct_seq : Value}
    {od_name an_name : Option Addr} {sl_name : Array (Option Value)} {oc_name kV_name dc_name pm_name cd_name ct_name : Value}
    {od_names an_names : Option Addr} {sl_names : Array (Option Value)} {oc_names kV_names dc_names pm_names cd_names ct_names : Value}
    {od_req an_req : Option Addr} {sl_req : Array (Option Value)} {oc_req kV_req dc_req pm_req cd_req ct_req : Value}
    {od_rem an_rem : Option Addr} {sl_rem : Array (Option Value)} {oc_rem kV_rem dc_rem pm_rem cd_rem ct_rem : Value}
    {od_head an_head : Option Addr} {sl_head : Array (Option Value)} {oc_head kV_head dc_head pm_head cd_head ct_head : Value}
    {od_tail an_tail : Option Addr} {sl_tail : Array (Option Value)} {oc_tail kV_tail dc_tail pm_tail cd_tail ct_tail : Value}
    {od_body an_body : Option Addr} {sl_body : Array (Option Value)} {oc_body kV_body dc_body pm_body cd_body ct_body : Value}
    {od_rows an_rows : Option Addr} {sl_rows : Array (Option Value)} {oc_rows kV_rows dc_rows pm_rows cd_rows ct_rows : Value}
    {od_check an_check : Option Addr} {sl_check : Array (Option Value)} {oc_check kV_check dc_check pm_check cd_check ct_check : Value}
    {od_rowat an_rowat : Option Addr} {sl_rowat : Array (Option Value)} {oc_rowat kV_rowat dc_rowat pm_rowat cd_rowat ct_rowat : Value}
    {od_rbl an_rbl : Option Addr} {sl_rbl : Array (Option Value)} {oc_rbl kV_rbl dc_rbl pm_rbl cd_rbl ct_rbl : Value}
    {od_rah an_rah : Option Addr} {sl_rah : Array (Option Value)} {oc_rah kV_rah dc_rah pm_rah cd_rah ct_rah : Value}
    {od_rhd an_rhd : Option Addr} {sl_rhd : Array (Option Value)} {oc_rhd kV_rhd dc_rhd pm_rhd cd_rhd ct_rhd : Value}
    {od_spl an_spl : Option Addr} {sl_spl : Array (Option Value)} {oc_spl kV_spl dc_spl pm_spl cd_spl ct_spl : Value}
    {od_rfl an_rfl : Option Addr} {sl_rfl : Array (Option Value)} {oc_rfl kV_rfl dc_rfl pm_rfl cd_rfl ct_rfl : Value}
    {od_rit an_rit : Option Addr} {sl_rit : Array (Option Value)} {oc_rit kV_rit dc_rit pm_rit cd_rit ct_rit : Value}
    {od_rbr an_rbr : Option Addr} {sl_rbr : Array (Option Value)} {oc_rbr kV_rbr dc_rbr pm_rbr cd_rbr ct_rbr : Value}
    {od_rpc an_rpc : Option Addr} {sl_rpc : Array (Option Value)} {oc_rpc kV_rpc dc_rpc pm_rpc cd_rpc ct_rpc : Value}
    {od_rps an_rps : Option Addr} {sl_rps : Array (Option Value)} {oc_rps kV_rps dc_rps pm_rps cd_rps ct_rps : Value}
    {od_box an_box : Option Addr} {sl_box : Array (Option Value)} {oc_box kV_box dc_box pm_box cd_box ct_box : Value}
    {od_take an_take : Option Addr} {sl_take : Array (Option Value)} {oc_take kV_take dc_take pm_take cd_take ct_take : Value}
    {od_pick an_pick : Option Addr} {sl_pick : Array (Option Value)} {oc_pick kV_pick dc_pick pm_pick cd_pick ct_pick : Value}
    {od_lname an_lname : Option Addr} {sl_lname : Array (Option Value)} {oc_lname kV_lname dc_lname pm_lname cd_lname ct_lname : Value}
    {od_lpiece an_lpiece : Option Addr} {sl_lpiece : Array (Option Value)} {oc_lpiece kV_lpiece dc_lpiece pm_lpiece cd_lpiece ct_lpiece : Value}
    {od_made an_made : Option Addr} {sl_made : Array (Option Value)} {oc_made kV_made dc_made pm_made cd_made ct_made : Value}
    {od_lflat an_lflat : Option Addr} {sl_lflat : Array (Option Value)} {oc_lflat kV_lflat dc_lflat pm_lflat cd_lflat ct_lflat : Value}
    {od_llines an_llines : Option Addr} {sl_llines : Array (Option Value)} {oc_llines kV_llines dc_llines pm_llines cd_llines ct_llines : Value}
    {od_ltext an_ltext : Option Addr} {sl_ltext : Array (Option Value)} {oc_ltext kV_ltext dc_ltext pm_ltext cd_ltext ct_ltext : Value}
    {od_isn an_isn : Option Addr} {sl_isn : Array (Option Value)} {oc_isn kV_isn dc_isn pm_isn cd_isn ct_isn : Value}
    {od_lrem an_lrem : Option Addr} {sl_lrem : Array (Option Value)} {oc_lrem kV_lrem dc_lrem pm_lrem cd_lrem ct_lrem : Value}
    {od_one an_one : Option Addr} {sl_one : Array (Option Value)} {oc_one kV_one dc_one pm_one cd_one ct_one : Value}
    {od_brk an_brk : Option Addr} {sl_brk : Array (Option Value)} {oc_brk kV_brk dc_brk pm_brk cd_brk ct_brk : Value}
    {od_lrd an_lrd : Option Addr} {sl_lrd : Array (Option Value)} {oc_lrd kV_lrd dc_lrd pm_lrd cd_lrd ct_lrd : Value}
    {od_told an_told : Option Addr} {sl_told : Array (Option Value)} {oc_told kV_told dc_told pm_told cd_told ct_told : Value}
    {od_bent an_bent : Option Addr} {sl_bent : Array (Option Value)} {oc_bent kV_bent dc_bent pm_bent cd_bent ct_bent : Value}
    {od_law an_law : Option Addr} {sl_law : Array (Option Value)} {oc_law kV_law dc_law pm_law cd_law ct_law : Value}
    (aL : PySem.W.nsIn K mainGlobals "LayError" = some (some (.ref L)))
    (tL : PySem.W.typeIn K (.ref L) = some (.type "type"))
    (hL : PySem.W.hasDictIn K L = true)
    (hn : PySem.W.specialIn K (.builtin "object.__class__") "__get__" = some (some (.builtin "getset_descriptor.__get__")))
    (ht : PySem.W.takesIn K (.builtin "object.__class__") = some true)
    (aC : PySem.W.nsIn K mainGlobals "Piece" = some (some (.ref C)))
    (pgC : PySem.W.plainGet K C Str.empty = true)
    (hdC : PySem.W.hasDictIn K C = true)
    (poC : PySem.W.plainOver K C = true)
    (saC : PySem.W.findIn K (.ref C) "__setattr__" = some (some (.builtin "object.__setattr__")))
    (caC : PySem.W.findIn K (.ref C) "__class__" = some (some (.builtin "object.__class__")))
    (moC : PySem.W.mroIn K C (.type "object") = some true)
    (nlC : PySem.W.subIn K (.ref C) (.type "list") = some false)
    (ntC : PySem.W.subIn K (.ref C) (.type "tuple") = some false)
    (nbC : PySem.W.subIn K (.ref C) (.type "bool") = some false)
    (tyC : PySem.W.typeIn K (.ref C) = some (.type "type"))
    (noC_word : PySem.W.findIn K (.ref C) "word" = some none)
    (noC_parts : PySem.W.findIn K (.ref C) "parts" = some none)
    (noC_broken : PySem.W.findIn K (.ref C) "broken" = some none)
    (noC_marked : PySem.W.findIn K (.ref C) "marked" = some none)
    (noC_ahead : PySem.W.findIn K (.ref C) "ahead" = some none)
    (noC_behind : PySem.W.findIn K (.ref C) "behind" = some none)
    (noC_blanks : PySem.W.findIn K (.ref C) "blanks" = some none)
    (noC_left : PySem.W.findIn K (.ref C) "left" = some none)
    (mkC : PySem.W.makesIn K C = true)
    (inC : PySem.W.findIn K (.ref C) "__init__" = some (some (.ref fPI)))
    (fiC : PySem.W.isFn K (.ref fPI) = true)
    (kpC : PySem.W.keepIn K (.ref C) = true)
    (l_Ci : K.lookup fPI = some ⟨oc_Ci, od_Ci, .func (PySem.W.fnOf "__init__" "Piece.__init__" (defArgs sPieceI) (defBody sPieceI) (defScope sPieceI) (.ref TC) kV_Ci dc_Ci pm_Ci an_Ci cd_Ci ct_Ci), sl_Ci⟩)
    (c_Ci : PySem.W.codeIn K cd_Ci "Piece.__init__" = true)
    (k_Ci : PySem.W.keepIn K (.ref fPI) = true)
    (l_TC : K.lookup TC = some ⟨oc_TC, od_TC, .seq [.bool false, .bool false, .str "" u1, .str "" u2, .int 0 u3, .bool false].toArray n_TC, sl_TC⟩)
    (aCP : PySem.W.nsIn K mainGlobals "Program" = some (some (.ref CP)))
    (pgCP : PySem.W.plainGet K CP Str.empty = true)
    (hdCP : PySem.W.hasDictIn K CP = true)
    (poCP : PySem.W.plainOver K CP = true)
    (saCP : PySem.W.findIn K (.ref CP) "__setattr__" = some (some (.builtin "object.__setattr__")))
    (caCP : PySem.W.findIn K (.ref CP) "__class__" = some (some (.builtin "object.__class__")))
    (moCP : PySem.W.mroIn K CP (.type "object") = some true)
    (nlCP : PySem.W.subIn K (.ref CP) (.type "list") = some false)
    (ntCP : PySem.W.subIn K (.ref CP) (.type "tuple") = some false)
    (nbCP : PySem.W.subIn K (.ref CP) (.type "bool") = some false)
    (tyCP : PySem.W.typeIn K (.ref CP) = some (.type "type"))
    (noCP_pieces : PySem.W.findIn K (.ref CP) "pieces" = some none)
    (mkCP : PySem.W.makesIn K CP = true)
    (inCP : PySem.W.findIn K (.ref CP) "__init__" = some (some (.ref fGI)))
    (fiCP : PySem.W.isFn K (.ref fGI) = true)
    (kpCP : PySem.W.keepIn K (.ref CP) = true)
    (l_CPi : K.lookup fGI = some ⟨oc_CPi, od_CPi, .func (PySem.W.fnOf "__init__" "Program.__init__" (defArgs sProgI) (defBody sProgI) (defScope sProgI) (.ref TCP) kV_CPi dc_CPi pm_CPi an_CPi cd_CPi ct_CPi), sl_CPi⟩)
    (c_CPi : PySem.W.codeIn K cd_CPi "Program.__init__" = true)
    (k_CPi : PySem.W.keepIn K (.ref fGI) = true)
    (l_TCP : K.lookup TCP = some ⟨oc_TCP, od_TCP, .seq [.ref eP].toArray n_TCP, sl_TCP⟩)
    (l_eP : K.lookup eP = some ⟨.type "tuple", od_eP, .seq [].toArray n_eP, sl_eP⟩)
    (s_sP : PySem.W.findIn K (.ref CP) "__str__" = some (some (.ref fsP)))
    (f_sP : PySem.W.isFn K (.ref fsP) = true)
    (l_sP : K.lookup fsP = some ⟨oc_sP, od_sP, .func (PySem.W.fnOf "__str__" "Program.__str__" (defArgs sStrP) (defBody sStrP) (defScope sStrP) .none kV_sP dc_sP pm_sP an_sP cd_sP ct_sP), sl_sP⟩)
    (c_sP : PySem.W.codeIn K cd_sP "Program.__str__" = true)
    (k_sP : PySem.W.keepIn K (.ref fsP) = true)
    (s_eqP : PySem.W.findIn K (.ref CP) "__eq__" = some (some (.ref feP)))
    (f_eqP : PySem.W.isFn K (.ref feP) = true)
    (l_eqP : K.lookup feP = some ⟨oc_eqP, od_eqP, .func (PySem.W.fnOf "__eq__" "Program.__eq__" (defArgs sEqP) (defBody sEqP) (defScope sEqP) .none kV_eqP dc_eqP pm_eqP an_eqP cd_eqP ct_eqP), sl_eqP⟩)
    (c_eqP : PySem.W.codeIn K cd_eqP "Program.__eq__" = true)
    (k_eqP : PySem.W.keepIn K (.ref feP) = true)
    (sIP : PySem.W.subIn K (.ref CP) (.type "int") = some false)
    (aIT : PySem.W.nsIn K mainGlobals "InvalidText" = some (some (.ref IT)))
    (tyX : PySem.W.typeIn K (.ref IT) = some (.type "type"))
    (kIT : PySem.W.keepIn K (.ref IT) = true)
    (exX : PySem.W.subIn K (.ref IT) (.type "BaseException") = some true)
    (sLX : PySem.W.subIn K (.ref IT) (.ref L) = some true)
    (sSX : PySem.W.subIn K (.ref IT) (.ref IT) = some true)
    (gaX : PySem.W.findIn K (.ref IT) "__getattribute__" = some (some (.builtin "BaseException.__getattribute__")))
    (ggX : PySem.W.findIn K (.ref IT) "__getattr__" = some none)
    (hdX : PySem.W.hasDictIn K IT = true)
    (caX : PySem.W.findIn K (.ref IT) "__class__" = some (some (.builtin "object.__class__")))
    (moX : PySem.W.mroIn K IT (.type "object") = some true)
    (xLX : K.lookup IT = some (excClassObj nm_X qn_X IT N0_X bs_X [.ref L, .type "ValueError", .type "Exception", .type "BaseException", .type "object"] true sn_X sub0_X ab_X col_X dd_X m0_X m1_X m2_X m3_X m5_X "ValueError.__new__"))
    (saX : PySem.W.findIn K (.ref IT) "__setattr__" = some (some (.builtin "object.__setattr__")))
    (iniX : PySem.W.findIn K (.ref IT) "__init__" = some (some (.ref fXI)))
    (tiX : PySem.W.typeIn K (.ref fXI) = some (.type "function"))
    (noX : PySem.W.findIn K (.ref IT) "at" = some none)
    (l_X : K.lookup fXI = some ⟨oc_X, od_X, .func (PySem.W.fnOf "__init__" "InvalidText.__init__" (defArgs sIText) (defBody sIText) (defScope sIText) .none kV_X dc_X pm_X an_X cd_X ct_X), sl_X⟩)
    (c_X : PySem.W.codeIn K cd_X "InvalidText.__init__" = true)
    (k_X : PySem.W.keepIn K (.ref fXI) = true)
    (neP : PySem.W.findIn K (.ref CP) "__ne__" = some (some (.builtin "object.__ne__")))
    (r_rd : PySem.W.readsIn K CP (.type "type") = true)
    (r_ga : PySem.W.specialIn K (.ref CP) "__getattribute__" = some (some (.builtin "type.__getattribute__")))
    (r_at : PySem.W.findCls K (.ref CP) (.type "type") "read" = some (.get (.builtin "classmethod.__get__") (.ref pR) .none (.ref CP)))
    (r_rc : PySem.W.recIn K pR "classmethod" = some (.ref gR :: restR))
    (r_fi : PySem.W.fnIn K gR = true)
    (l_read : K.lookup gR = some ⟨oc_read, od_read, .func (PySem.W.fnOf "read" "Program.read" (defArgs sRead) (defBody sRead) (defScope sRead) .none kV_read dc_read pm_read an_read cd_read ct_read), sl_read⟩)
    (c_read : PySem.W.codeIn K cd_read "Program.read" = true)
    (k_read : PySem.W.keepIn K (.ref gR) = true)
    (a_int : PySem.W.nsIn K mainGlobals "is_integer" = some (some (.ref g_int)))
    (l_int : K.lookup g_int = some ⟨oc_int, od_int, .func (PySem.W.fnOf "is_integer" "is_integer" (defArgs sInt) (defBody sInt) (defScope sInt) .none kV_int dc_int pm_int an_int cd_int ct_int), sl_int⟩)
    (c_int : PySem.W.codeIn K cd_int "is_integer" = true)
    (k_int : PySem.W.keepIn K (.ref g_int) = true)
    (a_num : PySem.W.nsIn K mainGlobals "is_number" = some (some (.ref g_num)))
    (l_num : K.lookup g_num = some ⟨oc_num, od_num, .func (PySem.W.fnOf "is_number" "is_number" (defArgs sNum) (defBody sNum) (defScope sNum) .none kV_num dc_num pm_num an_num cd_num ct_num), sl_num⟩)
    (c_num : PySem.W.codeIn K cd_num "is_number" = true)
    (k_num : PySem.W.keepIn K (.ref g_num) = true)
    (a_seq : PySem.W.nsIn K mainGlobals "is_sequence" = some (some (.ref g_seq)))
    (l_seq : K.lookup g_seq = some ⟨oc_seq, od_seq, .func (PySem.W.fnOf "is_sequence" "is_sequence" (defArgs sSeq) (defBody sSeq) (defScope sSeq) .none kV_seq dc_seq pm_seq an_seq cd_seq ct_seq), sl_seq⟩)
    (c_seq : PySem.W.codeIn K cd_seq "is_sequence" = true)
    (k_seq : PySem.W.keepIn K (.ref g_seq) = true)
    (a_name : PySem.W.nsIn K mainGlobals "is_name" = some (some (.ref g_name)))
    (l_name : K.lookup g_name = some ⟨oc_name, od_name, .func (PySem.W.fnOf "is_name" "is_name" (defArgs sName) (defBody sName) (defScope sName) .none kV_name dc_name pm_name an_name cd_name ct_name), sl_name⟩)
    (c_name : PySem.W.codeIn K cd_name "is_name" = true)
    (k_name : PySem.W.keepIn K (.ref g_name) = true)
    (a_names : PySem.W.nsIn K mainGlobals "are_names" = some (some (.ref g_names)))
    (l_names : K.lookup g_names = some ⟨oc_names, od_names, .func (PySem.W.fnOf "are_names" "are_names" (defArgs sNames) (defBody sNames) (defScope sNames) .none kV_names dc_names pm_names an_names cd_names ct_names), sl_names⟩)
    (c_names : PySem.W.codeIn K cd_names "are_names" = true)
    (k_names : PySem.W.keepIn K (.ref g_names) = true)
    (a_req : PySem.W.nsIn K mainGlobals "require" = some (some (.ref g_req)))
    (l_req : K.lookup g_req = some ⟨oc_req, od_req, .func (PySem.W.fnOf "require" "require" (defArgs sReq) (defBody sReq) (defScope sReq) .none kV_req dc_req pm_req an_req cd_req ct_req), sl_req⟩)
    (c_req : PySem.W.codeIn K cd_req "require" = true)
    (k_req : PySem.W.keepIn K (.ref g_req) = true)
    (a_rem : PySem.W.nsIn K mainGlobals "is_remark" = some (some (.ref g_rem)))
    (l_rem : K.lookup g_rem = some ⟨oc_rem, od_rem, .func (PySem.W.fnOf "is_remark" "is_remark" (defArgs sRem) (defBody sRem) (defScope sRem) .none kV_rem dc_rem pm_rem an_rem cd_rem ct_rem), sl_rem⟩)
    (c_rem : PySem.W.codeIn K cd_rem "is_remark" = true)
    (k_rem : PySem.W.keepIn K (.ref g_rem) = true)
    (a_head : PySem.W.nsIn K mainGlobals "head_of" = some (some (.ref g_head)))
    (l_head : K.lookup g_head = some ⟨oc_head, od_head, .func (PySem.W.fnOf "head_of" "head_of" (defArgs sHead) (defBody sHead) (defScope sHead) .none kV_head dc_head pm_head an_head cd_head ct_head), sl_head⟩)
    (c_head : PySem.W.codeIn K cd_head "head_of" = true)
    (k_head : PySem.W.keepIn K (.ref g_head) = true)
    (a_tail : PySem.W.nsIn K mainGlobals "tail_of" = some (some (.ref g_tail)))
    (l_tail : K.lookup g_tail = some ⟨oc_tail, od_tail, .func (PySem.W.fnOf "tail_of" "tail_of" (defArgs sTail) (defBody sTail) (defScope sTail) .none kV_tail dc_tail pm_tail an_tail cd_tail ct_tail), sl_tail⟩)
    (c_tail : PySem.W.codeIn K cd_tail "tail_of" = true)
    (k_tail : PySem.W.keepIn K (.ref g_tail) = true)
    (a_body : PySem.W.nsIn K mainGlobals "body_rows" = some (some (.ref g_body)))
    (l_body : K.lookup g_body = some ⟨oc_body, od_body, .func (PySem.W.fnOf "body_rows" "body_rows" (defArgs sBody) (defBody sBody) (defScope sBody) .none kV_body dc_body pm_body an_body cd_body ct_body), sl_body⟩)
    (c_body : PySem.W.codeIn K cd_body "body_rows" = true)
    (k_body : PySem.W.keepIn K (.ref g_body) = true)
    (a_rows : PySem.W.nsIn K mainGlobals "rows_of" = some (some (.ref g_rows)))
    (l_rows : K.lookup g_rows = some ⟨oc_rows, od_rows, .func (PySem.W.fnOf "rows_of" "rows_of" (defArgs sRowsOf) (defBody sRowsOf) (defScope sRowsOf) .none kV_rows dc_rows pm_rows an_rows cd_rows ct_rows), sl_rows⟩)
    (c_rows : PySem.W.codeIn K cd_rows "rows_of" = true)
    (k_rows : PySem.W.keepIn K (.ref g_rows) = true)
    (a_check : PySem.W.nsIn K mainGlobals "check_pieces" = some (some (.ref g_check)))
    (l_check : K.lookup g_check = some ⟨oc_check, od_check, .func (PySem.W.fnOf "check_pieces" "check_pieces" (defArgs sCheck) (defBody sCheck) (defScope sCheck) .none kV_check dc_check pm_check an_check cd_check ct_check), sl_check⟩)
    (c_check : PySem.W.codeIn K cd_check "check_pieces" = true)
    (k_check : PySem.W.keepIn K (.ref g_check) = true)
    (a_rowat : PySem.W.nsIn K mainGlobals "row_at" = some (some (.ref g_rowat)))
    (l_rowat : K.lookup g_rowat = some ⟨oc_rowat, od_rowat, .func (PySem.W.fnOf "row_at" "row_at" (defArgs sRowAt) (defBody sRowAt) (defScope sRowAt) .none kV_rowat dc_rowat pm_rowat an_rowat cd_rowat ct_rowat), sl_rowat⟩)
    (c_rowat : PySem.W.codeIn K cd_rowat "row_at" = true)
    (k_rowat : PySem.W.keepIn K (.ref g_rowat) = true)
    (a_rbl : PySem.W.nsIn K mainGlobals "read_blanks" = some (some (.ref g_rbl)))
    (l_rbl : K.lookup g_rbl = some ⟨oc_rbl, od_rbl, .func (PySem.W.fnOf "read_blanks" "read_blanks" (defArgs sRBl) (defBody sRBl) (defScope sRBl) .none kV_rbl dc_rbl pm_rbl an_rbl cd_rbl ct_rbl), sl_rbl⟩)
    (c_rbl : PySem.W.codeIn K cd_rbl "read_blanks" = true)
    (k_rbl : PySem.W.keepIn K (.ref g_rbl) = true)
    (a_rah : PySem.W.nsIn K mainGlobals "read_ahead" = some (some (.ref g_rah)))
    (l_rah : K.lookup g_rah = some ⟨oc_rah, od_rah, .func (PySem.W.fnOf "read_ahead" "read_ahead" (defArgs sRAh) (defBody sRAh) (defScope sRAh) .none kV_rah dc_rah pm_rah an_rah cd_rah ct_rah), sl_rah⟩)
    (c_rah : PySem.W.codeIn K cd_rah "read_ahead" = true)
    (k_rah : PySem.W.keepIn K (.ref g_rah) = true)
    (a_rhd : PySem.W.nsIn K mainGlobals "read_head" = some (some (.ref g_rhd)))
    (l_rhd : K.lookup g_rhd = some ⟨oc_rhd, od_rhd, .func (PySem.W.fnOf "read_head" "read_head" (defArgs sRHd) (defBody sRHd) (defScope sRHd) .none kV_rhd dc_rhd pm_rhd an_rhd cd_rhd ct_rhd), sl_rhd⟩)
    (c_rhd : PySem.W.codeIn K cd_rhd "read_head" = true)
    (k_rhd : PySem.W.keepIn K (.ref g_rhd) = true)
    (a_spl : PySem.W.nsIn K mainGlobals "split_remark" = some (some (.ref g_spl)))
    (l_spl : K.lookup g_spl = some ⟨oc_spl, od_spl, .func (PySem.W.fnOf "split_remark" "split_remark" (defArgs sSpl) (defBody sSpl) (defScope sSpl) .none kV_spl dc_spl pm_spl an_spl cd_spl ct_spl), sl_spl⟩)
    (c_spl : PySem.W.codeIn K cd_spl "split_remark" = true)
    (k_spl : PySem.W.keepIn K (.ref g_spl) = true)
    (a_rfl : PySem.W.nsIn K mainGlobals "read_flat" = some (some (.ref g_rfl)))
    (l_rfl : K.lookup g_rfl = some ⟨oc_rfl, od_rfl, .func (PySem.W.fnOf "read_flat" "read_flat" (defArgs sRFl) (defBody sRFl) (defScope sRFl) .none kV_rfl dc_rfl pm_rfl an_rfl cd_rfl ct_rfl), sl_rfl⟩)
    (c_rfl : PySem.W.codeIn K cd_rfl "read_flat" = true)
    (k_rfl : PySem.W.keepIn K (.ref g_rfl) = true)
    (a_rit : PySem.W.nsIn K mainGlobals "read_item" = some (some (.ref g_rit)))
    (l_rit : K.lookup g_rit = some ⟨oc_rit, od_rit, .func (PySem.W.fnOf "read_item" "read_item" (defArgs sRIt) (defBody sRIt) (defScope sRIt) .none kV_rit dc_rit pm_rit an_rit cd_rit ct_rit), sl_rit⟩)
    (c_rit : PySem.W.codeIn K cd_rit "read_item" = true)
    (k_rit : PySem.W.keepIn K (.ref g_rit) = true)
    (a_rbr : PySem.W.nsIn K mainGlobals "read_broken" = some (some (.ref g_rbr)))
    (l_rbr : K.lookup g_rbr = some ⟨oc_rbr, od_rbr, .func (PySem.W.fnOf "read_broken" "read_broken" (defArgs sRBr) (defBody sRBr) (defScope sRBr) .none kV_rbr dc_rbr pm_rbr an_rbr cd_rbr ct_rbr), sl_rbr⟩)
    (c_rbr : PySem.W.codeIn K cd_rbr "read_broken" = true)
    (k_rbr : PySem.W.keepIn K (.ref g_rbr) = true)
    (a_rpc : PySem.W.nsIn K mainGlobals "read_piece" = some (some (.ref g_rpc)))
    (l_rpc : K.lookup g_rpc = some ⟨oc_rpc, od_rpc, .func (PySem.W.fnOf "read_piece" "read_piece" (defArgs sRPc) (defBody sRPc) (defScope sRPc) .none kV_rpc dc_rpc pm_rpc an_rpc cd_rpc ct_rpc), sl_rpc⟩)
    (c_rpc : PySem.W.codeIn K cd_rpc "read_piece" = true)
    (k_rpc : PySem.W.keepIn K (.ref g_rpc) = true)
    (a_rps : PySem.W.nsIn K mainGlobals "read_pieces" = some (some (.ref g_rps)))
    (l_rps : K.lookup g_rps = some ⟨oc_rps, od_rps, .func (PySem.W.fnOf "read_pieces" "read_pieces" (defArgs sRPs) (defBody sRPs) (defScope sRPs) .none kV_rps dc_rps pm_rps an_rps cd_rps ct_rps), sl_rps⟩)
    (c_rps : PySem.W.codeIn K cd_rps "read_pieces" = true)
    (k_rps : PySem.W.keepIn K (.ref g_rps) = true)
    (a_box : PySem.W.nsIn K mainGlobals "_law_box" = some (some (.ref g_box)))
    (l_box : K.lookup g_box = some ⟨oc_box, od_box, .func (PySem.W.fnOf "_law_box" "_law_box" (defArgs sBox) (defBody sBox) (defScope sBox) .none kV_box dc_box pm_box an_box cd_box ct_box), sl_box⟩)
    (c_box : PySem.W.codeIn K cd_box "_law_box" = true)
    (k_box : PySem.W.keepIn K (.ref g_box) = true)
    (a_take : PySem.W.nsIn K mainGlobals "_law_take" = some (some (.ref g_take)))
    (l_take : K.lookup g_take = some ⟨oc_take, od_take, .func (PySem.W.fnOf "_law_take" "_law_take" (defArgs sTake) (defBody sTake) (defScope sTake) .none kV_take dc_take pm_take an_take cd_take ct_take), sl_take⟩)
    (c_take : PySem.W.codeIn K cd_take "_law_take" = true)
    (k_take : PySem.W.keepIn K (.ref g_take) = true)
    (a_pick : PySem.W.nsIn K mainGlobals "_law_pick" = some (some (.ref g_pick)))
    (l_pick : K.lookup g_pick = some ⟨oc_pick, od_pick, .func (PySem.W.fnOf "_law_pick" "_law_pick" (defArgs sPick) (defBody sPick) (defScope sPick) .none kV_pick dc_pick pm_pick an_pick cd_pick ct_pick), sl_pick⟩)
    (c_pick : PySem.W.codeIn K cd_pick "_law_pick" = true)
    (k_pick : PySem.W.keepIn K (.ref g_pick) = true)
    (a_lname : PySem.W.nsIn K mainGlobals "_law_name" = some (some (.ref g_lname)))
    (l_lname : K.lookup g_lname = some ⟨oc_lname, od_lname, .func (PySem.W.fnOf "_law_name" "_law_name" (defArgs sLName) (defBody sLName) (defScope sLName) .none kV_lname dc_lname pm_lname an_lname cd_lname ct_lname), sl_lname⟩)
    (c_lname : PySem.W.codeIn K cd_lname "_law_name" = true)
    (k_lname : PySem.W.keepIn K (.ref g_lname) = true)
    (a_lpiece : PySem.W.nsIn K mainGlobals "_law_piece" = some (some (.ref g_lpiece)))
    (l_lpiece : K.lookup g_lpiece = some ⟨oc_lpiece, od_lpiece, .func (PySem.W.fnOf "_law_piece" "_law_piece" (defArgs sLPiece) (defBody sLPiece) (defScope sLPiece) .none kV_lpiece dc_lpiece pm_lpiece an_lpiece cd_lpiece ct_lpiece), sl_lpiece⟩)
    (c_lpiece : PySem.W.codeIn K cd_lpiece "_law_piece" = true)
    (k_lpiece : PySem.W.keepIn K (.ref g_lpiece) = true)
    (a_made : PySem.W.nsIn K mainGlobals "_law_made" = some (some (.ref g_made)))
    (l_made : K.lookup g_made = some ⟨oc_made, od_made, .func (PySem.W.fnOf "_law_made" "_law_made" (defArgs sLMade) (defBody sLMade) (defScope sLMade) .none kV_made dc_made pm_made an_made cd_made ct_made), sl_made⟩)
    (c_made : PySem.W.codeIn K cd_made "_law_made" = true)
    (k_made : PySem.W.keepIn K (.ref g_made) = true)
    (a_lflat : PySem.W.nsIn K mainGlobals "_law_flat" = some (some (.ref g_lflat)))
    (l_lflat : K.lookup g_lflat = some ⟨oc_lflat, od_lflat, .func (PySem.W.fnOf "_law_flat" "_law_flat" (defArgs sLFlat) (defBody sLFlat) (defScope sLFlat) .none kV_lflat dc_lflat pm_lflat an_lflat cd_lflat ct_lflat), sl_lflat⟩)
    (c_lflat : PySem.W.codeIn K cd_lflat "_law_flat" = true)
    (k_lflat : PySem.W.keepIn K (.ref g_lflat) = true)
    (a_llines : PySem.W.nsIn K mainGlobals "_law_lines" = some (some (.ref g_llines)))
    (l_llines : K.lookup g_llines = some ⟨oc_llines, od_llines, .func (PySem.W.fnOf "_law_lines" "_law_lines" (defArgs sLLines) (defBody sLLines) (defScope sLLines) .none kV_llines dc_llines pm_llines an_llines cd_llines ct_llines), sl_llines⟩)
    (c_llines : PySem.W.codeIn K cd_llines "_law_lines" = true)
    (k_llines : PySem.W.keepIn K (.ref g_llines) = true)
    (a_ltext : PySem.W.nsIn K mainGlobals "_law_text" = some (some (.ref g_ltext)))
    (l_ltext : K.lookup g_ltext = some ⟨oc_ltext, od_ltext, .func (PySem.W.fnOf "_law_text" "_law_text" (defArgs sLText) (defBody sLText) (defScope sLText) .none kV_ltext dc_ltext pm_ltext an_ltext cd_ltext ct_ltext), sl_ltext⟩)
    (c_ltext : PySem.W.codeIn K cd_ltext "_law_text" = true)
    (k_ltext : PySem.W.keepIn K (.ref g_ltext) = true)
    (a_isn : PySem.W.nsIn K mainGlobals "_law_is_name" = some (some (.ref g_isn)))
    (l_isn : K.lookup g_isn = some ⟨oc_isn, od_isn, .func (PySem.W.fnOf "_law_is_name" "_law_is_name" (defArgs sIsN) (defBody sIsN) (defScope sIsN) .none kV_isn dc_isn pm_isn an_isn cd_isn ct_isn), sl_isn⟩)
    (c_isn : PySem.W.codeIn K cd_isn "_law_is_name" = true)
    (k_isn : PySem.W.keepIn K (.ref g_isn) = true)
    (a_lrem : PySem.W.nsIn K mainGlobals "_law_remark" = some (some (.ref g_lrem)))
    (l_lrem : K.lookup g_lrem = some ⟨oc_lrem, od_lrem, .func (PySem.W.fnOf "_law_remark" "_law_remark" (defArgs sLRem) (defBody sLRem) (defScope sLRem) .none kV_lrem dc_lrem pm_lrem an_lrem cd_lrem ct_lrem), sl_lrem⟩)
    (c_lrem : PySem.W.codeIn K cd_lrem "_law_remark" = true)
    (k_lrem : PySem.W.keepIn K (.ref g_lrem) = true)
    (a_one : PySem.W.nsIn K mainGlobals "_law_one_row" = some (some (.ref g_one)))
    (l_one : K.lookup g_one = some ⟨oc_one, od_one, .func (PySem.W.fnOf "_law_one_row" "_law_one_row" (defArgs sOne) (defBody sOne) (defScope sOne) .none kV_one dc_one pm_one an_one cd_one ct_one), sl_one⟩)
    (c_one : PySem.W.codeIn K cd_one "_law_one_row" = true)
    (k_one : PySem.W.keepIn K (.ref g_one) = true)
    (a_brk : PySem.W.nsIn K mainGlobals "_law_broken" = some (some (.ref g_brk)))
    (l_brk : K.lookup g_brk = some ⟨oc_brk, od_brk, .func (PySem.W.fnOf "_law_broken" "_law_broken" (defArgs sBrk) (defBody sBrk) (defScope sBrk) .none kV_brk dc_brk pm_brk an_brk cd_brk ct_brk), sl_brk⟩)
    (c_brk : PySem.W.codeIn K cd_brk "_law_broken" = true)
    (k_brk : PySem.W.keepIn K (.ref g_brk) = true)
    (a_lrd : PySem.W.nsIn K mainGlobals "_law_read" = some (some (.ref g_lrd)))
    (l_lrd : K.lookup g_lrd = some ⟨oc_lrd, od_lrd, .func (PySem.W.fnOf "_law_read" "_law_read" (defArgs sLRd) (defBody sLRd) (defScope sLRd) .none kV_lrd dc_lrd pm_lrd an_lrd cd_lrd ct_lrd), sl_lrd⟩)
    (c_lrd : PySem.W.codeIn K cd_lrd "_law_read" = true)
    (k_lrd : PySem.W.keepIn K (.ref g_lrd) = true)
    (a_told : PySem.W.nsIn K mainGlobals "_law_told" = some (some (.ref g_told)))
    (l_told : K.lookup g_told = some ⟨oc_told, od_told, .func (PySem.W.fnOf "_law_told" "_law_told" (defArgs sTold) (defBody sTold) (defScope sTold) .none kV_told dc_told pm_told an_told cd_told ct_told), sl_told⟩)
    (c_told : PySem.W.codeIn K cd_told "_law_told" = true)
    (k_told : PySem.W.keepIn K (.ref g_told) = true)
    (a_bent : PySem.W.nsIn K mainGlobals "_law_bent" = some (some (.ref g_bent)))
    (l_bent : K.lookup g_bent = some ⟨oc_bent, od_bent, .func (PySem.W.fnOf "_law_bent" "_law_bent" (defArgs sBent) (defBody sBent) (defScope sBent) .none kV_bent dc_bent pm_bent an_bent cd_bent ct_bent), sl_bent⟩)
    (c_bent : PySem.W.codeIn K cd_bent "_law_bent" = true)
    (k_bent : PySem.W.keepIn K (.ref g_bent) = true)
    (a_law : PySem.W.nsIn K mainGlobals "law" = some (some (.ref g_law)))
    (l_law : K.lookup g_law = some ⟨oc_law, od_law, .func (PySem.W.fnOf "law" "law" (defArgs sLaw) (defBody sLaw) (defScope sLaw) .none kV_law dc_law pm_law an_law cd_law ct_law), sl_law⟩)
    (c_law : PySem.W.codeIn K cd_law "law" = true)
    (k_law : PySem.W.keepIn K (.ref g_law) = true)
    (z_int : PySem.W.nsIn K mainGlobals "int" = some none)
    (z_bool : PySem.W.nsIn K mainGlobals "bool" = some none)
    (z_str : PySem.W.nsIn K mainGlobals "str" = some none)
    (z_list : PySem.W.nsIn K mainGlobals "list" = some none)
    (z_tuple : PySem.W.nsIn K mainGlobals "tuple" = some none)
    (z_dict : PySem.W.nsIn K mainGlobals "dict" = some none)
    (z_isinstance : PySem.W.nsIn K mainGlobals "isinstance" = some none)
    (z_len : PySem.W.nsIn K mainGlobals "len" = some none)
    (z_all : PySem.W.nsIn K mainGlobals "all" = some none)
    (z_any : PySem.W.nsIn K mainGlobals "any" = some none)
    (z_abs : PySem.W.nsIn K mainGlobals "abs" = some none)
    (z_range : PySem.W.nsIn K mainGlobals "range" = some none)
    (z_enumerate : PySem.W.nsIn K mainGlobals "enumerate" = some none)
    (z_zip : PySem.W.nsIn K mainGlobals "zip" = some none)
    (z_max : PySem.W.nsIn K mainGlobals "max" = some none)
    (z_min : PySem.W.nsIn K mainGlobals "min" = some none)
    (z_repr : PySem.W.nsIn K mainGlobals "repr" = some none)
    (z_sorted : PySem.W.nsIn K mainGlobals "sorted" = some none)
    : ∃ fd : FuncData, (∀ (s : Shared) (v : Value), BindsTo s fd ⟨[v], []⟩ [("_law_script", v)]) ∧ ∀ base : Heap, K.In base → base.Ns mainGlobals mg → FnOk l.prog w K mg base CX0 11 fa fd ["_law_script"] (spLaw K) := by
  have e := hfa.symm.trans (PySem.W.mg_of X G a_law)
  cases e
  have M : ∀ {x : Str} {a : Addr}, PySem.W.nsIn K mainGlobals x = some (some (.ref a)) → mg x = some (.ref a) := fun h => PySem.W.mg_of X G h
  have N : ∀ {x : Str}, PySem.W.nsIn K mainGlobals x = some none → mg x = none := fun h => PySem.W.mg_none_of X G h
  have F_int := fun_mk (st := sInt) l_int c_int k_int
  have b_int := F_int.binds (ps := ["value"]) fun _ _ _ _ _ _ us hl => match us, hl with | [_], _ => rfl
  have F_num := fun_mk (st := sNum) l_num c_num k_num
  have b_num := F_num.binds (ps := ["value", "many"]) fun _ _ _ _ _ _ us hl => match us, hl with | [_, _], _ => rfl
  have F_seq := fun_mk (st := sSeq) l_seq c_seq k_seq
  have b_seq := F_seq.binds (ps := ["value"]) fun _ _ _ _ _ _ us hl => match us, hl with | [_], _ => rfl
  have F_name := fun_mk (st := sName) l_name c_name k_name
  have b_name := F_name.binds (ps := ["value"]) fun _ _ _ _ _ _ us hl => match us, hl with | [_], _ => rfl
  have F_names := fun_mk (st := sNames) l_names c_names k_names
  have b_names := F_names.binds (ps := ["value"]) fun _ _ _ _ _ _ us hl => match us, hl with | [_], _ => rfl
  have F_req := fun_mk (st := sReq) l_req c_req k_req
  have b_req := F_req.binds (ps := ["holds", "word"]) fun _ _ _ _ _ _ us hl => match us, hl with | [_, _], _ => rfl
  have F_rem := fun_mk (st := sRem) l_rem c_rem k_rem
  have b_rem := F_rem.binds (ps := ["value"]) fun _ _ _ _ _ _ us hl => match us, hl with | [_], _ => rfl
  have F_head := fun_mk (st := sHead) l_head c_head k_head
  have b_head := F_head.binds (ps := ["piece"]) fun _ _ _ _ _ _ us hl => match us, hl with | [_], _ => rfl
  have F_tail := fun_mk (st := sTail) l_tail c_tail k_tail
  have b_tail := F_tail.binds (ps := ["piece"]) fun _ _ _ _ _ _ us hl => match us, hl with | [_], _ => rfl
  have F_body := fun_mk (st := sBody) l_body c_body k_body
  have b_body := F_body.binds (ps := ["piece"]) fun _ _ _ _ _ _ us hl => match us, hl with | [_], _ => rfl
  have F_rows := fun_mk (st := sRowsOf) l_rows c_rows k_rows
  have b_rows := F_rows.binds (ps := ["piece"]) fun _ _ _ _ _ _ us hl => match us, hl with | [_], _ => rfl
  have F_check := fun_mk (st := sCheck) l_check c_check k_check
  have b_check := F_check.binds (ps := ["value"]) fun _ _ _ _ _ _ us hl => match us, hl with | [_], _ => rfl
  have F_rowat := fun_mk (st := sRowAt) l_rowat c_rowat k_rowat
  have b_rowat := F_rowat.binds (ps := ["rows", "at"]) fun _ _ _ _ _ _ us hl => match us, hl with | [_, _], _ => rfl
  have F_rbl := fun_mk (st := sRBl) l_rbl c_rbl k_rbl
  have b_rbl := F_rbl.binds (ps := ["rows", "at"]) fun _ _ _ _ _ _ us hl => match us, hl with | [_, _], _ => rfl
  have F_rah := fun_mk (st := sRAh) l_rah c_rah k_rah
  have b_rah := F_rah.binds (ps := ["rows", "at"]) fun _ _ _ _ _ _ us hl => match us, hl with | [_, _], _ => rfl
  have F_rhd := fun_mk (st := sRHd) l_rhd c_rhd k_rhd
  have b_rhd := F_rhd.binds (ps := ["rows", "at"]) fun _ _ _ _ _ _ us hl => match us, hl with | [_, _], _ => rfl
  have F_spl := fun_mk (st := sSpl) l_spl c_spl k_spl
  have b_spl := F_spl.binds (ps := ["text", "at"]) fun _ _ _ _ _ _ us hl => match us, hl with | [_, _], _ => rfl
  have F_rfl := fun_mk (st := sRFl) l_rfl c_rfl k_rfl
  have b_rfl := F_rfl.binds (ps := ["rest", "at"]) fun _ _ _ _ _ _ us hl => match us, hl with | [_, _], _ => rfl
  have F_rit := fun_mk (st := sRIt) l_rit c_rit k_rit
  have b_rit := F_rit.binds (ps := ["rows", "at"]) fun _ _ _ _ _ _ us hl => match us, hl with | [_, _], _ => rfl
  have F_rbr := fun_mk (st := sRBr) l_rbr c_rbr k_rbr
  have b_rbr := F_rbr.binds (ps := ["rows", "at"]) fun _ _ _ _ _ _ us hl => match us, hl with | [_, _], _ => rfl
  have F_rpc := fun_mk (st := sRPc) l_rpc c_rpc k_rpc
  have b_rpc := F_rpc.binds (ps := ["rows", "at"]) fun _ _ _ _ _ _ us hl => match us, hl with | [_, _], _ => rfl
  have F_rps := fun_mk (st := sRPs) l_rps c_rps k_rps
  have b_rps := F_rps.binds (ps := ["rows"]) fun _ _ _ _ _ _ us hl => match us, hl with | [_], _ => rfl
  have F_box := fun_mk (st := sBox) l_box c_box k_box
  have b_box := F_box.binds (ps := ["_law_script", "_law_k", "_law_own"]) fun _ _ _ _ _ _ us hl => match us, hl with | [_, _, _], _ => rfl
  have F_take := fun_mk (st := sTake) l_take c_take k_take
  have b_take := F_take.binds (ps := ["_law_box_here", "_law_many"]) fun _ _ _ _ _ _ us hl => match us, hl with | [_, _], _ => rfl
  have F_pick := fun_mk (st := sPick) l_pick c_pick k_pick
  have b_pick := F_pick.binds (ps := ["_law_box_here", "_law_items"]) fun _ _ _ _ _ _ us hl => match us, hl with | [_, _], _ => rfl
  have F_lname := fun_mk (st := sLName) l_lname c_lname k_lname
  have b_lname := F_lname.binds (ps := ["_law_box_here", "_law_most"]) fun _ _ _ _ _ _ us hl => match us, hl with | [_, _], _ => rfl
  have F_lpiece := fun_mk (st := sLPiece) l_lpiece c_lpiece k_lpiece
  have b_lpiece := F_lpiece.binds (ps := ["_law_box_here", "_law_many"]) fun _ _ _ _ _ _ us hl => match us, hl with | [_, _], _ => rfl
  have F_made := fun_mk (st := sLMade) l_made c_made k_made
  have b_made := F_made.binds (ps := ["_law_piece_here"]) fun _ _ _ _ _ _ us hl => match us, hl with | [_], _ => rfl
  have F_lflat := fun_mk (st := sLFlat) l_lflat c_lflat k_lflat
  have b_lflat := F_lflat.binds (ps := ["_law_piece_here", "_law_is_marked", "_law_remark_here"]) fun _ _ _ _ _ _ us hl => match us, hl with | [_, _, _], _ => rfl
  have F_llines := fun_mk (st := sLLines) l_llines c_llines k_llines
  have b_llines := F_llines.binds (ps := ["_law_piece_here"]) fun _ _ _ _ _ _ us hl => match us, hl with | [_], _ => rfl
  have F_ltext := fun_mk (st := sLText) l_ltext c_ltext k_ltext
  have b_ltext := F_ltext.binds (ps := ["_law_pieces"]) fun _ _ _ _ _ _ us hl => match us, hl with | [_], _ => rfl
  have F_isn := fun_mk (st := sIsN) l_isn c_isn k_isn
  have b_isn := F_isn.binds (ps := ["_law_text_here"]) fun _ _ _ _ _ _ us hl => match us, hl with | [_], _ => rfl
  have F_lrem := fun_mk (st := sLRem) l_lrem c_lrem k_lrem
  have b_lrem := F_lrem.binds (ps := ["_law_text_here"]) fun _ _ _ _ _ _ us hl => match us, hl with | [_], _ => rfl
  have F_one := fun_mk (st := sOne) l_one c_one k_one
  have b_one := F_one.binds (ps := ["_law_line"]) fun _ _ _ _ _ _ us hl => match us, hl with | [_], _ => rfl
  have F_brk := fun_mk (st := sBrk) l_brk c_brk k_brk
  have b_brk := F_brk.binds (ps := ["_law_lines_here", "_law_at"]) fun _ _ _ _ _ _ us hl => match us, hl with | [_, _], _ => rfl
  have F_lrd := fun_mk (st := sLRd) l_lrd c_lrd k_lrd
  have b_lrd := F_lrd.binds (ps := ["_law_text_here"]) fun _ _ _ _ _ _ us hl => match us, hl with | [_], _ => rfl
  have F_told := fun_mk (st := sTold) l_told c_told k_told
  have b_told := F_told.binds (ps := ["_law_text_here"]) fun _ _ _ _ _ _ us hl => match us, hl with | [_], _ => rfl
  have F_bent := fun_mk (st := sBent) l_bent c_bent k_bent
  have b_bent := F_bent.binds (ps := ["_law_box_here", "_law_lines_here"]) fun _ _ _ _ _ _ us hl => match us, hl with | [_, _], _ => rfl
  have F_law := fun_mk (st := sLaw) l_law c_law k_law
  have b_law := F_law.binds (ps := ["_law_script"]) fun _ _ _ _ _ _ us hl => match us, hl with | [_], _ => rfl
  have F_sP := fun_mk (st := sStrP) l_sP c_sP k_sP
  have b_sP := F_sP.binds (ps := ["self"]) fun _ _ _ _ _ _ us hl => match us, hl with | [_], _ => rfl
  have F_eqP := fun_mk (st := sEqP) l_eqP c_eqP k_eqP
  have b_eqP := F_eqP.binds (ps := ["self", "other"]) fun _ _ _ _ _ _ us hl => match us, hl with | [_, _], _ => rfl
  have D_rowat : Dfn K mg "row_at" sRowAt ["rows", "at"] := ⟨_, _, F_rowat, M a_rowat, b_rowat⟩
  have D_rbl : Dfn K mg "read_blanks" sRBl ["rows", "at"] := ⟨_, _, F_rbl, M a_rbl, b_rbl⟩
  have D_rah : Dfn K mg "read_ahead" sRAh ["rows", "at"] := ⟨_, _, F_rah, M a_rah, b_rah⟩
  have D_rhd : Dfn K mg "read_head" sRHd ["rows", "at"] := ⟨_, _, F_rhd, M a_rhd, b_rhd⟩
  have D_spl : Dfn K mg "split_remark" sSpl ["text", "at"] := ⟨_, _, F_spl, M a_spl, b_spl⟩
  have D_rfl : Dfn K mg "read_flat" sRFl ["rest", "at"] := ⟨_, _, F_rfl, M a_rfl, b_rfl⟩
  have D_rit : Dfn K mg "read_item" sRIt ["rows", "at"] := ⟨_, _, F_rit, M a_rit, b_rit⟩
  have D_rbr : Dfn K mg "read_broken" sRBr ["rows", "at"] := ⟨_, _, F_rbr, M a_rbr, b_rbr⟩
  have D_rpc : Dfn K mg "read_piece" sRPc ["rows", "at"] := ⟨_, _, F_rpc, M a_rpc, b_rpc⟩
  have D_rps : Dfn K mg "read_pieces" sRPs ["rows"] := ⟨_, _, F_rps, M a_rps, b_rps⟩
  have D_isn : Dfn K mg "_law_is_name" sIsN ["_law_text_here"] := ⟨_, _, F_isn, M a_isn, b_isn⟩
  have D_lrem : Dfn K mg "_law_remark" sLRem ["_law_text_here"] := ⟨_, _, F_lrem, M a_lrem, b_lrem⟩
  have D_one : Dfn K mg "_law_one_row" sOne ["_law_line"] := ⟨_, _, F_one, M a_one, b_one⟩
  have D_brk : Dfn K mg "_law_broken" sBrk ["_law_lines_here", "_law_at"] := ⟨_, _, F_brk, M a_brk, b_brk⟩
  have D_lrd : Dfn K mg "_law_read" sLRd ["_law_text_here"] := ⟨_, _, F_lrd, M a_lrd, b_lrd⟩
  have D_bent : Dfn K mg "_law_bent" sBent ["_law_box_here", "_law_lines_here"] := ⟨_, _, F_bent, M a_bent, b_bent⟩
  have isCX : ExcC K IT := ⟨gaX, ggX, exX, hdX, caX, hn, ht, moX⟩
  have XX : XC K mg IT fXI "InvalidText" "at" := ⟨⟨⟨_, _, _, _, _, _, _, _, _, _, _, _, _, _, _, xLX, refs_ok L⟩, saX, exX, tyX, kIT⟩, iniX, tiX, M aIT, noX, isCX, ⟨gaX, ggX, exX, hdX⟩⟩
  have F_X := fun_mk (st := sIText) l_X c_X k_X
  have b_X := F_X.binds (ps := ["self", "at"]) fun _ _ _ _ _ _ us hl => match us, hl with | [_, _], _ => rfl
  have F_read := fun_mk (st := sRead) l_read c_read k_read
  have FPI : FunD K "__init__" "Piece.__init__" (defArgs sPieceI) (defBody sPieceI) (defScope sPieceI) dPiece [] fPI _ :=
    ⟨⟨_, _, _, _, _, _, _, _, _, _, rfl, l_Ci, c_Ci, .inr ⟨(fun z => nomatch z), TC, _, _, _, rfl, l_TC, rfl, .cons rfl (.cons rfl (.cons ⟨_, rfl⟩ (.cons ⟨_, rfl⟩ (.cons ⟨_, rfl⟩ (.cons rfl .nil)))))⟩, .inl rfl⟩, k_Ci⟩
  have FGI : FunD K "__init__" "Program.__init__" (defArgs sProgI) (defBody sProgI) (defScope sProgI) [.ref eP] [] fGI _ :=
    ⟨⟨_, _, _, _, _, _, _, _, _, _, rfl, l_CPi, c_CPi, .inr ⟨(fun z => nomatch z), TCP, _, _, _, rfl, l_TCP, rfl, .cons rfl .nil⟩, .inl rfl⟩, k_CPi⟩
  have D : TxtD mg := ⟨N z_int, N z_len, N z_abs, N z_range⟩
  have T : TxtK mg := ⟨N z_int, N z_bool, N z_str, N z_list, N z_tuple, N z_isinstance, N z_len, N z_all, N z_enumerate⟩
  have B : Bt mg := ⟨N z_int, N z_bool, N z_str, N z_list, N z_tuple, N z_dict, N z_isinstance, N z_len, N z_all, N z_any, N z_abs, N z_range, N z_enumerate, N z_zip, N z_max, N z_min, N z_repr, N z_sorted⟩
  have cl : Cls K C := ⟨pgC, hdC, poC, saC⟩
  have ci : ClsI K C := ⟨cl, caC, hn, ht, moC⟩
  have cip : ClsI K CP := ⟨⟨pgCP, hdCP, poCP, saCP⟩, caCP, hn, ht, moCP⟩
  have ZC : PieceC K C := ⟨cl, noC_word, noC_parts, noC_broken, noC_marked, noC_ahead, noC_behind, noC_blanks, noC_left⟩
  have ZP : ProgC K CP := ⟨cip.cl, noCP_pieces⟩
  have mk1' : Mk K C fPI := ⟨mkC, inC, fiC, kpC⟩
  have mk2 : Mk K CP fGI := ⟨mkCP, inCP, fiCP, kpCP⟩
  refine ⟨PySem.W.fnOf "law" "law" (defArgs sLaw) (defBody sLaw) (defScope sLaw) .none kV_law dc_law pm_law an_law cd_law ct_law, fun s v => .of_eq rfl, fun base _ _ => ?_⟩
  have okName : FnOk l.prog w K mg base CX0 1 g_name _ ["value"] (spName K) := ok_name F_name T
  have okSeq : FnOk l.prog w K mg base CX0 1 g_seq _ ["value"] (spSeq K) := ok_seq F_seq T
  have okInt : FnOk l.prog w K mg base CX0 1 g_int _ ["value"] (spInt K) := ok_int F_int T
  have okNum := ok_num F_num okInt (M a_int) k_int b_int
  have okNames := ok_names F_names T okSeq (M a_seq) k_seq b_seq okName (M a_name) k_name b_name
  have Dp : PieceD l.prog w K mg base g_req g_name g_names g_rem g_num _ _ _ _ _ := ⟨ok_req F_req, M a_req, k_req, b_req, okName, M a_name, k_name, b_name,
    okNames, M a_names, k_names, b_names, ok_rem F_rem T okName (M a_name) k_name b_name, M a_rem, k_rem, b_rem, okNum, M a_num, k_num, b_num⟩
  have okPI := ok_pieceI (C := C) FPI T ZC Dp
  have okHead := ok_head (P := l.prog) (w := w) (mg := mg) (base := base) (C := C) F_head ZC
  have okTail := ok_tail (P := l.prog) (w := w) (mg := mg) (base := base) (C := C) F_tail ZC
  have okBody := ok_body F_body ZC okHead (M a_head) k_head b_head okTail (M a_tail) k_tail b_tail
  have okRows := ok_rowsOf F_rows ZC okBody (M a_body) k_body b_body
  have okCh := ok_checkG (P := l.prog) (w := w) (base := base) (C := C) F_check T okSeq (M a_seq) k_seq b_seq (M aC)
  have okGI := ok_progG (C := C) FGI T ZP okCh (M a_check) k_check b_check
  have okStr := ok_strP (CP := CP) F_sP ZP okRows (M a_rows) k_rows b_rows
  have okEqP := ok_eqPg F_eqP T (N z_str) cip (M aCP) okStr s_sP f_sP b_sP
  have hN : Has l.prog w K mg base CX0 1 "is_name" ["value"] (spName K) := ⟨_, _, okName, M a_name, k_name, b_name⟩
  have hNs : Has l.prog w K mg base CX0 2 "are_names" ["value"] (spNames K) := ⟨_, _, okNames, M a_names, k_names, b_names⟩
  have hRow := has_rowAt (P := l.prog) (w := w) (base := base) B D_rowat
  have hBl := has_RBl hRow D_rbl
  have hAh := has_RAh hRow hN D_rah
  have hHd := has_RHd hRow hN D_rhd
  have hSp := has_Spl hN D_spl
  have hIt := has_RIt hRow hN D_rit
  have hFl := has_RFl hSp hNs D_rfl
  have hBr := has_RBr B hRow hIt hSp D_rbr
  have hPc := has_RPc (C := C) (M aC) mk1' okPI (binds_piece8 FPI) hBl hAh hHd hFl hBr D_rpc
  have hPs := has_RPs B hPc D_rps
  have okRd := ok_read F_read B ci mk2 okGI (binds_prog FGI) hPs
  have emp : ∀ H : Hp, TupG K H eP [] := fun H => .inr ⟨_, _, _, l_eP, rfl, rfl, (by show 0 ≤ sizeLine; exact Nat.zero_le _), .nil⟩
  obtain ⟨ds0, v0, b0⟩ := binds_prog0 FGI
  have okRdE := ok_readE (C := C) F_read B mk2 okGI v0 b0 emp
  have rdA : FnR l.prog w K mg base CX0 7 gR (spReadA K C CP) := fnr_pos (fnok_or okRd okRdE) (fun s us h => match us, h with | [_, _], _ => .of_eq rfl)
  have PC : Pg l.prog w K mg base C CP := ⟨ZC, ci, cip, ZP, M aCP, ⟨_, _, mk2, okGI, binds_prog FGI, eP, ds0, v0, b0, emp⟩, ⟨_, _, okStr, s_sP, f_sP, b_sP⟩, ⟨_, _, okEqP, s_eqP, f_eqP, b_eqP⟩, neP, ⟨_, _, _, ⟨r_rd, r_ga⟩, ⟨r_at, ⟨_, r_rc⟩, r_fi⟩, rdA⟩⟩
  have Er : ErrT l.prog w K mg base IT := ⟨fXI, _, XX, ok_iText (P := l.prog) (w := w) (mg := mg) (base := base) (C := IT) F_X, b_X⟩
  have xRow := has_rowAtX B Er D_rowat
  have rowB := (hRow.r.up.mono3).or xRow.r
  have xBl := has_RBlX rowB D_rbl
  have xAh := has_RAhX Er xRow.r hRow hN D_rah
  have xHd := has_RHdX Er xRow.r hRow hN D_rhd
  have xSp := has_SplX Er hN D_spl
  have xIt := has_RItX Er xRow.r hRow hN D_rit
  have xFl := has_RFlX Er xSp.r hSp hNs D_rfl
  have itB := (hIt.r.up.mono3).or xIt.r
  have spB := (hSp.r.up.mono3).or xSp.r
  have xBr := has_RBrX B Er rowB itB spB D_rbr
  have xPc := has_RPcX hBl hAh hHd xBl.r xAh.r xHd.r xFl.r xBr.r D_rpc
  have pcB := (hPc.r.up.mono3).or xPc.r
  have xPs := has_RPsX B pcB D_rps
  have okRdX := ok_readX F_read B Er mk2 okGI (binds_prog FGI) xPs.r
  have rdX : FnR l.prog w K mg base (L2.CX l.prog w) 8 gR (spXRead K CP IT) := fnr_pos okRdX (fun s us h => match us, h with | [_, _], _ => .of_eq rfl)
  have rdB : FnR l.prog w K mg base (L2.CX l.prog w) 8 gR (spReadX K C CP IT) := fnr_or (fnr_up (rdA.mono (by decide))) rdX
  have okTake : FnOk l.prog w K mg base CX0 1 g_take _ ["_law_box_here", "_law_many"] spTake := ok_take F_take D
  have okPick := ok_pick (P := l.prog) (w := w) (base := base) F_pick D F_take b_take (M a_take)
  have okLN := ok_lname F_lname (N z_range) (N z_list) okTake (M a_take) k_take b_take okPick (M a_pick) k_pick b_pick
  have okLP := ok_lpiece F_lpiece (N z_range) okTake (M a_take) k_take b_take okPick (M a_pick) k_pick b_pick okLN (M a_lname) k_lname b_lname
  have okMd := ok_lmade F_made (M aC) mk1' okPI (binds_piece8 FPI)
  have okLF := ok_lflat (P := l.prog) (w := w) (K := K) (mg := mg) (base := base) F_lflat
  have okLL := ok_llines F_llines (N z_len) (N z_enumerate) okLF (M a_lflat) k_lflat b_lflat
  have okLT := ok_ltext F_ltext okLL (M a_llines) k_llines b_llines
  have hIsN := has_IsN (P := l.prog) (w := w) (base := base) B D_isn
  have hRem := has_LRem hIsN D_lrem
  have hOne := has_One B hIsN hRem D_one
  have hBrk := has_Brk B hIsN hRem D_brk
  have hLRd := has_LRd B hIsN hOne hBrk D_lrd
  have hT : Has l.prog w K mg base CX0 1 "_law_take" ["_law_box_here", "_law_many"] spTake := ⟨_, _, okTake, M a_take, k_take, b_take⟩
  have hK : Has l.prog w K mg base CX0 2 "_law_pick" ["_law_box_here", "_law_items"] (spPick K) := ⟨_, _, okPick, M a_pick, k_pick, b_pick⟩
  have hBent := has_Bent B hT hK D_bent
  have okTd := ok_told F_told XX (PySem.W.exm_ref exX hdX tyX sSX) (M aCP) ⟨r_rd, r_ga⟩ ⟨r_at, ⟨_, r_rc⟩, r_fi⟩ rdB
  exact ok_Law B PC (kit_type (by decide +kernel) sIP) ⟨_, _, ok_box F_box D, M a_box, k_box, b_box⟩ hT ⟨_, _, okLP, M a_lpiece, k_lpiece, b_lpiece⟩ ⟨_, _, okMd, M a_made, k_made, b_made⟩ hK ⟨_, _, okLT, M a_ltext, k_ltext, b_ltext⟩ hBent hLRd ⟨_, _, okTd, M a_told, k_told, b_told⟩ F_law
end Lay
open PySem PySem.W PyProof.Rows
set_option Elab.async false
set_option maxRecDepth 100000 in
set_option maxHeartbeats 0 in
theorem PySem.Challenge.cw_laytwice_k06_texts_of_programs_holds : PySem.Challenge.rw_laytwice_k06_texts_of_programs.Holds := by
  w_on; o_law; k_head; (case hw => w_witness2)
  k_fill
  refine L2.walk_of (l := PySem.Challenge.rw_laytwice_k06_texts_of_programs) (n := 63) (k := 11) (x := "_law_script") (CX := fun _ => L2.CX0) (sp := fun w => Lay.spLaw _) rfl (by decide) rfl ⟨rfl, by decide, by decide⟩ (fun w h Y => PySem.W.kIn_of Y) ?F (fun _ _ a ns hl _ hS => ⟨a, ns, rfl, hS, hl, fun _ => rfl⟩) (fun _ _ _ _ _ z => z.elim)
  case F =>
    intro w mg fa h KX G hmg
    refine' Lay.all_mk KX G hmg ?aL ?tL ?hL ?hn ?ht ?aC ?pgC ?hdC ?poC ?saC ?caC ?moC ?nlC ?ntC ?nbC ?tyC ?noC_word ?noC_parts ?noC_broken ?noC_marked ?noC_ahead ?noC_behind ?noC_blanks ?noC_left ?mkC ?inC ?fiC ?kpC ?l_Ci ?c_Ci ?k_Ci ?l_TC ?aCP ?pgCP ?hdCP ?poCP ?saCP ?caCP ?moCP ?nlCP ?ntCP ?nbCP ?tyCP ?noCP_pieces ?mkCP ?inCP ?fiCP ?kpCP ?l_CPi ?c_CPi ?k_CPi ?l_TCP ?l_eP ?s_sP ?f_sP ?l_sP ?c_sP ?k_sP ?s_eqP ?f_eqP ?l_eqP ?c_eqP ?k_eqP ?sIP ?aIT ?tyX ?kIT ?exX ?sLX ?sSX ?gaX ?ggX ?hdX ?caX ?moX ?xLX ?saX ?iniX ?tiX ?noX ?l_X ?c_X ?k_X ?neP ?r_rd ?r_ga ?r_at ?r_rc ?r_fi ?l_read ?c_read ?k_read ?a_int ?l_int ?c_int ?k_int ?a_num ?l_num ?c_num ?k_num ?a_seq ?l_seq ?c_seq ?k_seq ?a_name ?l_name ?c_name ?k_name ?a_names ?l_names ?c_names ?k_names ?a_req ?l_req ?c_req ?k_req ?a_rem ?l_rem ?c_rem ?k_rem ?a_head ?l_head ?c_head ?k_head ?a_tail ?l_tail ?c_tail ?k_tail ?a_body ?l_body ?c_body ?k_body ?a_rows ?l_rows ?c_rows ?k_rows ?a_check ?l_check ?c_check ?k_check ?a_rowat ?l_rowat ?c_rowat ?k_rowat ?a_rbl ?l_rbl ?c_rbl ?k_rbl ?a_rah ?l_rah ?c_rah ?k_rah ?a_rhd ?l_rhd ?c_rhd ?k_rhd ?a_spl ?l_spl ?c_spl ?k_spl ?a_rfl ?l_rfl ?c_rfl ?k_rfl ?a_rit ?l_rit ?c_rit ?k_rit ?a_rbr ?l_rbr ?c_rbr ?k_rbr ?a_rpc ?l_rpc ?c_rpc ?k_rpc ?a_rps ?l_rps ?c_rps ?k_rps ?a_box ?l_box ?c_box ?k_box ?a_take ?l_take ?c_take ?k_take ?a_pick ?l_pick ?c_pick ?k_pick ?a_lname ?l_lname ?c_lname ?k_lname ?a_lpiece ?l_lpiece ?c_lpiece ?k_lpiece ?a_made ?l_made ?c_made ?k_made ?a_lflat ?l_lflat ?c_lflat ?k_lflat ?a_llines ?l_llines ?c_llines ?k_llines ?a_ltext ?l_ltext ?c_ltext ?k_ltext ?a_isn ?l_isn ?c_isn ?k_isn ?a_lrem ?l_lrem ?c_lrem ?k_lrem ?a_one ?l_one ?c_one ?k_one ?a_brk ?l_brk ?c_brk ?k_brk ?a_lrd ?l_lrd ?c_lrd ?k_lrd ?a_told ?l_told ?c_told ?k_told ?a_bent ?l_bent ?c_bent ?k_bent ?a_law ?l_law ?c_law ?k_law ?z_int ?z_bool ?z_str ?z_list ?z_tuple ?z_dict ?z_isinstance ?z_len ?z_all ?z_any ?z_abs ?z_range ?z_enumerate ?z_zip ?z_max ?z_min ?z_repr ?z_sorted
    (case aL => k_is)
    (case tL => k_is)
    (case hL => k_is)
    (case hn => k_is)
    (case ht => k_is)
    (case aC => k_is)
    (case pgC => k_is)
    (case hdC => k_is)
    (case poC => k_is)
    (case saC => k_is)
    (case caC => k_is)
    (case moC => k_is)
    (case nlC => k_is)
    (case ntC => k_is)
    (case nbC => k_is)
    (case tyC => k_is)
    (case noC_word => k_is)
    (case noC_parts => k_is)
    (case noC_broken => k_is)
    (case noC_marked => k_is)
    (case noC_ahead => k_is)
    (case noC_behind => k_is)
    (case noC_blanks => k_is)
    (case noC_left => k_is)
    (case mkC => k_is)
    (case inC => k_is)
    (case fiC => k_is)
    (case kpC => k_is)
    (case l_Ci => k_is)
    (case c_Ci => k_is)
    (case k_Ci => k_is)
    (case l_TC => k_is)
    (case aCP => k_is)
    (case pgCP => k_is)
    (case hdCP => k_is)
    (case poCP => k_is)
    (case saCP => k_is)
    (case caCP => k_is)
    (case moCP => k_is)
    (case nlCP => k_is)
    (case ntCP => k_is)
    (case nbCP => k_is)
    (case tyCP => k_is)
    (case noCP_pieces => k_is)
    (case mkCP => k_is)
    (case inCP => k_is)
    (case fiCP => k_is)
    (case kpCP => k_is)
    (case l_CPi => k_is)
    (case c_CPi => k_is)
    (case k_CPi => k_is)
    (case l_TCP => k_is)
    (case l_eP => k_is)
    (case s_sP => k_is)
    (case f_sP => k_is)
    (case l_sP => k_is)
    (case c_sP => k_is)
    (case k_sP => k_is)
    (case s_eqP => k_is)
    (case f_eqP => k_is)
    (case l_eqP => k_is)
    (case c_eqP => k_is)
    (case k_eqP => k_is)
    (case sIP => k_is)
    (case aIT => k_is)
    (case tyX => k_is)
    (case kIT => k_is)
    (case exX => k_is)
    (case sLX => k_is)
    (case sSX => k_is)
    (case gaX => k_is)
    (case ggX => k_is)
    (case hdX => k_is)
    (case caX => k_is)
    (case moX => k_is)
    (case xLX => k_is)
    (case saX => k_is)
    (case iniX => k_is)
    (case tiX => k_is)
    (case noX => k_is)
    (case l_X => k_is)
    (case c_X => k_is)
    (case k_X => k_is)
    (case neP => k_is)
    (case r_rd => k_is)
    (case r_ga => k_is)
    (case r_at => k_is)
    (case r_rc => k_is)
    (case r_fi => k_is)
    (case l_read => k_is)
    (case c_read => k_is)
    (case k_read => k_is)
    (case a_int => k_is)
    (case l_int => k_is)
    (case c_int => k_is)
    (case k_int => k_is)
    (case a_num => k_is)
    (case l_num => k_is)
    (case c_num => k_is)
    (case k_num => k_is)
    (case a_seq => k_is)
    (case l_seq => k_is)
    (case c_seq => k_is)
    (case k_seq => k_is)
    (case a_name => k_is)
    (case l_name => k_is)
    (case c_name => k_is)
    (case k_name => k_is)
    (case a_names => k_is)
    (case l_names => k_is)
    (case c_names => k_is)
    (case k_names => k_is)
    (case a_req => k_is)
    (case l_req => k_is)
    (case c_req => k_is)
    (case k_req => k_is)
    (case a_rem => k_is)
    (case l_rem => k_is)
    (case c_rem => k_is)
    (case k_rem => k_is)
    (case a_head => k_is)
    (case l_head => k_is)
    (case c_head => k_is)
    (case k_head => k_is)
    (case a_tail => k_is)
    (case l_tail => k_is)
    (case c_tail => k_is)
    (case k_tail => k_is)
    (case a_body => k_is)
    (case l_body => k_is)
    (case c_body => k_is)
    (case k_body => k_is)
    (case a_rows => k_is)
    (case l_rows => k_is)
    (case c_rows => k_is)
    (case k_rows => k_is)
    (case a_check => k_is)
    (case l_check => k_is)
    (case c_check => k_is)
    (case k_check => k_is)
    (case a_rowat => k_is)
    (case l_rowat => k_is)
    (case c_rowat => k_is)
    (case k_rowat => k_is)
    (case a_rbl => k_is)
    (case l_rbl => k_is)
    (case c_rbl => k_is)
    (case k_rbl => k_is)
    (case a_rah => k_is)
    (case l_rah => k_is)
    (case c_rah => k_is)
    (case k_rah => k_is)
    (case a_rhd => k_is)
    (case l_rhd => k_is)
    (case c_rhd => k_is)
    (case k_rhd => k_is)
    (case a_spl => k_is)
    (case l_spl => k_is)
    (case c_spl => k_is)
    (case k_spl => k_is)
    (case a_rfl => k_is)
    (case l_rfl => k_is)
    (case c_rfl => k_is)
    (case k_rfl => k_is)
    (case a_rit => k_is)
    (case l_rit => k_is)
    (case c_rit => k_is)
    (case k_rit => k_is)
    (case a_rbr => k_is)
    (case l_rbr => k_is)
    (case c_rbr => k_is)
    (case k_rbr => k_is)
    (case a_rpc => k_is)
    (case l_rpc => k_is)
    (case c_rpc => k_is)
    (case k_rpc => k_is)
    (case a_rps => k_is)
    (case l_rps => k_is)
    (case c_rps => k_is)
    (case k_rps => k_is)
    (case a_box => k_is)
    (case l_box => k_is)
    (case c_box => k_is)
    (case k_box => k_is)
    (case a_take => k_is)
    (case l_take => k_is)
    (case c_take => k_is)
    (case k_take => k_is)
    (case a_pick => k_is)
    (case l_pick => k_is)
    (case c_pick => k_is)
    (case k_pick => k_is)
    (case a_lname => k_is)
    (case l_lname => k_is)
    (case c_lname => k_is)
    (case k_lname => k_is)
    (case a_lpiece => k_is)
    (case l_lpiece => k_is)
    (case c_lpiece => k_is)
    (case k_lpiece => k_is)
    (case a_made => k_is)
    (case l_made => k_is)
    (case c_made => k_is)
    (case k_made => k_is)
    (case a_lflat => k_is)
    (case l_lflat => k_is)
    (case c_lflat => k_is)
    (case k_lflat => k_is)
    (case a_llines => k_is)
    (case l_llines => k_is)
    (case c_llines => k_is)
    (case k_llines => k_is)
    (case a_ltext => k_is)
    (case l_ltext => k_is)
    (case c_ltext => k_is)
    (case k_ltext => k_is)
    (case a_isn => k_is)
    (case l_isn => k_is)
    (case c_isn => k_is)
    (case k_isn => k_is)
    (case a_lrem => k_is)
    (case l_lrem => k_is)
    (case c_lrem => k_is)
    (case k_lrem => k_is)
    (case a_one => k_is)
    (case l_one => k_is)
    (case c_one => k_is)
    (case k_one => k_is)
    (case a_brk => k_is)
    (case l_brk => k_is)
    (case c_brk => k_is)
    (case k_brk => k_is)
    (case a_lrd => k_is)
    (case l_lrd => k_is)
    (case c_lrd => k_is)
    (case k_lrd => k_is)
    (case a_told => k_is)
    (case l_told => k_is)
    (case c_told => k_is)
    (case k_told => k_is)
    (case a_bent => k_is)
    (case l_bent => k_is)
    (case c_bent => k_is)
    (case k_bent => k_is)
    (case a_law => k_is)
    (case l_law => k_is)
    (case c_law => k_is)
    (case k_law => k_is)
    (case z_int => k_is)
    (case z_bool => k_is)
    (case z_str => k_is)
    (case z_list => k_is)
    (case z_tuple => k_is)
    (case z_dict => k_is)
    (case z_isinstance => k_is)
    (case z_len => k_is)
    (case z_all => k_is)
    (case z_any => k_is)
    (case z_abs => k_is)
    (case z_range => k_is)
    (case z_enumerate => k_is)
    (case z_zip => k_is)
    (case z_max => k_is)
    (case z_min => k_is)
    (case z_repr => k_is)
    (case z_sorted => k_is)
