import PyProof.Rows.All
import Wide.All
import OpenK.AllK
import Wide.FinOn
import PyProof.EqAt
import PyProof.EqKinds
import PyProof.TupleCall
import PyProof.DictUpdate
import PyProof.ListStr
import OpenK.KEqL
import KE.GoesMore
import KE.KExcIs
import KE.KStar
import KE.KCallOwn
import KE.KParD
import HandS.Base
import HandS.Call
import HandS.List
import HandS.Dict
import HandS.More
import HandS.Exc
import HandS.Slots
import HandS.Star
import HandS.MakeKw
import HandS.ForMost
import HandS.Codes
import HandS.Walk
import HandS.WordsExc
import HandS.Style
import HandS.ExcIs
import HandS.ExcInit
import HandS.ExcField
import HandS.TupAny
import HandS.IsInst
import HandS.StrMore
import HandS.Defaults
import HandS.ExcOwn
import HandS.RaiseMore
import HandS.Text
import HandS.OwnEq
import HandS.NoneIn
import HandS.ExcValue
import HandS.Zip
import HandS.FStr
import HandS.Comp
import HandS.DictComp
import HandS.Property
import HandS.CallLocal
import HandS.WrittenGet
import PyProof.StrLawsRepr
import PyProof.StrLawsTight
import PyProof.StrLawsAffix
import PyProof.Rows.StrNews2
import HandS.ClsMeth
import HandS.MakeKwOnly
import HandS.TryOnly
import HandS.ForExc
import PySem.Challenge.RW_laytwice_k07_whole_programs_and_their_pa
set_option Elab.async false
set_option linter.all false
set_option maxRecDepth 100000
set_option maxHeartbeats 4000000
set_option pp.maxSteps 1500
/-! Keywords: a def with ** that is called with keywords, a class that is called with **. -/
namespace KwX
open PySem PySem.Spec PyProof.Rows L2 StX

/-! ### a dict merged into another one (mergeMapping) -/
section
variable {prog : Program} {w : World} {Kt : Type} [DecidableEq Kt] {knd : KeyKind prog w Kt} {A : Around} {E : Value → Shared → Prop} {s : Shared}
theorem wpAny_dictPut {d : Addr} {kvs : List (Kt × Value)} {k : Kt} {key v : Value} {Q : Unit → Shared → Prop} (hkey : knd.is k key = true) (hm : s.heap.DictOf knd d kvs)
    (hQ : ∀ h', h'.DictOf knd d (stored kvs k v) → Heap.SameBut d s.heap h' → Q () { s with heap := h' })
    (hsz : kvs.length ≤ sizeLine) :
    wpAny (model prog w) A (dictPut d (knd.hash k) key v) Q E s := by
  obtain ⟨o, es, ep, ho, hc, hd, hk, hp, hn⟩ := hm
  have hes : es.size ≤ sizeLine := by
    have e1 := hp.length
    have e2 : es.toList.length = es.size := by simp
    omega
  unfold dictPut
  refine wpAny_bind (wpAny_dictFind_of hkey ho hd hk ?_)
  have hidx : (es.findIdx? fun e => knd.is k e.key) = kvs.findIdx? fun kv => decide (kv.1 = k) := by
    rw [← hp.findIdx k]; obtain ⟨l⟩ := es; simp
  cases hi : es.findIdx? fun e => knd.is k e.key with
  | some i =>
    refine wpAny_updateDict ho hd (hQ _ ⟨_, _, ep, Heap.get?_update_self _ ho (Obj.isFreed_of_dict (Obj.data_mapDict hd _)),
      hc.mapDict _, Obj.data_mapDict hd _, hk.modify _ _, ?_, ?_⟩ (Heap.SameBut.update ..))
    · rw [stored, if_pos (any_of_findIdx_some (hidx ▸ hi))]
      have hl : (es.toList.findIdx? fun e => knd.is k e.key) = some i := by rw [← hi]; obtain ⟨l⟩ := es; simp
      have := hp.modify hn hl v
      obtain ⟨l⟩ := es
      simpa using this
    · rw [stored, if_pos (any_of_findIdx_some (hidx ▸ hi)), keys_map_store]; exact hn
  | none =>
    have hnot : k ∉ kvs.map (·.1) := not_mem_of_findIdx_none (hidx ▸ hi)
    have hany : ¬ (kvs.any fun kv => decide (kv.1 = k)) = true := by
      rw [List.any_eq_true]; rintro ⟨kv, hkv, he⟩
      exact hnot (List.mem_map.mpr ⟨kv, hkv, of_decide_eq_true he⟩)
    refine wpAny_updateDictKeys (hz := hes) ho hd (hQ _ ⟨_, _, ep + 1, Heap.get?_update_self _ ho (Obj.isFreed_of_dict (Obj.data_mapDictKeys hd _)),
      hc.mapDictKeys _, Obj.data_mapDictKeys hd _, hk.push hkey _, ?_, ?_⟩ (Heap.SameBut.update ..))
    · rw [stored, if_neg hany]
      have := hp.append hkey (knd.hash k) v
      obtain ⟨l⟩ := es
      simpa using this
    · rw [stored, if_neg hany, List.map_append, List.nodup_append]
      refine ⟨hn, by simp, ?_⟩
      intro a ha b hb
      simp only [List.map_cons, List.map_nil, List.mem_singleton] at hb
      subst hb
      exact fun e => hnot (e ▸ ha)

theorem wpAny_mergeMapping {u : Bool} {d o : Addr} {kvs more : List (Kt × Value)} {Q : Unit → Shared → Prop} (hdo : d ≠ o) (hoS : (o == sysModules) = false)
    (hd : s.heap.DictOf knd d kvs) (ho : s.heap.DictOf knd o more) (hu : u = true → ((kvs ++ more).map (·.1)).Nodup)
    (hQ : ∀ h', h'.DictOf knd d (merged kvs more) → h'.DictOf knd o more → Heap.SameBut d s.heap h' → Q () { s with heap := h' })
    (hsz : kvs.length + more.length ≤ sizeLine) :
    wpAny (model prog w) A (mergeMapping d (.ref o) u) Q E s := by
  obtain ⟨od, esd, epd, hod, hcd, hdd, hkd, hpd, hnd⟩ := id hd
  obtain ⟨oo, eso, epo, hoo, hco, hdo', hko, hpo, hno⟩ := id ho
  have hlen : more.length = eso.size := by rw [← hpo.length]; simp
  have hT : s.TypeIs (.ref o) "dict" := ⟨oo, hoo, hco.1⟩
  unfold mergeMapping
  refine wpAny_bind (wpAny_isInstance (T := "dict") hT PySem.F.sub_dict_dict ?_)
  dsimp only
  rw [if_pos rfl]
  refine wpAny_bind (wpAny_specialOf hT PySem.F.slot_dict_iter.lookup ?_)
  have hb : ((some (Value.builtin "dict.__iter__")) == some (Value.builtin "dict.__iter__")) = true := by decide +kernel
  refine wpAny_bind (wpAny_pure ?_)
  rw [hb]
  dsimp only
  rw [if_neg (by rw [hoS]; exact Bool.false_ne_true)]
  refine wpAny_bind (wpAny_dictEntries hod hdd ?_)
  have loop : wpAny (model prog w) A (do
      let l ← dictEntries o
      let epoch ← dictEpoch o
      forIn (List.range l.size) PUnit.unit fun i (_ : PUnit) => do
          let l' ← dictEntries o
          match l'[i]? with
            | some e => do
              holding [e.key, e.val]
                  (have jp := fun (_ : Unit) => dictPut d e.hash e.key e.val
                   if u = true then do
                     let f ← dictFind d e.key e.hash
                     if f.isSome = true then do
                       rule "dict.merge.duplicate-key"
                       let x ← newExc (Value.type "KeyError") [e.key]
                       let r ← raiseNew x
                       jp r
                     else jp ()
                   else jp ())
              let ep' ← dictEpoch o
              if (ep' != epoch) = true then do
                unsupported "dict.changed-during-merge"
                pure (ForInStep.yield PUnit.unit)
              else pure (ForInStep.yield PUnit.unit)
            | x => do
              unsupported "dict.changed-during-merge"
              pure (ForInStep.yield PUnit.unit)
      pure ()) Q E s := by
    refine wpAny_bind (wpAny_dictEntries hoo hdo' ?_)
    refine wpAny_bind (wpAny_dictEpoch hoo hdo' ?_)
    refine wpAny_bind ?_
    rw [List.range_eq_range']
    refine wpAny_forIn_list _
      (fun rest _ s' => ∃ h' i, s' = { s with heap := h' } ∧ rest = List.range' i (eso.size - i) ∧ i ≤ eso.size ∧ h'.DictOf knd d (merged kvs (more.take i)) ∧ h'.get? o = some oo ∧ Heap.SameBut d s.heap h')
      _ ?_ ?_ _ _ ⟨s.heap, 0, rfl, by simp, Nat.zero_le _, by simpa [merged] using hd, hoo, Heap.SameBut.refl _ _⟩
    · rintro x rest b s' ⟨h', i, rfl, hr, hi, hd', hoo', hs'⟩
      have hlt : i < eso.size := by
        rcases Nat.lt_or_ge i eso.size with h | h
        · exact h
        · rw [Nat.sub_eq_zero_of_le h] at hr; simp at hr
      obtain ⟨rfl, hrest⟩ : x = i ∧ rest = List.range' (i + 1) (eso.size - (i + 1)) := by
        have e : eso.size - i = (eso.size - (i + 1)) + 1 := by omega
        rw [e, List.range'_succ] at hr
        injection hr with h1 h2
        exact ⟨h1, h2⟩
      refine wpAny_bind (wpAny_dictEntries hoo' hdo' ?_)
      rw [Array.getElem?_eq_getElem hlt]
      obtain ⟨kv, hkv⟩ : ∃ kv, more[x]? = some kv := ⟨more[x]'(by rw [hlen]; exact hlt), List.getElem?_eq_getElem _⟩
      obtain ⟨k, v⟩ := kv
      obtain ⟨hkey, hval⟩ := hpo.get? (e := eso[x]) (by simp [hlt]) hkv
      obtain ⟨k', hkey', hhash⟩ := hko eso[x] (Array.getElem_mem hlt)
      obtain rfl : k' = k := knd.inj _ _ _ hkey' hkey
      have hmx : (merged kvs (more.take x)).length ≤ sizeLine := by
        have e1 := merged_length_le kvs (more.take x)
        have e2 : (more.take x).length ≤ more.length := by rw [List.length_take]; omega
        omega
      dsimp only
      rw [hhash, hval]
      refine wpAny_bind (wpAny_holding ?_)
      cases u
      case' true =>
        obtain ⟨o1, es1, ep1, ho1, hc1, hd1, hk1, hp1, hn1⟩ := id hd'
        rw [if_pos rfl]
        refine wpAny_bind (wpAny_dictFind_of hkey' ho1 hd1 hk1 ?_)
        have hno1 : (es1.findIdx? fun e => knd.is k' e.key) = none := by
          have e0 : (es1.findIdx? fun e => knd.is k' e.key) = es1.toList.findIdx? fun e => knd.is k' e.key := by obtain ⟨l⟩ := es1; simp
          rw [e0, hp1.findIdx k', List.findIdx?_eq_none_iff]
          intro kv hkv1
          refine decide_eq_false fun e => ?_
          have hN := hu rfl
          have eT : more = more.take x ++ (k', v) :: more.drop (x + 1) := by
            have l1 : x < more.length := by rw [hlen]; exact hlt
            have := List.getElem?_eq_some_iff.mp hkv
            obtain ⟨l2, e2⟩ := this
            rw [← e2]
            simp
          have hN2 : ((kvs ++ more.take x).map (·.1)).Nodup := by
            rw [eT, ← List.append_assoc, List.map_append] at hN
            exact (List.nodup_append.mp hN).1
          rw [merged_append_of_fresh _ _ hN2] at hkv1
          rw [eT, ← List.append_assoc, List.map_append] at hN
          exact (List.nodup_append.mp hN).2.2 kv.1 (List.mem_map_of_mem hkv1) k' (by simp) e
        rw [hno1]
      all_goals
        refine wpAny_dictPut hkey' hd' (fun h'' hd'' hs'' => ?_) hmx
        have hoo'' : h''.get? o = some oo := (hs''.2 o (Ne.symm hdo)).trans hoo'
        refine wpAny_bind (wpAny_dictEpoch hoo'' hdo' ?_)
        rw [if_neg (by simp)]
        exact wpAny_pure ⟨h'', x + 1, rfl, hrest, hlt, by rw [merged_take_succ kvs more x (k', v) hkv]; exact hd'', hoo'', hs'.trans hs''⟩
    · rintro b s' ⟨h', i, rfl, hr, hi, hd', hoo', hs'⟩
      have hin : i = eso.size := by
        rcases Nat.lt_or_ge i eso.size with h | h
        · have e : eso.size - i = (eso.size - (i + 1)) + 1 := by omega
          rw [e, List.range'_succ] at hr; exact nomatch hr
        · exact Nat.le_antisymm hi h
      refine wpAny_pure (hQ h' ?_ ⟨oo, eso, epo, hoo', hco, hdo', hko, hpo, hno⟩ hs')
      rw [hin, ← hlen, List.take_length] at hd'; exact hd'
  split
  · refine wpAny_bind (wpAny_dictEntries hoo hdo' ?_)
    refine wpAny_bind ?_
    have scan : ∀ (l : List DictEntry), (∀ e ∈ l, ∃ k, knd.is k e.key = true) → ∀ (g : DictEntry → PUnit → Sem (ForInStep PUnit)), (∀ e, (∀ a, e.key ≠ .ref a) → g e ⟨⟩ = pure (.yield ⟨⟩)) → ∀ {R : PUnit → Shared → Prop}, R ⟨⟩ s → wpAny (model prog w) A (forIn l PUnit.unit g) R E s := by
      intro l hl g hg R hR
      induction l with
      | nil => rw [List.forIn_nil]; exact wpAny_pure hR
      | cons e l ih =>
        obtain ⟨k, hk⟩ := hl e (List.mem_cons_self ..)
        rw [List.forIn_cons, hg e (fun a z => by have := knd.byValue k _ hk; rw [z] at this; cases this)]
        exact wpAny_bind (wpAny_pure (ih fun e he => hl e (List.mem_cons_of_mem _ he)))
    rw [← Array.forIn_toList]
    refine scan _ (fun e he => ?_) _ (fun e he => ?_) loop
    · obtain ⟨k, hk, _⟩ := hko e (Array.mem_def.mpr he)
      exact ⟨k, hk⟩
    · cases q : e.key with
      | ref a => exact absurd q (he a)
      | _ => rfl
  · exact loop
end
end KwX
set_option Elab.async false
set_option linter.all false
set_option maxRecDepth 100000
set_option maxHeartbeats 4000000
set_option pp.maxSteps 1500
namespace KwX
open PySem PySem.Spec PyProof.Rows L2 StX
/-! ### C( **d) -/
section
variable {M : Model} {A : Around} {E : Value → Shared → Prop} {s : Shared}
theorem kk_call {f : Value} {first : List Value} {pos : Pos} {Q : Value → Shared → Prop} {P : Heap → Prop} {args : List (Bool × Sem Value)} {kws : List (Option Str × Sem Value)} (hst : (args.any (·.1) || kws.any (·.1.isNone)) = true)
    (hk : ∀ h, P h → ∃ k, (k = Keeper.frame ∨ k = Keeper.machine ∨ k = Keeper.boundFrame) ∧ PySem.W.Looks M h (keeperOf f) k)
    (h : wpAny M A (evalArgs f true args kws) (fun a s₁ => P s₁.heap ∧ wpAny M A (call f (first ++ a.pos) a.kw) Q E s₁) E s) : wpAny M A (callWith pos f first args kws) Q E s := by
  unfold callWith
  refine wpAny_bind (wpAny_holding (wpAny_mono h (fun a s₁ h₁ => wpAny_bind (wpAny_standAt ?_)) fun _ _ x => x))
  obtain ⟨k, hk', L⟩ := hk _ h₁.1
  simp only [hst]
  refine wpAny_bind (L.here ?_)
  have tail : ∀ {t : Sem Value}, wpAny M A t Q E s₁ → wpAny M A (t >>= fun r => holding [r] point >>= fun _ => pure r) Q E s₁ :=
    fun ht => wpAny_bind (wpAny_mono ht (fun r s₂ hr => wpAny_bind (wpAny_holding (wpAny_point (wpAny_pure hr)))) fun _ _ x => x)
  have marked (mk : Value) : wpAny M A (callMarked mk f (first ++ a.pos) a.kw) Q E s₁ := by unfold callMarked; exact Calls.wpAny_keep h₁.2
  rcases hk' with rfl | rfl | rfl <;> dsimp only <;> first | exact tail (marked _) | exact tail (wpAny_operating h₁.2)
/-- the arguments of f( **e): a new dict at d, e, its pairs merged, and read -/
theorem kk_args {f : Value} {x : Sem Value} {pos : Pos} {Q : Args → Shared → Prop}
    (h : wpAny M A (alloc ({ cls := .type "dict", data := .dict #[] } : Obj)) (fun d s1 => wpAny M A x (fun v s2 => wpAny M A (mergeMapping d v true) (fun _ s3 => wpAny M A (keywordsIn f d) (fun kw s4 => Q ⟨[], kw⟩ s4) E s3) (fun _ _ => False) s2) E s1) E s) :
    wpAny M A (evalArgs f true [] [(none, (do let v ← x; standAt pos; pure v))]) Q E s := by
  unfold evalArgs
  dsimp only
  have e0 : wpAny M A (spliced []) (fun vs s' => vs = [] ∧ s' = s) E s := by
    unfold spliced
    exact wpAny_pure ⟨rfl, rfl⟩
  refine wpAny_bind (wpAny_mono e0 (fun vs s' hv => ?_) fun _ _ z => z)
  obtain ⟨rfl, rfl⟩ := hv
  refine wpAny_bind (wpAny_pure ?_)
  dsimp only
  refine wpAny_holding ?_
  rw [if_neg (by simp)]
  unfold mergedKeywords
  refine wpAny_bind (wpAny_bind (wpAny_mono h (fun d s1 h1 => ?_) fun _ _ z => z))
  refine wpAny_bind (wpAny_holding ?_)
  refine wpAny_bind ?_
  rw [List.forIn_cons]
  refine wpAny_bind ?_
  refine wpAny_bind (wpAny_pure ?_)
  refine wpAny_bind (wpAny_bind (wpAny_mono h1 (fun v s2 h2 => wpAny_bind (wpAny_standAt (wpAny_pure ?_))) fun _ _ z => z))
  refine wpAny_bind (wpAny_onRaise (wpAny_holding (wpAny_tryCatch (wpAny_onRaise (wpAny_mono h2 (fun u s3 h3 => ?_) fun _ _ z => z.elim)))))
  refine wpAny_pure ?_
  show wpAny M A (pure ([] : List (Str × Sem Value))) _ E s3
  refine wpAny_pure ?_
  refine wpAny_pure ?_
  refine wpAny_pure ?_
  refine wpAny_bind (wpAny_pure ?_)
  exact wpAny_bind (wpAny_holding (wpAny_mono h3 (fun kw s4 h4 => wpAny_pure h4) fun _ _ z => z))
end
/-- all keys are texts: what keywordsIn tells -/
theorem wpAny_keywordsIn {P : Program} {w : World} {A : Around} {E : Value → Shared → Prop} {s : Shared} {f : Value} {d : Addr} {ks : List Str} {vs : List (Key × Value)} {Q : List (Str × Value) → Shared → Prop} (hd : s.heap.DictOf (mixKind P w) d vs)
    (hk : vs.map (·.1) = ks.map Sum.inr) (h : Q (ks.zip (vs.map (·.2))) s) : wpAny (model P w) A (keywordsIn f d) Q E s := by
  obtain ⟨o, es, ep, ho, hc, hdd, hks, hp, hn⟩ := hd
  unfold keywordsIn
  refine wpAny_bind (wpAny_dictEntries ho hdd ?_)
  rw [← Array.forIn_toList]
  generalize es.toList = el at hp
  have main : ∀ (el : List DictEntry) (vs : List (Key × Value)) (ks : List Str) (acc : List (Str × Value)), Pairs (mixKind P w) el vs → vs.map (·.1) = ks.map Sum.inr → ∀ (g : DictEntry → List (Str × Value) → Sem (ForInStep (List (Str × Value)))),
      (∀ e x t b, e.key = .str x t → g e b = pure (.yield (b ++ [(x, e.val)]))) → wpAny (model P w) A (forIn el acc g) (fun r s' => r = acc ++ ks.zip (vs.map (·.2)) ∧ s' = s) E s := by
    intro el vs ks acc hp hk g hg
    induction hp generalizing ks acc with
    | nil =>
      rw [List.forIn_nil]
      refine wpAny_pure ⟨?_, rfl⟩
      simp
    | @cons e kv es kvs h1 h2 _ ih =>
      cases ks with
      | nil => cases hk
      | cons k ks =>
        injection hk with e1 e2
        obtain ⟨t, ht⟩ : ∃ t, e.key = .str k t := by
          have e1 : kv.1 = Sum.inr k := e1
          rw [e1] at h1
          have h1 : keyIs (Sum.inr k) e.key = true := h1
          rcases keyIs_shape h1 with ⟨i, t, z, _⟩ | ⟨x, t, z, q⟩
          · cases z
          · cases z
            exact ⟨t, q⟩
        rw [List.forIn_cons, hg e k t acc ht]
        refine wpAny_bind (wpAny_pure ?_)
        refine wpAny_mono (ih ks (acc ++ [(k, e.val)]) e2) (fun r s' hr => ⟨?_, hr.2⟩) fun _ _ z => z
        rw [hr.1, h2, List.append_assoc]
        rfl
  refine wpAny_bind (wpAny_mono (main el vs ks [] hp hk _ fun e x t b he => by rw [he]) (fun r s' hr => ?_) fun _ _ z => z)
  obtain ⟨rfl, rfl⟩ := hr
  exact wpAny_pure (by rw [List.nil_append]; exact h)

/-- the pairs of a dict whose keys are these texts -/
def kvK (ks : List Str) (zs : List V) : List (Key × V) := (ks.map Sum.inr).zip zs
/-- C( **e): e a dict with text keys ks in this order; a new instance and its dict, then __init__ -/
def tMakeD (C : Addr) (ks : List Str) (sp : Sp) (gV : List V → List V → List V) (E : XK) (te : TE) : TE := fun σ H Q => ∀ d, H d = none → te σ (upd H d (.dK [])) fun y H1 => ∃ (o : Addr) (zs : List V), y = .ref o ∧ H1 d = some (.dK []) ∧ H1 o = some (.dK (kvK ks zs)) ∧ zs.length = ks.length ∧ o ≠ d ∧
  ∀ x dx, upd H1 d (.dK (kvK ks zs)) x = none → upd H1 d (.dK (kvK ks zs)) dx = none → dx ≠ x → sp (gV [.ref x] zs) (upd (upd (upd H1 d (.dK (kvK ks zs))) dx (.own x)) x (.ins C dx [])) (fun v H3 => v = .non ∧ Q (.ref x) H3) E
theorem kvK_keys {ks : List Str} {zs : List V} (h : zs.length = ks.length) : (kvK ks zs).map (·.1) = ks.map Sum.inr := by
  unfold kvK
  rw [List.map_fst_zip]
  rw [List.length_map, h]
  exact Nat.le_refl _
theorem kvK_vals {ks : List Str} {zs : List V} (h : zs.length = ks.length) : (kvK ks zs).map (·.2) = zs := by
  unfold kvK
  rw [List.map_snd_zip]
  rw [List.length_map, h]
  exact Nat.le_refl _
theorem KV.parts : ∀ {kvs : List (Key × V)} {vs : List (Key × Value)}, KV kvs vs → vs.map (·.1) = kvs.map (·.1) ∧ Vals (kvs.map (·.2)) (vs.map (·.2)) := by
  intro kvs vs r
  unfold KV at r
  induction r with
  | nil => exact ⟨rfl, .nil⟩
  | @cons p q ps qs h t ih => exact ⟨by rw [List.map_cons, List.map_cons, ih.1, h.1], .cons h.2 ih.2⟩
section
variable {X : Cx} {CX : CXT} {k : Nat} {f C : Addr} {fd : FuncData} {ps ks : List Str} {sp : Sp} {E : XK} {x : Str} {p pos kpos : Pos} {e : Expr} {te : TE} {g : List Value → List Value → List Value} {gV : List V → List V → List V}
theorem pe_makeD (M : Mk X.K C f) (F : FnOk X.prog X.w X.K X.mg X.base CX k f fd ps sp) (hr : Room (k + 1) X.A) (hg : Gl X x) (hm : X.mg x = some (.ref C)) (hb : KBn X.K fd ps (0 + 1) ks g gV) (hx : Passes CX X E)
    (he : PE X e te) (hnd : ks.Nodup) (hks : ks.length ≤ 1000) (hdb : (x == ("__debug__" : Str)) = false := by decide) (htr : keywordEach [⟨none, e, kpos⟩] X.env = [(none, eval e X.env)] := by rfl) :
    PE X (.Call (.Name x p) [] [⟨none, e, kpos⟩] pos) (tMakeD C ks sp gV E te) := by
  refine ⟨fun pins s σ H Q I h => ?_⟩
  refine wpAny_Call_Name_kw (ld_glob I hg hm ?_ hdb)
  rw [htr]
  show wpAny _ _ (callWith pos (.ref C) [] [] [(none, (do let v ← eval e X.env; standAt pos; pure v))]) _ _ _
  refine kk_call (P := fun h => X.K.In h) rfl (PySem.W.keeps_K M.kp) (kk_args (wpAny_alloc ?_))
  have I1 := I.laid (a := s.heap.objs.size) (o := .dK []) (t' := s.toks) (fun _ _ q => Heap.get?_push_of_some _ q) (Nat.le_refl _) (dk_empty s.heap I.big)
  refine thn (he.run pins _ σ _ _ I1 (h _ (I.hok.fresh (Nat.le_refl _)))) fun v s2 ⟨y, H1, I2, ry, o, zs, ey, hd, ho, hl, hne, q⟩ => ?_
  subst ey
  obtain rfl : v = Value.ref o := ry
  obtain ⟨z, hdS, vs, rel, dd⟩ := dk_of I2.hok hd
  obtain ⟨z2, hoS, vs2, rel2, dd2⟩ := dk_of I2.hok ho
  cases rel
  obtain ⟨hk2, hv2⟩ := KV.parts rel2
  rw [kvK_keys hl] at hk2
  rw [kvK_vals hl] at hv2
  have hn2 : (vs2.map (·.1)).Nodup := by
    obtain ⟨_, _, _, _, _, _, _, _, hn⟩ := id dd2
    exact hn
  refine wpAny_mergeMapping (Ne.symm hne) hoS dd dd2 (fun _ => hn2) (fun h' d1 d2 hs => ?_) (by rw [← rel2.length]; show 0 + _ ≤ _; omega)
  have e0 : merged [] vs2 = vs2 := merged_nil_of_nodup vs2 hn2
  rw [e0] at d1
  have he' : ∃ q, h'.get? s.heap.objs.size = some q := let ⟨q, _, _, hq, _⟩ := d1; ⟨q, hq⟩
  have I3 := d_write (t' := s2.toks) (ob := .dK (kvK ks zs)) I2 (by rw [hd]; exact True.intro) hs he' (dk_new z2 hdS rel2 d1)
  refine wpAny_keywordsIn d1 hk2 ⟨I3.kIn, ?_⟩
  exact run_makeN M F hr hb hx I3 .nil hv2 rfl hl q
end

/-! ### a def with ** called with keywords -/
/-- a promise by positional values vs and the values zs of keywords named ks -/
def FnRK (P : Program) (w : World) (K : PySem.W.Frag) (mg : Str → Option Value) (base : Heap) (CX : CXT) (k : Nat) (f : Addr) (ks : List Str) (sp : List V → List V → Hp → VK → XK → Prop) : Prop :=
  ∀ (A : Around) (outer : List Env) (s : Shared) (H : Hp) (us ws : List Value) (vs zs : List V) (Q : VK) (E : XK), Room k A → Env0 P w K mg base A outer s H → Vals vs us → Vals zs ws → sp vs zs H Q E →
    codeAny (model P w) A (.call (.ref f) ⟨us, ks.zip ws⟩) (CR CX outer P w H s Q E) s
/-- a dict filled by its names -/
theorem kx_nsSet {prog : Program} {w : World} {A : Around} {E : Value → Shared → Prop} {s : Shared} {d : Addr} {es : List DictEntry} {n : Nat} {k : Str} {v : Value} {Q : Unit → Shared → Prop} (hd : s.heap.get? d = some (PySem.W.dictOf es n))
    (hs : ∀ e ∈ es, e.key.isStr k = false) (hr : ∀ e ∈ es, e.refKey = false)
    (h : ∀ h', h'.get? d = some (PySem.W.dictOf (es ++ [⟨PyData.keyHash w.params k, .str k s.toks, v⟩]) (n + 1)) → Heap.SameBut d s.heap h' → Q () { s with heap := h', toks := s.toks + 1 }) :
    wpAny (model prog w) A (nsSet d k v) Q E s := by
  have e1 : es.any (·.key.isStr k) = false := by
    cases q : es.any (·.key.isStr k) with
    | false => rfl
    | true => obtain ⟨e, he, z⟩ := List.any_eq_true.mp q; rw [hs e he] at z; cases z
  have e2 : es.any (·.refKey) = false := by
    cases q : es.any (·.refKey) with
    | false => rfl
    | true => obtain ⟨e, he, z⟩ := List.any_eq_true.mp q; rw [hr e he] at z; cases z
  have e : Obj.putName k (PyData.keyHash w.params k) (.str k s.toks) v (PySem.W.dictOf es n) = PySem.W.dictOf (es ++ [⟨PyData.keyHash w.params k, .str k s.toks, v⟩]) (n + 1) := by
    rw [PySem.W.putName_dict, PySem.W.putL_new hs]
    show PySem.W.dictOf _ (if es.any (·.key.isStr k) then n else n + 1) = _
    rw [e1, if_neg Bool.false_ne_true]
  have c : aRefKeyMayBeTheName k es.toArray = false := by
    rw [aRefKeyMayBeTheName_at, ← Array.any_toList, ← Array.any_toList]
    show (!es.any (·.key.isStr k) && es.any (·.refKey)) = false
    rw [e2, Bool.and_false]
  unfold nsSet
  refine wpAny_bind (wpAny_bind (wpAny_askSetting (wpAny_pure (wpAny_bind (wpAny_mkText (wpAny_bind (wpAny_loadPart hd ?_)))))))
  dsimp only
  rw [c]
  refine wpAny_updatePart hd (h _ ?_ (Heap.SameBut.update ..))
  have z := Heap.get?_update_self (h := s.heap) (Obj.putName k (PyData.keyHash w.params k) (.str k s.toks) v) hd (by rw [e]; rfl)
  rw [e] at z
  exact z
theorem kx_fill {prog : Program} {w : World} {A : Around} {E : Value → Shared → Prop} {d : Addr} {Q : PUnit → Shared → Prop} : ∀ (ex : List (Str × Value)) (s : Shared) (es : List DictEntry) (n : Nat), s.heap.get? d = some (PySem.W.dictOf es n) →
    (∀ e ∈ es, ∀ x ∈ ex, e.key.isStr x.1 = false) → (∀ e ∈ es, e.refKey = false) → (ex.map (·.1)).Nodup →
    (∀ h', h'.get? d = some (PySem.W.dictOf (es ++ PySem.W.kwEs w.params s.toks ex) (n + ex.length)) → Heap.SameBut d s.heap h' → Q ⟨⟩ { s with heap := h', toks := s.toks + ex.length }) →
    wpAny (model prog w) A (forIn ex PUnit.unit fun x _ => (nsSet d x.1 x.2 >>= fun _ => pure (ForInStep.yield PUnit.unit))) Q E s
  | [], s, es, n, hd, _, _, _, h => by
    rw [List.forIn_nil]
    refine wpAny_pure (h s.heap ?_ (Heap.SameBut.refl ..))
    show s.heap.get? d = some (PySem.W.dictOf (es ++ []) n)
    rw [List.append_nil]
    exact hd
  | x :: r, s, es, n, hd, hs, hr, hn, h => by
    obtain ⟨hn1, hn2⟩ := List.nodup_cons.mp (show (x.1 :: r.map (·.1)).Nodup from hn)
    rw [List.forIn_cons]
    refine wpAny_bind (wpAny_bind (kx_nsSet hd (fun e he => hs e he x (.head _)) hr fun h' hd' sb => wpAny_pure ?_))
    show wpAny (model prog w) A (forIn r PUnit.unit fun x _ => (nsSet d x.1 x.2 >>= fun _ => pure (ForInStep.yield PUnit.unit))) Q E { s with heap := h', toks := s.toks + 1 }
    refine kx_fill r { s with heap := h', toks := s.toks + 1 } _ _ hd' (fun e he y hy => ?_) (fun e he => ?_) hn2 fun h'' hd'' sb' => ?_
    · rcases List.mem_append.mp he with he | he
      · exact hs e he y (.tail _ hy)
      · obtain rfl := List.mem_singleton.mp he
        show (x.1 == y.1) = false
        exact beq_eq_false_iff_ne.mpr fun q => hn1 (by rw [q]; exact List.mem_map_of_mem hy)
    · rcases List.mem_append.mp he with he | he
      · exact hr e he
      · obtain rfl := List.mem_singleton.mp he
        rfl
    · have t1 : s.toks + 1 + r.length = s.toks + (r.length + 1) := by omega
      have t2 : n + 1 + r.length = n + (r.length + 1) := by omega
      show Q ⟨⟩ { s with heap := h'', toks := s.toks + 1 + r.length }
      rw [t1]
      refine h h'' ?_ (sb.trans sb')
      rw [t2, List.append_assoc] at hd''
      exact hd''
section
variable {P : Program} {w : World} {K : PySem.W.Frag} {mg : Str → Option Value} {base : Heap} {A : Around} {outer : List Env} {s : Shared} {H : Hp}
theorem env0_to {u : HO} {h' : Heap} {t' : Nat} (e0 : Env0 P w K mg base A outer s H) (kp : ∀ b x, s.heap.get? b = some x → h'.get? b = some x) (le : s.heap.objs.size ≤ h'.objs.size) (new : ObjOk P w (upd H s.heap.objs.size u) h' s.heap.objs.size u) :
    Env0 P w K mg base A outer { s with heap := h', toks := t' } (upd H s.heap.objs.size u) := by
  refine ⟨e0.frames, e0.mod, fun b x e => ⟨kp b x (e0.bs b x e).1, ?_⟩, Nat.le_trans e0.bsz le, Heap.FunFrames.of_keeps (fun b x e _ => ⟨x, kp b x e, rfl⟩) e0.funs, fun b hb => ?_, e0.hok.laid kp (Nat.le_refl _) new, e0.bare⟩
  · rw [upd_ne (Nat.ne_of_lt (Heap.lt_size (e0.bs b x e).1))]
    exact (e0.bs b x e).2
  · obtain ⟨_, x, hx, _⟩ := e0.funs.mem hb
    rw [upd_ne (Nat.ne_of_lt (Heap.lt_size hx))]
    exact e0.frf b hb
theorem kw_pairs {prog : Program} {w : World} : ∀ (ex : List (Str × Value)) (t : Tok), Pairs (mixKind prog w) (PySem.W.kwEs w.params t ex) (ex.map fun x => (Sum.inr x.1, x.2))
  | [], _ => .nil
  | x :: r, t => .cons (mixKind_str prog w x.1 t) rfl (kw_pairs r (t + 1))
theorem kw_dict {prog : Program} {w : World} {h : Heap} {d : Addr} {ex : List (Str × Value)} {t : Tok} {n : Nat} (hd : h.get? d = some (PySem.W.dictOf (PySem.W.kwEs w.params t ex) n)) (hn : (ex.map (·.1)).Nodup) :
    h.DictOf (mixKind prog w) d (ex.map fun x => (Sum.inr x.1, x.2)) := by
  refine ⟨_, (PySem.W.kwEs w.params t ex).toArray, n, hd, ⟨rfl, rfl, rfl⟩, rfl, fun e he => ?_, kw_pairs ex t, ?_⟩
  · obtain ⟨k, u, hk, hh⟩ := PySem.W.kwEs_key ex t e (List.mem_toArray.mp he)
    exact ⟨Sum.inr k, by rw [hk]; exact mixKind_str prog w k u, hh.trans rfl⟩
  · rw [List.map_map]
    show (ex.map fun x => (Sum.inr x.1 : Key)).Nodup
    have e : (ex.map fun x => (Sum.inr x.1 : Key)) = (ex.map (·.1)).map Sum.inr := by rw [List.map_map]; rfl
    rw [e]
    exact List.Pairwise.map Sum.inr (fun a b ne z => ne (Sum.inr.inj z)) hn
theorem kv_zip : ∀ {ks : List Str} {zs : List V} {ws : List Value}, Vals zs ws → KV (kvK ks zs) ((ks.zip ws).map fun x => (Sum.inr x.1, x.2))
  | [], _, _, _ => by
    unfold kvK
    simp
    exact .nil
  | k :: ks, _, _, .nil => .nil
  | k :: ks, _, _, .cons r t => .cons ⟨rfl, r⟩ (kv_zip (ks := ks) t)
end
end KwX
set_option Elab.async false
set_option linter.all false
set_option maxRecDepth 100000
set_option maxHeartbeats 4000000
set_option pp.maxSteps 1500
namespace KwX
open PySem PySem.Spec PyProof.Rows L2 StX
section
variable {CX : CXT} {P : Program} {w : World} {K : PySem.W.Frag} {mg : Str → Option Value} {base : Heap} {k : Nat} {f : Addr} {name qual : Str} {params : Arguments} {body : List Stmt} {scope : Scope} {dV kV doc pm cdv ct oc : Value} {an od : Option Addr}
  {osl : Array (Option Value)} {N ps ks : List Str} {sp : Sp} {pd : Str}
/-- def f(a, .., **d), called with values for a, .. and keywords ks that are no parameters: a new dict of them -/
theorem fn_kw (lk : K.lookup f = some ⟨oc, od, .func (PySem.W.fnOf name qual params body scope dV kV doc pm an cdv ct), osl⟩) (hcd : PySem.W.codeIn K cdv qual = true) (S : FnScope N (ps ++ [pd]) scope) (hCX : CXUp CX) (hnd : ks.Nodup) (hks : ks.length ≤ 1000)
    (hb : ∀ us ws : List Value, us.length = ps.length → ws.length = ks.length → bindArgs (PySem.W.fnOf name qual params body scope dV kV doc pm an cdv ct) ⟨us, ks.zip ws⟩ =
      ((alloc ({ cls := .type "dict", data := .dict #[] } : Obj) : Sem Addr) >>= fun d => (forIn (ks.zip ws) PUnit.unit fun x _ => (nsSet d x.1 x.2 >>= fun _ => pure (ForInStep.yield PUnit.unit))) >>= fun _ => pure (ps.zip us ++ [(pd, Value.ref d)])))
    (hbody : ∀ (A : Around) (outer : List Env) (s : Shared) (H : Hp) (vs : List V) (Q : VK) (E : XK), Room k (A.deeper (envOfC qual scope s.heap.objs.size f cdv)) → sp vs H Q E →
      ∃ t, PSs (cxOf CX P w K mg base N qual scope f cdv A outer s H E) body t ∧ t { nx := fun _ H' => Q .non H', rt := Q } (start N vs) H) :
    FnRK P w K mg base CX (k + 1) f ks (fun vs zs H Q E => vs.length = ps.length ∧ zs.length = ks.length ∧ ∀ d, H d = none → sp (vs ++ [V.ref d]) (upd H d (.dK (kvK ks zs))) Q E) := by
  intro A outer s H us ws vs zs Q E hr e0 r rz hsp
  obtain ⟨hl, hz, hq⟩ := hsp
  have hl1 : us.length = ps.length := by rw [← r.length]; exact hl
  have hl2 : ws.length = ks.length := by rw [← rz.length]; exact hz
  have hn : H s.heap.objs.size = Option.none := e0.hok.fresh (Nat.le_refl _)
  refine run_bnd lk hcd S hr e0 (G := fun xs H2 => ∃ d, H d = none ∧ xs = vs ++ [V.ref d] ∧ H2 = upd H d (.dK (kvK ks zs))) (fun A' Ex Q' h => ?_) fun s2 H2 xs ⟨d, hd, ex, eH⟩ hr' => ?_
  · rw [hb us ws hl1 hl2]
    refine wpAny_bind (wpAny_alloc ?_)
    have hnz : ((ks.zip ws).map (·.1)).Nodup := by
      rw [List.map_fst_zip (by rw [hl2]; exact Nat.le_refl _)]
      exact hnd
    have g0 : (s.heap.push ({ cls := .type "dict", data := .dict #[] } : Obj)).get? s.heap.objs.size = some (PySem.W.dictOf [] 0) := Heap.get?_push_size _ rfl
    refine wpAny_bind (kx_fill (ks.zip ws) _ [] 0 g0 (fun _ he => nomatch he) (fun _ he => nomatch he) hnz fun h' hd' sb => wpAny_pure ?_)
    have kp : ∀ b x, s.heap.get? b = some x → h'.get? b = some x := fun b x e => by
      rw [sb.2 b (Nat.ne_of_lt (Heap.lt_size e))]
      exact Heap.get?_push_of_some _ e
    have hbig : sysModules < s.heap.objs.size := env0_big e0
    have hlen : (kvK ks zs).length ≤ sizeLine := by
      unfold kvK
      rw [List.length_zip, List.length_map, hz]
      exact Nat.le_trans (Nat.min_le_left ..) (Nat.le_trans hks (by decide))
    have new : ObjOk P w (upd H s.heap.objs.size (.dK (kvK ks zs))) h' s.heap.objs.size (.dK (kvK ks zs)) :=
      ⟨hlen, beq_eq_false_iff_ne.mpr (Ne.symm (Nat.ne_of_lt hbig)), _, kv_zip rz, kw_dict hd' hnz⟩
    have le : s.heap.objs.size ≤ h'.objs.size := Nat.le_of_lt (Heap.lt_size hd')
    have un := Un.laid (fs := frs outer) (ex := []) (H := H) (h := s.heap) (h' := h') (a := s.heap.objs.size) (o := .dK (kvK ks zs)) kp (Nat.le_refl _) hn
    have z := h _ _ (vs ++ [V.ref s.heap.objs.size]) (us ++ [Value.ref s.heap.objs.size]) (env0_to (t' := s.toks + (ks.zip ws).length) e0 kp le new) un rfl
      (fun e s' => hCX outer s H _ _ E e s' un kp rfl) (r.append (.cons rfl .nil)) (by rw [List.length_append, List.length_append, hl] <;> rfl) ⟨_, hn, rfl, rfl⟩
    rw [List.zip_append hl1.symm] at z
    exact z
  · subst ex eH
    exact hbody A outer s2 _ _ Q E hr' (hq d hd)
end
/-! ### o.m(k = v, ..) -/
def tMethKw (C : Addr) (m : Str) (sp : List V → List V → Hp → VK → XK → Prop) (E : XK) (ta : TE) (tk : TA) : TE := fun σ H Q => ta σ H fun x H1 => ∃ a dx fs, x = .ref a ∧ H1 a = some (.ins C dx fs) ∧ fs.lookup m = none ∧ tk σ H1 fun zs H2 => sp [x] zs H2 Q E
section
variable {X : Cx} {CX : CXT} {k : Nat} {f C : Addr} {ks : List Str} {sp : List V → List V → Hp → VK → XK → Prop} {E : XK} {m : Str} {pos apos : Pos} {o : Expr} {kws : List Keyword} {ta : TE} {tk : TA}
theorem run_fnRK {pins : List (Addr × Obj)} {σ : L2.St} {H : Hp} {s : Shared} {Q : VK} {us ws : List Value} {vs zs : List V} (F : FnRK X.prog X.w X.K X.mg X.base CX k f ks sp) (hr : Room k X.A) (hx : Passes CX X E) (I : Inv X pins σ H s) (r : Vals vs us) (rz : Vals zs ws) (h : sp vs zs H Q E) :
    codeAny (model X.prog X.w) X.A (.call (.ref f) ⟨us, ks.zip ws⟩) (fun r s' => match r with | .ok (.ret v) => EP X pins σ Q v s' | .ok _ => False | .error e => X.xe e s') s := by
  refine codeAny_mono (F X.A X.stack s H us ws vs zs Q E hr I.env0 r rz h) fun r s' hq => ?_
  cases r with
  | error e => exact hx pins σ H s e s' I hq
  | ok fl =>
    cases fl with
    | ret u => exact I.after hq
    | next => exact False.elim hq
    | brk => exact False.elim hq
    | cont => exact False.elim hq
theorem pe_methKw {pl : Sem Bool} (he : PE X o ta) (c : Cls X.K C) (hm : Meth X.K C m f) (F : FnRK X.prog X.w X.K X.mg X.base CX k f ks sp) (hr : Room k X.A) (hx : Passes CX X E) (hkw : PK X kws tk)
    (hall : (backToKw pos (keywordEach kws X.env)).all (·.1.isSome) = true := by rfl) (hks : (backToKw pos (keywordEach kws X.env)).filterMap (·.1) = ks := by rfl)
    (hpl : ((backTo pos (starEach [] X.env)).any (·.1) || (backToKw pos (keywordEach kws X.env)).any (·.1.isNone)) = false := by rfl)
    (ht : eval (.Call (.Attribute o m apos) [] kws pos) X.env = (do
      let ov ← eval o X.env
      standAt apos.atName
      let (f, first) ← holding [ov] (getMethod ov m pl)
      callWith pos f first (backTo pos (starEach [] X.env)) (backToKw pos (keywordEach kws X.env))) := by rfl) :
    PE X (.Call (.Attribute o m apos) [] kws pos) (tMethKw C m sp E ta tk) := by
  refine ⟨fun pins s σ H Q I h => ?_⟩
  refine PySem.W.methodCall_KW (pl := pl) (thn (he.run pins s σ H _ I h) fun u s1 ⟨x, H1, I1, rx, a, dx, fs, ex, ea, l, q⟩ => ?_) ht
  subst ex
  obtain rfl : u = Value.ref a := rx
  refine getmeth_ok I1 ea c hm l ?_
  refine PySem.W.callWith_KW0 (first := [.ref a]) (h₀ := X.base) I.ok.mod.kin hm.kp hall ?_ hpl
  refine thn (hkw.run pos pins s1 σ H1 _ I1 q) fun ws s2 ⟨zs, H2, I2, rz, q2⟩ => ⟨I2.kIn, ?_⟩
  rw [hks]
  exact wpAny_call (run_fnRK (us := [.ref a]) (vs := [.ref a]) F hr hx I2 (.cons rfl .nil) rz q2)
end
end KwX
set_option Elab.async false
set_option linter.all false
set_option maxRecDepth 100000
set_option maxHeartbeats 4000000
set_option pp.maxSteps 1500
namespace KwX
open PySem PySem.Spec PyProof.Rows L2 StX
theorem fitsN {n : Nat} (h : n ≤ 1000) : n ≤ sizeLine := Nat.le_trans h (by decide)
section
variable {X : Cx}
/-- d.update(e): dicts with keys ints and texts -/
def tDUpd (td te : TE) : TE := fun σ H Q => td σ H fun x H1 => ∃ a, x = .ref a ∧ IsD H1 a ∧ te σ H1 fun y H2 => ∃ o kvs more, y = .ref o ∧ H2 a = some (.dK kvs) ∧ H2 o = some (.dK more) ∧ a ≠ o ∧ kvs.length + more.length ≤ 1000 ∧ Q .non (upd H2 a (.dK (mergeK kvs more)))
theorem pe_dupd {o e : Expr} {td te : TE} {apos pos : Pos} (ho : PE X o td) (he : PE X e te) (m : M1 X o "update" apos e pos) : PE X (.Call (.Attribute o "update" apos) [e] [] pos) (tDUpd td te) := by
  refine ⟨fun pins s σ H Q I h => ?_⟩
  refine wpAny_Call_method m.base m.few m.line PySem.F.plainAttrs_dict PySem.F.slot_dict_update PySem.F.type_dict_update (thn (ho.run pins s σ H _ I h) fun u s1 ⟨x, H1, I1, rx, a, ex, d, q1⟩ => ?_)
  subst ex
  obtain rfl : u = Value.ref a := rx
  obtain ⟨t1, t2, _⟩ := isD_at I1 d
  refine ⟨t1, t2, ?_⟩
  rw [m.trees]
  refine Calls.callWith_builtin rfl (Calls.evalArgs_plain (Calls.spliced_cons (thn (he.run pins s1 σ H1 _ I1 q1) fun iv s2 ⟨y, H2, I2, ry, ov, kvs, more, ey, e1, e2, hne, hl, q2⟩ => Calls.spliced_nil ?_)))
  subst ey
  cases ry
  obtain ⟨z, hd, vs, rel, dd⟩ := dk_of I2.hok e1
  obtain ⟨z2, hd2, vs2, rel2, dd2⟩ := dk_of I2.hok e2
  have lz := length_mergeK more kvs
  refine call_meetsIn PySem.F.slot_dict_update dd.typeIs PySem.F.entry_dict_update (PySem.F.args_dict_update_2 _ _) (meets_dict_update (mixKind X.prog X.w) a ov hne hd2) ⟨vs, vs2, dd, dd2, by rw [← rel.length, ← rel2.length]; exact fitsN (by omega), fun h' dd' _ hs => ?_⟩
  have he' : ∃ q, h'.get? a = some q := let ⟨q, _, _, hq, _⟩ := dd'; ⟨q, hq⟩
  exact ⟨.non, _, d_write I2 (by rw [e1]; exact True.intro) hs he' (dk_new (fitsN (by omega)) hd (rel2.merge rel) dd'), rfl, q2⟩
end
section
variable {CX : CXT} {P : Program} {w : World} {K : PySem.W.Frag} {mg : Str → Option Value} {base : Heap} {k : Nat} {f : Addr} {fd : FuncData} {x qual : Str} {st : Stmt} {N ps ks : List Str} {sp : Sp} {pd : Str}
/-- a def with ** called with keywords, by its body -/
theorem fun_kw (F : Fun K x qual st f fd) (S : FnScope N (ps ++ [pd]) (defScope st)) (hCX : CXUp CX) (hnd : ks.Nodup) (hks : ks.length ≤ 1000)
    (hb : ∀ (kV doc pm : Value) (an : Option Addr) (cdv ct : Value) (us ws : List Value), us.length = ps.length → ws.length = ks.length → bindArgs (PySem.W.fnOf x qual (defArgs st) (defBody st) (defScope st) .none kV doc pm an cdv ct) ⟨us, ks.zip ws⟩ =
      ((alloc ({ cls := .type "dict", data := .dict #[] } : Obj) : Sem Addr) >>= fun d => (forIn (ks.zip ws) PUnit.unit fun x _ => (nsSet d x.1 x.2 >>= fun _ => pure (ForInStep.yield PUnit.unit))) >>= fun _ => pure (ps.zip us ++ [(pd, Value.ref d)])))
    (hbody : ∀ (cdv : Value) (A : Around) (outer : List Env) (s : Shared) (H : Hp) (vs : List V) (Q : VK) (E : XK), Room k (A.deeper (envOfC qual (defScope st) s.heap.objs.size f cdv)) → sp vs H Q E →
      ∃ t, PSs (cxOf CX P w K mg base N qual (defScope st) f cdv A outer s H E) (defBody st) t ∧ t { nx := fun _ H' => Q .non H', rt := Q } (start N vs) H) :
    FnRK P w K mg base CX (k + 1) f ks (fun vs zs H Q E => vs.length = ps.length ∧ zs.length = ks.length ∧ ∀ d, H d = none → sp (vs ++ [V.ref d]) (upd H d (.dK (kvK ks zs))) Q E) := by
  obtain ⟨oc, od, kV, doc, pm, an, cdv, ct, osl, rfl, lk, hcd⟩ := F.ex
  exact fn_kw lk hcd S hCX hnd hks (hb kV doc pm an cdv ct) fun A outer s H vs Q E hr hsp => hbody cdv A outer s H vs Q E hr hsp
end
end KwX
set_option Elab.async false
set_option linter.all false
set_option maxRecDepth 100000
set_option maxHeartbeats 4000000
namespace Lay
open PySem L2
def top (i : Nat) : Stmt := PySem.Challenge.pw_laytwice_k07_whole_programs_and_their_pa.main.body.getD i (.Pass ⟨0, 0, 0, 0⟩)
abbrev sBox : Stmt := top 35
abbrev sTake : Stmt := top 36
abbrev sPick : Stmt := top 37

/-! ### the box of draws -/
def Boxy (o : HO) : Prop := ∃ g s n : Int, o = .lst [.int g, .int s, .int n]
def BoxAt (H : Hp) (b : Addr) : Prop := ∃ o, H b = some o ∧ Boxy o
/-- all that is tracked beside b is as it was -/
def Kept (b : Addr) (H H' : Hp) : Prop := ∀ a o, a ≠ b → H a = some o → H' a = some o
theorem Kept.refl (b : Addr) (H : Hp) : Kept b H H := fun _ _ _ h => h
theorem Kept.trans {b : Addr} {H H1 H2 : Hp} (x : Kept b H H1) (y : Kept b H1 H2) : Kept b H H2 := fun a o n h => y a o n (x a o n h)
theorem Kept.of_same {b : Addr} {H H' : Hp} (x : Same H H') : Kept b H H' := fun a o _ h => x a o h
theorem Kept.box {b : Addr} {H : Hp} {o : HO} : Kept b H (upd H b o) := fun a u n h => by rw [upd_ne n]; exact h
theorem Kept.new {b a : Addr} {H : Hp} {o : HO} (h : H a = none) : Kept b H (upd H a o) := fun c u _ e => by
  rw [upd_ne (ne_of_none e h)]
  exact e
theorem Same.new {a : Addr} {H : Hp} {o : HO} (h : H a = none) : Same H (upd H a o) := fun c u e => by
  rw [upd_ne (ne_of_none e h)]
  exact e
theorem BoxAt.new {b a : Addr} {H : Hp} {o : HO} (x : BoxAt H b) (h : H a = none) : BoxAt (upd H a o) b := by
  obtain ⟨u, e, y⟩ := x
  exact ⟨u, Same.new h _ _ e, y⟩
theorem BoxAt.box {b : Addr} {H : Hp} {o : HO} (y : Boxy o) : BoxAt (upd H b o) b := ⟨o, upd_same, y⟩
theorem BoxAt.ne {b a : Addr} {H : Hp} (x : BoxAt H b) (h : H a = none) : a ≠ b := by
  obtain ⟨u, e, y⟩ := x
  exact (ne_of_none e h).symm

/-- what the draws want of the module's names -/
structure TxtD (mg : Str → Option Value) : Prop where
  int : mg "int" = none
  len : mg "len" = none
  abs : mg "abs" = none
  range : mg "range" = none

def spTake : Sp := fun vs H Q _ => ∃ (b : Addr) (m : Int), vs = [.ref b, .int m] ∧ BoxAt H b ∧ 0 < m ∧ m < 1073741824 ∧
  ∀ (r : Int) (o : HO), 0 ≤ r → r < m → Boxy o → Q (.int r) (upd H b o)
def spPick (K : PySem.W.Frag) : Sp := fun vs H Q _ => ∃ (b l : Addr) (xs : List V), vs = [.ref b, .ref l] ∧ BoxAt H b ∧ l ≠ b ∧ SqL K H l xs ∧ 0 < xs.length ∧ xs.length ≤ 1000 ∧
  ∀ (v : V) (o : HO), v ∈ xs → Boxy o → Q v (upd H b o)
theorem SqL.kept {K : PySem.W.Frag} {b a : Addr} {H H' : Hp} {xs : List V} (k : Kept b H H') (n : a ≠ b) (h : SqL K H a xs) : SqL K H' a xs := by
  rcases h with (h | ⟨o, h⟩) | h
  · exact .inl (.inl (k _ _ n h))
  · exact .inl (.inr ⟨o, k _ _ n h⟩)
  · exact .inr h
theorem SqT.kept {K : PySem.W.Frag} {b a : Addr} {H H' : Hp} {xs : List V} (k : Kept b H H') (n : a ≠ b) (h : SqT K H a xs) : SqT K H' a xs := by
  rcases h with (h | ⟨o, h⟩) | h
  · exact .inl (.inl (k _ _ n h))
  · exact .inl (.inr ⟨o, k _ _ n h⟩)
  · exact .inr h

theorem lt40 {m : Int} (h : m < 1073741824) : m < 2 ^ (40 : Int).toNat := by
  have e : (2 : Int) ^ (40 : Int).toNat = 1099511627776 := by decide
  omega
section
variable {P : Program} {w : World} {K : PySem.W.Frag} {mg : Str → Option Value} {base : Heap}
theorem scTake : FnScope ["_law_box_here", "_law_many", "_law_digit", "_law_raw", "_law_wide"] ["_law_box_here", "_law_many"] (defScope sTake) := ⟨rfl, rfl, rfl, by decide +kernel, rfl, by decide +kernel, by decide +kernel⟩
theorem ok_take {f : Addr} {fd : FuncData} (F : Fun K "_law_take" "_law_take" sTake f fd) (T : TxtD mg) : FnOk P w K mg base CX0 1 f fd ["_law_box_here", "_law_many"] spTake := by
  refine F.ok scTake (fun vs H Q E h => ?_) (fun cdv A outer s H vs Q E hr h => ?_)
  · obtain ⟨b, m, rfl, _⟩ := h
    rfl
  · obtain ⟨b, m, rfl, ⟨o, hb, g, s, n, rfl⟩, hm0, hm1, k⟩ := h
    refine ⟨_, (pss_cons (ps_if (pt_cmpR op_gt (pe_ix ix_list (pv 0) pe_int (fun _ _ => rfl)) pe_int (nomark _))
      (pss_cons (ps_set (i := 2) scTake.nd rfl (.inl rfl) (pe_op op_mod (pe_callTy call_int1 (by rfl) T.int (by decide +kernel) (pa_cons (pe_ix ix_list (pv 0) pe_int (fun _ _ => rfl)) pa_nil)) (pv 1)))
      (pss_cons (ps_asg (pe_op op_fdiv (pe_ix ix_list (pv 0) pe_int (fun _ _ => rfl)) (pv 1)) (pg_sub (pv 0) pe_int set_list))
      (pss_one (ps_ret (pv 2)))))
      pss_nil)
    (pss_cons (ps_asg (pe_op op_add (pe_ix ix_list (pv 0) pe_int (fun _ _ => rfl)) pe_int) (pg_sub (pv 0) pe_int set_list))
    (pss_cons (ps_set (i := 3) scTake.nd rfl (.inl rfl) (pe_op op_mod (pe_callTy call_int1 (by rfl) T.int (by decide +kernel) (pa_cons (pe_op op_mul (pe_op op_add (pe_ix ix_list (pv 0) pe_int (fun _ _ => rfl)) (pe_op op_mul pe_int (pe_ix ix_list (pv 0) pe_int (fun _ _ => rfl)))) pe_int) pa_nil)) pe_int))
    (pss_cons (ps_asg (pe_op op_add (pe_op op_mod (pe_callTy call_int1 (by rfl) T.int (by decide +kernel) (pa_cons (pe_op op_add (pe_op op_mul (pv 3) pe_int) pe_int) pa_nil)) pe_int) pe_int) (pg_sub (pv 0) pe_int set_list))
    (pss_cons (ps_if (pt_cmpR op_lt (pv 1) (pe_op op_pow pe_int pe_int) (nomark _))
      (pss_one (ps_ret (pe_op op_mod (pe_callTy call_int1 (by rfl) T.int (by decide +kernel) (pa_cons (pe_op op_fdiv (pe_op op_add (pe_op op_mul (pv 3) pe_int) (pe_ix ix_list (pv 0) pe_int (fun _ _ => rfl))) pe_int) pa_nil)) (pv 1))))
      pss_nil)
    pss_never))))), ?_⟩
    refine ⟨_, rfl, b, _, _, _, rfl, rfl, SqL.of hb, rfl, _, _, rfl, rfl, _, rfl, ?_⟩
    refine ite2 (fun h0 => ?_) (fun h0 => ?_)
    · refine ⟨_, rfl, b, _, _, _, rfl, rfl, SqL.of hb, rfl, .inl ⟨_, rfl, _, rfl, _, _, rfl, rfl, hm0, ?_⟩⟩
      refine ⟨_, rfl, b, _, _, _, rfl, rfl, SqL.of hb, rfl, _, rfl, _, _, rfl, rfl, ⟨hm0, hm1⟩, _, rfl, b, _, _, 0, rfl, rfl, hb, rfl, ?_⟩
      refine ⟨_, rfl, k _ _ (Int.emod_nonneg _ (by omega)) (Int.emod_lt_of_pos _ hm0) ⟨_, _, _, rfl⟩⟩
    · refine ⟨_, rfl, b, _, _, _, rfl, rfl, SqL.of hb, rfl, _, _, rfl, rfl, _, rfl, b, _, _, 2, rfl, rfl, hb, rfl, ?_⟩
      refine ⟨_, rfl, b, _, _, _, rfl, rfl, SqL.of upd_same, rfl, _, rfl, b, _, _, _, rfl, rfl, SqL.of upd_same, rfl, _, _, rfl, rfl, .inl ⟨by decide, by decide⟩, _, _, rfl, rfl, _, _, rfl, rfl, .inr ⟨by decide, by decide⟩, .inl ⟨_, rfl, _, _, rfl, rfl, (by show (0 : Int) < 2147483647; decide), ?_⟩⟩
      refine ⟨_, rfl, _, _, rfl, rfl, .inr ⟨by decide, by decide⟩, _, _, rfl, rfl, .inl ⟨_, rfl, _, _, rfl, rfl, (by show (0 : Int) < 2147483629; decide), _, _, rfl, rfl, _, rfl, b, _, _, 1, rfl, rfl, upd_same, rfl, ?_⟩⟩
      rw [upd_upd]
      refine ⟨_, rfl, _, _, rfl, rfl, ⟨by decide, by decide, by decide⟩, _, _, rfl, rfl, _, rfl, ?_⟩
      refine ite2 (fun _ => ?_) (fun h1 => absurd (decide_eq_true (lt40 hm1)) h1)
      refine ⟨_, rfl, _, _, rfl, rfl, .inr ⟨by decide, by decide⟩, _, rfl, b, _, _, _, rfl, rfl, SqL.of upd_same, rfl, _, _, rfl, rfl, _, _, rfl, rfl, ⟨by decide, by decide⟩, .inl ⟨_, rfl, _, rfl, _, _, rfl, rfl, hm0, ?_⟩⟩
      exact k _ _ (Int.emod_nonneg _ (by omega)) (Int.emod_lt_of_pos _ hm0) ⟨_, _, _, rfl⟩

theorem scPick : FnScope ["_law_box_here", "_law_items"] ["_law_box_here", "_law_items"] (defScope sPick) := ⟨rfl, rfl, rfl, by decide +kernel, rfl, by decide +kernel, by decide +kernel⟩
theorem ok_pick {f fT : Addr} {fd fdT : FuncData} (F : Fun K "_law_pick" "_law_pick" sPick f fd) (T : TxtD mg) (FT : Fun K "_law_take" "_law_take" sTake fT fdT) (bT : Binds K fdT ["_law_box_here", "_law_many"] []) (gT : mg "_law_take" = some (.ref fT)) :
    FnOk P w K mg base CX0 2 f fd ["_law_box_here", "_law_items"] (spPick K) := by
  have GT : FnOk P w K mg base CX0 1 fT fdT ["_law_box_here", "_law_many"] spTake := ok_take FT T
  refine F.ok scPick (fun vs H Q E h => ?_) (fun cdv A outer s H vs Q E hr h => ?_)
  · obtain ⟨b, l, xs, rfl, _⟩ := h
    rfl
  · obtain ⟨b, l, xs, rfl, hb, hl, hs, h0, h1, k⟩ := h
    refine ⟨_, (pss_one (ps_ret (pe_ix ix_list (pv 1) (pe_call GT hr (by rfl) gT FT.kp bT .nil pass0 (pa_cons (pv 0) (pa_cons (pe_callB call_len_seq (by rfl) T.len (by decide +kernel) (pa_cons (pv 1) pa_nil)) pa_nil))) (fun _ _ => rfl)))), ?_⟩
    refine ⟨_, rfl, _, rfl, _, rfl, l, xs, rfl, .inl hs, b, _, rfl, hb, by omega, by omega, fun r o r0 r1 ho => ?_⟩
    have hr' : r.toNat < xs.length := by omega
    have er : r = ((r.toNat : Nat) : Int) := by omega
    exact ⟨l, xs, r, xs[r.toNat], rfl, rfl, SqL.kept Kept.box hl hs, at_of er (by simp [hr']), k _ _ (List.getElem_mem hr') ho⟩

def spBox (K : PySem.W.Frag) : Sp := fun vs H Q _ => ∃ (a : Addr) (ns : List Int) (i j : Int), vs = [.ref a, .int i, .int j] ∧ SqL K H a (ns.map V.int) ∧ 0 ≤ i ∧ i ≤ 1000 ∧ 0 ≤ j ∧ j ≤ 1000 ∧ ns.length ≤ 1000 ∧
  ∀ (p : Addr) (H' : Hp), Same H H' → H p = none → BoxAt H' p → Q (.ref p) H'
theorem scBox : FnScope ["_law_script", "_law_k", "_law_own", "_law_cell", "_law_seed"] ["_law_script", "_law_k", "_law_own"] (defScope sBox) := ⟨rfl, rfl, rfl, by decide +kernel, rfl, by decide +kernel, by decide +kernel⟩
theorem ok_box {f : Addr} {fd : FuncData} (F : Fun K "_law_box" "_law_box" sBox f fd) (T : TxtD mg) : FnOk P w K mg base CX0 1 f fd ["_law_script", "_law_k", "_law_own"] (spBox K) := by
  refine F.ok scBox (fun vs H Q E h => ?_) (fun cdv A outer s H vs Q E hr h => ?_)
  · obtain ⟨a, ns, i, j, rfl, _⟩ := h
    rfl
  · obtain ⟨a, ns, i, j, rfl, hs, i0, i1, j0, j1, hn, k⟩ := h
    refine ⟨_, (pss_cons (ps_set (i := 3) scBox.nd rfl (.inl rfl) (pe_op op_add (pe_op op_add (pe_op op_mul pe_int (pv 1)) (pe_op op_mul pe_int (pv 2))) pe_int))
    (C8.pss_cut (ps_if (pt_cmpR op_lt (pv 1) (pe_callB call_len_seq (by rfl) T.len (by decide +kernel) (pa_cons (pv 0) pa_nil)) (nomark _))
      (pss_one (ps_set (i := 3) scBox.nd rfl (.inl rfl) (pe_callB call_abs (by rfl) T.abs (by decide +kernel) (pa_cons (pe_ix ix_list (pv 0) (pv 1) (fun _ _ => rfl)) pa_nil))))
      (pss_one (ps_if (pt_cmpR op_gt (pe_callB call_len_seq (by rfl) T.len (by decide +kernel) (pa_cons (pv 0) pa_nil)) pe_int (nomark _))
        (pss_one (ps_set (i := 3) scBox.nd rfl (.inl rfl) (pe_op op_add (pv 3) (pe_op op_mul (pe_op op_mod (pe_callTy call_int1 (by rfl) T.int (by decide +kernel) (pa_cons (pe_callB call_abs (by rfl) T.abs (by decide +kernel) (pa_cons (pe_ix ix_list (pv 0) (pe_op op_mod (pe_callTy call_int1 (by rfl) T.int (by decide +kernel) (pa_cons (pv 1) pa_nil)) (pe_callB call_len_seq (by rfl) T.len (by decide +kernel) (pa_cons (pv 0) pa_nil))) (fun _ _ => rfl)) pa_nil)) pa_nil)) pe_int) pe_int))))
        pss_nil)))
    (pss_cons (ps_set (i := 4) scBox.nd rfl (.inl rfl) (pe_op op_add (pe_op op_mod (pe_callTy call_int1 (by rfl) T.int (by decide +kernel) (pa_cons (pe_op op_add (pe_op op_mul (pe_op op_mod (pe_callTy call_int1 (by rfl) T.int (by decide +kernel) (pa_cons (pv 3) pa_nil)) pe_int) pe_int) (pe_op op_mul pe_int (pe_op op_add (pv 1) (pe_op op_mul pe_int (pv 2))))) pa_nil)) pe_int) pe_int))
    (pss_one (ps_ret (pe_lst (pa_cons (pe_ix ix_list (pe_lst (pa_cons pe_int (pa_cons (pv 3) pa_nil))) (pe_callTy call_int1 (by rfl) T.int (by decide +kernel) (pa_cons (pe_cmpR op_ge (pv 3) (pe_op op_pow pe_int pe_int) (nomark _)) pa_nil)) (fun _ _ => rfl)) (pa_cons (pv 4) (pa_cons pe_int pa_nil))))))))), ?_⟩
    refine ⟨_, rfl, _, _, rfl, rfl, .inl ⟨by decide, by decide⟩, _, rfl, _, _, rfl, rfl, .inl ⟨by decide, by decide⟩, _, _, rfl, rfl, _, _, rfl, rfl, ?_⟩
    refine ⟨fun σ' H' => H' = H ∧ ∃ c : Int, σ' = [some (.ref a), some (.int i), some (.int j), some (.int c), none], ?_, ?_⟩
    · have hl : (ns.map V.int).length = ns.length := List.length_map ..
      refine ⟨_, rfl, _, rfl, a, _, rfl, .inl hs, _, _, rfl, rfl, _, rfl, ?_⟩
      refine ite2 (fun h => ?_) (fun h => ?_)
      · have hi : i < (ns.map V.int).length := of_decide_eq_true h
        obtain ⟨z, hz⟩ : ∃ z, (ns.map V.int)[i.toNat]? = some (V.int z) := by
          refine ⟨ns[i.toNat]'(by omega), ?_⟩
          rw [List.getElem?_map, List.getElem?_eq_getElem (by omega)]
          rfl
        exact ⟨_, rfl, _, rfl, a, _, _, _, rfl, rfl, hs, at_of (by omega) hz, _, rfl, rfl, _, rfl⟩
      · refine ⟨_, rfl, a, _, rfl, .inl hs, _, _, rfl, rfl, _, rfl, ?_⟩
        refine ite2 (fun h2 => ?_) (fun _ => ⟨rfl, _, rfl⟩)
        have h2' : (0 : Int) < (ns.map V.int).length := of_decide_eq_true h2
        have m0 := Int.emod_nonneg i (show ((ns.map V.int).length : Int) ≠ 0 by omega)
        have m1 := Int.emod_lt_of_pos i h2'
        obtain ⟨z, hz⟩ : ∃ z, (ns.map V.int)[(i % ((ns.map V.int).length : Int)).toNat]? = some (V.int z) := by
          refine ⟨ns[(i % ((ns.map V.int).length : Int)).toNat]'(by omega), ?_⟩
          rw [List.getElem?_map, List.getElem?_eq_getElem (by omega)]
          rfl
        refine ⟨_, rfl, _, rfl, _, rfl, .inl ⟨_, rfl, _, rfl, a, _, rfl, .inl hs, _, _, rfl, rfl, h2', a, _, _, _, rfl, rfl, hs, at_of (by omega) hz, _, rfl, .inl ⟨_, rfl, _, _, rfl, rfl, (by show (0 : Int) < 2147483629; decide), _, _, rfl, rfl, .inr ⟨by decide, by decide⟩, _, _, rfl, rfl, rfl, _, rfl⟩⟩⟩
    · rintro σ' H' ⟨rfl, c, rfl⟩
      refine ⟨_, rfl, .inl ⟨_, rfl, _, _, rfl, rfl, (by show (0 : Int) < 2147483629; decide), _, _, rfl, rfl, .inr ⟨by decide, by decide⟩, _, rfl, _, rfl, _, _, rfl, rfl, .inl ⟨by decide, by decide⟩, _, _, rfl, rfl, _, _, rfl, rfl, .inl ⟨by decide, by decide⟩, _, _, rfl, rfl, .inl ⟨_, rfl, _, _, rfl, rfl, (by show (0 : Int) < 2147483629; decide), _, _, rfl, rfl, ?_⟩⟩⟩
      refine ⟨_, rfl, (by show 2 ≤ sizeLine; decide), fun l hl => ⟨_, rfl, _, _, rfl, rfl, ⟨by decide, by decide, by decide⟩, _, _, rfl, rfl, .inr ⟨_, rfl, l, _, _, if (decide ((10 : Int) ^ (18 : Int).toNat ≤ c)) = true then V.int c else V.int 0, rfl, rfl, SqL.of upd_same, ?_, ?_⟩⟩⟩
      · cases decide ((10 : Int) ^ (18 : Int).toNat ≤ c) <;> rfl
      · refine ⟨_, rfl, (by show 3 ≤ sizeLine; decide), fun p hp => ?_⟩
        refine k _ _ ((Same.new hl).trans (Same.new hp)) ((Same.new hl).free hp) ⟨_, upd_same, ?_⟩
        by_cases hc : (decide ((10 : Int) ^ (18 : Int).toNat ≤ c)) = true
        · rw [if_pos hc]
          exact ⟨_, _, _, rfl⟩
        · rw [if_neg hc]
          exact ⟨_, _, _, rfl⟩
end
end Lay
set_option Elab.async false
set_option linter.all false
set_option maxRecDepth 100000
set_option maxHeartbeats 4000000
namespace Lay
open PySem L2
/-- the names of the module that must be Python's own -/
structure TxtK (mg : Str → Option Value) : Prop where
  int : mg "int" = none
  bool : mg "bool" = none
  str : mg "str" = none
  list : mg "list" = none
  tuple : mg "tuple" = none
  isinstance : mg "isinstance" = none
  len : mg "len" = none
  all : mg "all" = none
  enumerate : mg "enumerate" = none
theorem TyOf.same {K : PySem.W.Frag} {H H' : Hp} {x : V} {t : Value} (s : Same H H') (h : TyOf K H x t) : TyOf K H' x t := by
  cases h with
  | non => exact .non
  | bl b => exact .bl b
  | int i => exact .int i
  | str z => exact .str z
  | flt z => exact .flt z
  | lst e => exact .lst (s _ _ e)
  | frz e => exact .frz (s _ _ e)
  | tup e => exact .tup (s _ _ e)
  | dK e => exact .dK (s _ _ e)
  | dT e => exact .dT (s _ _ e)
  | ins e cl ha hn htk hm => exact .ins (s _ _ e) cl ha hn htk hm
theorem TyX.same {K : PySem.W.Frag} {H H' : Hp} {x : V} {t : Value} (s : Same H H') (h : TyX K H x t) : TyX K H' x t := by
  cases h with
  | base h => exact .base (TyOf.same s h)
  | byt b => exact .byt b
  | set e => exact .set (s _ _ e)
  | kList e c => exact .kList e c
  | kTuple e c => exact .kTuple e c
  | kDict e c => exact .kDict e c
  | fTuple e => exact .fTuple (s _ _ e)
  | fDict e => exact .fDict (s _ _ e)
/-- isinstance of the built-in class n -/
def IsT (K : PySem.W.Frag) (H : Hp) (x : V) (n : String) (b : Bool) : Prop := ∃ t, TyX K H x t ∧ PySem.W.kitOne K t (.type n) = some b
theorem IsT.same {K : PySem.W.Frag} {H H' : Hp} {x : V} {n : String} {b : Bool} (s : Same H H') (h : IsT K H x n b) : IsT K H' x n b := by
  obtain ⟨t, h1, h2⟩ := h
  exact ⟨t, TyX.same s h1, h2⟩
theorem isT_str {K : PySem.W.Frag} {H : Hp} {z : Str} : IsT K H (.str z) "str" true := ⟨_, .base (.str z), kit_ty (by decide +kernel)⟩
theorem isT_bl {K : PySem.W.Frag} {H : Hp} {z : Bool} : IsT K H (.bl z) "bool" true := ⟨_, .base (.bl z), kit_ty (by decide +kernel)⟩
theorem isT_int {K : PySem.W.Frag} {H : Hp} {z : Int} : IsT K H (.int z) "int" true ∧ IsT K H (.int z) "bool" false := ⟨⟨_, .base (.int z), kit_ty (by decide +kernel)⟩, ⟨_, .base (.int z), kit_ty (by decide +kernel)⟩⟩
/-- is it a list or a tuple -/
def IsSeq (K : PySem.W.Frag) (H : Hp) (x : V) (b : Bool) : Prop := ∃ t, TyX K H x t ∧ PySem.W.kitAny K t [.type "list", .type "tuple"] = some b
theorem IsSeq.same {K : PySem.W.Frag} {H H' : Hp} {x : V} {b : Bool} (s : Same H H') (h : IsSeq K H x b) : IsSeq K H' x b := by
  obtain ⟨t, h1, h2⟩ := h
  exact ⟨t, TyX.same s h1, h2⟩
theorem kitAny_lt {K : PySem.W.Frag} {t : Value} {b c : Bool} (h1 : PySem.W.kitOne K t (.type "list") = some b) (h2 : PySem.W.kitOne K t (.type "tuple") = some c) : PySem.W.kitAny K t [.type "list", .type "tuple"] = some (b || c) := by
  refine kitAny_cons h1 (fun hb => ?_) (fun hb => by rw [hb]; rfl)
  subst hb
  exact kitAny_cons h2 (fun hc => by subst hc; exact kitAny_nil) (fun hc => by rw [hc]; rfl)
/-- what is a list or a tuple of xs -/
def SqX (K : PySem.W.Frag) (H : Hp) (a : Addr) (xs : List V) : Prop := H a = some (.lst xs) ∨ H a = some (.tup xs)
theorem SqX.same {K : PySem.W.Frag} {H H' : Hp} {a : Addr} {xs : List V} (s : Same H H') (h : SqX K H a xs) : SqX K H' a xs := h.imp (s _ _) (s _ _)
theorem SqX.seq {K : PySem.W.Frag} {H : Hp} {a : Addr} {xs : List V} (h : SqX K H a xs) : IsSeq K H (.ref a) true := by
  rcases h with h | h
  · exact ⟨_, .base (.lst h), kitAny_lt (b := true) (c := false) (kit_ty (by decide +kernel)) (kit_ty (by decide +kernel))⟩
  · exact ⟨_, .base (.tup h), kitAny_lt (b := false) (c := true) (kit_ty (by decide +kernel)) (kit_ty (by decide +kernel))⟩
def nameB (z : Str) : Bool := decide (z.length ≤ 6) && (Txt.isascii z && (Txt.isalpha z && Txt.islower z))
theorem nameB_len {z : Str} (h : nameB z = true) : z.length ≤ 6 := of_decide_eq_true (Bool.and_eq_true_iff.mp h).1
/-- whether x is a name -/
def NmB (K : PySem.W.Frag) (H : Hp) (x : V) (b : Bool) : Prop := (∃ z, x = .str z ∧ z.length ≤ sizeLine ∧ b = nameB z) ∨ (b = false ∧ IsT K H x "str" false)
theorem NmB.same {K : PySem.W.Frag} {H H' : Hp} {x : V} {b : Bool} (s : Same H H') (h : NmB K H x b) : NmB K H' x b := h.imp id fun ⟨e, t⟩ => ⟨e, t.same s⟩
def remarkB (z : Str) : Bool := decide (V.str z = V.str "") || nameB z

def spInt (K : PySem.W.Frag) : Sp := fun vs H Q _ => ∃ x b c, vs = [x] ∧ IsT K H x "int" b ∧ IsT K H x "bool" c ∧ Q (.bl (b && !c)) H
def spNum (K : PySem.W.Frag) : Sp := fun vs H Q _ => ∃ (x : V) (m : Int), vs = [x, .int m] ∧ ((∃ i, x = .int i ∧ Q (.bl (decide (0 ≤ i) && decide (i < m))) H) ∨ (∃ b c, IsT K H x "int" b ∧ IsT K H x "bool" c ∧ (b && !c) = false ∧ Q (.bl false) H))
def spSeq (K : PySem.W.Frag) : Sp := fun vs H Q _ => ∃ x b, vs = [x] ∧ IsSeq K H x b ∧ ∀ H', Same H H' → Q (.bl b) H'
def spName (K : PySem.W.Frag) : Sp := fun vs H Q _ => ∃ x b, vs = [x] ∧ NmB K H x b ∧ Q (.bl b) H
/-- the items' answers -/
def NmBs (K : PySem.W.Frag) (H : Hp) (xs : List V) (bs : List Bool) : Prop := bs.length = xs.length ∧ ∀ (i : Nat) (x : V) (b : Bool), xs[i]? = some x → bs[i]? = some b → NmB K H x b
def spNames (K : PySem.W.Frag) : Sp := fun vs H Q _ => ∃ x, vs = [x] ∧ ((IsSeq K H x false ∧ ∀ H', Same H H' → Q (.bl false) H') ∨
  (∃ a xs bs, x = .ref a ∧ SqX K H a xs ∧ xs.length ≤ 1000 ∧ NmBs K H xs bs ∧ ∀ H', Same H H' → Q (.bl (decide (0 < xs.length) && bs.all id)) H'))
def spReq : Sp := fun vs H Q _ => ∃ v, vs = [.bl true, v] ∧ Q .non H
def spRem (K : PySem.W.Frag) : Sp := fun vs H Q _ => ∃ x, vs = [x] ∧ ((∃ z, x = .str z ∧ z.length ≤ sizeLine ∧ Q (.bl (remarkB z)) H) ∨ (IsT K H x "str" false ∧ Q (.bl false) H))
abbrev sInt : Stmt := top 8
abbrev sNum : Stmt := top 9
abbrev sSeq : Stmt := top 10
abbrev sName : Stmt := top 11
abbrev sNames : Stmt := top 12
abbrev sReq : Stmt := top 14
abbrev sRem : Stmt := top 15
section
variable {P : Program} {w : World} {K : PySem.W.Frag} {mg : Str → Option Value} {base : Heap}
theorem scInt : FnScope ["value"] ["value"] (defScope sInt) := ⟨rfl, rfl, rfl, by decide +kernel, rfl, by decide +kernel, by decide +kernel⟩
theorem ok_int {f : Addr} {fd : FuncData} (F : Fun K "is_integer" "is_integer" sInt f fd) (T : TxtK mg) : FnOk P w K mg base CX0 1 f fd ["value"] (spInt K) := by
  refine F.ok scInt (fun vs H Q E h => ?_) (fun cdv A outer s H vs Q E hr h => ?_)
  · obtain ⟨x, b, c, rfl, _⟩ := h
    rfl
  · obtain ⟨x, b, c, rfl, ⟨t, ty, e⟩, ⟨t', ty', e'⟩, k⟩ := h
    refine ⟨_, (pss_one (ps_ret (pe_and (pe_callB call_isi (by rfl) T.isinstance (by decide +kernel) (pa_cons (pv 0) (pa_cons (pe_bltn (v := .ty "int") (by rfl) T.int (by decide +kernel) rfl) pa_nil))) (pe_one (pe_not (pe_callB call_isi (by rfl) T.isinstance (by decide +kernel) (pa_cons (pv 0) (pa_cons (pe_bltn (v := .ty "bool") (by rfl) T.bool (by decide +kernel) rfl) pa_nil)))))))), ?_⟩
    refine ⟨_, rfl, _, _, _, _, _, rfl, .ty _, ty, e, _, rfl, ?_⟩
    refine ite2 (fun hb => ?_) (fun hb => ?_)
    · subst hb
      exact ⟨_, rfl, _, _, _, _, _, rfl, .ty _, ty', e', _, rfl, k⟩
    · have : b = false := by simpa using hb
      subst this
      exact k
theorem scNum : FnScope ["value", "many"] ["value", "many"] (defScope sNum) := ⟨rfl, rfl, rfl, by decide +kernel, rfl, by decide +kernel, by decide +kernel⟩
theorem ok_num {f fI : Addr} {fd fdI : FuncData} (F : Fun K "is_number" "is_number" sNum f fd) (GI : FnOk P w K mg base CX0 1 fI fdI ["value"] (spInt K)) (gI : mg "is_integer" = some (.ref fI)) (kI : PySem.W.keepIn K (.ref fI) = true) (bI : Binds K fdI ["value"] []) :
    FnOk P w K mg base CX0 2 f fd ["value", "many"] (spNum K) := by
  refine F.ok scNum (fun vs H Q E h => ?_) (fun cdv A outer s H vs Q E hr h => ?_)
  · obtain ⟨x, m, rfl, _⟩ := h
    rfl
  · obtain ⟨x, m, rfl, h⟩ := h
    refine ⟨_, (pss_one (ps_ret (pe_and (pe_call GI hr (by rfl) gI kI bI .nil pass0 (pa_cons (pv 0) pa_nil)) (pe_one (pe_chain op_le op_lt pe_int (pv 0) (pv 1)))))), ?_⟩
    rcases h with ⟨i, rfl, k⟩ | ⟨b, c, h1, h2, h3, k⟩
    · refine ⟨_, rfl, _, true, false, rfl, isT_int.1, isT_int.2, _, rfl, ?_⟩
      refine ⟨_, rfl, _, _, rfl, rfl, _, rfl, ?_⟩
      refine ite2 (fun hb => ?_) (fun hb => ?_)
      · refine ⟨_, rfl, _, _, rfl, rfl, ?_⟩
        rw [hb, Bool.true_and] at k
        exact k
      · have : decide (0 ≤ i) = false := by simpa using hb
        rw [this, Bool.false_and] at k
        exact k
    · refine ⟨_, rfl, _, b, c, rfl, h1, h2, _, rfl, ?_⟩
      rw [h3]
      exact k
theorem scSeq : FnScope ["value"] ["value"] (defScope sSeq) := ⟨rfl, rfl, rfl, by decide +kernel, rfl, by decide +kernel, by decide +kernel⟩
theorem ok_seq {f : Addr} {fd : FuncData} (F : Fun K "is_sequence" "is_sequence" sSeq f fd) (T : TxtK mg) : FnOk P w K mg base CX0 1 f fd ["value"] (spSeq K) := by
  refine F.ok scSeq (fun vs H Q E h => ?_) (fun cdv A outer s H vs Q E hr h => ?_)
  · obtain ⟨x, b, rfl, _⟩ := h
    rfl
  · obtain ⟨x, b, rfl, ⟨t, ty, e⟩, k⟩ := h
    refine ⟨_, (pss_one (ps_ret (pe_callB call_isiT (by rfl) T.isinstance (by decide +kernel) (pa_cons (pv 0) (pa_cons (pe_tup (pa_cons (pe_bltn (v := .ty "list") (by rfl) T.list (by decide +kernel) rfl) (pa_cons (pe_bltn (v := .ty "tuple") (by rfl) T.tuple (by decide +kernel) rfl) pa_nil))) pa_nil))))), ?_⟩
    refine ⟨_, rfl, (by show 2 ≤ sizeLine; decide), fun p hp => ?_⟩
    exact ⟨x, p, _, t, _, b, rfl, upd_same, .cons (.ty _) (.cons (.ty _) .nil), TyX.same (Same.new hp) ty, e, k _ (Same.new hp)⟩
theorem scName : FnScope ["value"] ["value"] (defScope sName) := ⟨rfl, rfl, rfl, by decide +kernel, rfl, by decide +kernel, by decide +kernel⟩
theorem ok_name {f : Addr} {fd : FuncData} (F : Fun K "is_name" "is_name" sName f fd) (T : TxtK mg) : FnOk P w K mg base CX0 1 f fd ["value"] (spName K) := by
  refine F.ok scName (fun vs H Q E h => ?_) (fun cdv A outer s H vs Q E hr h => ?_)
  · obtain ⟨x, b, rfl, _⟩ := h
    rfl
  · obtain ⟨x, b, rfl, h, k⟩ := h
    refine ⟨_, (pss_cons (ps_if (pt_not (pt_val (pe_callB call_isi (by rfl) T.isinstance (by decide +kernel) (pa_cons (pv 0) (pa_cons (pe_bltn (v := .ty "str") (by rfl) T.str (by decide +kernel) rfl) pa_nil)))))
      (pss_one (ps_ret pe_bl))
      pss_nil)
    (pss_one (ps_ret (pe_and (pe_cmpR op_le (pe_callB call_len_str (by rfl) T.len PySem.boot_len (pa_cons (pv 0) pa_nil)) pe_int (nomark _)) (pe_and (pe_m0 PySem.F.slot_str_isascii PySem.F.type_str_isascii mt_isascii (pv 0)) (pe_and (pe_m0 PySem.F.slot_str_isalpha PySem.F.type_str_isalpha mt_isalpha (pv 0)) (pe_one (pe_m0 PySem.F.slot_str_islower PySem.F.type_str_islower mt_islower (pv 0))))))))), ?_⟩
    rcases h with ⟨z, rfl, hz, rfl⟩ | ⟨rfl, t, ty, e⟩
    · obtain ⟨t, ty, e⟩ := isT_str (K := K) (H := H) (z := z)
      refine ⟨_, rfl, _, _, _, _, _, rfl, .ty _, ty, e, _, rfl, ?_⟩
      refine ⟨_, rfl, _, rfl, hz, _, _, rfl, rfl, _, rfl, ?_⟩
      have e0 : decide (((z.length : Nat) : Int) ≤ 6) = decide (z.length ≤ 6) := by
        by_cases q : z.length ≤ 6
        · rw [decide_eq_true q, decide_eq_true (by omega)]
        · rw [decide_eq_false q, decide_eq_false (by omega)]
      unfold nameB at k
      refine ite2 (fun h1 => ?_) (fun h1 => ?_)
      · rw [e0] at h1
        rw [h1, Bool.true_and] at k
        refine ⟨_, rfl, ⟨_, rfl⟩, _, rfl, rfl, trivial, _, rfl, ?_⟩
        refine ite2 (fun h2 => ?_) (fun h2 => ?_)
        · rw [h2, Bool.true_and] at k
          refine ⟨_, rfl, ⟨_, rfl⟩, _, rfl, rfl, trivial, _, rfl, ?_⟩
          refine ite2 (fun h3 => ?_) (fun h3 => ?_)
          · rw [h3, Bool.true_and] at k
            exact ⟨_, rfl, ⟨_, rfl⟩, _, rfl, rfl, trivial, k⟩
          · have : Txt.isalpha z = false := by simpa using h3
            rw [this, Bool.false_and] at k
            exact k
        · have : Txt.isascii z = false := by simpa using h2
          rw [this, Bool.false_and] at k
          exact k
      · rw [e0] at h1
        have : decide (z.length ≤ 6) = false := by simpa using h1
        rw [this, Bool.false_and] at k
        exact k
    · exact ⟨_, rfl, _, _, _, _, _, rfl, .ty _, ty, e, _, rfl, k⟩
theorem scNames : FnScope ["value", "one"] ["value"] (defScope sNames) := ⟨rfl, rfl, rfl, by decide +kernel, rfl, by decide +kernel, by decide +kernel⟩
theorem ok_names {f fS fN : Addr} {fd fdS fdN : FuncData} (F : Fun K "are_names" "are_names" sNames f fd) (T : TxtK mg) (GS : FnOk P w K mg base CX0 1 fS fdS ["value"] (spSeq K)) (gS : mg "is_sequence" = some (.ref fS)) (kS : PySem.W.keepIn K (.ref fS) = true) (bS : Binds K fdS ["value"] [])
    (GN : FnOk P w K mg base CX0 1 fN fdN ["value"] (spName K)) (gN : mg "is_name" = some (.ref fN)) (kN : PySem.W.keepIn K (.ref fN) = true) (bN : Binds K fdN ["value"] []) : FnOk P w K mg base CX0 2 f fd ["value"] (spNames K) := by
  refine F.ok scNames (fun vs H Q E h => ?_) (fun cdv A outer s H vs Q E hr h => ?_)
  · obtain ⟨x, rfl, _⟩ := h
    rfl
  · obtain ⟨x, rfl, h⟩ := h
    rcases h with ⟨h, k⟩ | ⟨a, xs, bs, rfl, hx, hl, hb, k⟩
    · refine ⟨_, (pss_cons (ps_if (pt_not (pt_val (pe_call GS hr (by rfl) gS kS bS .nil pass0 (pa_cons (pv 0) pa_nil)))) (pss_one (ps_ret pe_bl)) pss_nil) pss_never), ?_⟩
      exact ⟨_, rfl, _, false, rfl, h, fun H' s => ⟨_, rfl, k H' s⟩⟩
    · have fin : ∀ H1 l, Same H H1 → H1 l = some (.lst (bs.map V.bl)) → (Q (.bl (bs.all id)) H1 ↔ Q (.bl (bs.all id)) H1) := fun _ _ _ _ => Iff.rfl
      have turn : ∀ {G : Hp} {D : Addr} {i : Nat} {x : V}, Same H G → xs[i]? = some x → ∃ b, bs[i]? = some b ∧ NmB K G x b := fun {G D i x} s hi => by
        have li := (List.getElem?_eq_some_iff.mp hi).1
        rw [← hb.1] at li
        exact ⟨bs[i], by simp [li], (hb.2 i x _ hi (by simp [li])).same s⟩
      rcases hx with hx | hx
      · refine ⟨_, (pss_cons (ps_if (pt_not (pt_val (pe_call GS hr (by rfl) gS kS bS .nil pass0 (pa_cons (pv 0) pa_nil)))) (pss_one (ps_ret pe_bl)) pss_nil)
          (pss_one (ps_ret (pe_and (pe_cmpR op_gt (pe_callB call_len_seq (by rfl) T.len PySem.boot_len (pa_cons (pv 0) pa_nil)) pe_int (nomark _)) (pe_one (pe_callB (cr_all rfl) (by rfl) T.all (by decide +kernel) (pa_cons
            (pe_lc (own := [("one", 1)]) (g := gName 1) (tt := tYes) (by rfl) scNames.nd (pi_list (pv 0)) (blkOk_by (N := ["value", "one"]) (sc := defScope sNames) (by decide +kernel)) (fun _ _ _ _ _ => pg_name (i := 1) scNames.nd rfl (Or.inl rfl)) (fun _ _ _ _ _ => pts_nil) (fun _ _ _ _ _ => pe_call GN hr (by rfl) gN kN bN .nil pass0 (pa_cons (pv 1) pa_nil))) pa_nil))))))), ?_⟩
        refine ⟨_, rfl, _, true, rfl, SqX.seq (.inl hx), fun H1 s1 => ⟨_, rfl, ?_⟩⟩
        refine ⟨_, rfl, a, xs, rfl, .inl (SqL.of (s1 _ _ hx)), _, _, rfl, rfl, _, rfl, ?_⟩
        have e0 : decide (((xs.length : Nat) : Int) > 0) = decide (0 < xs.length) := by
          by_cases q : 0 < xs.length
          · rw [decide_eq_true q, decide_eq_true (by omega)]
          · rw [decide_eq_false q, decide_eq_false (by omega)]
        refine ite2 (fun h1 => ?_) (fun h1 => ?_)
        · have h2 : decide (0 < xs.length) = true := by rw [← e0]; exact h1
          rw [h2] at k
          refine ⟨_, rfl, a, rfl, ⟨_, SqL.of (s1 _ _ hx)⟩, fun D nD => lc_list (K := K) (a := a) (xs := xs) (fun i G => Same H1 G ∧ G D = some (.lst ((bs.take i).map V.bl))) ⟨Same.new nD, upd_same⟩ (fun i G _ q => SqL.of (q.1 _ _ (s1 _ _ hx))) ?_ ?_⟩
          · rintro i x G hi ⟨sG, hD⟩
            obtain ⟨b, eb, nb⟩ := turn (D := D) (s1.trans sG) hi
            refine ⟨rfl, _, rfl, x, b, rfl, nb, _, hD, ?_, fun c u e => by rw [upd_ne (ne_of_none e nD)]; exact sG _ _ e, ?_⟩
            · rw [List.length_map, List.length_take]
              have : i < xs.length := (List.getElem?_eq_some_iff.mp hi).1
              exact small1000 (by omega)
            · rw [upd_same, List.take_succ, eb, List.map_append]
              rfl
          · rintro G ⟨sG, hD⟩
            refine ⟨D, bs, rfl, ?_, ?_⟩
            · rw [← hb.1, List.take_length] at hD
              exact SqL.of hD
            · exact k G (s1.trans sG)
        · have h2 : decide (0 < xs.length) = false := by rw [← e0]; simpa using h1
          rw [h2] at k
          exact k H1 s1
      · refine ⟨_, (pss_cons (ps_if (pt_not (pt_val (pe_call GS hr (by rfl) gS kS bS .nil pass0 (pa_cons (pv 0) pa_nil)))) (pss_one (ps_ret pe_bl)) pss_nil)
          (pss_one (ps_ret (pe_and (pe_cmpR op_gt (pe_callB call_len_seq (by rfl) T.len PySem.boot_len (pa_cons (pv 0) pa_nil)) pe_int (nomark _)) (pe_one (pe_callB (cr_all rfl) (by rfl) T.all (by decide +kernel) (pa_cons
            (pe_lc (own := [("one", 1)]) (g := gName 1) (tt := tYes) (by rfl) scNames.nd (pi_tup (pv 0)) (blkOk_by (N := ["value", "one"]) (sc := defScope sNames) (by decide +kernel)) (fun _ _ _ _ _ => pg_name (i := 1) scNames.nd rfl (Or.inl rfl)) (fun _ _ _ _ _ => pts_nil) (fun _ _ _ _ _ => pe_call GN hr (by rfl) gN kN bN .nil pass0 (pa_cons (pv 1) pa_nil))) pa_nil))))))), ?_⟩
        refine ⟨_, rfl, _, true, rfl, SqX.seq (.inr hx), fun H1 s1 => ⟨_, rfl, ?_⟩⟩
        refine ⟨_, rfl, a, xs, rfl, .inr (SqT.of (s1 _ _ hx)), _, _, rfl, rfl, _, rfl, ?_⟩
        have e0 : decide (((xs.length : Nat) : Int) > 0) = decide (0 < xs.length) := by
          by_cases q : 0 < xs.length
          · rw [decide_eq_true q, decide_eq_true (by omega)]
          · rw [decide_eq_false q, decide_eq_false (by omega)]
        refine ite2 (fun h1 => ?_) (fun h1 => ?_)
        · have h2 : decide (0 < xs.length) = true := by rw [← e0]; exact h1
          rw [h2] at k
          refine ⟨_, rfl, a, rfl, ⟨_, SqT.of (s1 _ _ hx)⟩, fun D nD => lc_tup (K := K) (a := a) (xs := xs) (fun i G => Same H1 G ∧ G D = some (.lst ((bs.take i).map V.bl))) ⟨Same.new nD, upd_same⟩ (fun i G _ q => SqT.of (q.1 _ _ (s1 _ _ hx))) ?_ ?_⟩
          · rintro i x G hi ⟨sG, hD⟩
            obtain ⟨b, eb, nb⟩ := turn (D := D) (s1.trans sG) hi
            refine ⟨rfl, _, rfl, x, b, rfl, nb, _, hD, ?_, fun c u e => by rw [upd_ne (ne_of_none e nD)]; exact sG _ _ e, ?_⟩
            · rw [List.length_map, List.length_take]
              have : i < xs.length := (List.getElem?_eq_some_iff.mp hi).1
              exact small1000 (by omega)
            · rw [upd_same, List.take_succ, eb, List.map_append]
              rfl
          · rintro G ⟨sG, hD⟩
            refine ⟨D, bs, rfl, ?_, ?_⟩
            · rw [← hb.1, List.take_length] at hD
              exact SqL.of hD
            · exact k G (s1.trans sG)
        · have h2 : decide (0 < xs.length) = false := by rw [← e0]; simpa using h1
          rw [h2] at k
          exact k H1 s1
theorem scReq : FnScope ["holds", "word"] ["holds", "word"] (defScope sReq) := ⟨rfl, rfl, rfl, by decide +kernel, rfl, by decide +kernel, by decide +kernel⟩
/-- require, where what is asked holds -/
theorem ok_req {f : Addr} {fd : FuncData} (F : Fun K "require" "require" sReq f fd) : FnOk P w K mg base CX0 1 f fd ["holds", "word"] spReq := by
  refine F.ok scReq (fun vs H Q E h => ?_) (fun cdv A outer s H vs Q E hr h => ?_)
  · obtain ⟨v, rfl, _⟩ := h
    rfl
  · obtain ⟨v, rfl, k⟩ := h
    exact ⟨_, pss_one (ps_if (pt_not (pt_val (pv 0))) pss_never pss_nil), _, rfl, _, rfl, k⟩
theorem scRem : FnScope ["value"] ["value"] (defScope sRem) := ⟨rfl, rfl, rfl, by decide +kernel, rfl, by decide +kernel, by decide +kernel⟩
theorem ok_rem {f fN : Addr} {fd fdN : FuncData} (F : Fun K "is_remark" "is_remark" sRem f fd) (T : TxtK mg) (GN : FnOk P w K mg base CX0 1 fN fdN ["value"] (spName K)) (gN : mg "is_name" = some (.ref fN)) (kN : PySem.W.keepIn K (.ref fN) = true) (bN : Binds K fdN ["value"] []) :
    FnOk P w K mg base CX0 2 f fd ["value"] (spRem K) := by
  refine F.ok scRem (fun vs H Q E h => ?_) (fun cdv A outer s H vs Q E hr h => ?_)
  · obtain ⟨x, rfl, _⟩ := h
    rfl
  · obtain ⟨x, rfl, h⟩ := h
    refine ⟨_, (pss_one (ps_ret (pe_and (pe_callB call_isi (by rfl) T.isinstance (by decide +kernel) (pa_cons (pv 0) (pa_cons (pe_bltn (v := .ty "str") (by rfl) T.str (by decide +kernel) rfl) pa_nil))) (pe_one (pe_or (pe_cmpR op_eq (pv 0) pe_str (nomark _)) (pe_one (pe_call GN hr (by rfl) gN kN bN .nil pass0 (pa_cons (pv 0) pa_nil)))))))), ?_⟩
    rcases h with ⟨z, rfl, hz, k⟩ | ⟨⟨t, ty, e⟩, k⟩
    · obtain ⟨t, ty, e⟩ := isT_str (K := K) (H := H) (z := z)
      refine ⟨_, rfl, _, _, _, _, _, rfl, .ty _, ty, e, _, rfl, ?_⟩
      refine ⟨_, rfl, rfl, _, rfl, ?_⟩
      unfold remarkB at k
      refine ite2 (fun h1 => ?_) (fun h1 => ?_)
      · rw [h1] at k
        exact k
      · have : decide (V.str z = V.str "") = false := by simpa using h1
        rw [this, Bool.false_or] at k
        exact ⟨_, rfl, _, _, rfl, .inl ⟨z, rfl, hz, rfl⟩, k⟩
    · exact ⟨_, rfl, _, _, _, _, _, rfl, .ty _, ty, e, _, rfl, k⟩
end
end Lay
set_option Elab.async false
set_option linter.all false
set_option maxRecDepth 100000
set_option maxHeartbeats 4000000
set_option pp.maxSteps 700
namespace Lay
open PySem PySem.Spec PyProof.Rows L2
theorem iteN {c : Bool} {A B : Prop} (h : c = false) (x : B) : if c = true then A else B := by
  rw [if_neg (by rw [h]; exact Bool.false_ne_true)]
  exact x
theorem iteY {c : Bool} {A B : Prop} (h : c = true) (x : A) : if c = true then A else B := by
  rw [if_pos h]
  exact x
theorem same_put {H H1 : Hp} {p : Addr} {o : HO} (s : Same H H1) (n : H p = none) : Same H (upd H1 p o) := fun b u e => by
  rw [upd_ne (ne_of_none e n)]
  exact s _ _ e
theorem fits {n : Nat} (h : n ≤ 1000) : n ≤ sizeLine := Nat.le_trans h (by decide)
theorem made_same {x dx : Addr} {H H' : Hp} {o : HO} (hx : H x = none) (hd : H dx = none) (k : Kept x (upd (upd H dx (.own x)) x o) H') : Same H H' := fun b u e => k b u (ne_of_none e hx) (by rw [upd_ne (ne_of_none e hx), upd_ne (ne_of_none e hd)]; exact e)
theorem fresh_own {H : Hp} {p d : Addr} {o : HO} (np : H p = none) (ne : d ≠ p) : upd H d o p = none := by
  rw [upd_ne (Ne.symm ne)]
  exact np
theorem Same.rfl {H : Hp} : Same H H := fun _ _ e => e
/-! defs by their names -/
/-- the module's names that must be Python's own -/
structure Bt (mg : Str → Option Value) : Prop where
  int : mg "int" = none
  bool : mg "bool" = none
  str : mg "str" = none
  list : mg "list" = none
  tuple : mg "tuple" = none
  dict : mg "dict" = none
  isinstance : mg "isinstance" = none
  len : mg "len" = none
  all : mg "all" = none
  any : mg "any" = none
  abs : mg "abs" = none
  range : mg "range" = none
  enumerate : mg "enumerate" = none
  zip : mg "zip" = none
  max : mg "max" = none
  min : mg "min" = none
  repr : mg "repr" = none
  sorted : mg "sorted" = none
/-- the def n as it stands behind the top -/
def Dfn (K : PySem.W.Frag) (mg : Str → Option Value) (n : Str) (st : Stmt) (ps : List Str) : Prop := ∃ f fd, Fun K n n st f fd ∧ mg n = some (.ref f) ∧ Binds K fd ps []
/-- the def n keeps a promise -/
def Has (P : Program) (w : World) (K : PySem.W.Frag) (mg : Str → Option Value) (base : Heap) (CX : CXT) (k : Nat) (n : Str) (ps : List Str) (sp : Sp) : Prop :=
  ∃ f fd, FnOk P w K mg base CX k f fd ps sp ∧ mg n = some (.ref f) ∧ PySem.W.keepIn K (.ref f) = true ∧ Binds K fd ps []
section
variable {P : Program} {w : World} {K : PySem.W.Frag} {mg : Str → Option Value} {base : Heap} {n : Str} {st : Stmt} {N ps : List Str} {k : Nat} {sp : Sp}
theorem Dfn.has (D : Dfn K mg n st ps) (S : FnScope N ps (defScope st)) (len : ∀ vs H Q E, sp vs H Q E → vs.length = ps.length)
    (hbody : ∀ (f : Addr) (cdv : Value) (A : Around) (outer : List Env) (s : Shared) (H : Hp) (vs : List V) (Q : VK) (E : XK), Room k (A.deeper (envOfC n (defScope st) s.heap.objs.size f cdv)) → sp vs H Q E →
      ∃ t, PSs (cxOf CX0 P w K mg base N n (defScope st) f cdv A outer s H E).nox (defBody st) t ∧ t { nx := fun _ H' => Q .non H', rt := Q } (start N vs) H) : Has P w K mg base CX0 (k + 1) n ps sp := by
  obtain ⟨f, fd, F, g, b⟩ := D
  exact ⟨f, fd, F.ok S len (hbody f), g, F.kp, b⟩
theorem Dfn.hasX (D : Dfn K mg n st ps) (S : FnScope N ps (defScope st)) (len : ∀ vs H Q E, sp vs H Q E → vs.length = ps.length)
    (hbody : ∀ (f : Addr) (cdv : Value) (A : Around) (outer : List Env) (s : Shared) (H : Hp) (vs : List V) (Q : VK) (E : XK), Room k (A.deeper (envOfC n (defScope st) s.heap.objs.size f cdv)) → sp vs H Q E →
      ∃ t, PSs (cxOf (L2.CX P w) P w K mg base N n (defScope st) f cdv A outer s H E) (defBody st) t ∧ t { nx := fun _ H' => Q .non H', rt := Q } (start N vs) H) : Has P w K mg base (L2.CX P w) (k + 1) n ps sp := by
  obtain ⟨f, fd, F, g, b⟩ := D
  exact ⟨f, fd, F.okX S len (hbody f), g, F.kp, b⟩
theorem Has.mono {CX : CXT} {j : Nat} (h : Has P w K mg base CX j n ps sp) (l : j ≤ k) : Has P w K mg base CX k n ps sp := by
  obtain ⟨f, fd, F, r⟩ := h
  exact ⟨f, fd, F.mono l, r⟩
theorem Has.imp {CX : CXT} {sp' : Sp} (h : Has P w K mg base CX k n ps sp) (i : ∀ vs H Q E, sp' vs H Q E → sp vs H Q E) : Has P w K mg base CX k n ps sp' := by
  obtain ⟨f, fd, F, r⟩ := h
  exact ⟨f, fd, F.imp i, r⟩
end
section
variable {X : Cx} {CX : CXT} {k : Nat} {ps : List Str} {sp : Sp} {E : XK} {n : Str} {p pos : Pos} {e : Expr} {es : List Expr} {t : TA}
theorem pe_callH (D : Has X.prog X.w X.K X.mg X.base CX k n ps sp) (hr : Room k X.A) (hg : Gl X n) (hx : Passes CX X E) (ha : PA X (e :: es) t) (hdb : (n == ("__debug__" : Str)) = false := by decide)
    (he : starEach (e :: es) X.env = (false, eval e X.env) :: starEach es X.env := by rfl) (hpl : (backTo pos (starEach es X.env)).any (·.1) = false := by rfl) : PE X (.Call (.Name n p) (e :: es) [] pos) (tCall sp [] E t) := by
  obtain ⟨f, fd, F, g, kp, b⟩ := D
  exact pe_call F hr hg g kp b .nil hx ha hdb he hpl
theorem pe_callH0 (D : Has X.prog X.w X.K X.mg X.base CX k n ps sp) (hr : Room k X.A) (hg : Gl X n) (hx : Passes CX X E) (hdb : (n == ("__debug__" : Str)) = false := by decide) : PE X (.Call (.Name n p) [] [] pos) (tCall sp [] E tNil) := by
  obtain ⟨f, fd, F, g, kp, b⟩ := D
  exact pe_call0 F hr hg g kp b .nil hx hdb
end
section
variable {X : Cx}
/-- xs == [], any xs -/
theorem op_eqNil (hu : X.A.units + 64 < cLine) : OpR X (compareOp .Eq) (fun x y H Q => ∃ a b xs, x = .ref a ∧ y = .ref b ∧ SqL X.K H a xs ∧ H b = some (.lst []) ∧ Q (.bl xs.isEmpty) H) := by
  intro pins s σ H x y v u Q I rx ry h
  obtain ⟨a, b, xs, rfl, rfl, ha, hb, q⟩ := h
  cases xs with
  | nil => exact op_eqD hu pins s σ H _ _ v u Q I rx ry ⟨.list [], .list [], .lst ha .nil, .lst (SqL.of hb) .nil, rfl, rfl, q⟩
  | cons z zs =>
    cases rx
    cases ry
    obtain ⟨its, r, p1, _⟩ := I.list ha
    obtain ⟨its2, r2, p2, _⟩ := I.list (SqL.of hb)
    cases r2
    refine SeqAt.eq_list_lengthsAt p1.isList p2.isList ?_ (by omega) ⟨.bl false, H, I, rfl, q⟩
    cases r
    rfl
end
/-! rules that name K -/
def rLenK (K : PySem.W.Frag) : List V → Hp → VK → Prop := fun xs H Q => ∃ p ys, xs = [.ref p] ∧ (SqL K H p ys ∨ SqT K H p ys) ∧ Q (.int ys.length) H
section
variable {X : Cx} {K : PySem.W.Frag}
theorem call_lenK (hK : X.K = K) : CallR X (.builtin "len") (rLenK K) := by
  subst hK
  exact call_len_seq
theorem call_isiK (hK : X.K = K) : CallR X (.builtin "isinstance") (rIsi K) := by
  subst hK
  exact call_isi
theorem call_isiTK (hK : X.K = K) : CallR X (.builtin "isinstance") (rIsiT K) := by
  subst hK
  exact call_isiT
theorem ix_listK (hK : X.K = K) : IxR X (rIxL K) := by
  subst hK
  exact ix_list
theorem op_inK (hK : X.K = K) : OpR X (compareOp .In) (rIn K false) := by
  subst hK
  exact op_in_seq
theorem op_notInK (hK : X.K = K) : OpR X (compareOp .NotIn) (rIn K true) := by
  subst hK
  exact op_notIn_seq
end
/-! a list or a tuple, walked -/
def SqK (K : PySem.W.Frag) (k : Bool) (H : Hp) (a : Addr) (xs : List V) : Prop := match k with
  | false => SqL K H a xs
  | true => SqT K H a xs
theorem SqK.same {K : PySem.W.Frag} {k : Bool} {H H' : Hp} {a : Addr} {xs : List V} (e : Same H H') (h : SqK K k H a xs) : SqK K k H' a xs := by
  cases k with
  | false =>
    rcases h with (h | ⟨o, h⟩) | h
    · exact .inl (.inl (e _ _ h))
    · exact .inl (.inr ⟨o, e _ _ h⟩)
    · exact .inr h
  | true =>
    rcases h with (h | ⟨o, h⟩) | h
    · exact .inl (.inl (e _ _ h))
    · exact .inl (.inr ⟨o, e _ _ h⟩)
    · exact .inr h
def iSq (K : PySem.W.Frag) (te : TE) : TI := fun σ H R => te σ H fun x H1 => ∃ (a : Addr) (xs : List V) (k : Bool), x = .ref a ∧ SqK K k H1 a xs ∧ ∀ J, Walk J xs.length (fun G => SqK K k G a xs) (YAt xs) → R J H1
theorem pi_sq {X : Cx} {K : PySem.W.Frag} (hK : X.K = K) {l tg : Expr} {te : TE} (hl : PE X l te) : PI X tg l (iSq K te) := by
  subst hK
  refine ⟨fun pins s σ H R I h => thn (hl.run pins s σ H _ I h) fun v s1 ⟨x, H1, I1, r1, a, xs, k, e, hq, q⟩ => ?_⟩
  subst e
  cases r1
  have done : ∀ b ∈ [s1.heap.objs.size], FpOk X pins H1 b := fun b hb => by
    rw [List.mem_singleton.mp hb]
    exact I1.fpOk (Nat.le_refl _) (I1.hok.fresh (Nat.le_refl _))
  cases k with
  | false =>
    obtain ⟨its, rv, p, hz⟩ := I1.list hq
    have q := q _ walk_list
    refine wpAny_pyIter_list p.isList ?_
    exact ⟨s1.heap.objs.size, [s1.heap.objs.size], _, _, H1, rfl, I1.kept (t' := s1.toks) fun b o e => Heap.get?_push_of_some _ e, turn_list a _, ⟨_, Heap.get?_push_size _ rfl, rfl, rfl⟩, done, q⟩
  | true =>
    obtain ⟨its, rv, p, hz⟩ := I1.tuple hq
    have q := q _ walk_tup
    refine wpAny_pyIter_tuple (show s1.heap.IsTuple a its.toArray from p) ?_
    exact ⟨s1.heap.objs.size, [s1.heap.objs.size], _, _, H1, rfl, I1.kept (t' := s1.toks) fun b o e => Heap.get?_push_of_some _ e, turn_tuple a _, ⟨_, Heap.get?_push_size _ rfl, rfl, rfl⟩, done, q⟩
/-! names, sign by sign -/
def az (c : Nat) : Bool := decide (97 ≤ c) && decide (c ≤ 122)
theorem az_iff {c : Nat} : az c = true ↔ 97 ≤ c ∧ c ≤ 122 := by
  unfold az
  rw [Bool.and_eq_true, decide_eq_true_iff, decide_eq_true_iff]
theorem ch128 : ∀ c, c < 128 → (Unicode.isAlpha c && !(Unicode.isUpper c || Unicode.isTitle c)) = az c ∧ (az c = true → Unicode.isLower c = true) := by decide +kernel
theorem nameB_eq (z : Str) : nameB z = (decide (z.length ≤ 6) && (decide (0 < z.length) && z.cps.all az)) := by
  unfold nameB Txt.isascii Txt.isalpha Txt.islower
  congr 1
  apply Bool.eq_iff_iff.mpr
  simp only [Bool.and_eq_true, decide_eq_true_iff, Array.all_eq_true', Array.any_eq_true', Bool.not_eq_true', Array.any_eq_false', gt_iff_lt]
  constructor
  · rintro ⟨h1, ⟨h2, h3⟩, _, h5⟩
    refine ⟨h2, fun c hc => ?_⟩
    rw [← (ch128 c (h1 c hc)).1, Bool.and_eq_true]
    refine ⟨h3 c hc, ?_⟩
    have := h5 c hc
    simpa using this
  · rintro ⟨h2, h3⟩
    have lt : ∀ c, c ∈ z.cps → c < 128 := fun c hc => by
      have := (az_iff.mp (h3 c hc)).2
      omega
    refine ⟨lt, ⟨h2, fun c hc => ?_⟩, ?_, fun c hc => ?_⟩
    · have := (ch128 c (lt c hc)).1
      rw [h3 c hc, Bool.and_eq_true] at this
      exact this.1
    · have h0 : 0 < z.cps.size := h2
      exact ⟨z.cps[0], Array.getElem_mem h0, (ch128 _ (lt _ (Array.getElem_mem h0))).2 (h3 _ (Array.getElem_mem h0))⟩
    · have := (ch128 c (lt c hc)).1
      rw [h3 c hc, Bool.and_eq_true] at this
      simpa using this.2
def alphaS : Str := "abcdefghijklmnopqrstuvwxyz"
theorem alpha_list : alphaS.cps.toList = List.range' 97 26 := by decide +kernel
theorem mem_alpha {c : Nat} : decide (c ∈ alphaS.cps.toList) = az c := by
  rw [alpha_list]
  apply Bool.eq_iff_iff.mpr
  rw [decide_eq_true_iff, List.mem_range'_1, az_iff]
  omega
end Lay
set_option Elab.async false
set_option linter.all false
set_option maxRecDepth 100000
set_option maxHeartbeats 4000000
namespace Lay
open PySem L2
/-- what a piece is made of -/
structure PD where
  word : Str
  parts : List Str
  broken : Bool
  marked : Bool
  ahead : Str
  behind : Str
  blanks : Int
  left : Bool
structure PD.Ok (d : PD) : Prop where
  word : nameB d.word = true
  some : 0 < d.parts.length
  few : d.parts.length ≤ 1000
  parts : ∀ z ∈ d.parts, nameB z = true
  ahead : remarkB d.ahead = true
  behind : remarkB d.behind = true
  b0 : 0 ≤ d.blanks
  b3 : d.blanks < 3
theorem remarkB_len {z : Str} (h : remarkB z = true) : z.length ≤ 6 := by
  unfold remarkB at h
  rcases Bool.or_eq_true_iff.mp h with h | h
  · have e : z = ("" : Str) := V.str.inj (of_decide_eq_true h)
    rw [e]
    decide
  · exact nameB_len h
theorem six_line {n : Nat} (h : n ≤ 6) : n ≤ sizeLine := Nat.le_trans h (by decide)
/-- its attributes, the tuple of the items at t -/
def pieceF (d : PD) (t : Addr) : List (Str × V) :=
  putF "left" (.bl d.left) (putF "blanks" (.int d.blanks) (putF "behind" (.str d.behind) (putF "ahead" (.str d.ahead) (putF "marked" (.bl d.marked) (putF "broken" (.bl d.broken) (putF "parts" (.ref t) (putF "word" (.str d.word) [])))))))
/-- at p a piece of d -/
def PieceAt (K : PySem.W.Frag) (C : Addr) (H : Hp) (p : Addr) (d : PD) : Prop := ∃ dx t, H p = some (.ins C dx (pieceF d t)) ∧ H t = some (.tup (d.parts.map V.str))
theorem SqT.same {K : PySem.W.Frag} {H H' : Hp} {a : Addr} {xs : List V} (e : Same H H') (h : SqT K H a xs) : SqT K H' a xs := by
  rcases h with (h | ⟨o, h⟩) | h
  · exact .inl (.inl (e _ _ h))
  · exact .inl (.inr ⟨o, e _ _ h⟩)
  · exact .inr h
theorem PieceAt.same {K : PySem.W.Frag} {C : Addr} {H H' : Hp} {p : Addr} {d : PD} (s : Same H H') (h : PieceAt K C H p d) : PieceAt K C H' p d := by
  obtain ⟨dx, t, h1, h2⟩ := h
  exact ⟨dx, t, s _ _ h1, s _ _ h2⟩
/-- what the class Piece says of itself -/
structure PieceC (K : PySem.W.Frag) (C : Addr) : Prop where
  cl : Cls K C
  word : NoAttr K C "word"
  parts : NoAttr K C "parts"
  broken : NoAttr K C "broken"
  marked : NoAttr K C "marked"
  ahead : NoAttr K C "ahead"
  behind : NoAttr K C "behind"
  blanks : NoAttr K C "blanks"
  left : NoAttr K C "left"
def spPieceI (C : Addr) (K : PySem.W.Frag) : Sp := fun vs H Q _ => ∃ (p a dx : Addr) (d : PD), vs = [.ref p, .str d.word, .ref a, .bl d.broken, .bl d.marked, .str d.ahead, .str d.behind, .int d.blanks, .bl d.left] ∧ d.Ok ∧ SqX K H a (d.parts.map V.str) ∧
  H p = some (.ins C dx []) ∧ ∀ H' t, Kept p H H' → H' p = some (.ins C dx (pieceF d t)) → H' t = some (.tup (d.parts.map V.str)) → Q .non H'
abbrev sPieceI : Stmt := inClass (top 20) 0
theorem few_put {f : Str} {v : V} {fs : List (Str × V)} {n : Nat} (h : fs.length ≤ n) : (putF f v fs).length ≤ n + 1 := Nat.le_trans (length_putF f v fs) (Nat.succ_le_succ h)
theorem few_1000 {fs : List (Str × V)} {n : Nat} (h : fs.length ≤ n) (hn : n < 1000) : fs.length < 1000 := Nat.lt_of_le_of_lt h hn
section
variable {P : Program} {w : World} {K : PySem.W.Frag} {mg : Str → Option Value} {base : Heap}
theorem scPi : FnScope ["self", "word", "parts", "broken", "marked", "ahead", "behind", "blanks", "left"] ["self", "word", "parts", "broken", "marked", "ahead", "behind", "blanks", "left"] (defScope sPieceI) := ⟨rfl, rfl, rfl, by decide +kernel, rfl, by decide +kernel, by decide +kernel⟩
/-- the defs that Piece asks -/
structure PieceD (P : Program) (w : World) (K : PySem.W.Frag) (mg : Str → Option Value) (base : Heap) (fR fN fM fE fU : Addr) (dR dN dM dE dU : FuncData) : Prop where
  GR : FnOk P w K mg base CX0 1 fR dR ["holds", "word"] spReq
  gR : mg "require" = some (.ref fR)
  kR : PySem.W.keepIn K (.ref fR) = true
  bR : Binds K dR ["holds", "word"] []
  GN : FnOk P w K mg base CX0 1 fN dN ["value"] (spName K)
  gN : mg "is_name" = some (.ref fN)
  kN : PySem.W.keepIn K (.ref fN) = true
  bN : Binds K dN ["value"] []
  GM : FnOk P w K mg base CX0 2 fM dM ["value"] (spNames K)
  gM : mg "are_names" = some (.ref fM)
  kM : PySem.W.keepIn K (.ref fM) = true
  bM : Binds K dM ["value"] []
  GE : FnOk P w K mg base CX0 2 fE dE ["value"] (spRem K)
  gE : mg "is_remark" = some (.ref fE)
  kE : PySem.W.keepIn K (.ref fE) = true
  bE : Binds K dE ["value"] []
  GU : FnOk P w K mg base CX0 2 fU dU ["value", "many"] (spNum K)
  gU : mg "is_number" = some (.ref fU)
  kU : PySem.W.keepIn K (.ref fU) = true
  bU : Binds K dU ["value", "many"] []
theorem ok_pieceI {f C : Addr} {fd : FuncData} {dvs : List V} {fR fN fM fE fU : Addr} {dR dN dM dE dU : FuncData} (F : FunD K "__init__" "Piece.__init__" (defArgs sPieceI) (defBody sPieceI) (defScope sPieceI) dvs [] f fd) (T : TxtK mg) (Z : PieceC K C) (D : PieceD P w K mg base fR fN fM fE fU dR dN dM dE dU) :
    FnOk P w K mg base CX0 3 f fd ["self", "word", "parts", "broken", "marked", "ahead", "behind", "blanks", "left"] (spPieceI C K) := by
  refine F.ok scPi (fun vs H Q E h => ?_) (fun cdv A outer s H vs Q E hr h => ?_)
  · obtain ⟨p, a, dx, d, rfl, _⟩ := h
    rfl
  · obtain ⟨p, a, dx, d, rfl, o, ha, hp, k⟩ := h
    have hr1 := hr.mono (show 1 ≤ 2 by decide)
    suffices h : ∃ t, PSs (cxOf CX0 P w K mg base ["self", "word", "parts", "broken", "marked", "ahead", "behind", "blanks", "left"] "Piece.__init__" (defScope sPieceI) f cdv A outer s H E).nox (defBody sPieceI) t ∧ t { nx := fun _ H' => Q .non H', rt := Q } (start ["self", "word", "parts", "broken", "marked", "ahead", "behind", "blanks", "left"] [.ref p, .str d.word, .ref a, .bl d.broken, .bl d.marked, .str d.ahead, .str d.behind, .int d.blanks, .bl d.left]) H by
      obtain ⟨t, h1, h2⟩ := h
      exact ⟨t, h1.nox, h2⟩
    refine ⟨_, (pss_cons (ps_expr (pe_call D.GR hr1 (by rfl) D.gR D.kR D.bR .nil pass0 (pa_cons (pe_call D.GN hr1 (by rfl) D.gN D.kN D.bN .nil pass0 (pa_cons (pv 1) pa_nil)) (pa_cons pe_str pa_nil))))
    (pss_cons (ps_expr (pe_call D.GR hr1 (by rfl) D.gR D.kR D.bR .nil pass0 (pa_cons (pe_call D.GM hr (by rfl) D.gM D.kM D.bM .nil pass0 (pa_cons (pv 2) pa_nil)) (pa_cons pe_str pa_nil))))
    (pss_cons (ps_expr (pe_call D.GR hr1 (by rfl) D.gR D.kR D.bR .nil pass0 (pa_cons (pe_callB call_isi (by rfl) T.isinstance (by decide +kernel) (pa_cons (pv 3) (pa_cons (pe_bltn (v := .ty "bool") (by rfl) T.bool (by decide +kernel) rfl) pa_nil))) (pa_cons pe_str pa_nil))))
    (pss_cons (ps_expr (pe_call D.GR hr1 (by rfl) D.gR D.kR D.bR .nil pass0 (pa_cons (pe_callB call_isi (by rfl) T.isinstance (by decide +kernel) (pa_cons (pv 4) (pa_cons (pe_bltn (v := .ty "bool") (by rfl) T.bool (by decide +kernel) rfl) pa_nil))) (pa_cons pe_str pa_nil))))
    (pss_cons (ps_expr (pe_call D.GR hr1 (by rfl) D.gR D.kR D.bR .nil pass0 (pa_cons (pe_call D.GE hr (by rfl) D.gE D.kE D.bE .nil pass0 (pa_cons (pv 5) pa_nil)) (pa_cons pe_str pa_nil))))
    (pss_cons (ps_expr (pe_call D.GR hr1 (by rfl) D.gR D.kR D.bR .nil pass0 (pa_cons (pe_call D.GE hr (by rfl) D.gE D.kE D.bE .nil pass0 (pa_cons (pv 6) pa_nil)) (pa_cons pe_str pa_nil))))
    (pss_cons (ps_expr (pe_call D.GR hr1 (by rfl) D.gR D.kR D.bR .nil pass0 (pa_cons (pe_call D.GU hr (by rfl) D.gU D.kU D.bU .nil pass0 (pa_cons (pv 7) (pa_cons pe_int pa_nil))) (pa_cons pe_str pa_nil))))
    (pss_cons (ps_expr (pe_call D.GR hr1 (by rfl) D.gR D.kR D.bR .nil pass0 (pa_cons (pe_callB call_isi (by rfl) T.isinstance (by decide +kernel) (pa_cons (pv 8) (pa_cons (pe_bltn (v := .ty "bool") (by rfl) T.bool (by decide +kernel) rfl) pa_nil))) (pa_cons pe_str pa_nil))))
    (pss_cons (ps_fld (pv 0) (pv 1) rfl)
    (C8.pss_cut (ps_fld (pv 0) (pe_callTy call_tuple_of (by rfl) T.tuple (by decide +kernel) (pa_cons (pv 2) pa_nil)) rfl)
    (pss_cons (ps_fld (pv 0) (pv 3) rfl)
    (pss_cons (ps_fld (pv 0) (pv 4) rfl)
    (pss_cons (ps_fld (pv 0) (pv 5) rfl)
    (pss_cons (ps_fld (pv 0) (pv 6) rfl)
    (pss_cons (ps_fld (pv 0) (pv 7) rfl)
    (pss_one (ps_fld (pv 0) (pv 8) rfl))))))))))))))))), ?_⟩
    have nap : a ≠ p := by
      rcases ha with ha | ha
      · exact ne_of ha hp (fun z => nomatch z)
      · exact ne_of ha hp (fun z => nomatch z)
    refine ⟨_, rfl, _, true, rfl, .inl ⟨_, rfl, six_line (nameB_len o.word), o.word.symm⟩, _, rfl, ?_⟩
    have hall : (decide (0 < (d.parts.map V.str).length) && (List.replicate d.parts.length true).all id) = true := by
      rw [List.length_map, decide_eq_true o.some, Bool.true_and, List.all_eq_true]
      intro b hb
      rw [(List.mem_replicate.mp hb).2]
      rfl
    refine ⟨_, rfl, _, rfl, .inr ⟨a, _, List.replicate d.parts.length true, rfl, ha, by rw [List.length_map]; exact o.few, ⟨by rw [List.length_replicate, List.length_map], fun i x b hx hb => ?_⟩, fun H1 s1 => ⟨_, by rw [hall]; rfl, ?_⟩⟩⟩
    · rw [List.getElem?_map] at hx
      cases q : d.parts[i]? with
      | none =>
        rw [q] at hx
        cases hx
      | some z =>
        rw [q] at hx
        cases hx
        have hz := o.parts z (List.mem_of_getElem? q)
        have eb : b = true := (List.mem_replicate.mp (List.mem_of_getElem? hb)).2
        exact .inl ⟨z, rfl, six_line (nameB_len hz), by rw [eb, hz]⟩
    obtain ⟨t3, y3, e3⟩ := isT_bl (K := K) (H := H1) (z := d.broken)
    refine ⟨_, rfl, _, _, _, _, _, rfl, .ty _, y3, e3, _, rfl, ?_⟩
    obtain ⟨t4, y4, e4⟩ := isT_bl (K := K) (H := H1) (z := d.marked)
    refine ⟨_, rfl, _, _, _, _, _, rfl, .ty _, y4, e4, _, rfl, ?_⟩
    refine ⟨_, rfl, _, rfl, .inl ⟨_, rfl, six_line (remarkB_len o.ahead), _, by rw [o.ahead]; rfl, ?_⟩⟩
    refine ⟨_, rfl, _, rfl, .inl ⟨_, rfl, six_line (remarkB_len o.behind), _, by rw [o.behind]; rfl, ?_⟩⟩
    refine ⟨_, rfl, _, _, rfl, .inl ⟨_, rfl, _, by rw [decide_eq_true o.b0, decide_eq_true o.b3]; rfl, ?_⟩⟩
    obtain ⟨t8, y8, e8⟩ := isT_bl (K := K) (H := H1) (z := d.left)
    refine ⟨_, rfl, _, _, _, _, _, rfl, .ty _, y8, e8, _, rfl, ?_⟩
    refine ⟨_, rfl, _, rfl, p, C, dx, _, rfl, s1 _ _ hp, Z.cl, Z.word, (by show 0 < 1000; decide), ?_⟩
    refine ⟨fun σ' G => σ' = start ["self", "word", "parts", "broken", "marked", "ahead", "behind", "blanks", "left"] [.ref p, .str d.word, .ref a, .bl d.broken, .bl d.marked, .str d.ahead, .str d.behind, .int d.blanks, .bl d.left] ∧
      ∃ t, Kept p H G ∧ t ≠ p ∧ G p = some (.ins C dx (putF "parts" (.ref t) (putF "word" (.str d.word) []))) ∧ G t = some (.tup (d.parts.map V.str)), ?_, ?_⟩
    · have k1 : Kept p H (upd H1 p (.ins C dx (putF "word" (.str d.word) []))) := (Kept.of_same s1).trans Kept.box
      rcases ha with ha | ha
      · refine ⟨_, rfl, a, _, rfl, .inl ⟨SqL.of (k1 _ _ nap ha), fun l hl => ⟨_, rfl, p, C, dx, _, rfl, Same.new hl _ _ upd_same, Z.cl, Z.parts, few_1000 (few_put (Nat.zero_le 0)) (by decide), rfl, l, (k1.trans (Kept.new hl)).trans Kept.box, ?_, upd_same, ?_⟩⟩⟩
        · intro z
          rw [z, upd_same] at hl
          cases hl
        · have nlp : l ≠ p := fun z => by
            rw [z, upd_same] at hl
            cases hl
          rw [upd_ne nlp, upd_same]
      · refine ⟨_, rfl, a, _, rfl, .inr ⟨SqT.of (k1 _ _ nap ha), _, rfl, p, C, dx, _, rfl, upd_same, Z.cl, Z.parts, few_1000 (few_put (Nat.zero_le 0)) (by decide), rfl, a, k1.trans Kept.box, nap, upd_same, (by rw [upd_ne nap]; exact k1 _ _ nap ha)⟩⟩
    · rintro σ' G ⟨rfl, t, kG, ntp, hG, ht⟩
      refine ⟨_, rfl, _, rfl, p, C, dx, _, rfl, hG, Z.cl, Z.broken, few_1000 (few_put (few_put (Nat.zero_le 0))) (by decide), ?_⟩
      refine ⟨_, rfl, _, rfl, p, C, dx, _, rfl, upd_same, Z.cl, Z.marked, few_1000 (few_put (few_put (few_put (Nat.zero_le 0)))) (by decide), ?_⟩
      refine ⟨_, rfl, _, rfl, p, C, dx, _, rfl, upd_same, Z.cl, Z.ahead, few_1000 (few_put (few_put (few_put (few_put (Nat.zero_le 0))))) (by decide), ?_⟩
      refine ⟨_, rfl, _, rfl, p, C, dx, _, rfl, upd_same, Z.cl, Z.behind, few_1000 (few_put (few_put (few_put (few_put (few_put (Nat.zero_le 0)))))) (by decide), ?_⟩
      refine ⟨_, rfl, _, rfl, p, C, dx, _, rfl, upd_same, Z.cl, Z.blanks, few_1000 (few_put (few_put (few_put (few_put (few_put (few_put (Nat.zero_le 0))))))) (by decide), ?_⟩
      refine ⟨_, rfl, _, rfl, p, C, dx, _, rfl, upd_same, Z.cl, Z.left, few_1000 (few_put (few_put (few_put (few_put (few_put (few_put (few_put (Nat.zero_le 0)))))))) (by decide), ?_⟩
      simp only [upd_upd]
      exact k _ t (kG.trans Kept.box) upd_same (Kept.box _ _ ntp ht)
end
end Lay
set_option Elab.async false
set_option linter.all false
set_option maxRecDepth 100000
set_option maxHeartbeats 4000000
set_option pp.maxSteps 700
namespace Lay
open PySem PySem.Spec PyProof.Rows L2 KwX StX
/-! a piece with other things in the place of its own -/
def pnames : List Str := ["word", "parts", "broken", "marked", "ahead", "behind", "blanks", "left"]
def slf : List Str := ["self"]
abbrev sBut : Stmt := inClass (top 20) 2
theorem kbn_piece {K : PySem.W.Frag} {f : Addr} {fd : FuncData} {dvs : List V} (F : FunD K "__init__" "Piece.__init__" (defArgs sPieceI) (defBody sPieceI) (defScope sPieceI) dvs [] f fd) (hd : dvs.length = 6) :
    ∃ its : List Value, KBn K fd ["self", "word", "parts", "broken", "marked", "ahead", "behind", "blanks", "left"] (0 + 1) pnames (fun us ws => us ++ ws) (fun vs zs => vs ++ zs) := by
  have h := F.kbindsD (ps := ["self", "word", "parts", "broken", "marked", "ahead", "behind", "blanks", "left"]) 1 pnames (fun us _ ws => us ++ ws) (fun z => by rw [z] at hd; cases hd) (fun r _ r2 => r.append r2) fun T kV doc pm an cdv ct us its ws h1 h2 h3 => by
    rw [hd] at h2
    match us, its, ws, h1, h2, h3 with
    | [_], [_, _, _, _, _, _], [_, _, _, _, _, _, _, _], _, _, _ => exact ⟨_, rfl, rfl⟩
  exact h
/-- the piece e in the place of d -/
def spButG (K : PySem.W.Frag) (C : Addr) (ks : List Str) : Sp := fun vs H Q _ => ∃ (p q t dx a : Addr) (d e : PD) (zs : List V), vs = [.ref p, .ref q] ∧ H p = some (.ins C dx (pieceF d t)) ∧ H q = some (.dK (kvK ks zs)) ∧ ks.length ≤ 8 ∧ zs.length = ks.length ∧
  mergeK (kvK pnames [.str d.word, .ref t, .bl d.broken, .bl d.marked, .str d.ahead, .str d.behind, .int d.blanks, .bl d.left]) (kvK ks zs) = kvK pnames [.str e.word, .ref a, .bl e.broken, .bl e.marked, .str e.ahead, .str e.behind, .int e.blanks, .bl e.left] ∧ e.Ok ∧ SqX K H a (e.parts.map V.str) ∧
  ∀ y H', Same H H' → H y = none → PieceAt K C H' y e → Q (.ref y) H'
section
variable {P : Program} {w : World} {K : PySem.W.Frag} {mg : Str → Option Value} {base : Heap}
theorem scBut : FnScope ["self", "others", "told"] (slf ++ [("others" : Str)]) (defScope sBut) := ⟨rfl, rfl, rfl, by decide +kernel, rfl, by decide +kernel, by decide +kernel⟩
theorem cxUp_0 : CXUp CX0 := cxUp_none
theorem ok_butG {f fP C : Addr} {fd fdP : FuncData} {ks : List Str} (F : Fun K "but" "Piece.but" sBut f fd) (Z : PieceC K C) (M : Mk K C fP) (hnd : ks.Nodup) (hks : ks.length ≤ 1000)
    (GP : FnOk P w K mg base CX0 3 fP fdP ["self", "word", "parts", "broken", "marked", "ahead", "behind", "blanks", "left"] (spPieceI C K)) (gP : mg "Piece" = some (.ref C)) (kb : KBn K fdP ["self", "word", "parts", "broken", "marked", "ahead", "behind", "blanks", "left"] (0 + 1) pnames (fun us ws => us ++ ws) (fun vs zs => vs ++ zs))
    (hb : ∀ (kV doc pm : Value) (an : Option Addr) (cdv ct : Value) (us ws : List Value), us.length = slf.length → ws.length = ks.length → bindArgs (PySem.W.fnOf "but" "Piece.but" (defArgs sBut) (defBody sBut) (defScope sBut) .none kV doc pm an cdv ct) ⟨us, ks.zip ws⟩ =
      ((alloc ({ cls := .type "dict", data := .dict #[] } : Obj) : Sem Addr) >>= fun d => (forIn (ks.zip ws) PUnit.unit fun x _ => (nsSet d x.1 x.2 >>= fun _ => pure (ForInStep.yield PUnit.unit))) >>= fun _ => pure (slf.zip us ++ [(("others" : Str), Value.ref d)]))) :
    FnRK P w K mg base CX0 5 f ks (fun vs zs H Q E => vs.length = slf.length ∧ zs.length = ks.length ∧ ∀ d, H d = none → spButG K C ks (vs ++ [V.ref d]) (upd H d (.dK (kvK ks zs))) Q E) := by
  refine fun_kw F scBut cxUp_0 hnd hks hb (fun cdv A outer s H vs Q E hr h => ?_)
  obtain ⟨p, q, t, dx, a, d, e, zs, rfl, hp, hq, lk, lz, em, oe, ha, k⟩ := h
  refine ⟨_, (pss_cons (ps_set (i := 2) scBut.nd rfl (.inl rfl) (pe_disp (pps_cons pe_str (pe_fld (pv 0) rfl) (pps_cons pe_str (pe_fld (pv 0) rfl) (pps_cons pe_str (pe_fld (pv 0) rfl) (pps_cons pe_str (pe_fld (pv 0) rfl) (pps_cons pe_str (pe_fld (pv 0) rfl) (pps_cons pe_str (pe_fld (pv 0) rfl) (pps_cons pe_str (pe_fld (pv 0) rfl) (pps_cons pe_str (pe_fld (pv 0) rfl) pps_nil)))))))) rfl rfl (by decide) (by decide)))
    (pss_cons (ps_expr (pe_dupd (pv 2) (pv 1) ⟨by rfl, by rfl, by rfl, by rfl⟩))
    (pss_one (ps_ret (pe_makeD (E := E0) M GP hr (by rfl) gP kb pass0 (pv 2) (by decide +kernel) (by decide)))))), ?_⟩
  refine fun u nu => ?_
  have hp1 := Same.new nu (o := .dK []) _ _ hp
  refine ⟨_, rfl, p, C, dx, _, _, rfl, hp1, Z.cl, Z.word, rfl, _, rfl, p, C, dx, _, _, rfl, hp1, Z.cl, Z.parts, rfl, _, rfl, p, C, dx, _, _, rfl, hp1, Z.cl, Z.broken, rfl, _, rfl, p, C, dx, _, _, rfl, hp1, Z.cl, Z.marked, rfl, ?_⟩
  refine ⟨_, rfl, p, C, dx, _, _, rfl, hp1, Z.cl, Z.ahead, rfl, _, rfl, p, C, dx, _, _, rfl, hp1, Z.cl, Z.behind, rfl, _, rfl, p, C, dx, _, _, rfl, hp1, Z.cl, Z.blanks, rfl, _, rfl, p, C, dx, _, _, rfl, hp1, Z.cl, Z.left, rfl, ?_⟩
  refine ⟨upd_same, [(.inr "word", .str d.word), (.inr "parts", .ref t), (.inr "broken", .bl d.broken), (.inr "marked", .bl d.marked), (.inr "ahead", .str d.ahead), (.inr "behind", .str d.behind), (.inr "blanks", .int d.blanks), (.inr "left", .bl d.left)], rfl, (by show 8 ≤ 15; decide), ?_⟩
  rw [show mergeK [] [(.inr "word", .str d.word), (.inr "parts", .ref t), (.inr "broken", .bl d.broken), (.inr "marked", .bl d.marked), (.inr "ahead", .str d.ahead), (.inr "behind", .str d.behind), (.inr "blanks", .int d.blanks), (.inr "left", .bl d.left)] = kvK pnames [.str d.word, .ref t, .bl d.broken, .bl d.marked, .str d.ahead, .str d.behind, .int d.blanks, .bl d.left] from rfl, upd_upd]
  have uq : u ≠ q := (ne_of_none hq nu).symm
  have hqu : upd H u (.dK (kvK pnames [.str d.word, .ref t, .bl d.broken, .bl d.marked, .str d.ahead, .str d.behind, .int d.blanks, .bl d.left])) q = some (.dK (kvK ks zs)) := by rw [upd_ne (Ne.symm uq)]; exact hq
  have lk2 : (kvK ks zs).length ≤ 8 := by
    unfold kvK
    rw [List.length_zip, List.length_map]
    omega
  refine ⟨_, rfl, u, rfl, .inl ⟨_, .inl upd_same⟩, _, rfl, q, _, _, rfl, upd_same, hqu, uq, (by show 8 + _ ≤ 1000; omega), ?_⟩
  rw [em, upd_upd]
  have su : Same H (upd H u (.dK (kvK pnames [.str e.word, .ref a, .bl e.broken, .bl e.marked, .str e.ahead, .str e.behind, .int e.blanks, .bl e.left]))) := Same.new nu
  have hu : upd H u (.dK (kvK pnames [.str e.word, .ref a, .bl e.broken, .bl e.marked, .str e.ahead, .str e.behind, .int e.blanks, .bl e.left])) u = some (.dK (kvK pnames [.str e.word, .ref a, .bl e.broken, .bl e.marked, .str e.ahead, .str e.behind, .int e.blanks, .bl e.left])) := upd_same
  generalize upd H u (.dK (kvK pnames [.str e.word, .ref a, .bl e.broken, .bl e.marked, .str e.ahead, .str e.behind, .int e.blanks, .bl e.left])) = G at *
  refine fun d1 nd1 => ⟨_, rfl, u, [.str e.word, .ref a, .bl e.broken, .bl e.marked, .str e.ahead, .str e.behind, .int e.blanks, .bl e.left], rfl, upd_same, Same.new nd1 _ _ hu, rfl, ne_of_none hu nd1, fun y dy ny ndy ne => ?_⟩
  rw [upd_upd] at ny ndy ⊢
  have s1 : Same H (upd G d1 (.dK (kvK pnames [.str e.word, .ref a, .bl e.broken, .bl e.marked, .str e.ahead, .str e.behind, .int e.blanks, .bl e.left]))) := su.trans (Same.new nd1)
  generalize upd G d1 (.dK (kvK pnames [.str e.word, .ref a, .bl e.broken, .bl e.marked, .str e.ahead, .str e.behind, .int e.blanks, .bl e.left])) = G1 at *
  have ny2 : upd G1 dy (.own y) y = none := by
    rw [upd_ne (Ne.symm ne)]
    exact ny
  have s2 := (s1.trans (Same.new ndy (o := .own y))).trans (Same.new ny2 (o := .ins C dy []))
  refine ⟨y, a, dy, e, rfl, oe, SqX.same s2 ha, upd_same, fun H' t' kp h1 h2 => ⟨rfl, k y H' (fun b o eb => kp b o (ne_of_none (s1 _ _ eb) ny) (s2 _ _ eb)) (s1.free ny) ⟨dy, t', h1, h2⟩⟩⟩
end
end Lay
set_option Elab.async false
set_option linter.all false
set_option maxRecDepth 100000
set_option maxHeartbeats 4000000
set_option pp.maxSteps 1000
namespace Lay
open PySem PySem.Spec PyProof.Rows L2
theorem fitsN {n : Nat} (h : n ≤ 1000000) : n ≤ sizeLine := by rw [sizeLine_eq]; omega
theorem sum_few : ∀ {zs : List Str} {n : Nat}, (∀ z ∈ zs, z.length ≤ n) → (zs.map (·.length)).sum ≤ zs.length * n
  | [], _, _ => by simp
  | z :: zs, n, h => by
    have h1 := h z List.mem_cons_self
    have h2 := sum_few (zs := zs) fun y hy => h y (List.mem_cons_of_mem _ hy)
    rw [List.map_cons, List.sum_cons, List.length_cons, Nat.succ_mul]
    omega
theorem sjoin_le (sep : Str) : ∀ ts : List Str, (Str.join sep ts).length ≤ (ts.map (·.length)).sum + ts.length * sep.length
  | [] => by
    show (Str.join sep []).length ≤ _
    have : (Str.join sep []).length = 0 := rfl
    omega
  | [t] => by
    show t.length ≤ _
    rw [List.map_cons, List.sum_cons]
    omega
  | t :: u :: r => by
    have ih := sjoin_le sep (u :: r)
    show (t ++ sep ++ Str.join sep (u :: r)).length ≤ _
    rw [Str.length_append, Str.length_append, List.map_cons, List.sum_cons, List.length_cons, Nat.succ_mul]
    omega
theorem join_le (sep : Str) (ts : List Str) : (Txt.join sep ts).length ≤ (ts.map (·.length)).sum + ts.length * sep.length := by
  rw [TL.join_eq]
  exact sjoin_le sep ts
/-! ### the rows of a piece -/
def signS (d : PD) : Str := if d.left = true then Str.ofString "!" else Str.ofString ""
def headS (d : PD) : Str := ((Str.empty ++ signS d) ++ d.word) ++ Str.ofString "("
def tailS (d : PD) : Str := if d.behind.length = 0 then Str.ofString ")" else (Str.empty ++ Str.ofString ")  # ") ++ d.behind
def commaS (d : PD) : Str := if d.marked = true then Str.ofString "," else Str.ofString ""
def itemS (z : Str) : Str := ((Str.empty ++ Str.ofString "  ") ++ z) ++ Str.ofString ","
def lastS (d : PD) (z : Str) : Str := ((Str.empty ++ Str.ofString "  ") ++ z) ++ commaS d
def bodyS (d : PD) : List Str := if d.broken = true then headS d :: ((d.parts.dropLast.map itemS) ++ [lastS d (d.parts.getLastD Str.empty), tailS d])
  else [((headS d ++ Txt.join ", " d.parts) ++ commaS d) ++ tailS d]
def remarkS (d : PD) : List Str := if d.ahead.length = 0 then [] else [(Str.empty ++ Str.ofString "# ") ++ d.ahead]
def rowsS (d : PD) : List Str := List.replicate d.blanks.toNat (Str.ofString "") ++ (remarkS d ++ bodyS d)
def spText (K : PySem.W.Frag) (C : Addr) (g : PD → Str) : Sp := fun vs H Q _ => ∃ (p : Addr) (d : PD), vs = [.ref p] ∧ PieceAt K C H p d ∧ d.Ok ∧ d.parts.length ≤ 30 ∧ Q (.str (g d)) H
def spRowsOf (K : PySem.W.Frag) (C : Addr) (g : PD → List Str) : Sp := fun vs H Q _ => ∃ (p : Addr) (d : PD), vs = [.ref p] ∧ PieceAt K C H p d ∧ d.Ok ∧ d.parts.length ≤ 30 ∧ ∀ l H', Same H H' → H l = none → H' l = some (.lst ((g d).map V.str)) → Q (.ref l) H'
theorem headS_len {d : PD} (o : d.Ok) : (headS d).length ≤ 8 := by
  have h1 := nameB_len o.word
  have h2 : (signS d).length ≤ 1 := by
    unfold signS
    split <;> decide
  have h3 : (Str.ofString "(").length = 1 := by decide
  have h4 : Str.empty.length = 0 := by decide
  unfold headS
  rw [Str.length_append, Str.length_append, Str.length_append]
  omega
theorem tailS_len {d : PD} (o : d.Ok) : (tailS d).length ≤ 11 := by
  have h1 := remarkB_len o.behind
  have h3 : (Str.ofString ")  # ").length = 5 := by decide
  have h4 : Str.empty.length = 0 := by decide
  unfold tailS
  split
  · decide
  · rw [Str.length_append, Str.length_append]
    omega
theorem commaS_len {d : PD} : (commaS d).length ≤ 1 := by
  unfold commaS
  split <;> decide
section
variable {X : Cx}
theorem sl_tupS : SlR X (fun x lo hi H Q => ∃ a xs, x = .ref a ∧ SqT X.K H a xs ∧ ∀ p H', Same H H' → SqT X.K H' p (cutV xs lo hi) → Q (.ref p) H') := by
  intro pins s σ H x v vl vu lo hi sl Q I rx hs pl pu h
  obtain ⟨a, xs, rfl, hx, q⟩ := h
  refine sl_tupA pins s σ H _ v vl vu lo hi sl Q I rx hs pl pu ⟨a, xs, rfl, hx, fun w => ?_, fun _ p np => q p _ (Same.new np) (SqT.of upd_same)⟩
  refine q a H (Same.refl H) ?_
  unfold cutV
  rw [w.1, w.2, List.drop_zero, Nat.sub_zero, List.take_length]
  exact hx
end
abbrev sHead : Stmt := top 16
section
variable {P : Program} {w : World} {K : PySem.W.Frag} {mg : Str → Option Value} {base : Heap}
theorem scHead : FnScope ["piece", "sign"] ["piece"] (defScope sHead) := ⟨rfl, rfl, rfl, by decide +kernel, rfl, by decide +kernel, by decide +kernel⟩
theorem ok_head {f C : Addr} {fd : FuncData} (F : Fun K "head_of" "head_of" sHead f fd) (Z : PieceC K C) : FnOk P w K mg base CX0 1 f fd ["piece"] (spText K C headS) := by
  refine F.ok scHead (fun vs H Q E h => ?_) (fun cdv A outer s H vs Q E hr h => ?_)
  · obtain ⟨p, d, rfl, _⟩ := h
    rfl
  · obtain ⟨p, d, rfl, ⟨dx, t, hp, ht⟩, o, few, k⟩ := h
    refine ⟨_, (pss_cons (ps_set (i := 1) scHead.nd rfl (.inl rfl) (pe_ifExp (pt_val (pe_fld (pv 0) rfl)) pe_str pe_str))
      (pss_one (ps_ret (pe_joined (.cons (pe_fmt (pv 1)) (.cons (pe_fmt (pe_fld (pv 0) rfl)) (.cons pe_str .nil))))))), ?_⟩
    have hl := headS_len o
    have h1 := nameB_len o.word
    have h3 : (Str.ofString "(").length = 1 := by decide
    have h4 : Str.empty.length = 0 := by decide
    refine ⟨_, rfl, p, C, dx, _, _, rfl, hp, Z.cl, Z.left, rfl, d.left, rfl, ?_⟩
    by_cases q : d.left = true
    · refine iteY q ?_
      have e : headS d = ((Str.empty ++ Str.ofString "!") ++ d.word) ++ Str.ofString "(" := by
        unfold headS signS
        rw [if_pos q]
      rw [e] at k hl
      have l0 : (Str.ofString "!").length = 1 := by decide
      exact ⟨_, rfl, .inl ⟨_, rfl, fitsN (by omega), _, rfl, fitsN (by rw [Str.length_append]; omega), _, rfl, p, C, dx, _, _, rfl, hp, Z.cl, Z.word, rfl, .inl ⟨_, rfl, fitsN (by omega), _, rfl, fitsN (by rw [Str.length_append, Str.length_append]; omega), _, rfl, fitsN (by omega), k⟩⟩⟩
    · refine iteN (by simpa using q) ?_
      have e : headS d = ((Str.empty ++ Str.ofString "") ++ d.word) ++ Str.ofString "(" := by
        unfold headS signS
        rw [if_neg q]
      rw [e] at k hl
      have l0 : (Str.ofString "").length = 0 := by decide
      exact ⟨_, rfl, .inl ⟨_, rfl, fitsN (by omega), _, rfl, fitsN (by rw [Str.length_append]; omega), _, rfl, p, C, dx, _, _, rfl, hp, Z.cl, Z.word, rfl, .inl ⟨_, rfl, fitsN (by omega), _, rfl, fitsN (by rw [Str.length_append, Str.length_append]; omega), _, rfl, fitsN (by omega), k⟩⟩⟩
end
end Lay
set_option Elab.async false
set_option linter.all false
set_option maxRecDepth 100000
set_option maxHeartbeats 4000000
set_option pp.maxSteps 1000
namespace Lay
open PySem PySem.Spec PyProof.Rows L2
section
variable {X : Cx}
def signs (x : Str) : List V := x.cps.toList.map fun c => V.str ⟨#[c]⟩
/-- list(x) of a text -/
theorem call_listS (hc : X.calm = true) : CallR X (.type "list") (fun xs H Q => ∃ x : Str, xs = [.str x] ∧ x.cps.size ≤ 1000 ∧ ∀ l, H l = none → Q (.ref l) (upd H l (.lst (signs x)))) := by
  intro pins s σ H xs us Q I r h
  obtain ⟨x, rfl, hz, q⟩ := h
  obtain ⟨u, rfl, t, rfl⟩ := vals1 r
  refine call_list_str (hn := fits hz) (I.ok.hd hc) x t fun h' tk acc c' hk e hi => ?_
  refine ⟨.ref s.heap.objs.size, upd H s.heap.objs.size (.lst (signs x)), I.laid hk (Nat.le_refl _) ⟨by unfold signs; rw [List.length_map, Array.length_toList]; exact fits hz, acc.toList, c', ?_, by rw [Array.toArray_toList]; exact e⟩, rfl, q _ (I.hok.fresh (Nat.le_refl _))⟩
  refine vals_of_idx _ _ (by unfold signs; rw [List.length_map, Array.length_toList, Array.length_toList]; exact hi.1) fun j u hj => ?_
  obtain ⟨c, t', hc, rfl⟩ := hi.2 j u (by rw [← Array.getElem?_toList]; exact hj)
  exact ⟨.str ⟨#[c]⟩, by simp [signs, hc], ⟨_, rfl⟩⟩
end
/-! ### names that are drawn -/
def sixC : List Nat := [97, 98, 99, 120, 121, 122]
def Six (z : Str) : Prop := ∀ c ∈ z.cps.toList, c ∈ sixC
theorem six_all : ∀ c ∈ sixC, c < 128 ∧ Unicode.isAlpha c = true ∧ Unicode.isLower c = true ∧ (Unicode.isUpper c || Unicode.isTitle c) = false := by decide +kernel
theorem Six.append {a b : Str} (h : Six a) (k : Six b) : Six (a ++ b) := fun c hc => by
  have e : (a ++ b).cps.toList = a.cps.toList ++ b.cps.toList := by
    cases a
    cases b
    exact Array.toList_append
  rw [e] at hc
  exact (List.mem_append.mp hc).elim (h c) (k c)
theorem Six.join : ∀ {zs : List Str}, (∀ z ∈ zs, Six z ∧ z.length = 1) → Six (Str.join "" zs) ∧ (Str.join "" zs).length = zs.length
  | [], _ => ⟨fun c hc => by
      have e : (Str.join "" []).cps.toList = [] := by decide
      rw [e] at hc
      exact (List.not_mem_nil hc).elim, by decide⟩
  | [z], h => ⟨(h z (List.mem_singleton.mpr rfl)).1, (h z (List.mem_singleton.mpr rfl)).2⟩
  | z :: y :: r, h => by
    have ih := Six.join (zs := y :: r) fun x hx => h x (List.mem_cons_of_mem _ hx)
    have h0 := h z List.mem_cons_self
    have e : Six (Str.ofString "") := fun c hc => by
      have e : (Str.ofString "").cps.toList = [] := by decide
      rw [e] at hc
      exact (List.not_mem_nil hc).elim
    have e1 : (Str.ofString "").length = 0 := by decide
    refine ⟨(h0.1.append e).append ih.1, ?_⟩
    show ((z ++ Str.ofString "") ++ Str.join "" (y :: r)).length = _
    rw [Str.length_append, Str.length_append, ih.2, h0.2, e1, List.length_cons, List.length_cons, List.length_cons]
    omega
theorem Six.name {z : Str} (h : Six z) (l0 : 0 < z.length) (l6 : z.length ≤ 6) : nameB z = true := by
  have hs : z.cps.size = z.length := rfl
  unfold nameB Txt.isascii Txt.isalpha Txt.islower
  simp only [Bool.and_eq_true, decide_eq_true_eq]
  refine ⟨l6, ?_, ⟨l0, ?_⟩, ?_, ?_⟩
  · rw [Array.all_eq_true']
    exact fun c hc => decide_eq_true (six_all c (h c (Array.mem_toList_iff.mpr hc))).1
  · rw [Array.all_eq_true']
    exact fun c hc => (six_all c (h c (Array.mem_toList_iff.mpr hc))).2.1
  · rw [Array.any_eq_true']
    have hm : z.cps[0]'(by omega) ∈ z.cps := Array.getElem_mem _
    exact ⟨_, hm, (six_all _ (h _ (Array.mem_toList_iff.mpr hm))).2.2.1⟩
  · rw [Bool.not_eq_true']
    cases e : z.cps.any fun c => Unicode.isUpper c || Unicode.isTitle c with
    | false => rfl
    | true =>
      rw [Array.any_eq_true'] at e
      obtain ⟨c, hc, hu⟩ := e
      rw [(six_all c (h c (Array.mem_toList_iff.mpr hc))).2.2.2] at hu
      cases hu
theorem signs_six : ∀ v ∈ signs (Str.ofString "abcxyz"), ∃ z, v = V.str z ∧ Six z ∧ z.length = 1 := fun v hv => by
  obtain ⟨c, hc, rfl⟩ := List.mem_map.mp hv
  refine ⟨_, rfl, fun d hd => ?_, rfl⟩
  have e : (Str.ofString "abcxyz").cps.toList = sixC := by decide +kernel
  rw [e] at hc
  have : d = c := by simpa using hd
  rw [this]
  exact hc
abbrev sLName : Stmt := top 38
def lnN : List Str := ["_law_box_here", "_law_most", "_law_letters", "_law_many", "_law_turn"]
def spLName : Sp := fun vs H Q _ => ∃ (b : Addr) (m : Int), vs = [.ref b, .int m] ∧ BoxAt H b ∧ 0 < m ∧ m ≤ 6 ∧ ∀ z H', Kept b H H' → BoxAt H' b → nameB z = true → Q (.str z) H'
section
variable {P : Program} {w : World} {K : PySem.W.Frag} {mg : Str → Option Value} {base : Heap}
theorem scLName : FnScope lnN ["_law_box_here", "_law_most"] (defScope sLName) := ⟨rfl, rfl, rfl, by decide +kernel, rfl, by decide +kernel, by decide +kernel⟩
theorem ok_lname {f fT fK : Addr} {fd dT dK : FuncData} (F : Fun K "_law_name" "_law_name" sLName f fd) (hrange : mg "range" = none) (hlist : mg "list" = none)
    (GT : FnOk P w K mg base CX0 1 fT dT ["_law_box_here", "_law_many"] spTake) (gT : mg "_law_take" = some (.ref fT)) (kT : PySem.W.keepIn K (.ref fT) = true) (bT : Binds K dT ["_law_box_here", "_law_many"] [])
    (GK : FnOk P w K mg base CX0 2 fK dK ["_law_box_here", "_law_items"] (spPick K)) (gK : mg "_law_pick" = some (.ref fK)) (kK : PySem.W.keepIn K (.ref fK) = true) (bK : Binds K dK ["_law_box_here", "_law_items"] []) : FnOk P w K mg base CX0 3 f fd ["_law_box_here", "_law_most"] spLName := by
  refine F.ok scLName (fun vs H Q E h => ?_) (fun cdv A outer s H vs Q E hr h => ?_)
  · obtain ⟨b, m, rfl, _⟩ := h
    rfl
  · obtain ⟨b, m, rfl, hb, m0, m6, k⟩ := h
    have hr1 := hr.mono (show 1 ≤ 2 by decide)
    refine ⟨_, (pss_cons (ps_asg (pe_tup (pa_cons pe_str (pa_cons (pe_op op_add pe_int (pe_call GT hr1 (by rfl) gT kT bT .nil pass0 (pa_cons (pv 0) (pa_cons (pv 1) pa_nil)))) pa_nil))) (pg_tup rfl (pgs_cons (pg_name (i := 2) scLName.nd rfl (.inr rfl)) (pgs_cons (pg_name (i := 3) scLName.nd rfl (.inl rfl)) pgs_nil))))
      (pss_one (ps_ret (pe_bm PySem.F.plainAttrs_str PySem.F.slot_str_join PySem.F.type_str_join mt_join pe_str (pa_cons
        (pe_lc (own := [("_law_turn", 4)]) (g := gName 4) (tt := tYes) (by rfl) scLName.nd (pi_range1 (by rfl) hrange (pa_cons (pv 3) pa_nil)) (blkOk_by (N := lnN) (sc := defScope sLName) (by decide +kernel))
          (fun _ _ _ _ _ => pg_name (i := 4) scLName.nd rfl (Or.inl rfl)) (fun _ _ _ _ _ => pts_nil)
          (fun _ _ _ _ _ => pe_call GK hr (by rfl) gK kK bK .nil pass0 (pa_cons (pv 0) (pa_cons (pe_callTy (call_listS rfl) (by rfl) hlist (by decide +kernel) (pa_cons (pv 2) pa_nil)) pa_nil)))) pa_nil))))), ?_⟩
    refine ⟨_, rfl, _, rfl, b, m, rfl, hb, m0, by omega, fun r o r0 r1 ob => ?_⟩
    have b1 : BoxAt (upd H b o) b := BoxAt.box ob
    have k1 : Kept b H (upd H b o) := Kept.box
    generalize upd H b o = G1 at *
    refine ⟨1, r, rfl, rfl, (by show 2 ≤ sizeLine; decide), fun p np => ⟨p, _, rfl, SqT.of upd_same, rfl, _, _, rfl, _, _, rfl, rfl, ?_⟩⟩
    have sp := Same.new np (o := .tup [.str "abcxyz", .int (1 + r)])
    have b2 : BoxAt (upd G1 p (.tup [.str "abcxyz", .int (1 + r)])) b := BoxAt.new b1 np
    have k2 : Kept b H (upd G1 p (.tup [.str "abcxyz", .int (1 + r)])) := k1.trans (Kept.of_same sp)
    generalize upd G1 p (.tup [.str "abcxyz", .int (1 + r)]) = G2 at *
    have ls : (signs (Str.ofString "abcxyz")).length = 6 := by decide +kernel
    refine ⟨rfl, _, rfl, 1 + r, rfl, by omega, by omega, fun D nD => lc_range (lo := 0) (n := Int.toNat _) (fun n G' => ∃ zs : List Str, Kept b G2 G' ∧ BoxAt G' b ∧ D ≠ b ∧ G' D = some (.lst (zs.map V.str)) ∧ zs.length = n ∧ ∀ z ∈ zs, Six z ∧ z.length = 1)
      ⟨[], Kept.new nD, b2.new nD, b2.ne nD, upd_same, rfl, fun z h => (List.not_mem_nil h).elim⟩ ?_ ?_⟩
    · rintro n G' hn ⟨zs, k', b', nb, hD, hl, hz⟩
      refine ⟨rfl, _, rfl, _, rfl, _, rfl, by decide +kernel, fun l nl => ?_⟩
      refine ⟨b, l, _, rfl, b'.new nl, b'.ne nl, SqL.of upd_same, by rw [ls]; decide, by rw [ls]; decide, fun v o hv ho => ?_⟩
      obtain ⟨z, rfl, z1, z2⟩ := signs_six v hv
      have nlD : D ≠ l := ne_of_none hD nl
      have kb : Kept b G' (upd (upd G' l (.lst (signs (Str.ofString "abcxyz")))) b o) := (Kept.new nl).trans Kept.box
      refine ⟨_, kb _ _ nb hD, ?_, zs ++ [z], fun c u n1 e => ?_, ?_, nb, by rw [upd_same, List.map_append]; rfl, by rw [List.length_append, hl]; rfl, fun y hy => ?_⟩
      · rw [List.length_map, hl]
        exact small1000 (by omega)
      · rw [upd_ne (ne_of_none e nD)]
        exact kb _ _ n1 (k' _ _ n1 e)
      · obtain ⟨o2, e2, y2⟩ : BoxAt (upd (upd G' l (.lst (signs (Str.ofString "abcxyz")))) b o) b := BoxAt.box ho
        exact ⟨o2, by rw [upd_ne (Ne.symm nb)]; exact e2, y2⟩
      · rcases List.mem_append.mp hy with h | h
        · exact hz y h
        · rw [List.mem_singleton] at h
          subst h
          exact ⟨z1, z2⟩
    · rintro G' ⟨zs, k', b', nb, hD, hl, hz⟩
      have hj := Six.join hz
      have hsum := sum_few (n := 1) fun z hz' => Nat.le_of_eq (hz z hz').2
      have j0 : (Str.ofString "").length = 0 := by decide
      refine ⟨_, D, zs, rfl, rfl, .inl (SqL.of hD), by rw [j0]; omega, k _ _ (k2.trans k') b' ?_⟩
      rw [TL.join_eq]
      exact hj.1.name (by rw [hj.2, hl]; omega) (by rw [hj.2, hl]; omega)
end
end Lay
set_option Elab.async false
set_option linter.all false
set_option maxRecDepth 100000
set_option maxHeartbeats 4000000
set_option pp.maxSteps 1500
namespace Lay
open PySem PySem.Spec PyProof.Rows L2 KwX
def kw : Key := .inr "word"
def kp : Key := .inr "parts"
def kb : Key := .inr "broken"
def km : Key := .inr "marked"
def ka : Key := .inr "ahead"
def kh : Key := .inr "behind"
def kn : Key := .inr "blanks"
def kl : Key := .inr "left"
/-- how a piece is written, as the law's dict -/
def Nd (kvs : List (Key × V)) : Prop := (kvs.map (·.1)).Nodup
theorem Nd.nil : Nd [] := List.Pairwise.nil
theorem Nd.put {kvs : List (Key × V)} {k : Key} {v : V} (h : Nd kvs) : Nd (putK kvs k v) := by
  unfold Nd putK
  split
  · rw [List.map_map]
    rw [show ((fun x : Key × V => x.1) ∘ fun kv : Key × V => if kv.1 = k then (kv.1, v) else kv) = (fun x => x.1) from funext fun kv => by
      show (if kv.1 = k then (kv.1, v) else kv).1 = kv.1
      split <;> rfl]
    exact h
  · rename_i e
    have n : valV kvs k = none := by
      have := valV_any k kvs
      cases c : valV kvs k with
      | none => rfl
      | some _ =>
        rw [c] at this
        exact absurd this e
    rw [List.map_append]
    refine List.nodup_append.mpr ⟨h, by simp, fun a ha b hb => ?_⟩
    rintro rfl
    simp only [List.map_cons, List.map_nil, List.mem_singleton] at hb
    subst hb
    rw [valV_any, n] at e
    obtain ⟨⟨k2, v2⟩, hm, rfl⟩ := List.mem_map.mp ha
    have := List.any_eq_false.mp (show (kvs.any fun kv => decide (kv.1 = k2)) = false by rw [valV_any, n]; rfl) _ hm
    simp at this
theorem Nd.merge : ∀ {more kvs : List (Key × V)}, Nd kvs → Nd (mergeK kvs more)
  | [], _, h => h
  | p :: ps, kvs, h => Nd.merge (more := ps) (Nd.put (k := p.1) (v := p.2) h)
structure LF (kvs : List (Key × V)) (lp : Addr) (d : PD) : Prop where
  nd : Nd kvs
  len : kvs.length ≤ 8
  w : valV kvs kw = some (.str d.word)
  p : valV kvs kp = some (.ref lp)
  b : valV kvs kb = some (.bl d.broken)
  m : valV kvs km = some (.bl d.marked)
  a : valV kvs ka = some (.str d.ahead)
  h : valV kvs kh = some (.str d.behind)
  n : valV kvs kn = some (.int d.blanks)
  l : valV kvs kl = some (.bl d.left)
def DictAt (G : Hp) (q lp : Addr) (d : PD) : Prop := ∃ kvs, G q = some (.dK kvs) ∧ G lp = some (.lst (d.parts.map V.str)) ∧ LF kvs lp d
theorem DictAt.same {G G' : Hp} {q lp : Addr} {d : PD} (s : Same G G') (h : DictAt G q lp d) : DictAt G' q lp d := by
  obtain ⟨kvs, h1, h2, h3⟩ := h
  exact ⟨kvs, s _ _ h1, s _ _ h2, h3⟩
def spLPiece : Sp := fun vs H Q _ => ∃ (b : Addr) (m : Int), vs = [.ref b, .int m] ∧ BoxAt H b ∧ 0 < m ∧ m ≤ 8 ∧
  ∀ q lp d H', Kept b H H' → BoxAt H' b → d.Ok → d.parts.length ≤ 8 → DictAt H' q lp d → H q = none → H lp = none → Q (.ref q) H'
theorem merge2 (kvs : List (Key × V)) (k1 k2 : Key) (v1 v2 : V) (j : Key) (ne : k1 ≠ k2) : valV (mergeK kvs (mergeK [] [(k1, v1), (k2, v2)])) j = if j = k2 then some v2 else if j = k1 then some v1 else valV kvs j := by
  have e : mergeK [] [(k1, v1), (k2, v2)] = [(k1, v1), (k2, v2)] := by
    show putK (putK [] k1 v1) k2 v2 = _
    have e1 : putK ([] : List (Key × V)) k1 v1 = [(k1, v1)] := rfl
    rw [e1, putK_new]
    · rfl
    · rw [valV_neg ne]
      rfl
  rw [e]
  show valV (putK (putK kvs k1 v1) k2 v2) j = _
  rw [valV_put, valV_put]
theorem len2 (kvs : List (Key × V)) (k1 k2 : Key) (v1 v2 : V) : (mergeK [] [(k1, v1), (k2, v2)]).length ≤ 2 := length_mergeK _ _
abbrev sLPiece : Stmt := top 39
def lpN : List Str := ["_law_box_here", "_law_many", "_law_found", "_law_place", "_law_turn"]
section
variable {P : Program} {w : World} {K : PySem.W.Frag} {mg : Str → Option Value} {base : Heap}
theorem scLPiece : FnScope lpN ["_law_box_here", "_law_many"] (defScope sLPiece) := ⟨rfl, rfl, rfl, by decide +kernel, rfl, by decide +kernel, by decide +kernel⟩
theorem ok_lpiece {f fT fK fN : Addr} {fd dT dK dN : FuncData} (F : Fun K "_law_piece" "_law_piece" sLPiece f fd) (hrange : mg "range" = none)
    (GT : FnOk P w K mg base CX0 1 fT dT ["_law_box_here", "_law_many"] spTake) (gT : mg "_law_take" = some (.ref fT)) (kT : PySem.W.keepIn K (.ref fT) = true) (bT : Binds K dT ["_law_box_here", "_law_many"] [])
    (GK : FnOk P w K mg base CX0 2 fK dK ["_law_box_here", "_law_items"] (spPick K)) (gK : mg "_law_pick" = some (.ref fK)) (kK : PySem.W.keepIn K (.ref fK) = true) (bK : Binds K dK ["_law_box_here", "_law_items"] [])
    (GN : FnOk P w K mg base CX0 3 fN dN ["_law_box_here", "_law_most"] spLName) (gN : mg "_law_name" = some (.ref fN)) (kN : PySem.W.keepIn K (.ref fN) = true) (bN : Binds K dN ["_law_box_here", "_law_most"] []) : FnOk P w K mg base CX0 4 f fd ["_law_box_here", "_law_many"] spLPiece := by
  refine F.ok scLPiece (fun vs H Q E h => ?_) (fun cdv A outer s H vs Q E hr h => ?_)
  · obtain ⟨b, m, rfl, _⟩ := h
    rfl
  · obtain ⟨b, m, rfl, hb, m0, m8, k⟩ := h
    have hr1 := hr.mono (show 1 ≤ 3 by decide)
    have hr2 := hr.mono (show 2 ≤ 3 by decide)
    have hu : (A.deeper (envOfC "_law_piece" (defScope sLPiece) s.heap.objs.size f cdv)).units + 1 < cLine := by have := hr.units; omega
    refine ⟨_, (C8.pss_cut (ps_set (i := 2) scLPiece.nd rfl (.inl rfl) (pe_disp (pps_cons pe_str (pe_call GN hr (by rfl) gN kN bN .nil pass0 (pa_cons (pv 0) (pa_cons pe_int pa_nil))) (pps_cons pe_str
        (pe_lc (own := [("_law_turn", 4)]) (g := gName 4) (tt := tYes) (by rfl) scLPiece.nd (pi_range1 (by rfl) hrange (pa_cons (pe_op op_add pe_int (pe_call GT hr1 (by rfl) gT kT bT .nil pass0 (pa_cons (pv 0) (pa_cons (pv 1) pa_nil)))) pa_nil)) (blkOk_by (N := lpN) (sc := defScope sLPiece) (by decide +kernel))
          (fun _ _ _ _ _ => pg_name (i := 4) scLPiece.nd rfl (Or.inl rfl)) (fun _ _ _ _ _ => pts_nil)
          (fun _ _ _ _ _ => pe_call GN hr (by rfl) gN kN bN .nil pass0 (pa_cons (pv 0) (pa_cons pe_int pa_nil)))) pps_nil)) rfl rfl (by decide) (by decide)))
      (C8.pss_cut (ps_expr (pe_dupd (pv 2) (pe_disp (pps_cons pe_str (pe_cmpR op_eq (pe_call GT hr1 (by rfl) gT kT bT .nil pass0 (pa_cons (pv 0) (pa_cons pe_int pa_nil))) pe_int (nomark _)) (pps_cons pe_str (pe_cmpR op_eq (pe_call GT hr1 (by rfl) gT kT bT .nil pass0 (pa_cons (pv 0) (pa_cons pe_int pa_nil))) pe_int (nomark _)) pps_nil)) rfl rfl (by decide) (by decide)) ⟨by rfl, by rfl, by rfl, by rfl⟩))
      (C8.pss_cut (ps_for PassesOwn.never rfl (pi_tup (pe_tup (pa_cons pe_str (pa_cons pe_str pa_nil)))) (pg_name (i := 3) scLPiece.nd rfl (.inl rfl))
        (pss_one (ps_dput hu (pv 2) (pv 3) (pe_ifExp (pt_cmpR op_eq (pe_call GT hr1 (by rfl) gT kT bT .nil pass0 (pa_cons (pv 0) (pa_cons pe_int pa_nil))) pe_int (nomark _)) (pe_call GN hr (by rfl) gN kN bN .nil pass0 (pa_cons (pv 0) (pa_cons pe_int pa_nil))) pe_str) (by rfl))))
      (pss_cons (ps_expr (pe_dupd (pv 2) (pe_disp (pps_cons pe_str (pe_call GK hr2 (by rfl) gK kK bK .nil pass0 (pa_cons (pv 0) (pa_cons (pe_lst (pa_cons pe_int (pa_cons pe_int (pa_cons pe_int (pa_cons pe_int (pa_cons pe_int pa_nil)))))) pa_nil))) (pps_cons pe_str (pe_cmpR op_eq (pe_call GT hr1 (by rfl) gT kT bT .nil pass0 (pa_cons (pv 0) (pa_cons pe_int pa_nil))) pe_int (nomark _)) pps_nil)) rfl rfl (by decide) (by decide)) ⟨by rfl, by rfl, by rfl, by rfl⟩))
      (pss_one (ps_ret (pv 2))))))), ?_⟩
    refine ⟨fun σ G => ∃ (q lp : Addr) (wd : Str) (ps : List Str) (kvs : List (Key × V)), σ = [some (.ref b), some (.int m), some (.ref q), none, none] ∧ Kept b H G ∧ BoxAt G b ∧ H q = none ∧ H lp = none ∧ G q = some (.dK kvs) ∧ G lp = some (.lst (ps.map V.str)) ∧ kvs.length ≤ 2 ∧ nameB wd = true ∧ 0 < ps.length ∧ ps.length ≤ 8 ∧ (∀ z ∈ ps, nameB z = true) ∧ Nd kvs ∧ valV kvs kw = some (.str wd) ∧ valV kvs kp = some (.ref lp), ?_, ?_⟩
    · refine fun q nq => ?_
      have qb : q ≠ b := hb.ne nq
      refine ⟨_, rfl, b, 3, rfl, hb.new nq, by decide, by decide, fun wd G1 k1 b1 gw => ?_⟩
      refine ⟨_, rfl, _, rfl, b, m, rfl, b1, m0, by omega, fun r o r0 r1 ob => ?_⟩
      have kB : Kept b (upd H q (.dK [])) (upd G1 b o) := k1.trans Kept.box
      have bB : BoxAt (upd G1 b o) b := BoxAt.box ob
      generalize upd G1 b o = G2 at *
      refine ⟨1, r, rfl, rfl, 1 + r, rfl, by omega, by omega, fun D nD => lc_range (lo := 0) (n := Int.toNat _) (fun n G' => ∃ zs : List Str, Kept b G2 G' ∧ BoxAt G' b ∧ D ≠ b ∧ G' D = some (.lst (zs.map V.str)) ∧ zs.length = n ∧ ∀ z ∈ zs, nameB z = true)
        ⟨[], Kept.new nD, bB.new nD, bB.ne nD, upd_same, rfl, fun z h => (List.not_mem_nil h).elim⟩ ?_ ?_⟩
      · rintro n G' hn ⟨zs, k', b', nb, hD, hl, hz⟩
        refine ⟨rfl, _, rfl, b, 6, rfl, b', by decide, by decide, fun z G3 k3 b3 gz => ⟨_, k3 _ _ nb hD, ?_, zs ++ [z], fun c u n1 e => ?_, ?_, nb, by rw [upd_same, List.map_append]; rfl, by rw [List.length_append, hl]; rfl, fun y hy => ?_⟩⟩
        · rw [List.length_map, hl]
          exact small1000 (by omega)
        · rw [upd_ne (ne_of_none e nD)]
          exact k3 _ _ n1 (k' _ _ n1 e)
        · obtain ⟨o2, e2, y2⟩ := b3
          exact ⟨o2, by rw [upd_ne (Ne.symm nb)]; exact e2, y2⟩
        · rcases List.mem_append.mp hy with h | h
          · exact hz y h
          · rw [List.mem_singleton] at h
            subst h
            exact gz
      · rintro G' ⟨zs, k', b', nb, hD, hl, hz⟩
        have k0 : Kept b (upd H q (.dK [])) G' := kB.trans k'
        have hq : G' q = some (.dK []) := k0 _ _ qb upd_same
        have nlp : H D = none := by
          cases e : H D with
          | none => rfl
          | some u =>
            have := kB _ _ nb (Same.new nq _ _ e)
            rw [nD] at this
            cases this
        have Dq : D ≠ q := ne_of hD hq (fun z => nomatch z)
        refine ⟨hq, [(kw, .str wd), (kp, .ref D)], rfl, (by show 2 ≤ 15; decide), q, D, wd, zs, _, rfl, fun c u n1 e => ?_, ?_, nq, nlp, upd_same, by rw [upd_ne Dq]; exact hD, len2 [] _ _ _ _, gw, by omega, by omega, hz, Nd.merge Nd.nil, ?_, ?_⟩
        · rw [upd_ne (ne_of_none e nq)]
          exact k0 _ _ n1 (Same.new nq _ _ e)
        · obtain ⟨o2, e2, y2⟩ := b'
          exact ⟨o2, by rw [upd_ne (Ne.symm qb)]; exact e2, y2⟩
        · have := merge2 [] kw kp (.str wd) (.ref D) kw (by decide)
          exact this
        · have := merge2 [] kw kp (.str wd) (.ref D) kp (by decide)
          exact this
    · rintro σ G ⟨q, lp, wd, ps, kvs, rfl, kG, bG, nq, nl, hq, hl, lk, gw, p0, p8, gp, vnd, vw, vp⟩
      have qb : q ≠ b := fun z => by
        rw [z] at nq
        obtain ⟨o, e, _⟩ := hb
        rw [nq] at e
        cases e
      refine ⟨fun σ G => ∃ (kvs : List (Key × V)) (bb mm : Bool), σ = [some (.ref b), some (.int m), some (.ref q), none, none] ∧ Kept b H G ∧ BoxAt G b ∧ G q = some (.dK kvs) ∧ G lp = some (.lst (ps.map V.str)) ∧ kvs.length ≤ 4 ∧ Nd kvs ∧ valV kvs kw = some (.str wd) ∧ valV kvs kp = some (.ref lp) ∧ valV kvs kb = some (.bl bb) ∧ valV kvs km = some (.bl mm), ?_, ?_⟩
      · refine ⟨_, rfl, q, rfl, .inl ⟨_, .inl hq⟩, fun u nu => ?_⟩
        have ub : u ≠ b := bG.ne nu
        have qu : q ≠ u := ne_of_none hq nu
        refine ⟨_, rfl, b, 2, rfl, bG.new nu, by decide, by decide, fun r1 o1 _ _ ob1 => ⟨rfl, _, rfl, b, 2, rfl, BoxAt.box ob1, by decide, by decide, fun r2 o2 _ _ ob2 => ⟨rfl, ?_⟩⟩⟩
        have kk : Kept b (upd G u (.dK [])) (upd (upd (upd G u (.dK [])) b o1) b o2) := Kept.box.trans Kept.box
        have bb2 : BoxAt (upd (upd (upd G u (.dK [])) b o1) b o2) b := BoxAt.box ob2
        generalize upd (upd (upd G u (.dK [])) b o1) b o2 = G3 at *
        have kG3 : Kept b G G3 := (Kept.new nu).trans kk
        have hu3 : G3 u = some (.dK []) := kk _ _ ub upd_same
        have hq3 := kG3 _ _ qb hq
        have lpq : lp ≠ q := ne_of hl hq (fun z => nomatch z)
        have lpb : lp ≠ b := fun z => by
          rw [z] at nl
          obtain ⟨o, e, _⟩ := hb
          rw [nl] at e
          cases e
        have hl3 := kG3 _ _ lpb hl
        have lpu : lp ≠ u := ne_of_none hl nu
        refine ⟨hu3, [(kb, .bl (decide (V.int r1 = V.int 0))), (km, .bl (decide (V.int r2 = V.int 0)))], rfl, (by show 2 ≤ 15; decide), u, _, _, rfl, by rw [upd_ne qu]; exact hq3, upd_same, qu, by have := len2 [] kb km (.bl (decide (V.int r1 = V.int 0))) (.bl (decide (V.int r2 = V.int 0))); omega, _, decide (V.int r1 = V.int 0), decide (V.int r2 = V.int 0), rfl, fun c w n1 e => ?_, ?_, upd_same, ?_, ?_, Nd.merge vnd, ?_, ?_, ?_, ?_⟩
        · have hc := kG _ _ n1 e
          rw [upd_ne (ne_of_none e nq), upd_ne (ne_of_none hc nu)]
          exact kG3 _ _ n1 hc
        · obtain ⟨o3, e3, y3⟩ := bb2
          exact ⟨o3, by rw [upd_ne (Ne.symm qb), upd_ne (Ne.symm ub)]; exact e3, y3⟩
        · rw [upd_ne lpq, upd_ne lpu]
          exact hl3
        · have h1 := length_mergeK (mergeK [] [(kb, V.bl (decide (V.int r1 = V.int 0))), (km, .bl (decide (V.int r2 = V.int 0)))]) kvs
          have h2 := len2 [] kb km (.bl (decide (V.int r1 = V.int 0))) (.bl (decide (V.int r2 = V.int 0)))
          omega
        · rw [merge2 _ _ _ _ _ _ (by decide), if_neg (by decide), if_neg (by decide)]
          exact vw
        · rw [merge2 _ _ _ _ _ _ (by decide), if_neg (by decide), if_neg (by decide)]
          exact vp
        · rw [merge2 _ _ _ _ _ _ (by decide), if_neg (by decide), if_pos rfl]
        · rw [merge2 _ _ _ _ _ _ (by decide), if_pos rfl]
      · rintro σ G ⟨kvs, bb, mm, rfl, kG, bG, hq, hl, lk, vnd, vw, vp, vb, vm⟩
        have lpq : lp ≠ q := ne_of hl hq (fun z => nomatch z)
        have lpb : lp ≠ b := fun z => by
          rw [z] at nl
          obtain ⟨o, e, _⟩ := hb
          rw [nl] at e
          cases e
        refine ⟨fun σ G => ∃ (x3 : Option V) (kvs : List (Key × V)) (a c : Str), σ = [some (.ref b), some (.int m), some (.ref q), x3, none] ∧ Kept b H G ∧ BoxAt G b ∧ G q = some (.dK kvs) ∧ G lp = some (.lst (ps.map V.str)) ∧ kvs.length ≤ 6 ∧ Nd kvs ∧ valV kvs kw = some (.str wd) ∧ valV kvs kp = some (.ref lp) ∧ valV kvs kb = some (.bl bb) ∧ valV kvs km = some (.bl mm) ∧
          remarkB a = true ∧ remarkB c = true ∧ valV kvs ka = some (.str a) ∧ valV kvs kh = some (.str c), ?_, ?_⟩
        · refine ⟨(by show 2 ≤ sizeLine; decide), fun T nT => ?_⟩
          have sT := Same.new nT (o := .tup [.str "ahead", .str "behind"])
          have Tb : T ≠ b := bG.ne nT
          refine ⟨T, rfl, ⟨_, SqT.of upd_same⟩, for_tup (K := K) (xs := [.str "ahead", .str "behind"]) (fun i σ G' => ∃ (x3 : Option V) (kvs : List (Key × V)), σ = [some (.ref b), some (.int m), some (.ref q), x3, none] ∧ Kept b H G' ∧ BoxAt G' b ∧ G' T = some (.tup [.str "ahead", .str "behind"]) ∧ G' q = some (.dK kvs) ∧ G' lp = some (.lst (ps.map V.str)) ∧ kvs.length ≤ 4 + i ∧ Nd kvs ∧ valV kvs kw = some (.str wd) ∧ valV kvs kp = some (.ref lp) ∧ valV kvs kb = some (.bl bb) ∧ valV kvs km = some (.bl mm) ∧
            (1 ≤ i → ∃ a, remarkB a = true ∧ valV kvs ka = some (.str a)) ∧ (2 ≤ i → ∃ c, remarkB c = true ∧ valV kvs kh = some (.str c)))
            ⟨_, kvs, rfl, kG.trans (Kept.of_same sT), bG.new nT, upd_same, sT _ _ hq, sT _ _ hl, lk, vnd, vw, vp, vb, vm, fun z => absurd z (by decide), fun z => absurd z (by decide)⟩ (fun i σ G' _ z => by
              obtain ⟨_, _, _, _, _, z, _⟩ := z
              exact SqT.of z) ?_ ?_⟩
          · rintro i x σ G' hi ⟨x3, kvs, rfl, kG, bG, hT, hq, hl, lk, vnd, vw, vp, vb, vm, va, vh⟩
            have fin : ∀ (z : Str) (Gz : Hp), remarkB z = true → Kept b G' Gz → BoxAt Gz b → ∃ a H4, V.ref q = .ref a ∧ DPut Gz a x (.str z) H4 ∧ ∃ (x3' : Option V) (kvs : List (Key × V)), [some (V.ref b), some (.int m), some (.ref q), some x, none] = [some (.ref b), some (.int m), some (.ref q), x3', none] ∧ Kept b H H4 ∧ BoxAt H4 b ∧ H4 T = some (.tup [.str "ahead", .str "behind"]) ∧ H4 q = some (.dK kvs) ∧ H4 lp = some (.lst (ps.map V.str)) ∧ kvs.length ≤ 4 + (i + 1) ∧ Nd kvs ∧ valV kvs kw = some (.str wd) ∧ valV kvs kp = some (.ref lp) ∧ valV kvs kb = some (.bl bb) ∧ valV kvs km = some (.bl mm) ∧
                (1 ≤ i + 1 → ∃ a, remarkB a = true ∧ valV kvs ka = some (.str a)) ∧ (2 ≤ i + 1 → ∃ c, remarkB c = true ∧ valV kvs kh = some (.str c)) := fun z Gz rz kz bz => by
              have hqz := kz _ _ qb hq
              have hTz := kz _ _ Tb hT
              have hlz := kz _ _ lpb hl
              have Tq : T ≠ q := ne_of hT hq (fun z => nomatch z)
              have hk : ∀ k : Key, Kept b H (upd Gz q (.dK (putK kvs k (.str z)))) ∧ BoxAt (upd Gz q (.dK (putK kvs k (.str z)))) b ∧ upd Gz q (.dK (putK kvs k (.str z))) T = some (.tup [.str "ahead", .str "behind"]) ∧ upd Gz q (.dK (putK kvs k (.str z))) lp = some (.lst (ps.map V.str)) ∧ (putK kvs k (.str z)).length ≤ 4 + (i + 1) := fun k => by
                refine ⟨fun c w n1 e => ?_, ?_, by rw [upd_ne Tq]; exact hTz, by rw [upd_ne lpq]; exact hlz, by have := length_putK kvs k (.str z); omega⟩
                · rw [upd_ne (ne_of_none e nq)]
                  exact kz _ _ n1 (kG _ _ n1 e)
                · obtain ⟨o3, e3, y3⟩ := bz
                  exact ⟨o3, by rw [upd_ne (Ne.symm qb)]; exact e3, y3⟩
              have i2 : i < 2 := (List.getElem?_eq_some_iff.mp hi).1
              have ll : kvs.length < sizeLine := small1000 (by omega)
              rcases (show i = 0 ∨ i = 1 by omega) with rfl | rfl
              · cases hi
                obtain ⟨p1, p2, p3, p4, p5⟩ := hk ka
                refine ⟨q, _, rfl, DPut.k (k := ka) hqz ll, _, _, rfl, p1, p2, p3, upd_same, p4, p5, Nd.put vnd, ?_, ?_, ?_, ?_, fun _ => ⟨z, rz, ?_⟩, fun z => absurd z (by decide)⟩
                · rw [valV_put, if_neg (by decide)]; exact vw
                · rw [valV_put, if_neg (by decide)]; exact vp
                · rw [valV_put, if_neg (by decide)]; exact vb
                · rw [valV_put, if_neg (by decide)]; exact vm
                · rw [valV_put, if_pos rfl]
              · cases hi
                obtain ⟨p1, p2, p3, p4, p5⟩ := hk kh
                obtain ⟨a, ra, ea⟩ := va (Nat.le_refl 1)
                refine ⟨q, _, rfl, DPut.k (k := kh) hqz ll, _, _, rfl, p1, p2, p3, upd_same, p4, p5, Nd.put vnd, ?_, ?_, ?_, ?_, fun _ => ⟨a, ra, ?_⟩, fun _ => ⟨z, rz, ?_⟩⟩
                · rw [valV_put, if_neg (by decide)]; exact vw
                · rw [valV_put, if_neg (by decide)]; exact vp
                · rw [valV_put, if_neg (by decide)]; exact vb
                · rw [valV_put, if_neg (by decide)]; exact vm
                · rw [valV_put, if_neg (by decide)]; exact ea
                · rw [valV_put, if_pos rfl]
            refine ⟨_, rfl, b, 3, rfl, bG, by decide, by decide, fun r o _ _ ob => ⟨rfl, _, rfl, ?_⟩⟩
            cases decide (V.int r = V.int 0) with
            | true =>
              refine iteY rfl ⟨_, rfl, b, 6, rfl, BoxAt.box ob, by decide, by decide, fun z Gz kz bz gz => ⟨_, rfl, _, rfl, ?_⟩⟩
              exact fin z Gz (by unfold remarkB; rw [gz, Bool.or_true]) (Kept.box.trans kz) bz
            | false =>
              refine iteN rfl ⟨_, rfl, _, rfl, ?_⟩
              exact fin "" _ (by decide +kernel) Kept.box (BoxAt.box ob)
          · rintro σ G' ⟨x3, kvs, rfl, kG, bG, hT, hq, hl, lk, vnd, vw, vp, vb, vm, va, vh⟩
            obtain ⟨a, ra, ea⟩ := va (by decide)
            obtain ⟨c, rc, ec⟩ := vh (by decide)
            exact ⟨_, kvs, a, c, rfl, kG, bG, hq, hl, lk, vnd, vw, vp, vb, vm, ra, rc, ea, ec⟩
        · rintro σ G ⟨x3, kvs, a, c, rfl, kG, bG, hq, hl, lk, vnd, vw, vp, vb, vm, ra, rc, va, vh⟩
          refine ⟨_, rfl, q, rfl, .inl ⟨_, .inl hq⟩, fun u nu => ?_⟩
          have ub : u ≠ b := bG.ne nu
          have qu : q ≠ u := ne_of_none hq nu
          have bu := bG.new nu (o := .dK [])
          have su := Same.new nu (o := .dK [])
          refine ⟨_, rfl, (by show 5 ≤ sizeLine; decide), fun l nl2 => ⟨b, l, _, rfl, bu.new nl2, bu.ne nl2, SqL.of upd_same, by decide, by decide, fun v o1 hv ob1 => ?_⟩⟩
          obtain ⟨n, rfl, n0, n3⟩ : ∃ n : Int, v = .int n ∧ 0 ≤ n ∧ n < 3 := by
            simp only [List.mem_cons, List.not_mem_nil, or_false] at hv
            rcases hv with rfl | rfl | rfl | rfl | rfl
            · exact ⟨_, rfl, by decide, by decide⟩
            · exact ⟨_, rfl, by decide, by decide⟩
            · exact ⟨_, rfl, by decide, by decide⟩
            · exact ⟨_, rfl, by decide, by decide⟩
            · exact ⟨_, rfl, by decide, by decide⟩
          refine ⟨_, rfl, b, 5, rfl, BoxAt.box ob1, by decide, by decide, fun r2 o2 _ _ ob2 => ⟨rfl, ?_⟩⟩
          have kk : Kept b (upd G u (.dK [])) (upd (upd (upd (upd G u (.dK [])) l (.lst [.int 0, .int 0, .int 0, .int 1, .int 2])) b o1) b o2) := ((Kept.new nl2).trans Kept.box).trans Kept.box
          have bb2 : BoxAt (upd (upd (upd (upd G u (.dK [])) l (.lst [.int 0, .int 0, .int 0, .int 1, .int 2])) b o1) b o2) b := BoxAt.box ob2
          generalize upd (upd (upd (upd G u (.dK [])) l (.lst [.int 0, .int 0, .int 0, .int 1, .int 2])) b o1) b o2 = G3 at *
          have kG3 : Kept b G G3 := (Kept.new nu).trans kk
          have hu3 : G3 u = some (.dK []) := kk _ _ ub upd_same
          have hq3 := kG3 _ _ qb hq
          have hl3 := kG3 _ _ lpb hl
          have lpu : lp ≠ u := ne_of_none hl nu
          refine ⟨hu3, [(kn, .int n), (kl, .bl (decide (V.int r2 = V.int 0)))], rfl, (by show 2 ≤ 15; decide), u, _, _, rfl, by rw [upd_ne qu]; exact hq3, upd_same, qu, by have := len2 [] kn kl (.int n) (.bl (decide (V.int r2 = V.int 0))); omega, _, rfl, ?_⟩
          refine k q lp ⟨wd, ps, bb, mm, a, c, n, decide (V.int r2 = V.int 0)⟩ _ (fun c w n1 e => ?_) ?_ ⟨gw, p0, by show ps.length ≤ 1000; omega, gp, ra, rc, n0, n3⟩ p8 ⟨_, upd_same, ?_, Nd.merge vnd, by have h1 := length_mergeK (mergeK [] [(kn, V.int n), (kl, .bl (decide (V.int r2 = V.int 0)))]) kvs; have h2 := len2 [] kn kl (.int n) (.bl (decide (V.int r2 = V.int 0))); omega, ?_, ?_, ?_, ?_, ?_, ?_, ?_, ?_⟩ nq nl
          · have hc := kG _ _ n1 e
            rw [upd_ne (ne_of_none e nq), upd_ne (ne_of_none hc nu)]
            exact kG3 _ _ n1 hc
          · obtain ⟨o3, e3, y3⟩ := bb2
            exact ⟨o3, by rw [upd_ne (Ne.symm qb), upd_ne (Ne.symm ub)]; exact e3, y3⟩
          · rw [upd_ne lpq, upd_ne lpu]
            exact hl3
          · rw [merge2 _ _ _ _ _ _ (by decide), if_neg (by decide), if_neg (by decide)]; exact vw
          · rw [merge2 _ _ _ _ _ _ (by decide), if_neg (by decide), if_neg (by decide)]; exact vp
          · rw [merge2 _ _ _ _ _ _ (by decide), if_neg (by decide), if_neg (by decide)]; exact vb
          · rw [merge2 _ _ _ _ _ _ (by decide), if_neg (by decide), if_neg (by decide)]; exact vm
          · rw [merge2 _ _ _ _ _ _ (by decide), if_neg (by decide), if_neg (by decide)]; exact va
          · rw [merge2 _ _ _ _ _ _ (by decide), if_neg (by decide), if_neg (by decide)]; exact vh
          · rw [merge2 _ _ _ _ _ _ (by decide), if_neg (by decide), if_pos rfl]
          · rw [merge2 _ _ _ _ _ _ (by decide), if_pos rfl]
end
end Lay
set_option Elab.async false
set_option linter.all false
set_option maxRecDepth 100000
set_option maxHeartbeats 4000000
set_option pp.maxSteps 1500
namespace Lay
open PySem PySem.Spec PyProof.Rows L2
section
variable {G : Hp} {q lp : Addr} {d : PD} (h : DictAt G q lp d)
include h
theorem dg_w : DGet G q (.str "word") (some (.str d.word)) := by
  obtain ⟨kvs, h1, _, h3⟩ := h
  exact .inl ⟨kvs, kw, .inl h1, rfl, h3.w.symm⟩
theorem dg_p : DGet G q (.str "parts") (some (.ref lp)) := by
  obtain ⟨kvs, h1, _, h3⟩ := h
  exact .inl ⟨kvs, kp, .inl h1, rfl, h3.p.symm⟩
theorem dg_b : DGet G q (.str "broken") (some (.bl d.broken)) := by
  obtain ⟨kvs, h1, _, h3⟩ := h
  exact .inl ⟨kvs, kb, .inl h1, rfl, h3.b.symm⟩
theorem dg_m : DGet G q (.str "marked") (some (.bl d.marked)) := by
  obtain ⟨kvs, h1, _, h3⟩ := h
  exact .inl ⟨kvs, km, .inl h1, rfl, h3.m.symm⟩
theorem dg_a : DGet G q (.str "ahead") (some (.str d.ahead)) := by
  obtain ⟨kvs, h1, _, h3⟩ := h
  exact .inl ⟨kvs, ka, .inl h1, rfl, h3.a.symm⟩
theorem dg_h : DGet G q (.str "behind") (some (.str d.behind)) := by
  obtain ⟨kvs, h1, _, h3⟩ := h
  exact .inl ⟨kvs, kh, .inl h1, rfl, h3.h.symm⟩
theorem dg_n : DGet G q (.str "blanks") (some (.int d.blanks)) := by
  obtain ⟨kvs, h1, _, h3⟩ := h
  exact .inl ⟨kvs, kn, .inl h1, rfl, h3.n.symm⟩
theorem dg_l : DGet G q (.str "left") (some (.bl d.left)) := by
  obtain ⟨kvs, h1, _, h3⟩ := h
  exact .inl ⟨kvs, kl, .inl h1, rfl, h3.l.symm⟩
theorem dg_lp : G lp = some (.lst (d.parts.map V.str)) := by
  obtain ⟨kvs, h1, h2, h3⟩ := h
  exact h2
end
theorem hu_of {k : Nat} {A : Around} (hr : Room k A) : A.units + 1 < cLine := by
  have := hr.units
  omega
def psPiece : List Str := ["self", "word", "parts", "broken", "marked", "ahead", "behind", "blanks", "left"]
def spLMade (K : PySem.W.Frag) (C : Addr) : Sp := fun vs H Q _ => ∃ (q lp : Addr) (d : PD), vs = [.ref q] ∧ DictAt H q lp d ∧ d.Ok ∧ d.parts.length ≤ 30 ∧ ∀ y H', Same H H' → H y = none → PieceAt K C H' y d → Q (.ref y) H'
def frontS (b : Bool) : Str := if b = true then Str.ofString "!" else Str.ofString ""
def endS (b : Bool) : Str := if b = true then Str.ofString "," else Str.ofString ""
def moreS (z : Str) : Str := if z.length = 0 then Str.ofString "" else Str.ofString "  # " ++ z
def flatS (d : PD) (mk : Bool) (rm : Str) : Str := (((((frontS d.left ++ d.word) ++ Str.ofString "(") ++ Txt.join ", " d.parts) ++ endS mk) ++ Str.ofString ")") ++ moreS rm
def spLFlat : Sp := fun vs H Q _ => ∃ (q lp : Addr) (d : PD) (mk : Bool) (rm : Str), vs = [.ref q, .bl mk, .str rm] ∧ DictAt H q lp d ∧ d.Ok ∧ d.parts.length ≤ 30 ∧ remarkB rm = true ∧ Q (.str (flatS d mk rm)) H
abbrev sLMade : Stmt := top 40
theorem str_ne {z : Str} : decide (V.str z = V.str "") = decide (z.length = 0) := by
  apply decide_eq_decide.mpr
  constructor
  · intro e
    rw [V.str.inj e]
    decide
  · intro e
    have : z.cps = #[] := Array.eq_empty_of_size_eq_zero e
    cases z
    cases this
    rfl
section
variable {P : Program} {w : World} {K : PySem.W.Frag} {mg : Str → Option Value} {base : Heap}
theorem scLMade : FnScope ["_law_piece_here", "_law_words"] ["_law_piece_here"] (defScope sLMade) := ⟨rfl, rfl, rfl, by decide +kernel, rfl, by decide +kernel, by decide +kernel⟩
theorem ok_lmade {f fI C : Addr} {fd dI : FuncData} (F : Fun K "_law_made" "_law_made" sLMade f fd) (gC : mg "Piece" = some (.ref C)) (M : Mk K C fI)
    (GI : FnOk P w K mg base CX0 3 fI dI psPiece (spPieceI C K)) (bI : Binds K dI psPiece []) : FnOk P w K mg base CX0 5 f fd ["_law_piece_here"] (spLMade K C) := by
  refine F.ok scLMade (fun vs H Q E h => ?_) (fun cdv A outer s H vs Q E hr h => ?_)
  · obtain ⟨q, lp, d, rfl, _⟩ := h
    rfl
  · obtain ⟨q, lp, d, rfl, hD, o, few, k⟩ := h
    refine ⟨_, (pss_cons (ps_set (i := 1) scLMade.nd rfl (.inl rfl) (pe_tup (pa_cons (pe_dget (hu_of hr) (pv 0) pe_str (fun _ _ => rfl)) (pa_cons (pe_dget (hu_of hr) (pv 0) pe_str (fun _ _ => rfl)) (pa_cons (pe_dget (hu_of hr) (pv 0) pe_str (fun _ _ => rfl)) (pa_cons (pe_dget (hu_of hr) (pv 0) pe_str (fun _ _ => rfl)) (pa_cons (pe_dget (hu_of hr) (pv 0) pe_str (fun _ _ => rfl)) (pa_cons (pe_dget (hu_of hr) (pv 0) pe_str (fun _ _ => rfl)) pa_nil))))))))
      (pss_one (ps_ret (pe_make M GI hr (by rfl) gC bI .nil pass0 (pa_cons (pe_ix ix_tup (pv 1) pe_int (fun _ _ => rfl)) (pa_cons (pe_ix ix_tup (pv 1) pe_int (fun _ _ => rfl)) (pa_cons (pe_ix ix_tup (pv 1) pe_int (fun _ _ => rfl)) (pa_cons (pe_ix ix_tup (pv 1) pe_int (fun _ _ => rfl)) (pa_cons (pe_ix ix_tup (pv 1) pe_int (fun _ _ => rfl)) (pa_cons (pe_ix ix_tup (pv 1) pe_int (fun _ _ => rfl))
        (pa_cons (pe_dget (hu_of hr) (pv 0) pe_str (fun _ _ => rfl)) (pa_cons (pe_dget (hu_of hr) (pv 0) pe_str (fun _ _ => rfl)) pa_nil)))))))))))), ?_⟩
    refine ⟨_, rfl, q, _, rfl, dg_w hD, _, rfl, q, _, rfl, dg_p hD, _, rfl, q, _, rfl, dg_b hD, _, rfl, q, _, rfl, dg_m hD, _, rfl, q, _, rfl, dg_a hD, _, rfl, q, _, rfl, dg_h hD, (by show 6 ≤ sizeLine; decide), fun t nt => ?_⟩
    have st := Same.new nt (o := .tup [.str d.word, .ref lp, .bl d.broken, .bl d.marked, .str d.ahead, .str d.behind])
    have hD1 := hD.same st
    have ht : upd H t (.tup [.str d.word, .ref lp, .bl d.broken, .bl d.marked, .str d.ahead, .str d.behind]) t = some (.tup [.str d.word, .ref lp, .bl d.broken, .bl d.marked, .str d.ahead, .str d.behind]) := upd_same
    generalize upd H t (.tup [.str d.word, .ref lp, .bl d.broken, .bl d.marked, .str d.ahead, .str d.behind]) = G at *
    refine ⟨_, rfl, t, _, 0, _, rfl, rfl, SqT.of ht, rfl, _, rfl, t, _, 1, _, rfl, rfl, SqT.of ht, rfl, _, rfl, t, _, 2, _, rfl, rfl, SqT.of ht, rfl, _, rfl, t, _, 3, _, rfl, rfl, SqT.of ht, rfl, _, rfl, t, _, 4, _, rfl, rfl, SqT.of ht, rfl, _, rfl, t, _, 5, _, rfl, rfl, SqT.of ht, rfl, _, rfl, q, _, rfl, dg_n hD1, _, rfl, q, _, rfl, dg_l hD1, fun x dx nx nd ne => ?_⟩
    have zz := (Same.new nd (o := .own x)).trans (Same.new (fresh_own (o := .own x) nx ne) (o := .ins C dx []))
    refine ⟨x, lp, dx, d, rfl, o, .inl (zz _ _ (dg_lp hD1)), upd_same, fun H2 t2 kp2 hx ht2 => ⟨rfl, ?_⟩⟩
    have s2 := made_same nx nd kp2
    exact k x H2 (st.trans s2) (st.free nx) ⟨dx, t2, hx, ht2⟩
end
end Lay
set_option Elab.async false
set_option linter.all false
set_option maxRecDepth 100000
set_option maxHeartbeats 4000000
set_option pp.maxSteps 900
namespace Lay
open PySem PySem.Spec PyProof.Rows L2 KwX
/-! the bare length; equal pieces -/
def bareN (d : PD) : Int := ((headS d).length : Int) + ((Txt.join ", " d.parts).length : Int) + 1
abbrev sEqPc : Stmt := inClass (top 20) 3
def spBare (K : PySem.W.Frag) (C : Addr) : Sp := fun vs H Q _ => ∃ (p : Addr) (d : PD), vs = [.ref p] ∧ PieceAt K C H p d ∧ d.Ok ∧ d.parts.length ≤ 30 ∧ Q (.int (bareN d)) H
/-- isinstance(x, Piece) -/
def IsP (K : PySem.W.Frag) (C : Addr) (H : Hp) (x : V) (b : Bool) : Prop := ∃ t, TyX K H x t ∧ PySem.W.kitOne K t (.ref C) = some b
theorem IsP.same {K : PySem.W.Frag} {C : Addr} {H H' : Hp} {x : V} {b : Bool} (s : Same H H') (h : IsP K C H x b) : IsP K C H' x b := by
  obtain ⟨t, h1, h2⟩ := h
  exact ⟨t, TyX.same s h1, h2⟩
/-- what isinstance asks of a class -/
structure ClsI (K : PySem.W.Frag) (C : Addr) : Prop where
  cl : Cls K C
  ha : PySem.W.findIn K (.ref C) "__class__" = some (some (.builtin "object.__class__"))
  hn : PySem.W.specialIn K (.builtin "object.__class__") "__get__" = some (some (.builtin "getset_descriptor.__get__"))
  htk : PySem.W.takesIn K (.builtin "object.__class__") = some true
  hm : PySem.W.mroIn K C (.type "object") = some true
theorem ClsI.at {K : PySem.W.Frag} {C a dx : Addr} {H : Hp} {fs : List (Str × V)} (c : ClsI K C) (h : H a = some (.ins C dx fs)) : TyX K H (.ref a) (.ref C) := .base (.ins h c.cl c.ha c.hn c.htk c.hm)
theorem ClsI.yes {K : PySem.W.Frag} {C a dx : Addr} {H : Hp} {fs : List (Str × V)} (c : ClsI K C) (h : H a = some (.ins C dx fs)) : IsP K C H (.ref a) true := ⟨_, c.at h, by unfold PySem.W.kitOne; rw [if_pos (by simp)]⟩
/-- a piece as data -/
def dataL (d : PD) : List PyData := [.str d.word, .tuple (d.parts.map .str), .bool d.broken, .bool d.marked, .str d.ahead, .str d.behind, .int d.blanks, .bool d.left]
def eqB (d e : PD) : Bool := PyData.eqvAll (dataL d) (dataL e)
theorem eqB_eq (d e : PD) : eqB d e = (decide (V.str d.word = .str e.word) && (PyData.eqvAll (d.parts.map .str) (e.parts.map .str) && (decide (V.bl d.broken = .bl e.broken) && (decide (V.bl d.marked = .bl e.marked) && (decide (V.str d.ahead = .str e.ahead) && (decide (V.str d.behind = .str e.behind) && (decide (V.int d.blanks = .int e.blanks) && (decide (V.bl d.left = .bl e.left))))))))) := by
  have s : ∀ a b : Str, decide (V.str a = .str b) = (a == b) := fun a b => by
    apply Bool.eq_iff_iff.mpr
    rw [decide_eq_true_iff, beq_iff_eq]
    exact ⟨fun h => V.str.inj h, fun h => by rw [h]⟩
  have bl : ∀ a b : Bool, decide (V.bl a = .bl b) = (a == b) := fun a b => by cases a <;> cases b <;> decide
  have it : ∀ a b : Int, decide (V.int a = .int b) = (a == b) := fun a b => dec_int
  unfold eqB dataL
  simp only [PyData.eqvAll, PyData.eqv, s, bl, it, Bool.and_true]
theorem eqvAll_strs : ∀ {xs ys : List Str}, PyData.eqvAll (xs.map .str) (ys.map .str) = true → xs = ys
  | [], [], _ => rfl
  | x :: xs, y :: ys, h => by
    simp only [List.map_cons, PyData.eqvAll, PyData.eqv, Bool.and_eq_true, beq_iff_eq] at h
    rw [h.1, eqvAll_strs h.2]
  | [], _ :: _, h => by simp [PyData.eqvAll] at h
  | _ :: _, [], h => by simp [PyData.eqvAll] at h
theorem eqvAll_refl : ∀ xs : List Str, PyData.eqvAll (xs.map .str) (xs.map .str) = true
  | [] => rfl
  | x :: xs => by simp [PyData.eqvAll, PyData.eqv, eqvAll_refl xs]
theorem eqB_self (d : PD) : eqB d d = true := by
  rw [eqB_eq]
  simp [eqvAll_refl]
theorem eqB_iff {d e : PD} : eqB d e = true ↔ d = e := by
  constructor
  · intro h
    rw [eqB_eq] at h
    simp only [Bool.and_eq_true, decide_eq_true_iff] at h
    obtain ⟨h1, h2, h3, h4, h5, h6, h7, h8⟩ := h
    obtain ⟨w, ps, b, m, a, bh, n, l⟩ := d
    obtain ⟨w2, ps2, b2, m2, a2, bh2, n2, l2⟩ := e
    cases h1
    cases h3
    cases h4
    cases h5
    cases h6
    cases h7
    cases h8
    have h2 : ps = ps2 := eqvAll_strs h2
    rw [h2]
  · rintro rfl
    exact eqB_self d
def spEqP (K : PySem.W.Frag) (C : Addr) : Sp := fun vs H Q _ => ∃ (p : Addr) (y : V) (d : PD), vs = [.ref p, y] ∧ PieceAt K C H p d ∧ d.Ok ∧ ((∃ q e, y = .ref q ∧ PieceAt K C H q e ∧ e.Ok ∧ Q (.bl (eqB d e)) H) ∨ (IsP K C H y false ∧ Q (.bl false) H))
theorem strs_dp {K : PySem.W.Frag} {H : Hp} : ∀ ws : List Str, DpAll K H (ws.map V.str) (ws.map PyData.str)
  | [] => .nil
  | w :: ws => .cons (.str w) (strs_dp ws)
theorem canLay_strs : ∀ ws : List Str, (∀ z ∈ ws, PyData.strOk z = true) → PyData.canLayAll0 (ws.map PyData.str) = true
  | [], _ => by simp [PyData.canLayAll0]
  | n :: r, h => by simp [PyData.canLayAll0, PyData.canLay0, h n List.mem_cons_self, canLay_strs r fun z hz => h z (List.mem_cons_of_mem _ hz)]
theorem depth_strs : ∀ ws : List Str, PyData.depthAll (ws.map PyData.str) ≤ 1
  | [] => by simp [PyData.depthAll]
  | n :: r => by
    have := depth_strs r
    simp only [List.map_cons, PyData.depthAll, PyData.depth]
    omega
theorem shaped_strs (ws : List Str) (h : ∀ z ∈ ws, PyData.strOk z = true) : PySem.SeqAt.shaped (.tuple (ws.map PyData.str)) = true := by
  have h1 := depth_strs ws
  have h2 : PyData.depth (.tuple (ws.map PyData.str)) ≤ 64 := by simp only [PyData.depth]; omega
  show (PyData.canLay0 (.tuple (ws.map PyData.str)) && decide (PyData.depth (.tuple (ws.map PyData.str)) ≤ 64)) = true
  rw [Bool.and_eq_true]
  exact ⟨by simp only [PyData.canLay0]; exact canLay_strs ws h, decide_eq_true h2⟩
theorem ascii_strOk {z : Str} (h1 : Txt.isascii z = true) : PyData.strOk z = true := by
  unfold Txt.isascii at h1
  unfold PyData.strOk
  rw [Array.all_eq_true'] at h1 ⊢
  intro c hc
  have := of_decide_eq_true (h1 c hc)
  exact decide_eq_true (by omega)
theorem nameB_ascii {z : Str} (h : nameB z = true) : Txt.isascii z = true := by
  unfold nameB at h
  exact (Bool.and_eq_true_iff.mp (Bool.and_eq_true_iff.mp h).2).1
theorem nameB_strOk {z : Str} (h : nameB z = true) : PyData.strOk z = true := ascii_strOk (nameB_ascii h)
theorem remB_ascii {z : Str} (h : remarkB z = true) : Txt.isascii z = true := by
  unfold remarkB at h
  rcases Bool.or_eq_true_iff.mp h with h | h
  · have e : z = ("" : Str) := V.str.inj (of_decide_eq_true h)
    rw [e]
    decide +kernel
  · exact nameB_ascii h
theorem eqv_tup (xs ys : List PyData) : PyData.eqv (.tuple xs) (.tuple ys) = PyData.eqvAll xs ys := by rw [PyData.eqv]
section
variable {P : Program} {w : World} {K : PySem.W.Frag} {mg : Str → Option Value} {base : Heap}
theorem scEqP : FnScope ["self", "other"] ["self", "other"] (defScope sEqPc) := ⟨rfl, rfl, rfl, by decide +kernel, rfl, by decide +kernel, by decide +kernel⟩
theorem ok_eqP {f C : Addr} {fd : FuncData} (F : Fun K "__eq__" "Piece.__eq__" sEqPc f fd) (B : Bt mg) (c : ClsI K C) (Z : PieceC K C) (gC : mg "Piece" = some (.ref C)) : FnOk P w K mg base CX0 1 f fd ["self", "other"] (spEqP K C) := by
  refine F.ok scEqP (fun vs H Q E h => ?_) (fun cdv A outer s H vs Q E hr h => ?_)
  · obtain ⟨p, y, d, rfl, _⟩ := h
    rfl
  · obtain ⟨p, y, d, rfl, ⟨dx, t, hp, ht⟩, o, h⟩ := h
    refine ⟨_, pss_one (ps_ret (pe_and (pe_callB (call_isiK (K := K) rfl) (by rfl) B.isinstance (by decide +kernel) (pa_cons (pv 1) (pa_cons (pe_glob (v := .ref C) (by rfl) gC rfl) pa_nil)))
      (pe_and (pe_cmpR op_eq (pe_fld (pv 0) rfl) (pe_fld (pv 1) rfl) (nomark _))
      (pe_and (pe_cmpR (op_eqD hr.units) (pe_fld (pv 0) rfl) (pe_fld (pv 1) rfl) (nomark _))
      (pe_and (pe_cmpR op_eq (pe_fld (pv 0) rfl) (pe_fld (pv 1) rfl) (nomark _))
      (pe_and (pe_cmpR op_eq (pe_fld (pv 0) rfl) (pe_fld (pv 1) rfl) (nomark _))
      (pe_and (pe_cmpR op_eq (pe_fld (pv 0) rfl) (pe_fld (pv 1) rfl) (nomark _))
      (pe_and (pe_cmpR op_eq (pe_fld (pv 0) rfl) (pe_fld (pv 1) rfl) (nomark _))
      (pe_and (pe_cmpR op_eq (pe_fld (pv 0) rfl) (pe_fld (pv 1) rfl) (nomark _))
      (pe_one (pe_cmpR op_eq (pe_fld (pv 0) rfl) (pe_fld (pv 1) rfl) (nomark _)))))))))))), ?_⟩
    rcases h with ⟨q, e, rfl, ⟨dx2, t2, hq, ht2⟩, o2, k⟩ | ⟨⟨u, ty, eu⟩, k⟩
    · rw [eqB_eq] at k
      have cut : ∀ {c r : Bool} {R : Prop}, (c = true → Q (.bl r) H → R) → (c = false → Q (.bl false) H → R) → Q (.bl (c && r)) H → R := fun {c r R} h1 h2 k => by
        cases c with
        | true => exact h1 rfl k
        | false => exact h2 rfl k
      have sh : PySem.SeqAt.shaped (.tuple (d.parts.map PyData.str)) = true := shaped_strs _ fun z hz => nameB_strOk (o.parts z hz)
      have sh2 : PySem.SeqAt.shaped (.tuple (e.parts.map PyData.str)) = true := shaped_strs _ fun z hz => nameB_strOk (o2.parts z hz)
      refine ⟨_, rfl, _, _, _, _, true, rfl, .own _, c.at hq, (by unfold PySem.W.kitOne; rw [if_pos (by simp)]), _, rfl, iteY rfl ?_⟩
      refine ⟨_, rfl, p, C, dx, _, _, rfl, hp, Z.cl, Z.word, rfl, _, rfl, q, C, dx2, _, _, rfl, hq, Z.cl, Z.word, rfl, rfl, _, rfl, ?_⟩
      refine cut (fun h k => iteY h ?_) (fun h k => iteN h k) k
      refine ⟨_, rfl, p, C, dx, _, _, rfl, hp, Z.cl, Z.parts, rfl, _, rfl, q, C, dx2, _, _, rfl, hq, Z.cl, Z.parts, rfl, .tuple (d.parts.map .str), .tuple (e.parts.map .str), .tup (SqT.of ht) (strs_dp _), .tup (SqT.of ht2) (strs_dp _), sh, sh2, _, rfl, ?_⟩
      rw [eqv_tup]
      refine cut (fun h k => iteY h ?_) (fun h k => iteN h k) k
      refine ⟨_, rfl, p, C, dx, _, _, rfl, hp, Z.cl, Z.broken, rfl, _, rfl, q, C, dx2, _, _, rfl, hq, Z.cl, Z.broken, rfl, rfl, _, rfl, ?_⟩
      refine cut (fun h k => iteY h ?_) (fun h k => iteN h k) k
      refine ⟨_, rfl, p, C, dx, _, _, rfl, hp, Z.cl, Z.marked, rfl, _, rfl, q, C, dx2, _, _, rfl, hq, Z.cl, Z.marked, rfl, rfl, _, rfl, ?_⟩
      refine cut (fun h k => iteY h ?_) (fun h k => iteN h k) k
      refine ⟨_, rfl, p, C, dx, _, _, rfl, hp, Z.cl, Z.ahead, rfl, _, rfl, q, C, dx2, _, _, rfl, hq, Z.cl, Z.ahead, rfl, rfl, _, rfl, ?_⟩
      refine cut (fun h k => iteY h ?_) (fun h k => iteN h k) k
      refine ⟨_, rfl, p, C, dx, _, _, rfl, hp, Z.cl, Z.behind, rfl, _, rfl, q, C, dx2, _, _, rfl, hq, Z.cl, Z.behind, rfl, rfl, _, rfl, ?_⟩
      refine cut (fun h k => iteY h ?_) (fun h k => iteN h k) k
      refine ⟨_, rfl, p, C, dx, _, _, rfl, hp, Z.cl, Z.blanks, rfl, _, rfl, q, C, dx2, _, _, rfl, hq, Z.cl, Z.blanks, rfl, rfl, _, rfl, ?_⟩
      refine cut (fun h k => iteY h ?_) (fun h k => iteN h k) k
      exact ⟨_, rfl, p, C, dx, _, _, rfl, hp, Z.cl, Z.left, rfl, _, rfl, q, C, dx2, _, _, rfl, hq, Z.cl, Z.left, rfl, rfl, k⟩
    · exact ⟨_, rfl, _, _, _, _, false, rfl, .own _, ty, eu, _, rfl, iteN rfl k⟩
end
end Lay
set_option Elab.async false
set_option linter.all false
set_option maxRecDepth 100000
set_option maxHeartbeats 4000000
/-! str(x), x == y, x != y, x + y by what an own class defines. -/
namespace Lay
open PySem PySem.Spec PyProof.Rows L2
section
variable {X : Cx} {CX : CXT} {C f : Addr} {n : Nat} {fd : FuncData} {ps : List Str} {sp : Sp}
/-- a def called beneath, with its values -/
theorem run_sub {A : Around} {pins : List (Addr × Obj)} {σ : L2.St} {H : Hp} {s : Shared} {Q : VK} {us : List Value} {vs : List V} {Post : Value → Shared → Prop} (F : FnOk X.prog X.w X.K X.mg X.base CX n f fd ps sp) (hr : Sub X n A) (hb : Binds X.K fd ps []) (hx : Passes CX X E0)
    (I : Inv X pins σ H s) (r : Vals vs us) (h : sp vs H Q E0) (post : ∀ v u H' s', Inv X pins σ H' s' → RelV v u → Q v H' → Post u s') : wpAny (model X.prog X.w) A (call (.ref f) us) Post X.xe s := by
  have hl : us.length = ps.length := by rw [← r.length]; exact F.len _ _ _ _ h
  have b := hb s us I.kIn (by rw [List.append_nil]; exact hl)
  rw [List.append_nil] at b
  have e := I.env0
  have e0 : Env0 X.prog X.w X.K X.mg X.base A X.stack s H := ⟨by rw [hr.fr]; exact e.frames, e.mod, e.bs, e.bsz, e.funs, e.frf, e.hok, e.bare⟩
  refine wpAny_call (codeAny_mono (F.run A X.stack s H ⟨us, []⟩ us vs Q E0 hr.room e0 b r h) fun r s' hq => ?_)
  cases r with
  | error er => exact hx pins σ H s er s' I hq
  | ok fl =>
    cases fl with
    | ret u =>
      obtain ⟨v, H', I', rv, q⟩ := I.after hq
      exact post v u H' s' I' rv q
    | next => exact False.elim hq
    | brk => exact False.elim hq
    | cont => exact False.elim hq
theorem call_strOwn (F : FnOk X.prog X.w X.K X.mg X.base CX n f fd ps sp) (hs : PySem.W.findIn X.K (.ref C) "__str__" = some (some (.ref f))) (hf : PySem.W.isFn X.K (.ref f) = true) (hr : Room (n + 2) X.A) (hb : Binds X.K fd ps []) (hx : Passes CX X E0) :
    CallR X (.type "str") (fun xs H Q => ∃ (a dx : Addr) (fs : List (Str × V)), xs = [.ref a] ∧ H a = some (.ins C dx fs) ∧ sp [.ref a] H (fun v H' => ∃ z, v = .str z ∧ Q (.str z) H') E0) := by
  intro pins s σ H xs us Q I r h
  obtain ⟨a, dx, fs, rfl, ha, q⟩ := h
  obtain ⟨u, rfl, ru⟩ := vals1 r
  cases ru
  obtain ⟨mA, J, _⟩ := ins_get I.hok ha
  obtain ⟨od, J, _⟩ := J.look
  have sb : Sub X n X.A.in1.in1 := ⟨hr.in1.in1, rfl⟩
  refine PySem.W.kso_call sb.room.units0 I.kIn J hs hf (run_sub (vs := [V.ref a]) F sb hb hx I (.cons rfl .nil) q fun v u H' s' I' rv hq => ?_)
  obtain ⟨z, rfl, hq⟩ := hq
  obtain ⟨t, rfl⟩ := rv
  exact ⟨.str z, H', I', ⟨t, rfl⟩, hq⟩
/-- x == y, two instances of the class -/
theorem op_eqOwn (F : FnOk X.prog X.w X.K X.mg X.base CX n f fd ps sp) (hs : PySem.W.findIn X.K (.ref C) "__eq__" = some (some (.ref f))) (hf : PySem.W.isFn X.K (.ref f) = true) (hr : Room n X.A) (hb : Binds X.K fd ps []) (hx : Passes CX X E0) :
    OpR X (compareOp .Eq) (fun x y H Q => ∃ (a b dx dy : Addr) (fs gs : List (Str × V)), x = .ref a ∧ y = .ref b ∧ H a = some (.ins C dx fs) ∧ H b = some (.ins C dy gs) ∧ sp [.ref a, .ref b] H (fun v H' => ∃ z, v = .bl z ∧ Q (.bl z) H') E0) := by
  intro pins s σ H x y v u Q I rx ry h
  obtain ⟨a, b, dx, dy, fs, gs, rfl, rfl, ha, hb2, q⟩ := h
  cases rx
  cases ry
  obtain ⟨mA, J, _⟩ := ins_get I.hok ha
  obtain ⟨mB, J', _⟩ := ins_get I.hok hb2
  obtain ⟨od, J, _⟩ := J.look
  obtain ⟨od', J', _⟩ := J'.look
  obtain ⟨m, hF⟩ := I.fr
  have sb : Sub X n X.A := ⟨hr, rfl⟩
  show wpAny (model X.prog X.w) X.A (richCompare .Eq (.ref a) (.ref b)) (EP X pins σ Q) X.xe s
  refine PySem.W.cmp_K (op := .Eq) (tb := .ref C) sb.room.units0 hF I.ok.mod.kin J J'.type (by simp [PySem.W.notFirst]) hs hf (run_sub (vs := [V.ref a, V.ref b]) F sb hb hx I (.cons rfl (.cons rfl .nil)) q fun v u H' s' I' rv hq => ?_)
  obtain ⟨z, rfl, hq⟩ := hq
  cases rv
  exact ⟨.bl z, H', I', rfl, hq⟩
/-- x + y, two instances of the class, by its __add__ -/
theorem op_addOwn (F : FnOk X.prog X.w X.K X.mg X.base CX n f fd ps sp) (hs : PySem.W.findIn X.K (.ref C) "__add__" = some (some (.ref f))) (hc : PySem.W.selfFirst X.K C = true) (hf : PySem.W.isFn X.K (.ref f) = true) (hr : Room n X.A) (hb : Binds X.K fd ps []) (hx : Passes CX X E0) :
    OpR X (binaryOp .Add) (fun x y H Q => ∃ (a b dx dy : Addr) (fs gs : List (Str × V)), x = .ref a ∧ y = .ref b ∧ H a = some (.ins C dx fs) ∧ H b = some (.ins C dy gs) ∧ sp [.ref a, .ref b] H (fun v H' => ∃ c, v = .ref c ∧ Q (.ref c) H') E0) := by
  intro pins s σ H x y v u Q I rx ry h
  obtain ⟨a, b, dx, dy, fs, gs, rfl, rfl, ha, hb2, q⟩ := h
  cases rx
  cases ry
  obtain ⟨mA, J, _⟩ := ins_get I.hok ha
  obtain ⟨mB, J', _⟩ := ins_get I.hok hb2
  obtain ⟨od, J, _⟩ := J.look
  obtain ⟨od', J', _⟩ := J'.look
  obtain ⟨m, hF⟩ := I.fr
  have sb : Sub X n X.A := ⟨hr, rfl⟩
  refine PySem.W.binop_K (op := .Add) hF I.ok.mod.kin J J'.type hc hs hf (run_sub (vs := [V.ref a, V.ref b]) F sb hb hx I (.cons rfl (.cons rfl .nil)) q fun v u H' s' I' rv hq => ?_)
  obtain ⟨c, rfl, hq⟩ := hq
  cases rv
  exact ⟨.ref c, H', I', rfl, hq⟩
end
section
variable {prog : Program} {w : World} {A : Around} {E : Value → Shared → Prop} {s : Shared} {K : PySem.W.Frag} {x C f : Addr} {ox : Obj} {od : Option Obj} {b : Value}
theorem check_slot_K {M : Model} {id owner n : String} {rest : List Value} {Q : Unit → Shared → Prop} (hk : builtinKind id = some .slot) (hs : splitId id = some (owner, n))
    (ha : argsOk id ⟨.ref x :: rest, []⟩) (X : K.In s.heap) (I : PySem.W.InstAt s.heap x ox C od) (hm : PySem.W.mroIn K C (.type owner) = some true) (hq : Q () s) :
    wpAny M A (checkBuiltinCall id ⟨.ref x :: rest, []⟩) Q E s := by
  simp only [checkBuiltinCall, hk, hs]
  refine wpAny_bind ?_
  · unfold isInstance
    refine wpAny_bind (I.type.here ((PySem.W.looks_mroIn X hm).here ?_))
    rw [if_neg (by decide : ¬ (!true) = true)]
    cases hsig : Manifest.signature? id with
    | none => exact wpAny_pure hq
    | some sig =>
      simp only [argsOk, hsig] at ha
      have h2 : Bind.checkArgs id sig ⟨.ref x :: rest, []⟩ = pure () := ha
      show wpAny M A (Bind.checkArgs id sig ⟨.ref x :: rest, []⟩) Q E _
      rw [h2]
      exact wpAny_pure hq
theorem ne_entry {Q : PySem.Fin → Shared → Prop} (hu : A.units < cLine) (X : K.In s.heap) (I : PySem.W.InstAt s.heap x ox C od) (heq : PySem.W.findIn K (.ref C) "__eq__" = some (some (.ref f))) (hf : PySem.W.isFn K (.ref f) = true)
    (h : wpAny (model prog w) A (call (.ref f) [.ref x, b]) (fun v s' => ∃ z, v = .bool z ∧ Q (.done (.ret (.bool (!z)))) s') E s) : wpAny (model prog w) A (Builtin.«object.__ne__» ⟨[.ref x, b], []⟩) Q E s := by
  unfold Builtin.«object.__ne__»
  repeat (first | with_reducible refine wpAny_cRoomFor hu ?_ | (with_reducible refine PySem.W.ifBound_K X I heq hf (wpAny_mono h ?_ fun _ _ e => e)) | wp_step)
  rintro v s' ⟨z, rfl, q⟩
  repeat (first | wp_step)
  exact q
theorem ifBound_B {M : Model} {id : String} {name : Str} {args : List Value} {Q : Option Value → Shared → Prop} (S : ∀ v, bindSpecial (.builtin id) v = pure (.builtin id, [v])) (X : K.In s.heap) (I : PySem.W.InstAt s.heap x ox C od) (hs : PySem.W.findIn K (.ref C) name = some (some (.builtin id)))
    (h : wpAny M A (call (.builtin id) (.ref x :: args)) (fun v => Q (some v)) E s) : wpAny M A (callSpecialIfBound? (.ref x) name args) Q E s := by
  simp only [callSpecialIfBound?, bindSpecialIfBound?]
  refine wpAny_holding (wpAny_bind (wpAny_bind (wpAny_bind (I.type.here ((PySem.W.looks_findIn X hs).here ?_)))))
  simp only [S]
  refine wpAny_bind (wpAny_askSetting (wpAny_ite ?_))
  have fin : wpAny M A (call (.builtin id) ([.ref x] ++ args) >>= fun v => pure (some v)) Q E s := wpAny_bind (wpAny_mono h (fun v s' h' => wpAny_pure h') fun _ _ h' => h')
  split
  · exact wpAny_bind (wpAny_pure (wpAny_pure (by exact fin)))
  · exact wpAny_tryCatch (wpAny_bind (wpAny_pure (wpAny_pure (by exact fin))))
theorem ne_own {Q : Value → Shared → Prop} (hu : A.units + 1 < cLine) (X : K.In s.heap) (I : PySem.W.InstAt s.heap x ox C od) (hb : PySem.W.Looks (model prog w) s.heap (typeOf b) (.ref C)) (hne : PySem.W.findIn K (.ref C) "__ne__" = some (some (.builtin "object.__ne__")))
    (heq : PySem.W.findIn K (.ref C) "__eq__" = some (some (.ref f))) (hf : PySem.W.isFn K (.ref f) = true) (hm : PySem.W.mroIn K C (.type "object") = some true)
    (h : wpAny (model prog w) A.in1 (call (.ref f) [.ref x, b]) (fun v s' => ∃ z, v = .bool z ∧ Q (.bool (!z)) s') E s) : wpAny (model prog w) A (richCompare .NotEq (.ref x) b) Q E s := by
  have one : wpAny (model prog w) A (tryCompare (.ref x) "__ne__" b) (fun r s' => ∃ v, r = some v ∧ Q v s') E s := by
    unfold tryCompare
    refine wpAny_bind (ifBound_B F.cmp_object.ne.bind X I hne (wpAny_call (codeAny_call_builtin F.cmp_object.ne.plain F.cmpEntry_ne (check_slot_K F.cmpKind_ne F.cmpSplit_ne (F.cmpArgs_ne _ _) X I hm (ne_entry (A := A.in1) hu X I heq hf ?_)))))
    refine wpAny_mono h (fun v s' hv => ?_) fun _ _ e => e
    obtain ⟨z, rfl, q⟩ := hv
    exact ⟨z, rfl, wpAny_pure ⟨_, rfl, q⟩⟩
  unfold richCompare
  simp only [oneThing_ref]
  refine wpAny_holding (wpAny_bind (wpAny_cRoomFor (Nat.lt_of_succ_lt hu) ?_))
  refine wpAny_bind (I.type.here (wpAny_bind (hb.here ?_)))
  rw [if_neg (by simp)]
  refine wpAny_bind (wpAny_pure ?_)
  simp only [Bool.false_eq_true, if_false]
  refine wpAny_bind (wpAny_mono one (fun r s' z => ?_) fun _ _ e => e)
  obtain ⟨v, rfl, hq⟩ := z
  exact wpAny_pure hq
end
section
variable {X : Cx} {CX : CXT} {C f : Addr} {n : Nat} {fd : FuncData} {ps : List Str} {sp : Sp}
/-- x != y, two instances of the class, by its __eq__ -/
theorem op_neOwn (F : FnOk X.prog X.w X.K X.mg X.base CX n f fd ps sp) (hs : PySem.W.findIn X.K (.ref C) "__eq__" = some (some (.ref f))) (hne : PySem.W.findIn X.K (.ref C) "__ne__" = some (some (.builtin "object.__ne__"))) (hm : PySem.W.mroIn X.K C (.type "object") = some true)
    (hf : PySem.W.isFn X.K (.ref f) = true) (hr : Room (n + 1) X.A) (hb : Binds X.K fd ps []) (hx : Passes CX X E0) :
    OpR X (compareOp .NotEq) (fun x y H Q => ∃ (a b dx dy : Addr) (fs gs : List (Str × V)), x = .ref a ∧ y = .ref b ∧ H a = some (.ins C dx fs) ∧ H b = some (.ins C dy gs) ∧ sp [.ref a, .ref b] H (fun v H' => ∃ z, v = .bl z ∧ Q (.bl (!z)) H') E0) := by
  intro pins s σ H x y v u Q I rx ry h
  obtain ⟨a, b, dx, dy, fs, gs, rfl, rfl, ha, hb2, q⟩ := h
  cases rx
  cases ry
  obtain ⟨mA, J, _⟩ := ins_get I.hok ha
  obtain ⟨mB, J', _⟩ := ins_get I.hok hb2
  obtain ⟨od, J, _⟩ := J.look
  obtain ⟨od', J', _⟩ := J'.look
  have sb : Sub X n X.A.in1 := ⟨hr.in1, rfl⟩
  show wpAny (model X.prog X.w) X.A (richCompare .NotEq (.ref a) (.ref b)) (EP X pins σ Q) X.xe s
  refine ne_own sb.room.units0 I.kIn J J'.type hne hs hf hm (run_sub (vs := [V.ref a, V.ref b]) F sb hb hx I (.cons rfl (.cons rfl .nil)) q fun v u H' s' I' rv hq => ?_)
  obtain ⟨z, rfl, hq⟩ := hq
  cases rv
  exact ⟨z, rfl, .bl (!z), H', I', rfl, hq⟩
/-- len(x) by its __len__ -/
theorem call_lenOwn (F : FnOk X.prog X.w X.K X.mg X.base CX n f fd ps sp) (hs : PySem.W.findIn X.K (.ref C) "__len__" = some (some (.ref f))) (hf : PySem.W.isFn X.K (.ref f) = true) (hr : Room (n + 1) X.A) (hb : Binds X.K fd ps []) (hx : Passes CX X E0) :
    CallR X (.builtin "len") (fun xs H Q => ∃ (a dx : Addr) (fs : List (Str × V)), xs = [.ref a] ∧ H a = some (.ins C dx fs) ∧ sp [.ref a] H (fun v H' => ∃ k : Int, v = .int k ∧ 0 ≤ k ∧ k < 2 ^ 63 ∧ Q (.int k) H') E0) := by
  intro pins s σ H xs us Q I r h
  obtain ⟨a, dx, fs, rfl, ha, q⟩ := h
  obtain ⟨u, rfl, ru⟩ := vals1 r
  cases ru
  obtain ⟨mA, J, _⟩ := ins_get I.hok ha
  obtain ⟨od, J, _⟩ := J.look
  obtain ⟨m, hF⟩ := I.fr
  have sb : Sub X n X.A.in1 := ⟨hr.in1, rfl⟩
  refine PySem.W.len_K hF I.ok.mod.kin J hs hf (run_sub (vs := [V.ref a]) F sb hb hx I (.cons rfl .nil) q fun v u H' s' I' rv hq => ?_)
  obtain ⟨k, rfl, k0, k1, hq⟩ := hq
  obtain ⟨t, rfl⟩ := rv
  exact ⟨⟨k0, k1⟩, .int k, H', I'.tok _, ⟨_, rfl⟩, hq⟩
end
end Lay
set_option Elab.async false
set_option linter.all false
set_option maxRecDepth 100000
set_option maxHeartbeats 4000000
/-! x += y by __add__; sequences of the same objects compared. -/
namespace Lay
open PySem PySem.Spec PyProof.Rows L2
theorem refs_eq : ∀ {xs : List V} {as bs : List Value}, (∀ v ∈ xs, ∃ p, v = V.ref p) → Vals xs as → Vals xs bs → as = bs
  | [], _, _, _, ra, rb => by
    cases ra
    cases rb
    rfl
  | x :: xs, _, _, h, ra, rb => by
    obtain ⟨p, rfl⟩ := h x List.mem_cons_self
    cases ra with
    | cons r1 ra =>
      cases rb with
      | cons r2 rb =>
        cases r1
        cases r2
        rw [refs_eq (fun v hv => h v (List.mem_cons_of_mem _ hv)) ra rb]
section
variable {X : Cx}
theorem op_neSameT (hu : X.A.units + 64 < cLine) : OpR X (compareOp .NotEq) (fun x y H Q => ∃ a b xs, x = .ref a ∧ y = .ref b ∧ SqT X.K H a xs ∧ SqT X.K H b xs ∧ (∀ v ∈ xs, ∃ p, v = V.ref p) ∧ Q (.bl false) H) := by
  intro pins s σ H x y v u Q I rx ry h
  obtain ⟨a, b, xs, rfl, rfl, ha, hb, hr, q⟩ := h
  cases rx
  cases ry
  obtain ⟨its, r, p1, _⟩ := I.tuple ha
  obtain ⟨its2, r2, p2, _⟩ := I.tuple hb
  obtain rfl := refs_eq hr r r2
  refine SeqAt.RcNeAt.tuples (A := X.A) (e := fun _ => true) p1 p2 (by omega) (fun j h1 h2 => SeqAt.EqAt.same _) X.prog X.w X.xe (EP X pins σ Q) ?_
  have : (!((List.range (min its.toArray.size its.toArray.size)).all (fun _ => true) && its.toArray.size == its.toArray.size)) = false := by simp
  rw [this]
  exact ⟨.bl false, H, I, rfl, q⟩
theorem op_eqSameT (hu : X.A.units + 64 < cLine) : OpR X (compareOp .Eq) (fun x y H Q => ∃ a b xs, x = .ref a ∧ y = .ref b ∧ SqT X.K H a xs ∧ SqT X.K H b xs ∧ (∀ v ∈ xs, ∃ p, v = V.ref p) ∧ Q (.bl true) H) := by
  intro pins s σ H x y v u Q I rx ry h
  obtain ⟨a, b, xs, rfl, rfl, ha, hb, hr, q⟩ := h
  cases rx
  cases ry
  obtain ⟨its, r, p1, _⟩ := I.tuple ha
  obtain ⟨its2, r2, p2, _⟩ := I.tuple hb
  obtain rfl := refs_eq hr r r2
  refine SeqAt.RcAt.tuples (A := X.A) (e := fun _ => true) p1 p2 (by omega) (fun j h1 h2 => SeqAt.EqAt.same _) X.prog X.w X.xe (EP X pins σ Q) ?_
  have : ((List.range (min its.toArray.size its.toArray.size)).all (fun _ => true) && its.toArray.size == its.toArray.size) = true := by simp
  rw [this]
  exact ⟨.bl true, H, I, rfl, q⟩
theorem op_neSameL (hu : X.A.units + 64 < cLine) : OpR X (compareOp .NotEq) (fun x y H Q => ∃ a b xs, x = .ref a ∧ y = .ref b ∧ SqL X.K H a xs ∧ SqL X.K H b xs ∧ (∀ v ∈ xs, ∃ p, v = V.ref p) ∧ Q (.bl false) H) := by
  intro pins s σ H x y v u Q I rx ry h
  obtain ⟨a, b, xs, rfl, rfl, ha, hb, hr, q⟩ := h
  cases rx
  cases ry
  obtain ⟨its, r, p1, _⟩ := I.list ha
  obtain ⟨its2, r2, p2, _⟩ := I.list hb
  obtain rfl := refs_eq hr r r2
  refine SeqAt.RcNeAt.lists (A := X.A) (e := fun _ => true) p1.isList p2.isList rfl (by omega) (fun j h1 h2 => SeqAt.EqAt.same _) X.prog X.w X.xe (EP X pins σ Q) ?_
  have : (!((List.range its.toArray.size).all (fun _ => true))) = false := by simp
  rw [this]
  exact ⟨.bl false, H, I, rfl, q⟩
end
section
variable {prog : Program} {w : World} {A : Around} {E : Value → Shared → Prop} {s : Shared} {K : PySem.W.Frag} {x C L f : Addr} {h₀ : Heap} {m : Str → Option Value} {ox : Obj} {od : Option Obj}
theorem fillsI_K {M : Model} {h : Heap} {cd : ClassData} {nm : String} {b : Bool} (X : K.In h) (hc : PySem.W.clsIn K C = some cd) (hm : cd.mro = [.ref C, .type "object"]) (h1 : PySem.W.findIn K (.ref C) (PySem.dunderI nm) = some none)
    (h2 : PySem.W.findIn K (.type "object") (PySem.dunderI nm) = some none) : PySem.W.Looks M h (fillsInplaceSlot (.ref C) nm b) false := by
  intro A Q E s k q
  unfold fillsInplaceSlot
  refine wpAny_bind ((PySem.W.looks_clsIn X hc).andThen (f := fun cd => pure cd.mro) .now A _ E s k ?_)
  rw [hm, List.anyM_cons]
  refine wpAny_bind (wpAny_bind (PySem.W.looks_findIn X h1 A _ E s k ?_))
  refine wpAny_pure ?_
  rw [if_neg Bool.false_ne_true, List.anyM_cons]
  refine wpAny_bind (wpAny_bind (PySem.W.looks_findIn X h2 A _ E s k ?_))
  refine wpAny_pure ?_
  rw [if_neg Bool.false_ne_true]
  exact wpAny_pure q
theorem iop_K {op : Operator} {b : Value} {cd : ClassData} {Q : Value → Shared → Prop} (F : PyProof.Rows.Fr h₀ L s.heap m) (X₀ : K.In h₀) (I : PySem.W.InstAt s.heap x ox C od) (hb : PySem.W.Looks (model prog w) s.heap (typeOf b) (.ref C)) (hcd : PySem.W.clsIn K C = some cd) (hm : cd.mro = [.ref C, .type "object"])
    (h1 : PySem.W.findIn K (.ref C) (PySem.dunderI op.info.2) = some none) (h2 : PySem.W.findIn K (.type "object") (PySem.dunderI op.info.2) = some none)
    (hs : PySem.W.findIn K (.ref C) (PySem.dunder op.info.2) = some (some (.ref f))) (hf : PySem.W.isFn K (.ref f) = true)
    (h : wpAny (model prog w) A (call (.ref f) [.ref x, b]) (PySem.W.CmpBack Q) E s) : wpAny (model prog w) A (inplaceOp op (.ref x) b) Q E s := by
  have X := X₀.keeps F.keep
  unfold inplaceOp
  refine wpAny_holding (wpAny_bind (I.type.here (wpAny_bind ((fillsI_K X hcd hm h1 h2).here ?_))))
  simp only [Bool.false_eq_true, if_false]
  refine wpAny_bind ?_
  unfold binaryOp1
  refine wpAny_bind (I.type.here (wpAny_bind (hb.here (wpAny_bind ((PySem.W.fills_K X hcd hm hs).here ?_)))))
  simp only [beq_self_eq_true, if_true]
  refine wpAny_bind (wpAny_pure ?_)
  simp only [Bool.and_false, Bool.false_eq_true, if_false, Bool.false_and]
  refine wpAny_bind (wpAny_pure ?_)
  simp only [Bool.false_eq_true, if_false]
  refine wpAny_bind (m := tryMethod (.ref x) _ b) ?_
  unfold tryMethod
  refine wpAny_bind (PySem.W.special_fn X I hs (beq_iff_eq.mp hf) (wpAny_mono h (fun v s' hv => ?_) fun _ _ e => e))
  cases v <;> first | exact hv.elim | exact wpAny_pure (wpAny_pure (wpAny_pure hv))
end
section
variable {X : Cx} {CX : CXT} {C f : Addr} {n : Nat} {fd : FuncData} {ps : List Str} {sp : Sp}
/-- x += y, two instances of the class, by its __add__ -/
theorem ip_addOwn {cd : ClassData} (F : FnOk X.prog X.w X.K X.mg X.base CX n f fd ps sp) (hs : PySem.W.findIn X.K (.ref C) "__add__" = some (some (.ref f))) (hcd : PySem.W.clsIn X.K C = some cd) (hm : cd.mro = [.ref C, .type "object"]) (h1 : PySem.W.findIn X.K (.ref C) "__iadd__" = some none)
    (h2 : PySem.W.findIn X.K (.type "object") "__iadd__" = some none) (hf : PySem.W.isFn X.K (.ref f) = true) (hr : Room n X.A) (hb : Binds X.K fd ps []) (hx : Passes CX X E0) :
    PIp X .Add (fun x y H Q => ∃ (a b dx dy : Addr) (fs gs : List (Str × V)), x = .ref a ∧ y = .ref b ∧ H a = some (.ins C dx fs) ∧ H b = some (.ins C dy gs) ∧ sp [.ref a, .ref b] H (fun v H' => ∃ c, v = .ref c ∧ Q (.ref c) H') E0) := by
  intro pins s σ H x y v u Q I rx ry h
  obtain ⟨a, b, dx, dy, fs, gs, rfl, rfl, ha, hb2, q⟩ := h
  cases rx
  cases ry
  obtain ⟨mA, J, _⟩ := ins_get I.hok ha
  obtain ⟨mB, J', _⟩ := ins_get I.hok hb2
  obtain ⟨od, J, _⟩ := J.look
  obtain ⟨od', J', _⟩ := J'.look
  obtain ⟨m, hF⟩ := I.fr
  have sb : Sub X n X.A := ⟨hr, rfl⟩
  refine iop_K (op := .Add) hF I.ok.mod.kin J J'.type hcd hm h1 h2 hs hf (run_sub (vs := [V.ref a, V.ref b]) F sb hb hx I (.cons rfl (.cons rfl .nil)) q fun v u H' s' I' rv hq => ?_)
  obtain ⟨c, rfl, hq⟩ := hq
  cases rv
  exact ⟨.ref c, H', I', rfl, hq⟩
end
end Lay
set_option Elab.async false
set_option linter.all false
set_option maxRecDepth 100000
set_option maxHeartbeats 4000000
set_option pp.maxSteps 1000
namespace Lay
open PySem PySem.Spec PyProof.Rows L2
abbrev sTail : Stmt := top 17
abbrev sBody : Stmt := top 18
abbrev sRowsOf : Stmt := top 19
section
variable {P : Program} {w : World} {K : PySem.W.Frag} {mg : Str → Option Value} {base : Heap}
theorem scTail : FnScope ["piece"] ["piece"] (defScope sTail) := ⟨rfl, rfl, rfl, by decide +kernel, rfl, by decide +kernel, by decide +kernel⟩
theorem ok_tail {f C : Addr} {fd : FuncData} (F : Fun K "tail_of" "tail_of" sTail f fd) (Z : PieceC K C) : FnOk P w K mg base CX0 1 f fd ["piece"] (spText K C tailS) := by
  refine F.ok scTail (fun vs H Q E h => ?_) (fun cdv A outer s H vs Q E hr h => ?_)
  · obtain ⟨p, d, rfl, _⟩ := h
    rfl
  · obtain ⟨p, d, rfl, ⟨dx, t, hp, ht⟩, o, few, k⟩ := h
    refine ⟨_, pss_one (ps_ret (pe_ifExp (pt_truth (pe_fld (pv 0) rfl) (by intro _; rfl)) (pe_joined (.cons pe_str (.cons (pe_fmt (pe_fld (pv 0) rfl)) .nil))) pe_str)), ?_⟩
    have h1 := remarkB_len o.behind
    have h3 : (Str.ofString ")  # ").length = 5 := by decide
    have h4 : Str.empty.length = 0 := by decide
    refine ⟨_, rfl, p, C, dx, _, _, rfl, hp, Z.cl, Z.behind, rfl, _, ⟨fitsN (by omega), rfl⟩, ?_⟩
    by_cases q : d.behind.length = 0
    · refine iteN (by rw [q]; rfl) ?_
      have e : tailS d = Str.ofString ")" := by
        unfold tailS
        rw [if_pos q]
      rw [e] at k
      exact k
    · refine iteY (by simp; omega) ?_
      have e : tailS d = (Str.empty ++ Str.ofString ")  # ") ++ d.behind := by
        unfold tailS
        rw [if_neg q]
      rw [e] at k
      exact ⟨_, rfl, fitsN (by rw [Str.length_append]; omega), _, rfl, p, C, dx, _, _, rfl, hp, Z.cl, Z.behind, rfl, .inl ⟨_, rfl, fitsN (by omega), _, rfl, fitsN (by rw [Str.length_append, Str.length_append]; omega), k⟩⟩
end
end Lay
set_option Elab.async false
set_option linter.all false
set_option maxRecDepth 100000
set_option maxHeartbeats 4000000
set_option pp.maxSteps 1000
namespace Lay
open PySem PySem.Spec PyProof.Rows L2
def tJoin (ts : List TE) : TE := fun σ H Q => tJs ts Str.empty σ H fun out H1 => Q (.str out) H1
theorem pe_joinedN {X : Cx} {v1 v2 : Expr} {rest : List Expr} {ts : List TE} {pos : Pos} (h : PJ X (v1 :: v2 :: rest) ts) : PE X (.JoinedStr (v1 :: v2 :: rest) pos) (tJoin ts) := pe_joined h
theorem cut_last (xs : List V) : cutV xs none (some (-1)) = xs.dropLast := by
  unfold cutV
  have e : HT.sIx xs.length xs.length (some (-1)) = xs.length - 1 := by
    show (if (-1 : Int) < 0 then ((-1 : Int) + (xs.length : Int)).toNat else min (-1 : Int).toNat xs.length) = _
    rw [if_pos (by decide)]
    omega
  rw [HT.sIx_none, e, List.drop_zero, Nat.sub_zero, List.dropLast_eq_take]
theorem at_last {zs : List Str} (h : 0 < zs.length) : atI (zs.map V.str) (-1) = some (.str (zs.getLastD Str.empty)) := by
  have e : ixN (zs.map V.str).length (-1) = some (zs.length - 1) := by
    unfold ixN
    rw [List.length_map, if_neg (by decide), if_pos (by omega)]
    congr 1
    omega
  unfold atI
  rw [e]
  show (zs.map V.str)[zs.length - 1]? = _
  rw [List.getElem?_map, List.getLastD_eq_getLast?, List.getLast?_eq_getElem?]
  have hl : zs.length - 1 < zs.length := by omega
  rw [List.getElem?_eq_getElem hl]
  rfl
theorem rowsOf_len {d : PD} (o : d.Ok) (l : d.parts.length ≤ 30) : (bodyS d).length ≤ 40 := by
  unfold bodyS
  split
  · rw [List.length_cons, List.length_append, List.length_map, List.length_dropLast]
    show _ + 2 + 1 ≤ 40
    omega
  · show 1 ≤ 40
    decide
section
variable {P : Program} {w : World} {K : PySem.W.Frag} {mg : Str → Option Value} {base : Heap}
theorem scBody : FnScope ["piece", "comma", "upper", "last", "part"] ["piece"] (defScope sBody) := ⟨rfl, rfl, rfl, by decide +kernel, rfl, by decide +kernel, by decide +kernel⟩
theorem ok_body {f fH fT C : Addr} {fd dH dT : FuncData} (F : Fun K "body_rows" "body_rows" sBody f fd) (Z : PieceC K C)
    (GH : FnOk P w K mg base CX0 1 fH dH ["piece"] (spText K C headS)) (gH : mg "head_of" = some (.ref fH)) (kH : PySem.W.keepIn K (.ref fH) = true) (bH : Binds K dH ["piece"] [])
    (GT : FnOk P w K mg base CX0 1 fT dT ["piece"] (spText K C tailS)) (gT : mg "tail_of" = some (.ref fT)) (kT : PySem.W.keepIn K (.ref fT) = true) (bT : Binds K dT ["piece"] []) : FnOk P w K mg base CX0 2 f fd ["piece"] (spRowsOf K C bodyS) := by
  refine F.ok scBody (fun vs H Q E h => ?_) (fun cdv A outer s H vs Q E hr h => ?_)
  · obtain ⟨p, d, rfl, _⟩ := h
    rfl
  · obtain ⟨p, d, rfl, hP, o, few, k⟩ := h
    refine ⟨_, (C8.pss_cut (ps_set (i := 1) scBody.nd rfl (.inl rfl) (pe_ifExp (pt_val (pe_fld (pv 0) rfl)) pe_str pe_str))
      (pss_cons (ps_if (pt_not (pt_val (pe_fld (pv 0) rfl)))
        (pss_one (ps_ret (pe_lst (pa_cons (pe_op op_add_str (pe_op op_add_str (pe_op op_add_str (pe_call GH hr (by rfl) gH kH bH .nil pass0 (pa_cons (pv 0) pa_nil)) (pe_bm PySem.F.plainAttrs_str PySem.F.slot_str_join PySem.F.type_str_join mt_join pe_str (pa_cons (pe_fld (pv 0) rfl) pa_nil))) (pv 1)) (pe_call GT hr (by rfl) gT kT bT .nil pass0 (pa_cons (pv 0) pa_nil))) pa_nil))))
        pss_nil)
      (pss_cons (ps_setLc (i := 2) (own := [("part", 4)]) (g := gName 4) (tt := tYes) rfl scBody.nd rfl rfl (sw_true rfl rfl rfl (by decide +kernel)) (pi_tup (pe_slice sl_tupS (pe_fld (pv 0) rfl) po_none (po_some (pe_un un_neg pe_int)))) (blkOk_by (N := ["piece", "comma", "upper", "last", "part"]) (sc := defScope sBody) (by decide +kernel))
          (fun _ _ _ _ _ => pg_name (i := 4) scBody.nd rfl (Or.inl rfl)) (fun _ _ _ _ _ => pts_nil) (fun _ _ _ _ _ => pe_joinedN (.cons pe_str (.cons (pe_fmt (pv 4)) (.cons pe_str .nil)))))
      (pss_cons (ps_set (i := 3) scBody.nd rfl (.inl rfl) (pe_joined (.cons pe_str (.cons (pe_fmt (pe_ix ix_tup (pe_fld (pv 0) rfl) (pe_un un_neg pe_int) (fun _ _ => rfl))) (.cons (pe_fmt (pv 1)) .nil)))))
      (pss_one (ps_ret (pe_lst (pa_cons (pe_call GH hr (by rfl) gH kH bH .nil pass0 (pa_cons (pv 0) pa_nil)) (StX.pa_star (pv 2) (pa_cons (pv 3) (pa_cons (pe_call GT hr (by rfl) gT kT bT .nil pass0 (pa_cons (pv 0) pa_nil)) pa_nil))))))))))), ?_⟩
    obtain ⟨dx, t, hp, ht⟩ := id hP
    refine ⟨fun σ G => σ = [some (.ref p), some (.str (commaS d)), none, none, none] ∧ G = H, ?_, ?_⟩
    · refine ⟨_, rfl, p, C, dx, _, _, rfl, hp, Z.cl, Z.marked, rfl, d.marked, rfl, ?_⟩
      by_cases q : d.marked = true
      · refine iteY q ⟨?_, rfl⟩
        unfold commaS
        rw [if_pos q]
        rfl
      · refine iteN (by simpa using q) ⟨?_, rfl⟩
        unfold commaS
        rw [if_neg q]
        rfl
    · rintro σ G ⟨rfl, rfl⟩
      refine ⟨_, rfl, p, C, dx, _, _, rfl, hp, Z.cl, Z.broken, rfl, d.broken, rfl, ?_⟩
      have hH := headS_len o
      have hT := tailS_len o
      have hC := commaS_len (d := d)
      have j1 : (Str.ofString ", ").length = 2 := by decide
      have j2 : (Str.ofString "  ").length = 2 := by decide
      have j3 : (Str.ofString ",").length = 1 := by decide
      have j4 : Str.empty.length = 0 := by decide
      have hsum := sum_few (n := 6) fun z hz => nameB_len (o.parts z hz)
      have hjoin := join_le ", " d.parts
      rw [j1] at hjoin
      by_cases q : d.broken = true
      · refine iteN (by rw [q]; rfl) ?_
        have eb : bodyS d = headS d :: ((d.parts.dropLast.map itemS) ++ [lastS d (d.parts.getLastD Str.empty), tailS d]) := by
          unfold bodyS
          rw [if_pos q]
        rw [eb] at k
        refine ⟨_, rfl, p, C, dx, _, _, rfl, hp, Z.cl, Z.parts, rfl, 1, rfl, -1, rfl, t, _, rfl, (SqT.of ht), fun u G1 s1 hu => ?_⟩
        rw [cut_last, ← List.map_dropLast] at hu
        have ld : d.parts.dropLast.length ≤ 30 := by rw [List.length_dropLast]; omega
        refine ⟨u, rfl, ⟨_, hu⟩, fun D nD => lc_tup (K := K) (a := u) (xs := d.parts.dropLast.map V.str) (fun i G' => Same G1 G' ∧ G' D = some (.lst ((d.parts.dropLast.take i).map fun z => V.str (itemS z))))
          ⟨Same.new nD, upd_same⟩ (fun i G' _ q => SqT.same q.1 hu) ?_ ?_⟩
        · rintro i x G' hi ⟨sG, hD⟩
          obtain ⟨z, hz, rfl⟩ : ∃ z, d.parts.dropLast[i]? = some z ∧ V.str z = x := by
            rw [List.getElem?_map] at hi
            cases e : d.parts.dropLast[i]? with
            | none => rw [e] at hi; cases hi
            | some y => rw [e] at hi; exact ⟨y, rfl, Option.some.inj hi⟩
          have lz := nameB_len (o.parts z (List.dropLast_subset _ (List.mem_of_getElem? hz)))
          refine ⟨rfl, _, rfl, fitsN (by rw [Str.length_append]; omega), _, rfl, .inl ⟨_, rfl, fitsN (by omega), _, rfl, fitsN (by rw [Str.length_append, Str.length_append]; omega), _, rfl, fitsN (by rw [Str.length_append, Str.length_append, Str.length_append]; omega), _, hD, ?_, fun c w e => ?_, ?_⟩⟩
          · rw [List.length_map, List.length_take]
            exact Nat.lt_of_le_of_lt (Nat.min_le_right _ _) (Nat.lt_of_le_of_lt ld (by rw [sizeLine_eq]; decide))
          · rw [upd_ne (ne_of_none e nD)]
            exact sG _ _ e
          · rw [upd_same, List.take_succ, hz, List.map_append]
            rfl
        · rintro G2 ⟨s2, hD⟩
          rw [List.length_map, List.take_length] at hD
          have s12 := s1.trans s2
          have hp2 := s12 _ _ hp
          have ht2 := SqT.same (K := K) s12 (SqT.of ht)
          have hP2 := hP.same s12
          have lz : (d.parts.getLastD Str.empty).length ≤ 6 := by
            obtain ⟨a, ha⟩ : ∃ a, d.parts.getLast? = some a := by
              cases e : d.parts with
              | nil => have := o.some; rw [e] at this; exact absurd this (by decide)
              | cons x xs => exact ⟨_, List.getLast?_cons⟩
            rw [List.getLastD_eq_getLast?, ha]
            exact nameB_len (o.parts a (List.mem_of_getLast? ha))
          refine ⟨_, rfl, fitsN (by rw [Str.length_append]; omega), _, rfl, p, C, dx, _, _, rfl, hp2, Z.cl, Z.parts, rfl, 1, rfl, t, _, -1, _, rfl, rfl, ht2, at_last o.some, .inl ⟨_, rfl, fitsN (by omega), _, rfl, fitsN (by rw [Str.length_append, Str.length_append]; omega), ?_⟩⟩
          refine ⟨_, rfl, .inl ⟨_, rfl, fitsN (by omega), _, rfl, fitsN (by rw [Str.length_append, Str.length_append, Str.length_append]; omega), _, rfl, p, d, rfl, hP2, o, few, _, rfl, D, _, rfl, .inr (SqL.of hD), _, rfl, _, rfl, p, d, rfl, hP2, o, few, ?_, fun l nl => ?_⟩⟩
          · refine fitsN ?_
            rw [List.length_cons, List.length_append, List.length_map]
            show _ + 2 + 1 ≤ 1000000
            omega
          · refine k l _ (s12.trans (Same.new nl)) (s12.free nl) ?_
            rw [upd_same]
            simp [lastS]
            rfl
      · refine iteY (by simpa using q) ?_
        have eb : bodyS d = [((headS d ++ Txt.join ", " d.parts) ++ commaS d) ++ tailS d] := by
          unfold bodyS
          rw [if_neg q]
        rw [eb] at k
        refine ⟨_, rfl, p, d, rfl, hP, o, few, rfl, _, rfl, p, C, dx, _, _, rfl, hp, Z.cl, Z.parts, rfl, _, t, d.parts, rfl, rfl, .inr (SqT.of ht), by rw [j1]; omega, _, _, rfl, rfl, fitsN (by omega), _, rfl, _, _, rfl, rfl, fitsN (by rw [Str.length_append]; omega), _, rfl, p, d, rfl, hP, o, few, _, _, rfl, rfl, fitsN (by rw [Str.length_append, Str.length_append]; omega), (by show 1 ≤ sizeLine; decide), fun l nl => ?_⟩
        exact k l _ (Same.new nl) nl upd_same
end
end Lay
set_option Elab.async false
set_option linter.all false
set_option maxRecDepth 100000
set_option maxHeartbeats 4000000
set_option pp.maxSteps 1000
namespace Lay
open PySem PySem.Spec PyProof.Rows L2
theorem flat_one {α : Type} (x : α) : ∀ n : Nat, (List.replicate n [x]).flatten = List.replicate n x
  | 0 => rfl
  | n + 1 => by
    show [x] ++ (List.replicate n [x]).flatten = _
    rw [flat_one x n]
    rfl
theorem rowsS_len {d : PD} (o : d.Ok) (l : d.parts.length ≤ 30) : (rowsS d).length ≤ 43 := by
  have h1 := rowsOf_len o l
  have h2 := o.b3
  have h3 : (remarkS d).length ≤ 1 := by
    unfold remarkS
    split
    · exact Nat.zero_le _
    · exact Nat.le_refl _
  unfold rowsS
  rw [List.length_append, List.length_append, List.length_replicate]
  omega
section
variable {P : Program} {w : World} {K : PySem.W.Frag} {mg : Str → Option Value} {base : Heap}
theorem scRowsOf : FnScope ["piece", "blank", "remark"] ["piece"] (defScope sRowsOf) := ⟨rfl, rfl, rfl, by decide +kernel, rfl, by decide +kernel, by decide +kernel⟩
theorem ok_rowsOf {f fB C : Addr} {fd dB : FuncData} (F : Fun K "rows_of" "rows_of" sRowsOf f fd) (Z : PieceC K C)
    (GB : FnOk P w K mg base CX0 2 fB dB ["piece"] (spRowsOf K C bodyS)) (gB : mg "body_rows" = some (.ref fB)) (kB : PySem.W.keepIn K (.ref fB) = true) (bB : Binds K dB ["piece"] []) : FnOk P w K mg base CX0 3 f fd ["piece"] (spRowsOf K C rowsS) := by
  refine F.ok scRowsOf (fun vs H Q E h => ?_) (fun cdv A outer s H vs Q E hr h => ?_)
  · obtain ⟨p, d, rfl, _⟩ := h
    rfl
  · obtain ⟨p, d, rfl, hP, o, few, k⟩ := h
    refine ⟨_, (pss_cons (ps_set (i := 1) scRowsOf.nd rfl (.inl rfl) (pe_op op_rep (pe_lst (pa_cons pe_str pa_nil)) (pe_fld (pv 0) rfl)))
      (C8.pss_cut (ps_set (i := 2) scRowsOf.nd rfl (.inl rfl) (pe_ifExp (pt_truth (pe_fld (pv 0) rfl) (by intro _; rfl)) (pe_lst (pa_cons (pe_joined (.cons pe_str (.cons (pe_fmt (pe_fld (pv 0) rfl)) .nil))) pa_nil)) (pe_lst pa_nil)))
      (pss_one (ps_ret (pe_lst (StX.pa_star (pv 1) (StX.pa_star (pv 2) (StX.pa_star (pe_call GB hr (by rfl) gB kB bB .nil pass0 (pa_cons (pv 0) pa_nil)) pa_nil)))))))), ?_⟩
    obtain ⟨dx, t, hp, ht⟩ := id hP
    have j2 : (Str.ofString "# ").length = 2 := by decide
    have j4 : Str.empty.length = 0 := by decide
    have la := remarkB_len o.ahead
    have b0 := o.b0
    have b3 := o.b3
    refine ⟨(by show 1 ≤ sizeLine; decide), fun l0 n0 => ?_⟩
    have s0 := Same.new n0 (o := .lst [.str ""])
    refine ⟨_, rfl, p, C, dx, _, _, rfl, s0 _ _ hp, Z.cl, Z.blanks, rfl, l0, d.blanks, _, rfl, rfl, upd_same, by omega, by omega, fitsN (by show 1 * d.blanks.toNat ≤ 1000000; omega), fun l1 n1 => ?_⟩
    rw [flat_one]
    have s1 := Same.new n1 (o := .lst (List.replicate d.blanks.toNat (V.str "")))
    have h1 : upd (upd H l0 (.lst [.str ""])) l1 (.lst (List.replicate d.blanks.toNat (V.str ""))) l1 = some (.lst (List.replicate d.blanks.toNat (V.str ""))) := upd_same
    have s01 := s0.trans s1
    generalize upd (upd H l0 (.lst [.str ""])) l1 (.lst (List.replicate d.blanks.toNat (V.str ""))) = G at *
    refine ⟨fun σ G' => ∃ l2, σ = [some (.ref p), some (.ref l1), some (.ref l2)] ∧ Same G G' ∧ G' l2 = some (.lst ((remarkS d).map V.str)), ?_, ?_⟩
    · refine ⟨_, rfl, p, C, dx, _, _, rfl, s01 _ _ hp, Z.cl, Z.ahead, rfl, _, ⟨fitsN (by omega), rfl⟩, ?_⟩
      by_cases q : d.ahead.length = 0
      · refine iteN (by rw [q]; rfl) ⟨Nat.zero_le _, fun l2 n2 => ⟨l2, rfl, Same.new n2, ?_⟩⟩
        unfold remarkS
        rw [if_pos q]
        exact upd_same
      · refine iteY (by simp; omega) ?_
        refine ⟨_, rfl, fitsN (by rw [Str.length_append]; omega), _, rfl, p, C, dx, _, _, rfl, s01 _ _ hp, Z.cl, Z.ahead, rfl, .inl ⟨_, rfl, fitsN (by omega), _, rfl, fitsN (by rw [Str.length_append, Str.length_append]; omega), ⟨(by show 1 ≤ sizeLine; decide), fun l2 n2 => ⟨l2, rfl, Same.new n2, ?_⟩⟩⟩⟩
        unfold remarkS
        rw [if_neg q]
        exact upd_same
    · rintro σ G' ⟨l2, rfl, s2, h2⟩
      have s02 := s01.trans s2
      refine ⟨_, rfl, l1, _, rfl, .inr (SqL.of (s2 _ _ h1)), _, rfl, l2, _, rfl, .inr (SqL.of h2), _, rfl, p, d, rfl, hP.same s02, o, few, fun l3 G3 s3 n3 h3 => ⟨l3, _, rfl, .inr (SqL.of h3), ?_, fun l4 n4 => ?_⟩⟩
      · have hh := rowsS_len o few
        unfold rowsS at hh
        refine fitsN ?_
        rw [List.append_nil, List.length_append, List.length_append, List.length_replicate, List.length_map, List.length_map]
        rw [List.length_append, List.length_append, List.length_replicate] at hh
        omega
      · refine k l4 _ ((s02.trans s3).trans (Same.new n4)) ((s02.trans s3).free n4) ?_
        rw [upd_same]
        unfold rowsS
        rw [List.map_append, List.map_append, List.map_replicate, List.append_nil]
end
end Lay
set_option Elab.async false
set_option linter.all false
set_option maxRecDepth 100000
set_option maxHeartbeats 4000000
/-! enumerate over a tuple. -/
namespace Lay
open PySem PySem.Spec PyProof.Rows L2
open AutoSeq1 (wpAny_loadPart')
abbrev tupIt (t : Addr) : Obj := { cls := .type "tuple_iterator", data := .fields #[.ref t, .int 0 0] }
abbrev enumOf (it : Addr) : Obj := { cls := .type "enumerate", data := .fields #[.none, .bool false, .ref it, rawInt 0, .none, .none] }
theorem ent_new (t : Addr) (items : Array Value) : Meets (Builtin.«enumerate.__new__» ⟨[.type "enumerate", .ref t], []⟩)
    (fun _ R s => s.heap.IsTuple t items ∧ R (.ok (.ret (.ref (s.heap.push (tupIt t)).objs.size))) { s with heap := (s.heap.push (tupIt t)).push (enumOf s.heap.objs.size) }) :=
  .of_wp fun prog w A R s h => by
    obtain ⟨hp, g, d, tk, os⟩ := s
    obtain ⟨ht, h⟩ := h
    have hsub := sub_enumerate
    have hT : Heap.IsTuple (Shared.heap ⟨hp, g, d, tk, os⟩) t items := ht
    obtain ⟨o, ho, _⟩ := id ht
    wp_walk using wpAny_loadPart' ho
    refine wpAny_stack_any fun st => wpAny_pure ?_
    split
    · rename_i c _ _ _ _ _
      cases (c == Value.type "enumerate") <;> (wp_walk using wpAny_loadPart' ho, wpAny_pyIter_tuple hT; exact ⟨_, rfl, h⟩)
    · wp_walk using wpAny_loadPart' ho, wpAny_pyIter_tuple hT
      exact ⟨_, rfl, h⟩
theorem ent_call {prog : Program} {w : World} {A : Around} {E : Value → Shared → Prop} {s : Shared} {t : Addr} {items : Array Value} {Q : Value → Shared → Prop} (hT : s.heap.IsTuple t items)
    (h : ∀ h', IsEnum h' (s.heap.objs.size + 1) s.heap.objs.size 0 .none → h'.IsTupleIter s.heap.objs.size t 0 → (∀ b o, s.heap.get? b = some o → h'.get? b = some o) → Q (.ref (s.heap.objs.size + 1)) { s with heap := h' }) :
    wpAny (model prog w) A (call (.type "enumerate") [.ref t]) Q E s := by
  refine callType_new F.called_enumerate (by decide) (F.typeCall_enumerate_1 _) (F.newCall_enumerate_1 _) (fun obj => F.args_object_init_2 obj _) F.entry_enumerate_new (ent_new t items) ⟨hT, ?_⟩
  have hz : (s.heap.push (tupIt t)).objs.size = s.heap.objs.size + 1 := Heap.size_push ..
  show _ ∧ _
  rw [hz]
  have he : IsEnum ((s.heap.push (tupIt t)).push (enumOf s.heap.objs.size)) (s.heap.objs.size + 1) s.heap.objs.size 0 .none := by
    have y := Heap.get?_push_size (s.heap.push (tupIt t)) (o := enumOf s.heap.objs.size) rfl
    rw [hz] at y
    exact y
  exact ⟨⟨_, he, rfl⟩, h _ he ⟨_, Heap.get?_push_of_some _ (Heap.get?_push_size _ rfl), rfl, rfl⟩ fun b o x => Heap.get?_push_of_some _ (Heap.get?_push_of_some _ x)⟩
/-- the tuple at a, each item in a new pair -/
def IteT (K : PySem.W.Frag) (a : Addr) : It :=
  ⟨fun i H => ∃ (xs : List V) (x : V), SqT K H a xs ∧ xs[i]? = some x, fun i H v H' => ∃ T x, v = .ref T ∧ H T = none ∧ H' = upd H T (.tup [.int (i : Nat), x]) ∧ ∀ xs, SqT K H a xs → xs[i]? = some x, fun i H => ∃ xs : List V, SqT K H a xs ∧ xs.length = i⟩
theorem turn_enumT {P : Program} {w : World} {K : PySem.W.Frag} {elts : List Expr} {kk : Nat} {tpos : Pos} (a e it : Addr) :
    Turn P w K (.Tuple elts kk tpos) (IteT K a) [e, it] e (fun i h => (∃ old, IsEnum h e it ((i : Nat) : Int) old) ∧ h.IsTupleIter it a i ∧ e ≠ it) where
  mem := by simp
  obj := fun i h st b hb => by
    obtain ⟨⟨old, he⟩, ⟨o, ho, _, hd⟩, _⟩ := st
    rcases List.mem_cons.mp hb with z | hb
    · rw [z]
      exact ⟨_, he, fun v q => nomatch q⟩
    · rw [List.mem_singleton.mp hb]
      exact ⟨o, ho, fun v q => by
        rw [hd] at q
        cases q⟩
  keep := fun i h h' st k => by
    obtain ⟨⟨old, he⟩, hi, hne⟩ := st
    exact ⟨⟨old, k e (by simp) _ he⟩, hi.at fun o q => k it (by simp) o q, hne⟩
  item := by
    intro X hP hw hK hc i pins s σ H E I hf st hg
    subst hP hw hK
    obtain ⟨⟨old, he⟩, hit, hne⟩ := st
    obtain ⟨xs, x, hq, hx⟩ := hg
    obtain ⟨its, rv, p, hz⟩ := I.tuple hq
    obtain ⟨u, hu, ru⟩ := rv.get hx
    have eL : e < s.heap.objs.size := Heap.lt_size he
    have itL : it < s.heap.objs.size := by
      obtain ⟨_, q, _⟩ := hit
      exact Heap.lt_size q
    have p' : s.heap.IsTuple a its.toArray := p
    have ta : a ≠ it := fun z => by
      obtain ⟨o1, q1, c1, _⟩ := hit
      obtain ⟨o2, q2, c2, _⟩ := p'
      rw [← z, q2] at q1
      cases q1
      rw [c2] at c1
      exact absurd c1 (by decide)
    have te : a ≠ e := fun z => by
      obtain ⟨o2, q2, c2, _⟩ := p'
      rw [z, he] at q2
      cases q2
      have c3 : Value.type "enumerate" = Value.type "tuple" := c2
      exact absurd c3 (by decide)
    have hlt : i < its.toArray.size := by
      have := (List.getElem?_eq_some_iff.mp hu).1
      simpa using this
    refine wpAny_pyNext_enum_itemD (Draws.tuple (prog := X.prog) (w := X.w) (A := X.A.in1) (I.ok.hd hc) it a ta its.toArray) he ⟨hit, p'⟩ hlt hne (by simp [hne, Ne.symm te]) fun y h' tk hy ho hst hT hsz hk => ?_
    obtain rfl : y = u := by
      have q : its[i]? = some y := by simpa using hy
      rw [hu] at q
      exact (Option.some.inj q).symm
    refine ⟨_, rfl, wpAny_letOwnedTupleGo_enum (s := { s with heap := h', toks := tk + 1 }) ho fun h'' he' sb => ?_⟩
    have hT2 : h''.get? s.heap.objs.size = some { cls := .type "tuple", data := .seq #[.int i tk, y] } := (sb.2 _ (Nat.ne_of_gt eL)).trans hT
    have new : ObjOk X.prog X.w (upd H s.heap.objs.size (.tup [.int (i : Nat), x])) h'' s.heap.objs.size (.tup [.int (i : Nat), x]) :=
      ⟨by show 2 ≤ sizeLine; decide, [.int i tk, y], .cons ⟨_, rfl⟩ (.cons ru .nil), ⟨_, hT2, rfl, _, rfl⟩⟩
    have J : Inv X pins σ (upd H s.heap.objs.size (.tup [.int (i : Nat), x])) { s with heap := h'', toks := tk + 1 } :=
      I.turnedNew (ch := [e, it]) (fun b ob hb q => (sb.2 b (fun z => hb (by simp [z]))).trans (hk b ob (fun z => hb (by simp [z])) (fun z => hb (by simp [z])) q)) hf (Nat.le_refl _) new
    refine ⟨.ref s.heap.objs.size, _, J, rfl, ⟨_, x, rfl, I.hok.fresh (Nat.le_refl _), rfl, fun ys hy => by rw [I.tuple_inj hy hq]; exact hx⟩, ⟨⟨y, ?_⟩, hst.1.at fun o q => (sb.2 it (Ne.symm hne)).trans q, hne⟩, fun b hb => ?_⟩
    · have e1 : ((i + 1 : Nat) : Int) = (i : Int) + 1 := by omega
      rw [e1]
      exact he'
    · have bL : b < s.heap.objs.size := by
        rcases List.mem_cons.mp hb with z | hb
        · rw [z]
          exact eL
        · rw [List.mem_singleton.mp hb]
          exact itL
      rw [upd_ne (Nat.ne_of_lt bL)]
      exact (hf b hb).1
  done := by
    intro X hP hw hK hc i pins s σ H E I hf st hg
    subst hP hw hK
    obtain ⟨⟨old, he⟩, hit, hne⟩ := st
    obtain ⟨xs, hq, hx⟩ := hg
    obtain ⟨its, rv, p, hz⟩ := I.tuple hq
    obtain ⟨f0, f1, f2, f3, f4, f5⟩ := hf it (by simp)
    have p' : s.heap.IsTuple a its.toArray := p
    have ta : a ≠ it := fun z => by
      obtain ⟨o1, q1, c1, _⟩ := hit
      obtain ⟨o2, q2, c2, _⟩ := p'
      rw [← z, q2] at q1
      cases q1
      rw [c2] at c1
      exact absurd c1 (by decide)
    have hn : i = its.toArray.size := by
      have := rv.length
      simp
      omega
    exact wpAny_pyNext_enum_endD (Draws.tuple (prog := X.prog) (w := X.w) (A := X.A.in1) (I.ok.hd hc) it a ta its.toArray) he (by rw [← hn]; exact ⟨hit, p'⟩) fun h' eb => ⟨rfl, I.turned (t' := s.toks) (fun b o hb q => eb b o hb q) f0 f1 f3 f4 f5⟩
  self := fun A i s Q E st h => by
    obtain ⟨⟨_, he⟩, _⟩ := st
    exact wpAny_pyIter_enum he h
/-- what enumerate goes over: a list, or a tuple -/
def iEnum2 (K : PySem.W.Frag) (ta : TA) : TI := fun σ H R => ta σ H fun vs H1 => ∃ (a : Addr) (xs : List V), vs = [.ref a] ∧ ((SqL K H1 a xs ∧ R (Ite K a) H1) ∨ (SqT K H1 a xs ∧ R (IteT K a) H1))
theorem pi_enum2 {X : Cx} {e : Expr} {ta : TA} {p pos tpos : Pos} {elts : List Expr} {kk : Nat} (hg : Gl X "enumerate") (hm : X.mg "enumerate" = none) (ha : PA X [e] ta) (hs : starEach [e] X.env = [(false, eval e X.env)] := by rfl) :
    PI X (.Tuple elts kk tpos) (.Call (.Name "enumerate" p) [e] [] pos) (iEnum2 X.K ta) := by
  refine ⟨fun pins s σ H R I h => ?_⟩
  refine Call_ (ld_blt I hg hm boot_enumerate (PyProof.Rows.callWith_type1 (thn (ha.run pos pins s σ H _ I h) fun us s1 ⟨vs, H1, I1, r1, q1⟩ => ?_) hs rfl))
  obtain ⟨a, xs, ex, q⟩ := q1
  subst ex
  obtain ⟨u, rfl, ru⟩ := vals1 r1
  cases ru
  have young : ∀ b, b ∈ [s1.heap.objs.size + 1, s1.heap.objs.size] → FpOk X pins H1 b := fun b hb => by
    have hle : s1.heap.objs.size ≤ b := by
      rcases List.mem_cons.mp hb with z | hb
      · rw [z]
        exact Nat.le_add_right _ _
      · rw [List.mem_singleton.mp hb]
        exact Nat.le_refl _
    exact I1.fpOk hle (I1.hok.fresh hle)
  rcases q with ⟨hq, q⟩ | ⟨hq, q⟩
  · obtain ⟨its, rv, p', hz⟩ := I1.list hq
    refine call_enumerate_list p'.isList fun h' he hit hsz hk => wpAny_pyIter_enum he ?_
    have I2 : Inv X pins σ H1 { s1 with heap := h' } := I1.kept (t' := s1.toks) hk
    exact ⟨s1.heap.objs.size + 1, [s1.heap.objs.size + 1, s1.heap.objs.size], _, _, H1, rfl, I2, turn_enum a (s1.heap.objs.size + 1) s1.heap.objs.size, ⟨⟨.none, he⟩, hit, Nat.succ_ne_self _⟩, young, q⟩
  · obtain ⟨its, rv, p', hz⟩ := I1.tuple hq
    refine ent_call (show s1.heap.IsTuple a its.toArray from p') fun h' he hit hk => wpAny_pyIter_enum he ?_
    have I2 : Inv X pins σ H1 { s1 with heap := h' } := I1.kept (t' := s1.toks) hk
    exact ⟨s1.heap.objs.size + 1, [s1.heap.objs.size + 1, s1.heap.objs.size], _, _, H1, rfl, I2, turn_enumT a (s1.heap.objs.size + 1) s1.heap.objs.size, ⟨⟨.none, he⟩, hit, Nat.succ_ne_self _⟩, young, q⟩
theorem walk_enumT {K : PySem.W.Frag} {a : Addr} {xs : List V} : Walk (IteT K a) xs.length (fun H => SqT K H a xs) (YPair (fun i => some (.int (i : Nat))) (fun i => xs[i]?)) := by
  refine ⟨fun i _ hi q => ⟨xs, xs[i], q, by simp [hi]⟩, fun _ q => ⟨xs, q, rfl⟩, fun i H v H' _ q y => ?_⟩
  obtain ⟨T, x, h1, h2, h3, h4⟩ := y
  exact ⟨T, .int (i : Nat), x, h1, h2, h3, rfl, h4 xs q⟩
end Lay
set_option Elab.async false
set_option linter.all false
set_option maxRecDepth 100000
set_option maxHeartbeats 4000000
set_option pp.maxSteps 1000
namespace Lay
open PySem L2
theorem small1000 {n : Nat} (h : n < 1000) : n < sizeLine := Nat.lt_of_lt_of_le h (fitsN (by decide))
abbrev sCheck : Stmt := top 22
theorem scCheck : FnScope ["value", "at", "one"] ["value"] (defScope sCheck) := ⟨rfl, rfl, rfl, by decide +kernel, rfl, by decide +kernel, by decide +kernel⟩
structure ProgC (K : PySem.W.Frag) (CP : Addr) : Prop where
  cl : Cls K CP
  pieces : NoAttr K CP "pieces"
abbrev sProgI : Stmt := inClass (top 33) 0
theorem scProgI : FnScope ["self", "pieces"] ["self", "pieces"] (defScope sProgI) := ⟨rfl, rfl, rfl, by decide +kernel, rfl, by decide +kernel, by decide +kernel⟩
theorem SqL.same {K : PySem.W.Frag} {H H' : Hp} {a : Addr} {xs : List V} (e : Same H H') (h : SqL K H a xs) : SqL K H' a xs := by
  rcases h with (h | ⟨o, h⟩) | h
  · exact .inl (.inl (e _ _ h))
  · exact .inl (.inr ⟨o, e _ _ h⟩)
  · exact .inr h
/-- a tuple that is tracked, or a written one -/
def TupG (K : PySem.W.Frag) (H : Hp) (a : Addr) (xs : List V) : Prop := H a = some (.tup xs) ∨ ∃ (o : Obj) (its : Array Value) (n : Nat), K.lookup a = some o ∧ o.cls = .type "tuple" ∧ o.data = .seq its n ∧ its.size ≤ sizeLine ∧ Vals xs its.toList
theorem TupG.sqT {K : PySem.W.Frag} {H : Hp} {a : Addr} {xs : List V} (h : TupG K H a xs) : SqT K H a xs := by
  rcases h with h | h
  · exact SqT.of h
  · exact .inr h
theorem TupG.same {K : PySem.W.Frag} {H H' : Hp} {a : Addr} {xs : List V} (s : Same H H') (h : TupG K H a xs) : TupG K H' a xs := h.imp (s _ _) id
theorem TupG.put_ins {K : PySem.W.Frag} {H : Hp} {a p C dx : Addr} {fs : List (Str × V)} {o : HO} {xs : List V} (h : TupG K H a xs) (hp : H p = some (.ins C dx fs)) : TupG K (upd H p o) a xs := by
  rcases h with h | h
  · exact .inl (by rw [upd_ne (ne_of h hp (fun z => nomatch z))]; exact h)
  · exact .inr h
theorem TupG.seq {K : PySem.W.Frag} {H : Hp} {a : Addr} {xs : List V} (h : TupG K H a xs) : IsSeq K H (.ref a) true := by
  rcases h with h | ⟨o, its, n, h1, h2, _⟩
  · exact SqX.seq (.inr h)
  · exact ⟨_, .kTuple h1 h2, kitAny_lt (b := false) (c := true) (kit_ty (by decide +kernel)) (kit_ty (by decide +kernel))⟩
/-- a list, or any tuple (the written ones, too) -/
def SqG (K : PySem.W.Frag) (H : Hp) (a : Addr) (xs : List V) : Prop := H a = some (.lst xs) ∨ TupG K H a xs
theorem SqG.same {K : PySem.W.Frag} {H H' : Hp} {a : Addr} {xs : List V} (s : Same H H') (h : SqG K H a xs) : SqG K H' a xs := h.imp (s _ _) fun q => q.same s
theorem SqG.seq {K : PySem.W.Frag} {H : Hp} {a : Addr} {xs : List V} (h : SqG K H a xs) : IsSeq K H (.ref a) true := by
  rcases h with h | h
  · exact SqX.seq (.inl h)
  · exact h.seq
theorem SqG.of {K : PySem.W.Frag} {H : Hp} {a : Addr} {xs : List V} (h : SqX K H a xs) : SqG K H a xs := h.imp id .inl
section
variable {X : Cx}
theorem call_tupleG : CallR X (.type "tuple") (fun xs H Q => ∃ a ys, xs = [.ref a] ∧ SqG X.K H a ys ∧ ∀ l H', Same H H' → TupG X.K H' l ys → Q (.ref l) H') := by
  intro pins s σ H xs us Q I r h
  obtain ⟨a, ys, rfl, hs, q⟩ := h
  refine call_tuple_of pins s σ H _ us Q I r ⟨a, ys, rfl, ?_⟩
  rcases hs with hs | hs
  · exact .inl ⟨SqL.of hs, fun l nl => q l _ (Same.new nl) (.inl upd_same)⟩
  · exact .inr ⟨hs.sqT, q a H (Same.refl H) hs⟩
end
theorem kit_same {K : PySem.W.Frag} {C : Addr} : PySem.W.kitOne K (.ref C) (.ref C) = some true := by
  unfold PySem.W.kitOne
  rw [if_pos (by simp)]
section
variable {X : Cx}
theorem op_catG : OpR X (binaryOp .Add) (fun x y H Q => ∃ a b xs ys, x = .ref a ∧ y = .ref b ∧ TupG X.K H a xs ∧ TupG X.K H b ys ∧ xs.length + ys.length ≤ 1000 ∧ ∀ p H', Same H H' → TupG X.K H' p (xs ++ ys) → Q (.ref p) H') := by
  intro pins s σ H x y v u Q I rx ry h
  obtain ⟨a, b, xs, ys, rfl, rfl, ha, hb, hl, q⟩ := h
  refine op_catA pins s σ H _ _ v u Q I rx ry ⟨a, b, xs, ys, rfl, rfl, ha.sqT, hb.sqT, fits hl, fun e => ?_, fun _ e => ?_, fun _ _ p np => q p _ (Same.new np) (.inl upd_same)⟩
  · subst e
    exact q b H (Same.refl H) hb
  · subst e
    exact q a H (Same.refl H) (by rw [List.append_nil]; exact ha)
end

/-- pieces, one by one -/
def PcsAt (K : PySem.W.Frag) (C : Addr) (H : Hp) (xs : List V) (ds : List PD) : Prop := xs.length = ds.length ∧ (∀ d ∈ ds, d.Ok ∧ d.parts.length ≤ 30) ∧ ∀ (i : Nat) (x : V) (d : PD), xs[i]? = some x → ds[i]? = some d → ∃ p, x = .ref p ∧ PieceAt K C H p d
theorem PcsAt.same {K : PySem.W.Frag} {C : Addr} {H H' : Hp} {xs : List V} {ds : List PD} (s : Same H H') (h : PcsAt K C H xs ds) : PcsAt K C H' xs ds :=
  ⟨h.1, h.2.1, fun i x d hx hd => by
    obtain ⟨p, e, hp⟩ := h.2.2 i x d hx hd
    exact ⟨p, e, hp.same s⟩⟩
theorem PieceAt.isP {K : PySem.W.Frag} {C p : Addr} {H : Hp} {d : PD} (c : ClsI K C) (h : PieceAt K C H p d) : IsP K C H (.ref p) true := by
  obtain ⟨dx, t, h1, h2⟩ := h
  exact ⟨_, c.at h1, kit_same⟩
theorem PcsAt.isP {K : PySem.W.Frag} {C : Addr} {H : Hp} {xs : List V} {ds : List PD} (c : ClsI K C) (h : PcsAt K C H xs ds) : ∀ v ∈ xs, IsP K C H v true := fun v hv => by
  obtain ⟨i, hi, e⟩ := List.mem_iff_getElem.mp hv
  obtain ⟨p, rfl, hp⟩ := h.2.2 i v (ds[i]'(by rw [← h.1]; exact hi)) (by rw [List.getElem?_eq_getElem hi, e]) (List.getElem?_eq_getElem _)
  exact hp.isP c
theorem PcsAt.append {K : PySem.W.Frag} {C : Addr} {H : Hp} {xs ys : List V} {ds es : List PD} (h : PcsAt K C H xs ds) (k : PcsAt K C H ys es) : PcsAt K C H (xs ++ ys) (ds ++ es) := by
  refine ⟨by rw [List.length_append, List.length_append, h.1, k.1], fun d hd => (List.mem_append.mp hd).elim (h.2.1 d) (k.2.1 d), fun i x d hx hd => ?_⟩
  rcases Nat.lt_or_ge i xs.length with l | l
  · rw [List.getElem?_append_left l] at hx
    rw [List.getElem?_append_left (by rw [← h.1]; exact l)] at hd
    exact h.2.2 i x d hx hd
  · rw [List.getElem?_append_right l] at hx
    rw [List.getElem?_append_right (by rw [← h.1]; exact l), ← h.1] at hd
    exact k.2.2 _ x d hx hd
theorem PcsAt.nil {K : PySem.W.Frag} {C : Addr} {H : Hp} : PcsAt K C H [] [] := ⟨rfl, fun d h => (List.not_mem_nil h).elim, fun i x d h _ => by cases h⟩
def progF (t : Addr) : List (Str × V) := putF "pieces" (.ref t) []
/-- at p a program with the tuple t of pieces -/
def ProgT (K : PySem.W.Frag) (C CP : Addr) (H : Hp) (p t : Addr) (xs : List V) (ds : List PD) : Prop := ∃ dx, H p = some (.ins CP dx (progF t)) ∧ TupG K H t xs ∧ PcsAt K C H xs ds ∧ ds.length ≤ 100
theorem ProgT.same {K : PySem.W.Frag} {C CP : Addr} {H H' : Hp} {p t : Addr} {xs : List V} {ds : List PD} (s : Same H H') (h : ProgT K C CP H p t xs ds) : ProgT K C CP H' p t xs ds := by
  obtain ⟨dx, h1, h2, h3, h4⟩ := h
  exact ⟨dx, s _ _ h1, h2.same s, h3.same s, h4⟩
def spCheckG (K : PySem.W.Frag) (C : Addr) : Sp := fun vs H Q _ => ∃ a xs, vs = [.ref a] ∧ SqG K H a xs ∧ xs.length ≤ 1000 ∧ (∀ v ∈ xs, IsP K C H v true) ∧ ∀ H', Same H H' → Q .non H'
def spProgG (K : PySem.W.Frag) (C CP : Addr) : Sp := fun vs H Q _ => ∃ (p dx a : Addr) (xs : List V), vs = [.ref p, .ref a] ∧ H p = some (.ins CP dx []) ∧ SqG K H a xs ∧ xs.length ≤ 1000 ∧ (∀ v ∈ xs, IsP K C H v true) ∧
  ∀ H' t, TupG K H' t xs → Kept p H H' → H' p = some (.ins CP dx (progF t)) → Q .non H'
section
variable {P : Program} {w : World} {K : PySem.W.Frag} {mg : Str → Option Value} {base : Heap}
theorem ok_checkG {f fS C : Addr} {fd fdS : FuncData} (F : Fun K "check_pieces" "check_pieces" sCheck f fd) (T : TxtK mg) (GS : FnOk P w K mg base CX0 1 fS fdS ["value"] (spSeq K)) (gS : mg "is_sequence" = some (.ref fS)) (kS : PySem.W.keepIn K (.ref fS) = true) (bS : Binds K fdS ["value"] [])
    (gP : mg "Piece" = some (.ref C)) : FnOk P w K mg base CX0 2 f fd ["value"] (spCheckG K C) := by
  refine F.ok scCheck (fun vs H Q E h => ?_) (fun cdv A outer s H vs Q E hr h => ?_)
  · obtain ⟨a, xs, rfl, _⟩ := h
    rfl
  · obtain ⟨a, xs, rfl, hx, hl, hi, k⟩ := h
    refine ⟨_, (pss_cons (ps_if (pt_not (pt_val (pe_call GS hr (by rfl) gS kS bS .nil pass0 (pa_cons (pv 0) pa_nil)))) pss_never pss_nil)
    (pss_one (ps_for PassesOwn.never rfl (pi_enum2 (by rfl) T.enumerate (pa_cons (pv 0) pa_nil)) (pg_tup rfl (pgs_cons (pg_name (i := 1) scCheck.nd rfl (.inl rfl)) (pgs_cons (pg_name (i := 2) scCheck.nd rfl (.inl rfl)) pgs_nil)))
      (pss_one (ps_if (pt_not (pt_val (pe_callB call_isi (by rfl) T.isinstance (by decide +kernel) (pa_cons (pv 2) (pa_cons (pe_glob (v := .ref C) (by rfl) gP rfl) pa_nil))))) pss_never pss_nil))))), ?_⟩
    refine ⟨_, rfl, _, true, rfl, hx.seq, fun H1 s1 => ⟨_, rfl, ?_⟩⟩
    rcases hx with hx | hx
    · refine ⟨_, rfl, a, xs, rfl, .inl ⟨SqL.of (s1 _ _ hx), for_it walk_enum (fun i σ G => (∃ x1 x2, σ = [some (.ref a), x1, x2]) ∧ Same H G) ⟨⟨_, _, rfl⟩, s1⟩ (fun i σ G _ q => SqL.of (q.2 _ _ hx)) ?_ ?_⟩⟩
      · rintro i x σ G G' hi' ⟨⟨x1, x2, rfl⟩, sG⟩ ⟨T0, u, v, rfl, hT, rfl, e1, e2⟩
        cases e1
        have e2 : xs[i]? = some v := e2
        have sT := Same.new hT (o := .tup [.int (i : Nat), v])
        obtain ⟨t, ty, et⟩ := ((hi v (List.mem_of_getElem? e2)).same sG).same sT
        exact ⟨T0, _, rfl, SqT.of upd_same, rfl, _, _, rfl, _, _, rfl, rfl, _, rfl, _, _, _, _, _, rfl, .own _, ty, et, _, rfl, ⟨_, _, rfl⟩, sG.trans sT⟩
      · rintro σ G ⟨_, sG⟩
        exact k G sG
    · refine ⟨_, rfl, a, xs, rfl, .inr ⟨(hx.same s1).sqT, for_it walk_enumT (fun i σ G => (∃ x1 x2, σ = [some (.ref a), x1, x2]) ∧ Same H G) ⟨⟨_, _, rfl⟩, s1⟩ (fun i σ G _ q => (hx.same q.2).sqT) ?_ ?_⟩⟩
      · rintro i x σ G G' hi' ⟨⟨x1, x2, rfl⟩, sG⟩ ⟨T0, u, v, rfl, hT, rfl, e1, e2⟩
        cases e1
        have e2 : xs[i]? = some v := e2
        have sT := Same.new hT (o := .tup [.int (i : Nat), v])
        obtain ⟨t, ty, et⟩ := ((hi v (List.mem_of_getElem? e2)).same sG).same sT
        exact ⟨T0, _, rfl, SqT.of upd_same, rfl, _, _, rfl, _, _, rfl, rfl, _, rfl, _, _, _, _, _, rfl, .own _, ty, et, _, rfl, ⟨_, _, rfl⟩, sG.trans sT⟩
      · rintro σ G ⟨_, sG⟩
        exact k G sG
theorem ok_progG {f fC C CP : Addr} {fd fdC : FuncData} {dvs : List V} (F : FunD K "__init__" "Program.__init__" (defArgs sProgI) (defBody sProgI) (defScope sProgI) dvs [] f fd) (T : TxtK mg) (Z : ProgC K CP)
    (GC : FnOk P w K mg base CX0 2 fC fdC ["value"] (spCheckG K C)) (gC : mg "check_pieces" = some (.ref fC)) (kC : PySem.W.keepIn K (.ref fC) = true) (bC : Binds K fdC ["value"] []) : FnOk P w K mg base CX0 3 f fd ["self", "pieces"] (spProgG K C CP) := by
  refine F.ok scProgI (fun vs H Q E h => ?_) (fun cdv A outer s H vs Q E hr h => ?_)
  · obtain ⟨p, dx, a, xs, rfl, _⟩ := h
    rfl
  · obtain ⟨p, dx, a, xs, rfl, hp, hx, hl, hi, k⟩ := h
    refine ⟨_, (pss_cons (ps_expr (pe_call GC hr (by rfl) gC kC bC .nil pass0 (pa_cons (pv 1) pa_nil)))
      (pss_one (ps_fld (pv 0) (pe_callTy call_tupleG (by rfl) T.tuple (by decide +kernel) (pa_cons (pv 1) pa_nil)) rfl))), ?_⟩
    refine ⟨_, rfl, a, xs, rfl, hx, hl, hi, fun H1 s1 => ⟨_, rfl, a, xs, rfl, hx.same s1, fun l H2 s2 hl2 => ⟨_, rfl, p, CP, dx, _, rfl, s2 _ _ (s1 _ _ hp), Z.cl, Z.pieces, (by show 0 < 1000; decide), ?_⟩⟩⟩
    exact k _ l (hl2.put_ins (s2 _ _ (s1 _ _ hp))) ((Kept.of_same (s1.trans s2)).trans Kept.box) upd_same
end
end Lay
set_option Elab.async false
set_option linter.all false
set_option maxRecDepth 100000
set_option maxHeartbeats 4000000
set_option pp.maxSteps 1000
namespace Lay
open PySem PySem.Spec PyProof.Rows L2
theorem pi_listK {X : Cx} {K : PySem.W.Frag} {tg l : Expr} {tl : TE} (hK : X.K = K) (hl : PE X l tl) : PI X tg l (iList K tl) := by
  subst hK
  exact pi_list hl
theorem it_tup {K : PySem.W.Frag} {a : Addr} {xs : List V} {H0 : Hp} {Qd : Hp → Prop} {B : V → Hp → (Hp → Prop) → Prop} (Pv : Nat → Hp → Prop) (h0 : Pv 0 H0) (hl : ∀ i H, i ≤ xs.length → Pv i H → SqT K H a xs)
    (hs : ∀ i x H, xs[i]? = some x → Pv i H → B x H (Pv (i + 1))) (hd : ∀ H, Pv xs.length H → Qd H) :
    ∃ W : Nat → Nat → Hp → Prop, (∃ m, W 0 m H0) ∧ ∀ i m H, W i m H →
      ((Itt K a).stop i H ∧ Qd H) ∨ ((Itt K a).go i H ∧ ∃ Nx : Hp → Prop, (∀ H', Nx H' → ∃ m', m' < m ∧ W (i + 1) m' H') ∧ ∀ x H', (Itt K a).yld i H x H' → B x H' Nx) := by
  refine ⟨fun i m H => m = xs.length - i ∧ i ≤ xs.length ∧ Pv i H, ⟨xs.length, by simp, Nat.zero_le _, h0⟩, ?_⟩
  rintro i m H ⟨rfl, hi, p⟩
  have q := hl i H hi p
  by_cases hlt : i < xs.length
  · refine .inr ⟨⟨xs, xs[i], q, by simp [hlt]⟩, Pv (i + 1), fun H' p' => ⟨xs.length - (i + 1), by omega, rfl, hlt, p'⟩, fun x H' y => ?_⟩
    obtain ⟨e, y⟩ := y
    subst e
    exact hs i x H' (y xs q) p
  · have e : i = xs.length := by omega
    subst e
    exact .inl ⟨⟨xs, q, Nat.le_refl _⟩, hd H p⟩
theorem it_lst {K : PySem.W.Frag} {a : Addr} {xs : List V} {H0 : Hp} {Qd : Hp → Prop} {B : V → Hp → (Hp → Prop) → Prop} (Pv : Nat → Hp → Prop) (h0 : Pv 0 H0) (hl : ∀ i H, i ≤ xs.length → Pv i H → SqL K H a xs)
    (hs : ∀ i x H, xs[i]? = some x → Pv i H → B x H (Pv (i + 1))) (hd : ∀ H, Pv xs.length H → Qd H) :
    ∃ W : Nat → Nat → Hp → Prop, (∃ m, W 0 m H0) ∧ ∀ i m H, W i m H →
      ((Itl K a).stop i H ∧ Qd H) ∨ ((Itl K a).go i H ∧ ∃ Nx : Hp → Prop, (∀ H', Nx H' → ∃ m', m' < m ∧ W (i + 1) m' H') ∧ ∀ x H', (Itl K a).yld i H x H' → B x H' Nx) := by
  refine ⟨fun i m H => m = xs.length - i ∧ i ≤ xs.length ∧ Pv i H, ⟨xs.length, by simp, Nat.zero_le _, h0⟩, ?_⟩
  rintro i m H ⟨rfl, hi, p⟩
  have q := hl i H hi p
  by_cases hlt : i < xs.length
  · refine .inr ⟨⟨xs, xs[i], q, by simp [hlt]⟩, Pv (i + 1), fun H' p' => ⟨xs.length - (i + 1), by omega, rfl, hlt, p'⟩, fun x H' y => ?_⟩
    obtain ⟨e, y⟩ := y
    subst e
    exact hs i x H' (y xs q) p
  · have e : i = xs.length := by omega
    subst e
    exact .inl ⟨⟨xs, q, Nat.le_refl _⟩, hd H p⟩
def progRows (ds : List PD) : List Str := (ds.map rowsS).flatten
def progText (ds : List PD) : Str := Txt.join "\n" (progRows ds)
theorem progRows_take {ds : List PD} {i : Nat} {d : PD} (h : ds[i]? = some d) : progRows (ds.take (i + 1)) = progRows (ds.take i) ++ rowsS d := by
  unfold progRows
  rw [List.take_succ, h, List.map_append, List.flatten_append]
  simp
theorem progRows_len : ∀ {ds : List PD}, (∀ d ∈ ds, d.Ok ∧ d.parts.length ≤ 30) → (progRows ds).length ≤ 43 * ds.length
  | [], _ => Nat.zero_le _
  | d :: ds, h => by
    have h1 := rowsS_len (h d List.mem_cons_self).1 (h d List.mem_cons_self).2
    have h2 := progRows_len (ds := ds) fun e he => h e (List.mem_cons_of_mem _ he)
    unfold progRows at h2 ⊢
    rw [List.map_cons, List.flatten_cons, List.length_append, List.length_cons]
    omega
theorem bodyS_few {d : PD} (o : d.Ok) (l : d.parts.length ≤ 30) : ∀ z ∈ bodyS d, z.length ≤ 300 := by
  have hH := headS_len o
  have hT := tailS_len o
  have hC := commaS_len (d := d)
  have j1 : (Str.ofString ", ").length = 2 := by decide
  have j2 : (Str.ofString "  ").length = 2 := by decide
  have j3 : (Str.ofString ",").length = 1 := by decide
  have j4 : Str.empty.length = 0 := by decide
  have hsum := sum_few (n := 6) fun z hz => nameB_len (o.parts z hz)
  have hjoin := join_le ", " d.parts
  rw [j1] at hjoin
  intro z hz
  unfold bodyS at hz
  split at hz
  · simp only [List.mem_cons, List.mem_append, List.mem_map, List.not_mem_nil, or_false] at hz
    rcases hz with rfl | ⟨y, hy, rfl⟩ | rfl | rfl
    · omega
    · have := nameB_len (o.parts y (List.dropLast_subset _ hy))
      unfold itemS
      rw [Str.length_append, Str.length_append, Str.length_append]
      omega
    · have lz : (d.parts.getLastD Str.empty).length ≤ 6 := by
        obtain ⟨a, ha⟩ : ∃ a, d.parts.getLast? = some a := by
          cases e : d.parts with
          | nil => have := o.some; rw [e] at this; exact absurd this (by decide)
          | cons x xs => exact ⟨_, List.getLast?_cons⟩
        rw [List.getLastD_eq_getLast?, ha]
        exact nameB_len (o.parts a (List.mem_of_getLast? ha))
      unfold lastS
      rw [Str.length_append, Str.length_append, Str.length_append]
      omega
    · omega
  · rw [List.mem_singleton] at hz
    subst hz
    rw [Str.length_append, Str.length_append, Str.length_append]
    omega
theorem rowsS_few {d : PD} (o : d.Ok) (l : d.parts.length ≤ 30) : ∀ z ∈ rowsS d, z.length ≤ 300 := by
  intro z hz
  unfold rowsS at hz
  rcases List.mem_append.mp hz with h | h
  · rw [(List.mem_replicate.mp h).2]
    decide
  · rcases List.mem_append.mp h with h | h
    · unfold remarkS at h
      split at h
      · exact (List.not_mem_nil h).elim
      · rw [List.mem_singleton] at h
        subst h
        have j2 : (Str.ofString "# ").length = 2 := by decide
        have j4 : Str.empty.length = 0 := by decide
        have la := remarkB_len o.ahead
        rw [Str.length_append, Str.length_append]
        omega
    · exact bodyS_few o l z h
theorem progRows_few {ds : List PD} (h : ∀ d ∈ ds, d.Ok ∧ d.parts.length ≤ 30) : ∀ z ∈ progRows ds, z.length ≤ 300 := by
  intro z hz
  obtain ⟨l, hl, hz⟩ := List.mem_flatten.mp hz
  obtain ⟨d, hd, rfl⟩ := List.mem_map.mp hl
  exact rowsS_few (h d hd).1 (h d hd).2 z hz
abbrev sStrP : Stmt := inClass (top 33) 7
def spStrP (K : PySem.W.Frag) (C CP : Addr) : Sp := fun vs H Q _ => ∃ (p t : Addr) (xs : List V) (ds : List PD), vs = [.ref p] ∧ ProgT K C CP H p t xs ds ∧ ∀ H', Same H H' → Q (.str (progText ds)) H'
section
variable {P : Program} {w : World} {K : PySem.W.Frag} {mg : Str → Option Value} {base : Heap}
theorem scStrP : FnScope ["self", "piece", "row"] ["self"] (defScope sStrP) := ⟨rfl, rfl, rfl, by decide +kernel, rfl, by decide +kernel, by decide +kernel⟩
theorem ok_strP {f fR C CP : Addr} {fd dR : FuncData} (F : Fun K "__str__" "Program.__str__" sStrP f fd) (Z : ProgC K CP)
    (GR : FnOk P w K mg base CX0 3 fR dR ["piece"] (spRowsOf K C rowsS)) (gR : mg "rows_of" = some (.ref fR)) (kR : PySem.W.keepIn K (.ref fR) = true) (bR : Binds K dR ["piece"] []) : FnOk P w K mg base CX0 4 f fd ["self"] (spStrP K C CP) := by
  refine F.ok scStrP (fun vs H Q E h => ?_) (fun cdv A outer s H vs Q E hr h => ?_)
  · obtain ⟨p, t, xs, ds, rfl, _⟩ := h
    rfl
  · obtain ⟨p, t, xs, ds, rfl, hT, k⟩ := h
    refine ⟨_, pss_one (ps_ret (pe_bm PySem.F.plainAttrs_str PySem.F.slot_str_join PySem.F.type_str_join mt_join pe_str (pa_cons
      (pe_lc2 (own := [("piece", 1), ("row", 2)]) (vs1 := [2]) (g := gName 1) (tt := tYes) (g1 := gName 2) (tt1 := tYes) (by rfl) scStrP.nd (pi_tup (pe_fld (pv 0) rfl)) (blkOk_by (N := ["self", "piece", "row"]) (sc := defScope sStrP) (by decide +kernel)) (by decide)
        (fun _ _ _ _ _ => pg_name (i := 1) scStrP.nd rfl (Or.inl rfl)) (fun _ _ _ _ _ => pts_nil)
        (fun _ _ _ _ _ => pi_listK (K := K) rfl (pe_call GR hr (by rfl) gR kR bR .nil pass0 (pa_cons (pv 1) pa_nil)))
        (fun _ _ _ _ _ => pg_name (i := 2) scStrP.nd rfl (Or.inl rfl)) (fun _ _ _ _ _ => pts_nil)
        (fun _ _ _ _ _ => pv 2)) pa_nil))), ?_⟩
    obtain ⟨dx, hp, ht, hps, hl⟩ := id hT
    refine ⟨rfl, _, rfl, p, CP, dx, _, _, rfl, hp, Z.cl, Z.pieces, rfl, t, rfl, ⟨_, ht.sqT⟩, fun D nD => it_tup (K := K) (a := t) (xs := xs) (fun i G => Same H G ∧ G D = some (.lst ((progRows (ds.take i)).map V.str))) ⟨Same.new nD, upd_same⟩ (fun i G _ q => SqT.same q.1 ht.sqT) ?_ ?_⟩
    · rintro i x G hi ⟨sG, hD⟩
      have li := (List.getElem?_eq_some_iff.mp hi).1
      obtain ⟨d, ed⟩ : ∃ d, ds[i]? = some d := ⟨_, List.getElem?_eq_getElem (by rw [← hps.1]; exact li)⟩
      obtain ⟨q, rfl, hq⟩ := (hps.same sG).2.2 i x _ hi ed
      obtain ⟨o, few⟩ := hps.2.1 d (List.mem_of_getElem? ed)
      have hlen := progRows_len (ds := ds.take i) fun e he => hps.2.1 e (List.mem_of_mem_take he)
      have hlen2 := rowsS_len o few
      rw [List.length_take] at hlen
      refine ⟨rfl, _, rfl, q, d, rfl, hq, o, few, fun l G2 s2 n2 hl2 => ⟨l, rfl, ⟨_, SqL.of hl2⟩, it_lst (K := K) (a := l) (xs := (rowsS d).map V.str) (fun j G' => Same H G' ∧ G' l = some (.lst ((rowsS d).map V.str)) ∧ G' D = some (.lst ((progRows (ds.take i) ++ (rowsS d).take j).map V.str)))
        ⟨sG.trans s2, hl2, by rw [List.take_zero, List.append_nil]; exact s2 _ _ hD⟩ (fun j G' _ z => SqL.of z.2.1) ?_ ?_⟩⟩
      · rintro j y G' hj ⟨sG', hl', hD'⟩
        obtain ⟨z, hz, rfl⟩ : ∃ z, (rowsS d)[j]? = some z ∧ V.str z = y := by
          rw [List.getElem?_map] at hj
          cases e : (rowsS d)[j]? with
          | none => rw [e] at hj; cases hj
          | some y => rw [e] at hj; exact ⟨y, rfl, Option.some.inj hj⟩
        have nlD : l ≠ D := Ne.symm (ne_of_none hD n2)
        refine ⟨rfl, _, rfl, _, hD', ?_, fun c u e => ?_, by rw [upd_ne nlD]; exact hl', ?_⟩
        · rw [List.length_map, List.length_append, List.length_take]
          refine Nat.lt_of_lt_of_le (m := 1000000) ?_ (fitsN (Nat.le_refl _))
          omega
        · rw [upd_ne (ne_of_none e nD)]
          exact sG' _ _ e
        · rw [upd_same, List.take_succ, hz, List.map_append, List.map_append, List.map_append, List.append_assoc]
          rfl
      · rintro G' ⟨sG', hl', hD'⟩
        rw [List.length_map, List.take_length] at hD'
        exact ⟨sG', by rw [hD', progRows_take ed]⟩
    · rintro G ⟨sG, hD⟩
      rw [hps.1, List.take_length] at hD
      have hlen := progRows_len (ds := ds) hps.2.1
      have hsum := sum_few (n := 300) (progRows_few hps.2.1)
      have j : (Str.ofString "\n").length = 1 := by decide
      exact ⟨_, D, progRows ds, rfl, rfl, .inl (SqL.of hD), by rw [j]; omega, k G sG⟩
end
end Lay
set_option Elab.async false
set_option linter.all false
set_option maxRecDepth 100000
set_option maxHeartbeats 4000000
/-! Texts cut up again. -/
namespace TxL
open PySem PySem.StrLaws Builtin Builtin.Str
def L (x : Str) : List Nat := x.cps.toList
theorem L_len (x : Str) : (L x).length = x.length := by simp [L, Str.length]
theorem L_app (a b : Str) : L (a ++ b) = L a ++ L b := by simp [L, Str.cps_append]
theorem L_inj {a b : Str} (h : L a = L b) : a = b := Str.ext' (Array.toList_inj.mp h)
theorem L_sub (s : Str) (i j : Nat) : L (strSub s i j) = ((L s).drop i).take (j - i) := strSub_toList s i j
theorem at_iff {x y : Str} {i : Nat} : At x y x.length i ↔ i + y.length ≤ x.length ∧ ((L x).drop i).take y.length = L y := by
  unfold At
  rw [subAt_eq]
  exact and_congr_right fun _ => beq_iff_eq
/-- the j-th sign of what stands at i -/
theorem at_get {x y : Str} {i j c : Nat} (h : At x y x.length i) (hj : (L y)[j]? = some c) : (L x)[i + j]? = some c := by
  obtain ⟨_, e⟩ := at_iff.mp h
  rw [← e] at hj
  have hlt : j < y.length := by
    have := (List.getElem?_eq_some_iff.mp hj).1
    rw [List.length_take] at this
    omega
  rw [List.getElem?_take_of_lt hlt, List.getElem?_drop] at hj
  exact hj
theorem at_mid (a y b : Str) : At (a ++ y ++ b) y (a ++ y ++ b).length a.length := by
  rw [at_iff, L_app, L_app, Str.length_append, Str.length_append]
  refine ⟨by omega, ?_⟩
  rw [List.append_assoc, ← L_len a, List.drop_left, ← L_len y, List.take_left]
theorem free_get {l : List Nat} {c i : Nat} (h : c ∉ l) : l[i]? ≠ some c := fun e => h (List.mem_of_getElem? e)
/-- x.partition(y), where y's sign c stands in nothing before -/
theorem part_at {a y b : Str} {j c : Nat} (hj : (L y)[j]? = some c) (bef : ∀ i, i < j → (L y)[i]? ≠ some c) (free : c ∉ L a) : Txt.partition (a ++ y ++ b) y = (a, y, b) := by
  have hm := at_mid a y b
  have key : ∀ k, k < a.length → ¬ At (a ++ y ++ b) y (a ++ y ++ b).length k := fun k hk h => by
    have g := at_get h hj
    rw [L_app, L_app, List.append_assoc] at g
    by_cases q : k + j < a.length
    · rw [List.getElem?_append_left (by rw [L_len]; exact q)] at g
      exact free_get free g
    · rw [List.getElem?_append_right (by rw [L_len]; omega), L_len] at g
      have hy : j < (L y).length := (List.getElem?_eq_some_iff.mp hj).1
      rw [List.getElem?_append_left (by omega)] at g
      exact bef _ (by omega) g
  unfold Txt.partition
  rcases occ_head (a ++ y ++ b) y 1 (Nat.le_refl 1) with ⟨_, hn⟩ | ⟨i, r, e, hi, hk⟩
  · exact absurd hm (hn _)
  · rw [e]
    have ei : i = a.length := by
      rcases Nat.lt_trichotomy i a.length with h | h | h
      · exact absurd hi (key i h)
      · exact h
      · exact absurd hm (hk _ h)
    subst ei
    have e1 : strSub (a ++ y ++ b) 0 a.length = a := L_inj (by rw [L_sub, L_app, L_app, List.append_assoc, List.drop_zero, Nat.sub_zero, ← L_len a, List.take_left])
    have e2 : strSub (a ++ y ++ b) (a.length + y.length) (a ++ y ++ b).length = b := L_inj (by
      rw [L_sub, L_app, L_app, Str.length_append, Str.length_append, show a.length + y.length = (L a ++ L y).length by rw [List.length_append, L_len, L_len], List.drop_left]
      refine List.take_of_length_le ?_
      rw [List.length_append, L_len, L_len, L_len]
      omega)
    show (strSub (a ++ y ++ b) 0 a.length, y, strSub (a ++ y ++ b) (a.length + y.length) (a ++ y ++ b).length) = _
    rw [e1, e2]
theorem part_no {x y : Str} {c : Nat} (hc : c ∈ L y) (free : c ∉ L x) : Txt.partition x y = (x, Str.empty, Str.empty) := by
  unfold Txt.partition
  rcases occ_head x y 1 (Nat.le_refl 1) with ⟨e, _⟩ | ⟨i, r, e, hi, _⟩
  · rw [e]
  · obtain ⟨j, hj⟩ := List.mem_iff_getElem?.mp hc
    exact absurd (at_get hi hj) (free_get free)
theorem start_iff {x y : Str} : Txt.startswith x y = true ↔ (L x).take y.length = L y := by
  unfold Txt.startswith
  rw [subAt_eq, Bool.and_eq_true, decide_eq_true_eq, beq_iff_eq]
  show _ ∧ ((L x).drop 0).take y.length = L y ↔ _
  rw [List.drop_zero]
  constructor
  · exact fun h => h.2
  · intro h
    have := congrArg List.length h
    rw [List.length_take, L_len, L_len] at this
    exact ⟨by omega, h⟩
theorem start_app (a b : Str) : Txt.startswith (a ++ b) a = true := by
  rw [start_iff, L_app, ← L_len a, List.take_left]
theorem start_no {x y : Str} {c : Nat} (hy : (L y)[0]? = some c) (hx : (L x)[0]? ≠ some c) : Txt.startswith x y = false := by
  cases h : Txt.startswith x y with
  | false => rfl
  | true =>
    have e := start_iff.mp h
    rw [← e] at hy
    have hlt := (List.getElem?_eq_some_iff.mp hy).1
    rw [List.length_take] at hlt
    rw [List.getElem?_take_of_lt (by omega)] at hy
    exact absurd hy hx
theorem pre_app (a b : Str) : Txt.removeprefix (a ++ b) a = b := by
  rw [removeprefix_eq]
  have h := start_app a b
  unfold Txt.startswith at h
  rw [if_pos h]
  refine L_inj ?_
  show ((L (a ++ b)).drop a.length).take ((a ++ b).length - a.length) = L b
  rw [L_app, ← L_len a, List.drop_left]
  refine List.take_of_length_le ?_
  rw [L_len, Str.length_append, L_len]
  omega
theorem pre_no {x y : Str} (h : Txt.startswith x y = false) : Txt.removeprefix x y = x := by
  rw [removeprefix_eq]
  unfold Txt.startswith at h
  rw [if_neg (by rw [h]; decide)]
theorem end_iff {x y : Str} : Txt.endswith x y = true ↔ y.length ≤ x.length ∧ (L x).drop (x.length - y.length) = L y := by
  unfold Txt.endswith
  rw [subAt_eq, Bool.and_eq_true, decide_eq_true_eq, beq_iff_eq, Nat.zero_add]
  refine and_congr_right fun h => ?_
  show ((L x).drop (x.length - y.length)).take y.length = L y ↔ _
  rw [List.take_of_length_le (by rw [List.length_drop, L_len]; omega)]
theorem end_app (a b : Str) : Txt.endswith (a ++ b) b = true := by
  rw [end_iff, Str.length_append, L_app]
  refine ⟨by omega, ?_⟩
  rw [show a.length + b.length - b.length = (L a).length by rw [L_len]; omega, List.drop_left]
theorem suf_app (a b : Str) : Txt.removesuffix (a ++ b) b = a := by
  rw [removesuffix_eq]
  have h := end_app a b
  unfold Txt.endswith at h
  rw [if_pos h]
  refine L_inj ?_
  show ((L (a ++ b)).drop 0).take ((a ++ b).length - b.length - 0) = L a
  rw [List.drop_zero, L_app, Str.length_append, show a.length + b.length - b.length - 0 = (L a).length by rw [L_len]; omega, List.take_left]
theorem suf_no {x y : Str} (h : Txt.endswith x y = false) : Txt.removesuffix x y = x := by
  rw [removesuffix_eq]
  unfold Txt.endswith at h
  rw [if_neg (by rw [h]; decide)]
/-- the last sign is another one -/
theorem end_no {x : Str} {c : Nat} (h : (L x).getLast? ≠ some c) : Txt.endswith x ⟨#[c]⟩ = false := by
  cases e : Txt.endswith x ⟨#[c]⟩ with
  | false => rfl
  | true =>
    obtain ⟨h1, h2⟩ := end_iff.mp e
    have h3 : (⟨#[c]⟩ : Str).length = 1 := rfl
    rw [h3] at h1 h2
    exfalso
    apply h
    rw [← List.take_append_drop (x.length - 1) (L x), h2]
    show (List.take (x.length - 1) (L x) ++ [c]).getLast? = some c
    rw [List.getLast?_concat]
/-! ### split -/
theorem drop_join {sep p q : Str} {r : List Str} : L (Str.join sep (p :: q :: r)) = L p ++ (L sep ++ L (Str.join sep (q :: r))) := by
  show L (p ++ sep ++ Str.join sep (q :: r)) = _
  rw [L_app, L_app, List.append_assoc]
theorem parts_are {x sep : Str} {c : Nat} (h0 : (L sep)[0]? = some c) : ∀ (ps : List Str) (a f : Nat) (cuts : List Nat), ps ≠ [] → (∀ p ∈ ps, c ∉ L p) → (L x).drop a = L (Str.join sep ps) → ChainG x sep x.length a cuts f → (∀ k, f ≤ k → ¬ At x sep x.length k) →
    partsFrom x sep.length a cuts = ps
  | [], _, _, _, h, _, _, _, _ => absurd rfl h
  | [p], a, f, cuts, _, fr, e, ch, no => by
    have e' : (L x).drop a = L p := e
    have none : ∀ k, a ≤ k → ¬ At x sep x.length k := fun k hk h => by
      have g := at_get h h0
      rw [Nat.add_zero, show k = a + (k - a) by omega, ← List.getElem?_drop, e'] at g
      exact free_get (fr p List.mem_cons_self) g
    cases cuts with
    | nil =>
      show [strSub x a x.length] = [p]
      rw [L_inj (a := strSub x a x.length) (b := p) (by rw [L_sub, e']; exact List.take_of_length_le (by rw [← e', List.length_drop, L_len]; exact Nat.le_refl _))]
    | cons c1 r => exact absurd ch.2.1 (none _ ch.1)
  | p :: q :: r, a, f, cuts, _, fr, e, ch, no => by
    rw [drop_join] at e
    have lx : x.length - a = p.length + (sep.length + (Str.join sep (q :: r)).length) := by
      have := congrArg List.length e
      rw [List.length_drop, List.length_append, List.length_append, L_len, L_len, L_len, L_len] at this
      exact this
    have sl : 0 < sep.length := by
      have := (List.getElem?_eq_some_iff.mp h0).1
      rw [L_len] at this
      exact this
    have hat : At x sep x.length (a + p.length) := by
      rw [at_iff]
      refine ⟨by omega, ?_⟩
      rw [← List.drop_drop, e, ← L_len p, List.drop_left, ← L_len sep, List.take_left]
    have lo : ∀ k, a ≤ k → k < a + p.length → ¬ At x sep x.length k := fun k hk hl h => by
      have g := at_get h h0
      rw [Nat.add_zero, show k = a + (k - a) by omega, ← List.getElem?_drop, e, List.getElem?_append_left (by rw [L_len]; omega)] at g
      exact free_get (fr p List.mem_cons_self) g
    cases cuts with
    | nil =>
      have ef : f = a := ch
      exact absurd hat (no _ (by omega))
    | cons c1 t =>
      obtain ⟨h1, h2, h3, h4⟩ := ch
      have ec : c1 = a + p.length := by
        rcases Nat.lt_trichotomy c1 (a + p.length) with h | h | h
        · exact absurd h2 (lo _ h1 h)
        · exact h
        · exact absurd hat (h3 _ (by omega) h)
      subst ec
      have e1 : strSub x a (a + p.length) = p := L_inj (by rw [L_sub, e, show a + p.length - a = (L p).length by rw [L_len]; omega, List.take_left])
      have e2 : (L x).drop (a + p.length + sep.length) = L (Str.join sep (q :: r)) := by
        rw [← List.drop_drop, ← List.drop_drop, e, ← L_len p, List.drop_left, ← L_len sep, List.drop_left]
      have ih := parts_are h0 (q :: r) _ f t (by simp) (fun z hz => fr z (List.mem_cons_of_mem _ hz)) e2 h4 no
      show strSub x a (a + p.length) :: partsFrom x sep.length (a + p.length + sep.length) t = _
      rw [e1, ih]
theorem split_join {sep : Str} {c : Nat} (h0 : (L sep)[0]? = some c) (hk : PySem.Builtin.Str.strKind sep = 1) {ps : List Str} (ne : ps ≠ []) (fr : ∀ p ∈ ps, c ∉ L p) : Txt.split (Txt.join sep ps) sep = ps := by
  have ej : Txt.join sep ps = Str.join sep ps := glued_eq_join sep ps
  rw [ej]
  have sl : 1 ≤ sep.length := by
    have := (List.getElem?_eq_some_iff.mp h0).1
    rw [L_len] at this
    exact this
  obtain ⟨f, ch, no⟩ := occ_tight (Str.join sep ps) sep sl
  have key := parts_are h0 ps 0 f _ ne fr (by rw [List.drop_zero]) ch no
  unfold Txt.split
  have k1 : ¬ PySem.Builtin.Str.strKind (Str.join sep ps) < PySem.Builtin.Str.strKind sep := by
    rw [hk]
    unfold PySem.Builtin.Str.strKind
    split
    · decide
    · split <;> decide
  by_cases hl : (Str.join sep ps).length < sep.length
  · rw [if_pos (by rw [decide_eq_true hl]; rfl)]
    cases ps with
    | nil => exact absurd rfl ne
    | cons p r =>
      cases r with
      | nil => rfl
      | cons q t =>
        have := congrArg List.length (drop_join (sep := sep) (p := p) (q := q) (r := t))
        rw [List.length_append, List.length_append, L_len, L_len, L_len] at this
        omega
  · rw [if_neg (by rw [decide_eq_false hl, decide_eq_false k1]; decide)]
    by_cases he : (occurrences (Str.join sep ps) sep 0 (Str.join sep ps).length ((Str.join sep ps).length + 1)).isEmpty = true
    · rw [if_pos he]
      rw [List.isEmpty_iff.mp he] at key
      refine Eq.trans ?_ key
      show [Str.join sep ps] = [strSub (Str.join sep ps) 0 (Str.join sep ps).length]
      rw [L_inj (a := strSub (Str.join sep ps) 0 (Str.join sep ps).length) (b := Str.join sep ps) (by rw [L_sub, List.drop_zero]; exact List.take_of_length_le (by rw [L_len]; exact Nat.le_refl _))]
    · rw [if_neg he, partsBetween_eq]
      exact key
end TxL
set_option Elab.async false
set_option linter.all false
set_option maxRecDepth 100000
set_option maxHeartbeats 4000000
set_option pp.maxSteps 1500
namespace Lay
open PySem TxL
/-! Reading rows, as plain functions: a value, or the row that is refused. -/
abbrev Rd (α : Type) := Except Nat α
def rowR (rows : List Str) (i : Nat) : Rd Str := match rows[i]? with
  | some r => .ok r
  | none => .error i
def blanksR (rows : List Str) (i : Nat) : Rd Nat := match rowR rows i with
  | .error e => .error e
  | .ok r => if r.length ≠ 0 then .ok 0 else match rowR rows (i + 1) with
    | .error e => .error e
    | .ok r2 => if r2.length ≠ 0 then .ok 1 else .ok 2
def aheadR (rows : List Str) (i : Nat) : Rd Str := match rowR rows i with
  | .error e => .error e
  | .ok r => if Txt.startswith r "# " = true then (if nameB (Txt.removeprefix r "# ") = true then .ok (Txt.removeprefix r "# ") else .error i) else .ok (Str.ofString "")
def headR (rows : List Str) (i : Nat) : Rd (Str × Bool × Str) := match rowR rows i with
  | .error e => .error e
  | .ok r => let p := Txt.partition (Txt.removeprefix r "!") "("
    if p.2.1.length = 0 ∨ nameB p.1 = false then .error i else .ok (p.1, Txt.startswith r "!", p.2.2)
def remarkR (t : Str) (i : Nat) : Rd (Str × Str) := let p := Txt.partition t "  # "
  if p.2.1.length ≠ 0 ∧ nameB p.2.2 = false then .error i else .ok (p.1, p.2.2)
def flatR (rest : Str) (i : Nat) : Rd (List Str × Bool × Str × Nat) := match remarkR rest i with
  | .error e => .error e
  | .ok (body, behind) => let inside := Txt.removesuffix body ")"
    let parts := Txt.split (Txt.removesuffix inside ",") ", "
    if Txt.endswith body ")" = false ∨ parts.all nameB = false then .error i else .ok (parts, Txt.endswith inside ",", behind, i + 1)
def itemR (rows : List Str) (i : Nat) : Rd (Str × Bool) := match rowR rows i with
  | .error e => .error e
  | .ok r => let p := Txt.removesuffix (Txt.removeprefix r "  ") ","
    if Txt.startswith r "  " = false ∨ nameB p = false then .error i else .ok (p, Txt.endswith r ",")
/-- the items from row i on; n rows at most -/
def itemsR (rows : List Str) : Nat → Nat → Rd (List Str × Bool)
  | 0, i => .error i
  | n + 1, i => match itemR rows i with
    | .error e => .error e
    | .ok (p, false) => .ok ([p], false)
    | .ok (p, true) => match rowR rows (i + 1) with
      | .error e => .error e
      | .ok r => if Txt.startswith r "  " = false then .ok ([p], true) else match itemsR rows n (i + 1) with
        | .error e => .error e
        | .ok (ps, c) => .ok (p :: ps, c)
def brokenR (rows : List Str) (i : Nat) : Rd (List Str × Bool × Str × Nat) := match itemsR rows rows.length i with
  | .error e => .error e
  | .ok (ps, c) => match rowR rows (i + ps.length) with
    | .error e => .error e
    | .ok r => match remarkR r (i + ps.length) with
      | .error e => .error e
      | .ok (body, behind) => if body = Str.ofString ")" then .ok (ps, c, behind, i + ps.length + 1) else .error (i + ps.length)
def pieceR (rows : List Str) (i : Nat) : Rd (PD × Nat) := match blanksR rows i with
  | .error e => .error e
  | .ok b => match aheadR rows (i + b) with
    | .error e => .error e
    | .ok a => let j := if a.length ≠ 0 then i + b + 1 else i + b
      match headR rows j with
      | .error e => .error e
      | .ok (w, l, rest) => if rest.length = 0 then (match brokenR rows (j + 1) with
          | .error e => .error e
          | .ok (ps, m, h, k) => .ok (⟨w, ps, true, m, a, h, b, l⟩, k))
        else (match flatR rest j with
          | .error e => .error e
          | .ok (ps, m, h, k) => .ok (⟨w, ps, false, m, a, h, b, l⟩, k))
/-- the pieces from row i on; n at most -/
def piecesR (rows : List Str) : Nat → Nat → Rd (List PD)
  | 0, i => if i < rows.length then .error i else .ok []
  | n + 1, i => if i < rows.length then (match pieceR rows i with
      | .error e => .error e
      | .ok (d, k) => match piecesR rows n k with
        | .error e => .error e
        | .ok ds => .ok (d :: ds)) else .ok []
/-! ### what is told is read -/
theorem name_az {z : Str} (h : nameB z = true) : 0 < z.length ∧ ∀ c ∈ L z, 97 ≤ c ∧ c ≤ 122 := by
  rw [nameB_eq, Bool.and_eq_true, Bool.and_eq_true, decide_eq_true_iff, decide_eq_true_iff, Array.all_eq_true'] at h
  exact ⟨h.2.1, fun c hc => az_iff.mp (h.2.2 c (by simpa [L] using hc))⟩
theorem name_free {z : Str} (h : nameB z = true) {c : Nat} (hc : ¬ (97 ≤ c ∧ c ≤ 122)) : c ∉ L z := fun hm => hc ((name_az h).2 c hm)
theorem name_first {z : Str} (h : nameB z = true) (y : List Nat) {c : Nat} (hc : ¬ (97 ≤ c ∧ c ≤ 122)) : (L z ++ y)[0]? ≠ some c := by
  have h1 := (name_az h).1
  rw [List.getElem?_append_left (by rw [L_len]; exact h1)]
  exact free_get (name_free h hc)
theorem name_last {z : Str} (h : nameB z = true) (y : List Nat) {c : Nat} (hc : ¬ (97 ≤ c ∧ c ≤ 122)) : (y ++ L z).getLast? ≠ some c := by
  have h1 := (name_az h).1
  rw [← L_len] at h1
  rw [List.getLast?_append]
  cases e : (L z).getLast? with
  | none =>
    rw [List.getLast?_eq_none_iff.mp e] at h1
    exact absurd h1 (by decide)
  | some x =>
    intro q
    have q2 : x = c := by simpa using q
    subst q2
    exact hc ((name_az h).2 x (List.mem_of_getLast? e))
theorem join_free {sep : Str} {c : Nat} (hs : c ∉ L sep) : ∀ {ps : List Str}, (∀ p ∈ ps, c ∉ L p) → c ∉ L (Str.join sep ps)
  | [], _ => by
    show c ∉ L Str.empty
    simp [L, Str.empty]
  | [p], h => h p List.mem_cons_self
  | p :: q :: r, h => by
    rw [drop_join]
    simp only [List.mem_append, not_or]
    exact ⟨h p List.mem_cons_self, hs, join_free hs fun z hz => h z (List.mem_cons_of_mem _ hz)⟩
theorem join_last {sep : Str} {c : Nat} (hc : ¬ (97 ≤ c ∧ c ≤ 122)) : ∀ {ps : List Str}, ps ≠ [] → (∀ p ∈ ps, nameB p = true) → 0 < (L (Str.join sep ps)).length ∧ (L (Str.join sep ps)).getLast? ≠ some c
  | [], h, _ => absurd rfl h
  | [p], _, h => by
    have h1 := h p List.mem_cons_self
    refine ⟨by show 0 < (L p).length; rw [L_len]; exact (name_az h1).1, ?_⟩
    have := name_last h1 [] hc
    show (L p).getLast? ≠ some c
    simpa using this
  | p :: q :: r, _, h => by
    obtain ⟨a, b⟩ := join_last (sep := sep) hc (ps := q :: r) (by simp) fun z hz => h z (List.mem_cons_of_mem _ hz)
    rw [drop_join]
    refine ⟨by rw [List.length_append, List.length_append]; omega, ?_⟩
    rw [List.getLast?_append, List.getLast?_append]
    cases e : (L (Str.join sep (q :: r))).getLast? with
    | none =>
      rw [List.getLast?_eq_none_iff.mp e] at a
      exact absurd a (by decide)
    | some x =>
      rw [e] at b
      simpa using b
theorem joinT (sep : Str) (ps : List Str) : Txt.join sep ps = Str.join sep ps := StrLaws.glued_eq_join sep ps
theorem empty_of {z : Str} (h : z.length = 0) : z = Str.ofString "" := L_inj (by
  have := L_len z
  rw [h] at this
  rw [List.length_eq_zero_iff.mp this]
  decide +kernel)
/-- the row, from row i of the rows on -/
theorem row_of {rows rest : List Str} {r : Str} {i : Nat} (h : rows.drop i = r :: rest) : rowR rows i = .ok r := by
  unfold rowR
  have : rows[i]? = some r := by rw [show i = i + 0 by omega, ← List.getElem?_drop, h]; rfl
  rw [this]
theorem next_of {rows rest : List Str} {r : Str} {i : Nat} (h : rows.drop i = r :: rest) : rows.drop (i + 1) = rest := by
  rw [← List.drop_drop, h]
  rfl
/-- a head row: sign, word, paren, rest -/
theorem head_read {rows post : List Str} {i : Nat} {l : Bool} {w rest : Str} (hw : nameB w = true) (h : rows.drop i = (((if l = true then Str.ofString "!" else Str.ofString "") ++ w) ++ Str.ofString "(" ++ rest) :: post) : headR rows i = .ok (w, l, rest) := by
  unfold headR
  rw [row_of h]
  have e1 : Txt.removeprefix (((if l = true then Str.ofString "!" else Str.ofString "") ++ w) ++ Str.ofString "(" ++ rest) "!" = w ++ Str.ofString "(" ++ rest ∧ Txt.startswith (((if l = true then Str.ofString "!" else Str.ofString "") ++ w) ++ Str.ofString "(" ++ rest) "!" = l := by
    cases l with
    | true =>
      simp only [if_true]
      rw [Str.append_assoc, Str.append_assoc, ← Str.append_assoc w]
      exact ⟨pre_app _ _, start_app _ _⟩
    | false =>
      simp only [Bool.false_eq_true, if_false]
      have ee : Str.ofString "" ++ w = w := Str.empty_append w
      rw [ee]
      have s : Txt.startswith (w ++ Str.ofString "(" ++ rest) "!" = false := start_no (c := 33) (by decide +kernel) (by rw [L_app, L_app, List.append_assoc]; exact name_first hw _ (by decide))
      exact ⟨pre_no s, s⟩
  have e2 : Txt.partition (w ++ Str.ofString "(" ++ rest) "(" = (w, Str.ofString "(", rest) := part_at (j := 0) (c := 40) (by decide +kernel) (fun i hi => absurd hi (by omega)) (name_free hw (by decide))
  simp only [e1.1, e1.2, e2]
  rw [if_neg (by rw [hw]; decide)]
theorem remark_read {body b : Str} {i : Nat} (fr : 35 ∉ L body) (hb : remarkB b = true) : remarkR (if b.length = 0 then body else body ++ Str.ofString "  # " ++ b) i = .ok (body, b) := by
  unfold remarkR
  by_cases h : b.length = 0
  · rw [if_pos h]
    have e : Txt.partition body "  # " = (body, Str.empty, Str.empty) := part_no (c := 35) (by decide +kernel) fr
    simp only [e]
    rw [if_neg (by decide), empty_of h]
    rfl
  · rw [if_neg h]
    have e : Txt.partition (body ++ Str.ofString "  # " ++ b) "  # " = (body, Str.ofString "  # ", b) := part_at (j := 2) (c := 35) (by decide +kernel) (fun i hi => by
      rcases (show i = 0 ∨ i = 1 by omega) with rfl | rfl <;> decide +kernel) fr
    simp only [e]
    have hn : nameB b = true := by
      unfold remarkB at hb
      rcases Bool.or_eq_true_iff.mp hb with z | z
      · have e : b = ("" : Str) := L2.V.str.inj (of_decide_eq_true z)
        rw [e] at h
        exact absurd (by decide) h
      · exact z
    rw [if_neg (by rw [hn]; simp)]
theorem split_parts {ps : List Str} (ne : ps ≠ []) (hp : ∀ p ∈ ps, nameB p = true) : Txt.split (Txt.join ", " ps) ", " = ps :=
  split_join (c := 44) (by decide +kernel) (by decide +kernel) ne fun p h => name_free (hp p h) (by decide)
theorem all_names {ps : List Str} (hp : ∀ p ∈ ps, nameB p = true) : ps.all nameB = true := List.all_eq_true.mpr hp
theorem flat_read {ps : List Str} {m : Bool} {b : Str} {i : Nat} (ne : ps ≠ []) (hp : ∀ p ∈ ps, nameB p = true) (hb : remarkB b = true) :
    flatR ((Txt.join ", " ps ++ (if m = true then Str.ofString "," else Str.ofString "")) ++ (if b.length = 0 then Str.ofString ")" else (Str.empty ++ Str.ofString ")  # ") ++ b)) i = .ok (ps, m, b, i + 1) := by
  have ej : Txt.join ", " ps = Str.join ", " ps := joinT _ _
  have fr : 35 ∉ L (Txt.join ", " ps) := by
    rw [ej]
    exact join_free (by decide +kernel) fun p h => name_free (hp p h) (by decide)
  have body : ∀ cs : Str, 35 ∉ L cs → remarkR ((Txt.join ", " ps ++ cs) ++ (if b.length = 0 then Str.ofString ")" else (Str.empty ++ Str.ofString ")  # ") ++ b)) i = .ok ((Txt.join ", " ps ++ cs) ++ Str.ofString ")", b) := fun cs hc => by
    have e : ((Txt.join ", " ps ++ cs) ++ (if b.length = 0 then Str.ofString ")" else (Str.empty ++ Str.ofString ")  # ") ++ b)) = (if b.length = 0 then (Txt.join ", " ps ++ cs) ++ Str.ofString ")" else ((Txt.join ", " ps ++ cs) ++ Str.ofString ")") ++ Str.ofString "  # " ++ b) := by
      split
      · rfl
      · rw [Str.empty_append, show Str.ofString ")  # " = Str.ofString ")" ++ Str.ofString "  # " by decide +kernel]
        simp only [Str.append_assoc]
    rw [e]
    refine remark_read ?_ hb
    rw [L_app, L_app, List.mem_append, List.mem_append]
    rintro ((h | h) | h)
    · exact fr h
    · exact hc h
    · revert h
      decide +kernel
  unfold flatR
  cases m with
  | true =>
    simp only [if_true]
    rw [body _ (by decide +kernel)]
    simp only [suf_app, end_app]
    rw [split_parts ne hp, all_names hp, if_neg (by decide)]
  | false =>
    simp only [Bool.false_eq_true, if_false]
    rw [body _ (by decide +kernel)]
    have ee : Txt.join ", " ps ++ Str.ofString "" = Txt.join ", " ps := Str.append_empty _
    have en : Txt.endswith (Txt.join ", " ps) "," = false := end_no (c := 44) (by rw [ej]; exact (join_last (by decide) ne hp).2)
    simp only [suf_app, end_app]
    rw [ee, suf_no en, split_parts ne hp, all_names hp, if_neg (by decide), en]
/-! rows of a broken piece -/
theorem item_read {rows post : List Str} {z : Str} {m : Bool} {i : Nat} (hz : nameB z = true) (h : rows.drop i = (((Str.empty ++ Str.ofString "  ") ++ z) ++ (if m = true then Str.ofString "," else Str.ofString "")) :: post) : itemR rows i = .ok (z, m) := by
  unfold itemR
  rw [row_of h, Str.empty_append]
  cases m with
  | true =>
    simp only [if_true]
    rw [Str.append_assoc]
    simp only [pre_app, start_app, suf_app]
    rw [if_neg (by rw [hz]; decide), ← Str.append_assoc, end_app]
  | false =>
    simp only [Bool.false_eq_true, if_false]
    have ee : Str.ofString "  " ++ z ++ Str.ofString "" = Str.ofString "  " ++ z := Str.append_empty _
    have e1 : Txt.endswith z "," = false := end_no (c := 44) (by have := name_last hz [] (c := 44) (by decide); simpa using this)
    have e2 : Txt.endswith (Str.ofString "  " ++ z) "," = false := end_no (c := 44) (by rw [L_app]; exact name_last hz _ (by decide))
    rw [ee]
    simp only [pre_app, start_app]
    rw [suf_no e1, if_neg (by rw [hz]; decide), e2]
theorem items_read {rows post : List Str} {m : Bool} {t : Str} (ht : Txt.startswith t "  " = false) : ∀ (ps : List Str) (n i : Nat), ps ≠ [] → ps.length ≤ n → (∀ p ∈ ps, nameB p = true) →
    rows.drop i = (ps.dropLast.map itemS ++ [((Str.empty ++ Str.ofString "  ") ++ ps.getLastD Str.empty) ++ (if m = true then Str.ofString "," else Str.ofString "")]) ++ t :: post → itemsR rows n i = .ok (ps, m)
  | [], _, _, h, _, _, _ => absurd rfl h
  | p :: r, 0, _, _, h, _, _ => absurd h (by simp)
  | [p], n + 1, i, _, _, hp, h => by
    have h1 : rows.drop i = (((Str.empty ++ Str.ofString "  ") ++ p) ++ (if m = true then Str.ofString "," else Str.ofString "")) :: t :: post := h
    unfold itemsR
    rw [item_read (hp p List.mem_cons_self) h1]
    cases m with
    | false => rfl
    | true =>
      have h2 := next_of h1
      simp only
      rw [row_of h2]
      simp only
      rw [if_pos ht]
  | p :: q :: r, n + 1, i, _, hn, hp, h => by
    have h1 : rows.drop i = (((Str.empty ++ Str.ofString "  ") ++ p) ++ (if true = true then Str.ofString "," else Str.ofString "")) :: (((q :: r).dropLast.map itemS ++ [((Str.empty ++ Str.ofString "  ") ++ (q :: r).getLastD Str.empty) ++ (if m = true then Str.ofString "," else Str.ofString "")]) ++ t :: post) := h
    have h2 := next_of h1
    have ih := items_read ht (q :: r) n (i + 1) (by simp) (by simp at hn ⊢; omega) (fun z hz => hp z (List.mem_cons_of_mem _ hz)) h2
    unfold itemsR
    rw [item_read (m := true) (hp p List.mem_cons_self) h1]
    simp only
    have row : ∃ x rest, rows.drop (i + 1) = x :: rest ∧ Txt.startswith x "  " = true := by
      rw [h2]
      cases r with
      | nil =>
        refine ⟨_, _, rfl, ?_⟩
        show Txt.startswith (((Str.empty ++ Str.ofString "  ") ++ q) ++ _) "  " = true
        rw [Str.empty_append, Str.append_assoc]
        exact start_app _ _
      | cons a b =>
        refine ⟨itemS q, _, rfl, ?_⟩
        unfold itemS
        rw [Str.empty_append, Str.append_assoc]
        exact start_app _ _
    obtain ⟨x, rest, hx, sx⟩ := row
    rw [row_of hx]
    simp only
    rw [if_neg (by rw [sx]; decide), ih]
theorem nx_drop {rows a b : List Str} {i : Nat} (h : rows.drop i = a ++ b) : rows.drop (i + a.length) = b := by
  rw [← List.drop_drop, h, List.drop_left]
theorem rows_len {rows a b : List Str} {i : Nat} (h : rows.drop i = a ++ b) : a.length ≤ rows.length := by
  have := congrArg List.length h
  rw [List.length_drop, List.length_append] at this
  omega
theorem mine_len (ps : List Str) (ne : ps ≠ []) (x : Str) : (ps.dropLast.map itemS ++ [x]).length = ps.length := by
  rw [List.length_append, List.length_map, List.length_dropLast]
  have : 0 < ps.length := List.length_pos_iff.mpr ne
  show ps.length - 1 + 1 = _
  omega
theorem tail_start {b : Str} : Txt.startswith (if b.length = 0 then Str.ofString ")" else (Str.empty ++ Str.ofString ")  # ") ++ b) "  " = false := by
  refine start_no (c := 32) (by decide +kernel) ?_
  split
  · decide +kernel
  · rw [Str.empty_append, L_app, List.getElem?_append_left (by decide +kernel)]
    decide +kernel
theorem broken_read {rows post : List Str} {ps : List Str} {m : Bool} {b : Str} {i : Nat} (ne : ps ≠ []) (hp : ∀ p ∈ ps, nameB p = true) (hb : remarkB b = true)
    (h : rows.drop i = (ps.dropLast.map itemS ++ [((Str.empty ++ Str.ofString "  ") ++ ps.getLastD Str.empty) ++ (if m = true then Str.ofString "," else Str.ofString "")]) ++ (if b.length = 0 then Str.ofString ")" else (Str.empty ++ Str.ofString ")  # ") ++ b) :: post) : brokenR rows i = .ok (ps, m, b, i + ps.length + 1) := by
  unfold brokenR
  have ln := mine_len ps ne (((Str.empty ++ Str.ofString "  ") ++ ps.getLastD Str.empty) ++ (if m = true then Str.ofString "," else Str.ofString ""))
  have few : ps.length ≤ rows.length := by
    have := rows_len h
    rw [ln] at this
    exact this
  rw [items_read tail_start ps rows.length i ne few hp h]
  simp only
  have h2 := nx_drop h
  rw [ln] at h2
  rw [row_of h2]
  simp only
  have e : (if b.length = 0 then Str.ofString ")" else (Str.empty ++ Str.ofString ")  # ") ++ b) = (if b.length = 0 then Str.ofString ")" else Str.ofString ")" ++ Str.ofString "  # " ++ b) := by
    split
    · rfl
    · rw [Str.empty_append, show Str.ofString ")  # " = Str.ofString ")" ++ Str.ofString "  # " by decide +kernel]
  rw [e, remark_read (by decide +kernel) hb]
  simp only
  rw [if_pos trivial]
theorem blanks_read {rows post : List Str} {b i : Nat} {z : Str} (hb : b ≤ 2) (hz : z.length ≠ 0) (h : rows.drop i = List.replicate b (Str.ofString "") ++ z :: post) : blanksR rows i = .ok b := by
  unfold blanksR
  have e0 : ¬ (Str.ofString "").length ≠ 0 := by decide
  rcases (show b = 0 ∨ b = 1 ∨ b = 2 by omega) with rfl | rfl | rfl
  · have h1 : rows.drop i = z :: post := h
    rw [row_of h1]
    simp only
    rw [if_pos hz]
  · have h1 : rows.drop i = Str.ofString "" :: z :: post := h
    rw [row_of h1]
    simp only
    rw [if_neg e0, row_of (next_of h1)]
    simp only
    rw [if_pos hz]
  · have h1 : rows.drop i = Str.ofString "" :: Str.ofString "" :: z :: post := h
    rw [row_of h1]
    simp only
    rw [if_neg e0, row_of (next_of h1)]
    simp only
    rw [if_neg e0]
theorem first_no {l : Bool} {w y : Str} (hw : nameB w = true) : Txt.startswith (((if l = true then Str.ofString "!" else Str.ofString "") ++ w) ++ y) "# " = false := by
  refine start_no (c := 35) (by decide +kernel) ?_
  cases l with
  | true =>
    simp only [if_true]
    rw [Str.append_assoc, L_app, List.getElem?_append_left (by decide +kernel)]
    decide +kernel
  | false =>
    simp only [Bool.false_eq_true, if_false]
    have ee : Str.ofString "" ++ w = w := Str.empty_append w
    rw [ee, L_app]
    exact name_first hw _ (by decide)
theorem rem_name {b : Str} (hb : remarkB b = true) (h : b.length ≠ 0) : nameB b = true := by
  unfold remarkB at hb
  rcases Bool.or_eq_true_iff.mp hb with z | z
  · have e : b = ("" : Str) := L2.V.str.inj (of_decide_eq_true z)
    rw [e] at h
    exact absurd (by decide) h
  · exact z
theorem headS_is (d : PD) : headS d = ((if d.left = true then Str.ofString "!" else Str.ofString "") ++ d.word) ++ Str.ofString "(" := by
  unfold headS signS
  rw [Str.empty_append]
/-- a piece's rows, read -/
theorem piece_read {rows post : List Str} {d : PD} {i : Nat} (o : d.Ok) (h : rows.drop i = rowsS d ++ post) : pieceR rows i = .ok (d, i + (rowsS d).length) := by
  have ne : d.parts ≠ [] := fun z => by
    have := o.some
    rw [z] at this
    exact absurd this (by decide)
  have hb2 : d.blanks.toNat ≤ 2 := by have := o.b3; omega
  unfold rowsS at h
  rw [List.append_assoc] at h
  have hd0 : (headS d).length ≠ 0 := by
    unfold headS
    rw [Str.length_append]
    have : (Str.ofString "(").length = 1 := by decide
    omega
  -- the first row that is not blank
  have first : ∃ z rest, remarkS d ++ bodyS d ++ post = z :: rest ∧ z.length ≠ 0 := by
    unfold remarkS
    split
    · unfold bodyS
      split
      · exact ⟨_, _, rfl, hd0⟩
      · refine ⟨_, _, rfl, ?_⟩
        rw [Str.length_append, Str.length_append, Str.length_append]
        omega
    · refine ⟨_, _, rfl, ?_⟩
      rw [Str.length_append, Str.length_append]
      have : (Str.ofString "# ").length = 2 := by decide
      omega
  obtain ⟨z, rest, ez, hz⟩ := first
  have hbl : blanksR rows i = .ok d.blanks.toNat := blanks_read hb2 hz (by rw [h, ez])
  have h1 : rows.drop (i + d.blanks.toNat) = remarkS d ++ bodyS d ++ post := by
    have := nx_drop h
    rw [List.length_replicate] at this
    exact this
  -- the remark above
  have key : aheadR rows (i + d.blanks.toNat) = .ok d.ahead ∧ rows.drop (if d.ahead.length ≠ 0 then i + d.blanks.toNat + 1 else i + d.blanks.toNat) = bodyS d ++ post := by
    unfold remarkS at h1
    by_cases e : d.ahead.length = 0
    · rw [if_pos e] at h1
      rw [if_neg (by rw [e]; decide)]
      refine ⟨?_, h1⟩
      have hr : ∃ y rest, bodyS d ++ post = (headS d ++ y) :: rest := by
        unfold bodyS
        split
        · exact ⟨Str.ofString "", _, by rw [show headS d ++ Str.ofString "" = headS d from Str.append_empty _]; rfl⟩
        · exact ⟨_, _, by rw [Str.append_assoc, Str.append_assoc]; rfl⟩
      obtain ⟨y, rest, er⟩ := hr
      have h2 : rows.drop (i + d.blanks.toNat) = (headS d ++ y) :: rest := by rw [h1]; exact er
      unfold aheadR
      rw [row_of h2]
      simp only
      rw [if_neg (by
        rw [headS_is, Str.append_assoc, first_no o.word]
        decide), ← empty_of e]
    · rw [if_neg e] at h1
      rw [if_pos e]
      have h2 : rows.drop (i + d.blanks.toNat) = ((Str.empty ++ Str.ofString "# ") ++ d.ahead) :: (bodyS d ++ post) := h1
      refine ⟨?_, next_of h2⟩
      unfold aheadR
      rw [row_of h2, Str.empty_append]
      simp only
      rw [if_pos (start_app _ _), pre_app, if_pos (rem_name o.ahead e)]
  unfold pieceR
  rw [hbl]
  simp only
  rw [key.1]
  simp only
  generalize hj : (if d.ahead.length ≠ 0 then i + d.blanks.toNat + 1 else i + d.blanks.toNat) = j at key ⊢
  have hlen : i + (rowsS d).length = j + (bodyS d).length := by
    unfold rowsS remarkS
    rw [List.length_append, List.length_append, List.length_replicate, ← hj]
    split <;> rename_i q <;> simp [q] <;> omega
  have hk := key.2
  have bl : ((d.blanks.toNat : Nat) : Int) = d.blanks := Int.toNat_of_nonneg o.b0
  unfold bodyS at hk hlen
  by_cases hbr : d.broken = true
  · rw [if_pos hbr] at hk hlen
    have h3 : rows.drop j = (((if d.left = true then Str.ofString "!" else Str.ofString "") ++ d.word) ++ Str.ofString "(" ++ Str.ofString "") :: ((d.parts.dropLast.map itemS) ++ [lastS d (d.parts.getLastD Str.empty), tailS d] ++ post) := by
      rw [show ∀ x : Str, x ++ Str.ofString "" = x from Str.append_empty, ← headS_is]
      exact hk
    rw [head_read o.word h3]
    simp only
    rw [if_pos (by decide)]
    have h4 := next_of h3
    have h5 : rows.drop (j + 1) = (d.parts.dropLast.map itemS ++ [((Str.empty ++ Str.ofString "  ") ++ d.parts.getLastD Str.empty) ++ (if d.marked = true then Str.ofString "," else Str.ofString "")]) ++ (if d.behind.length = 0 then Str.ofString ")" else (Str.empty ++ Str.ofString ")  # ") ++ d.behind) :: post := by
      rw [h4]
      unfold lastS commaS tailS
      simp only [List.append_assoc, List.cons_append, List.nil_append]
    rw [broken_read ne o.parts o.behind h5]
    simp only
    rw [hlen, List.length_cons, List.length_append, List.length_map, List.length_dropLast, bl]
    have l0 := o.some
    refine congrArg Except.ok (Prod.ext ?_ ?_)
    · show _ = d
      rw [show true = d.broken from hbr.symm]
    · show j + 1 + d.parts.length + 1 = j + (d.parts.length - 1 + 2 + 1)
      omega
  · rw [if_neg hbr] at hk hlen
    have h3 : rows.drop j = (((if d.left = true then Str.ofString "!" else Str.ofString "") ++ d.word) ++ Str.ofString "(" ++ ((Txt.join ", " d.parts ++ commaS d) ++ tailS d)) :: post := by
      rw [← headS_is, ← Str.append_assoc, ← Str.append_assoc]
      exact hk
    rw [head_read o.word h3]
    simp only
    have pos : ¬ ((Txt.join ", " d.parts ++ commaS d) ++ tailS d).length = 0 := by
      have := (join_last (sep := ", ") (c := 44) (by decide) ne o.parts).1
      rw [L_len, ← joinT] at this
      rw [Str.length_append, Str.length_append]
      omega
    rw [if_neg pos]
    have e : flatR ((Txt.join ", " d.parts ++ commaS d) ++ tailS d) j = .ok (d.parts, d.marked, d.behind, j + 1) := flat_read ne o.parts o.behind
    rw [e]
    simp only
    rw [hlen, bl]
    refine congrArg Except.ok (Prod.ext ?_ ?_)
    · show _ = d
      rw [show false = d.broken by simpa using hbr]
    · rfl
theorem rowsS_pos (d : PD) : 0 < (rowsS d).length := by
  unfold rowsS bodyS
  rw [List.length_append, List.length_append]
  split
  · rw [List.length_cons]
    omega
  · show 0 < _ + (_ + 1)
    omega
theorem pieces_read {rows : List Str} : ∀ (ds : List PD) (n i : Nat), ds.length ≤ n → (∀ d ∈ ds, d.Ok) → rows.drop i = (ds.map rowsS).flatten → piecesR rows n i = .ok ds
  | [], n, i, _, _, h => by
    have e : ¬ i < rows.length := fun hl => by
      have := congrArg List.length h
      rw [List.length_drop] at this
      simp at this
      omega
    cases n <;> (unfold piecesR; rw [if_neg e])
  | d :: ds, 0, i, h, _, _ => absurd h (by simp)
  | d :: ds, n + 1, i, hn, ho, h => by
    rw [List.map_cons, List.flatten_cons] at h
    have lt : i < rows.length := by
      have := congrArg List.length h
      rw [List.length_drop, List.length_append] at this
      have := rowsS_pos d
      omega
    unfold piecesR
    rw [if_pos lt, piece_read (ho d List.mem_cons_self) h]
    simp only
    rw [pieces_read ds n _ (by simp at hn ⊢; omega) (fun e he => ho e (List.mem_cons_of_mem _ he)) (nx_drop h)]
end Lay
set_option Elab.async false
set_option linter.all false
set_option maxRecDepth 100000
set_option maxHeartbeats 4000000
set_option pp.maxSteps 900
namespace Lay
open PySem PySem.Spec PyProof.Rows L2
/-! the defs that read, where what they read is read -/
def RowsAt (K : PySem.W.Frag) (H : Hp) (l : Addr) (rows : List Str) : Prop := SqL K H l (rows.map V.str) ∧ ∀ r ∈ rows, r.length ≤ 1000000
theorem RowsAt.same {K : PySem.W.Frag} {H H' : Hp} {l : Addr} {rows : List Str} (s : Same H H') (h : RowsAt K H l rows) : RowsAt K H' l rows := ⟨s.seq h.1, h.2⟩
theorem rowR_ok {rows : List Str} {i : Nat} {r : Str} (h : rowR rows i = .ok r) : rows[i]? = some r := by
  unfold rowR at h
  split at h
  · cases h
    assumption
  · cases h
theorem atI_nat {xs : List V} {i : Nat} {v : V} (h : xs[i]? = some v) : atI xs (i : Int) = some v := by
  have hl := (List.getElem?_eq_some_iff.mp h).1
  unfold atI ixN
  rw [if_pos (by omega)]
  show (if (i : Int) < xs.length then some (Int.toNat i) else none).bind _ = _
  rw [if_pos (by omega)]
  exact h
theorem str_e0 {z : Str} : decide (V.str z = V.str "") = decide (z.length = 0) := by
  by_cases h : z.length = 0
  · rw [empty_of h]
    decide +kernel
  · rw [decide_eq_false h]
    refine decide_eq_false fun e => h ?_
    have e2 : z = ("" : Str) := V.str.inj e
    rw [e2]
    decide
theorem pre_len (x y : Str) : (Txt.removeprefix x y).length ≤ x.length := by
  rw [StrLaws.removeprefix_eq]
  split
  · rw [← TxL.L_len]
    show ((x.cps.toList.drop y.length).take (x.length - y.length)).toArray.toList.length ≤ _
    rw [List.toList_toArray, List.length_take]
    omega
  · exact Nat.le_refl _
theorem suf_len (x y : Str) : (Txt.removesuffix x y).length ≤ x.length := by
  rw [StrLaws.removesuffix_eq]
  split
  · rw [← TxL.L_len]
    show ((x.cps.toList.drop 0).take (x.length - y.length - 0)).toArray.toList.length ≤ _
    rw [List.toList_toArray, List.length_take]
    omega
  · exact Nat.le_refl _
theorem sub_len (x : Str) (i j : Nat) : (Builtin.Str.strSub x i j).length ≤ x.length := by
  rw [← TxL.L_len, TxL.L_sub, List.length_take, List.length_drop, TxL.L_len]
  omega
theorem part_len (x y : Str) : (Txt.partition x y).1.length ≤ x.length ∧ (Txt.partition x y).2.2.length ≤ x.length := by
  unfold Txt.partition
  split
  · exact ⟨sub_len _ _ _, sub_len _ _ _⟩
  · exact ⟨Nat.le_refl _, by show 0 ≤ _; exact Nat.zero_le _⟩
theorem RowsAt.len {K : PySem.W.Frag} {H : Hp} {l : Addr} {rows : List Str} {i : Nat} {r : Str} (h : RowsAt K H l rows) (g : rowR rows i = .ok r) : r.length ≤ 1000000 := h.2 r (List.mem_of_getElem? (rowR_ok g))
theorem blanks_facts {rows : List Str} {i b : Nat} (h : blanksR rows i = .ok b) : b ≤ 2 ∧ (∀ c, c < b → ∃ r, rowR rows (i + c) = .ok r ∧ r.length = 0) ∧ (b < 2 → ∃ r, rowR rows (i + b) = .ok r ∧ r.length ≠ 0) := by
  unfold blanksR at h
  split at h
  · cases h
  · rename_i r hr
    split at h
    · cases h
      rename_i q
      exact ⟨by decide, fun c hc => absurd hc (by omega), fun _ => ⟨r, hr, q⟩⟩
    · rename_i q
      have q0 : r.length = 0 := by omega
      split at h
      · cases h
      · rename_i r2 hr2
        split at h
        · cases h
          rename_i q2
          refine ⟨by decide, fun c hc => ?_, fun _ => ⟨r2, hr2, q2⟩⟩
          obtain rfl : c = 0 := by omega
          exact ⟨r, hr, q0⟩
        · cases h
          rename_i q2
          refine ⟨by decide, fun c hc => ?_, fun hc => absurd hc (by decide)⟩
          rcases (show c = 0 ∨ c = 1 by omega) with rfl | rfl
          · exact ⟨r, hr, q0⟩
          · exact ⟨r2, hr2, by omega⟩
theorem ahead_facts {rows : List Str} {i : Nat} {a : Str} (h : aheadR rows i = .ok a) : ∃ r, rowR rows i = .ok r ∧ ((Txt.startswith r "# " = true ∧ nameB (Txt.removeprefix r "# ") = true ∧ a = Txt.removeprefix r "# ") ∨ (Txt.startswith r "# " = false ∧ a = Str.ofString "")) := by
  unfold aheadR at h
  split at h
  · cases h
  · rename_i r hr
    refine ⟨r, hr, ?_⟩
    split at h
    · rename_i q
      split at h
      · rename_i n
        cases h
        exact .inl ⟨q, n, rfl⟩
      · cases h
    · rename_i q
      cases h
      exact .inr ⟨by simpa using q, rfl⟩
theorem head_facts {rows : List Str} {i : Nat} {w : Str} {b : Bool} {s : Str} (h : headR rows i = .ok (w, b, s)) : ∃ r, rowR rows i = .ok r ∧ (Txt.partition (Txt.removeprefix r "!") "(").2.1.length ≠ 0 ∧ nameB (Txt.partition (Txt.removeprefix r "!") "(").1 = true ∧ w = (Txt.partition (Txt.removeprefix r "!") "(").1 ∧ b = Txt.startswith r "!" ∧ s = (Txt.partition (Txt.removeprefix r "!") "(").2.2 := by
  unfold headR at h
  split at h
  · cases h
  · rename_i r hr
    simp only at h
    split at h
    · cases h
    · rename_i q
      cases h
      rw [not_or] at q
      exact ⟨r, hr, q.1, by simpa using q.2, rfl, rfl, rfl⟩
theorem remark_facts {t : Str} {i : Nat} {x y : Str} (h : remarkR t i = .ok (x, y)) : ((Txt.partition t "  # ").2.1.length = 0 ∨ nameB (Txt.partition t "  # ").2.2 = true) ∧ x = (Txt.partition t "  # ").1 ∧ y = (Txt.partition t "  # ").2.2 := by
  unfold remarkR at h
  simp only at h
  split at h
  · cases h
  · rename_i q
    cases h
    refine ⟨?_, rfl, rfl⟩
    by_cases e : (Txt.partition t "  # ").2.1.length = 0
    · exact .inl e
    · exact .inr (by
        cases n : nameB (Txt.partition t "  # ").2.2 with
        | true => rfl
        | false => exact absurd ⟨e, n⟩ q)
theorem item_facts {rows : List Str} {i : Nat} {z : Str} {c : Bool} (h : itemR rows i = .ok (z, c)) : ∃ r, rowR rows i = .ok r ∧ Txt.startswith r "  " = true ∧ nameB z = true ∧ z = Txt.removesuffix (Txt.removeprefix r "  ") "," ∧ c = Txt.endswith r "," := by
  unfold itemR at h
  split at h
  · cases h
  · rename_i r hr
    simp only at h
    split at h
    · cases h
    · rename_i q
      cases h
      rw [not_or] at q
      exact ⟨r, hr, by simpa using q.1, by simpa using q.2, rfl, rfl⟩
abbrev sRowAt : Stmt := top 23
abbrev sRBl : Stmt := top 24
abbrev sRAh : Stmt := top 25
abbrev sRHd : Stmt := top 26
abbrev sSpl : Stmt := top 27
abbrev sRFl : Stmt := top 28
abbrev sRIt : Stmt := top 29
abbrev sRBr : Stmt := top 30
abbrev sRPc : Stmt := top 31
abbrev sRPs : Stmt := top 32
def raP : List Str := ["rows", "at"]
def spRowAt (K : PySem.W.Frag) : Sp := fun vs H Q _ => ∃ (l : Addr) (rows : List Str) (i : Nat) (r : Str), vs = [.ref l, .int i] ∧ RowsAt K H l rows ∧ rowR rows i = .ok r ∧ Q (.str r) H
def spRBl (K : PySem.W.Frag) : Sp := fun vs H Q _ => ∃ (l : Addr) (rows : List Str) (i b : Nat), vs = [.ref l, .int i] ∧ RowsAt K H l rows ∧ blanksR rows i = .ok b ∧ Q (.int b) H
def spRAh (K : PySem.W.Frag) : Sp := fun vs H Q _ => ∃ (l : Addr) (rows : List Str) (i : Nat) (a : Str), vs = [.ref l, .int i] ∧ RowsAt K H l rows ∧ aheadR rows i = .ok a ∧ Q (.str a) H
def spRHd (K : PySem.W.Frag) : Sp := fun vs H Q _ => ∃ (l : Addr) (rows : List Str) (i : Nat) (w : Str) (b : Bool) (r : Str), vs = [.ref l, .int i] ∧ RowsAt K H l rows ∧ headR rows i = .ok (w, b, r) ∧ ∀ p H', Same H H' → H' p = some (.tup [.str w, .bl b, .str r]) → Q (.ref p) H'
def spSpl (K : PySem.W.Frag) : Sp := fun vs H Q _ => ∃ (t : Str) (i : Nat) (x y : Str), vs = [.str t, .int i] ∧ t.length ≤ 1000000 ∧ remarkR t i = .ok (x, y) ∧ ∀ p H', Same H H' → H' p = some (.tup [.str x, .str y]) → Q (.ref p) H'
def spRIt (K : PySem.W.Frag) : Sp := fun vs H Q _ => ∃ (l : Addr) (rows : List Str) (i : Nat) (z : Str) (c : Bool), vs = [.ref l, .int i] ∧ RowsAt K H l rows ∧ itemR rows i = .ok (z, c) ∧ ∀ p H', Same H H' → H' p = some (.tup [.str z, .bl c]) → Q (.ref p) H'
section
variable {P : Program} {w : World} {K : PySem.W.Frag} {mg : Str → Option Value} {base : Heap}
theorem scRowAt : FnScope ["rows", "at"] raP (defScope sRowAt) := ⟨rfl, rfl, rfl, by decide +kernel, rfl, by decide +kernel, by decide +kernel⟩
theorem has_rowAt (B : Bt mg) (D : Dfn K mg "row_at" sRowAt raP) : Has P w K mg base CX0 1 "row_at" raP (spRowAt K) := by
  refine D.has scRowAt (fun vs H Q E h => ?_) (fun f cdv A outer s H vs Q E hr h => ?_)
  · obtain ⟨l, rows, i, r, rfl, _⟩ := h
    rfl
  · obtain ⟨l, rows, i, r, rfl, hs, hrow, k⟩ := h
    refine ⟨_, (pss_cons (ps_if (pt_cmpR op_eq (pv 1) (pe_callB (call_lenK (K := K) rfl) (by rfl) B.len PySem.boot_len (pa_cons (pv 0) pa_nil)) (nomark _)) pss_never pss_nil)
      (pss_one (ps_ret (pe_ix ix_list (pv 0) (pv 1) (fun _ _ => rfl))))), ?_⟩
    have hg := rowR_ok hrow
    have hl := (List.getElem?_eq_some_iff.mp hg).1
    refine ⟨_, rfl, _, rfl, l, _, rfl, .inl hs.1, rfl, _, rfl, iteN (by
      rw [dec_int, List.length_map]
      simp
      omega) ?_⟩
    exact ⟨_, rfl, _, rfl, l, _, _, _, rfl, rfl, hs.1, atI_nat (by rw [List.getElem?_map, hg]; rfl), k⟩
theorem scRBl : FnScope ["rows", "at", "blanks"] raP (defScope sRBl) := ⟨rfl, rfl, rfl, by decide +kernel, rfl, by decide +kernel, by decide +kernel⟩
theorem has_RBl (DR : Has P w K mg base CX0 1 "row_at" raP (spRowAt K)) (D : Dfn K mg "read_blanks" sRBl raP) : Has P w K mg base CX0 2 "read_blanks" raP (spRBl K) := by
  refine D.has scRBl (fun vs H Q E h => ?_) (fun f cdv A outer s H vs Q E hr h => ?_)
  · obtain ⟨l, rows, i, b, rfl, _⟩ := h
    rfl
  · obtain ⟨l, rows, i, b, rfl, hs, hb, k⟩ := h
    refine ⟨_, (pss_cons (ps_set (i := 2) scRBl.nd rfl (.inl rfl) pe_int)
      (pss_cons (ps_while PassesOwn.never (PW.pt (pw_and (pt_cmpR op_lt (pv 2) pe_int (nomark _)) (pw_and1 (pt_cmpR op_eq (pe_callH DR hr (by rfl) pass0 (pa_cons (pv 0) (pa_cons (pe_op op_add (pv 1) (pv 2)) pa_nil))) pe_str (nomark _)))))
        (pss_one (ps_aug (i := 2) scRBl.nd rfl (.inl rfl) pe_int ip_add)))
      (pss_one (ps_ret (pv 2))))), ?_⟩
    obtain ⟨h2, he, hn⟩ := blanks_facts hb
    refine ⟨fun m σ' H' => ∃ c : Nat, m = 2 - c ∧ c ≤ b ∧ σ' = [some (.ref l), some (.int i), some (.int c)] ∧ H' = H, ⟨_, 0, rfl, Nat.zero_le _, rfl, rfl⟩, ?_⟩
    rintro m σ' H' ⟨c, rfl, hc, rfl, rfl⟩
    refine ⟨_, rfl, _, _, rfl, rfl, _, rfl, ?_⟩
    by_cases c2 : c < 2
    · refine iteY (decide_eq_true (by omega)) ?_
      have row : ∃ r, rowR rows (i + c) = .ok r ∧ (decide (r.length = 0) = decide (c < b)) := by
        by_cases q : c < b
        · obtain ⟨r, h1, h3⟩ := he c q
          exact ⟨r, h1, by rw [decide_eq_true h3, decide_eq_true q]⟩
        · obtain rfl : c = b := by omega
          obtain ⟨r, h1, h3⟩ := hn c2
          exact ⟨r, h1, by rw [decide_eq_false h3, decide_eq_false q]⟩
      obtain ⟨r, hr1, hr2⟩ := row
      refine ⟨_, rfl, _, rfl, _, rfl, _, _, rfl, rfl, l, rows, i + c, r, by rw [Int.natCast_add]; rfl, hs, hr1, rfl, _, rfl, ?_⟩
      rw [str_e0, hr2]
      by_cases q : c < b
      · refine iteY (decide_eq_true q) ⟨fun σ2 H2 => σ2 = [some (.ref l), some (.int i), some (.int ((c : Int) + 1))] ∧ H2 = H', fun σ2 H2 z => ⟨2 - (c + 1), by omega, c + 1, rfl, by omega, z.1, z.2⟩, _, rfl, _, _, rfl, rfl, rfl, rfl⟩
      · obtain rfl : c = b := by omega
        exact iteN (decide_eq_false q) ⟨_, rfl, k⟩
    · obtain rfl : c = b := by omega
      exact iteN (decide_eq_false (by omega)) (iteN rfl ⟨_, rfl, k⟩)
theorem scRAh : FnScope ["rows", "at", "row", "remark"] raP (defScope sRAh) := ⟨rfl, rfl, rfl, by decide +kernel, rfl, by decide +kernel, by decide +kernel⟩
theorem has_RAh (DR : Has P w K mg base CX0 1 "row_at" raP (spRowAt K)) (DN : Has P w K mg base CX0 1 "is_name" ["value"] (spName K)) (D : Dfn K mg "read_ahead" sRAh raP) : Has P w K mg base CX0 2 "read_ahead" raP (spRAh K) := by
  refine D.has scRAh (fun vs H Q E h => ?_) (fun f cdv A outer s H vs Q E hr h => ?_)
  · obtain ⟨l, rows, i, b, rfl, _⟩ := h
    rfl
  · obtain ⟨l, rows, i, b, rfl, hs, hb, k⟩ := h
    refine ⟨_, (pss_cons (ps_set (i := 2) scRAh.nd rfl (.inl rfl) (pe_callH DR hr (by rfl) pass0 (pa_cons (pv 0) (pa_cons (pv 1) pa_nil))))
    (pss_cons (ps_if (pt_not (pt_val (pe_bm PySem.F.plainAttrs_str PySem.F.slot_str_startswith PySem.F.type_str_startswith mt_startswith (pv 2) (pa_cons pe_str pa_nil))))
      (pss_one (ps_ret pe_str))
      pss_nil)
    (pss_cons (ps_set (i := 3) scRAh.nd rfl (.inl rfl) (pe_bm PySem.F.plainAttrs_str PySem.F.slot_str_removeprefix PySem.F.type_str_removeprefix mt_removeprefix (pv 2) (pa_cons pe_str pa_nil)))
    (pss_cons (ps_if (pt_not (pt_val (pe_callH DN hr (by rfl) pass0 (pa_cons (pv 3) pa_nil)))) pss_never pss_nil)
    (pss_one (ps_ret (pv 3))))))), ?_⟩
    obtain ⟨r, hr0, hc⟩ := ahead_facts hb
    have rl := hs.len hr0
    refine ⟨_, rfl, _, rfl, l, rows, i, r, rfl, hs, hr0, _, rfl, rfl, _, _, rfl, rfl, _, rfl, ?_⟩
    rcases hc with ⟨h1, h2, rfl⟩ | ⟨h1, rfl⟩
    · refine iteN (by rw [h1]; rfl) ⟨_, rfl, rfl, _, _, rfl, rfl, fitsN rl, _, rfl, _, _, rfl, .inl ⟨_, rfl, six_line (nameB_len h2), rfl⟩, _, rfl, iteN (by rw [h2]; rfl) ⟨_, rfl, k⟩⟩
    · exact iteY (by rw [h1]; rfl) k
theorem scRHd : FnScope ["rows", "at", "row", "word", "paren", "rest"] raP (defScope sRHd) := ⟨rfl, rfl, rfl, by decide +kernel, rfl, by decide +kernel, by decide +kernel⟩
theorem has_RHd (DR : Has P w K mg base CX0 1 "row_at" raP (spRowAt K)) (DN : Has P w K mg base CX0 1 "is_name" ["value"] (spName K)) (D : Dfn K mg "read_head" sRHd raP) : Has P w K mg base CX0 2 "read_head" raP (spRHd K) := by
  refine D.has scRHd (fun vs H Q E h => ?_) (fun f cdv A outer s H vs Q E hr h => ?_)
  · obtain ⟨l, rows, i, w, b, r, rfl, _⟩ := h
    rfl
  · obtain ⟨l, rows, i, w, b, r, rfl, hs, hb, k⟩ := h
    refine ⟨_, (pss_cons (ps_set (i := 2) scRHd.nd rfl (.inl rfl) (pe_callH DR hr (by rfl) pass0 (pa_cons (pv 0) (pa_cons (pv 1) pa_nil))))
    (pss_cons (ps_asg (pe_bm PySem.F.plainAttrs_str PySem.F.slot_str_partition PySem.F.type_str_partition mt_partition (pe_bm PySem.F.plainAttrs_str PySem.F.slot_str_removeprefix PySem.F.type_str_removeprefix mt_removeprefix (pv 2) (pa_cons pe_str pa_nil)) (pa_cons pe_str pa_nil)) (pg_tup rfl (pgs_cons (pg_name (i := 3) scRHd.nd rfl (.inl rfl)) (pgs_cons (pg_name (i := 4) scRHd.nd rfl (.inl rfl)) (pgs_cons (pg_name (i := 5) scRHd.nd rfl (.inl rfl)) pgs_nil)))))
    (pss_cons (ps_if (PW.pt (pw_or (pt_cmpR op_eq (pv 4) pe_str (nomark _)) (pw_or1 (pt_not (pt_val (pe_callH DN hr (by rfl) pass0 (pa_cons (pv 3) pa_nil))))))) pss_never pss_nil)
    (pss_one (ps_ret (pe_tup (pa_cons (pv 3) (pa_cons (pe_bm PySem.F.plainAttrs_str PySem.F.slot_str_startswith PySem.F.type_str_startswith mt_startswith (pv 2) (pa_cons pe_str pa_nil)) (pa_cons (pv 5) pa_nil))))))))), ?_⟩
    obtain ⟨r0, hr0, h1, h2, rfl, rfl, rfl⟩ := head_facts hb
    have rl := hs.len hr0
    have pl := pre_len r0 "!"
    refine ⟨_, rfl, _, rfl, l, rows, i, r0, rfl, hs, hr0, _, rfl, rfl, _, _, rfl, rfl, fitsN rl, rfl, _, _, rfl, rfl, by decide, fitsN (by omega), fun p np => ?_⟩
    have s1 := Same.new np (o := .tup [.str (Txt.partition (Txt.removeprefix r0 "!") "(").1, .str (Txt.partition (Txt.removeprefix r0 "!") "(").2.1, .str (Txt.partition (Txt.removeprefix r0 "!") "(").2.2])
    refine ⟨p, _, rfl, SqT.of upd_same, rfl, _, _, rfl, _, _, rfl, _, _, rfl, rfl, ?_⟩
    refine ⟨_, rfl, rfl, _, rfl, iteN (by rw [str_e0]; exact decide_eq_false h1) ?_⟩
    refine ⟨_, rfl, _, _, rfl, .inl ⟨_, rfl, six_line (nameB_len h2), rfl⟩, _, rfl, iteN (by rw [h2]; rfl) ?_⟩
    refine ⟨_, rfl, _, rfl, rfl, _, _, rfl, rfl, _, rfl, (by show 3 ≤ sizeLine; decide), fun q nq => ?_⟩
    exact k q _ (s1.trans (Same.new nq)) upd_same
def spP : List Str := ["text", "at"]
theorem scSpl : FnScope ["text", "at", "body", "sign", "remark"] spP (defScope sSpl) := ⟨rfl, rfl, rfl, by decide +kernel, rfl, by decide +kernel, by decide +kernel⟩
theorem has_Spl (DN : Has P w K mg base CX0 1 "is_name" ["value"] (spName K)) (D : Dfn K mg "split_remark" sSpl spP) : Has P w K mg base CX0 2 "split_remark" spP (spSpl K) := by
  refine D.has scSpl (fun vs H Q E h => ?_) (fun f cdv A outer s H vs Q E hr h => ?_)
  · obtain ⟨t, i, x, y, rfl, _⟩ := h
    rfl
  · obtain ⟨t, i, x, y, rfl, tl, hb, k⟩ := h
    refine ⟨_, (pss_cons (ps_asg (pe_bm PySem.F.plainAttrs_str PySem.F.slot_str_partition PySem.F.type_str_partition mt_partition (pv 0) (pa_cons pe_str pa_nil)) (pg_tup rfl (pgs_cons (pg_name (i := 2) scSpl.nd rfl (.inl rfl)) (pgs_cons (pg_name (i := 3) scSpl.nd rfl (.inl rfl)) (pgs_cons (pg_name (i := 4) scSpl.nd rfl (.inl rfl)) pgs_nil)))))
    (pss_cons (ps_if (PW.pt (pw_and (pt_cmpR op_ne (pv 3) pe_str (nomark _)) (pw_and1 (pt_not (pt_val (pe_callH DN hr (by rfl) pass0 (pa_cons (pv 4) pa_nil))))))) pss_never pss_nil)
    (pss_one (ps_ret (pe_tup (pa_cons (pv 2) (pa_cons (pv 4) pa_nil))))))), ?_⟩
    obtain ⟨hc, rfl, rfl⟩ := remark_facts hb
    have pl := part_len t "  # "
    refine ⟨_, rfl, rfl, _, _, rfl, rfl, by decide, fitsN tl, fun p np => ?_⟩
    have s1 := Same.new np (o := .tup [.str (Txt.partition t "  # ").1, .str (Txt.partition t "  # ").2.1, .str (Txt.partition t "  # ").2.2])
    refine ⟨p, _, rfl, SqT.of upd_same, rfl, _, _, rfl, _, _, rfl, _, _, rfl, rfl, ?_⟩
    have last : ∀ H2, Same (upd H p (.tup [.str (Txt.partition t "  # ").1, .str (Txt.partition t "  # ").2.1, .str (Txt.partition t "  # ").2.2])) H2 → ∀ q, H2 q = none → Q (.ref q) (upd H2 q (.tup [.str (Txt.partition t "  # ").1, .str (Txt.partition t "  # ").2.2])) := fun H2 s2 q nq => k q _ ((s1.trans s2).trans (Same.new nq)) upd_same
    refine ⟨_, rfl, rfl, _, rfl, ?_⟩
    rw [str_e0]
    by_cases e : (Txt.partition t "  # ").2.1.length = 0
    · exact iteN (by rw [decide_eq_true e]; rfl) (iteN rfl ⟨_, rfl, _, rfl, (by show 2 ≤ sizeLine; decide), fun q nq => last _ Same.rfl q nq⟩)
    · have hn : nameB (Txt.partition t "  # ").2.2 = true := hc.resolve_left e
      refine iteY (by rw [decide_eq_false e]; rfl) ⟨_, rfl, _, _, rfl, .inl ⟨_, rfl, fitsN (by omega), rfl⟩, _, rfl, iteN (by rw [hn]; rfl) ⟨_, rfl, _, rfl, (by show 2 ≤ sizeLine; decide), fun q nq => last _ Same.rfl q nq⟩⟩
theorem scRIt : FnScope ["rows", "at", "row", "part"] raP (defScope sRIt) := ⟨rfl, rfl, rfl, by decide +kernel, rfl, by decide +kernel, by decide +kernel⟩
theorem has_RIt (DR : Has P w K mg base CX0 1 "row_at" raP (spRowAt K)) (DN : Has P w K mg base CX0 1 "is_name" ["value"] (spName K)) (D : Dfn K mg "read_item" sRIt raP) : Has P w K mg base CX0 2 "read_item" raP (spRIt K) := by
  refine D.has scRIt (fun vs H Q E h => ?_) (fun f cdv A outer s H vs Q E hr h => ?_)
  · obtain ⟨l, rows, i, z, c, rfl, _⟩ := h
    rfl
  · obtain ⟨l, rows, i, z, c, rfl, hs, hb, k⟩ := h
    refine ⟨_, (pss_cons (ps_set (i := 2) scRIt.nd rfl (.inl rfl) (pe_callH DR hr (by rfl) pass0 (pa_cons (pv 0) (pa_cons (pv 1) pa_nil))))
    (pss_cons (ps_set (i := 3) scRIt.nd rfl (.inl rfl) (pe_bm PySem.F.plainAttrs_str PySem.F.slot_str_removesuffix PySem.F.type_str_removesuffix mt_removesuffix (pe_bm PySem.F.plainAttrs_str PySem.F.slot_str_removeprefix PySem.F.type_str_removeprefix mt_removeprefix (pv 2) (pa_cons pe_str pa_nil)) (pa_cons pe_str pa_nil)))
    (pss_cons (ps_if (PW.pt (pw_or (pt_not (pt_val (pe_bm PySem.F.plainAttrs_str PySem.F.slot_str_startswith PySem.F.type_str_startswith mt_startswith (pv 2) (pa_cons pe_str pa_nil)))) (pw_or1 (pt_not (pt_val (pe_callH DN hr (by rfl) pass0 (pa_cons (pv 3) pa_nil))))))) pss_never pss_nil)
    (pss_one (ps_ret (pe_tup (pa_cons (pv 3) (pa_cons (pe_bm PySem.F.plainAttrs_str PySem.F.slot_str_endswith PySem.F.type_str_endswith mt_endswith (pv 2) (pa_cons pe_str pa_nil)) pa_nil)))))))), ?_⟩
    obtain ⟨r0, hr0, h1, h2, rfl, rfl⟩ := item_facts hb
    have rl := hs.len hr0
    have pl := pre_len r0 "  "
    refine ⟨_, rfl, _, rfl, l, rows, i, r0, rfl, hs, hr0, _, rfl, rfl, _, _, rfl, rfl, fitsN rl, rfl, _, _, rfl, rfl, fitsN (by omega), ?_⟩
    refine ⟨_, rfl, rfl, _, _, rfl, rfl, _, rfl, iteN (by rw [h1]; rfl) ?_⟩
    refine ⟨_, rfl, _, _, rfl, .inl ⟨_, rfl, six_line (nameB_len h2), rfl⟩, _, rfl, iteN (by rw [h2]; rfl) ?_⟩
    exact ⟨_, rfl, _, rfl, rfl, _, _, rfl, rfl, (by show 2 ≤ sizeLine; decide), fun q nq => k q _ (Same.new nq) upd_same⟩
end
end Lay
set_option Elab.async false
set_option linter.all false
set_option maxRecDepth 100000
set_option maxHeartbeats 4000000
set_option pp.maxSteps 900
namespace Lay
open PySem PySem.Spec PyProof.Rows L2
theorem flat_facts {t : Str} {i : Nat} {ps : List Str} {m : Bool} {b : Str} {e : Nat} (h : flatR t i = .ok (ps, m, b, e)) : ∃ body, remarkR t i = .ok (body, b) ∧ Txt.endswith body ")" = true ∧ ps = Txt.split (Txt.removesuffix (Txt.removesuffix body ")") ",") ", " ∧ ps.all nameB = true ∧ m = Txt.endswith (Txt.removesuffix body ")") "," ∧ e = i + 1 := by
  unfold flatR at h
  split at h
  · cases h
  · rename_i body behind hr
    simp only at h
    split at h
    · cases h
    · rename_i q
      cases h
      rw [not_or] at q
      exact ⟨body, hr, by simpa using q.1, rfl, by simpa using q.2, rfl, rfl⟩
theorem take_one {α : Type} {xs : List α} {z : α} (h : xs[0]? = some z) : xs.take 1 = [z] := by
  cases xs with
  | nil => cases h
  | cons a r =>
    cases h
    rfl
theorem take_snoc {α : Type} {xs : List α} {k : Nat} {z : α} (h : xs[k]? = some z) : xs.take (k + 1) = xs.take k ++ [z] := by
  rw [List.take_add_one, h]
  rfl
theorem nmbs {K : PySem.W.Frag} {H : Hp} {ps : List Str} (h : ps.all nameB = true) : NmBs K H (ps.map V.str) (ps.map nameB) := by
  refine ⟨by rw [List.length_map, List.length_map], fun i x b h1 h2 => ?_⟩
  rw [List.getElem?_map] at h1 h2
  cases e : ps[i]? with
  | none =>
    rw [e] at h1
    cases h1
  | some z =>
    rw [e] at h1 h2
    cases h1
    cases h2
    exact .inl ⟨z, rfl, six_line (nameB_len (List.all_eq_true.mp h z (List.mem_of_getElem? e))), rfl⟩
theorem all_id {ps : List Str} (h : ps.all nameB = true) : (ps.map nameB).all id = true := by
  rw [List.all_map]
  exact h
def spRFl (K : PySem.W.Frag) : Sp := fun vs H Q _ => ∃ (t : Str) (i : Nat) (ps : List Str) (m : Bool) (b : Str) (e : Nat), vs = [.str t, .int i] ∧ t.length ≤ 1000000 ∧ flatR t i = .ok (ps, m, b, e) ∧ 0 < ps.length ∧ ps.length ≤ 1000 ∧ ∀ p lp H', Same H H' → H' p = some (.tup [.ref lp, .bl m, .str b, .int e]) → H' lp = some (.lst (ps.map V.str)) → Q (.ref p) H'
def spRBr (K : PySem.W.Frag) : Sp := fun vs H Q _ => ∃ (l : Addr) (rows : List Str) (i : Nat) (ps : List Str) (m : Bool) (b : Str) (e : Nat), vs = [.ref l, .int i] ∧ RowsAt K H l rows ∧ brokenR rows i = .ok (ps, m, b, e) ∧ ps.length ≤ 1000 ∧ ∀ p lp H', Same H H' → H' p = some (.tup [.ref lp, .bl m, .str b, .int e]) → H' lp = some (.lst (ps.map V.str)) → Q (.ref p) H'
theorem items_facts {rows : List Str} : ∀ (n i : Nat) (ps : List Str) (c : Bool), itemsR rows n i = .ok (ps, c) → 0 < ps.length ∧ (∀ k z, ps[k]? = some z → itemR rows (i + k) = .ok (z, if k + 1 < ps.length then true else c)) ∧
    (∀ k, k + 1 < ps.length → ∃ r, rowR rows (i + (k + 1)) = .ok r ∧ Txt.startswith r "  " = true) ∧ (c = true → ∃ r, rowR rows (i + ps.length) = .ok r ∧ Txt.startswith r "  " = false)
  | 0, i, ps, c, h => by
    unfold itemsR at h
    cases h
  | n + 1, i, ps, c, h => by
    unfold itemsR at h
    split at h
    · cases h
    · rename_i p hp
      cases h
      refine ⟨Nat.one_pos, fun k z hz => ?_, fun k hk => absurd hk (by simp), fun z => nomatch z⟩
      cases k with
      | zero =>
        cases hz
        exact hp
      | succ k => simp at hz
    · rename_i p hp
      split at h
      · cases h
      · rename_i r hr
        split at h
        · rename_i q
          cases h
          refine ⟨Nat.one_pos, fun k z hz => ?_, fun k hk => absurd hk (by simp), fun _ => ⟨r, hr, q⟩⟩
          cases k with
          | zero =>
            cases hz
            exact hp
          | succ k => simp at hz
        · rename_i q
          split at h
          · cases h
          · rename_i qs c2 hq
            cases h
            obtain ⟨h1, h2, h3, h4⟩ := items_facts n (i + 1) qs c hq
            refine ⟨Nat.succ_pos _, fun k z hz => ?_, fun k hk => ?_, fun e => ?_⟩
            · cases k with
              | zero =>
                cases hz
                rw [if_pos (by rw [List.length_cons]; omega)]
                exact hp
              | succ k =>
                have := h2 k z hz
                rw [show i + (k + 1) = i + 1 + k by omega, this]
                simp only [List.length_cons, Nat.add_lt_add_iff_right]
            · cases k with
              | zero => exact ⟨r, hr, by simpa using q⟩
              | succ k =>
                obtain ⟨r2, g1, g2⟩ := h3 k (by rw [List.length_cons] at hk; omega)
                exact ⟨r2, by rw [show i + (k + 1 + 1) = i + 1 + (k + 1) by omega]; exact g1, g2⟩
            · obtain ⟨r2, g1, g2⟩ := h4 e
              exact ⟨r2, by rw [List.length_cons, show i + (qs.length + 1) = i + 1 + qs.length by omega]; exact g1, g2⟩
theorem broken_facts {rows : List Str} {i : Nat} {ps : List Str} {m : Bool} {b : Str} {e : Nat} (h : brokenR rows i = .ok (ps, m, b, e)) : itemsR rows rows.length i = .ok (ps, m) ∧ e = i + ps.length + 1 ∧ ∃ r, rowR rows (i + ps.length) = .ok r ∧ remarkR r (i + ps.length) = .ok (Str.ofString ")", b) := by
  unfold brokenR at h
  split at h
  · cases h
  · rename_i qs c hq
    split at h
    · cases h
    · rename_i r hr
      split at h
      · cases h
      · rename_i body behind hb
        split at h
        · rename_i q
          cases h
          subst q
          exact ⟨hq, rfl, r, hr, hb⟩
        · cases h
section
variable {P : Program} {w : World} {K : PySem.W.Frag} {mg : Str → Option Value} {base : Heap}
def flP : List Str := ["rest", "at"]
theorem scRFl : FnScope ["rest", "at", "body", "behind", "inside", "parts"] flP (defScope sRFl) := ⟨rfl, rfl, rfl, by decide +kernel, rfl, by decide +kernel, by decide +kernel⟩
theorem has_RFl (DS : Has P w K mg base CX0 2 "split_remark" spP (spSpl K)) (DA : Has P w K mg base CX0 2 "are_names" ["value"] (spNames K)) (D : Dfn K mg "read_flat" sRFl flP) : Has P w K mg base CX0 3 "read_flat" flP (spRFl K) := by
  refine D.has scRFl (fun vs H Q E h => ?_) (fun f cdv A outer s H vs Q E hr h => ?_)
  · obtain ⟨t, i, ps, m, b, e, rfl, _⟩ := h
    rfl
  · obtain ⟨t, i, ps, m, b, e, rfl, tl, hb, p0, p1, k⟩ := h
    refine ⟨_, (pss_cons (ps_asg (pe_callH DS hr (by rfl) pass0 (pa_cons (pv 0) (pa_cons (pv 1) pa_nil))) (pg_tup rfl (pgs_cons (pg_name (i := 2) scRFl.nd rfl (.inl rfl)) (pgs_cons (pg_name (i := 3) scRFl.nd rfl (.inl rfl)) pgs_nil))))
    (pss_cons (ps_set (i := 4) scRFl.nd rfl (.inl rfl) (pe_bm PySem.F.plainAttrs_str PySem.F.slot_str_removesuffix PySem.F.type_str_removesuffix mt_removesuffix (pv 2) (pa_cons pe_str pa_nil)))
    (pss_cons (ps_set (i := 5) scRFl.nd rfl (.inl rfl) (pe_bm PySem.F.plainAttrs_str PySem.F.slot_str_split PySem.F.type_str_split mt_split (pe_bm PySem.F.plainAttrs_str PySem.F.slot_str_removesuffix PySem.F.type_str_removesuffix mt_removesuffix (pv 4) (pa_cons pe_str pa_nil)) (pa_cons pe_str pa_nil)))
    (pss_cons (ps_if (PW.pt (pw_or (pt_not (pt_val (pe_bm PySem.F.plainAttrs_str PySem.F.slot_str_endswith PySem.F.type_str_endswith mt_endswith (pv 2) (pa_cons pe_str pa_nil)))) (pw_or1 (pt_not (pt_val (pe_callH DA hr (by rfl) pass0 (pa_cons (pv 5) pa_nil))))))) pss_never pss_nil)
    (pss_one (ps_ret (pe_tup (pa_cons (pv 5) (pa_cons (pe_bm PySem.F.plainAttrs_str PySem.F.slot_str_endswith PySem.F.type_str_endswith mt_endswith (pv 4) (pa_cons pe_str pa_nil)) (pa_cons (pv 3) (pa_cons (pe_op op_add (pv 1) pe_int) pa_nil))))))))))), ?_⟩
    obtain ⟨body, hrm, h1, hps, h2, rfl, rfl⟩ := flat_facts hb
    have bl : body.length ≤ 1000000 := by
      obtain ⟨_, e1, _⟩ := remark_facts hrm
      have := (part_len t "  # ").1
      rw [e1]
      omega
    have sl := suf_len body ")"
    have sl2 := suf_len (Txt.removesuffix body ")") ","
    refine ⟨_, rfl, _, rfl, t, i, body, b, rfl, tl, hrm, fun p H1 s1 hp => ⟨p, _, rfl, SqT.of hp, rfl, _, _, rfl, _, _, rfl, rfl, ?_⟩⟩
    refine ⟨_, rfl, rfl, _, _, rfl, rfl, fitsN bl, ?_⟩
    refine ⟨_, rfl, rfl, _, _, rfl, rfl, fitsN (by omega), rfl, _, _, rfl, rfl, by decide, by rw [sizeLine_eq]; omega, fun lp nlp => ?_⟩
    rw [← hps]
    have s2 := Same.new nlp (o := .lst (ps.map V.str))
    refine ⟨_, rfl, rfl, _, _, rfl, rfl, _, rfl, iteN (by rw [h1]; rfl) ?_⟩
    refine ⟨_, rfl, _, rfl, .inr ⟨lp, _, _, rfl, .inl upd_same, by rw [List.length_map]; exact p1, nmbs h2, fun H2 s3 => ⟨_, rfl, iteN ?_ ?_⟩⟩⟩
    · rw [all_id h2, List.length_map, decide_eq_true p0]
      rfl
    refine ⟨_, rfl, _, rfl, rfl, _, _, rfl, rfl, _, rfl, _, rfl, _, _, rfl, rfl, (by show 4 ≤ sizeLine; decide), fun q nq => ?_⟩
    have s4 := Same.new nq (o := .tup [.ref lp, .bl (Txt.endswith (Txt.removesuffix body ")") ","), .str b, .int ((i : Int) + 1)])
    exact k q lp _ (s1.trans (s2.trans (s3.trans s4))) (by rw [upd_same]; rfl) ((s3.trans s4) _ _ upd_same)
def brN : List Str := ["rows", "at", "part", "comma", "parts", "end", "body", "behind"]
theorem scRBr : FnScope brN raP (defScope sRBr) := ⟨rfl, rfl, rfl, by decide +kernel, rfl, by decide +kernel, by decide +kernel⟩
theorem has_RBr (B : Bt mg) (DR : Has P w K mg base CX0 1 "row_at" raP (spRowAt K)) (DI : Has P w K mg base CX0 2 "read_item" raP (spRIt K)) (DS : Has P w K mg base CX0 2 "split_remark" spP (spSpl K)) (D : Dfn K mg "read_broken" sRBr raP) : Has P w K mg base CX0 3 "read_broken" raP (spRBr K) := by
  refine D.has scRBr (fun vs H Q E h => ?_) (fun f cdv A outer s H vs Q E hr h => ?_)
  · obtain ⟨l, rows, i, ps, m, b, e, rfl, _⟩ := h
    rfl
  · obtain ⟨l, rows, i, ps, m, b, e, rfl, hs, hb, p1, k⟩ := h
    have hr1 := hr.mono (show 1 ≤ 2 by decide)
    refine ⟨_, (pss_cons (ps_asg (pe_callH DI hr (by rfl) pass0 (pa_cons (pv 0) (pa_cons (pv 1) pa_nil))) (pg_tup rfl (pgs_cons (pg_name (i := 2) scRBr.nd rfl (.inl rfl)) (pgs_cons (pg_name (i := 3) scRBr.nd rfl (.inl rfl)) pgs_nil))))
    (pss_cons (ps_set (i := 4) scRBr.nd rfl (.inl rfl) (pe_lst (pa_cons (pv 2) pa_nil)))
    (pss_cons (ps_while PassesOwn.never (PW.pt (pw_and (pt_val (pv 3)) (pw_and1 (pt_val (pe_bm PySem.F.plainAttrs_str PySem.F.slot_str_startswith PySem.F.type_str_startswith mt_startswith (pe_callH DR hr1 (by rfl) pass0 (pa_cons (pv 0) (pa_cons (pe_op op_add (pv 1) (pe_callB (call_lenK (K := K) rfl) (by rfl) B.len PySem.boot_len (pa_cons (pv 4) pa_nil))) pa_nil))) (pa_cons pe_str pa_nil))))))
      (pss_cons (ps_asg (pe_callH DI hr (by rfl) pass0 (pa_cons (pv 0) (pa_cons (pe_op op_add (pv 1) (pe_callB (call_lenK (K := K) rfl) (by rfl) B.len PySem.boot_len (pa_cons (pv 4) pa_nil))) pa_nil))) (pg_tup rfl (pgs_cons (pg_name (i := 2) scRBr.nd rfl (.inl rfl)) (pgs_cons (pg_name (i := 3) scRBr.nd rfl (.inl rfl)) pgs_nil))))
      (pss_one (ps_expr (pe_bm PySem.F.plainAttrs_list PySem.F.slot_list_append PySem.F.type_list_append mt_append (pv 4) (pa_cons (pv 2) pa_nil))))))
    (pss_cons (ps_set (i := 5) scRBr.nd rfl (.inl rfl) (pe_op op_add (pv 1) (pe_callB (call_lenK (K := K) rfl) (by rfl) B.len PySem.boot_len (pa_cons (pv 4) pa_nil))))
    (pss_cons (ps_asg (pe_callH DS hr (by rfl) pass0 (pa_cons (pe_callH DR hr1 (by rfl) pass0 (pa_cons (pv 0) (pa_cons (pv 5) pa_nil))) (pa_cons (pv 5) pa_nil))) (pg_tup rfl (pgs_cons (pg_name (i := 6) scRBr.nd rfl (.inl rfl)) (pgs_cons (pg_name (i := 7) scRBr.nd rfl (.inl rfl)) pgs_nil))))
    (pss_cons (ps_if (pt_cmpR op_ne (pv 6) pe_str (nomark _)) pss_never pss_nil)
    (pss_one (ps_ret (pe_tup (pa_cons (pv 4) (pa_cons (pv 3) (pa_cons (pv 7) (pa_cons (pe_op op_add (pv 5) pe_int) pa_nil))))))))))))), ?_⟩
    obtain ⟨hit, rfl, r, hrow, hrm⟩ := broken_facts hb
    obtain ⟨n0, hi, hg, hend⟩ := items_facts _ _ _ _ hit
    obtain ⟨z0, hz0⟩ : ∃ z, ps[0]? = some z := ⟨_, List.getElem?_eq_getElem n0⟩
    have h0 := hi 0 z0 hz0
    refine ⟨_, rfl, _, rfl, l, rows, i, z0, _, rfl, hs, h0, fun p H1 s1 hp => ⟨p, _, rfl, SqT.of hp, rfl, _, _, rfl, _, _, rfl, rfl, ?_⟩⟩
    refine ⟨_, rfl, (by show 1 ≤ sizeLine; decide), fun lp nlp => ?_⟩
    have s2 := s1.trans (Same.new nlp (o := .lst [.str z0]))
    have nH : H lp = none := s1.free nlp
    refine ⟨fun mm σ' H' => ∃ (k : Nat) (x : V), 0 < k ∧ k ≤ ps.length ∧ mm = ps.length - k ∧ σ' = [some (.ref l), some (.int i), some x, some (.bl (if k < ps.length then true else m)), some (.ref lp), none, none, none] ∧ Same H H' ∧ H' lp = some (.lst ((ps.take k).map V.str)), ⟨_, 1, _, Nat.one_pos, n0, rfl, rfl, s2, ?_⟩, ?_⟩
    · rw [upd_same, take_one hz0]
      rfl
    · rintro mm σ' H' ⟨kk, x, k0, kl, rfl, rfl, s3, hlp⟩
      have hs' := hs.same s3
      have ei : (i : Int) + ((List.map V.str (List.take kk ps)).length : Int) = ((i + kk : Nat) : Int) := by rw [List.length_map, List.length_take, Nat.min_eq_left kl, Int.natCast_add]
      refine ⟨_, rfl, _, rfl, ?_⟩
      by_cases q : kk < ps.length
      · obtain ⟨r2, hr2, st2⟩ : ∃ r, rowR rows (i + kk) = .ok r ∧ Txt.startswith r "  " = true := by
          have := hg (kk - 1) (by omega)
          rw [show kk - 1 + 1 = kk by omega] at this
          exact this
        obtain ⟨z, hz⟩ : ∃ z, ps[kk]? = some z := ⟨_, List.getElem?_eq_getElem q⟩
        refine iteY (by rw [if_pos q]) ?_
        refine ⟨_, rfl, _, rfl, _, rfl, lp, _, rfl, .inl (SqL.of hlp), _, _, rfl, rfl, l, rows, i + kk, r2, by rw [← ei]; rfl, hs', hr2, rfl, _, _, rfl, rfl, _, rfl, iteY st2 ?_⟩
        refine ⟨fun σ2 H2 => ∃ x : V, σ2 = [some (.ref l), some (.int i), some x, some (.bl (if kk + 1 < ps.length then true else m)), some (.ref lp), none, none, none] ∧ Same H H2 ∧ H2 lp = some (.lst ((ps.take (kk + 1)).map V.str)), fun σ2 H2 ⟨x2, e1, e2, e3⟩ => ⟨ps.length - (kk + 1), by omega, kk + 1, x2, by omega, by omega, rfl, e1, e2, e3⟩, ?_⟩
        refine ⟨_, rfl, _, rfl, _, rfl, lp, _, rfl, .inl (SqL.of hlp), _, _, rfl, rfl, l, rows, i + kk, z, _, by rw [← ei]; rfl, hs', hi kk z hz, fun p2 H2 s4 hp2 => ⟨p2, _, rfl, SqT.of hp2, rfl, _, _, rfl, _, _, rfl, rfl, ?_⟩⟩
        have hlp2 := s4 _ _ hlp
        refine ⟨_, rfl, .inl ⟨rfl, _, SqL.of hlp2⟩, _, rfl, lp, _, _, rfl, rfl, hlp2, ?_, _, rfl, same_put (s3.trans s4) nH, ?_⟩
        · rw [List.length_map, List.length_take]
          exact small1000 (by omega)
        · rw [upd_same, take_snoc hz, List.map_append]
          rfl
      · obtain rfl : kk = ps.length := by omega
        rw [List.take_length] at hlp ei
        rcases Bool.eq_false_or_eq_true m with e | e
        · obtain ⟨r2, hr2, st2⟩ := hend e
          refine iteY (by rw [if_neg q]; exact e) ?_
          refine ⟨_, rfl, _, rfl, _, rfl, lp, _, rfl, .inl (SqL.of hlp), _, _, rfl, rfl, l, rows, i + ps.length, r2, by rw [← ei]; rfl, hs', hr2, rfl, _, _, rfl, rfl, _, rfl, iteN st2 ?_⟩
          refine ⟨_, rfl, _, rfl, lp, _, rfl, .inl (SqL.of hlp), _, _, rfl, rfl, ?_⟩
          refine ⟨_, rfl, _, rfl, l, rows, i + ps.length, r, by rw [← ei]; rfl, hs', hrow, _, rfl, r, i + ps.length, Str.ofString ")", b, by rw [← ei]; rfl, hs'.len hrow, hrm, fun p3 H3 s5 hp3 => ⟨p3, _, rfl, SqT.of hp3, rfl, _, _, rfl, _, _, rfl, rfl, ?_⟩⟩
          refine ⟨_, rfl, rfl, _, rfl, iteN (by rw [decide_eq_true rfl]; rfl) ?_⟩
          refine ⟨_, rfl, _, rfl, _, rfl, _, rfl, _, _, rfl, rfl, (by show 4 ≤ sizeLine; decide), fun q2 nq => ?_⟩
          refine k q2 lp _ (s3.trans (s5.trans (Same.new nq))) ?_ ((s5.trans (Same.new nq)) _ _ hlp)
          rw [upd_same, if_neg q, ei]
          rfl
        · refine iteN (by rw [if_neg q]; exact e) (iteN rfl ?_)
          refine ⟨_, rfl, _, rfl, lp, _, rfl, .inl (SqL.of hlp), _, _, rfl, rfl, ?_⟩
          refine ⟨_, rfl, _, rfl, l, rows, i + ps.length, r, by rw [← ei]; rfl, hs', hrow, _, rfl, r, i + ps.length, Str.ofString ")", b, by rw [← ei]; rfl, hs'.len hrow, hrm, fun p3 H3 s5 hp3 => ⟨p3, _, rfl, SqT.of hp3, rfl, _, _, rfl, _, _, rfl, rfl, ?_⟩⟩
          refine ⟨_, rfl, rfl, _, rfl, iteN (by rw [decide_eq_true rfl]; rfl) ?_⟩
          refine ⟨_, rfl, _, rfl, _, rfl, _, rfl, _, _, rfl, rfl, (by show 4 ≤ sizeLine; decide), fun q2 nq => ?_⟩
          refine k q2 lp _ (s3.trans (s5.trans (Same.new nq))) ?_ ((s5.trans (Same.new nq)) _ _ hlp)
          rw [upd_same, if_neg q, ei]
          rfl
end
end Lay
set_option Elab.async false
set_option linter.all false
set_option maxRecDepth 100000
set_option maxHeartbeats 4000000
set_option pp.maxSteps 900
namespace Lay
open PySem PySem.Spec PyProof.Rows L2
theorem piece_facts {rows : List Str} {i : Nat} {d : PD} {e : Nat} (h : pieceR rows i = .ok (d, e)) : ∃ (b : Nat) (j : Nat) (rest : Str), blanksR rows i = .ok b ∧ d.blanks = (b : Int) ∧ aheadR rows (i + b) = .ok d.ahead ∧ j = (if d.ahead.length ≠ 0 then i + b + 1 else i + b) ∧ headR rows j = .ok (d.word, d.left, rest) ∧
    ((rest.length = 0 ∧ d.broken = true ∧ brokenR rows (j + 1) = .ok (d.parts, d.marked, d.behind, e)) ∨ (rest.length ≠ 0 ∧ d.broken = false ∧ flatR rest j = .ok (d.parts, d.marked, d.behind, e))) := by
  unfold pieceR at h
  split at h
  · cases h
  · rename_i b hb
    split at h
    · cases h
    · rename_i a ha
      simp only at h
      split at h
      · cases h
      · rename_i w l rest hh
        split at h
        · rename_i q
          split at h
          · cases h
          · rename_i ps m hd k hbr
            cases h
            exact ⟨b, _, rest, hb, rfl, ha, rfl, hh, .inl ⟨q, rfl, hbr⟩⟩
        · rename_i q
          split at h
          · cases h
          · rename_i ps m hd k hbr
            cases h
            exact ⟨b, _, rest, hb, rfl, ha, rfl, hh, .inr ⟨q, rfl, hbr⟩⟩
def spRPc (K : PySem.W.Frag) (C : Addr) : Sp := fun vs H Q _ => ∃ (l : Addr) (rows : List Str) (i : Nat) (d : PD) (e : Nat), vs = [.ref l, .int i] ∧ RowsAt K H l rows ∧ pieceR rows i = .ok (d, e) ∧ d.Ok ∧ ∀ p y H', Same H H' → H' p = some (.tup [.ref y, .int e]) → PieceAt K C H' y d → Q (.ref p) H'
def pcN : List Str := ["rows", "at", "blanks", "start", "ahead", "word", "left", "rest", "broken", "parts", "marked", "behind", "end"]
def psPieceR : List Str := ["self", "word", "parts", "broken", "marked", "ahead", "behind", "blanks", "left"]
section
variable {P : Program} {w : World} {K : PySem.W.Frag} {mg : Str → Option Value} {base : Heap}
theorem scRPc : FnScope pcN raP (defScope sRPc) := ⟨rfl, rfl, rfl, by decide +kernel, rfl, by decide +kernel, by decide +kernel⟩
theorem has_RPc {C fI : Addr} {dI : FuncData} (gC : mg "Piece" = some (.ref C)) (M : Mk K C fI) (GI : FnOk P w K mg base CX0 3 fI dI psPieceR (spPieceI C K)) (bI : Binds K dI psPieceR [])
    (DB : Has P w K mg base CX0 2 "read_blanks" raP (spRBl K)) (DA : Has P w K mg base CX0 2 "read_ahead" raP (spRAh K)) (DH : Has P w K mg base CX0 2 "read_head" raP (spRHd K)) (DF : Has P w K mg base CX0 3 "read_flat" flP (spRFl K)) (DR : Has P w K mg base CX0 3 "read_broken" raP (spRBr K))
    (D : Dfn K mg "read_piece" sRPc raP) : Has P w K mg base CX0 5 "read_piece" raP (spRPc K C) := by
  refine D.has scRPc (fun vs H Q E h => ?_) (fun f cdv A outer s H vs Q E hr h => ?_)
  · obtain ⟨l, rows, i, d, e, rfl, _⟩ := h
    rfl
  · obtain ⟨l, rows, i, d, e, rfl, hs, hp, od, k⟩ := h
    have hr2 := hr.mono (show 2 ≤ 4 by decide)
    have hr3 := hr.mono (show 3 ≤ 4 by decide)
    refine ⟨_, (pss_cons (ps_set (i := 2) scRPc.nd rfl (.inl rfl) (pe_callH DB hr2 (by rfl) pass0 (pa_cons (pv 0) (pa_cons (pv 1) pa_nil))))
    (pss_cons (ps_set (i := 3) scRPc.nd rfl (.inl rfl) (pe_op op_add (pv 1) (pv 2)))
    (pss_cons (ps_set (i := 4) scRPc.nd rfl (.inl rfl) (pe_callH DA hr2 (by rfl) pass0 (pa_cons (pv 0) (pa_cons (pv 3) pa_nil))))
    (C8.pss_cut (ps_if (pt_cmpR op_ne (pv 4) pe_str (nomark _)) (pss_one (ps_aug (i := 3) scRPc.nd rfl (.inl rfl) pe_int ip_add)) pss_nil)
    (pss_cons (ps_asg (pe_callH DH hr2 (by rfl) pass0 (pa_cons (pv 0) (pa_cons (pv 3) pa_nil))) (pg_tup rfl (pgs_cons (pg_name (i := 5) scRPc.nd rfl (.inl rfl)) (pgs_cons (pg_name (i := 6) scRPc.nd rfl (.inl rfl)) (pgs_cons (pg_name (i := 7) scRPc.nd rfl (.inl rfl)) pgs_nil)))))
    (pss_cons (ps_set (i := 8) scRPc.nd rfl (.inl rfl) (pe_cmpR op_eq (pv 7) pe_str (nomark _)))
    (C8.pss_cut (ps_if (pt_val (pv 8))
      (pss_one (ps_asg (pe_callH DR hr3 (by rfl) pass0 (pa_cons (pv 0) (pa_cons (pe_op op_add (pv 3) pe_int) pa_nil))) (pg_tup rfl (pgs_cons (pg_name (i := 9) scRPc.nd rfl (.inl rfl)) (pgs_cons (pg_name (i := 10) scRPc.nd rfl (.inl rfl)) (pgs_cons (pg_name (i := 11) scRPc.nd rfl (.inl rfl)) (pgs_cons (pg_name (i := 12) scRPc.nd rfl (.inl rfl)) pgs_nil)))))))
      (pss_one (ps_asg (pe_callH DF hr3 (by rfl) pass0 (pa_cons (pv 7) (pa_cons (pv 3) pa_nil))) (pg_tup rfl (pgs_cons (pg_name (i := 9) scRPc.nd rfl (.inl rfl)) (pgs_cons (pg_name (i := 10) scRPc.nd rfl (.inl rfl)) (pgs_cons (pg_name (i := 11) scRPc.nd rfl (.inl rfl)) (pgs_cons (pg_name (i := 12) scRPc.nd rfl (.inl rfl)) pgs_nil))))))))
    (pss_one (ps_ret (pe_tup (pa_cons (pe_make (E := E0) M GI hr (by rfl) gC bI .nil pass0 (pa_cons (pv 5) (pa_cons (pv 9) (pa_cons (pv 8) (pa_cons (pv 10) (pa_cons (pv 4) (pa_cons (pv 11) (pa_cons (pv 2) (pa_cons (pv 6) pa_nil))))))))) (pa_cons (pv 12) pa_nil)))))))))))), ?_⟩
    obtain ⟨b, j, rest, hb, eb, ha, ej, hh, hc⟩ := piece_facts hp
    refine ⟨_, rfl, _, rfl, l, rows, i, b, rfl, hs, hb, ?_⟩
    refine ⟨_, rfl, _, rfl, _, _, rfl, rfl, ?_⟩
    refine ⟨_, rfl, _, rfl, l, rows, i + b, d.ahead, by rw [Int.natCast_add]; rfl, hs, ha, ?_⟩
    refine ⟨fun σ G => σ = [some (.ref l), some (.int i), some (.int b), some (.int j), some (.str d.ahead), none, none, none, none, none, none, none, none] ∧ G = H, ?_, ?_⟩
    · refine ⟨_, rfl, rfl, _, rfl, ?_⟩
      rw [str_e0]
      by_cases q : d.ahead.length = 0
      · refine iteN (by rw [decide_eq_true q]; rfl) ⟨?_, rfl⟩
        rw [ej, if_neg (by rw [q]; decide), Int.natCast_add]
        rfl
      · refine iteY (by rw [decide_eq_false q]; rfl) ⟨_, rfl, _, _, rfl, rfl, ?_, rfl⟩
        rw [ej, if_pos q, Int.natCast_add, Int.natCast_add]
        rfl
    rintro σ G ⟨rfl, rfl⟩
    refine ⟨_, rfl, _, rfl, l, rows, j, d.word, d.left, rest, rfl, hs, hh, fun p H1 s1 hp1 => ⟨p, _, rfl, SqT.of hp1, rfl, _, _, rfl, _, _, rfl, _, _, rfl, rfl, ?_⟩⟩
    refine ⟨_, rfl, rfl, ?_⟩
    rw [str_e0]
    have rl : rest.length ≤ 1000000 := by
      obtain ⟨r0, hr0, _, _, _, _, rfl⟩ := head_facts hh
      have h1 := hs.len hr0
      have h2 := pre_len r0 "!"
      have h3 := (part_len (Txt.removeprefix r0 "!") "(").2
      omega
    refine ⟨fun σ G' => ∃ lp : Addr, σ = [some (.ref l), some (.int i), some (.int b), some (.int j), some (.str d.ahead), some (.str d.word), some (.bl d.left), some (.str rest), some (.bl d.broken), some (.ref lp), some (.bl d.marked), some (.str d.behind), some (.int e)] ∧ Same G G' ∧ G' lp = some (.lst (d.parts.map V.str)), ?_, ?_⟩
    · rcases hc with ⟨q, qb, hc⟩ | ⟨q, qb, hc⟩
      · refine ⟨_, rfl, _, rfl, iteY (decide_eq_true q) ?_⟩
        refine ⟨_, rfl, _, rfl, _, _, rfl, rfl, l, rows, j + 1, d.parts, d.marked, d.behind, e, by rw [Int.natCast_add]; rfl, hs.same s1, hc, od.few, fun p2 lp H2 s2 hp2 hlp => ⟨p2, _, rfl, SqT.of hp2, rfl, _, _, rfl, _, _, rfl, _, _, rfl, _, _, rfl, rfl, lp, ?_, s1.trans s2, hlp⟩⟩
        rw [qb, decide_eq_true q]
        rfl
      · refine ⟨_, rfl, _, rfl, iteN (decide_eq_false q) ?_⟩
        refine ⟨_, rfl, _, rfl, rest, j, d.parts, d.marked, d.behind, e, rfl, rl, hc, od.some, od.few, fun p2 lp H2 s2 hp2 hlp => ⟨p2, _, rfl, SqT.of hp2, rfl, _, _, rfl, _, _, rfl, _, _, rfl, _, _, rfl, rfl, lp, ?_, s1.trans s2, hlp⟩⟩
        rw [qb, decide_eq_false q]
        rfl
    rintro σ G' ⟨lp, rfl, s3, hlp⟩
    refine ⟨_, rfl, _, rfl, _, rfl, _, rfl, _, rfl, _, rfl, _, rfl, _, rfl, fun x dx nx nd ne => ?_⟩
    have zz := (Same.new nd (o := .own x)).trans (Same.new (fresh_own (o := .own x) nx ne) (o := .ins C dx []))
    refine ⟨x, lp, dx, d, by rw [eb]; rfl, od, .inl (zz _ _ hlp), upd_same, fun H4 t4 kp4 hx ht => ⟨rfl, ?_⟩⟩
    have s4 := made_same nx nd kp4
    refine ⟨_, rfl, (by show 2 ≤ sizeLine; decide), fun q nq => ?_⟩
    have s5 := Same.new nq (o := .tup [.ref x, .int e])
    exact k q x _ (s3.trans (s4.trans s5)) upd_same (PieceAt.same s5 ⟨dx, t4, hx, ht⟩)
end
end Lay
set_option Elab.async false
set_option linter.all false
set_option maxRecDepth 100000
set_option maxHeartbeats 4000000
set_option pp.maxSteps 900
namespace Lay
open PySem PySem.Spec PyProof.Rows L2
theorem pieces_step {rows : List Str} {n i : Nat} {ds : List PD} (h : piecesR rows n i = .ok ds) : (¬ i < rows.length ∧ ds = []) ∨ (i < rows.length ∧ ∃ m d k es, n = m + 1 ∧ pieceR rows i = .ok (d, k) ∧ piecesR rows m k = .ok es ∧ ds = d :: es) := by
  cases n with
  | zero =>
    unfold piecesR at h
    split at h
    · cases h
    · rename_i q
      cases h
      exact .inl ⟨q, rfl⟩
  | succ n =>
    unfold piecesR at h
    split at h
    · rename_i q
      split at h
      · cases h
      · rename_i d k hp
        split at h
        · cases h
        · rename_i es he
          cases h
          exact .inr ⟨q, n, d, k, es, rfl, hp, he, rfl⟩
    · rename_i q
      cases h
      exact .inl ⟨q, rfl⟩
theorem PcsAt.one {K : PySem.W.Frag} {C p : Addr} {H : Hp} {d : PD} (h : PieceAt K C H p d) (o : d.Ok) (f : d.parts.length ≤ 30) : PcsAt K C H [.ref p] [d] := by
  refine ⟨rfl, fun e he => ?_, fun i x e hx he => ?_⟩
  · rw [List.mem_singleton] at he
    subst he
    exact ⟨o, f⟩
  · cases i with
    | zero =>
      cases hx
      cases he
      exact ⟨p, rfl, h⟩
    | succ i => simp at hx
theorem PcsAt.put {K : PySem.W.Frag} {C a : Addr} {H : Hp} {xs ys : List V} {ds : List PD} {o : HO} (h : PcsAt K C H xs ds) (ha : H a = some (.lst ys)) : PcsAt K C (upd H a o) xs ds :=
  ⟨h.1, h.2.1, fun i x d hx hd => by
    obtain ⟨p, e, dx, t, h1, h2⟩ := h.2.2 i x d hx hd
    exact ⟨p, e, dx, t, by rw [upd_ne (ne_of h1 ha (fun z => nomatch z))]; exact h1, by rw [upd_ne (ne_of h2 ha (fun z => nomatch z))]; exact h2⟩⟩
def spRPs (K : PySem.W.Frag) (C : Addr) : Sp := fun vs H Q _ => ∃ (l : Addr) (rows : List Str) (n : Nat) (ds : List PD), vs = [.ref l] ∧ RowsAt K H l rows ∧ piecesR rows n 0 = .ok ds ∧ n ≤ 100 ∧ (∀ d ∈ ds, d.Ok ∧ d.parts.length ≤ 30) ∧ ∀ lp xs H', Same H H' → H' lp = some (.lst xs) → PcsAt K C H' xs ds → Q (.ref lp) H'
section
variable {P : Program} {w : World} {K : PySem.W.Frag} {mg : Str → Option Value} {base : Heap}
theorem scRPs : FnScope ["rows", "pieces", "at", "piece"] ["rows"] (defScope sRPs) := ⟨rfl, rfl, rfl, by decide +kernel, rfl, by decide +kernel, by decide +kernel⟩
theorem has_RPs {C : Addr} (B : Bt mg) (DP : Has P w K mg base CX0 5 "read_piece" raP (spRPc K C)) (D : Dfn K mg "read_pieces" sRPs ["rows"]) : Has P w K mg base CX0 6 "read_pieces" ["rows"] (spRPs K C) := by
  refine D.has scRPs (fun vs H Q E h => ?_) (fun f cdv A outer s H vs Q E hr h => ?_)
  · obtain ⟨l, rows, n, ds, rfl, _⟩ := h
    rfl
  · obtain ⟨l, rows, n, ds, rfl, hs, hp, hn, od, k⟩ := h
    refine ⟨_, (pss_cons (ps_set (i := 1) scRPs.nd rfl (.inl rfl) (pe_lst pa_nil))
    (pss_cons (ps_set (i := 2) scRPs.nd rfl (.inl rfl) pe_int)
    (pss_cons (ps_while PassesOwn.never (pt_cmpR op_lt (pv 2) (pe_callB (call_lenK (K := K) rfl) (by rfl) B.len PySem.boot_len (pa_cons (pv 0) pa_nil)) (nomark _))
      (pss_cons (ps_asg (pe_callH DP hr (by rfl) pass0 (pa_cons (pv 0) (pa_cons (pv 2) pa_nil))) (pg_tup rfl (pgs_cons (pg_name (i := 3) scRPs.nd rfl (.inl rfl)) (pgs_cons (pg_name (i := 2) scRPs.nd rfl (.inl rfl)) pgs_nil))))
      (pss_one (ps_expr (pe_bm PySem.F.plainAttrs_list PySem.F.slot_list_append PySem.F.type_list_append mt_append (pv 1) (pa_cons (pv 3) pa_nil))))))
    (pss_one (ps_ret (pv 1)))))), ?_⟩
    refine ⟨(by show 0 ≤ sizeLine; exact Nat.zero_le _), fun lp nlp => ?_⟩
    refine ⟨fun mm σ' H' => ∃ (done todo : List PD) (i : Nat) (xs : List V) (x : Option V), ds = done ++ todo ∧ done.length + mm ≤ n ∧ piecesR rows mm i = .ok todo ∧ σ' = [some (.ref l), some (.ref lp), some (.int i), x] ∧ Same H H' ∧ H' lp = some (.lst xs) ∧ PcsAt K C H' xs done,
      ⟨n, [], ds, 0, [], none, rfl, by simp, hp, rfl, Same.new nlp, upd_same, PcsAt.nil⟩, ?_⟩
    rintro mm σ' H' ⟨done, todo, i, xs, x, eds, hm, hpr, rfl, s1, hlp, hpc⟩
    refine ⟨_, rfl, _, rfl, l, _, rfl, .inl (hs.same s1).1, _, _, rfl, rfl, _, rfl, ?_⟩
    rw [List.length_map]
    rcases pieces_step hpr with ⟨q, rfl⟩ | ⟨q, m, d, k2, es, rfl, h1, h2, rfl⟩
    · refine iteN (decide_eq_false (by omega)) ⟨_, rfl, ?_⟩
      rw [List.append_nil] at eds
      subst eds
      exact k lp xs _ s1 hlp hpc
    · have hd := od d (by rw [eds]; simp)
      refine iteY (decide_eq_true (by omega)) ⟨fun σ2 H2 => ∃ (xs2 : List V) (x2 : Option V), σ2 = [some (.ref l), some (.ref lp), some (.int k2), x2] ∧ Same H H2 ∧ H2 lp = some (.lst xs2) ∧ PcsAt K C H2 xs2 (done ++ [d]), fun σ2 H2 ⟨xs2, x2, e1, e2, e3, e4⟩ => ⟨m, by omega, done ++ [d], es, k2, xs2, x2, by rw [eds]; simp, by rw [List.length_append]; show done.length + 1 + m ≤ n; omega, h2, e1, e2, e3, e4⟩, ?_⟩
      refine ⟨_, rfl, _, rfl, l, rows, i, d, k2, rfl, hs.same s1, h1, hd.1, fun p y H2 s2 hp2 hy => ⟨p, _, rfl, SqT.of hp2, rfl, _, _, rfl, _, _, rfl, rfl, ?_⟩⟩
      have hlp2 := s2 _ _ hlp
      have pc := (hpc.same s2).append (PcsAt.one hy hd.1 hd.2)
      refine ⟨_, rfl, .inl ⟨rfl, _, SqL.of hlp2⟩, _, rfl, lp, _, _, rfl, rfl, hlp2, ?_, _, _, rfl, same_put (s1.trans s2) (by
        have : H lp = none := nlp
        exact this), upd_same, pc.put hlp2⟩
      rw [hpc.1]
      exact small1000 (by omega)
end
end Lay
set_option Elab.async false
set_option linter.all false
set_option maxRecDepth 100000
set_option maxHeartbeats 4000000
set_option pp.maxSteps 900
namespace Lay
open PySem PySem.Spec PyProof.Rows L2 KwX
/-! a class called by a local name; a classmethod called by keywords -/
section
variable {X : Cx} {CX : CXT} {k i : Nat} {f C : Addr} {fd : FuncData} {ps : List Str} {sp : Sp} {dvs : List V} {ds : List Value} {E : XK} {x : Str} {p pos : Pos} {e : Expr} {es : List Expr} {t : TA}
def tMakeL (i : Nat) (C : Addr) (sp : Sp) (dvs : List V) (E : XK) (t : TA) : TE := fun σ H Q => σ[i]? = some (some (.ref C)) ∧ tMake C sp dvs E t σ H Q
theorem pe_makeL (M : Mk X.K C f) (F : FnOk X.prog X.w X.K X.mg X.base CX k f fd ps sp) (hr : Room (k + 1) X.A) (hN : X.N[i]? = some x) (hv : Vis X.env.scope x) (hb : Binds X.K fd ps ds) (hd : Vals dvs ds) (hx : Passes CX X E) (ha : PA X (e :: es) t)
    (hdb : (x == ("__debug__" : Str)) = false := by decide) (hcd : (x == ("__classdict__" : Str)) = false := by decide)
    (he : starEach (e :: es) X.env = (false, eval e X.env) :: starEach es X.env := by rfl) (hpl : (backTo pos (starEach es X.env)).any (·.1) = false := by rfl) : PE X (.Call (.Name x p) (e :: es) [] pos) (tMakeL i C sp dvs E t) := by
  refine ⟨fun pins s σ H Q I h => ?_⟩
  obtain ⟨hs, ht⟩ := h
  refine wpAny_Call_Name_kw (thn ((pe_var (pos := p) hN hv hdb hcd).run pins s σ H (fun v H1 => v = .ref C ∧ H1 = H) I ⟨.ref C, hs, rfl, rfl⟩) fun u s1 ⟨v, H1, I1, r1, q1⟩ => ?_)
  obtain ⟨rfl, rfl⟩ := q1
  cases r1
  refine PySem.W.callWith_K (h₀ := X.base) I1.ok.mod.kin M.kp (thn (ha.run pos pins s1 σ _ _ I1 ht) fun us s2 ⟨vs, H2, I2, r, q⟩ => ⟨I2.kIn, ?_⟩) he hpl
  exact run_make M F hr hb hd hx I2 r q
end
section
variable {X : Cx} {CX : CXT} {k : Nat} {C p g : Addr} {mc : Value} {ks : List Str} {sp : List V → List V → Hp → VK → XK → Prop} {E : XK} {m : Str} {pos apos : Pos} {o : Expr} {kws : List Keyword} {ta : TE} {tk : TA}
def tCMethK (C : Addr) (sp : List V → List V → Hp → VK → XK → Prop) (E : XK) (ta : TE) (tk : TA) : TE := fun σ H Q => ta σ H fun x H1 => x = .ref C ∧ tk σ H1 fun zs H2 => sp [.ref C] zs H2 Q E
theorem pe_cmethK {pl : Sem Bool} (he : PE X o ta) (r : ClX.CRead X.K C mc) (c : ClX.CMet X.K C mc m p g) (F : FnRK X.prog X.w X.K X.mg X.base CX k g ks sp) (hr : Room k X.A) (hx : Passes CX X E) (hkw : PK X kws tk)
    (hall : (backToKw pos (keywordEach kws X.env)).all (·.1.isSome) = true := by rfl) (hks : (backToKw pos (keywordEach kws X.env)).filterMap (·.1) = ks := by rfl)
    (hpl : ((backTo pos (starEach [] X.env)).any (·.1) || (backToKw pos (keywordEach kws X.env)).any (·.1.isNone)) = false := by rfl)
    (ht : eval (.Call (.Attribute o m apos) [] kws pos) X.env = (do
      let ov ← eval o X.env
      standAt apos.atName
      let (f, first) ← holding [ov] (getMethod ov m pl)
      callWith pos f first (backTo pos (starEach [] X.env)) (backToKw pos (keywordEach kws X.env))) := by rfl) :
    PE X (.Call (.Attribute o m apos) [] kws pos) (tCMethK C sp E ta tk) := by
  refine ⟨fun pins s σ H Q I h => ?_⟩
  refine PySem.W.methodCall_KW (pl := pl) (thn (he.run pins s σ H _ I h) fun u s1 ⟨x, H1, I1, rx, ex, q⟩ => ?_) ht
  subst ex
  obtain rfl : u = Value.ref C := rx
  refine ClX.getmethcm_ok I1 r c fun s2 I2 => ?_
  refine PySem.W.callWith_of hpl (PySem.W.keeps_M (K := X.K) (self := .ref C) c.fi) (PyProof.Rows.evalArgs_kw2_nil hall ?_)
  refine thn (hkw.run pos _ s2 σ H1 _ I2 q) fun ws s3 ⟨zs, H2, I3, rz, q2⟩ => ⟨⟨ClX.pin_at I3, I3.kIn⟩, ?_⟩
  rw [hks]
  have z : wpAny (model X.prog X.w) X.A (call (.ref s1.heap.objs.size) [] (ks.zip ws)) (EP X ((s1.heap.objs.size, PySem.W.methodObj (.ref g) (.ref C)) :: pins) σ Q) X.xe s3 :=
    wpAny_call (PySem.W.method_call (ClX.pin_at I3) (run_fnRK (us := [.ref C]) (vs := [.ref C]) F hr hx I3 (.cons rfl .nil) rz q2))
  exact thn z fun _ _ y => ClX.unpinE y
end
end Lay
set_option Elab.async false
set_option linter.all false
set_option maxRecDepth 100000
set_option maxHeartbeats 4000000
set_option pp.maxSteps 900
namespace Lay
open PySem PySem.Spec PyProof.Rows L2 KwX
/-! programs: two compared, one read -/
theorem fnrk_pos {CX : CXT} {P : Program} {w : World} {K : PySem.W.Frag} {mg : Str → Option Value} {base : Heap} {k n : Nat} {f : Addr} {fd : FuncData} {ps ks : List Str} {sp : Sp} (F : FnOk P w K mg base CX k f fd ps sp)
    (hb : ∀ (s : Shared) (us ws : List Value), us.length = n → ws.length = ks.length → BindsTo s fd ⟨us, ks.zip ws⟩ (ps.zip (us ++ ws))) : FnRK P w K mg base CX k f ks (fun vs zs H Q E => vs.length = n ∧ zs.length = ks.length ∧ sp (vs ++ zs) H Q E) := by
  intro A outer s H us ws vs zs Q E hr e0 r rz ⟨h1, h2, h3⟩
  exact F.run A outer s H _ (us ++ ws) (vs ++ zs) Q E hr e0 (hb s us ws (by rw [← r.length]; exact h1) (by rw [← rz.length]; exact h2)) (r.append rz) h3
abbrev sEqP : Stmt := inClass (top 33) 6
abbrev sRead : Stmt := inClass (top 33) 1
def spEqPg (K : PySem.W.Frag) (C CP : Addr) : Sp := fun vs H Q _ => ∃ (p q t1 t2 : Addr) (xs ys : List V) (ds es : List PD), vs = [.ref p, .ref q] ∧ ProgT K C CP H p t1 xs ds ∧ ProgT K C CP H q t2 ys es ∧ ∀ H', Same H H' → Q (.bl (decide (V.str (progText ds) = V.str (progText es)))) H'
def spRead (K : PySem.W.Frag) (C CP : Addr) : Sp := fun vs H Q _ => ∃ (t : Str) (n : Nat) (ds : List PD), vs = [.ref CP, .str t] ∧ t.length ≤ 1000000 ∧ t.length ≠ 0 ∧ (∀ r ∈ Txt.split t "\n", r.length ≤ 1000000) ∧ piecesR (Txt.split t "\n") n 0 = .ok ds ∧ n ≤ 100 ∧ ds.length ≤ 100 ∧ (∀ d ∈ ds, d.Ok ∧ d.parts.length ≤ 30) ∧ ∀ p u xs H', Same H H' → ProgT K C CP H' p u xs ds → Q (.ref p) H'
section
variable {P : Program} {w : World} {K : PySem.W.Frag} {mg : Str → Option Value} {base : Heap}
theorem scEqPg : FnScope ["self", "other"] ["self", "other"] (defScope sEqP) := ⟨rfl, rfl, rfl, by decide +kernel, rfl, by decide +kernel, by decide +kernel⟩
theorem ok_eqPg {f fS C CP : Addr} {fd fdS : FuncData} (F : Fun K "__eq__" "Program.__eq__" sEqP f fd) (T : TxtK mg) (hstr : mg "str" = none) (c : ClsI K CP) (gT : mg "Program" = some (.ref CP))
    (GS : FnOk P w K mg base CX0 4 fS fdS ["self"] (spStrP K C CP)) (hs : PySem.W.findIn K (.ref CP) "__str__" = some (some (.ref fS))) (hf : PySem.W.isFn K (.ref fS) = true) (bS : Binds K fdS ["self"] []) : FnOk P w K mg base CX0 7 f fd ["self", "other"] (spEqPg K C CP) := by
  refine F.ok scEqPg (fun vs H Q E h => ?_) (fun cdv A outer s H vs Q E hr h => ?_)
  · obtain ⟨p, q, t1, t2, xs, ys, ds, es, rfl, _⟩ := h
    rfl
  · obtain ⟨p, q, t1, t2, xs, ys, ds, es, rfl, hp, hq, k⟩ := h
    refine ⟨_, pss_one (ps_ret (pe_and (pe_callB call_isi (by rfl) T.isinstance (by decide +kernel) (pa_cons (pv 1) (pa_cons (pe_glob (v := .ref CP) (by rfl) gT rfl) pa_nil)))
      (pe_one (pe_cmpR op_eq (pe_callTy (call_strOwn GS hs hf hr bS pass0) (by rfl) hstr (by decide +kernel) (pa_cons (pv 0) pa_nil)) (pe_callTy (call_strOwn GS hs hf hr bS pass0) (by rfl) hstr (by decide +kernel) (pa_cons (pv 1) pa_nil)) (nomark _))))), ?_⟩
    obtain ⟨dx2, hq2, _⟩ := id hq
    obtain ⟨dx1, hp1, _⟩ := id hp
    refine ⟨_, rfl, _, _, _, _, true, rfl, .own _, c.at hq2, kit_same, _, rfl, iteY rfl ?_⟩
    refine ⟨_, rfl, p, dx1, _, rfl, hp1, p, t1, xs, ds, rfl, hp, fun H1 s1 => ⟨_, rfl, _, rfl, q, dx2, _, rfl, s1 _ _ hq2, q, t2, ys, es, rfl, hq.same s1, fun H2 s2 => ⟨_, rfl, rfl, k H2 (s1.trans s2)⟩⟩⟩
theorem scRead : FnScope ["cls", "text"] ["cls", "text"] (defScope sRead) := ⟨rfl, rfl, rfl, by decide +kernel, rfl, by decide +kernel, by decide +kernel⟩
theorem ok_read {f fI C CP : Addr} {fd dI : FuncData} (F : Fun K "read" "Program.read" sRead f fd) (B : Bt mg) (c : ClsI K C) (M : Mk K CP fI) (GI : FnOk P w K mg base CX0 3 fI dI ["self", "pieces"] (spProgG K C CP)) (bI : Binds K dI ["self", "pieces"] []) (DP : Has P w K mg base CX0 6 "read_pieces" ["rows"] (spRPs K C)) :
    FnOk P w K mg base CX0 7 f fd ["cls", "text"] (spRead K C CP) := by
  refine F.ok scRead (fun vs H Q E h => ?_) (fun cdv A outer s H vs Q E hr h => ?_)
  · obtain ⟨t, n, ds, rfl, _⟩ := h
    rfl
  · obtain ⟨t, n, ds, rfl, tl, t0, rl, hp, hn, hd, od, k⟩ := h
    have hr4 := hr.mono (show 4 ≤ 6 by decide)
    refine ⟨_, (pss_cons (ps_if (pt_not (pt_val (pe_callB (call_isiK (K := K) rfl) (by rfl) B.isinstance (by decide +kernel) (pa_cons (pv 1) (pa_cons (pe_bltn (v := .ty "str") (by rfl) B.str (by decide +kernel) rfl) pa_nil))))) pss_never pss_nil)
    (pss_cons (ps_if (pt_cmpR op_eq (pv 1) pe_str (nomark _)) pss_never pss_nil)
    (pss_one (ps_ret (pe_makeL (i := 0) (E := E0) M GI hr4 rfl (by first | exact .inl rfl | exact .inr rfl) bI .nil pass0 (pa_cons (pe_callH DP hr (by rfl) pass0 (pa_cons (pe_bm PySem.F.plainAttrs_str PySem.F.slot_str_split PySem.F.type_str_split mt_split (pv 1) (pa_cons pe_str pa_nil)) pa_nil)) pa_nil)))))), ?_⟩
    obtain ⟨ty0, ty, e⟩ := isT_str (K := K) (H := H) (z := t)
    refine ⟨_, rfl, _, _, _, _, _, rfl, .ty _, ty, e, _, rfl, iteN rfl ?_⟩
    refine ⟨_, rfl, rfl, _, rfl, iteN (by rw [str_e0]; exact decide_eq_false t0) ?_⟩
    refine ⟨rfl, _, rfl, rfl, _, _, rfl, rfl, by decide, by rw [sizeLine_eq]; omega, fun l nl => ?_⟩
    refine ⟨l, Txt.split t "\n", n, ds, rfl, ⟨SqL.of upd_same, rl⟩, hp, hn, od, fun lp xs H1 s1 hlp hpc => ?_⟩
    have s0 := (Same.new nl (o := .lst ((Txt.split t "\n").map V.str))).trans s1
    intro y dx nx nd ne
    have zz := (Same.new nd (o := .own y)).trans (Same.new (fresh_own (o := .own y) nx ne) (o := .ins CP dx []))
    refine ⟨y, dx, lp, xs, rfl, upd_same, .inl (zz _ _ hlp), by rw [hpc.1]; omega, (hpc.same zz).isP c, fun H2 u hu kp hx => ⟨rfl, ?_⟩⟩
    have s2 := made_same nx nd kp
    exact k y u xs H2 (s0.trans s2) ⟨dx, hx, hu, hpc.same s2, hd⟩
end
end Lay
set_option Elab.async false
set_option linter.all false
set_option maxRecDepth 100000
set_option maxHeartbeats 4000000
set_option pp.maxSteps 900
namespace Lay
open PySem PySem.Spec PyProof.Rows L2 TxL
/-! a program's text, read -/
theorem az_no10 {z : Str} (h : nameB z = true) : 10 ∉ L z := name_free h (by decide)
theorem app_no {a b : Str} {c : Nat} (h1 : c ∉ L a) (h2 : c ∉ L b) : c ∉ L (a ++ b) := by
  rw [L_app, List.mem_append, not_or]
  exact ⟨h1, h2⟩
theorem rem_no10 {z : Str} (h : remarkB z = true) : 10 ∉ L z := by
  by_cases e : z.length = 0
  · rw [empty_of e]
    decide +kernel
  · exact az_no10 (rem_name h e)
theorem empty_no {c : Nat} : c ∉ L Str.empty := by simp [L, Str.empty]
theorem rows_no10 {d : PD} (o : d.Ok) : ∀ z ∈ rowsS d, 10 ∉ L z := by
  have hd : 10 ∉ L (headS d) := by
    rw [headS_is]
    refine app_no (app_no ?_ (az_no10 o.word)) (by decide +kernel)
    split <;> decide +kernel
  have tl : 10 ∉ L (tailS d) := by
    unfold tailS
    split
    · decide +kernel
    · exact app_no (app_no empty_no (by decide +kernel)) (rem_no10 o.behind)
  have cm : 10 ∉ L (commaS d) := by
    unfold commaS
    split <;> decide +kernel
  have jn : 10 ∉ L (Txt.join ", " d.parts) := by
    rw [joinT]
    exact join_free (by decide +kernel) fun p hp => az_no10 (o.parts p hp)
  have lst : 10 ∉ L (d.parts.getLastD Str.empty) := by
    rw [List.getLastD_eq_getLast?]
    cases e : d.parts.getLast? with
    | none => exact empty_no
    | some x => exact az_no10 (o.parts x (List.mem_of_getLast? e))
  intro z hz
  unfold rowsS remarkS bodyS at hz
  rcases List.mem_append.mp hz with h | h
  · rw [List.eq_of_mem_replicate h]
    decide +kernel
  · rcases List.mem_append.mp h with h | h
    · split at h
      · exact (List.not_mem_nil h).elim
      · rw [List.mem_singleton] at h
        rw [h]
        exact app_no (app_no empty_no (by decide +kernel)) (rem_no10 o.ahead)
    · split at h
      · rcases List.mem_cons.mp h with h | h
        · rw [h]; exact hd
        · rcases List.mem_append.mp h with h | h
          · obtain ⟨y, hy, rfl⟩ := List.mem_map.mp h
            exact app_no (app_no (app_no empty_no (by decide +kernel)) (az_no10 (o.parts y ((List.dropLast_sublist d.parts).subset hy)))) (by decide +kernel)
          · simp only [List.mem_cons, List.not_mem_nil, or_false] at h
            rcases h with rfl | rfl
            · exact app_no (app_no (app_no empty_no (by decide +kernel)) lst) cm
            · exact tl
      · rw [List.mem_singleton] at h
        rw [h]
        exact app_no (app_no (app_no hd jn) cm) tl
theorem prog_read {ds : List PD} (ne : ds ≠ []) (h : ∀ d ∈ ds, d.Ok ∧ d.parts.length ≤ 30) (few : ds.length ≤ 50) : (progText ds).length ≤ 1000000 ∧ (progText ds).length ≠ 0 ∧ (∀ r ∈ Txt.split (progText ds) "\n", r.length ≤ 1000000) ∧ piecesR (Txt.split (progText ds) "\n") ds.length 0 = .ok ds := by
  have rne : progRows ds ≠ [] := by
    cases ds with
    | nil => exact absurd rfl ne
    | cons d es =>
      intro z
      have := congrArg List.length z
      unfold progRows at this
      rw [List.map_cons, List.flatten_cons, List.length_append] at this
      have p := rowsS_pos d
      simp only [List.length_nil] at this
      omega
  have sp : Txt.split (progText ds) "\n" = progRows ds := split_join (c := 10) (by decide +kernel) (by decide +kernel) rne fun z hz => by
    unfold progRows at hz
    obtain ⟨l, hl, hz⟩ := List.mem_flatten.mp hz
    obtain ⟨d, hd, rfl⟩ := List.mem_map.mp hl
    exact rows_no10 (h d hd).1 z hz
  have rf := progRows_few h
  have rl := progRows_len h
  refine ⟨?_, ?_, ?_, ?_⟩
  · unfold progText
    have h1 := join_le "\n" (progRows ds)
    have h2 := sum_few (zs := progRows ds) (n := 300) rf
    rw [show (Str.ofString "\n").length = 1 by decide] at h1
    omega
  · intro e
    have e2 := empty_of e
    rw [e2] at sp
    have e3 : Txt.split (Str.ofString "") "\n" = [Str.ofString ""] := by decide +kernel
    rw [e3] at sp
    have rd : ∃ d ∈ ds, ∃ z ∈ rowsS d, z.length ≠ 0 := by
      cases ds with
      | nil => exact absurd rfl ne
      | cons d es =>
        refine ⟨d, List.mem_cons_self, ?_⟩
        have hd0 : (headS d).length ≠ 0 := by
          unfold headS
          rw [Str.length_append]
          have : (Str.ofString "(").length = 1 := by decide
          omega
        unfold rowsS bodyS
        split
        · exact ⟨headS d, by simp, hd0⟩
        · refine ⟨_, List.mem_append_right _ (List.mem_append_right _ List.mem_cons_self), ?_⟩
          rw [Str.length_append, Str.length_append, Str.length_append]
          omega
    obtain ⟨d, hd, z, hz, z0⟩ := rd
    have hm : z ∈ progRows ds := List.mem_flatten.mpr ⟨_, List.mem_map.mpr ⟨d, hd, rfl⟩, hz⟩
    rw [← sp, List.mem_singleton] at hm
    rw [hm] at z0
    exact z0 (by decide)
  · intro r hr
    rw [sp] at hr
    have := rf r hr
    omega
  · rw [sp]
    exact pieces_read ds ds.length 0 (Nat.le_refl _) (fun d hd => (h d hd).1) (by rw [List.drop_zero]; rfl)
end Lay
set_option Elab.async false
set_option linter.all false
set_option maxRecDepth 100000
set_option maxHeartbeats 4000000
namespace Lay
open PySem PySem.Spec PyProof.Rows L2
section
variable {X : Cx}
theorem pe_mono {e : Expr} {t t' : TE} (h : PE X e t) (m : ∀ σ H Q, t' σ H Q → t σ H Q) : PE X e t' := ⟨fun pins s σ H Q I q => h.run pins s σ H Q I (m σ H Q q)⟩
end
/-- a reading with a weaker wish -/
def clo (t : TE) : TE := fun σ H Q => ∃ R : VK, t σ H R ∧ ∀ v H1, R v H1 → Q v H1
def cloA (t : TA) : TA := fun σ H Q => ∃ R : List V → Hp → Prop, t σ H R ∧ ∀ v H1, R v H1 → Q v H1
section
variable {X : Cx} {e : Expr} {es : List Expr} {ta : TE} {t : TA}
theorem pe_clo (he : PE X e ta) : PE X e (clo ta) := ⟨fun pins s σ H Q I h => by
  obtain ⟨R, hR, m⟩ := h
  refine thn (he.run pins s σ H R I hR) fun v s' hv => ?_
  obtain ⟨x, H', I', r, q⟩ := hv
  exact ⟨x, H', I', r, m _ _ q⟩⟩
theorem pa_clo (ha : PA X es t) : PA X es (cloA t) := ⟨fun pos pins s σ H Q I h => by
  obtain ⟨R, hR, m⟩ := h
  refine thn (ha.run pos pins s σ H R I hR) fun v s' hv => ?_
  obtain ⟨x, H', I', r, q⟩ := hv
  exact ⟨x, H', I', r, m _ _ q⟩⟩
end
section
variable {X : Cx} {CT : Addr}
theorem pe_fldX {e : Expr} {ta : TE} {f : Str} {pos : Pos} (he : PE X e ta) (c : Cls X.K CT) (nf : NoAttr X.K CT f) (hb : attributeBase e f X.env (eval e X.env) = eval e X.env := by rfl) :
    PE X (.Attribute e f pos) (fun σ H Q => ta σ H fun x H1 => ∃ p dx fs v, x = .ref p ∧ H1 p = some (.ins CT dx fs) ∧ fs.lookup f = some v ∧ Q v H1) := by
  refine pe_mono (pe_fld (pe_clo he) hb) fun σ H Q h => ⟨_, h, fun v H1 q => ?_⟩
  obtain ⟨p, dx, fs, y, rfl, hp, hl, q⟩ := q
  exact ⟨p, CT, dx, fs, y, rfl, hp, c, nf, hl, q⟩
end
end Lay
set_option Elab.async false
set_option linter.all false
set_option maxRecDepth 100000
set_option maxHeartbeats 4000000
set_option pp.maxSteps 1000
namespace Lay
open PySem PySem.Spec PyProof.Rows L2
abbrev sLenP : Stmt := inClass (top 33) 2
abbrev sGetP : Stmt := inClass (top 33) 3
abbrev sAddP : Stmt := inClass (top 33) 5
def spLenP (K : PySem.W.Frag) (C CP : Addr) : Sp := fun vs H Q _ => ∃ (p t : Addr) (xs : List V) (ds : List PD), vs = [.ref p] ∧ ProgT K C CP H p t xs ds ∧ Q (.int ds.length) H
def spGetG (K : PySem.W.Frag) (C CP : Addr) : Sp := fun vs H Q _ => ∃ (p t : Addr) (i : Nat) (xs : List V) (ds : List PD) (v : V), vs = [.ref p, .int i] ∧ ProgT K C CP H p t xs ds ∧ xs[i]? = some v ∧ Q v H
def spAddP (K : PySem.W.Frag) (C CP : Addr) : Sp := fun vs H Q _ => ∃ (p q t1 t2 : Addr) (xs ys : List V) (ds es : List PD), vs = [.ref p, .ref q] ∧ ProgT K C CP H p t1 xs ds ∧ ProgT K C CP H q t2 ys es ∧ ds.length + es.length ≤ 100 ∧ ∀ c u H', Same H H' → H c = none → ProgT K C CP H' c u (xs ++ ys) (ds ++ es) → Q (.ref c) H'
section
variable {P : Program} {w : World} {K : PySem.W.Frag} {mg : Str → Option Value} {base : Heap}
theorem scLenP : FnScope ["self"] ["self"] (defScope sLenP) := ⟨rfl, rfl, rfl, by decide +kernel, rfl, by decide +kernel, by decide +kernel⟩
theorem ok_lenP {f C CP : Addr} {fd : FuncData} (F : Fun K "__len__" "Program.__len__" sLenP f fd) (hlen : mg "len" = none) (Z : ProgC K CP) : FnOk P w K mg base CX0 1 f fd ["self"] (spLenP K C CP) := by
  refine F.ok scLenP (fun vs H Q E h => ?_) (fun cdv A outer s H vs Q E hr h => ?_)
  · obtain ⟨p, t, xs, ds, rfl, _⟩ := h
    rfl
  · obtain ⟨p, t, xs, ds, rfl, ⟨dx, hp, ht, hps, hl⟩, k⟩ := h
    refine ⟨_, pss_one (ps_ret (pe_callB call_len_seq (by rfl) hlen PySem.boot_len (pa_cons (pe_fld (pv 0) rfl) pa_nil))), ?_⟩
    refine ⟨_, rfl, p, CP, dx, _, _, rfl, hp, Z.cl, Z.pieces, rfl, t, xs, rfl, .inr ht.sqT, ?_⟩
    rw [hps.1]
    exact k
theorem scGetP : FnScope ["self", "at"] ["self", "at"] (defScope sGetP) := ⟨rfl, rfl, rfl, by decide +kernel, rfl, by decide +kernel, by decide +kernel⟩
theorem ok_getG {f fN C CP : Addr} {fd fdN : FuncData} (F : Fun K "__getitem__" "Program.__getitem__" sGetP f fd) (hlen : mg "len" = none) (Z : ProgC K CP)
    (GN : FnOk P w K mg base CX0 2 fN fdN ["value", "many"] (spNum K)) (gN : mg "is_number" = some (.ref fN)) (kN : PySem.W.keepIn K (.ref fN) = true) (bN : Binds K fdN ["value", "many"] []) : FnOk P w K mg base CX0 3 f fd ["self", "at"] (spGetG K C CP) := by
  refine F.ok scGetP (fun vs H Q E h => ?_) (fun cdv A outer s H vs Q E hr h => ?_)
  · obtain ⟨p, t, i, xs, ds, v, rfl, _⟩ := h
    rfl
  · obtain ⟨p, t, i, xs, ds, v, rfl, ⟨dx, hp, ht, hps, hl⟩, hi, k⟩ := h
    refine ⟨_, (pss_cons (ps_if (pt_not (pt_val (pe_call GN hr (by rfl) gN kN bN .nil pass0 (pa_cons (pv 1) (pa_cons (pe_callB call_len_seq (by rfl) hlen PySem.boot_len (pa_cons (pe_fld (pv 0) rfl) pa_nil)) pa_nil))))) pss_never pss_nil)
      (pss_one (ps_ret (pe_ix ix_tup (pe_fld (pv 0) rfl) (pv 1) (fun _ _ => rfl))))), ?_⟩
    have li := (List.getElem?_eq_some_iff.mp hi).1
    refine ⟨_, rfl, _, rfl, p, CP, dx, _, _, rfl, hp, Z.cl, Z.pieces, rfl, t, xs, rfl, .inr ht.sqT, _, _, rfl, .inl ⟨_, rfl, _, rfl, iteN (by simp [li]) ?_⟩⟩
    exact ⟨_, rfl, p, CP, dx, _, _, rfl, hp, Z.cl, Z.pieces, rfl, _, rfl, t, xs, _, v, rfl, rfl, ht.sqT, atI_nat hi, k⟩
theorem scAddP : FnScope ["self", "other"] ["self", "other"] (defScope sAddP) := ⟨rfl, rfl, rfl, by decide +kernel, rfl, by decide +kernel, by decide +kernel⟩
theorem ok_addP {f fP C CP : Addr} {fd fdP : FuncData} (F : Fun K "__add__" "Program.__add__" sAddP f fd) (T : TxtK mg) (c0 : ClsI K C) (c : ClsI K CP) (Z : ProgC K CP) (gT : mg "Program" = some (.ref CP)) (M : Mk K CP fP)
    (GP : FnOk P w K mg base CX0 3 fP fdP ["self", "pieces"] (spProgG K C CP)) (bP : Binds K fdP ["self", "pieces"] []) : FnOk P w K mg base CX0 5 f fd ["self", "other"] (spAddP K C CP) := by
  refine F.ok scAddP (fun vs H Q E h => ?_) (fun cdv A outer s H vs Q E hr h => ?_)
  · obtain ⟨p, q, t1, t2, xs, ys, ds, es, rfl, _⟩ := h
    rfl
  · obtain ⟨p, q, t1, t2, xs, ys, ds, es, rfl, hp, hq, hl, k⟩ := h
    refine ⟨_, (pss_cons (ps_if (pt_not (pt_val (pe_callB call_isi (by rfl) T.isinstance (by decide +kernel) (pa_cons (pv 1) (pa_cons (pe_glob (v := .ref CP) (by rfl) gT rfl) pa_nil))))) pss_never pss_nil)
      (pss_one (ps_ret (pe_make M GP hr (by rfl) gT bP .nil pass0 (pa_cons (pe_op op_catG (pe_fld (pv 0) rfl) (pe_fld (pv 1) rfl)) pa_nil))))), ?_⟩
    obtain ⟨dx2, hq2, ht2, hr2, hl2⟩ := id hq
    obtain ⟨dx1, hp1, ht1, hr1, hl1⟩ := id hp
    refine ⟨_, rfl, _, _, _, _, true, rfl, .own _, c.at hq2, kit_same, _, rfl, iteN rfl ?_⟩
    refine ⟨_, rfl, p, CP, dx1, _, _, rfl, hp1, Z.cl, Z.pieces, rfl, _, rfl, q, CP, dx2, _, _, rfl, hq2, Z.cl, Z.pieces, rfl, t1, t2, xs, ys, rfl, rfl, ht1, ht2, by rw [hr1.1, hr2.1]; omega, fun u H1 s1 hu => fun x dx nx nd ne => ?_⟩
    have zz := (Same.new nd (o := .own x)).trans (Same.new (fresh_own (o := .own x) nx ne) (o := .ins CP dx []))
    have rr := ((hr1.append hr2).same s1)
    refine ⟨x, dx, u, xs ++ ys, rfl, upd_same, .inr (hu.same zz), by rw [List.length_append, hr1.1, hr2.1]; omega, (rr.same zz).isP c0, fun H2 t ht kp hx => ⟨rfl, ?_⟩⟩
    have s2 := made_same nx nd kp
    exact k x t H2 (s1.trans s2) (s1.free nx) ⟨dx, hx, ht, rr.same s2, by rw [List.length_append]; exact hl⟩
theorem fnok_or {CX : CXT} {k : Nat} {f : Addr} {fd : FuncData} {ps : List Str} {s1 s2 : Sp} (F : FnOk P w K mg base CX k f fd ps s1) (G : FnOk P w K mg base CX k f fd ps s2) : FnOk P w K mg base CX k f fd ps (fun vs H Q E => s1 vs H Q E ∨ s2 vs H Q E) :=
  ⟨fun vs H Q E h => h.elim (F.len vs H Q E) (G.len vs H Q E), fun A outer s H args us vs Q E hr e b r h => h.elim (F.run A outer s H args us vs Q E hr e b r) (G.run A outer s H args us vs Q E hr e b r)⟩
theorem fnr_pos {CX : CXT} {k : Nat} {f : Addr} {fd : FuncData} {ps : List Str} {sp : Sp} (F : FnOk P w K mg base CX k f fd ps sp) (hb : ∀ (s : Shared) (us : List Value), us.length = ps.length → BindsTo s fd ⟨us, []⟩ (ps.zip us)) : FnR P w K mg base CX k f sp :=
  fun A outer s H us vs Q E hr e0 r h => F.run A outer s H _ us vs Q E hr e0 (hb s us (by rw [← r.length]; exact F.len _ _ _ _ h)) r h
def spReadE (K : PySem.W.Frag) (C CP : Addr) : Sp := fun vs H Q _ => vs = [.ref CP, .str (progText [])] ∧ ∀ p u xs H', Same H H' → ProgT K C CP H' p u xs [] → Q (.ref p) H'
end
section
variable {X : Cx} {CX : CXT} {k i : Nat} {f C : Addr} {fd : FuncData} {ps : List Str} {sp : Sp} {dvs : List V} {ds : List Value} {E : XK} {x : Str} {p pos : Pos}
theorem pe_makeL0 (M : Mk X.K C f) (F : FnOk X.prog X.w X.K X.mg X.base CX k f fd ps sp) (hr : Room (k + 1) X.A) (hN : X.N[i]? = some x) (hv : Vis X.env.scope x) (hb : Binds X.K fd ps ds) (hd : Vals dvs ds) (hx : Passes CX X E)
    (hdb : (x == ("__debug__" : Str)) = false := by decide) (hcd : (x == ("__classdict__" : Str)) = false := by decide) : PE X (.Call (.Name x p) [] [] pos) (tMakeL i C sp dvs E tNil) := by
  refine ⟨fun pins s σ H Q I h => ?_⟩
  obtain ⟨hs, ht⟩ := h
  refine wpAny_Call_Name_kw (thn ((pe_var (pos := p) hN hv hdb hcd).run pins s σ H (fun v H1 => v = .ref C ∧ H1 = H) I ⟨.ref C, hs, rfl, rfl⟩) fun u s1 ⟨v, H1, I1, r1, q1⟩ => ?_)
  obtain ⟨rfl, rfl⟩ := q1
  cases r1
  exact PySem.W.callWith_K0 I1.kIn M.kp (run_make (us := []) M F hr hb hd hx I1 .nil ht)
end
section
variable {P : Program} {w : World} {K : PySem.W.Frag} {mg : Str → Option Value} {base : Heap}
theorem ok_readE {f fI C CP e : Addr} {fd dI : FuncData} {ds : List Value} (F : Fun K "read" "Program.read" sRead f fd) (B : Bt mg) (M : Mk K CP fI) (GI : FnOk P w K mg base CX0 3 fI dI ["self", "pieces"] (spProgG K C CP)) (hd : Vals [V.ref e] ds) (bI : Binds K dI ["self", "pieces"] ds) (he : ∀ H, TupG K H e []) :
    FnOk P w K mg base CX0 7 f fd ["cls", "text"] (spReadE K C CP) := by
  refine F.ok scRead (fun vs H Q E h => ?_) (fun cdv A outer s H vs Q E hr h => ?_)
  · obtain ⟨rfl, _⟩ := h
    rfl
  · obtain ⟨rfl, k⟩ := h
    have hr4 := hr.mono (show 4 ≤ 6 by decide)
    refine ⟨_, (pss_cons (ps_if (pt_not (pt_val (pe_callB (call_isiK (K := K) rfl) (by rfl) B.isinstance (by decide +kernel) (pa_cons (pv 1) (pa_cons (pe_bltn (v := .ty "str") (by rfl) B.str (by decide +kernel) rfl) pa_nil))))) pss_never pss_nil)
    (pss_cons (ps_if (pt_cmpR op_eq (pv 1) pe_str (nomark _)) (pss_one (ps_ret (pe_makeL0 (i := 0) (E := E0) M GI hr4 rfl (by first | exact .inl rfl | exact .inr rfl) bI hd pass0))) pss_nil)
    pss_never)), ?_⟩
    obtain ⟨ty0, ty, e1⟩ := isT_str (K := K) (H := H) (z := progText [])
    refine ⟨_, rfl, _, _, _, _, _, rfl, .ty _, ty, e1, _, rfl, iteN rfl ?_⟩
    refine ⟨_, rfl, rfl, _, rfl, iteY (by decide +kernel) ?_⟩
    refine ⟨rfl, fun y dx nx nd ne => ?_⟩
    have zz := (Same.new nd (o := .own y)).trans (Same.new (fresh_own (o := .own y) nx ne) (o := .ins CP dx []))
    refine ⟨y, dx, e, [], rfl, upd_same, .inr (he _), Nat.zero_le _, fun v h => (List.not_mem_nil h).elim, fun H2 u hu kp hx => ⟨rfl, ?_⟩⟩
    exact k y u [] H2 (made_same nx nd kp) ⟨dx, hx, hu, PcsAt.nil, Nat.zero_le _⟩
end
end Lay
set_option Elab.async false
set_option linter.all false
set_option maxRecDepth 100000
set_option maxHeartbeats 4000000
set_option pp.maxSteps 1500
namespace Lay
open PySem PySem.Spec PyProof.Rows L2
section
variable {X : Cx} {CX : CXT} {C f : Addr} {n : Nat} {fd : FuncData} {ps : List Str} {sp : Sp} {E : L2.St → XK}
theorem run_subS {A : Around} {pins : List (Addr × Obj)} {σ : L2.St} {H : Hp} {s : Shared} {Q : VK} {us : List Value} {vs : List V} (F : FnOk X.prog X.w X.K X.mg X.base CX n f fd ps sp) (hr : Sub X n A) (hb : Binds X.K fd ps []) (hx : PassesAt CX X σ (E σ))
    (I : Inv X pins σ H s) (r : Vals vs us) (h : sp vs H Q (E σ)) : wpAny (model X.prog X.w) A (call (.ref f) us) (EP X pins σ Q) X.xe s := by
  have hl : us.length = ps.length := by rw [← r.length]; exact F.len _ _ _ _ h
  have b := hb s us I.kIn (by rw [List.append_nil]; exact hl)
  rw [List.append_nil] at b
  have e := I.env0
  have e0 : Env0 X.prog X.w X.K X.mg X.base A X.stack s H := ⟨by rw [hr.fr]; exact e.frames, e.mod, e.bs, e.bsz, e.funs, e.frf, e.hok, e.bare⟩
  refine wpAny_call (codeAny_mono (F.run A X.stack s H ⟨us, []⟩ us vs Q (E σ) hr.room e0 b r h) fun r s' hq => ?_)
  cases r with
  | error er => exact hx pins H s er s' I hq
  | ok fl =>
    cases fl with
    | ret u => exact I.after hq
    | next => exact False.elim hq
    | brk => exact False.elim hq
    | cont => exact False.elim hq
def tIxO (C : Addr) (sp : Sp) (E : L2.St → XK) (ta tb : TE) : TE := fun σ H Q => ta σ H fun x H1 => tb σ H1 fun y H2 => ∃ a dx fs, x = .ref a ∧ H2 a = some (.ins C dx fs) ∧ sp [.ref a, y] H2 Q (E σ)
/-- a[b] by its __getitem__ -/
theorem pe_ixO {a b : Expr} {ta tb : TE} {pos : Pos} (F : FnOk X.prog X.w X.K X.mg X.base CX n f fd ps sp) (hs : PySem.W.findIn X.K (.ref C) "__getitem__" = some (some (.ref f))) (hfi : PySem.W.fnIn X.K f = true) (hf : PySem.W.isFn X.K (.ref f) = true) (hr : Room (n + 1) X.A) (hb : Binds X.K fd ps [])
    (hx : ∀ σ, PassesAt CX X σ (E σ)) (ha : PE X a ta) (hbx : PE X b tb) (hsl : ∀ x i, subscripted b true (.ref x) i = runValue (.builtin "lifetime.subscript" ⟨[.ref x, i], []⟩) := by intros; with_unfolding_all rfl) : PE X (.Subscript a b pos) (tIxO C sp E ta tb) := by
  refine ⟨fun pins s σ H Q I h => ?_⟩
  refine Subscript_ (binT ha hbx I (R := fun x y H2 => ∃ a dx fs, x = .ref a ∧ H2 a = some (.ins C dx fs) ∧ sp [.ref a, y] H2 Q (E σ)) h fun v u s2 x y H2 I2 rx ry q => ?_)
  obtain ⟨p, dx, fs, rfl, hp, q⟩ := q
  cases rx
  obtain ⟨mA, J, _⟩ := ins_get I2.hok hp
  obtain ⟨od, J, _⟩ := J.look
  obtain ⟨m, hF⟩ := I2.fr
  exact PySem.W.sub_K hF I2.ok.mod.kin J hs hfi hf (run_subS (vs := [V.ref p, y]) F ⟨hr.in1, rfl⟩ hb (hx σ) I2 (.cons rfl (.cons ry .nil)) q) (hsl _ _)
theorem passE0 {σ : L2.St} : PassesAt CX0 X σ ((fun _ => E0) σ) := fun _ _ _ _ _ _ h => h.elim
end
end Lay
set_option Elab.async false
set_option linter.all false
set_option maxRecDepth 100000
set_option maxHeartbeats 4000000
set_option pp.maxSteps 1000
namespace Lay
open PySem PySem.Spec PyProof.Rows L2 KwX
/-! programs, by what pieces they are of -/
def PP (K : PySem.W.Frag) (C CP : Addr) (H : Hp) (p : Addr) (ds : List PD) : Prop := ∃ t xs, ProgT K C CP H p t xs ds
theorem PP.same {K : PySem.W.Frag} {C CP p : Addr} {H H' : Hp} {ds : List PD} (s : Same H H') (h : PP K C CP H p ds) : PP K C CP H' p ds := by
  obtain ⟨t, xs, h⟩ := h
  exact ⟨t, xs, h.same s⟩
def mk1 : List Str := ["marked"]
def flip (d : PD) (m : Bool) : PD := ⟨d.word, d.parts, d.broken, m, d.ahead, d.behind, d.blanks, d.left⟩
theorem flip_ok {d : PD} {m : Bool} (o : d.Ok) : (flip d m).Ok := ⟨o.word, o.some, o.few, o.parts, o.ahead, o.behind, o.b0, o.b3⟩
def spButN (K : PySem.W.Frag) (C : Addr) (ks : List Str) : List V → List V → Hp → VK → XK → Prop := fun vs zs H Q E => vs.length = slf.length ∧ zs.length = ks.length ∧ ∀ d, H d = none → spButG K C ks (vs ++ [V.ref d]) (upd H d (.dK (kvK ks zs))) Q E
def spReadA (K : PySem.W.Frag) (C CP : Addr) : Sp := fun vs H Q E => spRead K C CP vs H Q E ∨ spReadE K C CP vs H Q E
/-- what is had of the classes -/
structure Pg (P : Program) (w : World) (K : PySem.W.Frag) (mg : Str → Option Value) (base : Heap) (C CP : Addr) : Prop where
  Z : PieceC K C
  c : ClsI K C
  cp : ClsI K CP
  ZP : ProgC K CP
  gP : mg "Program" = some (.ref CP)
  eq : ∃ f fd, FnOk P w K mg base CX0 1 f fd ["self", "other"] (spEqP K C) ∧ PySem.W.findIn K (.ref C) "__eq__" = some (some (.ref f)) ∧ PySem.W.isFn K (.ref f) = true ∧ Binds K fd ["self", "other"] []
  ne : PySem.W.findIn K (.ref C) "__ne__" = some (some (.builtin "object.__ne__"))
  but : ∃ f, Meth K C "but" f ∧ FnRK P w K mg base CX0 5 f mk1 (spButN K C mk1)
  made : ∃ f fd, Mk K CP f ∧ FnOk P w K mg base CX0 3 f fd ["self", "pieces"] (spProgG K C CP) ∧ Binds K fd ["self", "pieces"] [] ∧ ∃ e ds, Vals [V.ref e] ds ∧ Binds K fd ["self", "pieces"] ds ∧ ∀ H, TupG K H e []
  str : ∃ f fd, FnOk P w K mg base CX0 4 f fd ["self"] (spStrP K C CP) ∧ PySem.W.findIn K (.ref CP) "__str__" = some (some (.ref f)) ∧ PySem.W.isFn K (.ref f) = true ∧ Binds K fd ["self"] []
  len : ∃ f fd, FnOk P w K mg base CX0 1 f fd ["self"] (spLenP K C CP) ∧ PySem.W.findIn K (.ref CP) "__len__" = some (some (.ref f)) ∧ PySem.W.isFn K (.ref f) = true ∧ Binds K fd ["self"] []
  eqP : ∃ f fd, FnOk P w K mg base CX0 7 f fd ["self", "other"] (spEqPg K C CP) ∧ PySem.W.findIn K (.ref CP) "__eq__" = some (some (.ref f)) ∧ PySem.W.isFn K (.ref f) = true ∧ Binds K fd ["self", "other"] []
  neP : PySem.W.findIn K (.ref CP) "__ne__" = some (some (.builtin "object.__ne__"))
  get : ∃ f fd, FnOk P w K mg base CX0 3 f fd ["self", "at"] (spGetG K C CP) ∧ PySem.W.findIn K (.ref CP) "__getitem__" = some (some (.ref f)) ∧ PySem.W.fnIn K f = true ∧ PySem.W.isFn K (.ref f) = true ∧ Binds K fd ["self", "at"] []
  add : ∃ f fd, FnOk P w K mg base CX0 5 f fd ["self", "other"] (spAddP K C CP) ∧ PySem.W.findIn K (.ref CP) "__add__" = some (some (.ref f)) ∧ PySem.W.isFn K (.ref f) = true ∧ Binds K fd ["self", "other"] []
  sf : PySem.W.selfFirst K CP = true
  read : ∃ mc p g, ClX.CRead K CP mc ∧ ClX.CMet K CP mc "read" p g ∧ FnR P w K mg base CX0 7 g (spReadA K C CP)
def rNePg (K : PySem.W.Frag) (C CP : Addr) : R2 := fun x y H Q => ∃ p q ds es, x = .ref p ∧ y = .ref q ∧ PP K C CP H p ds ∧ PP K C CP H q es ∧ ∀ H', Same H H' → Q (.bl (!decide (V.str (progText ds) = V.str (progText es)))) H'
def rEqPg (K : PySem.W.Frag) (C CP : Addr) : R2 := fun x y H Q => ∃ p q ds es, x = .ref p ∧ y = .ref q ∧ PP K C CP H p ds ∧ PP K C CP H q es ∧ ∀ H', Same H H' → Q (.bl (decide (V.str (progText ds) = V.str (progText es)))) H'
def rNePc (K : PySem.W.Frag) (C : Addr) : R2 := fun x y H Q => ∃ p q d e, x = .ref p ∧ y = .ref q ∧ PieceAt K C H p d ∧ PieceAt K C H q e ∧ d.Ok ∧ e.Ok ∧ Q (.bl (!eqB d e)) H
def rAddPg (K : PySem.W.Frag) (C CP : Addr) : R2 := fun x y H Q => ∃ p q ds es, x = .ref p ∧ y = .ref q ∧ PP K C CP H p ds ∧ PP K C CP H q es ∧ ds.length + es.length ≤ 100 ∧ ∀ c H', Same H H' → H c = none → PP K C CP H' c (ds ++ es) → Q (.ref c) H'
def rStrPg (K : PySem.W.Frag) (C CP : Addr) : List V → Hp → VK → Prop := fun xs H Q => ∃ p ds, xs = [.ref p] ∧ PP K C CP H p ds ∧ ∀ H', Same H H' → Q (.str (progText ds)) H'
def rLenPg (K : PySem.W.Frag) (C CP : Addr) : List V → Hp → VK → Prop := fun xs H Q => ∃ p ds, xs = [.ref p] ∧ PP K C CP H p ds ∧ Q (.int ds.length) H
def tGetPg (K : PySem.W.Frag) (C CP : Addr) (ta tb : TE) : TE := fun σ H Q => ta σ H fun x H1 => clo tb σ H1 fun y H2 => ∃ (p : Addr) (i : Nat) (ds : List PD) (d : PD), x = .ref p ∧ y = .int i ∧ PP K C CP H2 p ds ∧ ds[i]? = some d ∧ ∀ z, PieceAt K C H2 z d → Q (.ref z) H2
def tPcs (K : PySem.W.Frag) (C CP : Addr) (ta : TE) : TE := fun σ H Q => ta σ H fun x H1 => ∃ p ds, x = .ref p ∧ PP K C CP H1 p ds ∧ ∀ t xs, TupG K H1 t xs → PcsAt K C H1 xs ds → Q (.ref t) H1
def tMark (K : PySem.W.Frag) (C : Addr) (ta : TE) : TE := fun σ H Q => ta σ H fun x H1 => ∃ p d, x = .ref p ∧ PieceAt K C H1 p d ∧ Q (.bl d.marked) H1
def tBut (K : PySem.W.Frag) (C : Addr) (ta tb : TE) : TE := fun σ H Q => ta σ H fun x H1 => ∃ p d, x = .ref p ∧ PieceAt K C H1 p d ∧ clo tb σ H1 fun y H2 => ∃ m, y = .bl m ∧ PieceAt K C H2 p d ∧ d.Ok ∧ ∀ z H3, Same H2 H3 → H2 z = none → PieceAt K C H3 z (flip d m) → Q (.ref z) H3
def tMkPg (K : PySem.W.Frag) (C CP : Addr) (t : TA) : TE := fun σ H Q => t σ H fun vs H1 => ∃ a xs ds, vs = [.ref a] ∧ SqG K H1 a xs ∧ PcsAt K C H1 xs ds ∧ ds.length ≤ 100 ∧ ∀ c H', Same H1 H' → H1 c = none → PP K C CP H' c ds → Q (.ref c) H'
def tMkPg0 (K : PySem.W.Frag) (C CP : Addr) : TE := fun _ H Q => ∀ c H', Same H H' → H c = none → PP K C CP H' c [] → Q (.ref c) H'
def tRead (K : PySem.W.Frag) (C CP : Addr) (t : TA) : TE := fun σ H Q => t σ H fun vs H1 => ∃ ds, vs = [.str (progText ds)] ∧ ds.length ≤ 50 ∧ (∀ d ∈ ds, d.Ok ∧ d.parts.length ≤ 30) ∧ ∀ p H', Same H1 H' → PP K C CP H' p ds → Q (.ref p) H'
section
variable {X : Cx} {C CP : Addr} {K : PySem.W.Frag} (hK : X.K = K) (T : Pg X.prog X.w K X.mg X.base C CP)
include hK T
theorem op_nePc (hr : Room 2 X.A) : OpR X (compareOp .NotEq) (rNePc K C) := by
  subst hK
  obtain ⟨f, fd, ok, hs, fn, b⟩ := T.eq
  intro pins s σ H x y v u Q I rx ry h
  obtain ⟨p, q, d, e, rfl, rfl, hp, hq, o1, o2, k⟩ := h
  obtain ⟨dx, t, h1, _⟩ := id hp
  obtain ⟨dy, t2, h2, _⟩ := id hq
  exact op_neOwn ok hs T.ne T.c.hm fn hr b pass0 pins s σ H _ _ v u Q I rx ry ⟨p, q, dx, dy, _, _, rfl, rfl, h1, h2, p, _, d, rfl, hp, o1, .inl ⟨q, e, rfl, hq, o2, _, rfl, k⟩⟩
theorem op_nePg (hr : Room 8 X.A) : OpR X (compareOp .NotEq) (rNePg K C CP) := by
  subst hK
  obtain ⟨f, fd, ok, hs, fn, b⟩ := T.eqP
  intro pins s σ H x y v u Q I rx ry h
  obtain ⟨p, q, ds, es, rfl, rfl, ⟨t1, xs, hp⟩, ⟨t2, ys, hq⟩, k⟩ := h
  obtain ⟨d1, h1, _⟩ := id hp
  obtain ⟨d2, h2, _⟩ := id hq
  exact op_neOwn ok hs T.neP T.cp.hm fn hr b pass0 pins s σ H _ _ v u Q I rx ry ⟨p, q, d1, d2, _, _, rfl, rfl, h1, h2, p, q, t1, t2, xs, ys, ds, es, rfl, hp, hq, fun H' s' => ⟨_, rfl, k H' s'⟩⟩
theorem op_eqPg (hr : Room 7 X.A) : OpR X (compareOp .Eq) (rEqPg K C CP) := by
  subst hK
  obtain ⟨f, fd, ok, hs, fn, b⟩ := T.eqP
  intro pins s σ H x y v u Q I rx ry h
  obtain ⟨p, q, ds, es, rfl, rfl, ⟨t1, xs, hp⟩, ⟨t2, ys, hq⟩, k⟩ := h
  obtain ⟨d1, h1, _⟩ := id hp
  obtain ⟨d2, h2, _⟩ := id hq
  exact op_eqOwn ok hs fn hr b pass0 pins s σ H _ _ v u Q I rx ry ⟨p, q, d1, d2, _, _, rfl, rfl, h1, h2, p, q, t1, t2, xs, ys, ds, es, rfl, hp, hq, fun H' s' => ⟨_, rfl, k H' s'⟩⟩
theorem call_strPg (hr : Room 6 X.A) : CallR X (.type "str") (rStrPg K C CP) := by
  subst hK
  obtain ⟨f, fd, ok, hs, fn, b⟩ := T.str
  intro pins s σ H xs us Q I r h
  obtain ⟨p, ds, rfl, ⟨t, zs, hp⟩, k⟩ := h
  obtain ⟨d1, h1, _⟩ := id hp
  exact call_strOwn ok hs fn hr b pass0 pins s σ H _ us Q I r ⟨p, d1, _, rfl, h1, p, t, zs, ds, rfl, hp, fun H' s' => ⟨_, rfl, k H' s'⟩⟩
theorem call_lenPg (hr : Room 2 X.A) : CallR X (.builtin "len") (rLenPg K C CP) := by
  subst hK
  obtain ⟨f, fd, ok, hs, fn, b⟩ := T.len
  intro pins s σ H xs us Q I r h
  obtain ⟨p, ds, rfl, ⟨t, zs, hp⟩, k⟩ := h
  obtain ⟨d1, h1, _, _, hl⟩ := id hp
  exact call_lenOwn ok hs fn hr b pass0 pins s σ H _ us Q I r ⟨p, d1, _, rfl, h1, p, t, zs, ds, rfl, hp, ds.length, rfl, by omega, by omega, k⟩
theorem op_addPg (hr : Room 5 X.A) : OpR X (binaryOp .Add) (rAddPg K C CP) := by
  subst hK
  obtain ⟨f, fd, ok, hs, fn, b⟩ := T.add
  intro pins s σ H x y v u Q I rx ry h
  obtain ⟨p, q, ds, es, rfl, rfl, ⟨t1, xs, hp⟩, ⟨t2, ys, hq⟩, hl, k⟩ := h
  obtain ⟨d1, h1, _⟩ := id hp
  obtain ⟨d2, h2, _⟩ := id hq
  exact op_addOwn ok hs T.sf fn hr b pass0 pins s σ H _ _ v u Q I rx ry ⟨p, q, d1, d2, _, _, rfl, rfl, h1, h2, p, q, t1, t2, xs, ys, ds, es, rfl, hp, hq, hl, fun c u H' s' n' h' => ⟨c, rfl, k c H' s' n' ⟨u, _, h'⟩⟩⟩
theorem pe_getPg (hr : Room 4 X.A) {a b : Expr} {ta tb : TE} {pos : Pos} (ha : PE X a ta) (hbx : PE X b tb) (hsl : ∀ x i, subscripted b true (.ref x) i = runValue (.builtin "lifetime.subscript" ⟨[.ref x, i], []⟩) := by intros; with_unfolding_all rfl) :
    PE X (.Subscript a b pos) (tGetPg K C CP ta tb) := by
  subst hK
  obtain ⟨f, fd, F, hs, hfi, hf, hb⟩ := T.get
  refine pe_mono (pe_ixO (C := CP) (E := fun _ => E0) F hs hfi hf hr hb (fun σ => passE0) (pe_clo ha) (pe_clo hbx) hsl) fun σ H Q h => ⟨_, h, fun x H1 q => ?_⟩
  obtain ⟨R, h1, h2⟩ := q
  refine ⟨R, h1, fun y H2 hy => ?_⟩
  obtain ⟨p, i, ds, d, rfl, rfl, ⟨t, xs, hT⟩, hv, k⟩ := h2 y H2 hy
  obtain ⟨dx, hp, _, hps, _⟩ := id hT
  obtain ⟨v, ev⟩ : ∃ v, xs[i]? = some v := ⟨_, List.getElem?_eq_getElem (by rw [hps.1]; exact (List.getElem?_eq_some_iff.mp hv).1)⟩
  obtain ⟨z, rfl, hz⟩ := hps.2.2 i v d ev hv
  exact ⟨p, dx, _, rfl, hp, p, t, i, xs, ds, _, rfl, hT, ev, k z hz⟩
theorem pe_pcs {e : Expr} {ta : TE} {pos : Pos} (he : PE X e ta) (hb : attributeBase e "pieces" X.env (eval e X.env) = eval e X.env := by rfl) : PE X (.Attribute e "pieces" pos) (tPcs K C CP ta) := by
  subst hK
  refine pe_mono (pe_fldX (CT := CP) (pe_clo he) T.ZP.cl T.ZP.pieces hb) fun σ H Q h => ⟨_, h, fun v H1 q => ?_⟩
  obtain ⟨p, ds, rfl, ⟨t, xs, dx, hp, ht, hps, _⟩, q⟩ := q
  exact ⟨p, dx, _, _, rfl, hp, rfl, q t xs ht hps⟩
theorem pe_mark {e : Expr} {ta : TE} {pos : Pos} (he : PE X e ta) (hb : attributeBase e "marked" X.env (eval e X.env) = eval e X.env := by rfl) : PE X (.Attribute e "marked" pos) (tMark K C ta) := by
  subst hK
  refine pe_mono (pe_fldX (CT := C) (pe_clo he) T.Z.cl T.Z.marked hb) fun σ H Q h => ⟨_, h, fun v H1 q => ?_⟩
  obtain ⟨p, d, rfl, ⟨dx, t, hp, ht⟩, q⟩ := q
  exact ⟨p, dx, _, _, rfl, hp, rfl, q⟩
theorem pe_but (hr : Room 5 X.A) {o e : Expr} {ta tb : TE} {pos apos kpos : Pos} {pl : Sem Bool} (ho : PE X o ta) (he : PE X e tb)
    (hall : (backToKw pos (keywordEach [⟨some "marked", e, kpos⟩] X.env)).all (·.1.isSome) = true := by rfl) (hks : (backToKw pos (keywordEach [⟨some "marked", e, kpos⟩] X.env)).filterMap (·.1) = mk1 := by rfl)
    (hpl : ((backTo pos (starEach [] X.env)).any (·.1) || (backToKw pos (keywordEach [⟨some "marked", e, kpos⟩] X.env)).any (·.1.isNone)) = false := by rfl)
    (ht : eval (.Call (.Attribute o "but" apos) [] [⟨some "marked", e, kpos⟩] pos) X.env = (do
      let ov ← eval o X.env
      standAt apos.atName
      let (f, first) ← holding [ov] (getMethod ov "but" pl)
      callWith pos f first (backTo pos (starEach [] X.env)) (backToKw pos (keywordEach [⟨some "marked", e, kpos⟩] X.env))) := by rfl) :
    PE X (.Call (.Attribute o "but" apos) [] [⟨some "marked", e, kpos⟩] pos) (tBut K C ta tb) := by
  subst hK
  obtain ⟨f, hm, F⟩ := T.but
  refine pe_mono (pe_methKw (E := E0) (pe_clo ho) T.Z.cl hm F hr pass0 (pk_cons (pe_clo he) pk_nil) hall hks hpl ht) fun σ H Q h => ⟨_, h, fun x H1 q => ?_⟩
  obtain ⟨p, d, rfl, ⟨dx, t, hp, htt⟩, R, h1, h2⟩ := q
  refine ⟨p, dx, _, rfl, hp, rfl, R, h1, fun y H2 hy => ?_⟩
  obtain ⟨m, rfl, ⟨dx2, t2, hp2, ht2⟩, o, k⟩ := h2 y H2 hy
  refine ⟨rfl, rfl, fun u nu => ?_⟩
  have s1 := Same.new nu (o := .dK (kvK mk1 [.bl m]))
  exact ⟨p, u, t2, dx2, t2, d, flip d m, _, rfl, s1 _ _ hp2, upd_same, by decide, rfl, rfl, flip_ok o, .inr (s1 _ _ ht2), fun z H' s2 n2 h2 => k z H' (s1.trans s2) (s1.free n2) h2⟩
theorem pe_mkPg {e : Expr} {t : TA} {x : Str} {p pos : Pos} (hx : x = "Program") (hr : Room 4 X.A) (hg : Gl X x) (ha : PA X [e] t) (he : starEach [e] X.env = (false, eval e X.env) :: starEach [] X.env := by rfl) (hpl : (backTo pos (starEach [] X.env)).any (·.1) = false := by rfl) :
    PE X (.Call (.Name x p) [e] [] pos) (tMkPg K C CP t) := by
  subst hK
  subst hx
  obtain ⟨f, fd, M, ok, b, _⟩ := T.made
  refine pe_mono (pe_make M ok hr hg T.gP b .nil pass0 (pa_clo ha) (by decide) he hpl) fun σ H Q h => ⟨_, h, fun vs H1 q => ?_⟩
  obtain ⟨a, xs, ds, rfl, hs, hR, hl, k⟩ := q
  intro y dx nx nd ne
  have zz := (Same.new nd (o := .own y)).trans (Same.new (fresh_own (o := .own y) nx ne) (o := .ins CP dx []))
  refine ⟨y, dx, a, xs, rfl, upd_same, hs.same zz, by rw [hR.1]; omega, (hR.same zz).isP T.c, fun H2 u hu kp hx => ⟨rfl, ?_⟩⟩
  have s2 := made_same nx nd kp
  exact k y H2 s2 nx ⟨u, xs, dx, hx, hu, hR.same s2, hl⟩
theorem pe_mkPg0 {x : Str} {p pos : Pos} (hx : x = "Program") (hr : Room 4 X.A) (hg : Gl X x) : PE X (.Call (.Name x p) [] [] pos) (tMkPg0 K C CP) := by
  subst hK
  subst hx
  obtain ⟨f, fd, M, ok, _, e, ds, hd, b, he⟩ := T.made
  refine pe_mono (pe_make0 M ok hr hg T.gP b hd pass0 (by decide)) fun σ H Q k => ?_
  intro y dx nx nd ne
  have zz := (Same.new nd (o := .own y)).trans (Same.new (fresh_own (o := .own y) nx ne) (o := .ins CP dx []))
  refine ⟨y, dx, e, [], rfl, upd_same, .inr (he _), Nat.zero_le _, fun v h => (List.not_mem_nil h).elim, fun H2 u hu kp hx => ⟨rfl, ?_⟩⟩
  have s2 := made_same nx nd kp
  exact k y H2 s2 nx ⟨u, [], dx, hx, hu, PcsAt.nil, Nat.zero_le _⟩
theorem pe_read (hr : Room 7 X.A) {e : Expr} {t : TA} {x : Str} {p apos pos : Pos} {pl : Sem Bool} (hx : x = "Program") (hg : Gl X x) (ha : PA X [e] t)
    (hst : starEach [e] X.env = (false, eval e X.env) :: starEach [] X.env := by rfl) (hpl : (backTo pos (starEach [] X.env)).any (·.1) = false := by rfl)
    (ht : eval (.Call (.Attribute (.Name x p) "read" apos) [e] [] pos) X.env = (do
      let ov ← eval (.Name x p) X.env
      standAt apos.atName
      let (f, first) ← holding [ov] (getMethod ov "read" pl)
      callWith pos f first (backTo pos (starEach [e] X.env)) (backToKw pos (keywordEach [] X.env))) := by rfl) : PE X (.Call (.Attribute (.Name x p) "read" apos) [e] [] pos) (tRead K C CP t) := by
  subst hK
  subst hx
  obtain ⟨mc, pR, gR, cr, cm, F⟩ := T.read
  refine pe_mono (ClX.pe_cmeth (E := E0) (pe_glob (v := .ref CP) hg T.gP rfl) cr cm F hr pass0 (pa_clo ha) hst hpl ht) fun σ H Q h => ⟨rfl, _, h, fun vs H1 q => ?_⟩
  obtain ⟨ds, rfl, few, ok, k⟩ := q
  by_cases ne : ds = []
  · subst ne
    exact .inr ⟨rfl, fun p u xs H' s' hp => k p H' s' ⟨u, xs, hp⟩⟩
  · obtain ⟨r1, r2, r3, r4⟩ := prog_read ne ok few
    exact .inl ⟨progText ds, ds.length, ds, rfl, r1, r2, r3, r4, by omega, by omega, ok, fun p u xs H' s' hp => k p H' s' ⟨u, xs, hp⟩⟩
end
end Lay
set_option Elab.async false
set_option linter.all false
set_option maxRecDepth 100000
set_option maxHeartbeats 8000000
set_option pp.maxSteps 700
namespace Lay
open PySem PySem.Spec PyProof.Rows L2 KwX TxL
/-! texts of programs put together, and with another piece -/
theorem sapp_assoc (a b c : Str) : a ++ b ++ c = a ++ (b ++ c) := L_inj (by rw [L_app, L_app, L_app, L_app, List.append_assoc])
theorem join_app {sep : Str} : ∀ {xs ys : List Str}, xs ≠ [] → ys ≠ [] → Str.join sep (xs ++ ys) = Str.join sep xs ++ sep ++ Str.join sep ys
  | [], _, h, _ => absurd rfl h
  | [x], [], _, h => absurd rfl h
  | [x], y :: ys, _, _ => rfl
  | x :: x2 :: xs, ys, _, h => by
    show x ++ sep ++ Str.join sep ((x2 :: xs) ++ ys) = x ++ sep ++ Str.join sep (x2 :: xs) ++ sep ++ Str.join sep ys
    rw [join_app (xs := x2 :: xs) (fun z => nomatch z) h]
    simp only [sapp_assoc]
theorem rows_ne {ds : List PD} (ne : ds ≠ []) : progRows ds ≠ [] := by
  cases ds with
  | nil => exact absurd rfl ne
  | cons d es =>
    intro z
    have := congrArg List.length z
    unfold progRows at this
    rw [List.map_cons, List.flatten_cons, List.length_append] at this
    have p := rowsS_pos d
    simp only [List.length_nil] at this
    omega
theorem rows_app (ds es : List PD) : progRows (ds ++ es) = progRows ds ++ progRows es := by
  unfold progRows
  rw [List.map_append, List.flatten_append]
/-- the texts of those that are not empty -/
def textsOf (l : List (List PD)) : List Str := (l.filter fun ds => decide (ds ≠ [])).map progText
theorem text_two (ds es : List PD) : progText (ds ++ es) = Txt.join "\n" (textsOf [ds, es]) := by
  by_cases h1 : ds = []
  · subst h1
    by_cases h2 : es = []
    · subst h2
      decide +kernel
    · have e : textsOf [[], es] = [progText es] := by simp [textsOf, h2]
      rw [e, joinT, List.nil_append]
      rfl
  · by_cases h2 : es = []
    · subst h2
      have e : textsOf [ds, []] = [progText ds] := by simp [textsOf, h1]
      rw [e, joinT, List.append_nil]
      rfl
    · have e : textsOf [ds, es] = [progText ds, progText es] := by simp [textsOf, h1, h2]
      rw [e]
      unfold progText
      rw [joinT, joinT, joinT, joinT, rows_app, join_app (rows_ne h1) (rows_ne h2)]
      rfl
theorem text_inj {ds es : List PD} (n1 : ds ≠ []) (n2 : es ≠ []) (o1 : ∀ d ∈ ds, d.Ok ∧ d.parts.length ≤ 30) (o2 : ∀ d ∈ es, d.Ok ∧ d.parts.length ≤ 30) (l1 : ds.length ≤ 50) (l2 : es.length = ds.length) (h : progText ds = progText es) : ds = es := by
  have r1 := (prog_read n1 o1 l1).2.2.2
  have r2 := (prog_read n2 o2 (by omega)).2.2.2
  rw [h, ← l2, r2] at r1
  exact (Except.ok.inj r1).symm
def other (ds : List PD) (i : Nat) (e : PD) : List PD := ds.take i ++ [e] ++ ds.drop (i + 1)
theorem other_len {ds : List PD} {i : Nat} {e : PD} (h : i < ds.length) : (other ds i e).length = ds.length := by
  unfold other
  rw [List.length_append, List.length_append, List.length_take, List.length_drop]
  simp only [List.length_cons, List.length_nil]
  omega
theorem other_at {ds : List PD} {i : Nat} {e : PD} (h : i < ds.length) : (other ds i e)[i]? = some e := by
  unfold other
  rw [List.append_assoc, List.getElem?_append_right (by rw [List.length_take]; omega), List.length_take]
  have : i - min i ds.length = 0 := by omega
  rw [this]
  rfl
theorem other_mem {ds : List PD} {i : Nat} {e : PD} {P : PD → Prop} (h : ∀ d ∈ ds, P d) (he : P e) : ∀ d ∈ other ds i e, P d := by
  intro d hd
  unfold other at hd
  simp only [List.mem_append, List.mem_cons, List.not_mem_nil, or_false] at hd
  rcases hd with (hd | rfl) | hd
  · exact h d (List.mem_of_mem_take hd)
  · exact he
  · exact h d (List.mem_of_mem_drop hd)
theorem other_text {ds : List PD} {i : Nat} {d e : PD} (hi : ds[i]? = some d) (ne : e ≠ d) (o1 : ∀ d ∈ ds, d.Ok ∧ d.parts.length ≤ 30) (oe : e.Ok ∧ e.parts.length ≤ 30) (l1 : ds.length ≤ 50) : progText (other ds i e) ≠ progText ds := by
  have li := (List.getElem?_eq_some_iff.mp hi).1
  intro h
  have n1 : ds ≠ [] := fun z => by rw [z] at li; exact absurd li (Nat.not_lt_zero _)
  have ll := other_len (e := e) li
  have n2 : other ds i e ≠ [] := fun z => by rw [z] at ll; simp only [List.length_nil] at ll; omega
  have := text_inj n1 n2 o1 (other_mem o1 oe) l1 ll h.symm
  have h2 := other_at (e := e) li
  rw [← this, hi] at h2
  exact ne (Option.some.inj h2).symm
theorem cut_lo {xs : List V} {n : Nat} : cutV xs none (some (n : Int)) = xs.take n := by
  unfold cutV
  rw [HT.sIx_none, HT.sIx_nat, List.drop_zero, Nat.sub_zero]
  rcases Nat.le_total n xs.length with h | h
  · rw [Nat.min_eq_left h]
  · rw [Nat.min_eq_right h, List.take_length, List.take_of_length_le h]
theorem cut_hi {xs : List V} {n : Nat} : cutV xs (some (n : Int)) none = xs.drop n := by
  unfold cutV
  rw [HT.sIx_none, HT.sIx_nat]
  rcases Nat.le_total n xs.length with h | h
  · rw [Nat.min_eq_left h, List.take_of_length_le]
    rw [List.length_drop]
    exact Nat.le_refl _
  · rw [Nat.min_eq_right h, List.drop_length, List.drop_of_length_le h, List.take_nil]
theorem PcsAt.take {K : PySem.W.Frag} {C : Addr} {H : Hp} {xs : List V} {ds : List PD} {n : Nat} (h : PcsAt K C H xs ds) : PcsAt K C H (xs.take n) (ds.take n) := by
  refine ⟨by rw [List.length_take, List.length_take, h.1], fun d hd => h.2.1 d (List.mem_of_mem_take hd), fun i x d hx hd => ?_⟩
  rw [List.getElem?_take] at hx hd
  split at hx
  · rename_i l
    rw [if_pos l] at hd
    exact h.2.2 i x d hx hd
  · cases hx
theorem PcsAt.drop {K : PySem.W.Frag} {C : Addr} {H : Hp} {xs : List V} {ds : List PD} {n : Nat} (h : PcsAt K C H xs ds) : PcsAt K C H (xs.drop n) (ds.drop n) := by
  refine ⟨by rw [List.length_drop, List.length_drop, h.1], fun d hd => h.2.1 d (List.mem_of_mem_drop hd), fun i x d hx hd => ?_⟩
  rw [List.getElem?_drop] at hx hd
  exact h.2.2 _ x d hx hd
/-! what stays where the box is drawn from, or a list is changed -/
theorem SqT.keptB {K : PySem.W.Frag} {b a : Addr} {G G' : Hp} {xs : List V} (x : BoxAt G b) (k : Kept b G G') (h : SqT K G a xs) : SqT K G' a xs := by
  obtain ⟨o, e, g, s, m, ey⟩ := x
  subst ey
  rcases h with (h | ⟨o, h⟩) | h
  · exact .inl (.inl (k _ _ (ne_of h e (fun z => nomatch z)) h))
  · exact .inl (.inr ⟨o, k _ _ (ne_of h e (fun z => nomatch z)) h⟩)
  · exact .inr h
theorem PieceAt.keptB {K : PySem.W.Frag} {b C p : Addr} {G G' : Hp} {d : PD} (x : BoxAt G b) (k : Kept b G G') (h : PieceAt K C G p d) : PieceAt K C G' p d := by
  obtain ⟨o, e, g, s, m, ey⟩ := x
  subst ey
  obtain ⟨dx, t, h1, h2⟩ := h
  exact ⟨dx, t, k _ _ (ne_of h1 e (fun z => nomatch z)) h1, k _ _ (ne_of h2 e (fun z => nomatch z)) h2⟩
theorem PcsAt.keptB {K : PySem.W.Frag} {b C : Addr} {G G' : Hp} {xs : List V} {ds : List PD} (x : BoxAt G b) (k : Kept b G G') (h : PcsAt K C G xs ds) : PcsAt K C G' xs ds := ⟨h.1, h.2.1, fun i x' d hx hd => by
  obtain ⟨p, e, hp⟩ := h.2.2 i x' d hx hd
  exact ⟨p, e, hp.keptB x k⟩⟩
theorem PP.keptB {K : PySem.W.Frag} {b C CP p : Addr} {G G' : Hp} {ds : List PD} (x : BoxAt G b) (k : Kept b G G') (h : PP K C CP G p ds) : PP K C CP G' p ds := by
  obtain ⟨t, xs, dx, h1, h2, h3, h4⟩ := h
  have h3' := h3.keptB x k
  obtain ⟨o, e, g, s, m, ey⟩ := x
  subst ey
  refine ⟨t, xs, dx, k _ _ (ne_of h1 e (fun z => nomatch z)) h1, ?_, h3', h4⟩
  rcases h2 with h2 | h2
  · exact .inl (k _ _ (ne_of h2 e (fun z => nomatch z)) h2)
  · exact .inr h2
theorem PieceAt.lset {K : PySem.W.Frag} {C E p : Addr} {G : Hp} {d : PD} {ys : List V} {ob : HO} (hE : G E = some (.lst ys)) (h : PieceAt K C G p d) : PieceAt K C (upd G E ob) p d := by
  obtain ⟨dx, t, h1, h2⟩ := h
  exact ⟨dx, t, by rw [upd_ne (ne_of h1 hE (fun z => nomatch z))]; exact h1, by rw [upd_ne (ne_of h2 hE (fun z => nomatch z))]; exact h2⟩
theorem PcsAt.lset {K : PySem.W.Frag} {C E : Addr} {G : Hp} {xs : List V} {ds : List PD} {ys : List V} {ob : HO} (hE : G E = some (.lst ys)) (h : PcsAt K C G xs ds) : PcsAt K C (upd G E ob) xs ds := ⟨h.1, h.2.1, fun i x d hx hd => by
  obtain ⟨p, e, hp⟩ := h.2.2 i x d hx hd
  exact ⟨p, e, hp.lset hE⟩⟩
theorem PP.lset {K : PySem.W.Frag} {C CP E p : Addr} {G : Hp} {ds : List PD} {ys : List V} {ob : HO} (hE : G E = some (.lst ys)) (h : PP K C CP G p ds) : PP K C CP (upd G E ob) p ds := by
  obtain ⟨t, xs, dx, h1, h2, h3, h4⟩ := h
  refine ⟨t, xs, dx, by rw [upd_ne (ne_of h1 hE (fun z => nomatch z))]; exact h1, ?_, h3.lset hE, h4⟩
  rcases h2 with h2 | h2
  · exact .inl (by rw [upd_ne (ne_of h2 hE (fun z => nomatch z))]; exact h2)
  · exact .inr h2
theorem PP.ok {K : PySem.W.Frag} {C CP p : Addr} {G : Hp} {ds : List PD} (h : PP K C CP G p ds) : ∀ d ∈ ds, d.Ok ∧ d.parts.length ≤ 30 := by
  obtain ⟨t, xs, dx, h1, h2, h3, h4⟩ := h
  exact h3.2.1
/-- the box is there, and all but it as it was -/
structure Bx (b : Addr) (G G' : Hp) : Prop where
  k : Kept b G G'
  b : BoxAt G' b
theorem Bx.same {b : Addr} {G G1 G2 : Hp} (h : Bx b G G1) (s : Same G1 G2) : Bx b G G2 := ⟨h.k.trans (Kept.of_same s), by
  obtain ⟨o, e, y⟩ := h.b
  exact ⟨o, s _ _ e, y⟩⟩
theorem Bx.kept {b : Addr} {G G1 G2 : Hp} (h : Bx b G G1) (k : Kept b G1 G2) (x : BoxAt G2 b) : Bx b G G2 := ⟨h.k.trans k, x⟩
theorem Bx.trans {b : Addr} {G G1 G2 : Hp} (h : Bx b G G1) (k : Bx b G1 G2) : Bx b G G2 := ⟨h.k.trans k.k, k.b⟩
/-- programs one by one -/
structure Pr where
  p : Addr
  ds : List PD
def PrsAt (K : PySem.W.Frag) (C CP : Addr) (G : Hp) (l : List Pr) : Prop := ∀ q ∈ l, PP K C CP G q.p q.ds ∧ q.ds.length ≤ 4
theorem textsOf_take {l : List (List PD)} {i : Nat} {ds : List PD} (h : l[i]? = some ds) : textsOf (l.take (i + 1)) = textsOf (l.take i) ++ (if ds = [] then [] else [progText ds]) := by
  unfold textsOf
  rw [List.take_succ, h, List.filter_append, List.map_append]
  congr 1
  by_cases e : ds = []
  · subst e
    rfl
  · rw [if_neg e]
    simp [e]
theorem texts_len {l : List (List PD)} : (textsOf l).length ≤ l.length := by
  unfold textsOf
  rw [List.length_map]
  exact List.length_filter_le _ _
theorem texts_few : ∀ {l : List (List PD)}, (∀ ds ∈ l, (∀ d ∈ ds, d.Ok ∧ d.parts.length ≤ 30) ∧ ds.length ≤ 50) → ((textsOf l).map (·.length)).sum ≤ 1000000 * l.length
  | [], _ => Nat.zero_le _
  | ds :: l, h => by
    have h1 := texts_few (l := l) fun e he => h e (List.mem_cons_of_mem _ he)
    obtain ⟨o, few⟩ := h ds List.mem_cons_self
    by_cases e : ds = []
    · have e2 : textsOf (ds :: l) = textsOf l := by simp [textsOf, e]
      rw [e2, List.length_cons]
      omega
    · have e2 : textsOf (ds :: l) = progText ds :: textsOf l := by simp [textsOf, e]
      have := (prog_read e o few).1
      rw [e2, List.map_cons, List.sum_cons, List.length_cons]
      omega
end Lay
set_option Elab.async false
set_option linter.all false
set_option maxRecDepth 100000
set_option maxHeartbeats 8000000
set_option pp.maxSteps 700
namespace Lay
open PySem PySem.Spec PyProof.Rows L2 KwX
def LawN : List Str := ["_law_script", "_law_k", "_law_box_here", "_law_turn", "_law_made_here", "_law_side", "_law_more", "_law_a", "_law_b", "_law_c", "_law_one", "_law_texts", "_law_whole", "_law_at", "_law_other"]
abbrev LawP : List Str := ["_law_script"]
abbrev sLaw : Stmt := top 41
def spLaw (K : PySem.W.Frag) : Sp := fun vs H Q _ => ∃ (a : Addr) (ns : List Int), vs = [.ref a] ∧ SqL K H a (ns.map V.int) ∧ ns.length ≤ 63 ∧ ∀ H', Q (.bl true) H'
section
variable {P : Program} {w : World} {K : PySem.W.Frag} {mg : Str → Option Value} {base : Heap}
theorem scLaw : FnScope LawN LawP (defScope sLaw) := ⟨rfl, rfl, rfl, by decide +kernel, rfl, by decide +kernel, by decide +kernel⟩
theorem ok_Law {f C CP : Addr} {fd : FuncData} (B : Bt mg) (T : Pg P w K mg base C CP)
    (DB : Has P w K mg base CX0 1 "_law_box" ["_law_script", "_law_k", "_law_own"] (spBox K)) (DT : Has P w K mg base CX0 1 "_law_take" ["_law_box_here", "_law_many"] spTake) (DP : Has P w K mg base CX0 4 "_law_piece" ["_law_box_here", "_law_many"] spLPiece) (DM : Has P w K mg base CX0 5 "_law_made" ["_law_piece_here"] (spLMade K C)) (F : Fun K "law" "law" sLaw f fd) : FnOk P w K mg base CX0 9 f fd LawP (spLaw K) := by
  refine F.ok scLaw (fun vs H Q E h => ?_) (fun cdv A outer s H vs Q E hr h => ?_)
  · obtain ⟨a, ns, rfl, _⟩ := h
    rfl
  · obtain ⟨a, ns, rfl, hs, hn, k⟩ := h
    have hr1 := hr.mono (show 1 ≤ 8 by decide)
    have hr2 := hr.mono (show 2 ≤ 8 by decide)
    have hr4 := hr.mono (show 4 ≤ 8 by decide)
    have hr5 := hr.mono (show 5 ≤ 8 by decide)
    have hr6 := hr.mono (show 6 ≤ 8 by decide)
    have hr7 := hr.mono (show 7 ≤ 8 by decide)
    refine ⟨_, (pss_cons (ps_for PassesOwn.never rfl (pi_range1 (by rfl) B.range (pa_cons (pe_callB (call_max2 rfl) (by rfl) B.max (by decide +kernel) (pa_cons pe_int (pa_cons (pe_callB (call_min2 rfl) (by rfl) B.min (by decide +kernel) (pa_cons pe_int (pa_cons (pe_callB (call_lenK (K := K) rfl) (by rfl) B.len PySem.boot_len (pa_cons (pv 0) pa_nil)) pa_nil))) pa_nil))) pa_nil)) (pg_name (i := 1) scLaw.nd rfl (.inl rfl))
      (pss_cons (ps_set (i := 2) scLaw.nd rfl (.inr rfl) (pe_callH DB hr1 (by rfl) pass0 (pa_cons (pv 0) (pa_cons (pv 1) (pa_cons pe_int pa_nil)))))
        (pss_one (ps_for PassesOwn.never rfl (pi_range1 (by rfl) B.range (pa_cons pe_int pa_nil)) (pg_name (i := 3) scLaw.nd rfl (.inl rfl)) (pss_cons (ps_set (i := 4) scLaw.nd rfl (.inl rfl) (pe_lst pa_nil))
        (C8.pss_cut (ps_for PassesOwn.never rfl (pi_range1 (by rfl) B.range (pa_cons pe_int pa_nil)) (pg_name (i := 5) scLaw.nd rfl (.inl rfl)) (pss_one (ps_expr (pe_bm PySem.F.plainAttrs_list PySem.F.slot_list_append PySem.F.type_list_append mt_append (pv 4) (pa_cons (pe_mkPg (K := K) rfl T rfl hr4 (by rfl) (pa_cons (pe_lc (own := [("_law_more", 6)]) (g := gName 6) (tt := tYes) (by rfl) scLaw.nd (pi_range1 (by rfl) B.range (pa_cons (pe_callH DT hr1 (by rfl) pass0 (pa_cons (pv 2) (pa_cons pe_int pa_nil))) pa_nil)) (blkOk_by (N := LawN) (sc := defScope sLaw) (by decide +kernel)) (fun _ _ _ _ _ => pg_name (i := 6) scLaw.nd rfl (Or.inl rfl)) (fun _ _ _ _ _ => pts_nil) (fun _ _ _ _ _ => (pe_callH DM hr5 (by rfl) pass0 (pa_cons (pe_callH DP hr4 (by rfl) pass0 (pa_cons (pv 2) (pa_cons pe_int pa_nil))) pa_nil)))) pa_nil)) pa_nil)))))
        (C8.pss_cut (ps_asg (pv 4) (pg_lst rfl (pgs_cons (pg_name (i := 7) scLaw.nd rfl (.inl rfl)) (pgs_cons (pg_name (i := 8) scLaw.nd rfl (.inl rfl)) (pgs_cons (pg_name (i := 9) scLaw.nd rfl (.inl rfl)) pgs_nil)))))
        (C8.pss_cut (ps_if (PW.pt (pw_or (pt_cmpR (op_nePg (K := K) rfl T hr) (pe_op (op_addPg (K := K) rfl T hr5) (pe_op (op_addPg (K := K) rfl T hr5) (pv 7) (pv 8)) (pv 9)) (pe_op (op_addPg (K := K) rfl T hr5) (pv 7) (pe_op (op_addPg (K := K) rfl T hr5) (pv 8) (pv 9))) (nomark _)) (pw_or1 (pt_cmpR op_ne (pe_callB (call_lenPg (K := K) rfl T hr2) (by rfl) B.len PySem.boot_len (pa_cons (pe_op (op_addPg (K := K) rfl T hr5) (pv 7) (pv 8)) pa_nil)) (pe_op op_add (pe_callB (call_lenPg (K := K) rfl T hr2) (by rfl) B.len PySem.boot_len (pa_cons (pv 7) pa_nil)) (pe_callB (call_lenPg (K := K) rfl T hr2) (by rfl) B.len PySem.boot_len (pa_cons (pv 8) pa_nil))) (nomark _)))))
        (pss_one (ps_ret pe_bl)) pss_nil)
        (C8.pss_cut (ps_setLc (i := 11) (own := [("_law_one", 10)]) (g := gName 10) rfl scLaw.nd rfl rfl (sw_true rfl rfl rfl (by decide +kernel)) (pi_tup (pe_tup (pa_cons (pv 7) (pa_cons (pv 8) pa_nil)))) (blkOk_by (N := LawN) (sc := defScope sLaw) (by decide +kernel)) (fun _ _ _ _ _ => pg_name (i := 10) scLaw.nd rfl (Or.inl rfl)) (fun _ _ _ _ _ => pts_one (pt_cmpR op_gt (pe_callB (call_lenPg (K := K) rfl T hr2) (by rfl) B.len PySem.boot_len (pa_cons (pv 10) pa_nil)) pe_int (nomark _))) (fun _ _ _ _ _ => (pe_callTy (call_strPg (K := K) rfl T hr6) (by rfl) B.str (by decide +kernel) (pa_cons (pv 10) pa_nil))))
        (C8.pss_cut (ps_if (pt_cmpR op_ne (pe_callTy (call_strPg (K := K) rfl T hr6) (by rfl) B.str (by decide +kernel) (pa_cons (pe_op (op_addPg (K := K) rfl T hr5) (pv 7) (pv 8)) pa_nil)) (pe_bm PySem.F.plainAttrs_str PySem.F.slot_str_join PySem.F.type_str_join mt_join pe_str (pa_cons (pv 11) pa_nil)) (nomark _))
        (pss_one (ps_ret pe_bl)) pss_nil)
        (pss_one (ps_for PassesOwn.never rfl (pi_tup (pe_tup (pa_cons (pv 7) (pa_cons (pv 8) (pa_cons (pe_op (op_addPg (K := K) rfl T hr5) (pe_op (op_addPg (K := K) rfl T hr5) (pv 7) (pv 8)) (pv 9)) pa_nil))))) (pg_name (i := 10) scLaw.nd rfl (.inl rfl))
        (C8.pss_cut (ps_if (PW.pt (pw_or (pt_cmpR (op_nePg (K := K) rfl T hr) (pe_read (K := K) rfl T hr7 rfl (by rfl) (pa_cons (pe_callTy (call_strPg (K := K) rfl T hr6) (by rfl) B.str (by decide +kernel) (pa_cons (pv 10) pa_nil)) pa_nil)) (pv 10) (nomark _)) (pw_or1 (pt_cmpR op_ne (pe_callTy (call_strPg (K := K) rfl T hr6) (by rfl) B.str (by decide +kernel) (pa_cons (pe_read (K := K) rfl T hr7 rfl (by rfl) (pa_cons (pe_callTy (call_strPg (K := K) rfl T hr6) (by rfl) B.str (by decide +kernel) (pa_cons (pv 10) pa_nil)) pa_nil)) pa_nil)) (pe_callTy (call_strPg (K := K) rfl T hr6) (by rfl) B.str (by decide +kernel) (pa_cons (pv 10) pa_nil)) (nomark _)))))
        (pss_one (ps_ret pe_bl)) pss_nil)
        (C8.pss_cut (ps_set (i := 12) scLaw.nd rfl (.inl rfl) (pe_mkPg0 (K := K) rfl T rfl hr4 (by rfl)))
        (C8.pss_cut (ps_for PassesOwn.never rfl (pi_range1 (by rfl) B.range (pa_cons (pe_callB (call_lenPg (K := K) rfl T hr2) (by rfl) B.len PySem.boot_len (pa_cons (pv 10) pa_nil)) pa_nil)) (pg_name (i := 13) scLaw.nd rfl (.inl rfl))
        (pss_one (ps_set (i := 12) scLaw.nd rfl (.inl rfl) (pe_op (op_addPg (K := K) rfl T hr5) (pv 12) (pe_mkPg (K := K) rfl T rfl hr4 (by rfl) (pa_cons (pe_lst (pa_cons (pe_getPg (K := K) rfl T hr4 (pv 10) (pv 13)) pa_nil)) pa_nil))))))
        (C8.pss_cut (ps_if (pt_cmpR (op_nePg (K := K) rfl T hr) (pv 12) (pv 10) (nomark _))
        (pss_one (ps_ret pe_bl)) pss_nil)
        (pss_one (ps_if (pt_cmpR op_gt (pe_callB (call_lenPg (K := K) rfl T hr2) (by rfl) B.len PySem.boot_len (pa_cons (pv 10) pa_nil)) pe_int (nomark _))
        (C8.pss_cut (ps_set (i := 13) scLaw.nd rfl (.inl rfl) (pe_callH DT hr1 (by rfl) pass0 (pa_cons (pv 2) (pa_cons (pe_callB (call_lenPg (K := K) rfl T hr2) (by rfl) B.len PySem.boot_len (pa_cons (pv 10) pa_nil)) pa_nil))))
        (C8.pss_cut (ps_set (i := 14) scLaw.nd rfl (.inl rfl) (pe_but (K := K) rfl T hr5 (pe_getPg (K := K) rfl T hr4 (pv 10) (pv 13)) (pe_not (pe_mark (K := K) rfl T (pe_getPg (K := K) rfl T hr4 (pv 10) (pv 13))))))
        (C8.pss_cut (ps_set (i := 6) scLaw.nd rfl (.inl rfl) (pe_mkPg (K := K) rfl T rfl hr4 (by rfl) (pa_cons (pe_op op_catG (pe_op op_catG (pe_slice sl_tup (pe_pcs (K := K) rfl T (pv 10)) po_none (po_some (pv 13))) (pe_tup (pa_cons (pv 14) pa_nil))) (pe_slice sl_tup (pe_pcs (K := K) rfl T (pv 10)) (po_some (pe_op op_add (pv 13) pe_int)) po_none)) pa_nil)))
        (pss_one (ps_if (PW.pt (pw_or (pt_cmpR (op_eqPg (K := K) rfl T hr7) (pv 6) (pv 10) (nomark _)) (pw_or (pt_cmpR op_eq (pe_callTy (call_strPg (K := K) rfl T hr6) (by rfl) B.str (by decide +kernel) (pa_cons (pv 6) pa_nil)) (pe_callTy (call_strPg (K := K) rfl T hr6) (by rfl) B.str (by decide +kernel) (pa_cons (pv 10) pa_nil)) (nomark _)) (pw_or1 (pt_cmpR (op_nePc (K := K) rfl T hr2) (pe_but (K := K) rfl T hr5 (pe_getPg (K := K) rfl T hr4 (pv 6) (pv 13)) (pe_mark (K := K) rfl T (pe_getPg (K := K) rfl T hr4 (pv 10) (pv 13)))) (pe_getPg (K := K) rfl T hr4 (pv 10) (pv 13)) (nomark _))))))
        (pss_one (ps_ret pe_bl)) pss_nil))))) pss_nil))))))))))))))))))
    (pss_one (ps_ret pe_bl))), ?_⟩
    have hmap : (ns.map V.int).length = ns.length := List.length_map ..
    refine ⟨_, rfl, a, _, rfl, .inl hs, _, _, rfl, _, _, rfl, _, rfl, ?_, ?_, for_range (lo := 0) (n := Int.toNat _) (fun i σ G => ∃ x1 x2 x3 x4 x5 x6 x7 x8 x9 x10 x11 x12 x13 x14 : Option V, σ = [some (.ref a), x1, x2, x3, x4, x5, x6, x7, x8, x9, x10, x11, x12, x13, x14] ∧ Same H G)
      ⟨none, none, none, none, none, none, none, none, none, none, none, none, none, none, rfl, Same.refl H⟩ ?_ ?_⟩
    · split <;> split <;> omega
    · split <;> split <;> omega
    · rintro i σ G0 hi ⟨x1, x2, x3, x4, x5, x6, x7, x8, x9, x10, x11, x12, x13, x14, rfl, sG⟩
      have hi3 : i ≤ 2 := by
        revert hi
        split <;> split <;> omega
      refine ⟨_, rfl, _, rfl, a, ns, 0 + (i : Int), 7, rfl, SqL.same sG hs, by omega, by omega, by decide, by decide, by omega, fun b G1 s1 nb b1 => ?_⟩
      refine ⟨3, rfl, by decide, by decide, for_range (lo := 0) (n := Int.toNat _) (fun j σ G => ∃ x3 x4 x5 x6 x7 x8 x9 x10 x11 x12 x13 x14 : Option V, σ = [some (.ref a), some (.int (0 + (i : Int))), some (.ref b), x3, x4, x5, x6, x7, x8, x9, x10, x11, x12, x13, x14] ∧ Bx b G1 G)
        ⟨x3, x4, x5, x6, x7, x8, x9, x10, x11, x12, x13, x14, rfl, Kept.refl b G1, b1⟩ ?_ ?_⟩
      · rintro j σ Gn hj ⟨x3, x4, x5, x6, x7, x8, x9, x10, x11, x12, x13, x14, rfl, bx0⟩
        clear sG hi
        refine ⟨Nat.zero_le _, fun m nm => ?_⟩
        refine ⟨fun σ' G' => ∃ (l : List Pr) (x5 x6 : Option V), σ' = [some (.ref a), some (.int (0 + (i : Int))), some (.ref b), some (.int (0 + (j : Int))), some (.ref m), x5, x6, x7, x8, x9, x10, x11, x12, x13, x14] ∧ Bx b Gn G' ∧ G' m = some (.lst (l.map fun q => V.ref q.p)) ∧ PrsAt K C CP G' l ∧ l.length = 3, ?_, ?_⟩
        · have nmb : m ≠ b := BoxAt.ne bx0.b nm
          refine ⟨3, rfl, by decide, by decide, for_range (lo := 0) (n := Int.toNat _) (fun n σ' G' => ∃ (l : List Pr) (x5 x6 : Option V), σ' = [some (.ref a), some (.int (0 + (i : Int))), some (.ref b), some (.int (0 + (j : Int))), some (.ref m), x5, x6, x7, x8, x9, x10, x11, x12, x13, x14] ∧ Bx b Gn G' ∧ G' m = some (.lst (l.map fun q => V.ref q.p)) ∧ PrsAt K C CP G' l ∧ l.length = n)
            ⟨[], x5, x6, rfl, ⟨Kept.new nm, BoxAt.new bx0.b nm⟩, upd_same, (fun q h => (List.not_mem_nil h).elim), rfl⟩ ?_ ?_⟩
          · rintro n σ G hnn ⟨l, x5, x6, rfl, bx, hm, pr, ll⟩
            have hn3 : n < 3 := hnn
            refine ⟨_, rfl, .inl ⟨rfl, _, SqL.of hm⟩, _, rfl, b, 5, rfl, bx.b, by decide, by decide, fun r o r0 r1 ob => ?_⟩
            have bB : BoxAt (upd G b o) b := BoxAt.box ob
            have kB : Kept b G (upd G b o) := Kept.box
            generalize upd G b o = GB at *
            refine ⟨r, rfl, by omega, by omega, fun D nD => lc_range (lo := 0) (n := Int.toNat _) (fun n G' => ∃ (zs : List V) (ds : List PD), Bx b GB G' ∧ D ≠ b ∧ G' D = some (.lst zs) ∧ PcsAt K C G' zs ds ∧ ds.length = n)
              ⟨[], [], ⟨Kept.new nD, bB.new nD⟩, bB.ne nD, upd_same, PcsAt.nil, rfl⟩ ?_ ?_⟩
            · rintro t G2 ht ⟨zs, ds, b2, nDb, hD, pcs, ld⟩
              refine ⟨rfl, _, rfl, b, 3, rfl, b2.b, by decide, by decide, fun q lp d G4 k4 b4 o' few hq nq nlp => ⟨q, lp, d, rfl, hq, o', by omega, fun y G5 s5 ny hy => ?_⟩⟩
              have hD5 : G5 D = some (.lst zs) := s5 _ _ (k4 _ _ nDb hD)
              refine ⟨zs, hD5, ?_, zs ++ [.ref y], ds ++ [d], ⟨fun c u n1 e => ?_, ?_⟩, nDb, upd_same, ?_, by rw [List.length_append, ld]; rfl⟩
              · rw [pcs.1, ld]
                exact small1000 (by omega)
              · rw [upd_ne (ne_of_none e nD)]
                exact s5 _ _ (k4 _ _ n1 (b2.k _ _ n1 e))
              · obtain ⟨o2, e2, y2⟩ := b4
                exact ⟨o2, by rw [upd_ne (Ne.symm nDb)]; exact s5 _ _ e2, y2⟩
              · exact (((pcs.keptB b2.b k4).same s5).append (PcsAt.one hy o' (by omega))).lset hD5
            · rintro GA ⟨zs, ds, bA, nDb, hD, pcs, ld⟩
              refine ⟨D, zs, ds, rfl, .inl hD, pcs, by omega, fun c G3 s3 nc hc => ?_⟩
              have kGA := kB.trans bA.k
              have hm3 : G3 m = some (.lst (l.map fun q => V.ref q.p)) := s3 _ _ (kGA _ _ nmb hm)
              refine ⟨m, _, _, rfl, rfl, hm3, small1000 (by rw [List.length_map]; omega), ?_⟩
              refine ⟨l ++ [⟨c, ds⟩], _, _, rfl, ⟨fun z u nz e => ?_, ?_⟩, ?_, ?_, by rw [List.length_append, ll]; rfl⟩
              · rw [upd_ne (ne_of_none e nm)]
                exact s3 _ _ (kGA _ _ nz (bx.k _ _ nz e))
              · obtain ⟨o2, e2, y2⟩ := bA.b
                exact ⟨o2, by rw [upd_ne (Ne.symm nmb)]; exact s3 _ _ e2, y2⟩
              · rw [upd_same, List.map_append]
                rfl
              · intro q hq
                rcases List.mem_append.mp hq with hq | hq
                · exact ⟨(((pr q hq).1.keptB bx.b kGA).same s3).lset hm3, (pr q hq).2⟩
                · rw [List.mem_singleton] at hq
                  subst hq
                  exact ⟨hc.lset hm3, by show ds.length ≤ 4; omega⟩
          · rintro σ G ⟨l, x5, x6, rfl, bx, hm, pr, ll⟩
            exact ⟨l, x5, x6, rfl, bx, hm, pr, ll⟩
        rintro σ G2 ⟨l, x5, x6, rfl, bx, hm, pr, ll⟩
        obtain ⟨pa, pb, pc, da, db, dc, rfl⟩ : ∃ pa pb pc da db dc, l = [⟨pa, da⟩, ⟨pb, db⟩, ⟨pc, dc⟩] := by
          match l, ll with
          | [q1, q2, q3], _ => exact ⟨q1.p, q2.p, q3.p, q1.ds, q2.ds, q3.ds, rfl⟩
        obtain ⟨hA, la⟩ : PP K C CP G2 pa da ∧ da.length ≤ 4 := pr ⟨pa, da⟩ (by simp)
        obtain ⟨hB, lb⟩ : PP K C CP G2 pb db ∧ db.length ≤ 4 := pr ⟨pb, db⟩ (by simp)
        obtain ⟨hC, lc⟩ : PP K C CP G2 pc dc ∧ dc.length ≤ 4 := pr ⟨pc, dc⟩ (by simp)
        refine ⟨fun σ' G' => σ' = [some (.ref a), some (.int (0 + (i : Int))), some (.ref b), some (.int (0 + (j : Int))), some (.ref m), x5, x6, some (.ref pa), some (.ref pb), some (.ref pc), x10, x11, x12, x13, x14] ∧ Same G2 G', ?_, ?_⟩
        · exact ⟨_, rfl, m, _, rfl, SqL.of hm, rfl, _, _, rfl, _, _, rfl, _, _, rfl, rfl, rfl, Same.refl _⟩
        clear hm pr
        rintro σ G3 ⟨rfl, s3⟩
        replace hA := hA.same s3
        replace hB := hB.same s3
        replace hC := hC.same s3
        replace bx := bx.same s3
        clear s3 G2
        refine ⟨fun σ' G' => σ' = [some (.ref a), some (.int (0 + (i : Int))), some (.ref b), some (.int (0 + (j : Int))), some (.ref m), x5, x6, some (.ref pa), some (.ref pb), some (.ref pc), x10, x11, x12, x13, x14] ∧ Same G3 G', ?_, ?_⟩
        · refine ⟨_, rfl, _, rfl, pa, pb, da, db, rfl, rfl, hA, hB, by omega, fun ab H1 s1 n1 h1 => ⟨_, rfl, ab, pc, _, _, rfl, rfl, h1, hC.same s1, by rw [List.length_append]; omega, fun abc H2 s2 n2 h2 => ?_⟩⟩
          refine ⟨_, rfl, _, rfl, _, rfl, pb, pc, db, dc, rfl, rfl, (hB.same s1).same s2, (hC.same s1).same s2, by omega, fun bc H3 s3 n3 h3 => ⟨pa, bc, _, _, rfl, rfl, ((hA.same s1).same s2).same s3, h3, by rw [List.length_append]; omega, fun abd H4 s4 n4 h4 => ?_⟩⟩
          have s14 := ((s1.trans s2).trans s3).trans s4
          refine ⟨abc, abd, _, _, rfl, rfl, (h2.same s3).same s4, h4, fun H5 s5 => ⟨_, rfl, iteN (by rw [List.append_assoc]; simp) ?_⟩⟩
          have s15 := s14.trans s5
          refine ⟨_, rfl, _, rfl, pa, pb, da, db, rfl, rfl, hA.same s15, hB.same s15, by omega, fun ab2 H6 s6 n6 h6 => ⟨ab2, _, rfl, h6, _, rfl, pa, da, rfl, (hA.same s15).same s6, _, rfl, pb, db, rfl, (hB.same s15).same s6, _, _, rfl, rfl, rfl, _, rfl, iteN (by rw [List.length_append]; simp) ⟨rfl, s15.trans s6⟩⟩⟩
        rintro σ G4 ⟨rfl, s4⟩
        replace hA := hA.same s4
        replace hB := hB.same s4
        replace hC := hC.same s4
        replace bx := bx.same s4
        clear s4 G3
        refine ⟨fun σ' G' => ∃ Tx : Addr, σ' = [some (.ref a), some (.int (0 + (i : Int))), some (.ref b), some (.int (0 + (j : Int))), some (.ref m), x5, x6, some (.ref pa), some (.ref pb), some (.ref pc), x10, some (.ref Tx), x12, x13, x14] ∧ Same G4 G' ∧ G' Tx = some (.lst ((textsOf [da, db]).map V.str)), ?_, ?_⟩
        · refine ⟨_, rfl, _, rfl, (by show 2 ≤ sizeLine; decide), fun t nt => ⟨t, rfl, ⟨_, SqT.of upd_same⟩, fun D nD => lc_tup (K := K) (a := t) (xs := [.ref pa, .ref pb]) (fun n G' => Same (upd G4 t (.tup [.ref pa, .ref pb])) G' ∧ G' D = some (.lst ((textsOf ([da, db].take n)).map V.str))) ⟨Same.new nD, by rw [upd_same]; rfl⟩ (fun n G' _ z => SqT.of (z.1 _ _ upd_same)) ?_ ?_⟩⟩
          · rintro n x G' hx ⟨sG', hD⟩
            obtain ⟨p, ds, rfl, hp, ed, ln⟩ : ∃ p ds, x = .ref p ∧ PP K C CP G4 p ds ∧ [da, db][n]? = some ds ∧ n < 2 := by
              match n, hx with
              | 0, h => exact ⟨pa, da, (Option.some.inj h).symm, hA, rfl, by decide⟩
              | 1, h => exact ⟨pb, db, (Option.some.inj h).symm, hB, rfl, by decide⟩
            have hp' := (hp.same (Same.new nt (o := .tup [.ref pa, .ref pb]))).same sG'
            have et := textsOf_take ed
            have lds : ds.length ≤ 4 := by
              match n, ln, ed with
              | 0, _, e => cases e; exact la
              | 1, _, e => cases e; exact lb
            have l2 : (textsOf ([da, db].take n)).length ≤ 2 := Nat.le_trans texts_len (by rw [List.length_take]; omega)
            refine ⟨rfl, _, rfl, p, ds, rfl, hp', _, _, rfl, rfl, _, rfl, ?_⟩
            by_cases e0 : ds = []
            · refine iteN (by rw [e0]; rfl) ⟨sG', ?_⟩
              rw [et, if_pos e0, List.append_nil]
              exact hD
            · refine iteY (decide_eq_true (by have := List.length_pos_iff.mpr e0; omega)) ⟨_, rfl, p, ds, rfl, hp', fun G5 s5 => ⟨_, s5 _ _ hD, small1000 (by rw [List.length_map]; omega), fun c u e => ?_, ?_⟩⟩
              · rw [upd_ne (ne_of_none e nD)]
                exact s5 _ _ (sG' _ _ e)
              · rw [upd_same, et, if_neg e0, List.map_append]
                rfl
          · rintro G' ⟨sG', hD⟩
            exact ⟨D, rfl, (Same.new nt).trans sG', hD⟩
        rintro σ G5 ⟨Tx, rfl, s5, hT⟩
        replace hA := hA.same s5
        replace hB := hB.same s5
        replace hC := hC.same s5
        replace bx := bx.same s5
        clear s5 G4
        refine ⟨fun σ' G' => σ' = [some (.ref a), some (.int (0 + (i : Int))), some (.ref b), some (.int (0 + (j : Int))), some (.ref m), x5, x6, some (.ref pa), some (.ref pb), some (.ref pc), x10, some (.ref Tx), x12, x13, x14] ∧ Same G5 G', ?_, ?_⟩
        · refine ⟨_, rfl, _, rfl, pa, pb, da, db, rfl, rfl, hA, hB, by omega, fun ab H1 s1 n1 h1 => ⟨ab, _, rfl, h1, fun H2 s2 => ⟨rfl, _, rfl, _, Tx, textsOf [da, db], rfl, rfl, .inl (SqL.of (s2 _ _ (s1 _ _ hT))), ?_, rfl, _, rfl, iteN (by rw [text_two]; simp) ⟨rfl, s1.trans s2⟩⟩⟩⟩
          have h3 := texts_few (l := [da, db]) (fun ds hd => by
            simp only [List.mem_cons, List.not_mem_nil, or_false] at hd
            rcases hd with rfl | rfl
            · exact ⟨hA.ok, by omega⟩
            · exact ⟨hB.ok, by omega⟩)
          have h4 := texts_len (l := [da, db])
          rw [show (Str.ofString "\n").length = 1 by decide]
          simp only [List.length_cons, List.length_nil] at h3 h4
          omega
        rintro σ G6 ⟨rfl, s6⟩
        replace hA := hA.same s6
        replace hB := hB.same s6
        replace hC := hC.same s6
        replace bx := bx.same s6
        clear hT s6 G5
        refine ⟨_, rfl, _, rfl, _, rfl, _, rfl, pa, pb, da, db, rfl, rfl, hA, hB, by omega, fun ab H1 s1 n1 h1 => ⟨_, rfl, ab, pc, _, _, rfl, rfl, h1, hC.same s1, by rw [List.length_append]; omega, fun abc H2 s2 n2 h2 => ?_⟩⟩
        have s12 := s1.trans s2
        refine ⟨(by show 3 ≤ sizeLine; decide), fun t nt => ⟨t, rfl, ⟨_, SqT.of upd_same⟩, ?_⟩⟩
        have s13 := s12.trans (Same.new nt (o := .tup [.ref pa, .ref pb, .ref abc]))
        have hO := h2.same (Same.new nt (o := .tup [.ref pa, .ref pb, .ref abc]))
        replace hA := hA.same s13
        replace hB := hB.same s13
        replace bx := bx.same s13
        have ht : upd H2 t (.tup [.ref pa, .ref pb, .ref abc]) t = some (.tup [.ref pa, .ref pb, .ref abc]) := upd_same
        generalize upd H2 t (.tup [.ref pa, .ref pb, .ref abc]) = G9 at *
        clear h2 h1 hC s13 s12 s1 s2 n1 n2 nt
        refine for_tup (K := K) (a := t) (xs := [.ref pa, .ref pb, .ref abc]) (fun n σ' G' => ∃ x6 x10 x12 x13 x14 : Option V, σ' = [some (.ref a), some (.int (0 + (i : Int))), some (.ref b), some (.int (0 + (j : Int))), some (.ref m), x5, x6, some (.ref pa), some (.ref pb), some (.ref pc), x10, some (.ref Tx), x12, x13, x14] ∧ Bx b G9 G')
          ⟨x6, x10, x12, x13, x14, rfl, Kept.refl b G9, bx.b⟩ (fun n σ G' _ z => by
            obtain ⟨_, _, _, _, _, _, z⟩ := z
            exact SqT.keptB bx.b z.k (SqT.of ht)) ?_ ?_
        · rintro n x σ G hx ⟨x6, x10, x12, x13, x14, rfl, by9⟩
          obtain ⟨p, ds, rfl, hp, lds⟩ : ∃ p ds, x = .ref p ∧ PP K C CP G p ds ∧ ds.length ≤ 12 := by
            match n, hx with
            | 0, h => exact ⟨pa, da, (Option.some.inj h).symm, hA.keptB bx.b by9.k, by omega⟩
            | 1, h => exact ⟨pb, db, (Option.some.inj h).symm, hB.keptB bx.b by9.k, by omega⟩
            | 2, h => exact ⟨abc, _, (Option.some.inj h).symm, hO.keptB bx.b by9.k, by rw [List.length_append, List.length_append]; omega⟩
          have okp := hp.ok
          refine ⟨fun σ' G' => σ' = [some (.ref a), some (.int (0 + (i : Int))), some (.ref b), some (.int (0 + (j : Int))), some (.ref m), x5, x6, some (.ref pa), some (.ref pb), some (.ref pc), some (.ref p), some (.ref Tx), x12, x13, x14] ∧ Same G G', ?_, ?_⟩
          · refine ⟨_, rfl, p, ds, rfl, hp, fun H1 s1 => ⟨ds, rfl, by omega, okp, fun q H2 s2 hq => ⟨_, rfl, q, p, _, _, rfl, rfl, hq, (hp.same s1).same s2, fun H3 s3 => ⟨_, rfl, iteN (by simp) ?_⟩⟩⟩⟩
            have s13 := (s1.trans s2).trans s3
            refine ⟨_, rfl, p, ds, rfl, hp.same s13, fun H4 s4 => ⟨ds, rfl, by omega, okp, fun q2 H5 s5 hq2 => ⟨q2, ds, rfl, hq2, fun H6 s6 => ?_⟩⟩⟩
            have s16 := s13.trans ((s4.trans s5).trans s6)
            exact ⟨_, rfl, p, ds, rfl, hp.same s16, fun H7 s7 => ⟨rfl, _, rfl, iteN (by simp) ⟨rfl, s16.trans s7⟩⟩⟩
          rintro σ Ga ⟨rfl, sa⟩
          replace hp := hp.same sa
          replace by9 := by9.same sa
          clear sa G
          refine ⟨fun σ' G' => ∃ w : Addr, σ' = [some (.ref a), some (.int (0 + (i : Int))), some (.ref b), some (.int (0 + (j : Int))), some (.ref m), x5, x6, some (.ref pa), some (.ref pb), some (.ref pc), some (.ref p), some (.ref Tx), some (.ref w), x13, x14] ∧ Same Ga G' ∧ PP K C CP G' w [], ?_, ?_⟩
          · exact fun c H1 s1 n1 h1 => ⟨c, rfl, s1, h1⟩
          rintro σ Gb ⟨w0, rfl, sb, hw⟩
          replace hp := hp.same sb
          replace by9 := by9.same sb
          clear sb Ga
          refine ⟨fun σ' G' => ∃ (w : Addr) (x13 : Option V), σ' = [some (.ref a), some (.int (0 + (i : Int))), some (.ref b), some (.int (0 + (j : Int))), some (.ref m), x5, x6, some (.ref pa), some (.ref pb), some (.ref pc), some (.ref p), some (.ref Tx), some (.ref w), x13, x14] ∧ Same Gb G' ∧ PP K C CP G' w ds, ?_, ?_⟩
          · refine ⟨_, rfl, p, ds, rfl, hp, ds.length, rfl, by omega, by omega, for_range (lo := 0) (n := ds.length) (fun n σ' G' => ∃ (w : Addr) (x13 : Option V), σ' = [some (.ref a), some (.int (0 + (i : Int))), some (.ref b), some (.int (0 + (j : Int))), some (.ref m), x5, x6, some (.ref pa), some (.ref pb), some (.ref pc), some (.ref p), some (.ref Tx), some (.ref w), x13, x14] ∧ Same Gb G' ∧ PP K C CP G' w (ds.take n))
              ⟨w0, x13, rfl, Same.refl Gb, by rw [List.take_zero]; exact hw⟩ ?_ ?_⟩
            · rintro u σ G hu ⟨w, x13, rfl, sG', hw⟩
              obtain ⟨d, ed⟩ : ∃ d, ds[u]? = some d := ⟨_, List.getElem?_eq_getElem hu⟩
              obtain ⟨od, fd30⟩ := okp d (List.mem_of_getElem? ed)
              refine ⟨_, rfl, _, rfl, _, ⟨_, rfl, p, u, ds, d, rfl, by rw [Int.zero_add], hp.same sG', ed, fun z hz => ?_⟩, fun _ _ q => q⟩
              refine ⟨(by show 1 ≤ sizeLine; decide), fun lz nlz => ⟨lz, _, [d], rfl, .inl upd_same, PcsAt.one (hz.same (Same.new nlz)) od fd30, (by show 1 ≤ 100; decide), fun c H1 s1 nc hc => ?_⟩⟩
              have sz := (Same.new nlz (o := .lst [.ref z])).trans s1
              refine ⟨w, c, ds.take u, [d], rfl, rfl, hw.same sz, hc, by rw [List.length_take]; simp only [List.length_cons, List.length_nil]; omega, fun c2 H2 s2 nc2 hc2 => ⟨c2, _, rfl, sG'.trans (sz.trans s2), ?_⟩⟩
              have e : ds.take (u + 1) = ds.take u ++ [d] := by rw [List.take_succ, ed]; rfl
              rw [e]
              exact hc2
            · rintro σ G ⟨w, x13, rfl, sG', hw⟩
              rw [List.take_length] at hw
              exact ⟨w, x13, rfl, sG', hw⟩
          clear hw w0 x13
          rintro σ Gc ⟨w, x13, rfl, sc, hw⟩
          replace hp := hp.same sc
          replace by9 := by9.same sc
          clear sc Gb
          refine ⟨fun σ' G' => σ' = [some (.ref a), some (.int (0 + (i : Int))), some (.ref b), some (.int (0 + (j : Int))), some (.ref m), x5, x6, some (.ref pa), some (.ref pb), some (.ref pc), some (.ref p), some (.ref Tx), some (.ref w), x13, x14] ∧ Same Gc G', ?_, ?_⟩
          · exact ⟨_, rfl, _, rfl, w, p, ds, ds, rfl, rfl, hw, hp, fun H1 s1 => ⟨_, rfl, iteN (by simp) ⟨rfl, s1⟩⟩⟩
          rintro σ Gd ⟨rfl, sd⟩
          replace hp := hp.same sd
          replace by9 := by9.same sd
          clear hw sd Gc
          refine ⟨_, rfl, p, ds, rfl, hp, _, _, rfl, rfl, _, rfl, ?_⟩
          by_cases e0 : ds = []
          · exact iteN (by rw [e0]; rfl) ⟨_, _, _, _, _, rfl, by9⟩
          refine iteY (decide_eq_true (by have := List.length_pos_iff.mpr e0; omega)) ?_
          have l0 := List.length_pos_iff.mpr e0
          refine ⟨fun σ' G' => ∃ u : Nat, u < ds.length ∧ σ' = [some (.ref a), some (.int (0 + (i : Int))), some (.ref b), some (.int (0 + (j : Int))), some (.ref m), x5, x6, some (.ref pa), some (.ref pb), some (.ref pc), some (.ref p), some (.ref Tx), some (.ref w), some (.int (u : Int)), x14] ∧ Bx b G9 G' ∧ PP K C CP G' p ds, ?_, ?_⟩
          · refine ⟨_, rfl, _, rfl, p, ds, rfl, hp, b, (ds.length : Int), rfl, by9.b, by omega, by omega, fun r o r0 r1 ob => ⟨r.toNat, by omega, ?_, by9.kept Kept.box (BoxAt.box ob), hp.keptB by9.b Kept.box⟩⟩
            rw [Int.toNat_of_nonneg r0]
            rfl
          clear by9 hp Gd x13
          rintro σ Ge ⟨u, hu, rfl, by9, hp⟩
          obtain ⟨d, ed⟩ : ∃ d, ds[u]? = some d := ⟨_, List.getElem?_eq_getElem hu⟩
          obtain ⟨od, fd30⟩ := okp d (List.mem_of_getElem? ed)
          refine ⟨fun σ' G' => ∃ y : Addr, σ' = [some (.ref a), some (.int (0 + (i : Int))), some (.ref b), some (.int (0 + (j : Int))), some (.ref m), x5, x6, some (.ref pa), some (.ref pb), some (.ref pc), some (.ref p), some (.ref Tx), some (.ref w), some (.int (u : Int)), some (.ref y)] ∧ Same Ge G' ∧ PieceAt K C G' y (flip d (!d.marked)), ?_, ?_⟩
          · refine ⟨_, rfl, _, ⟨_, rfl, p, u, ds, d, rfl, rfl, hp, ed, fun z hz => ⟨z, d, rfl, hz, _, ⟨_, rfl, _, ⟨_, rfl, p, u, ds, d, rfl, rfl, hp, ed, fun z2 hz2 => ⟨z2, d, rfl, hz2, _, rfl, ?_⟩⟩, fun _ _ q => q⟩, fun _ _ q => q⟩⟩, fun _ _ q => q⟩
            exact ⟨_, rfl, hz, od, fun y H3 s3 ny hy => ⟨y, rfl, s3, hy⟩⟩
          rintro σ Gf ⟨y, rfl, sf, hy⟩
          replace hp := hp.same sf
          replace by9 := by9.same sf
          clear sf Ge
          have fl30 : (flip d (!d.marked)).Ok ∧ (flip d (!d.marked)).parts.length ≤ 30 := ⟨flip_ok od, fd30⟩
          refine ⟨fun σ' G' => ∃ c : Addr, σ' = [some (.ref a), some (.int (0 + (i : Int))), some (.ref b), some (.int (0 + (j : Int))), some (.ref m), x5, some (.ref c), some (.ref pa), some (.ref pb), some (.ref pc), some (.ref p), some (.ref Tx), some (.ref w), some (.int (u : Int)), some (.ref y)] ∧ Same Gf G' ∧ PP K C CP G' c (other ds u (flip d (!d.marked))), ?_, ?_⟩
          · refine ⟨_, rfl, p, ds, rfl, hp, fun t1 xs1 ht1 hx1 => ⟨_, rfl, _, rfl, t1, xs1, rfl, ht1.sqT, ?_, fun p1 np1 => ?_⟩⟩
            · rw [HT.sIx_nat]
              have := hx1.1
              rintro ⟨_, z⟩
              omega
            have sA := Same.new np1 (o := .tup (cutV xs1 none (some (u : Int))))
            have h1 : TupG K (upd Gf p1 (.tup (cutV xs1 none (some (u : Int))))) p1 (xs1.take u) := .inl (by rw [upd_same, cut_lo])
            refine ⟨_, rfl, (by show 1 ≤ sizeLine; decide), fun p2 np2 => ?_⟩
            have sB := Same.new np2 (o := .tup [.ref y])
            refine ⟨p1, p2, xs1.take u, [.ref y], rfl, rfl, h1.same sB, .inl upd_same, ?_, fun q1 H1 s1 hq1 => ?_⟩
            · rw [List.length_take]
              have := hx1.1
              simp only [List.length_cons, List.length_nil]
              omega
            have s01 := (sA.trans sB).trans s1
            refine ⟨_, rfl, p, ds, rfl, hp.same s01, fun t2 xs2 ht2 hx2 => ⟨_, rfl, _, _, rfl, rfl, _, rfl, t2, xs2, rfl, ht2.sqT, ?_, fun p3 np3 => ?_⟩⟩
            · rw [show (u : Int) + 1 = ((u + 1 : Nat) : Int) by omega, HT.sIx_nat]
              have := hx2.1
              rintro ⟨z, _⟩
              omega
            rw [show (u : Int) + 1 = ((u + 1 : Nat) : Int) by omega, cut_hi]
            have s3 := Same.new np3 (o := .tup (xs2.drop (u + 1)))
            refine ⟨q1, p3, xs1.take u ++ [.ref y], xs2.drop (u + 1), rfl, rfl, hq1.same s3, .inl upd_same, ?_, fun q2 H2 s2 hq2 => ?_⟩
            · rw [List.length_append, List.length_take, List.length_drop]
              have := hx1.1
              have := hx2.1
              simp only [List.length_cons, List.length_nil]
              omega
            have s32 := s3.trans s2
            refine ⟨q2, _, other ds u (flip d (!d.marked)), rfl, .inr hq2, ((hx1.take.same (s01.trans s32)).append (PcsAt.one (hy.same (s01.trans s32)) fl30.1 fl30.2)).append (hx2.drop.same s32), by rw [other_len hu]; omega, fun c H3 s4 nc hc => ⟨c, rfl, (s01.trans s32).trans s4, hc⟩⟩
          clear hy
          rintro σ Gg ⟨c, rfl, sg, hm⟩
          replace hp := hp.same sg
          replace by9 := by9.same sg
          clear sg Gf
          have tne : progText (other ds u (flip d (!d.marked))) ≠ progText ds := other_text ed (fun z => by
            have := congrArg PD.marked z
            revert this
            show (!d.marked) = d.marked → False
            cases d.marked <;> decide) okp fl30 (by omega)
          refine ⟨_, rfl, _, rfl, c, p, _, ds, rfl, rfl, hm, hp, fun H1 s1 => ⟨_, rfl, iteN (decide_eq_false fun z => tne (V.str.inj z)) ?_⟩⟩
          refine ⟨_, rfl, c, _, rfl, hm.same s1, fun H2 s2 => ⟨_, rfl, p, ds, rfl, (hp.same s1).same s2, fun H3 s3 => ⟨rfl, _, rfl, iteN (decide_eq_false fun z => tne (V.str.inj z)) ?_⟩⟩⟩
          have s13 := (s1.trans s2).trans s3
          replace hp := hp.same s13
          replace hm := hm.same s13
          replace by9 := by9.same s13
          refine ⟨_, rfl, _, ⟨_, rfl, c, u, _, _, rfl, rfl, hm, other_at hu, fun z hz => ⟨z, _, rfl, hz, _, ⟨_, rfl, _, ⟨_, rfl, p, u, ds, d, rfl, rfl, hp, ed, fun z2 hz2 => ⟨z2, d, rfl, hz2, ?_⟩⟩, fun _ _ q => q⟩, fun _ _ q => q⟩⟩, fun _ _ q => q⟩
          refine ⟨_, rfl, hz, fl30.1, fun y4 H4 s4 ny4 hy4 => ⟨_, rfl, _, ⟨_, rfl, p, u, ds, d, rfl, rfl, hp.same s4, ed, fun z5 hz5 => ⟨y4, z5, d, d, rfl, rfl, hy4, hz5, od, od, _, rfl, iteN (by rw [eqB_self]; rfl) ?_⟩⟩, fun _ _ q => q⟩⟩
          exact ⟨_, _, _, _, _, rfl, by9.same s4⟩
        · rintro σ G ⟨x6, x10, x12, x13, x14, rfl, by9⟩
          exact ⟨_, _, _, _, _, _, _, _, _, _, _, _, rfl, bx0.trans (bx.trans by9)⟩
      · rintro σ G ⟨x3, x4, x5, x6, x7, x8, x9, x10, x11, x12, x13, x14, rfl, bx⟩
        exact ⟨_, _, _, _, _, _, _, _, _, _, _, _, _, _, rfl, fun c u e => bx.k _ _ (ne_of_none (sG _ _ e) nb) (s1 _ _ (sG _ _ e))⟩
    · rintro σ G ⟨x1, x2, x3, x4, x5, x6, x7, x8, x9, x10, x11, x12, x13, x14, rfl, sG⟩
      exact k _
end
end Lay
set_option Elab.async false
set_option linter.all false
set_option maxRecDepth 100000
set_option maxHeartbeats 8000000
namespace Lay
open PySem L2

theorem kit_cls {K : PySem.W.Frag} {C : Addr} {t : Value} {b : Bool} (hd : PySem.W.hasDictIn K C = true) (ty : PySem.W.typeIn K (.ref C) = some (.type "type")) (s : PySem.W.subIn K t (.ref C) = some b) (e : t = .ref C → b = true) : PySem.W.kitOne K t (.ref C) = some b := by
  unfold PySem.W.kitOne
  by_cases h : (t == Value.ref C) = true
  · rw [if_pos h, e (beq_iff_eq.mp h)]
  · rw [if_neg h]
    obtain ⟨cd, hc, _⟩ := PySem.W.any_some hd
    unfold PySem.W.kitCls
    dsimp only
    rw [if_pos (by rw [hc, ty]; rfl)]
    exact s
theorem kit_type {K : PySem.W.Frag} {C : Addr} {n : String} {b : Bool} (hm : PySem.W.kitMeta n = true) (s : PySem.W.subIn K (.ref C) (.type n) = some b) : PySem.W.kitOne K (.ref C) (.type n) = some b := by
  unfold PySem.W.kitOne
  rw [if_neg (fun h => by have q := beq_iff_eq.mp h; cases q)]
  unfold PySem.W.kitCls
  dsimp only
  rw [if_pos hm]
  exact s
theorem np_none {C : Addr} : (PySem.fastBuiltinMro "NoneType").map (·.contains (Value.ref C)) = some false := by
  have e : PySem.fastBuiltinMro "NoneType" = some [.type "NoneType", .type "object"] := by decide +kernel
  rw [e]
  rfl
theorem np_int {C : Addr} : (PySem.fastBuiltinMro "int").map (·.contains (Value.ref C)) = some false := by
  have e : PySem.fastBuiltinMro "int" = some [.type "int", .type "object"] := by decide +kernel
  rw [e]
  rfl
theorem np_bool {C : Addr} : (PySem.fastBuiltinMro "bool").map (·.contains (Value.ref C)) = some false := by
  have e : PySem.fastBuiltinMro "bool" = some [.type "bool", .type "int", .type "object"] := by decide +kernel
  rw [e]
  rfl
theorem np_str {C : Addr} : (PySem.fastBuiltinMro "str").map (·.contains (Value.ref C)) = some false := by
  have e : PySem.fastBuiltinMro "str" = some [.type "str", .type "object"] := by decide +kernel
  rw [e]
  rfl
theorem np_list {C : Addr} : (PySem.fastBuiltinMro "list").map (·.contains (Value.ref C)) = some false := by
  have e : PySem.fastBuiltinMro "list" = some [.type "list", .type "object"] := by decide +kernel
  rw [e]
  rfl
theorem np_tuple {C : Addr} : (PySem.fastBuiltinMro "tuple").map (·.contains (Value.ref C)) = some false := by
  have e : PySem.fastBuiltinMro "tuple" = some [.type "tuple", .type "object"] := by decide +kernel
  rw [e]
  rfl

def dPiece : List V := [.bl false, .bl false, .str "", .str "", .int 0, .bl false]
theorem binds_piece8 {K : PySem.W.Frag} {f : Addr} {fd : FuncData} (F : FunD K "__init__" "Piece.__init__" (defArgs sPieceI) (defBody sPieceI) (defScope sPieceI) dPiece [] f fd) : Binds K fd psPiece [] := by
  obtain ⟨ds, h1, h2⟩ := F.binds1 (ps := psPiece) 9 6 (fun z => nomatch z) rfl fun T kV doc pm an cdv ct us its h1 h2 => match us, its, h1, h2 with
    | [_, _, _, _, _, _, _, _, _], [_, _, _, _, _, _], _, _ => ⟨_, rfl, rfl⟩
  cases h1
  exact h2
theorem binds_prog {K : PySem.W.Frag} {f e : Addr} {fd : FuncData} (F : FunD K "__init__" "Program.__init__" (defArgs sProgI) (defBody sProgI) (defScope sProgI) [.ref e] [] f fd) : Binds K fd ["self", "pieces"] [] := by
  obtain ⟨ds, h1, h2⟩ := F.binds1 (ps := ["self", "pieces"]) 2 1 (fun z => nomatch z) rfl fun T kV doc pm an cdv ct us its h1 h2 => match us, its, h1, h2 with
    | [_, _], [_], _, _ => ⟨_, rfl, rfl⟩
  cases h1
  exact h2
theorem binds_prog0 {K : PySem.W.Frag} {f e : Addr} {fd : FuncData} (F : FunD K "__init__" "Program.__init__" (defArgs sProgI) (defBody sProgI) (defScope sProgI) [.ref e] [] f fd) : ∃ ds, Vals [V.ref e] ds ∧ Binds K fd ["self", "pieces"] ds :=
  F.binds1 (ps := ["self", "pieces"]) 1 0 (fun z => nomatch z) rfl fun T kV doc pm an cdv ct us its h1 h2 => match us, its, h1, h2 with
    | [_], [_], _, _ => ⟨_, rfl, rfl⟩

theorem all_mk {l : PySem.W.OpenLaw} {w : World} {K : PySem.W.Frag} {h : Heap} {mg : Str → Option Value} {fa C TC fPI fBu fEq CP TCP eP fGI fsP feP flP fgP faP pR gR g_int g_num g_seq g_name g_names g_req g_rem g_head g_tail g_body g_rows g_check g_rowat g_rbl g_rah g_rhd g_spl g_rfl g_rit g_rbr g_rpc g_rps g_box g_take g_pick g_lname g_lpiece g_made g_law : Addr} (X : K.In h) (G : h.Ns mainGlobals mg) (hfa : mg "law" = some (.ref fa))
    {od_Ci an_Ci : Option Addr} {sl_Ci : Array (Option Value)} {oc_Ci kV_Ci dc_Ci pm_Ci cd_Ci ct_Ci : Value}
    {u1 u2 u3 : Nat}
    {oc_TC : Value} {od_TC : Option Addr} {n_TC : Nat} {sl_TC : Array (Option Value)}
    {od_but an_but : Option Addr} {sl_but : Array (Option Value)} {oc_but kV_but dc_but pm_but cd_but ct_but : Value}
    {od_eq an_eq : Option Addr} {sl_eq : Array (Option Value)} {oc_eq kV_eq dc_eq pm_eq cd_eq ct_eq : Value}
    {od_CPi an_CPi : Option Addr} {sl_CPi : Array (Option Value)} {oc_CPi kV_CPi dc_CPi pm_CPi cd_CPi ct_CPi : Value}
    {oc_TCP : Value} {od_TCP : Option Addr} {n_TCP : Nat} {sl_TCP : Array (Option Value)}
    {od_eP : Option Addr} {n_eP : Nat} {sl_eP : Array (Option Value)}
    {od_sP an_sP : Option Addr} {sl_sP : Array (Option Value)} {oc_sP kV_sP dc_sP pm_sP cd_sP ct_sP : Value}
    {od_eqP an_eqP : Option Addr} {sl_eqP : Array (Option Value)} {oc_eqP kV_eqP dc_eqP pm_eqP cd_eqP ct_eqP : Value}
    {od_lP an_lP : Option Addr} {sl_lP : Array (Option Value)} {oc_lP kV_lP dc_lP pm_lP cd_lP ct_lP : Value}
    {od_gP an_gP : Option Addr} {sl_gP : Array (Option Value)} {oc_gP kV_gP dc_gP pm_gP cd_gP ct_gP : Value}
    {od_aP an_aP : Option Addr} {sl_aP : Array (Option Value)} {oc_aP kV_aP dc_aP pm_aP cd_aP ct_aP : Value}
    {restR : List Value}
    {od_read an_read : Option Addr} {sl_read : Array (Option Value)} {oc_read kV_read dc_read pm_read cd_read ct_read : Value}
    {od_int an_int : Option Addr} {sl_int : Array (Option Value)} {oc_int kV_int dc_int pm_int cd_int ct_int : Value}
    {od_num an_num : Option Addr} {sl_num : Array (Option Value)} {oc_num kV_num dc_num pm_num cd_num ct_num : Value}
    {od_seq an_seq : Option Addr} {sl_seq : Array (Option Value)} {oc_seq kV_seq dc_seq pm_seq cd_seq ct_seq : Value}
    {od_name an_name : Option Addr} {sl_name : Array (Option Value)} {oc_name kV_name dc_name pm_name cd_name ct_name : Value}
    {od_names an_names : Option Addr} {sl_names : Array (Option Value)} {oc_names kV_names dc_names pm_names cd_names ct_names : Value}
    {od_req an_req : Option Addr} {sl_req : Array (Option Value)} {oc_req kV_req dc_req pm_req cd_req ct_req : Value}
    {od_rem an_rem : Option Addr} {sl_rem : Array (Option Value)} {oc_rem kV_rem dc_rem pm_rem cd_rem ct_rem : Value}
    {od_head an_head : Option Addr} {sl_head : Array (Option Value)} {oc_head kV_head dc_head pm_head cd_head ct_head : Value}
    {od_tail an_tail : Option Addr} {sl_tail : Array (Option Value)} {oc_tail kV_tail dc_tail pm_tail cd_tail ct_tail : Value}
    {od_body an_body : Option Addr} {sl_body : Array (Option Value)} {oc_body kV_body dc_body pm_body cd_body ct_body : Value}
    {od_rows an_rows : Option Addr} {sl_rows : Array (Option Value)} {oc_rows kV_rows dc_rows pm_rows cd_rows ct_rows : Value}
    {od_check an_check : Option Addr} {sl_check : Array (Option Value)} {oc_check kV_check dc_check pm_check cd_check ct_check : Value}
    {od_rowat an_rowat : Option Addr} {sl_rowat : Array (Option Value)} {oc_rowat kV_rowat dc_rowat pm_rowat cd_rowat ct_rowat : Value}
    {od_rbl an_rbl : Option Addr} {sl_rbl : Array (Option Value)} {oc_rbl kV_rbl dc_rbl pm_rbl cd_rbl ct_rbl : Value}
    {od_rah an_rah : Option Addr} {sl_rah : Array (Option Value)} {oc_rah kV_rah dc_rah pm_rah cd_rah ct_rah : Value}
    {od_rhd an_rhd : Option Addr} {sl_rhd : Array (Option Value)} {oc_rhd kV_rhd dc_rhd pm_rhd cd_rhd ct_rhd : Value}
    {od_spl an_spl : Option Addr} {sl_spl : Array (Option Value)} {oc_spl kV_spl dc_spl pm_spl cd_spl ct_spl : Value}
    {od_rfl an_rfl : Option Addr} {sl_rfl : Array (Option Value)} {oc_rfl kV_rfl dc_rfl pm_rfl cd_rfl ct_rfl : Value}
    {od_rit an_rit : Option Addr} {sl_rit : Array (Option Value)} {oc_rit kV_rit dc_rit pm_rit cd_rit ct_rit : Value}
    {od_rbr an_rbr : Option Addr} {sl_rbr : Array (Option Value)} {oc_rbr kV_rbr dc_rbr pm_rbr cd_rbr ct_rbr : Value}
    {od_rpc an_rpc : Option Addr} {sl_rpc : Array (Option Value)} {oc_rpc kV_rpc dc_rpc pm_rpc cd_rpc ct_rpc : Value}
    {od_rps an_rps : Option Addr} {sl_rps : Array (Option Value)} {oc_rps kV_rps dc_rps pm_rps cd_rps ct_rps : Value}
    {od_box an_box : Option Addr} {sl_box : Array (Option Value)} {oc_box kV_box dc_box pm_box cd_box ct_box : Value}
    {od_take an_take : Option Addr} {sl_take : Array (Option Value)} {oc_take kV_take dc_take pm_take cd_take ct_take : Value}
    {od_pick an_pick : Option Addr} {sl_pick : Array (Option Value)} {oc_pick kV_pick dc_pick pm_pick cd_pick ct_pick : Value}
    {od_lname an_lname : Option Addr} {sl_lname : Array (Option Value)} {oc_lname kV_lname dc_lname pm_lname cd_lname ct_lname : Value}
    {od_lpiece an_lpiece : Option Addr} {sl_lpiece : Array (Option Value)} {oc_lpiece kV_lpiece dc_lpiece pm_lpiece cd_lpiece ct_lpiece : Value}
    {od_made an_made : Option Addr} {sl_made : Array (Option Value)} {oc_made kV_made dc_made pm_made cd_made ct_made : Value}
    {od_law an_law : Option Addr} {sl_law : Array (Option Value)} {oc_law kV_law dc_law pm_law cd_law ct_law : Value}
    (hn : PySem.W.specialIn K (.builtin "object.__class__") "__get__" = some (some (.builtin "getset_descriptor.__get__")))
    (ht : PySem.W.takesIn K (.builtin "object.__class__") = some true)
    (aC : PySem.W.nsIn K mainGlobals "Piece" = some (some (.ref C)))
    (pgC : PySem.W.plainGet K C Str.empty = true)
    (hdC : PySem.W.hasDictIn K C = true)
    (poC : PySem.W.plainOver K C = true)
    (saC : PySem.W.findIn K (.ref C) "__setattr__" = some (some (.builtin "object.__setattr__")))
    (caC : PySem.W.findIn K (.ref C) "__class__" = some (some (.builtin "object.__class__")))
    (moC : PySem.W.mroIn K C (.type "object") = some true)
    (nlC : PySem.W.subIn K (.ref C) (.type "list") = some false)
    (ntC : PySem.W.subIn K (.ref C) (.type "tuple") = some false)
    (nbC : PySem.W.subIn K (.ref C) (.type "bool") = some false)
    (tyC : PySem.W.typeIn K (.ref C) = some (.type "type"))
    (noC_word : PySem.W.findIn K (.ref C) "word" = some none)
    (noC_parts : PySem.W.findIn K (.ref C) "parts" = some none)
    (noC_broken : PySem.W.findIn K (.ref C) "broken" = some none)
    (noC_marked : PySem.W.findIn K (.ref C) "marked" = some none)
    (noC_ahead : PySem.W.findIn K (.ref C) "ahead" = some none)
    (noC_behind : PySem.W.findIn K (.ref C) "behind" = some none)
    (noC_blanks : PySem.W.findIn K (.ref C) "blanks" = some none)
    (noC_left : PySem.W.findIn K (.ref C) "left" = some none)
    (mkC : PySem.W.makesIn K C = true)
    (inC : PySem.W.findIn K (.ref C) "__init__" = some (some (.ref fPI)))
    (fiC : PySem.W.isFn K (.ref fPI) = true)
    (kpC : PySem.W.keepIn K (.ref C) = true)
    (l_Ci : K.lookup fPI = some ⟨oc_Ci, od_Ci, .func (PySem.W.fnOf "__init__" "Piece.__init__" (defArgs sPieceI) (defBody sPieceI) (defScope sPieceI) (.ref TC) kV_Ci dc_Ci pm_Ci an_Ci cd_Ci ct_Ci), sl_Ci⟩)
    (c_Ci : PySem.W.codeIn K cd_Ci "Piece.__init__" = true)
    (k_Ci : PySem.W.keepIn K (.ref fPI) = true)
    (l_TC : K.lookup TC = some ⟨oc_TC, od_TC, .seq [.bool false, .bool false, .str "" u1, .str "" u2, .int 0 u3, .bool false].toArray n_TC, sl_TC⟩)
    (s_but : PySem.W.findIn K (.ref C) "but" = some (some (.ref fBu)))
    (f_but : PySem.W.isFn K (.ref fBu) = true)
    (l_but : K.lookup fBu = some ⟨oc_but, od_but, .func (PySem.W.fnOf "but" "Piece.but" (defArgs sBut) (defBody sBut) (defScope sBut) .none kV_but dc_but pm_but an_but cd_but ct_but), sl_but⟩)
    (c_but : PySem.W.codeIn K cd_but "Piece.but" = true)
    (k_but : PySem.W.keepIn K (.ref fBu) = true)
    (s_eq : PySem.W.findIn K (.ref C) "__eq__" = some (some (.ref fEq)))
    (f_eq : PySem.W.isFn K (.ref fEq) = true)
    (l_eq : K.lookup fEq = some ⟨oc_eq, od_eq, .func (PySem.W.fnOf "__eq__" "Piece.__eq__" (defArgs sEqPc) (defBody sEqPc) (defScope sEqPc) .none kV_eq dc_eq pm_eq an_eq cd_eq ct_eq), sl_eq⟩)
    (c_eq : PySem.W.codeIn K cd_eq "Piece.__eq__" = true)
    (k_eq : PySem.W.keepIn K (.ref fEq) = true)
    (neC : PySem.W.findIn K (.ref C) "__ne__" = some (some (.builtin "object.__ne__")))
    (aCP : PySem.W.nsIn K mainGlobals "Program" = some (some (.ref CP)))
    (pgCP : PySem.W.plainGet K CP Str.empty = true)
    (hdCP : PySem.W.hasDictIn K CP = true)
    (poCP : PySem.W.plainOver K CP = true)
    (saCP : PySem.W.findIn K (.ref CP) "__setattr__" = some (some (.builtin "object.__setattr__")))
    (caCP : PySem.W.findIn K (.ref CP) "__class__" = some (some (.builtin "object.__class__")))
    (moCP : PySem.W.mroIn K CP (.type "object") = some true)
    (nlCP : PySem.W.subIn K (.ref CP) (.type "list") = some false)
    (ntCP : PySem.W.subIn K (.ref CP) (.type "tuple") = some false)
    (nbCP : PySem.W.subIn K (.ref CP) (.type "bool") = some false)
    (tyCP : PySem.W.typeIn K (.ref CP) = some (.type "type"))
    (noCP_pieces : PySem.W.findIn K (.ref CP) "pieces" = some none)
    (mkCP : PySem.W.makesIn K CP = true)
    (inCP : PySem.W.findIn K (.ref CP) "__init__" = some (some (.ref fGI)))
    (fiCP : PySem.W.isFn K (.ref fGI) = true)
    (kpCP : PySem.W.keepIn K (.ref CP) = true)
    (l_CPi : K.lookup fGI = some ⟨oc_CPi, od_CPi, .func (PySem.W.fnOf "__init__" "Program.__init__" (defArgs sProgI) (defBody sProgI) (defScope sProgI) (.ref TCP) kV_CPi dc_CPi pm_CPi an_CPi cd_CPi ct_CPi), sl_CPi⟩)
    (c_CPi : PySem.W.codeIn K cd_CPi "Program.__init__" = true)
    (k_CPi : PySem.W.keepIn K (.ref fGI) = true)
    (l_TCP : K.lookup TCP = some ⟨oc_TCP, od_TCP, .seq [.ref eP].toArray n_TCP, sl_TCP⟩)
    (l_eP : K.lookup eP = some ⟨.type "tuple", od_eP, .seq [].toArray n_eP, sl_eP⟩)
    (s_sP : PySem.W.findIn K (.ref CP) "__str__" = some (some (.ref fsP)))
    (f_sP : PySem.W.isFn K (.ref fsP) = true)
    (l_sP : K.lookup fsP = some ⟨oc_sP, od_sP, .func (PySem.W.fnOf "__str__" "Program.__str__" (defArgs sStrP) (defBody sStrP) (defScope sStrP) .none kV_sP dc_sP pm_sP an_sP cd_sP ct_sP), sl_sP⟩)
    (c_sP : PySem.W.codeIn K cd_sP "Program.__str__" = true)
    (k_sP : PySem.W.keepIn K (.ref fsP) = true)
    (s_eqP : PySem.W.findIn K (.ref CP) "__eq__" = some (some (.ref feP)))
    (f_eqP : PySem.W.isFn K (.ref feP) = true)
    (l_eqP : K.lookup feP = some ⟨oc_eqP, od_eqP, .func (PySem.W.fnOf "__eq__" "Program.__eq__" (defArgs sEqP) (defBody sEqP) (defScope sEqP) .none kV_eqP dc_eqP pm_eqP an_eqP cd_eqP ct_eqP), sl_eqP⟩)
    (c_eqP : PySem.W.codeIn K cd_eqP "Program.__eq__" = true)
    (k_eqP : PySem.W.keepIn K (.ref feP) = true)
    (s_lP : PySem.W.findIn K (.ref CP) "__len__" = some (some (.ref flP)))
    (f_lP : PySem.W.isFn K (.ref flP) = true)
    (l_lP : K.lookup flP = some ⟨oc_lP, od_lP, .func (PySem.W.fnOf "__len__" "Program.__len__" (defArgs sLenP) (defBody sLenP) (defScope sLenP) .none kV_lP dc_lP pm_lP an_lP cd_lP ct_lP), sl_lP⟩)
    (c_lP : PySem.W.codeIn K cd_lP "Program.__len__" = true)
    (k_lP : PySem.W.keepIn K (.ref flP) = true)
    (s_gP : PySem.W.findIn K (.ref CP) "__getitem__" = some (some (.ref fgP)))
    (f_gP : PySem.W.isFn K (.ref fgP) = true)
    (l_gP : K.lookup fgP = some ⟨oc_gP, od_gP, .func (PySem.W.fnOf "__getitem__" "Program.__getitem__" (defArgs sGetP) (defBody sGetP) (defScope sGetP) .none kV_gP dc_gP pm_gP an_gP cd_gP ct_gP), sl_gP⟩)
    (c_gP : PySem.W.codeIn K cd_gP "Program.__getitem__" = true)
    (k_gP : PySem.W.keepIn K (.ref fgP) = true)
    (s_aP : PySem.W.findIn K (.ref CP) "__add__" = some (some (.ref faP)))
    (f_aP : PySem.W.isFn K (.ref faP) = true)
    (l_aP : K.lookup faP = some ⟨oc_aP, od_aP, .func (PySem.W.fnOf "__add__" "Program.__add__" (defArgs sAddP) (defBody sAddP) (defScope sAddP) .none kV_aP dc_aP pm_aP an_aP cd_aP ct_aP), sl_aP⟩)
    (c_aP : PySem.W.codeIn K cd_aP "Program.__add__" = true)
    (k_aP : PySem.W.keepIn K (.ref faP) = true)
    (fiP : PySem.W.fnIn K fgP = true)
    (sfP : PySem.W.selfFirst K CP = true)
    (neP : PySem.W.findIn K (.ref CP) "__ne__" = some (some (.builtin "object.__ne__")))
    (r_rd : PySem.W.readsIn K CP (.type "type") = true)
    (r_ga : PySem.W.specialIn K (.ref CP) "__getattribute__" = some (some (.builtin "type.__getattribute__")))
    (r_at : PySem.W.findCls K (.ref CP) (.type "type") "read" = some (.get (.builtin "classmethod.__get__") (.ref pR) .none (.ref CP)))
    (r_rc : PySem.W.recIn K pR "classmethod" = some (.ref gR :: restR))
    (r_fi : PySem.W.fnIn K gR = true)
    (l_read : K.lookup gR = some ⟨oc_read, od_read, .func (PySem.W.fnOf "read" "Program.read" (defArgs sRead) (defBody sRead) (defScope sRead) .none kV_read dc_read pm_read an_read cd_read ct_read), sl_read⟩)
    (c_read : PySem.W.codeIn K cd_read "Program.read" = true)
    (k_read : PySem.W.keepIn K (.ref gR) = true)
    (a_int : PySem.W.nsIn K mainGlobals "is_integer" = some (some (.ref g_int)))
    (l_int : K.lookup g_int = some ⟨oc_int, od_int, .func (PySem.W.fnOf "is_integer" "is_integer" (defArgs sInt) (defBody sInt) (defScope sInt) .none kV_int dc_int pm_int an_int cd_int ct_int), sl_int⟩)
    (c_int : PySem.W.codeIn K cd_int "is_integer" = true)
    (k_int : PySem.W.keepIn K (.ref g_int) = true)
    (a_num : PySem.W.nsIn K mainGlobals "is_number" = some (some (.ref g_num)))
    (l_num : K.lookup g_num = some ⟨oc_num, od_num, .func (PySem.W.fnOf "is_number" "is_number" (defArgs sNum) (defBody sNum) (defScope sNum) .none kV_num dc_num pm_num an_num cd_num ct_num), sl_num⟩)
    (c_num : PySem.W.codeIn K cd_num "is_number" = true)
    (k_num : PySem.W.keepIn K (.ref g_num) = true)
    (a_seq : PySem.W.nsIn K mainGlobals "is_sequence" = some (some (.ref g_seq)))
    (l_seq : K.lookup g_seq = some ⟨oc_seq, od_seq, .func (PySem.W.fnOf "is_sequence" "is_sequence" (defArgs sSeq) (defBody sSeq) (defScope sSeq) .none kV_seq dc_seq pm_seq an_seq cd_seq ct_seq), sl_seq⟩)
    (c_seq : PySem.W.codeIn K cd_seq "is_sequence" = true)
    (k_seq : PySem.W.keepIn K (.ref g_seq) = true)
    (a_name : PySem.W.nsIn K mainGlobals "is_name" = some (some (.ref g_name)))
    (l_name : K.lookup g_name = some ⟨oc_name, od_name, .func (PySem.W.fnOf "is_name" "is_name" (defArgs sName) (defBody sName) (defScope sName) .none kV_name dc_name pm_name an_name cd_name ct_name), sl_name⟩)
    (c_name : PySem.W.codeIn K cd_name "is_name" = true)
    (k_name : PySem.W.keepIn K (.ref g_name) = true)
    (a_names : PySem.W.nsIn K mainGlobals "are_names" = some (some (.ref g_names)))
    (l_names : K.lookup g_names = some ⟨oc_names, od_names, .func (PySem.W.fnOf "are_names" "are_names" (defArgs sNames) (defBody sNames) (defScope sNames) .none kV_names dc_names pm_names an_names cd_names ct_names), sl_names⟩)
    (c_names : PySem.W.codeIn K cd_names "are_names" = true)
    (k_names : PySem.W.keepIn K (.ref g_names) = true)
    (a_req : PySem.W.nsIn K mainGlobals "require" = some (some (.ref g_req)))
    (l_req : K.lookup g_req = some ⟨oc_req, od_req, .func (PySem.W.fnOf "require" "require" (defArgs sReq) (defBody sReq) (defScope sReq) .none kV_req dc_req pm_req an_req cd_req ct_req), sl_req⟩)
    (c_req : PySem.W.codeIn K cd_req "require" = true)
    (k_req : PySem.W.keepIn K (.ref g_req) = true)
    (a_rem : PySem.W.nsIn K mainGlobals "is_remark" = some (some (.ref g_rem)))
    (l_rem : K.lookup g_rem = some ⟨oc_rem, od_rem, .func (PySem.W.fnOf "is_remark" "is_remark" (defArgs sRem) (defBody sRem) (defScope sRem) .none kV_rem dc_rem pm_rem an_rem cd_rem ct_rem), sl_rem⟩)
    (c_rem : PySem.W.codeIn K cd_rem "is_remark" = true)
    (k_rem : PySem.W.keepIn K (.ref g_rem) = true)
    (a_head : PySem.W.nsIn K mainGlobals "head_of" = some (some (.ref g_head)))
    (l_head : K.lookup g_head = some ⟨oc_head, od_head, .func (PySem.W.fnOf "head_of" "head_of" (defArgs sHead) (defBody sHead) (defScope sHead) .none kV_head dc_head pm_head an_head cd_head ct_head), sl_head⟩)
    (c_head : PySem.W.codeIn K cd_head "head_of" = true)
    (k_head : PySem.W.keepIn K (.ref g_head) = true)
    (a_tail : PySem.W.nsIn K mainGlobals "tail_of" = some (some (.ref g_tail)))
    (l_tail : K.lookup g_tail = some ⟨oc_tail, od_tail, .func (PySem.W.fnOf "tail_of" "tail_of" (defArgs sTail) (defBody sTail) (defScope sTail) .none kV_tail dc_tail pm_tail an_tail cd_tail ct_tail), sl_tail⟩)
    (c_tail : PySem.W.codeIn K cd_tail "tail_of" = true)
    (k_tail : PySem.W.keepIn K (.ref g_tail) = true)
    (a_body : PySem.W.nsIn K mainGlobals "body_rows" = some (some (.ref g_body)))
    (l_body : K.lookup g_body = some ⟨oc_body, od_body, .func (PySem.W.fnOf "body_rows" "body_rows" (defArgs sBody) (defBody sBody) (defScope sBody) .none kV_body dc_body pm_body an_body cd_body ct_body), sl_body⟩)
    (c_body : PySem.W.codeIn K cd_body "body_rows" = true)
    (k_body : PySem.W.keepIn K (.ref g_body) = true)
    (a_rows : PySem.W.nsIn K mainGlobals "rows_of" = some (some (.ref g_rows)))
    (l_rows : K.lookup g_rows = some ⟨oc_rows, od_rows, .func (PySem.W.fnOf "rows_of" "rows_of" (defArgs sRowsOf) (defBody sRowsOf) (defScope sRowsOf) .none kV_rows dc_rows pm_rows an_rows cd_rows ct_rows), sl_rows⟩)
    (c_rows : PySem.W.codeIn K cd_rows "rows_of" = true)
    (k_rows : PySem.W.keepIn K (.ref g_rows) = true)
    (a_check : PySem.W.nsIn K mainGlobals "check_pieces" = some (some (.ref g_check)))
    (l_check : K.lookup g_check = some ⟨oc_check, od_check, .func (PySem.W.fnOf "check_pieces" "check_pieces" (defArgs sCheck) (defBody sCheck) (defScope sCheck) .none kV_check dc_check pm_check an_check cd_check ct_check), sl_check⟩)
    (c_check : PySem.W.codeIn K cd_check "check_pieces" = true)
    (k_check : PySem.W.keepIn K (.ref g_check) = true)
    (a_rowat : PySem.W.nsIn K mainGlobals "row_at" = some (some (.ref g_rowat)))
    (l_rowat : K.lookup g_rowat = some ⟨oc_rowat, od_rowat, .func (PySem.W.fnOf "row_at" "row_at" (defArgs sRowAt) (defBody sRowAt) (defScope sRowAt) .none kV_rowat dc_rowat pm_rowat an_rowat cd_rowat ct_rowat), sl_rowat⟩)
    (c_rowat : PySem.W.codeIn K cd_rowat "row_at" = true)
    (k_rowat : PySem.W.keepIn K (.ref g_rowat) = true)
    (a_rbl : PySem.W.nsIn K mainGlobals "read_blanks" = some (some (.ref g_rbl)))
    (l_rbl : K.lookup g_rbl = some ⟨oc_rbl, od_rbl, .func (PySem.W.fnOf "read_blanks" "read_blanks" (defArgs sRBl) (defBody sRBl) (defScope sRBl) .none kV_rbl dc_rbl pm_rbl an_rbl cd_rbl ct_rbl), sl_rbl⟩)
    (c_rbl : PySem.W.codeIn K cd_rbl "read_blanks" = true)
    (k_rbl : PySem.W.keepIn K (.ref g_rbl) = true)
    (a_rah : PySem.W.nsIn K mainGlobals "read_ahead" = some (some (.ref g_rah)))
    (l_rah : K.lookup g_rah = some ⟨oc_rah, od_rah, .func (PySem.W.fnOf "read_ahead" "read_ahead" (defArgs sRAh) (defBody sRAh) (defScope sRAh) .none kV_rah dc_rah pm_rah an_rah cd_rah ct_rah), sl_rah⟩)
    (c_rah : PySem.W.codeIn K cd_rah "read_ahead" = true)
    (k_rah : PySem.W.keepIn K (.ref g_rah) = true)
    (a_rhd : PySem.W.nsIn K mainGlobals "read_head" = some (some (.ref g_rhd)))
    (l_rhd : K.lookup g_rhd = some ⟨oc_rhd, od_rhd, .func (PySem.W.fnOf "read_head" "read_head" (defArgs sRHd) (defBody sRHd) (defScope sRHd) .none kV_rhd dc_rhd pm_rhd an_rhd cd_rhd ct_rhd), sl_rhd⟩)
    (c_rhd : PySem.W.codeIn K cd_rhd "read_head" = true)
    (k_rhd : PySem.W.keepIn K (.ref g_rhd) = true)
    (a_spl : PySem.W.nsIn K mainGlobals "split_remark" = some (some (.ref g_spl)))
    (l_spl : K.lookup g_spl = some ⟨oc_spl, od_spl, .func (PySem.W.fnOf "split_remark" "split_remark" (defArgs sSpl) (defBody sSpl) (defScope sSpl) .none kV_spl dc_spl pm_spl an_spl cd_spl ct_spl), sl_spl⟩)
    (c_spl : PySem.W.codeIn K cd_spl "split_remark" = true)
    (k_spl : PySem.W.keepIn K (.ref g_spl) = true)
    (a_rfl : PySem.W.nsIn K mainGlobals "read_flat" = some (some (.ref g_rfl)))
    (l_rfl : K.lookup g_rfl = some ⟨oc_rfl, od_rfl, .func (PySem.W.fnOf "read_flat" "read_flat" (defArgs sRFl) (defBody sRFl) (defScope sRFl) .none kV_rfl dc_rfl pm_rfl an_rfl cd_rfl ct_rfl), sl_rfl⟩)
    (c_rfl : PySem.W.codeIn K cd_rfl "read_flat" = true)
    (k_rfl : PySem.W.keepIn K (.ref g_rfl) = true)
    (a_rit : PySem.W.nsIn K mainGlobals "read_item" = some (some (.ref g_rit)))
    (l_rit : K.lookup g_rit = some ⟨oc_rit, od_rit, .func (PySem.W.fnOf "read_item" "read_item" (defArgs sRIt) (defBody sRIt) (defScope sRIt) .none kV_rit dc_rit pm_rit an_rit cd_rit ct_rit), sl_rit⟩)
    (c_rit : PySem.W.codeIn K cd_rit "read_item" = true)
    (k_rit : PySem.W.keepIn K (.ref g_rit) = true)
    (a_rbr : PySem.W.nsIn K mainGlobals "read_broken" = some (some (.ref g_rbr)))
    (l_rbr : K.lookup g_rbr = some ⟨oc_rbr, od_rbr, .func (PySem.W.fnOf "read_broken" "read_broken" (defArgs sRBr) (defBody sRBr) (defScope sRBr) .none kV_rbr dc_rbr pm_rbr an_rbr cd_rbr ct_rbr), sl_rbr⟩)
    (c_rbr : PySem.W.codeIn K cd_rbr "read_broken" = true)
    (k_rbr : PySem.W.keepIn K (.ref g_rbr) = true)
    (a_rpc : PySem.W.nsIn K mainGlobals "read_piece" = some (some (.ref g_rpc)))
    (l_rpc : K.lookup g_rpc = some ⟨oc_rpc, od_rpc, .func (PySem.W.fnOf "read_piece" "read_piece" (defArgs sRPc) (defBody sRPc) (defScope sRPc) .none kV_rpc dc_rpc pm_rpc an_rpc cd_rpc ct_rpc), sl_rpc⟩)
    (c_rpc : PySem.W.codeIn K cd_rpc "read_piece" = true)
    (k_rpc : PySem.W.keepIn K (.ref g_rpc) = true)
    (a_rps : PySem.W.nsIn K mainGlobals "read_pieces" = some (some (.ref g_rps)))
    (l_rps : K.lookup g_rps = some ⟨oc_rps, od_rps, .func (PySem.W.fnOf "read_pieces" "read_pieces" (defArgs sRPs) (defBody sRPs) (defScope sRPs) .none kV_rps dc_rps pm_rps an_rps cd_rps ct_rps), sl_rps⟩)
    (c_rps : PySem.W.codeIn K cd_rps "read_pieces" = true)
    (k_rps : PySem.W.keepIn K (.ref g_rps) = true)
    (a_box : PySem.W.nsIn K mainGlobals "_law_box" = some (some (.ref g_box)))
    (l_box : K.lookup g_box = some ⟨oc_box, od_box, .func (PySem.W.fnOf "_law_box" "_law_box" (defArgs sBox) (defBody sBox) (defScope sBox) .none kV_box dc_box pm_box an_box cd_box ct_box), sl_box⟩)
    (c_box : PySem.W.codeIn K cd_box "_law_box" = true)
    (k_box : PySem.W.keepIn K (.ref g_box) = true)
    (a_take : PySem.W.nsIn K mainGlobals "_law_take" = some (some (.ref g_take)))
    (l_take : K.lookup g_take = some ⟨oc_take, od_take, .func (PySem.W.fnOf "_law_take" "_law_take" (defArgs sTake) (defBody sTake) (defScope sTake) .none kV_take dc_take pm_take an_take cd_take ct_take), sl_take⟩)
    (c_take : PySem.W.codeIn K cd_take "_law_take" = true)
    (k_take : PySem.W.keepIn K (.ref g_take) = true)
    (a_pick : PySem.W.nsIn K mainGlobals "_law_pick" = some (some (.ref g_pick)))
    (l_pick : K.lookup g_pick = some ⟨oc_pick, od_pick, .func (PySem.W.fnOf "_law_pick" "_law_pick" (defArgs sPick) (defBody sPick) (defScope sPick) .none kV_pick dc_pick pm_pick an_pick cd_pick ct_pick), sl_pick⟩)
    (c_pick : PySem.W.codeIn K cd_pick "_law_pick" = true)
    (k_pick : PySem.W.keepIn K (.ref g_pick) = true)
    (a_lname : PySem.W.nsIn K mainGlobals "_law_name" = some (some (.ref g_lname)))
    (l_lname : K.lookup g_lname = some ⟨oc_lname, od_lname, .func (PySem.W.fnOf "_law_name" "_law_name" (defArgs sLName) (defBody sLName) (defScope sLName) .none kV_lname dc_lname pm_lname an_lname cd_lname ct_lname), sl_lname⟩)
    (c_lname : PySem.W.codeIn K cd_lname "_law_name" = true)
    (k_lname : PySem.W.keepIn K (.ref g_lname) = true)
    (a_lpiece : PySem.W.nsIn K mainGlobals "_law_piece" = some (some (.ref g_lpiece)))
    (l_lpiece : K.lookup g_lpiece = some ⟨oc_lpiece, od_lpiece, .func (PySem.W.fnOf "_law_piece" "_law_piece" (defArgs sLPiece) (defBody sLPiece) (defScope sLPiece) .none kV_lpiece dc_lpiece pm_lpiece an_lpiece cd_lpiece ct_lpiece), sl_lpiece⟩)
    (c_lpiece : PySem.W.codeIn K cd_lpiece "_law_piece" = true)
    (k_lpiece : PySem.W.keepIn K (.ref g_lpiece) = true)
    (a_made : PySem.W.nsIn K mainGlobals "_law_made" = some (some (.ref g_made)))
    (l_made : K.lookup g_made = some ⟨oc_made, od_made, .func (PySem.W.fnOf "_law_made" "_law_made" (defArgs sLMade) (defBody sLMade) (defScope sLMade) .none kV_made dc_made pm_made an_made cd_made ct_made), sl_made⟩)
    (c_made : PySem.W.codeIn K cd_made "_law_made" = true)
    (k_made : PySem.W.keepIn K (.ref g_made) = true)
    (a_law : PySem.W.nsIn K mainGlobals "law" = some (some (.ref g_law)))
    (l_law : K.lookup g_law = some ⟨oc_law, od_law, .func (PySem.W.fnOf "law" "law" (defArgs sLaw) (defBody sLaw) (defScope sLaw) .none kV_law dc_law pm_law an_law cd_law ct_law), sl_law⟩)
    (c_law : PySem.W.codeIn K cd_law "law" = true)
    (k_law : PySem.W.keepIn K (.ref g_law) = true)
    (z_int : PySem.W.nsIn K mainGlobals "int" = some none)
    (z_bool : PySem.W.nsIn K mainGlobals "bool" = some none)
    (z_str : PySem.W.nsIn K mainGlobals "str" = some none)
    (z_list : PySem.W.nsIn K mainGlobals "list" = some none)
    (z_tuple : PySem.W.nsIn K mainGlobals "tuple" = some none)
    (z_dict : PySem.W.nsIn K mainGlobals "dict" = some none)
    (z_isinstance : PySem.W.nsIn K mainGlobals "isinstance" = some none)
    (z_len : PySem.W.nsIn K mainGlobals "len" = some none)
    (z_all : PySem.W.nsIn K mainGlobals "all" = some none)
    (z_any : PySem.W.nsIn K mainGlobals "any" = some none)
    (z_abs : PySem.W.nsIn K mainGlobals "abs" = some none)
    (z_range : PySem.W.nsIn K mainGlobals "range" = some none)
    (z_enumerate : PySem.W.nsIn K mainGlobals "enumerate" = some none)
    (z_zip : PySem.W.nsIn K mainGlobals "zip" = some none)
    (z_max : PySem.W.nsIn K mainGlobals "max" = some none)
    (z_min : PySem.W.nsIn K mainGlobals "min" = some none)
    (z_repr : PySem.W.nsIn K mainGlobals "repr" = some none)
    (z_sorted : PySem.W.nsIn K mainGlobals "sorted" = some none)
    : ∃ fd : FuncData, (∀ (s : Shared) (v : Value), BindsTo s fd ⟨[v], []⟩ [("_law_script", v)]) ∧ ∀ base : Heap, K.In base → base.Ns mainGlobals mg → FnOk l.prog w K mg base CX0 9 fa fd ["_law_script"] (spLaw K) := by
  have e := hfa.symm.trans (PySem.W.mg_of X G a_law)
  cases e
  have M : ∀ {x : Str} {a : Addr}, PySem.W.nsIn K mainGlobals x = some (some (.ref a)) → mg x = some (.ref a) := fun h => PySem.W.mg_of X G h
  have N : ∀ {x : Str}, PySem.W.nsIn K mainGlobals x = some none → mg x = none := fun h => PySem.W.mg_none_of X G h
  have F_int := fun_mk (st := sInt) l_int c_int k_int
  have b_int := F_int.binds (ps := ["value"]) fun _ _ _ _ _ _ us hl => match us, hl with | [_], _ => rfl
  have F_num := fun_mk (st := sNum) l_num c_num k_num
  have b_num := F_num.binds (ps := ["value", "many"]) fun _ _ _ _ _ _ us hl => match us, hl with | [_, _], _ => rfl
  have F_seq := fun_mk (st := sSeq) l_seq c_seq k_seq
  have b_seq := F_seq.binds (ps := ["value"]) fun _ _ _ _ _ _ us hl => match us, hl with | [_], _ => rfl
  have F_name := fun_mk (st := sName) l_name c_name k_name
  have b_name := F_name.binds (ps := ["value"]) fun _ _ _ _ _ _ us hl => match us, hl with | [_], _ => rfl
  have F_names := fun_mk (st := sNames) l_names c_names k_names
  have b_names := F_names.binds (ps := ["value"]) fun _ _ _ _ _ _ us hl => match us, hl with | [_], _ => rfl
  have F_req := fun_mk (st := sReq) l_req c_req k_req
  have b_req := F_req.binds (ps := ["holds", "word"]) fun _ _ _ _ _ _ us hl => match us, hl with | [_, _], _ => rfl
  have F_rem := fun_mk (st := sRem) l_rem c_rem k_rem
  have b_rem := F_rem.binds (ps := ["value"]) fun _ _ _ _ _ _ us hl => match us, hl with | [_], _ => rfl
  have F_head := fun_mk (st := sHead) l_head c_head k_head
  have b_head := F_head.binds (ps := ["piece"]) fun _ _ _ _ _ _ us hl => match us, hl with | [_], _ => rfl
  have F_tail := fun_mk (st := sTail) l_tail c_tail k_tail
  have b_tail := F_tail.binds (ps := ["piece"]) fun _ _ _ _ _ _ us hl => match us, hl with | [_], _ => rfl
  have F_body := fun_mk (st := sBody) l_body c_body k_body
  have b_body := F_body.binds (ps := ["piece"]) fun _ _ _ _ _ _ us hl => match us, hl with | [_], _ => rfl
  have F_rows := fun_mk (st := sRowsOf) l_rows c_rows k_rows
  have b_rows := F_rows.binds (ps := ["piece"]) fun _ _ _ _ _ _ us hl => match us, hl with | [_], _ => rfl
  have F_check := fun_mk (st := sCheck) l_check c_check k_check
  have b_check := F_check.binds (ps := ["value"]) fun _ _ _ _ _ _ us hl => match us, hl with | [_], _ => rfl
  have F_rowat := fun_mk (st := sRowAt) l_rowat c_rowat k_rowat
  have b_rowat := F_rowat.binds (ps := ["rows", "at"]) fun _ _ _ _ _ _ us hl => match us, hl with | [_, _], _ => rfl
  have F_rbl := fun_mk (st := sRBl) l_rbl c_rbl k_rbl
  have b_rbl := F_rbl.binds (ps := ["rows", "at"]) fun _ _ _ _ _ _ us hl => match us, hl with | [_, _], _ => rfl
  have F_rah := fun_mk (st := sRAh) l_rah c_rah k_rah
  have b_rah := F_rah.binds (ps := ["rows", "at"]) fun _ _ _ _ _ _ us hl => match us, hl with | [_, _], _ => rfl
  have F_rhd := fun_mk (st := sRHd) l_rhd c_rhd k_rhd
  have b_rhd := F_rhd.binds (ps := ["rows", "at"]) fun _ _ _ _ _ _ us hl => match us, hl with | [_, _], _ => rfl
  have F_spl := fun_mk (st := sSpl) l_spl c_spl k_spl
  have b_spl := F_spl.binds (ps := ["text", "at"]) fun _ _ _ _ _ _ us hl => match us, hl with | [_, _], _ => rfl
  have F_rfl := fun_mk (st := sRFl) l_rfl c_rfl k_rfl
  have b_rfl := F_rfl.binds (ps := ["rest", "at"]) fun _ _ _ _ _ _ us hl => match us, hl with | [_, _], _ => rfl
  have F_rit := fun_mk (st := sRIt) l_rit c_rit k_rit
  have b_rit := F_rit.binds (ps := ["rows", "at"]) fun _ _ _ _ _ _ us hl => match us, hl with | [_, _], _ => rfl
  have F_rbr := fun_mk (st := sRBr) l_rbr c_rbr k_rbr
  have b_rbr := F_rbr.binds (ps := ["rows", "at"]) fun _ _ _ _ _ _ us hl => match us, hl with | [_, _], _ => rfl
  have F_rpc := fun_mk (st := sRPc) l_rpc c_rpc k_rpc
  have b_rpc := F_rpc.binds (ps := ["rows", "at"]) fun _ _ _ _ _ _ us hl => match us, hl with | [_, _], _ => rfl
  have F_rps := fun_mk (st := sRPs) l_rps c_rps k_rps
  have b_rps := F_rps.binds (ps := ["rows"]) fun _ _ _ _ _ _ us hl => match us, hl with | [_], _ => rfl
  have F_box := fun_mk (st := sBox) l_box c_box k_box
  have b_box := F_box.binds (ps := ["_law_script", "_law_k", "_law_own"]) fun _ _ _ _ _ _ us hl => match us, hl with | [_, _, _], _ => rfl
  have F_take := fun_mk (st := sTake) l_take c_take k_take
  have b_take := F_take.binds (ps := ["_law_box_here", "_law_many"]) fun _ _ _ _ _ _ us hl => match us, hl with | [_, _], _ => rfl
  have F_pick := fun_mk (st := sPick) l_pick c_pick k_pick
  have b_pick := F_pick.binds (ps := ["_law_box_here", "_law_items"]) fun _ _ _ _ _ _ us hl => match us, hl with | [_, _], _ => rfl
  have F_lname := fun_mk (st := sLName) l_lname c_lname k_lname
  have b_lname := F_lname.binds (ps := ["_law_box_here", "_law_most"]) fun _ _ _ _ _ _ us hl => match us, hl with | [_, _], _ => rfl
  have F_lpiece := fun_mk (st := sLPiece) l_lpiece c_lpiece k_lpiece
  have b_lpiece := F_lpiece.binds (ps := ["_law_box_here", "_law_many"]) fun _ _ _ _ _ _ us hl => match us, hl with | [_, _], _ => rfl
  have F_made := fun_mk (st := sLMade) l_made c_made k_made
  have b_made := F_made.binds (ps := ["_law_piece_here"]) fun _ _ _ _ _ _ us hl => match us, hl with | [_], _ => rfl
  have F_law := fun_mk (st := sLaw) l_law c_law k_law
  have b_law := F_law.binds (ps := ["_law_script"]) fun _ _ _ _ _ _ us hl => match us, hl with | [_], _ => rfl
  have F_lP := fun_mk (st := sLenP) l_lP c_lP k_lP
  have b_lP := F_lP.binds (ps := ["self"]) fun _ _ _ _ _ _ us hl => match us, hl with | [_], _ => rfl
  have F_gP := fun_mk (st := sGetP) l_gP c_gP k_gP
  have b_gP := F_gP.binds (ps := ["self", "at"]) fun _ _ _ _ _ _ us hl => match us, hl with | [_, _], _ => rfl
  have F_aP := fun_mk (st := sAddP) l_aP c_aP k_aP
  have b_aP := F_aP.binds (ps := ["self", "other"]) fun _ _ _ _ _ _ us hl => match us, hl with | [_, _], _ => rfl
  have F_eq := fun_mk (st := sEqPc) l_eq c_eq k_eq
  have b_eq := F_eq.binds (ps := ["self", "other"]) fun _ _ _ _ _ _ us hl => match us, hl with | [_, _], _ => rfl
  have F_sP := fun_mk (st := sStrP) l_sP c_sP k_sP
  have b_sP := F_sP.binds (ps := ["self"]) fun _ _ _ _ _ _ us hl => match us, hl with | [_], _ => rfl
  have F_eqP := fun_mk (st := sEqP) l_eqP c_eqP k_eqP
  have b_eqP := F_eqP.binds (ps := ["self", "other"]) fun _ _ _ _ _ _ us hl => match us, hl with | [_, _], _ => rfl
  have D_rowat : Dfn K mg "row_at" sRowAt ["rows", "at"] := ⟨_, _, F_rowat, M a_rowat, b_rowat⟩
  have D_rbl : Dfn K mg "read_blanks" sRBl ["rows", "at"] := ⟨_, _, F_rbl, M a_rbl, b_rbl⟩
  have D_rah : Dfn K mg "read_ahead" sRAh ["rows", "at"] := ⟨_, _, F_rah, M a_rah, b_rah⟩
  have D_rhd : Dfn K mg "read_head" sRHd ["rows", "at"] := ⟨_, _, F_rhd, M a_rhd, b_rhd⟩
  have D_spl : Dfn K mg "split_remark" sSpl ["text", "at"] := ⟨_, _, F_spl, M a_spl, b_spl⟩
  have D_rfl : Dfn K mg "read_flat" sRFl ["rest", "at"] := ⟨_, _, F_rfl, M a_rfl, b_rfl⟩
  have D_rit : Dfn K mg "read_item" sRIt ["rows", "at"] := ⟨_, _, F_rit, M a_rit, b_rit⟩
  have D_rbr : Dfn K mg "read_broken" sRBr ["rows", "at"] := ⟨_, _, F_rbr, M a_rbr, b_rbr⟩
  have D_rpc : Dfn K mg "read_piece" sRPc ["rows", "at"] := ⟨_, _, F_rpc, M a_rpc, b_rpc⟩
  have D_rps : Dfn K mg "read_pieces" sRPs ["rows"] := ⟨_, _, F_rps, M a_rps, b_rps⟩
  have F_but := fun_mk (st := sBut) l_but c_but k_but
  have F_read := fun_mk (st := sRead) l_read c_read k_read
  have FPI : FunD K "__init__" "Piece.__init__" (defArgs sPieceI) (defBody sPieceI) (defScope sPieceI) dPiece [] fPI _ :=
    ⟨⟨_, _, _, _, _, _, _, _, _, _, rfl, l_Ci, c_Ci, .inr ⟨(fun z => nomatch z), TC, _, _, _, rfl, l_TC, rfl, .cons rfl (.cons rfl (.cons ⟨_, rfl⟩ (.cons ⟨_, rfl⟩ (.cons ⟨_, rfl⟩ (.cons rfl .nil)))))⟩, .inl rfl⟩, k_Ci⟩
  have FGI : FunD K "__init__" "Program.__init__" (defArgs sProgI) (defBody sProgI) (defScope sProgI) [.ref eP] [] fGI _ :=
    ⟨⟨_, _, _, _, _, _, _, _, _, _, rfl, l_CPi, c_CPi, .inr ⟨(fun z => nomatch z), TCP, _, _, _, rfl, l_TCP, rfl, .cons rfl .nil⟩, .inl rfl⟩, k_CPi⟩
  have D : TxtD mg := ⟨N z_int, N z_len, N z_abs, N z_range⟩
  have T : TxtK mg := ⟨N z_int, N z_bool, N z_str, N z_list, N z_tuple, N z_isinstance, N z_len, N z_all, N z_enumerate⟩
  have B : Bt mg := ⟨N z_int, N z_bool, N z_str, N z_list, N z_tuple, N z_dict, N z_isinstance, N z_len, N z_all, N z_any, N z_abs, N z_range, N z_enumerate, N z_zip, N z_max, N z_min, N z_repr, N z_sorted⟩
  have cl : Cls K C := ⟨pgC, hdC, poC, saC⟩
  have ci : ClsI K C := ⟨cl, caC, hn, ht, moC⟩
  have cip : ClsI K CP := ⟨⟨pgCP, hdCP, poCP, saCP⟩, caCP, hn, ht, moCP⟩
  have ZC : PieceC K C := ⟨cl, noC_word, noC_parts, noC_broken, noC_marked, noC_ahead, noC_behind, noC_blanks, noC_left⟩
  have ZP : ProgC K CP := ⟨cip.cl, noCP_pieces⟩
  have mk1' : Mk K C fPI := ⟨mkC, inC, fiC, kpC⟩
  have mk2 : Mk K CP fGI := ⟨mkCP, inCP, fiCP, kpCP⟩
  refine ⟨PySem.W.fnOf "law" "law" (defArgs sLaw) (defBody sLaw) (defScope sLaw) .none kV_law dc_law pm_law an_law cd_law ct_law, fun s v => .of_eq rfl, fun base _ _ => ?_⟩
  have okName : FnOk l.prog w K mg base CX0 1 g_name _ ["value"] (spName K) := ok_name F_name T
  have okSeq : FnOk l.prog w K mg base CX0 1 g_seq _ ["value"] (spSeq K) := ok_seq F_seq T
  have okInt : FnOk l.prog w K mg base CX0 1 g_int _ ["value"] (spInt K) := ok_int F_int T
  have okNum := ok_num F_num okInt (M a_int) k_int b_int
  have okNames := ok_names F_names T okSeq (M a_seq) k_seq b_seq okName (M a_name) k_name b_name
  have Dp : PieceD l.prog w K mg base g_req g_name g_names g_rem g_num _ _ _ _ _ := ⟨ok_req F_req, M a_req, k_req, b_req, okName, M a_name, k_name, b_name,
    okNames, M a_names, k_names, b_names, ok_rem F_rem T okName (M a_name) k_name b_name, M a_rem, k_rem, b_rem, okNum, M a_num, k_num, b_num⟩
  have okPI := ok_pieceI (C := C) FPI T ZC Dp
  obtain ⟨its, kb⟩ := kbn_piece FPI rfl
  have okBut : KwX.FnRK l.prog w K mg base CX0 5 fBu mk1 (spButN K C mk1) := ok_butG (P := l.prog) (w := w) (base := base) (ks := mk1) F_but ZC mk1' (by decide +kernel) (by decide) okPI (M aC) kb (fun kV doc pm an cdv ct us ws h1 h2 => match us, ws, h1, h2 with | [_], [_], _, _ => rfl)
  have okHead := ok_head (P := l.prog) (w := w) (mg := mg) (base := base) (C := C) F_head ZC
  have okTail := ok_tail (P := l.prog) (w := w) (mg := mg) (base := base) (C := C) F_tail ZC
  have okBody := ok_body F_body ZC okHead (M a_head) k_head b_head okTail (M a_tail) k_tail b_tail
  have okRows := ok_rowsOf F_rows ZC okBody (M a_body) k_body b_body
  have okCh := ok_checkG (P := l.prog) (w := w) (base := base) (C := C) F_check T okSeq (M a_seq) k_seq b_seq (M aC)
  have okGI := ok_progG (C := C) FGI T ZP okCh (M a_check) k_check b_check
  have okStr := ok_strP (CP := CP) F_sP ZP okRows (M a_rows) k_rows b_rows
  have okEqP := ok_eqPg F_eqP T (N z_str) cip (M aCP) okStr s_sP f_sP b_sP
  have okEq := ok_eqP (P := l.prog) (w := w) (base := base) F_eq B ci ZC (M aC)
  have hN : Has l.prog w K mg base CX0 1 "is_name" ["value"] (spName K) := ⟨_, _, okName, M a_name, k_name, b_name⟩
  have hNs : Has l.prog w K mg base CX0 2 "are_names" ["value"] (spNames K) := ⟨_, _, okNames, M a_names, k_names, b_names⟩
  have hRow := has_rowAt (P := l.prog) (w := w) (base := base) B D_rowat
  have hBl := has_RBl hRow D_rbl
  have hAh := has_RAh hRow hN D_rah
  have hHd := has_RHd hRow hN D_rhd
  have hSp := has_Spl hN D_spl
  have hIt := has_RIt hRow hN D_rit
  have hFl := has_RFl hSp hNs D_rfl
  have hBr := has_RBr B hRow hIt hSp D_rbr
  have hPc := has_RPc (C := C) (M aC) mk1' okPI (binds_piece8 FPI) hBl hAh hHd hFl hBr D_rpc
  have hPs := has_RPs B hPc D_rps
  have okRd := ok_read F_read B ci mk2 okGI (binds_prog FGI) hPs
  have emp : ∀ H : Hp, TupG K H eP [] := fun H => .inr ⟨_, _, _, l_eP, rfl, rfl, (by show 0 ≤ sizeLine; exact Nat.zero_le _), .nil⟩
  obtain ⟨ds0, v0, b0⟩ := binds_prog0 FGI
  have okRdE := ok_readE (C := C) F_read B mk2 okGI v0 b0 emp
  have rdA : FnR l.prog w K mg base CX0 7 gR (spReadA K C CP) := fnr_pos (fnok_or okRd okRdE) (fun s us h => match us, h with | [_, _], _ => .of_eq rfl)
  have okLen := ok_lenP (P := l.prog) (w := w) (base := base) (C := C) F_lP (N z_len) ZP
  have okGet := ok_getG (C := C) F_gP (N z_len) ZP okNum (M a_num) k_num b_num
  have okAdd := ok_addP F_aP T ci cip ZP (M aCP) mk2 okGI (binds_prog FGI)
  have PC : Pg l.prog w K mg base C CP := ⟨ZC, ci, cip, ZP, M aCP, ⟨_, _, okEq, s_eq, f_eq, b_eq⟩, neC, ⟨_, ⟨s_but, f_but, k_but⟩, okBut⟩, ⟨_, _, mk2, okGI, binds_prog FGI, eP, ds0, v0, b0, emp⟩, ⟨_, _, okStr, s_sP, f_sP, b_sP⟩, ⟨_, _, okLen, s_lP, f_lP, b_lP⟩, ⟨_, _, okEqP, s_eqP, f_eqP, b_eqP⟩, neP, ⟨_, _, okGet, s_gP, fiP, f_gP, b_gP⟩, ⟨_, _, okAdd, s_aP, f_aP, b_aP⟩, sfP, ⟨_, _, _, ⟨r_rd, r_ga⟩, ⟨r_at, ⟨_, r_rc⟩, r_fi⟩, rdA⟩⟩
  have okTake : FnOk l.prog w K mg base CX0 1 g_take _ ["_law_box_here", "_law_many"] spTake := ok_take F_take D
  have okPick := ok_pick (P := l.prog) (w := w) (base := base) F_pick D F_take b_take (M a_take)
  have okLN := ok_lname F_lname (N z_range) (N z_list) okTake (M a_take) k_take b_take okPick (M a_pick) k_pick b_pick
  have okLP := ok_lpiece F_lpiece (N z_range) okTake (M a_take) k_take b_take okPick (M a_pick) k_pick b_pick okLN (M a_lname) k_lname b_lname
  have okMd := ok_lmade F_made (M aC) mk1' okPI (binds_piece8 FPI)
  exact ok_Law B PC ⟨_, _, ok_box F_box D, M a_box, k_box, b_box⟩ ⟨_, _, okTake, M a_take, k_take, b_take⟩ ⟨_, _, okLP, M a_lpiece, k_lpiece, b_lpiece⟩ ⟨_, _, okMd, M a_made, k_made, b_made⟩ F_law
end Lay
open PySem PySem.W PyProof.Rows
set_option Elab.async false
set_option maxRecDepth 100000 in
set_option maxHeartbeats 0 in
theorem PySem.Challenge.cw_laytwice_k07_whole_programs_and_their_pa_holds : PySem.Challenge.rw_laytwice_k07_whole_programs_and_their_pa.Holds := by
  w_on; o_law; k_head; (case hw => w_witness2)
  k_fill
  refine L2.walk_of (l := PySem.Challenge.rw_laytwice_k07_whole_programs_and_their_pa) (n := 63) (k := 9) (x := "_law_script") (CX := fun _ => L2.CX0) (sp := fun w => Lay.spLaw _) rfl (by decide) rfl ⟨rfl, by decide, by decide⟩ (fun w h Y => PySem.W.kIn_of Y) ?F (fun _ _ a ns hl _ hS => ⟨a, ns, rfl, hS, hl, fun _ => rfl⟩) (fun _ _ _ _ _ z => z.elim)
  case F =>
    intro w mg fa h KX G hmg
    refine' Lay.all_mk KX G hmg ?hn ?ht ?aC ?pgC ?hdC ?poC ?saC ?caC ?moC ?nlC ?ntC ?nbC ?tyC ?noC_word ?noC_parts ?noC_broken ?noC_marked ?noC_ahead ?noC_behind ?noC_blanks ?noC_left ?mkC ?inC ?fiC ?kpC ?l_Ci ?c_Ci ?k_Ci ?l_TC ?s_but ?f_but ?l_but ?c_but ?k_but ?s_eq ?f_eq ?l_eq ?c_eq ?k_eq ?neC ?aCP ?pgCP ?hdCP ?poCP ?saCP ?caCP ?moCP ?nlCP ?ntCP ?nbCP ?tyCP ?noCP_pieces ?mkCP ?inCP ?fiCP ?kpCP ?l_CPi ?c_CPi ?k_CPi ?l_TCP ?l_eP ?s_sP ?f_sP ?l_sP ?c_sP ?k_sP ?s_eqP ?f_eqP ?l_eqP ?c_eqP ?k_eqP ?s_lP ?f_lP ?l_lP ?c_lP ?k_lP ?s_gP ?f_gP ?l_gP ?c_gP ?k_gP ?s_aP ?f_aP ?l_aP ?c_aP ?k_aP ?fiP ?sfP ?neP ?r_rd ?r_ga ?r_at ?r_rc ?r_fi ?l_read ?c_read ?k_read ?a_int ?l_int ?c_int ?k_int ?a_num ?l_num ?c_num ?k_num ?a_seq ?l_seq ?c_seq ?k_seq ?a_name ?l_name ?c_name ?k_name ?a_names ?l_names ?c_names ?k_names ?a_req ?l_req ?c_req ?k_req ?a_rem ?l_rem ?c_rem ?k_rem ?a_head ?l_head ?c_head ?k_head ?a_tail ?l_tail ?c_tail ?k_tail ?a_body ?l_body ?c_body ?k_body ?a_rows ?l_rows ?c_rows ?k_rows ?a_check ?l_check ?c_check ?k_check ?a_rowat ?l_rowat ?c_rowat ?k_rowat ?a_rbl ?l_rbl ?c_rbl ?k_rbl ?a_rah ?l_rah ?c_rah ?k_rah ?a_rhd ?l_rhd ?c_rhd ?k_rhd ?a_spl ?l_spl ?c_spl ?k_spl ?a_rfl ?l_rfl ?c_rfl ?k_rfl ?a_rit ?l_rit ?c_rit ?k_rit ?a_rbr ?l_rbr ?c_rbr ?k_rbr ?a_rpc ?l_rpc ?c_rpc ?k_rpc ?a_rps ?l_rps ?c_rps ?k_rps ?a_box ?l_box ?c_box ?k_box ?a_take ?l_take ?c_take ?k_take ?a_pick ?l_pick ?c_pick ?k_pick ?a_lname ?l_lname ?c_lname ?k_lname ?a_lpiece ?l_lpiece ?c_lpiece ?k_lpiece ?a_made ?l_made ?c_made ?k_made ?a_law ?l_law ?c_law ?k_law ?z_int ?z_bool ?z_str ?z_list ?z_tuple ?z_dict ?z_isinstance ?z_len ?z_all ?z_any ?z_abs ?z_range ?z_enumerate ?z_zip ?z_max ?z_min ?z_repr ?z_sorted
    (case hn => k_is)
    (case ht => k_is)
    (case aC => k_is)
    (case pgC => k_is)
    (case hdC => k_is)
    (case poC => k_is)
    (case saC => k_is)
    (case caC => k_is)
    (case moC => k_is)
    (case nlC => k_is)
    (case ntC => k_is)
    (case nbC => k_is)
    (case tyC => k_is)
    (case noC_word => k_is)
    (case noC_parts => k_is)
    (case noC_broken => k_is)
    (case noC_marked => k_is)
    (case noC_ahead => k_is)
    (case noC_behind => k_is)
    (case noC_blanks => k_is)
    (case noC_left => k_is)
    (case mkC => k_is)
    (case inC => k_is)
    (case fiC => k_is)
    (case kpC => k_is)
    (case l_Ci => k_is)
    (case c_Ci => k_is)
    (case k_Ci => k_is)
    (case l_TC => k_is)
    (case s_but => k_is)
    (case f_but => k_is)
    (case l_but => k_is)
    (case c_but => k_is)
    (case k_but => k_is)
    (case s_eq => k_is)
    (case f_eq => k_is)
    (case l_eq => k_is)
    (case c_eq => k_is)
    (case k_eq => k_is)
    (case neC => k_is)
    (case aCP => k_is)
    (case pgCP => k_is)
    (case hdCP => k_is)
    (case poCP => k_is)
    (case saCP => k_is)
    (case caCP => k_is)
    (case moCP => k_is)
    (case nlCP => k_is)
    (case ntCP => k_is)
    (case nbCP => k_is)
    (case tyCP => k_is)
    (case noCP_pieces => k_is)
    (case mkCP => k_is)
    (case inCP => k_is)
    (case fiCP => k_is)
    (case kpCP => k_is)
    (case l_CPi => k_is)
    (case c_CPi => k_is)
    (case k_CPi => k_is)
    (case l_TCP => k_is)
    (case l_eP => k_is)
    (case s_sP => k_is)
    (case f_sP => k_is)
    (case l_sP => k_is)
    (case c_sP => k_is)
    (case k_sP => k_is)
    (case s_eqP => k_is)
    (case f_eqP => k_is)
    (case l_eqP => k_is)
    (case c_eqP => k_is)
    (case k_eqP => k_is)
    (case s_lP => k_is)
    (case f_lP => k_is)
    (case l_lP => k_is)
    (case c_lP => k_is)
    (case k_lP => k_is)
    (case s_gP => k_is)
    (case f_gP => k_is)
    (case l_gP => k_is)
    (case c_gP => k_is)
    (case k_gP => k_is)
    (case s_aP => k_is)
    (case f_aP => k_is)
    (case l_aP => k_is)
    (case c_aP => k_is)
    (case k_aP => k_is)
    (case fiP => k_is)
    (case sfP => k_is)
    (case neP => k_is)
    (case r_rd => k_is)
    (case r_ga => k_is)
    (case r_at => k_is)
    (case r_rc => k_is)
    (case r_fi => k_is)
    (case l_read => k_is)
    (case c_read => k_is)
    (case k_read => k_is)
    (case a_int => k_is)
    (case l_int => k_is)
    (case c_int => k_is)
    (case k_int => k_is)
    (case a_num => k_is)
    (case l_num => k_is)
    (case c_num => k_is)
    (case k_num => k_is)
    (case a_seq => k_is)
    (case l_seq => k_is)
    (case c_seq => k_is)
    (case k_seq => k_is)
    (case a_name => k_is)
    (case l_name => k_is)
    (case c_name => k_is)
    (case k_name => k_is)
    (case a_names => k_is)
    (case l_names => k_is)
    (case c_names => k_is)
    (case k_names => k_is)
    (case a_req => k_is)
    (case l_req => k_is)
    (case c_req => k_is)
    (case k_req => k_is)
    (case a_rem => k_is)
    (case l_rem => k_is)
    (case c_rem => k_is)
    (case k_rem => k_is)
    (case a_head => k_is)
    (case l_head => k_is)
    (case c_head => k_is)
    (case k_head => k_is)
    (case a_tail => k_is)
    (case l_tail => k_is)
    (case c_tail => k_is)
    (case k_tail => k_is)
    (case a_body => k_is)
    (case l_body => k_is)
    (case c_body => k_is)
    (case k_body => k_is)
    (case a_rows => k_is)
    (case l_rows => k_is)
    (case c_rows => k_is)
    (case k_rows => k_is)
    (case a_check => k_is)
    (case l_check => k_is)
    (case c_check => k_is)
    (case k_check => k_is)
    (case a_rowat => k_is)
    (case l_rowat => k_is)
    (case c_rowat => k_is)
    (case k_rowat => k_is)
    (case a_rbl => k_is)
    (case l_rbl => k_is)
    (case c_rbl => k_is)
    (case k_rbl => k_is)
    (case a_rah => k_is)
    (case l_rah => k_is)
    (case c_rah => k_is)
    (case k_rah => k_is)
    (case a_rhd => k_is)
    (case l_rhd => k_is)
    (case c_rhd => k_is)
    (case k_rhd => k_is)
    (case a_spl => k_is)
    (case l_spl => k_is)
    (case c_spl => k_is)
    (case k_spl => k_is)
    (case a_rfl => k_is)
    (case l_rfl => k_is)
    (case c_rfl => k_is)
    (case k_rfl => k_is)
    (case a_rit => k_is)
    (case l_rit => k_is)
    (case c_rit => k_is)
    (case k_rit => k_is)
    (case a_rbr => k_is)
    (case l_rbr => k_is)
    (case c_rbr => k_is)
    (case k_rbr => k_is)
    (case a_rpc => k_is)
    (case l_rpc => k_is)
    (case c_rpc => k_is)
    (case k_rpc => k_is)
    (case a_rps => k_is)
    (case l_rps => k_is)
    (case c_rps => k_is)
    (case k_rps => k_is)
    (case a_box => k_is)
    (case l_box => k_is)
    (case c_box => k_is)
    (case k_box => k_is)
    (case a_take => k_is)
    (case l_take => k_is)
    (case c_take => k_is)
    (case k_take => k_is)
    (case a_pick => k_is)
    (case l_pick => k_is)
    (case c_pick => k_is)
    (case k_pick => k_is)
    (case a_lname => k_is)
    (case l_lname => k_is)
    (case c_lname => k_is)
    (case k_lname => k_is)
    (case a_lpiece => k_is)
    (case l_lpiece => k_is)
    (case c_lpiece => k_is)
    (case k_lpiece => k_is)
    (case a_made => k_is)
    (case l_made => k_is)
    (case c_made => k_is)
    (case k_made => k_is)
    (case a_law => k_is)
    (case l_law => k_is)
    (case c_law => k_is)
    (case k_law => k_is)
    (case z_int => k_is)
    (case z_bool => k_is)
    (case z_str => k_is)
    (case z_list => k_is)
    (case z_tuple => k_is)
    (case z_dict => k_is)
    (case z_isinstance => k_is)
    (case z_len => k_is)
    (case z_all => k_is)
    (case z_any => k_is)
    (case z_abs => k_is)
    (case z_range => k_is)
    (case z_enumerate => k_is)
    (case z_zip => k_is)
    (case z_max => k_is)
    (case z_min => k_is)
    (case z_repr => k_is)
    (case z_sorted => k_is)
