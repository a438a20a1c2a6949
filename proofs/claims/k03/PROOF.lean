import PyProof.Rows.All
import Wide.All
import OpenK.AllK
import Wide.FinOn
import PyProof.EqAt
import PyProof.EqKinds
import PyProof.TupleCall
import PyProof.DictUpdate
import PyProof.ListStr
import OpenK.KEqL
import KE.GoesMore
import KE.KExcIs
import KE.KStar
import KE.KCallOwn
import KE.KParD
import HandS.Base
import HandS.Call
import HandS.List
import HandS.Dict
import HandS.More
import HandS.Exc
import HandS.Slots
import HandS.Star
import HandS.MakeKw
import HandS.ForMost
import HandS.Codes
import HandS.Walk
import HandS.WordsExc
import HandS.Style
import HandS.ExcIs
import HandS.ExcInit
import HandS.ExcField
import HandS.TupAny
import HandS.IsInst
import HandS.StrMore
import HandS.Defaults
import HandS.ExcOwn
import HandS.RaiseMore
import HandS.Text
import HandS.OwnEq
import HandS.NoneIn
import HandS.ExcValue
import HandS.Zip
import HandS.FStr
import HandS.Comp
import HandS.DictComp
import HandS.Property
import HandS.CallLocal
import HandS.WrittenGet
import PySem.Challenge.RW_laytwice_k03_pieces_refused
set_option Elab.async false
set_option linter.all false
set_option maxRecDepth 100000
set_option maxHeartbeats 4000000
set_option pp.maxSteps 1500
/-! Keywords: a def with ** that is called with keywords, a class that is called with **. -/
namespace KwX
open PySem PySem.Spec PyProof.Rows L2 StX

/-! ### a dict merged into another one (mergeMapping) -/
section
variable {prog : Program} {w : World} {Kt : Type} [DecidableEq Kt] {knd : KeyKind prog w Kt} {A : Around} {E : Value → Shared → Prop} {s : Shared}
theorem wpAny_dictPut {d : Addr} {kvs : List (Kt × Value)} {k : Kt} {key v : Value} {Q : Unit → Shared → Prop} (hkey : knd.is k key = true) (hm : s.heap.DictOf knd d kvs)
    (hQ : ∀ h', h'.DictOf knd d (stored kvs k v) → Heap.SameBut d s.heap h' → Q () { s with heap := h' })
    (hsz : kvs.length ≤ sizeLine) :
    wpAny (model prog w) A (dictPut d (knd.hash k) key v) Q E s := by
  obtain ⟨o, es, ep, ho, hc, hd, hk, hp, hn⟩ := hm
  have hes : es.size ≤ sizeLine := by
    have e1 := hp.length
    have e2 : es.toList.length = es.size := by simp
    omega
  unfold dictPut
  refine wpAny_bind (wpAny_dictFind_of hkey ho hd hk ?_)
  have hidx : (es.findIdx? fun e => knd.is k e.key) = kvs.findIdx? fun kv => decide (kv.1 = k) := by
    rw [← hp.findIdx k]; obtain ⟨l⟩ := es; simp
  cases hi : es.findIdx? fun e => knd.is k e.key with
  | some i =>
    refine wpAny_updateDict ho hd (hQ _ ⟨_, _, ep, Heap.get?_update_self _ ho (Obj.isFreed_of_dict (Obj.data_mapDict hd _)),
      hc.mapDict _, Obj.data_mapDict hd _, hk.modify _ _, ?_, ?_⟩ (Heap.SameBut.update ..))
    · rw [stored, if_pos (any_of_findIdx_some (hidx ▸ hi))]
      have hl : (es.toList.findIdx? fun e => knd.is k e.key) = some i := by rw [← hi]; obtain ⟨l⟩ := es; simp
      have := hp.modify hn hl v
      obtain ⟨l⟩ := es
      simpa using this
    · rw [stored, if_pos (any_of_findIdx_some (hidx ▸ hi)), keys_map_store]; exact hn
  | none =>
    have hnot : k ∉ kvs.map (·.1) := not_mem_of_findIdx_none (hidx ▸ hi)
    have hany : ¬ (kvs.any fun kv => decide (kv.1 = k)) = true := by
      rw [List.any_eq_true]; rintro ⟨kv, hkv, he⟩
      exact hnot (List.mem_map.mpr ⟨kv, hkv, of_decide_eq_true he⟩)
    refine wpAny_updateDictKeys (hz := hes) ho hd (hQ _ ⟨_, _, ep + 1, Heap.get?_update_self _ ho (Obj.isFreed_of_dict (Obj.data_mapDictKeys hd _)),
      hc.mapDictKeys _, Obj.data_mapDictKeys hd _, hk.push hkey _, ?_, ?_⟩ (Heap.SameBut.update ..))
    · rw [stored, if_neg hany]
      have := hp.append hkey (knd.hash k) v
      obtain ⟨l⟩ := es
      simpa using this
    · rw [stored, if_neg hany, List.map_append, List.nodup_append]
      refine ⟨hn, by simp, ?_⟩
      intro a ha b hb
      simp only [List.map_cons, List.map_nil, List.mem_singleton] at hb
      subst hb
      exact fun e => hnot (e ▸ ha)

theorem wpAny_mergeMapping {u : Bool} {d o : Addr} {kvs more : List (Kt × Value)} {Q : Unit → Shared → Prop} (hdo : d ≠ o) (hoS : (o == sysModules) = false)
    (hd : s.heap.DictOf knd d kvs) (ho : s.heap.DictOf knd o more) (hu : u = true → ((kvs ++ more).map (·.1)).Nodup)
    (hQ : ∀ h', h'.DictOf knd d (merged kvs more) → h'.DictOf knd o more → Heap.SameBut d s.heap h' → Q () { s with heap := h' })
    (hsz : kvs.length + more.length ≤ sizeLine) :
    wpAny (model prog w) A (mergeMapping d (.ref o) u) Q E s := by
  obtain ⟨od, esd, epd, hod, hcd, hdd, hkd, hpd, hnd⟩ := id hd
  obtain ⟨oo, eso, epo, hoo, hco, hdo', hko, hpo, hno⟩ := id ho
  have hlen : more.length = eso.size := by rw [← hpo.length]; simp
  have hT : s.TypeIs (.ref o) "dict" := ⟨oo, hoo, hco.1⟩
  unfold mergeMapping
  refine wpAny_bind (wpAny_isInstance (T := "dict") hT PySem.F.sub_dict_dict ?_)
  dsimp only
  rw [if_pos rfl]
  refine wpAny_bind (wpAny_specialOf hT PySem.F.slot_dict_iter.lookup ?_)
  have hb : ((some (Value.builtin "dict.__iter__")) == some (Value.builtin "dict.__iter__")) = true := by decide +kernel
  refine wpAny_bind (wpAny_pure ?_)
  rw [hb]
  dsimp only
  rw [if_neg (by rw [hoS]; exact Bool.false_ne_true)]
  refine wpAny_bind (wpAny_dictEntries hod hdd ?_)
  have loop : wpAny (model prog w) A (do
      let l ← dictEntries o
      let epoch ← dictEpoch o
      forIn (List.range l.size) PUnit.unit fun i (_ : PUnit) => do
          let l' ← dictEntries o
          match l'[i]? with
            | some e => do
              holding [e.key, e.val]
                  (have jp := fun (_ : Unit) => dictPut d e.hash e.key e.val
                   if u = true then do
                     let f ← dictFind d e.key e.hash
                     if f.isSome = true then do
                       rule "dict.merge.duplicate-key"
                       let x ← newExc (Value.type "KeyError") [e.key]
                       let r ← raiseNew x
                       jp r
                     else jp ()
                   else jp ())
              let ep' ← dictEpoch o
              if (ep' != epoch) = true then do
                unsupported "dict.changed-during-merge"
                pure (ForInStep.yield PUnit.unit)
              else pure (ForInStep.yield PUnit.unit)
            | x => do
              unsupported "dict.changed-during-merge"
              pure (ForInStep.yield PUnit.unit)
      pure ()) Q E s := by
    refine wpAny_bind (wpAny_dictEntries hoo hdo' ?_)
    refine wpAny_bind (wpAny_dictEpoch hoo hdo' ?_)
    refine wpAny_bind ?_
    rw [List.range_eq_range']
    refine wpAny_forIn_list _
      (fun rest _ s' => ∃ h' i, s' = { s with heap := h' } ∧ rest = List.range' i (eso.size - i) ∧ i ≤ eso.size ∧ h'.DictOf knd d (merged kvs (more.take i)) ∧ h'.get? o = some oo ∧ Heap.SameBut d s.heap h')
      _ ?_ ?_ _ _ ⟨s.heap, 0, rfl, by simp, Nat.zero_le _, by simpa [merged] using hd, hoo, Heap.SameBut.refl _ _⟩
    · rintro x rest b s' ⟨h', i, rfl, hr, hi, hd', hoo', hs'⟩
      have hlt : i < eso.size := by
        rcases Nat.lt_or_ge i eso.size with h | h
        · exact h
        · rw [Nat.sub_eq_zero_of_le h] at hr; simp at hr
      obtain ⟨rfl, hrest⟩ : x = i ∧ rest = List.range' (i + 1) (eso.size - (i + 1)) := by
        have e : eso.size - i = (eso.size - (i + 1)) + 1 := by omega
        rw [e, List.range'_succ] at hr
        injection hr with h1 h2
        exact ⟨h1, h2⟩
      refine wpAny_bind (wpAny_dictEntries hoo' hdo' ?_)
      rw [Array.getElem?_eq_getElem hlt]
      obtain ⟨kv, hkv⟩ : ∃ kv, more[x]? = some kv := ⟨more[x]'(by rw [hlen]; exact hlt), List.getElem?_eq_getElem _⟩
      obtain ⟨k, v⟩ := kv
      obtain ⟨hkey, hval⟩ := hpo.get? (e := eso[x]) (by simp [hlt]) hkv
      obtain ⟨k', hkey', hhash⟩ := hko eso[x] (Array.getElem_mem hlt)
      obtain rfl : k' = k := knd.inj _ _ _ hkey' hkey
      have hmx : (merged kvs (more.take x)).length ≤ sizeLine := by
        have e1 := merged_length_le kvs (more.take x)
        have e2 : (more.take x).length ≤ more.length := by rw [List.length_take]; omega
        omega
      dsimp only
      rw [hhash, hval]
      refine wpAny_bind (wpAny_holding ?_)
      cases u
      case' true =>
        obtain ⟨o1, es1, ep1, ho1, hc1, hd1, hk1, hp1, hn1⟩ := id hd'
        rw [if_pos rfl]
        refine wpAny_bind (wpAny_dictFind_of hkey' ho1 hd1 hk1 ?_)
        have hno1 : (es1.findIdx? fun e => knd.is k' e.key) = none := by
          have e0 : (es1.findIdx? fun e => knd.is k' e.key) = es1.toList.findIdx? fun e => knd.is k' e.key := by obtain ⟨l⟩ := es1; simp
          rw [e0, hp1.findIdx k', List.findIdx?_eq_none_iff]
          intro kv hkv1
          refine decide_eq_false fun e => ?_
          have hN := hu rfl
          have eT : more = more.take x ++ (k', v) :: more.drop (x + 1) := by
            have l1 : x < more.length := by rw [hlen]; exact hlt
            have := List.getElem?_eq_some_iff.mp hkv
            obtain ⟨l2, e2⟩ := this
            rw [← e2]
            simp
          have hN2 : ((kvs ++ more.take x).map (·.1)).Nodup := by
            rw [eT, ← List.append_assoc, List.map_append] at hN
            exact (List.nodup_append.mp hN).1
          rw [merged_append_of_fresh _ _ hN2] at hkv1
          rw [eT, ← List.append_assoc, List.map_append] at hN
          exact (List.nodup_append.mp hN).2.2 kv.1 (List.mem_map_of_mem hkv1) k' (by simp) e
        rw [hno1]
      all_goals
        refine wpAny_dictPut hkey' hd' (fun h'' hd'' hs'' => ?_) hmx
        have hoo'' : h''.get? o = some oo := (hs''.2 o (Ne.symm hdo)).trans hoo'
        refine wpAny_bind (wpAny_dictEpoch hoo'' hdo' ?_)
        rw [if_neg (by simp)]
        exact wpAny_pure ⟨h'', x + 1, rfl, hrest, hlt, by rw [merged_take_succ kvs more x (k', v) hkv]; exact hd'', hoo'', hs'.trans hs''⟩
    · rintro b s' ⟨h', i, rfl, hr, hi, hd', hoo', hs'⟩
      have hin : i = eso.size := by
        rcases Nat.lt_or_ge i eso.size with h | h
        · have e : eso.size - i = (eso.size - (i + 1)) + 1 := by omega
          rw [e, List.range'_succ] at hr; exact nomatch hr
        · exact Nat.le_antisymm hi h
      refine wpAny_pure (hQ h' ?_ ⟨oo, eso, epo, hoo', hco, hdo', hko, hpo, hno⟩ hs')
      rw [hin, ← hlen, List.take_length] at hd'; exact hd'
  split
  · refine wpAny_bind (wpAny_dictEntries hoo hdo' ?_)
    refine wpAny_bind ?_
    have scan : ∀ (l : List DictEntry), (∀ e ∈ l, ∃ k, knd.is k e.key = true) → ∀ (g : DictEntry → PUnit → Sem (ForInStep PUnit)), (∀ e, (∀ a, e.key ≠ .ref a) → g e ⟨⟩ = pure (.yield ⟨⟩)) → ∀ {R : PUnit → Shared → Prop}, R ⟨⟩ s → wpAny (model prog w) A (forIn l PUnit.unit g) R E s := by
      intro l hl g hg R hR
      induction l with
      | nil => rw [List.forIn_nil]; exact wpAny_pure hR
      | cons e l ih =>
        obtain ⟨k, hk⟩ := hl e (List.mem_cons_self ..)
        rw [List.forIn_cons, hg e (fun a z => by have := knd.byValue k _ hk; rw [z] at this; cases this)]
        exact wpAny_bind (wpAny_pure (ih fun e he => hl e (List.mem_cons_of_mem _ he)))
    rw [← Array.forIn_toList]
    refine scan _ (fun e he => ?_) _ (fun e he => ?_) loop
    · obtain ⟨k, hk, _⟩ := hko e (Array.mem_def.mpr he)
      exact ⟨k, hk⟩
    · cases q : e.key with
      | ref a => exact absurd q (he a)
      | _ => rfl
  · exact loop
end
end KwX
set_option Elab.async false
set_option linter.all false
set_option maxRecDepth 100000
set_option maxHeartbeats 4000000
set_option pp.maxSteps 1500
namespace KwX
open PySem PySem.Spec PyProof.Rows L2 StX
/-! ### C( **d) -/
section
variable {M : Model} {A : Around} {E : Value → Shared → Prop} {s : Shared}
theorem kk_call {f : Value} {first : List Value} {pos : Pos} {Q : Value → Shared → Prop} {P : Heap → Prop} {args : List (Bool × Sem Value)} {kws : List (Option Str × Sem Value)} (hst : (args.any (·.1) || kws.any (·.1.isNone)) = true)
    (hk : ∀ h, P h → ∃ k, (k = Keeper.frame ∨ k = Keeper.machine ∨ k = Keeper.boundFrame) ∧ PySem.W.Looks M h (keeperOf f) k)
    (h : wpAny M A (evalArgs f true args kws) (fun a s₁ => P s₁.heap ∧ wpAny M A (call f (first ++ a.pos) a.kw) Q E s₁) E s) : wpAny M A (callWith pos f first args kws) Q E s := by
  unfold callWith
  refine wpAny_bind (wpAny_holding (wpAny_mono h (fun a s₁ h₁ => wpAny_bind (wpAny_standAt ?_)) fun _ _ x => x))
  obtain ⟨k, hk', L⟩ := hk _ h₁.1
  simp only [hst]
  refine wpAny_bind (L.here ?_)
  have tail : ∀ {t : Sem Value}, wpAny M A t Q E s₁ → wpAny M A (t >>= fun r => holding [r] point >>= fun _ => pure r) Q E s₁ :=
    fun ht => wpAny_bind (wpAny_mono ht (fun r s₂ hr => wpAny_bind (wpAny_holding (wpAny_point (wpAny_pure hr)))) fun _ _ x => x)
  have marked (mk : Value) : wpAny M A (callMarked mk f (first ++ a.pos) a.kw) Q E s₁ := by unfold callMarked; exact Calls.wpAny_keep h₁.2
  rcases hk' with rfl | rfl | rfl <;> dsimp only <;> first | exact tail (marked _) | exact tail (wpAny_operating h₁.2)
/-- the arguments of f( **e): a new dict at d, e, its pairs merged, and read -/
theorem kk_args {f : Value} {x : Sem Value} {pos : Pos} {Q : Args → Shared → Prop}
    (h : wpAny M A (alloc ({ cls := .type "dict", data := .dict #[] } : Obj)) (fun d s1 => wpAny M A x (fun v s2 => wpAny M A (mergeMapping d v true) (fun _ s3 => wpAny M A (keywordsIn f d) (fun kw s4 => Q ⟨[], kw⟩ s4) E s3) (fun _ _ => False) s2) E s1) E s) :
    wpAny M A (evalArgs f true [] [(none, (do let v ← x; standAt pos; pure v))]) Q E s := by
  unfold evalArgs
  dsimp only
  have e0 : wpAny M A (spliced []) (fun vs s' => vs = [] ∧ s' = s) E s := by
    unfold spliced
    exact wpAny_pure ⟨rfl, rfl⟩
  refine wpAny_bind (wpAny_mono e0 (fun vs s' hv => ?_) fun _ _ z => z)
  obtain ⟨rfl, rfl⟩ := hv
  refine wpAny_bind (wpAny_pure ?_)
  dsimp only
  refine wpAny_holding ?_
  rw [if_neg (by simp)]
  unfold mergedKeywords
  refine wpAny_bind (wpAny_bind (wpAny_mono h (fun d s1 h1 => ?_) fun _ _ z => z))
  refine wpAny_bind (wpAny_holding ?_)
  refine wpAny_bind ?_
  rw [List.forIn_cons]
  refine wpAny_bind ?_
  refine wpAny_bind (wpAny_pure ?_)
  refine wpAny_bind (wpAny_bind (wpAny_mono h1 (fun v s2 h2 => wpAny_bind (wpAny_standAt (wpAny_pure ?_))) fun _ _ z => z))
  refine wpAny_bind (wpAny_onRaise (wpAny_holding (wpAny_tryCatch (wpAny_onRaise (wpAny_mono h2 (fun u s3 h3 => ?_) fun _ _ z => z.elim)))))
  refine wpAny_pure ?_
  show wpAny M A (pure ([] : List (Str × Sem Value))) _ E s3
  refine wpAny_pure ?_
  refine wpAny_pure ?_
  refine wpAny_pure ?_
  refine wpAny_bind (wpAny_pure ?_)
  exact wpAny_bind (wpAny_holding (wpAny_mono h3 (fun kw s4 h4 => wpAny_pure h4) fun _ _ z => z))
end
/-- all keys are texts: what keywordsIn tells -/
theorem wpAny_keywordsIn {P : Program} {w : World} {A : Around} {E : Value → Shared → Prop} {s : Shared} {f : Value} {d : Addr} {ks : List Str} {vs : List (Key × Value)} {Q : List (Str × Value) → Shared → Prop} (hd : s.heap.DictOf (mixKind P w) d vs)
    (hk : vs.map (·.1) = ks.map Sum.inr) (h : Q (ks.zip (vs.map (·.2))) s) : wpAny (model P w) A (keywordsIn f d) Q E s := by
  obtain ⟨o, es, ep, ho, hc, hdd, hks, hp, hn⟩ := hd
  unfold keywordsIn
  refine wpAny_bind (wpAny_dictEntries ho hdd ?_)
  rw [← Array.forIn_toList]
  generalize es.toList = el at hp
  have main : ∀ (el : List DictEntry) (vs : List (Key × Value)) (ks : List Str) (acc : List (Str × Value)), Pairs (mixKind P w) el vs → vs.map (·.1) = ks.map Sum.inr → ∀ (g : DictEntry → List (Str × Value) → Sem (ForInStep (List (Str × Value)))),
      (∀ e x t b, e.key = .str x t → g e b = pure (.yield (b ++ [(x, e.val)]))) → wpAny (model P w) A (forIn el acc g) (fun r s' => r = acc ++ ks.zip (vs.map (·.2)) ∧ s' = s) E s := by
    intro el vs ks acc hp hk g hg
    induction hp generalizing ks acc with
    | nil =>
      rw [List.forIn_nil]
      refine wpAny_pure ⟨?_, rfl⟩
      simp
    | @cons e kv es kvs h1 h2 _ ih =>
      cases ks with
      | nil => cases hk
      | cons k ks =>
        injection hk with e1 e2
        obtain ⟨t, ht⟩ : ∃ t, e.key = .str k t := by
          have e1 : kv.1 = Sum.inr k := e1
          rw [e1] at h1
          have h1 : keyIs (Sum.inr k) e.key = true := h1
          rcases keyIs_shape h1 with ⟨i, t, z, _⟩ | ⟨x, t, z, q⟩
          · cases z
          · cases z
            exact ⟨t, q⟩
        rw [List.forIn_cons, hg e k t acc ht]
        refine wpAny_bind (wpAny_pure ?_)
        refine wpAny_mono (ih ks (acc ++ [(k, e.val)]) e2) (fun r s' hr => ⟨?_, hr.2⟩) fun _ _ z => z
        rw [hr.1, h2, List.append_assoc]
        rfl
  refine wpAny_bind (wpAny_mono (main el vs ks [] hp hk _ fun e x t b he => by rw [he]) (fun r s' hr => ?_) fun _ _ z => z)
  obtain ⟨rfl, rfl⟩ := hr
  exact wpAny_pure (by rw [List.nil_append]; exact h)

/-- the pairs of a dict whose keys are these texts -/
def kvK (ks : List Str) (zs : List V) : List (Key × V) := (ks.map Sum.inr).zip zs
/-- C( **e): e a dict with text keys ks in this order; a new instance and its dict, then __init__ -/
def tMakeD (C : Addr) (ks : List Str) (sp : Sp) (gV : List V → List V → List V) (E : XK) (te : TE) : TE := fun σ H Q => ∀ d, H d = none → te σ (upd H d (.dK [])) fun y H1 => ∃ (o : Addr) (zs : List V), y = .ref o ∧ H1 d = some (.dK []) ∧ H1 o = some (.dK (kvK ks zs)) ∧ zs.length = ks.length ∧ o ≠ d ∧
  ∀ x dx, upd H1 d (.dK (kvK ks zs)) x = none → upd H1 d (.dK (kvK ks zs)) dx = none → dx ≠ x → sp (gV [.ref x] zs) (upd (upd (upd H1 d (.dK (kvK ks zs))) dx (.own x)) x (.ins C dx [])) (fun v H3 => v = .non ∧ Q (.ref x) H3) E
theorem kvK_keys {ks : List Str} {zs : List V} (h : zs.length = ks.length) : (kvK ks zs).map (·.1) = ks.map Sum.inr := by
  unfold kvK
  rw [List.map_fst_zip]
  rw [List.length_map, h]
  exact Nat.le_refl _
theorem kvK_vals {ks : List Str} {zs : List V} (h : zs.length = ks.length) : (kvK ks zs).map (·.2) = zs := by
  unfold kvK
  rw [List.map_snd_zip]
  rw [List.length_map, h]
  exact Nat.le_refl _
theorem KV.parts : ∀ {kvs : List (Key × V)} {vs : List (Key × Value)}, KV kvs vs → vs.map (·.1) = kvs.map (·.1) ∧ Vals (kvs.map (·.2)) (vs.map (·.2)) := by
  intro kvs vs r
  unfold KV at r
  induction r with
  | nil => exact ⟨rfl, .nil⟩
  | @cons p q ps qs h t ih => exact ⟨by rw [List.map_cons, List.map_cons, ih.1, h.1], .cons h.2 ih.2⟩
section
variable {X : Cx} {CX : CXT} {k : Nat} {f C : Addr} {fd : FuncData} {ps ks : List Str} {sp : Sp} {E : XK} {x : Str} {p pos kpos : Pos} {e : Expr} {te : TE} {g : List Value → List Value → List Value} {gV : List V → List V → List V}
theorem pe_makeD (M : Mk X.K C f) (F : FnOk X.prog X.w X.K X.mg X.base CX k f fd ps sp) (hr : Room (k + 1) X.A) (hg : Gl X x) (hm : X.mg x = some (.ref C)) (hb : KBn X.K fd ps (0 + 1) ks g gV) (hx : Passes CX X E)
    (he : PE X e te) (hnd : ks.Nodup) (hks : ks.length ≤ 1000) (hdb : (x == ("__debug__" : Str)) = false := by decide) (htr : keywordEach [⟨none, e, kpos⟩] X.env = [(none, eval e X.env)] := by rfl) :
    PE X (.Call (.Name x p) [] [⟨none, e, kpos⟩] pos) (tMakeD C ks sp gV E te) := by
  refine ⟨fun pins s σ H Q I h => ?_⟩
  refine wpAny_Call_Name_kw (ld_glob I hg hm ?_ hdb)
  rw [htr]
  show wpAny _ _ (callWith pos (.ref C) [] [] [(none, (do let v ← eval e X.env; standAt pos; pure v))]) _ _ _
  refine kk_call (P := fun h => X.K.In h) rfl (PySem.W.keeps_K M.kp) (kk_args (wpAny_alloc ?_))
  have I1 := I.laid (a := s.heap.objs.size) (o := .dK []) (t' := s.toks) (fun _ _ q => Heap.get?_push_of_some _ q) (Nat.le_refl _) (dk_empty s.heap I.big)
  refine thn (he.run pins _ σ _ _ I1 (h _ (I.hok.fresh (Nat.le_refl _)))) fun v s2 ⟨y, H1, I2, ry, o, zs, ey, hd, ho, hl, hne, q⟩ => ?_
  subst ey
  obtain rfl : v = Value.ref o := ry
  obtain ⟨z, hdS, vs, rel, dd⟩ := dk_of I2.hok hd
  obtain ⟨z2, hoS, vs2, rel2, dd2⟩ := dk_of I2.hok ho
  cases rel
  obtain ⟨hk2, hv2⟩ := KV.parts rel2
  rw [kvK_keys hl] at hk2
  rw [kvK_vals hl] at hv2
  have hn2 : (vs2.map (·.1)).Nodup := by
    obtain ⟨_, _, _, _, _, _, _, _, hn⟩ := id dd2
    exact hn
  refine wpAny_mergeMapping (Ne.symm hne) hoS dd dd2 (fun _ => hn2) (fun h' d1 d2 hs => ?_) (by rw [← rel2.length]; show 0 + _ ≤ _; omega)
  have e0 : merged [] vs2 = vs2 := merged_nil_of_nodup vs2 hn2
  rw [e0] at d1
  have he' : ∃ q, h'.get? s.heap.objs.size = some q := let ⟨q, _, _, hq, _⟩ := d1; ⟨q, hq⟩
  have I3 := d_write (t' := s2.toks) (ob := .dK (kvK ks zs)) I2 (by rw [hd]; exact True.intro) hs he' (dk_new z2 hdS rel2 d1)
  refine wpAny_keywordsIn d1 hk2 ⟨I3.kIn, ?_⟩
  exact run_makeN M F hr hb hx I3 .nil hv2 rfl hl q
end

/-! ### a def with ** called with keywords -/
/-- a promise by positional values vs and the values zs of keywords named ks -/
def FnRK (P : Program) (w : World) (K : PySem.W.Frag) (mg : Str → Option Value) (base : Heap) (CX : CXT) (k : Nat) (f : Addr) (ks : List Str) (sp : List V → List V → Hp → VK → XK → Prop) : Prop :=
  ∀ (A : Around) (outer : List Env) (s : Shared) (H : Hp) (us ws : List Value) (vs zs : List V) (Q : VK) (E : XK), Room k A → Env0 P w K mg base A outer s H → Vals vs us → Vals zs ws → sp vs zs H Q E →
    codeAny (model P w) A (.call (.ref f) ⟨us, ks.zip ws⟩) (CR CX outer P w H s Q E) s
/-- a dict filled by its names -/
theorem kx_nsSet {prog : Program} {w : World} {A : Around} {E : Value → Shared → Prop} {s : Shared} {d : Addr} {es : List DictEntry} {n : Nat} {k : Str} {v : Value} {Q : Unit → Shared → Prop} (hd : s.heap.get? d = some (PySem.W.dictOf es n))
    (hs : ∀ e ∈ es, e.key.isStr k = false) (hr : ∀ e ∈ es, e.refKey = false)
    (h : ∀ h', h'.get? d = some (PySem.W.dictOf (es ++ [⟨PyData.keyHash w.params k, .str k s.toks, v⟩]) (n + 1)) → Heap.SameBut d s.heap h' → Q () { s with heap := h', toks := s.toks + 1 }) :
    wpAny (model prog w) A (nsSet d k v) Q E s := by
  have e1 : es.any (·.key.isStr k) = false := by
    cases q : es.any (·.key.isStr k) with
    | false => rfl
    | true => obtain ⟨e, he, z⟩ := List.any_eq_true.mp q; rw [hs e he] at z; cases z
  have e2 : es.any (·.refKey) = false := by
    cases q : es.any (·.refKey) with
    | false => rfl
    | true => obtain ⟨e, he, z⟩ := List.any_eq_true.mp q; rw [hr e he] at z; cases z
  have e : Obj.putName k (PyData.keyHash w.params k) (.str k s.toks) v (PySem.W.dictOf es n) = PySem.W.dictOf (es ++ [⟨PyData.keyHash w.params k, .str k s.toks, v⟩]) (n + 1) := by
    rw [PySem.W.putName_dict, PySem.W.putL_new hs]
    show PySem.W.dictOf _ (if es.any (·.key.isStr k) then n else n + 1) = _
    rw [e1, if_neg Bool.false_ne_true]
  have c : aRefKeyMayBeTheName k es.toArray = false := by
    rw [aRefKeyMayBeTheName_at, ← Array.any_toList, ← Array.any_toList]
    show (!es.any (·.key.isStr k) && es.any (·.refKey)) = false
    rw [e2, Bool.and_false]
  unfold nsSet
  refine wpAny_bind (wpAny_bind (wpAny_askSetting (wpAny_pure (wpAny_bind (wpAny_mkText (wpAny_bind (wpAny_loadPart hd ?_)))))))
  dsimp only
  rw [c]
  refine wpAny_updatePart hd (h _ ?_ (Heap.SameBut.update ..))
  have z := Heap.get?_update_self (h := s.heap) (Obj.putName k (PyData.keyHash w.params k) (.str k s.toks) v) hd (by rw [e]; rfl)
  rw [e] at z
  exact z
theorem kx_fill {prog : Program} {w : World} {A : Around} {E : Value → Shared → Prop} {d : Addr} {Q : PUnit → Shared → Prop} : ∀ (ex : List (Str × Value)) (s : Shared) (es : List DictEntry) (n : Nat), s.heap.get? d = some (PySem.W.dictOf es n) →
    (∀ e ∈ es, ∀ x ∈ ex, e.key.isStr x.1 = false) → (∀ e ∈ es, e.refKey = false) → (ex.map (·.1)).Nodup →
    (∀ h', h'.get? d = some (PySem.W.dictOf (es ++ PySem.W.kwEs w.params s.toks ex) (n + ex.length)) → Heap.SameBut d s.heap h' → Q ⟨⟩ { s with heap := h', toks := s.toks + ex.length }) →
    wpAny (model prog w) A (forIn ex PUnit.unit fun x _ => (nsSet d x.1 x.2 >>= fun _ => pure (ForInStep.yield PUnit.unit))) Q E s
  | [], s, es, n, hd, _, _, _, h => by
    rw [List.forIn_nil]
    refine wpAny_pure (h s.heap ?_ (Heap.SameBut.refl ..))
    show s.heap.get? d = some (PySem.W.dictOf (es ++ []) n)
    rw [List.append_nil]
    exact hd
  | x :: r, s, es, n, hd, hs, hr, hn, h => by
    obtain ⟨hn1, hn2⟩ := List.nodup_cons.mp (show (x.1 :: r.map (·.1)).Nodup from hn)
    rw [List.forIn_cons]
    refine wpAny_bind (wpAny_bind (kx_nsSet hd (fun e he => hs e he x (.head _)) hr fun h' hd' sb => wpAny_pure ?_))
    show wpAny (model prog w) A (forIn r PUnit.unit fun x _ => (nsSet d x.1 x.2 >>= fun _ => pure (ForInStep.yield PUnit.unit))) Q E { s with heap := h', toks := s.toks + 1 }
    refine kx_fill r { s with heap := h', toks := s.toks + 1 } _ _ hd' (fun e he y hy => ?_) (fun e he => ?_) hn2 fun h'' hd'' sb' => ?_
    · rcases List.mem_append.mp he with he | he
      · exact hs e he y (.tail _ hy)
      · obtain rfl := List.mem_singleton.mp he
        show (x.1 == y.1) = false
        exact beq_eq_false_iff_ne.mpr fun q => hn1 (by rw [q]; exact List.mem_map_of_mem hy)
    · rcases List.mem_append.mp he with he | he
      · exact hr e he
      · obtain rfl := List.mem_singleton.mp he
        rfl
    · have t1 : s.toks + 1 + r.length = s.toks + (r.length + 1) := by omega
      have t2 : n + 1 + r.length = n + (r.length + 1) := by omega
      show Q ⟨⟩ { s with heap := h'', toks := s.toks + 1 + r.length }
      rw [t1]
      refine h h'' ?_ (sb.trans sb')
      rw [t2, List.append_assoc] at hd''
      exact hd''
section
variable {P : Program} {w : World} {K : PySem.W.Frag} {mg : Str → Option Value} {base : Heap} {A : Around} {outer : List Env} {s : Shared} {H : Hp}
theorem env0_to {u : HO} {h' : Heap} {t' : Nat} (e0 : Env0 P w K mg base A outer s H) (kp : ∀ b x, s.heap.get? b = some x → h'.get? b = some x) (le : s.heap.objs.size ≤ h'.objs.size) (new : ObjOk P w (upd H s.heap.objs.size u) h' s.heap.objs.size u) :
    Env0 P w K mg base A outer { s with heap := h', toks := t' } (upd H s.heap.objs.size u) := by
  refine ⟨e0.frames, e0.mod, fun b x e => ⟨kp b x (e0.bs b x e).1, ?_⟩, Nat.le_trans e0.bsz le, Heap.FunFrames.of_keeps (fun b x e _ => ⟨x, kp b x e, rfl⟩) e0.funs, fun b hb => ?_, e0.hok.laid kp (Nat.le_refl _) new, e0.bare⟩
  · rw [upd_ne (Nat.ne_of_lt (Heap.lt_size (e0.bs b x e).1))]
    exact (e0.bs b x e).2
  · obtain ⟨_, x, hx, _⟩ := e0.funs.mem hb
    rw [upd_ne (Nat.ne_of_lt (Heap.lt_size hx))]
    exact e0.frf b hb
theorem kw_pairs {prog : Program} {w : World} : ∀ (ex : List (Str × Value)) (t : Tok), Pairs (mixKind prog w) (PySem.W.kwEs w.params t ex) (ex.map fun x => (Sum.inr x.1, x.2))
  | [], _ => .nil
  | x :: r, t => .cons (mixKind_str prog w x.1 t) rfl (kw_pairs r (t + 1))
theorem kw_dict {prog : Program} {w : World} {h : Heap} {d : Addr} {ex : List (Str × Value)} {t : Tok} {n : Nat} (hd : h.get? d = some (PySem.W.dictOf (PySem.W.kwEs w.params t ex) n)) (hn : (ex.map (·.1)).Nodup) :
    h.DictOf (mixKind prog w) d (ex.map fun x => (Sum.inr x.1, x.2)) := by
  refine ⟨_, (PySem.W.kwEs w.params t ex).toArray, n, hd, ⟨rfl, rfl, rfl⟩, rfl, fun e he => ?_, kw_pairs ex t, ?_⟩
  · obtain ⟨k, u, hk, hh⟩ := PySem.W.kwEs_key ex t e (List.mem_toArray.mp he)
    exact ⟨Sum.inr k, by rw [hk]; exact mixKind_str prog w k u, hh.trans rfl⟩
  · rw [List.map_map]
    show (ex.map fun x => (Sum.inr x.1 : Key)).Nodup
    have e : (ex.map fun x => (Sum.inr x.1 : Key)) = (ex.map (·.1)).map Sum.inr := by rw [List.map_map]; rfl
    rw [e]
    exact List.Pairwise.map Sum.inr (fun a b ne z => ne (Sum.inr.inj z)) hn
theorem kv_zip : ∀ {ks : List Str} {zs : List V} {ws : List Value}, Vals zs ws → KV (kvK ks zs) ((ks.zip ws).map fun x => (Sum.inr x.1, x.2))
  | [], _, _, _ => by
    unfold kvK
    simp
    exact .nil
  | k :: ks, _, _, .nil => .nil
  | k :: ks, _, _, .cons r t => .cons ⟨rfl, r⟩ (kv_zip (ks := ks) t)
end
end KwX
set_option Elab.async false
set_option linter.all false
set_option maxRecDepth 100000
set_option maxHeartbeats 4000000
set_option pp.maxSteps 1500
namespace KwX
open PySem PySem.Spec PyProof.Rows L2 StX
section
variable {CX : CXT} {P : Program} {w : World} {K : PySem.W.Frag} {mg : Str → Option Value} {base : Heap} {k : Nat} {f : Addr} {name qual : Str} {params : Arguments} {body : List Stmt} {scope : Scope} {dV kV doc pm cdv ct oc : Value} {an od : Option Addr}
  {osl : Array (Option Value)} {N ps ks : List Str} {sp : Sp} {pd : Str}
/-- def f(a, .., **d), called with values for a, .. and keywords ks that are no parameters: a new dict of them -/
theorem fn_kw (lk : K.lookup f = some ⟨oc, od, .func (PySem.W.fnOf name qual params body scope dV kV doc pm an cdv ct), osl⟩) (hcd : PySem.W.codeIn K cdv qual = true) (S : FnScope N (ps ++ [pd]) scope) (hCX : CXUp CX) (hnd : ks.Nodup) (hks : ks.length ≤ 1000)
    (hb : ∀ us ws : List Value, us.length = ps.length → ws.length = ks.length → bindArgs (PySem.W.fnOf name qual params body scope dV kV doc pm an cdv ct) ⟨us, ks.zip ws⟩ =
      ((alloc ({ cls := .type "dict", data := .dict #[] } : Obj) : Sem Addr) >>= fun d => (forIn (ks.zip ws) PUnit.unit fun x _ => (nsSet d x.1 x.2 >>= fun _ => pure (ForInStep.yield PUnit.unit))) >>= fun _ => pure (ps.zip us ++ [(pd, Value.ref d)])))
    (hbody : ∀ (A : Around) (outer : List Env) (s : Shared) (H : Hp) (vs : List V) (Q : VK) (E : XK), Room k (A.deeper (envOfC qual scope s.heap.objs.size f cdv)) → sp vs H Q E →
      ∃ t, PSs (cxOf CX P w K mg base N qual scope f cdv A outer s H E) body t ∧ t { nx := fun _ H' => Q .non H', rt := Q } (start N vs) H) :
    FnRK P w K mg base CX (k + 1) f ks (fun vs zs H Q E => vs.length = ps.length ∧ zs.length = ks.length ∧ ∀ d, H d = none → sp (vs ++ [V.ref d]) (upd H d (.dK (kvK ks zs))) Q E) := by
  intro A outer s H us ws vs zs Q E hr e0 r rz hsp
  obtain ⟨hl, hz, hq⟩ := hsp
  have hl1 : us.length = ps.length := by rw [← r.length]; exact hl
  have hl2 : ws.length = ks.length := by rw [← rz.length]; exact hz
  have hn : H s.heap.objs.size = Option.none := e0.hok.fresh (Nat.le_refl _)
  refine run_bnd lk hcd S hr e0 (G := fun xs H2 => ∃ d, H d = none ∧ xs = vs ++ [V.ref d] ∧ H2 = upd H d (.dK (kvK ks zs))) (fun A' Ex Q' h => ?_) fun s2 H2 xs ⟨d, hd, ex, eH⟩ hr' => ?_
  · rw [hb us ws hl1 hl2]
    refine wpAny_bind (wpAny_alloc ?_)
    have hnz : ((ks.zip ws).map (·.1)).Nodup := by
      rw [List.map_fst_zip (by rw [hl2]; exact Nat.le_refl _)]
      exact hnd
    have g0 : (s.heap.push ({ cls := .type "dict", data := .dict #[] } : Obj)).get? s.heap.objs.size = some (PySem.W.dictOf [] 0) := Heap.get?_push_size _ rfl
    refine wpAny_bind (kx_fill (ks.zip ws) _ [] 0 g0 (fun _ he => nomatch he) (fun _ he => nomatch he) hnz fun h' hd' sb => wpAny_pure ?_)
    have kp : ∀ b x, s.heap.get? b = some x → h'.get? b = some x := fun b x e => by
      rw [sb.2 b (Nat.ne_of_lt (Heap.lt_size e))]
      exact Heap.get?_push_of_some _ e
    have hbig : sysModules < s.heap.objs.size := env0_big e0
    have hlen : (kvK ks zs).length ≤ sizeLine := by
      unfold kvK
      rw [List.length_zip, List.length_map, hz]
      exact Nat.le_trans (Nat.min_le_left ..) (Nat.le_trans hks (by decide))
    have new : ObjOk P w (upd H s.heap.objs.size (.dK (kvK ks zs))) h' s.heap.objs.size (.dK (kvK ks zs)) :=
      ⟨hlen, beq_eq_false_iff_ne.mpr (Ne.symm (Nat.ne_of_lt hbig)), _, kv_zip rz, kw_dict hd' hnz⟩
    have le : s.heap.objs.size ≤ h'.objs.size := Nat.le_of_lt (Heap.lt_size hd')
    have un := Un.laid (fs := frs outer) (ex := []) (H := H) (h := s.heap) (h' := h') (a := s.heap.objs.size) (o := .dK (kvK ks zs)) kp (Nat.le_refl _) hn
    have z := h _ _ (vs ++ [V.ref s.heap.objs.size]) (us ++ [Value.ref s.heap.objs.size]) (env0_to (t' := s.toks + (ks.zip ws).length) e0 kp le new) un rfl
      (fun e s' => hCX outer s H _ _ E e s' un kp rfl) (r.append (.cons rfl .nil)) (by rw [List.length_append, List.length_append, hl] <;> rfl) ⟨_, hn, rfl, rfl⟩
    rw [List.zip_append hl1.symm] at z
    exact z
  · subst ex eH
    exact hbody A outer s2 _ _ Q E hr' (hq d hd)
end
/-! ### o.m(k = v, ..) -/
def tMethKw (C : Addr) (m : Str) (sp : List V → List V → Hp → VK → XK → Prop) (E : XK) (ta : TE) (tk : TA) : TE := fun σ H Q => ta σ H fun x H1 => ∃ a dx fs, x = .ref a ∧ H1 a = some (.ins C dx fs) ∧ fs.lookup m = none ∧ tk σ H1 fun zs H2 => sp [x] zs H2 Q E
section
variable {X : Cx} {CX : CXT} {k : Nat} {f C : Addr} {ks : List Str} {sp : List V → List V → Hp → VK → XK → Prop} {E : XK} {m : Str} {pos apos : Pos} {o : Expr} {kws : List Keyword} {ta : TE} {tk : TA}
theorem run_fnRK {pins : List (Addr × Obj)} {σ : L2.St} {H : Hp} {s : Shared} {Q : VK} {us ws : List Value} {vs zs : List V} (F : FnRK X.prog X.w X.K X.mg X.base CX k f ks sp) (hr : Room k X.A) (hx : Passes CX X E) (I : Inv X pins σ H s) (r : Vals vs us) (rz : Vals zs ws) (h : sp vs zs H Q E) :
    codeAny (model X.prog X.w) X.A (.call (.ref f) ⟨us, ks.zip ws⟩) (fun r s' => match r with | .ok (.ret v) => EP X pins σ Q v s' | .ok _ => False | .error e => X.xe e s') s := by
  refine codeAny_mono (F X.A X.stack s H us ws vs zs Q E hr I.env0 r rz h) fun r s' hq => ?_
  cases r with
  | error e => exact hx pins σ H s e s' I hq
  | ok fl =>
    cases fl with
    | ret u => exact I.after hq
    | next => exact False.elim hq
    | brk => exact False.elim hq
    | cont => exact False.elim hq
theorem pe_methKw {pl : Sem Bool} (he : PE X o ta) (c : Cls X.K C) (hm : Meth X.K C m f) (F : FnRK X.prog X.w X.K X.mg X.base CX k f ks sp) (hr : Room k X.A) (hx : Passes CX X E) (hkw : PK X kws tk)
    (hall : (backToKw pos (keywordEach kws X.env)).all (·.1.isSome) = true := by rfl) (hks : (backToKw pos (keywordEach kws X.env)).filterMap (·.1) = ks := by rfl)
    (hpl : ((backTo pos (starEach [] X.env)).any (·.1) || (backToKw pos (keywordEach kws X.env)).any (·.1.isNone)) = false := by rfl)
    (ht : eval (.Call (.Attribute o m apos) [] kws pos) X.env = (do
      let ov ← eval o X.env
      standAt apos.atName
      let (f, first) ← holding [ov] (getMethod ov m pl)
      callWith pos f first (backTo pos (starEach [] X.env)) (backToKw pos (keywordEach kws X.env))) := by rfl) :
    PE X (.Call (.Attribute o m apos) [] kws pos) (tMethKw C m sp E ta tk) := by
  refine ⟨fun pins s σ H Q I h => ?_⟩
  refine PySem.W.methodCall_KW (pl := pl) (thn (he.run pins s σ H _ I h) fun u s1 ⟨x, H1, I1, rx, a, dx, fs, ex, ea, l, q⟩ => ?_) ht
  subst ex
  obtain rfl : u = Value.ref a := rx
  refine getmeth_ok I1 ea c hm l ?_
  refine PySem.W.callWith_KW0 (first := [.ref a]) (h₀ := X.base) I.ok.mod.kin hm.kp hall ?_ hpl
  refine thn (hkw.run pos pins s1 σ H1 _ I1 q) fun ws s2 ⟨zs, H2, I2, rz, q2⟩ => ⟨I2.kIn, ?_⟩
  rw [hks]
  exact wpAny_call (run_fnRK (us := [.ref a]) (vs := [.ref a]) F hr hx I2 (.cons rfl .nil) rz q2)
end
end KwX
set_option Elab.async false
set_option linter.all false
set_option maxRecDepth 100000
set_option maxHeartbeats 4000000
set_option pp.maxSteps 1500
namespace KwX
open PySem PySem.Spec PyProof.Rows L2 StX
theorem fitsN {n : Nat} (h : n ≤ 1000) : n ≤ sizeLine := Nat.le_trans h (by decide)
section
variable {X : Cx}
/-- d.update(e): dicts with keys ints and texts -/
def tDUpd (td te : TE) : TE := fun σ H Q => td σ H fun x H1 => ∃ a, x = .ref a ∧ IsD H1 a ∧ te σ H1 fun y H2 => ∃ o kvs more, y = .ref o ∧ H2 a = some (.dK kvs) ∧ H2 o = some (.dK more) ∧ a ≠ o ∧ kvs.length + more.length ≤ 1000 ∧ Q .non (upd H2 a (.dK (mergeK kvs more)))
theorem pe_dupd {o e : Expr} {td te : TE} {apos pos : Pos} (ho : PE X o td) (he : PE X e te) (m : M1 X o "update" apos e pos) : PE X (.Call (.Attribute o "update" apos) [e] [] pos) (tDUpd td te) := by
  refine ⟨fun pins s σ H Q I h => ?_⟩
  refine wpAny_Call_method m.base m.few m.line PySem.F.plainAttrs_dict PySem.F.slot_dict_update PySem.F.type_dict_update (thn (ho.run pins s σ H _ I h) fun u s1 ⟨x, H1, I1, rx, a, ex, d, q1⟩ => ?_)
  subst ex
  obtain rfl : u = Value.ref a := rx
  obtain ⟨t1, t2, _⟩ := isD_at I1 d
  refine ⟨t1, t2, ?_⟩
  rw [m.trees]
  refine Calls.callWith_builtin rfl (Calls.evalArgs_plain (Calls.spliced_cons (thn (he.run pins s1 σ H1 _ I1 q1) fun iv s2 ⟨y, H2, I2, ry, ov, kvs, more, ey, e1, e2, hne, hl, q2⟩ => Calls.spliced_nil ?_)))
  subst ey
  cases ry
  obtain ⟨z, hd, vs, rel, dd⟩ := dk_of I2.hok e1
  obtain ⟨z2, hd2, vs2, rel2, dd2⟩ := dk_of I2.hok e2
  have lz := length_mergeK more kvs
  refine call_meetsIn PySem.F.slot_dict_update dd.typeIs PySem.F.entry_dict_update (PySem.F.args_dict_update_2 _ _) (meets_dict_update (mixKind X.prog X.w) a ov hne hd2) ⟨vs, vs2, dd, dd2, by rw [← rel.length, ← rel2.length]; exact fitsN (by omega), fun h' dd' _ hs => ?_⟩
  have he' : ∃ q, h'.get? a = some q := let ⟨q, _, _, hq, _⟩ := dd'; ⟨q, hq⟩
  exact ⟨.non, _, d_write I2 (by rw [e1]; exact True.intro) hs he' (dk_new (fitsN (by omega)) hd (rel2.merge rel) dd'), rfl, q2⟩
end
section
variable {CX : CXT} {P : Program} {w : World} {K : PySem.W.Frag} {mg : Str → Option Value} {base : Heap} {k : Nat} {f : Addr} {fd : FuncData} {x qual : Str} {st : Stmt} {N ps ks : List Str} {sp : Sp} {pd : Str}
/-- a def with ** called with keywords, by its body -/
theorem fun_kw (F : Fun K x qual st f fd) (S : FnScope N (ps ++ [pd]) (defScope st)) (hCX : CXUp CX) (hnd : ks.Nodup) (hks : ks.length ≤ 1000)
    (hb : ∀ (kV doc pm : Value) (an : Option Addr) (cdv ct : Value) (us ws : List Value), us.length = ps.length → ws.length = ks.length → bindArgs (PySem.W.fnOf x qual (defArgs st) (defBody st) (defScope st) .none kV doc pm an cdv ct) ⟨us, ks.zip ws⟩ =
      ((alloc ({ cls := .type "dict", data := .dict #[] } : Obj) : Sem Addr) >>= fun d => (forIn (ks.zip ws) PUnit.unit fun x _ => (nsSet d x.1 x.2 >>= fun _ => pure (ForInStep.yield PUnit.unit))) >>= fun _ => pure (ps.zip us ++ [(pd, Value.ref d)])))
    (hbody : ∀ (cdv : Value) (A : Around) (outer : List Env) (s : Shared) (H : Hp) (vs : List V) (Q : VK) (E : XK), Room k (A.deeper (envOfC qual (defScope st) s.heap.objs.size f cdv)) → sp vs H Q E →
      ∃ t, PSs (cxOf CX P w K mg base N qual (defScope st) f cdv A outer s H E) (defBody st) t ∧ t { nx := fun _ H' => Q .non H', rt := Q } (start N vs) H) :
    FnRK P w K mg base CX (k + 1) f ks (fun vs zs H Q E => vs.length = ps.length ∧ zs.length = ks.length ∧ ∀ d, H d = none → sp (vs ++ [V.ref d]) (upd H d (.dK (kvK ks zs))) Q E) := by
  obtain ⟨oc, od, kV, doc, pm, an, cdv, ct, osl, rfl, lk, hcd⟩ := F.ex
  exact fn_kw lk hcd S hCX hnd hks (hb kV doc pm an cdv ct) fun A outer s H vs Q E hr hsp => hbody cdv A outer s H vs Q E hr hsp
end
end KwX
set_option Elab.async false
set_option linter.all false
set_option maxRecDepth 100000
set_option maxHeartbeats 4000000
set_option pp.maxSteps 1500
namespace KwX
open PySem PySem.Spec PyProof.Rows L2 StX
def tMethKwS (C : Addr) (m : Str) (sp : List V → List V → Hp → VK → XK → Prop) (E : L2.St → XK) (ta : TE) (tk : TA) : TE := fun σ H Q => ta σ H fun x H1 => ∃ a dx fs, x = .ref a ∧ H1 a = some (.ins C dx fs) ∧ fs.lookup m = none ∧ tk σ H1 fun zs H2 => sp [x] zs H2 Q (E σ)
section
variable {X : Cx} {CX : CXT} {k : Nat} {f C : Addr} {ks : List Str} {sp : List V → List V → Hp → VK → XK → Prop} {E : L2.St → XK} {m : Str} {pos apos : Pos} {o : Expr} {kws : List Keyword} {ta : TE} {tk : TA}
/-- o.m(k = v, ..) where what is let out hangs on the slots -/
theorem pe_methKwS {pl : Sem Bool} (he : PE X o ta) (c : Cls X.K C) (hm : Meth X.K C m f) (F : FnRK X.prog X.w X.K X.mg X.base CX k f ks sp) (hr : Room k X.A) (hx : ∀ σ, PassesAt CX X σ (E σ)) (hkw : PK X kws tk)
    (hall : (backToKw pos (keywordEach kws X.env)).all (·.1.isSome) = true := by rfl) (hks : (backToKw pos (keywordEach kws X.env)).filterMap (·.1) = ks := by rfl)
    (hpl : ((backTo pos (starEach [] X.env)).any (·.1) || (backToKw pos (keywordEach kws X.env)).any (·.1.isNone)) = false := by rfl)
    (ht : eval (.Call (.Attribute o m apos) [] kws pos) X.env = (do
      let ov ← eval o X.env
      standAt apos.atName
      let (f, first) ← holding [ov] (getMethod ov m pl)
      callWith pos f first (backTo pos (starEach [] X.env)) (backToKw pos (keywordEach kws X.env))) := by rfl) :
    PE X (.Call (.Attribute o m apos) [] kws pos) (tMethKwS C m sp E ta tk) := by
  refine ⟨fun pins s σ H Q I h => ?_⟩
  refine PySem.W.methodCall_KW (pl := pl) (thn (he.run pins s σ H _ I h) fun u s1 ⟨x, H1, I1, rx, a, dx, fs, ex, ea, l, q⟩ => ?_) ht
  subst ex
  obtain rfl : u = Value.ref a := rx
  refine getmeth_ok I1 ea c hm l ?_
  refine PySem.W.callWith_KW0 (first := [.ref a]) (h₀ := X.base) I.ok.mod.kin hm.kp hall ?_ hpl
  refine thn (hkw.run pos pins s1 σ H1 _ I1 q) fun ws s2 ⟨zs, H2, I2, rz, q2⟩ => ⟨I2.kIn, ?_⟩
  rw [hks]
  refine wpAny_call (codeAny_mono (F X.A X.stack s2 H2 [.ref a] ws [.ref a] zs Q (E σ) hr I2.env0 (.cons rfl .nil) rz q2) fun r s' hq => ?_)
  cases r with
  | error e => exact hx σ pins _ _ e s' I2 hq
  | ok fl =>
    cases fl with
    | ret u => exact I2.after hq
    | next => exact False.elim hq
    | brk => exact False.elim hq
    | cont => exact False.elim hq
end
end KwX
set_option Elab.async false
set_option linter.all false
set_option maxRecDepth 100000
set_option maxHeartbeats 4000000
namespace Lay
open PySem L2
def top (i : Nat) : Stmt := PySem.Challenge.pw_laytwice_k03_pieces_refused.main.body.getD i (.Pass ⟨0, 0, 0, 0⟩)
abbrev sBox : Stmt := top 16
abbrev sTake : Stmt := top 17
abbrev sPick : Stmt := top 18

/-! ### the box of draws -/
def Boxy (o : HO) : Prop := ∃ g s n : Int, o = .lst [.int g, .int s, .int n]
def BoxAt (H : Hp) (b : Addr) : Prop := ∃ o, H b = some o ∧ Boxy o
/-- all that is tracked beside b is as it was -/
def Kept (b : Addr) (H H' : Hp) : Prop := ∀ a o, a ≠ b → H a = some o → H' a = some o
theorem Kept.refl (b : Addr) (H : Hp) : Kept b H H := fun _ _ _ h => h
theorem Kept.trans {b : Addr} {H H1 H2 : Hp} (x : Kept b H H1) (y : Kept b H1 H2) : Kept b H H2 := fun a o n h => y a o n (x a o n h)
theorem Kept.of_same {b : Addr} {H H' : Hp} (x : Same H H') : Kept b H H' := fun a o _ h => x a o h
theorem Kept.box {b : Addr} {H : Hp} {o : HO} : Kept b H (upd H b o) := fun a u n h => by rw [upd_ne n]; exact h
theorem Kept.new {b a : Addr} {H : Hp} {o : HO} (h : H a = none) : Kept b H (upd H a o) := fun c u _ e => by
  rw [upd_ne (ne_of_none e h)]
  exact e
theorem Same.new {a : Addr} {H : Hp} {o : HO} (h : H a = none) : Same H (upd H a o) := fun c u e => by
  rw [upd_ne (ne_of_none e h)]
  exact e
theorem BoxAt.new {b a : Addr} {H : Hp} {o : HO} (x : BoxAt H b) (h : H a = none) : BoxAt (upd H a o) b := by
  obtain ⟨u, e, y⟩ := x
  exact ⟨u, Same.new h _ _ e, y⟩
theorem BoxAt.box {b : Addr} {H : Hp} {o : HO} (y : Boxy o) : BoxAt (upd H b o) b := ⟨o, upd_same, y⟩
theorem BoxAt.ne {b a : Addr} {H : Hp} (x : BoxAt H b) (h : H a = none) : a ≠ b := by
  obtain ⟨u, e, y⟩ := x
  exact (ne_of_none e h).symm

/-- what the draws want of the module's names -/
structure TxtD (mg : Str → Option Value) : Prop where
  int : mg "int" = none
  len : mg "len" = none
  abs : mg "abs" = none
  range : mg "range" = none

def spTake : Sp := fun vs H Q _ => ∃ (b : Addr) (m : Int), vs = [.ref b, .int m] ∧ BoxAt H b ∧ 0 < m ∧ m < 1073741824 ∧
  ∀ (r : Int) (o : HO), 0 ≤ r → r < m → Boxy o → Q (.int r) (upd H b o)
def spPick (K : PySem.W.Frag) : Sp := fun vs H Q _ => ∃ (b l : Addr) (xs : List V), vs = [.ref b, .ref l] ∧ BoxAt H b ∧ l ≠ b ∧ SqL K H l xs ∧ 0 < xs.length ∧ xs.length ≤ 1000 ∧
  ∀ (v : V) (o : HO), v ∈ xs → Boxy o → Q v (upd H b o)
theorem SqL.kept {K : PySem.W.Frag} {b a : Addr} {H H' : Hp} {xs : List V} (k : Kept b H H') (n : a ≠ b) (h : SqL K H a xs) : SqL K H' a xs := by
  rcases h with (h | ⟨o, h⟩) | h
  · exact .inl (.inl (k _ _ n h))
  · exact .inl (.inr ⟨o, k _ _ n h⟩)
  · exact .inr h
theorem SqT.kept {K : PySem.W.Frag} {b a : Addr} {H H' : Hp} {xs : List V} (k : Kept b H H') (n : a ≠ b) (h : SqT K H a xs) : SqT K H' a xs := by
  rcases h with (h | ⟨o, h⟩) | h
  · exact .inl (.inl (k _ _ n h))
  · exact .inl (.inr ⟨o, k _ _ n h⟩)
  · exact .inr h

theorem lt40 {m : Int} (h : m < 1073741824) : m < 2 ^ (40 : Int).toNat := by
  have e : (2 : Int) ^ (40 : Int).toNat = 1099511627776 := by decide
  omega
section
variable {P : Program} {w : World} {K : PySem.W.Frag} {mg : Str → Option Value} {base : Heap}
theorem scTake : FnScope ["_law_box_here", "_law_many", "_law_digit", "_law_raw", "_law_wide"] ["_law_box_here", "_law_many"] (defScope sTake) := ⟨rfl, rfl, rfl, by decide +kernel, rfl, by decide +kernel, by decide +kernel⟩
theorem ok_take {f : Addr} {fd : FuncData} (F : Fun K "_law_take" "_law_take" sTake f fd) (T : TxtD mg) : FnOk P w K mg base CX0 1 f fd ["_law_box_here", "_law_many"] spTake := by
  refine F.ok scTake (fun vs H Q E h => ?_) (fun cdv A outer s H vs Q E hr h => ?_)
  · obtain ⟨b, m, rfl, _⟩ := h
    rfl
  · obtain ⟨b, m, rfl, ⟨o, hb, g, s, n, rfl⟩, hm0, hm1, k⟩ := h
    refine ⟨_, (pss_cons (ps_if (pt_cmpR op_gt (pe_ix ix_list (pv 0) pe_int (fun _ _ => rfl)) pe_int (nomark _))
      (pss_cons (ps_set (i := 2) scTake.nd rfl (.inl rfl) (pe_op op_mod (pe_callTy call_int1 (by rfl) T.int (by decide +kernel) (pa_cons (pe_ix ix_list (pv 0) pe_int (fun _ _ => rfl)) pa_nil)) (pv 1)))
      (pss_cons (ps_asg (pe_op op_fdiv (pe_ix ix_list (pv 0) pe_int (fun _ _ => rfl)) (pv 1)) (pg_sub (pv 0) pe_int set_list))
      (pss_one (ps_ret (pv 2)))))
      pss_nil)
    (pss_cons (ps_asg (pe_op op_add (pe_ix ix_list (pv 0) pe_int (fun _ _ => rfl)) pe_int) (pg_sub (pv 0) pe_int set_list))
    (pss_cons (ps_set (i := 3) scTake.nd rfl (.inl rfl) (pe_op op_mod (pe_callTy call_int1 (by rfl) T.int (by decide +kernel) (pa_cons (pe_op op_mul (pe_op op_add (pe_ix ix_list (pv 0) pe_int (fun _ _ => rfl)) (pe_op op_mul pe_int (pe_ix ix_list (pv 0) pe_int (fun _ _ => rfl)))) pe_int) pa_nil)) pe_int))
    (pss_cons (ps_asg (pe_op op_add (pe_op op_mod (pe_callTy call_int1 (by rfl) T.int (by decide +kernel) (pa_cons (pe_op op_add (pe_op op_mul (pv 3) pe_int) pe_int) pa_nil)) pe_int) pe_int) (pg_sub (pv 0) pe_int set_list))
    (pss_cons (ps_if (pt_cmpR op_lt (pv 1) (pe_op op_pow pe_int pe_int) (nomark _))
      (pss_one (ps_ret (pe_op op_mod (pe_callTy call_int1 (by rfl) T.int (by decide +kernel) (pa_cons (pe_op op_fdiv (pe_op op_add (pe_op op_mul (pv 3) pe_int) (pe_ix ix_list (pv 0) pe_int (fun _ _ => rfl))) pe_int) pa_nil)) (pv 1))))
      pss_nil)
    pss_never))))), ?_⟩
    refine ⟨_, rfl, b, _, _, _, rfl, rfl, SqL.of hb, rfl, _, _, rfl, rfl, _, rfl, ?_⟩
    refine ite2 (fun h0 => ?_) (fun h0 => ?_)
    · refine ⟨_, rfl, b, _, _, _, rfl, rfl, SqL.of hb, rfl, .inl ⟨_, rfl, _, rfl, _, _, rfl, rfl, hm0, ?_⟩⟩
      refine ⟨_, rfl, b, _, _, _, rfl, rfl, SqL.of hb, rfl, _, rfl, _, _, rfl, rfl, ⟨hm0, hm1⟩, _, rfl, b, _, _, 0, rfl, rfl, hb, rfl, ?_⟩
      refine ⟨_, rfl, k _ _ (Int.emod_nonneg _ (by omega)) (Int.emod_lt_of_pos _ hm0) ⟨_, _, _, rfl⟩⟩
    · refine ⟨_, rfl, b, _, _, _, rfl, rfl, SqL.of hb, rfl, _, _, rfl, rfl, _, rfl, b, _, _, 2, rfl, rfl, hb, rfl, ?_⟩
      refine ⟨_, rfl, b, _, _, _, rfl, rfl, SqL.of upd_same, rfl, _, rfl, b, _, _, _, rfl, rfl, SqL.of upd_same, rfl, _, _, rfl, rfl, .inl ⟨by decide, by decide⟩, _, _, rfl, rfl, _, _, rfl, rfl, .inr ⟨by decide, by decide⟩, .inl ⟨_, rfl, _, _, rfl, rfl, (by show (0 : Int) < 2147483647; decide), ?_⟩⟩
      refine ⟨_, rfl, _, _, rfl, rfl, .inr ⟨by decide, by decide⟩, _, _, rfl, rfl, .inl ⟨_, rfl, _, _, rfl, rfl, (by show (0 : Int) < 2147483629; decide), _, _, rfl, rfl, _, rfl, b, _, _, 1, rfl, rfl, upd_same, rfl, ?_⟩⟩
      rw [upd_upd]
      refine ⟨_, rfl, _, _, rfl, rfl, ⟨by decide, by decide, by decide⟩, _, _, rfl, rfl, _, rfl, ?_⟩
      refine ite2 (fun _ => ?_) (fun h1 => absurd (decide_eq_true (lt40 hm1)) h1)
      refine ⟨_, rfl, _, _, rfl, rfl, .inr ⟨by decide, by decide⟩, _, rfl, b, _, _, _, rfl, rfl, SqL.of upd_same, rfl, _, _, rfl, rfl, _, _, rfl, rfl, ⟨by decide, by decide⟩, .inl ⟨_, rfl, _, rfl, _, _, rfl, rfl, hm0, ?_⟩⟩
      exact k _ _ (Int.emod_nonneg _ (by omega)) (Int.emod_lt_of_pos _ hm0) ⟨_, _, _, rfl⟩

theorem scPick : FnScope ["_law_box_here", "_law_items"] ["_law_box_here", "_law_items"] (defScope sPick) := ⟨rfl, rfl, rfl, by decide +kernel, rfl, by decide +kernel, by decide +kernel⟩
theorem ok_pick {f fT : Addr} {fd fdT : FuncData} (F : Fun K "_law_pick" "_law_pick" sPick f fd) (T : TxtD mg) (FT : Fun K "_law_take" "_law_take" sTake fT fdT) (bT : Binds K fdT ["_law_box_here", "_law_many"] []) (gT : mg "_law_take" = some (.ref fT)) :
    FnOk P w K mg base CX0 2 f fd ["_law_box_here", "_law_items"] (spPick K) := by
  have GT : FnOk P w K mg base CX0 1 fT fdT ["_law_box_here", "_law_many"] spTake := ok_take FT T
  refine F.ok scPick (fun vs H Q E h => ?_) (fun cdv A outer s H vs Q E hr h => ?_)
  · obtain ⟨b, l, xs, rfl, _⟩ := h
    rfl
  · obtain ⟨b, l, xs, rfl, hb, hl, hs, h0, h1, k⟩ := h
    refine ⟨_, (pss_one (ps_ret (pe_ix ix_list (pv 1) (pe_call GT hr (by rfl) gT FT.kp bT .nil pass0 (pa_cons (pv 0) (pa_cons (pe_callB call_len_seq (by rfl) T.len (by decide +kernel) (pa_cons (pv 1) pa_nil)) pa_nil))) (fun _ _ => rfl)))), ?_⟩
    refine ⟨_, rfl, _, rfl, _, rfl, l, xs, rfl, .inl hs, b, _, rfl, hb, by omega, by omega, fun r o r0 r1 ho => ?_⟩
    have hr' : r.toNat < xs.length := by omega
    have er : r = ((r.toNat : Nat) : Int) := by omega
    exact ⟨l, xs, r, xs[r.toNat], rfl, rfl, SqL.kept Kept.box hl hs, at_of er (by simp [hr']), k _ _ (List.getElem_mem hr') ho⟩

def spBox (K : PySem.W.Frag) : Sp := fun vs H Q _ => ∃ (a : Addr) (ns : List Int) (i j : Int), vs = [.ref a, .int i, .int j] ∧ SqL K H a (ns.map V.int) ∧ 0 ≤ i ∧ i ≤ 1000 ∧ 0 ≤ j ∧ j ≤ 1000 ∧ ns.length ≤ 1000 ∧
  ∀ (p : Addr) (H' : Hp), Same H H' → H p = none → BoxAt H' p → Q (.ref p) H'
theorem scBox : FnScope ["_law_script", "_law_k", "_law_own", "_law_cell", "_law_seed"] ["_law_script", "_law_k", "_law_own"] (defScope sBox) := ⟨rfl, rfl, rfl, by decide +kernel, rfl, by decide +kernel, by decide +kernel⟩
theorem ok_box {f : Addr} {fd : FuncData} (F : Fun K "_law_box" "_law_box" sBox f fd) (T : TxtD mg) : FnOk P w K mg base CX0 1 f fd ["_law_script", "_law_k", "_law_own"] (spBox K) := by
  refine F.ok scBox (fun vs H Q E h => ?_) (fun cdv A outer s H vs Q E hr h => ?_)
  · obtain ⟨a, ns, i, j, rfl, _⟩ := h
    rfl
  · obtain ⟨a, ns, i, j, rfl, hs, i0, i1, j0, j1, hn, k⟩ := h
    refine ⟨_, (pss_cons (ps_set (i := 3) scBox.nd rfl (.inl rfl) (pe_op op_add (pe_op op_add (pe_op op_mul pe_int (pv 1)) (pe_op op_mul pe_int (pv 2))) pe_int))
    (C8.pss_cut (ps_if (pt_cmpR op_lt (pv 1) (pe_callB call_len_seq (by rfl) T.len (by decide +kernel) (pa_cons (pv 0) pa_nil)) (nomark _))
      (pss_one (ps_set (i := 3) scBox.nd rfl (.inl rfl) (pe_callB call_abs (by rfl) T.abs (by decide +kernel) (pa_cons (pe_ix ix_list (pv 0) (pv 1) (fun _ _ => rfl)) pa_nil))))
      (pss_one (ps_if (pt_cmpR op_gt (pe_callB call_len_seq (by rfl) T.len (by decide +kernel) (pa_cons (pv 0) pa_nil)) pe_int (nomark _))
        (pss_one (ps_set (i := 3) scBox.nd rfl (.inl rfl) (pe_op op_add (pv 3) (pe_op op_mul (pe_op op_mod (pe_callTy call_int1 (by rfl) T.int (by decide +kernel) (pa_cons (pe_callB call_abs (by rfl) T.abs (by decide +kernel) (pa_cons (pe_ix ix_list (pv 0) (pe_op op_mod (pe_callTy call_int1 (by rfl) T.int (by decide +kernel) (pa_cons (pv 1) pa_nil)) (pe_callB call_len_seq (by rfl) T.len (by decide +kernel) (pa_cons (pv 0) pa_nil))) (fun _ _ => rfl)) pa_nil)) pa_nil)) pe_int) pe_int))))
        pss_nil)))
    (pss_cons (ps_set (i := 4) scBox.nd rfl (.inl rfl) (pe_op op_add (pe_op op_mod (pe_callTy call_int1 (by rfl) T.int (by decide +kernel) (pa_cons (pe_op op_add (pe_op op_mul (pe_op op_mod (pe_callTy call_int1 (by rfl) T.int (by decide +kernel) (pa_cons (pv 3) pa_nil)) pe_int) pe_int) (pe_op op_mul pe_int (pe_op op_add (pv 1) (pe_op op_mul pe_int (pv 2))))) pa_nil)) pe_int) pe_int))
    (pss_one (ps_ret (pe_lst (pa_cons (pe_ix ix_list (pe_lst (pa_cons pe_int (pa_cons (pv 3) pa_nil))) (pe_callTy call_int1 (by rfl) T.int (by decide +kernel) (pa_cons (pe_cmpR op_ge (pv 3) (pe_op op_pow pe_int pe_int) (nomark _)) pa_nil)) (fun _ _ => rfl)) (pa_cons (pv 4) (pa_cons pe_int pa_nil))))))))), ?_⟩
    refine ⟨_, rfl, _, _, rfl, rfl, .inl ⟨by decide, by decide⟩, _, rfl, _, _, rfl, rfl, .inl ⟨by decide, by decide⟩, _, _, rfl, rfl, _, _, rfl, rfl, ?_⟩
    refine ⟨fun σ' H' => H' = H ∧ ∃ c : Int, σ' = [some (.ref a), some (.int i), some (.int j), some (.int c), none], ?_, ?_⟩
    · have hl : (ns.map V.int).length = ns.length := List.length_map ..
      refine ⟨_, rfl, _, rfl, a, _, rfl, .inl hs, _, _, rfl, rfl, _, rfl, ?_⟩
      refine ite2 (fun h => ?_) (fun h => ?_)
      · have hi : i < (ns.map V.int).length := of_decide_eq_true h
        obtain ⟨z, hz⟩ : ∃ z, (ns.map V.int)[i.toNat]? = some (V.int z) := by
          refine ⟨ns[i.toNat]'(by omega), ?_⟩
          rw [List.getElem?_map, List.getElem?_eq_getElem (by omega)]
          rfl
        exact ⟨_, rfl, _, rfl, a, _, _, _, rfl, rfl, hs, at_of (by omega) hz, _, rfl, rfl, _, rfl⟩
      · refine ⟨_, rfl, a, _, rfl, .inl hs, _, _, rfl, rfl, _, rfl, ?_⟩
        refine ite2 (fun h2 => ?_) (fun _ => ⟨rfl, _, rfl⟩)
        have h2' : (0 : Int) < (ns.map V.int).length := of_decide_eq_true h2
        have m0 := Int.emod_nonneg i (show ((ns.map V.int).length : Int) ≠ 0 by omega)
        have m1 := Int.emod_lt_of_pos i h2'
        obtain ⟨z, hz⟩ : ∃ z, (ns.map V.int)[(i % ((ns.map V.int).length : Int)).toNat]? = some (V.int z) := by
          refine ⟨ns[(i % ((ns.map V.int).length : Int)).toNat]'(by omega), ?_⟩
          rw [List.getElem?_map, List.getElem?_eq_getElem (by omega)]
          rfl
        refine ⟨_, rfl, _, rfl, _, rfl, .inl ⟨_, rfl, _, rfl, a, _, rfl, .inl hs, _, _, rfl, rfl, h2', a, _, _, _, rfl, rfl, hs, at_of (by omega) hz, _, rfl, .inl ⟨_, rfl, _, _, rfl, rfl, (by show (0 : Int) < 2147483629; decide), _, _, rfl, rfl, .inr ⟨by decide, by decide⟩, _, _, rfl, rfl, rfl, _, rfl⟩⟩⟩
    · rintro σ' H' ⟨rfl, c, rfl⟩
      refine ⟨_, rfl, .inl ⟨_, rfl, _, _, rfl, rfl, (by show (0 : Int) < 2147483629; decide), _, _, rfl, rfl, .inr ⟨by decide, by decide⟩, _, rfl, _, rfl, _, _, rfl, rfl, .inl ⟨by decide, by decide⟩, _, _, rfl, rfl, _, _, rfl, rfl, .inl ⟨by decide, by decide⟩, _, _, rfl, rfl, .inl ⟨_, rfl, _, _, rfl, rfl, (by show (0 : Int) < 2147483629; decide), _, _, rfl, rfl, ?_⟩⟩⟩
      refine ⟨_, rfl, (by show 2 ≤ sizeLine; decide), fun l hl => ⟨_, rfl, _, _, rfl, rfl, ⟨by decide, by decide, by decide⟩, _, _, rfl, rfl, .inr ⟨_, rfl, l, _, _, if (decide ((10 : Int) ^ (18 : Int).toNat ≤ c)) = true then V.int c else V.int 0, rfl, rfl, SqL.of upd_same, ?_, ?_⟩⟩⟩
      · cases decide ((10 : Int) ^ (18 : Int).toNat ≤ c) <;> rfl
      · refine ⟨_, rfl, (by show 3 ≤ sizeLine; decide), fun p hp => ?_⟩
        refine k _ _ ((Same.new hl).trans (Same.new hp)) ((Same.new hl).free hp) ⟨_, upd_same, ?_⟩
        by_cases hc : (decide ((10 : Int) ^ (18 : Int).toNat ≤ c)) = true
        · rw [if_pos hc]
          exact ⟨_, _, _, rfl⟩
        · rw [if_neg hc]
          exact ⟨_, _, _, rfl⟩
end
end Lay
set_option Elab.async false
set_option linter.all false
set_option maxRecDepth 100000
set_option maxHeartbeats 4000000
namespace Lay
open PySem L2
/-- the names of the module that must be Python's own -/
structure TxtK (mg : Str → Option Value) : Prop where
  int : mg "int" = none
  bool : mg "bool" = none
  str : mg "str" = none
  list : mg "list" = none
  tuple : mg "tuple" = none
  isinstance : mg "isinstance" = none
  len : mg "len" = none
  all : mg "all" = none
  enumerate : mg "enumerate" = none
theorem TyOf.same {K : PySem.W.Frag} {H H' : Hp} {x : V} {t : Value} (s : Same H H') (h : TyOf K H x t) : TyOf K H' x t := by
  cases h with
  | non => exact .non
  | bl b => exact .bl b
  | int i => exact .int i
  | str z => exact .str z
  | flt z => exact .flt z
  | lst e => exact .lst (s _ _ e)
  | frz e => exact .frz (s _ _ e)
  | tup e => exact .tup (s _ _ e)
  | dK e => exact .dK (s _ _ e)
  | dT e => exact .dT (s _ _ e)
  | ins e cl ha hn htk hm => exact .ins (s _ _ e) cl ha hn htk hm
theorem TyX.same {K : PySem.W.Frag} {H H' : Hp} {x : V} {t : Value} (s : Same H H') (h : TyX K H x t) : TyX K H' x t := by
  cases h with
  | base h => exact .base (TyOf.same s h)
  | byt b => exact .byt b
  | set e => exact .set (s _ _ e)
  | kList e c => exact .kList e c
  | kTuple e c => exact .kTuple e c
  | kDict e c => exact .kDict e c
  | fTuple e => exact .fTuple (s _ _ e)
  | fDict e => exact .fDict (s _ _ e)
/-- isinstance of the built-in class n -/
def IsT (K : PySem.W.Frag) (H : Hp) (x : V) (n : String) (b : Bool) : Prop := ∃ t, TyX K H x t ∧ PySem.W.kitOne K t (.type n) = some b
theorem IsT.same {K : PySem.W.Frag} {H H' : Hp} {x : V} {n : String} {b : Bool} (s : Same H H') (h : IsT K H x n b) : IsT K H' x n b := by
  obtain ⟨t, h1, h2⟩ := h
  exact ⟨t, TyX.same s h1, h2⟩
theorem isT_str {K : PySem.W.Frag} {H : Hp} {z : Str} : IsT K H (.str z) "str" true := ⟨_, .base (.str z), kit_ty (by decide +kernel)⟩
theorem isT_bl {K : PySem.W.Frag} {H : Hp} {z : Bool} : IsT K H (.bl z) "bool" true := ⟨_, .base (.bl z), kit_ty (by decide +kernel)⟩
theorem isT_int {K : PySem.W.Frag} {H : Hp} {z : Int} : IsT K H (.int z) "int" true ∧ IsT K H (.int z) "bool" false := ⟨⟨_, .base (.int z), kit_ty (by decide +kernel)⟩, ⟨_, .base (.int z), kit_ty (by decide +kernel)⟩⟩
/-- is it a list or a tuple -/
def IsSeq (K : PySem.W.Frag) (H : Hp) (x : V) (b : Bool) : Prop := ∃ t, TyX K H x t ∧ PySem.W.kitAny K t [.type "list", .type "tuple"] = some b
theorem IsSeq.same {K : PySem.W.Frag} {H H' : Hp} {x : V} {b : Bool} (s : Same H H') (h : IsSeq K H x b) : IsSeq K H' x b := by
  obtain ⟨t, h1, h2⟩ := h
  exact ⟨t, TyX.same s h1, h2⟩
theorem kitAny_lt {K : PySem.W.Frag} {t : Value} {b c : Bool} (h1 : PySem.W.kitOne K t (.type "list") = some b) (h2 : PySem.W.kitOne K t (.type "tuple") = some c) : PySem.W.kitAny K t [.type "list", .type "tuple"] = some (b || c) := by
  refine kitAny_cons h1 (fun hb => ?_) (fun hb => by rw [hb]; rfl)
  subst hb
  exact kitAny_cons h2 (fun hc => by subst hc; exact kitAny_nil) (fun hc => by rw [hc]; rfl)
/-- what is a list or a tuple of xs -/
def SqX (K : PySem.W.Frag) (H : Hp) (a : Addr) (xs : List V) : Prop := H a = some (.lst xs) ∨ H a = some (.tup xs)
theorem SqX.same {K : PySem.W.Frag} {H H' : Hp} {a : Addr} {xs : List V} (s : Same H H') (h : SqX K H a xs) : SqX K H' a xs := h.imp (s _ _) (s _ _)
theorem SqX.seq {K : PySem.W.Frag} {H : Hp} {a : Addr} {xs : List V} (h : SqX K H a xs) : IsSeq K H (.ref a) true := by
  rcases h with h | h
  · exact ⟨_, .base (.lst h), kitAny_lt (b := true) (c := false) (kit_ty (by decide +kernel)) (kit_ty (by decide +kernel))⟩
  · exact ⟨_, .base (.tup h), kitAny_lt (b := false) (c := true) (kit_ty (by decide +kernel)) (kit_ty (by decide +kernel))⟩
def nameB (z : Str) : Bool := decide (z.length ≤ 6) && (Txt.isascii z && (Txt.isalpha z && Txt.islower z))
theorem nameB_len {z : Str} (h : nameB z = true) : z.length ≤ 6 := of_decide_eq_true (Bool.and_eq_true_iff.mp h).1
/-- whether x is a name -/
def NmB (K : PySem.W.Frag) (H : Hp) (x : V) (b : Bool) : Prop := (∃ z, x = .str z ∧ z.length ≤ sizeLine ∧ b = nameB z) ∨ (b = false ∧ IsT K H x "str" false)
theorem NmB.same {K : PySem.W.Frag} {H H' : Hp} {x : V} {b : Bool} (s : Same H H') (h : NmB K H x b) : NmB K H' x b := h.imp id fun ⟨e, t⟩ => ⟨e, t.same s⟩
def remarkB (z : Str) : Bool := decide (V.str z = V.str "") || nameB z

def spInt (K : PySem.W.Frag) : Sp := fun vs H Q _ => ∃ x b c, vs = [x] ∧ IsT K H x "int" b ∧ IsT K H x "bool" c ∧ Q (.bl (b && !c)) H
def spNum (K : PySem.W.Frag) : Sp := fun vs H Q _ => ∃ (x : V) (m : Int), vs = [x, .int m] ∧ ((∃ i, x = .int i ∧ Q (.bl (decide (0 ≤ i) && decide (i < m))) H) ∨ (∃ b c, IsT K H x "int" b ∧ IsT K H x "bool" c ∧ (b && !c) = false ∧ Q (.bl false) H))
def spSeq (K : PySem.W.Frag) : Sp := fun vs H Q _ => ∃ x b, vs = [x] ∧ IsSeq K H x b ∧ ∀ H', Same H H' → Q (.bl b) H'
def spName (K : PySem.W.Frag) : Sp := fun vs H Q _ => ∃ x b, vs = [x] ∧ NmB K H x b ∧ Q (.bl b) H
/-- the items' answers -/
def NmBs (K : PySem.W.Frag) (H : Hp) (xs : List V) (bs : List Bool) : Prop := bs.length = xs.length ∧ ∀ (i : Nat) (x : V) (b : Bool), xs[i]? = some x → bs[i]? = some b → NmB K H x b
def spNames (K : PySem.W.Frag) : Sp := fun vs H Q _ => ∃ x, vs = [x] ∧ ((IsSeq K H x false ∧ ∀ H', Same H H' → Q (.bl false) H') ∨
  (∃ a xs bs, x = .ref a ∧ SqX K H a xs ∧ xs.length ≤ 1000 ∧ NmBs K H xs bs ∧ ∀ H', Same H H' → Q (.bl (decide (0 < xs.length) && bs.all id)) H'))
def spReq : Sp := fun vs H Q _ => ∃ v, vs = [.bl true, v] ∧ Q .non H
def spRem (K : PySem.W.Frag) : Sp := fun vs H Q _ => ∃ x, vs = [x] ∧ ((∃ z, x = .str z ∧ z.length ≤ sizeLine ∧ Q (.bl (remarkB z)) H) ∨ (IsT K H x "str" false ∧ Q (.bl false) H))
abbrev sInt : Stmt := top 6
abbrev sNum : Stmt := top 7
abbrev sSeq : Stmt := top 8
abbrev sName : Stmt := top 9
abbrev sNames : Stmt := top 10
abbrev sReq : Stmt := top 12
abbrev sRem : Stmt := top 13
section
variable {P : Program} {w : World} {K : PySem.W.Frag} {mg : Str → Option Value} {base : Heap}
theorem scInt : FnScope ["value"] ["value"] (defScope sInt) := ⟨rfl, rfl, rfl, by decide +kernel, rfl, by decide +kernel, by decide +kernel⟩
theorem ok_int {f : Addr} {fd : FuncData} (F : Fun K "is_integer" "is_integer" sInt f fd) (T : TxtK mg) : FnOk P w K mg base CX0 1 f fd ["value"] (spInt K) := by
  refine F.ok scInt (fun vs H Q E h => ?_) (fun cdv A outer s H vs Q E hr h => ?_)
  · obtain ⟨x, b, c, rfl, _⟩ := h
    rfl
  · obtain ⟨x, b, c, rfl, ⟨t, ty, e⟩, ⟨t', ty', e'⟩, k⟩ := h
    refine ⟨_, (pss_one (ps_ret (pe_and (pe_callB call_isi (by rfl) T.isinstance (by decide +kernel) (pa_cons (pv 0) (pa_cons (pe_bltn (v := .ty "int") (by rfl) T.int (by decide +kernel) rfl) pa_nil))) (pe_one (pe_not (pe_callB call_isi (by rfl) T.isinstance (by decide +kernel) (pa_cons (pv 0) (pa_cons (pe_bltn (v := .ty "bool") (by rfl) T.bool (by decide +kernel) rfl) pa_nil)))))))), ?_⟩
    refine ⟨_, rfl, _, _, _, _, _, rfl, .ty _, ty, e, _, rfl, ?_⟩
    refine ite2 (fun hb => ?_) (fun hb => ?_)
    · subst hb
      exact ⟨_, rfl, _, _, _, _, _, rfl, .ty _, ty', e', _, rfl, k⟩
    · have : b = false := by simpa using hb
      subst this
      exact k
theorem scNum : FnScope ["value", "many"] ["value", "many"] (defScope sNum) := ⟨rfl, rfl, rfl, by decide +kernel, rfl, by decide +kernel, by decide +kernel⟩
theorem ok_num {f fI : Addr} {fd fdI : FuncData} (F : Fun K "is_number" "is_number" sNum f fd) (GI : FnOk P w K mg base CX0 1 fI fdI ["value"] (spInt K)) (gI : mg "is_integer" = some (.ref fI)) (kI : PySem.W.keepIn K (.ref fI) = true) (bI : Binds K fdI ["value"] []) :
    FnOk P w K mg base CX0 2 f fd ["value", "many"] (spNum K) := by
  refine F.ok scNum (fun vs H Q E h => ?_) (fun cdv A outer s H vs Q E hr h => ?_)
  · obtain ⟨x, m, rfl, _⟩ := h
    rfl
  · obtain ⟨x, m, rfl, h⟩ := h
    refine ⟨_, (pss_one (ps_ret (pe_and (pe_call GI hr (by rfl) gI kI bI .nil pass0 (pa_cons (pv 0) pa_nil)) (pe_one (pe_chain op_le op_lt pe_int (pv 0) (pv 1)))))), ?_⟩
    rcases h with ⟨i, rfl, k⟩ | ⟨b, c, h1, h2, h3, k⟩
    · refine ⟨_, rfl, _, true, false, rfl, isT_int.1, isT_int.2, _, rfl, ?_⟩
      refine ⟨_, rfl, _, _, rfl, rfl, _, rfl, ?_⟩
      refine ite2 (fun hb => ?_) (fun hb => ?_)
      · refine ⟨_, rfl, _, _, rfl, rfl, ?_⟩
        rw [hb, Bool.true_and] at k
        exact k
      · have : decide (0 ≤ i) = false := by simpa using hb
        rw [this, Bool.false_and] at k
        exact k
    · refine ⟨_, rfl, _, b, c, rfl, h1, h2, _, rfl, ?_⟩
      rw [h3]
      exact k
theorem scSeq : FnScope ["value"] ["value"] (defScope sSeq) := ⟨rfl, rfl, rfl, by decide +kernel, rfl, by decide +kernel, by decide +kernel⟩
theorem ok_seq {f : Addr} {fd : FuncData} (F : Fun K "is_sequence" "is_sequence" sSeq f fd) (T : TxtK mg) : FnOk P w K mg base CX0 1 f fd ["value"] (spSeq K) := by
  refine F.ok scSeq (fun vs H Q E h => ?_) (fun cdv A outer s H vs Q E hr h => ?_)
  · obtain ⟨x, b, rfl, _⟩ := h
    rfl
  · obtain ⟨x, b, rfl, ⟨t, ty, e⟩, k⟩ := h
    refine ⟨_, (pss_one (ps_ret (pe_callB call_isiT (by rfl) T.isinstance (by decide +kernel) (pa_cons (pv 0) (pa_cons (pe_tup (pa_cons (pe_bltn (v := .ty "list") (by rfl) T.list (by decide +kernel) rfl) (pa_cons (pe_bltn (v := .ty "tuple") (by rfl) T.tuple (by decide +kernel) rfl) pa_nil))) pa_nil))))), ?_⟩
    refine ⟨_, rfl, (by show 2 ≤ sizeLine; decide), fun p hp => ?_⟩
    exact ⟨x, p, _, t, _, b, rfl, upd_same, .cons (.ty _) (.cons (.ty _) .nil), TyX.same (Same.new hp) ty, e, k _ (Same.new hp)⟩
theorem scName : FnScope ["value"] ["value"] (defScope sName) := ⟨rfl, rfl, rfl, by decide +kernel, rfl, by decide +kernel, by decide +kernel⟩
theorem ok_name {f : Addr} {fd : FuncData} (F : Fun K "is_name" "is_name" sName f fd) (T : TxtK mg) : FnOk P w K mg base CX0 1 f fd ["value"] (spName K) := by
  refine F.ok scName (fun vs H Q E h => ?_) (fun cdv A outer s H vs Q E hr h => ?_)
  · obtain ⟨x, b, rfl, _⟩ := h
    rfl
  · obtain ⟨x, b, rfl, h, k⟩ := h
    refine ⟨_, (pss_cons (ps_if (pt_not (pt_val (pe_callB call_isi (by rfl) T.isinstance (by decide +kernel) (pa_cons (pv 0) (pa_cons (pe_bltn (v := .ty "str") (by rfl) T.str (by decide +kernel) rfl) pa_nil)))))
      (pss_one (ps_ret pe_bl))
      pss_nil)
    (pss_one (ps_ret (pe_and (pe_cmpR op_le (pe_callB call_len_str (by rfl) T.len PySem.boot_len (pa_cons (pv 0) pa_nil)) pe_int (nomark _)) (pe_and (pe_m0 PySem.F.slot_str_isascii PySem.F.type_str_isascii mt_isascii (pv 0)) (pe_and (pe_m0 PySem.F.slot_str_isalpha PySem.F.type_str_isalpha mt_isalpha (pv 0)) (pe_one (pe_m0 PySem.F.slot_str_islower PySem.F.type_str_islower mt_islower (pv 0))))))))), ?_⟩
    rcases h with ⟨z, rfl, hz, rfl⟩ | ⟨rfl, t, ty, e⟩
    · obtain ⟨t, ty, e⟩ := isT_str (K := K) (H := H) (z := z)
      refine ⟨_, rfl, _, _, _, _, _, rfl, .ty _, ty, e, _, rfl, ?_⟩
      refine ⟨_, rfl, _, rfl, hz, _, _, rfl, rfl, _, rfl, ?_⟩
      have e0 : decide (((z.length : Nat) : Int) ≤ 6) = decide (z.length ≤ 6) := by
        by_cases q : z.length ≤ 6
        · rw [decide_eq_true q, decide_eq_true (by omega)]
        · rw [decide_eq_false q, decide_eq_false (by omega)]
      unfold nameB at k
      refine ite2 (fun h1 => ?_) (fun h1 => ?_)
      · rw [e0] at h1
        rw [h1, Bool.true_and] at k
        refine ⟨_, rfl, ⟨_, rfl⟩, _, rfl, rfl, trivial, _, rfl, ?_⟩
        refine ite2 (fun h2 => ?_) (fun h2 => ?_)
        · rw [h2, Bool.true_and] at k
          refine ⟨_, rfl, ⟨_, rfl⟩, _, rfl, rfl, trivial, _, rfl, ?_⟩
          refine ite2 (fun h3 => ?_) (fun h3 => ?_)
          · rw [h3, Bool.true_and] at k
            exact ⟨_, rfl, ⟨_, rfl⟩, _, rfl, rfl, trivial, k⟩
          · have : Txt.isalpha z = false := by simpa using h3
            rw [this, Bool.false_and] at k
            exact k
        · have : Txt.isascii z = false := by simpa using h2
          rw [this, Bool.false_and] at k
          exact k
      · rw [e0] at h1
        have : decide (z.length ≤ 6) = false := by simpa using h1
        rw [this, Bool.false_and] at k
        exact k
    · exact ⟨_, rfl, _, _, _, _, _, rfl, .ty _, ty, e, _, rfl, k⟩
theorem scNames : FnScope ["value", "one"] ["value"] (defScope sNames) := ⟨rfl, rfl, rfl, by decide +kernel, rfl, by decide +kernel, by decide +kernel⟩
theorem ok_names {f fS fN : Addr} {fd fdS fdN : FuncData} (F : Fun K "are_names" "are_names" sNames f fd) (T : TxtK mg) (GS : FnOk P w K mg base CX0 1 fS fdS ["value"] (spSeq K)) (gS : mg "is_sequence" = some (.ref fS)) (kS : PySem.W.keepIn K (.ref fS) = true) (bS : Binds K fdS ["value"] [])
    (GN : FnOk P w K mg base CX0 1 fN fdN ["value"] (spName K)) (gN : mg "is_name" = some (.ref fN)) (kN : PySem.W.keepIn K (.ref fN) = true) (bN : Binds K fdN ["value"] []) : FnOk P w K mg base CX0 2 f fd ["value"] (spNames K) := by
  refine F.ok scNames (fun vs H Q E h => ?_) (fun cdv A outer s H vs Q E hr h => ?_)
  · obtain ⟨x, rfl, _⟩ := h
    rfl
  · obtain ⟨x, rfl, h⟩ := h
    rcases h with ⟨h, k⟩ | ⟨a, xs, bs, rfl, hx, hl, hb, k⟩
    · refine ⟨_, (pss_cons (ps_if (pt_not (pt_val (pe_call GS hr (by rfl) gS kS bS .nil pass0 (pa_cons (pv 0) pa_nil)))) (pss_one (ps_ret pe_bl)) pss_nil) pss_never), ?_⟩
      exact ⟨_, rfl, _, false, rfl, h, fun H' s => ⟨_, rfl, k H' s⟩⟩
    · have fin : ∀ H1 l, Same H H1 → H1 l = some (.lst (bs.map V.bl)) → (Q (.bl (bs.all id)) H1 ↔ Q (.bl (bs.all id)) H1) := fun _ _ _ _ => Iff.rfl
      have turn : ∀ {G : Hp} {D : Addr} {i : Nat} {x : V}, Same H G → xs[i]? = some x → ∃ b, bs[i]? = some b ∧ NmB K G x b := fun {G D i x} s hi => by
        have li := (List.getElem?_eq_some_iff.mp hi).1
        rw [← hb.1] at li
        exact ⟨bs[i], by simp [li], (hb.2 i x _ hi (by simp [li])).same s⟩
      rcases hx with hx | hx
      · refine ⟨_, (pss_cons (ps_if (pt_not (pt_val (pe_call GS hr (by rfl) gS kS bS .nil pass0 (pa_cons (pv 0) pa_nil)))) (pss_one (ps_ret pe_bl)) pss_nil)
          (pss_one (ps_ret (pe_and (pe_cmpR op_gt (pe_callB call_len_seq (by rfl) T.len PySem.boot_len (pa_cons (pv 0) pa_nil)) pe_int (nomark _)) (pe_one (pe_callB (cr_all rfl) (by rfl) T.all (by decide +kernel) (pa_cons
            (pe_lc (own := [("one", 1)]) (g := gName 1) (tt := tYes) (by rfl) scNames.nd (pi_list (pv 0)) (blkOk_by (N := ["value", "one"]) (sc := defScope sNames) (by decide +kernel)) (fun _ _ _ _ _ => pg_name (i := 1) scNames.nd rfl (Or.inl rfl)) (fun _ _ _ _ _ => pts_nil) (fun _ _ _ _ _ => pe_call GN hr (by rfl) gN kN bN .nil pass0 (pa_cons (pv 1) pa_nil))) pa_nil))))))), ?_⟩
        refine ⟨_, rfl, _, true, rfl, SqX.seq (.inl hx), fun H1 s1 => ⟨_, rfl, ?_⟩⟩
        refine ⟨_, rfl, a, xs, rfl, .inl (SqL.of (s1 _ _ hx)), _, _, rfl, rfl, _, rfl, ?_⟩
        have e0 : decide (((xs.length : Nat) : Int) > 0) = decide (0 < xs.length) := by
          by_cases q : 0 < xs.length
          · rw [decide_eq_true q, decide_eq_true (by omega)]
          · rw [decide_eq_false q, decide_eq_false (by omega)]
        refine ite2 (fun h1 => ?_) (fun h1 => ?_)
        · have h2 : decide (0 < xs.length) = true := by rw [← e0]; exact h1
          rw [h2] at k
          refine ⟨_, rfl, a, rfl, ⟨_, SqL.of (s1 _ _ hx)⟩, fun D nD => lc_list (K := K) (a := a) (xs := xs) (fun i G => Same H1 G ∧ G D = some (.lst ((bs.take i).map V.bl))) ⟨Same.new nD, upd_same⟩ (fun i G _ q => SqL.of (q.1 _ _ (s1 _ _ hx))) ?_ ?_⟩
          · rintro i x G hi ⟨sG, hD⟩
            obtain ⟨b, eb, nb⟩ := turn (D := D) (s1.trans sG) hi
            refine ⟨rfl, _, rfl, x, b, rfl, nb, _, hD, ?_, fun c u e => by rw [upd_ne (ne_of_none e nD)]; exact sG _ _ e, ?_⟩
            · rw [List.length_map, List.length_take]
              have : i < xs.length := (List.getElem?_eq_some_iff.mp hi).1
              exact small1000 (by omega)
            · rw [upd_same, List.take_succ, eb, List.map_append]
              rfl
          · rintro G ⟨sG, hD⟩
            refine ⟨D, bs, rfl, ?_, ?_⟩
            · rw [← hb.1, List.take_length] at hD
              exact SqL.of hD
            · exact k G (s1.trans sG)
        · have h2 : decide (0 < xs.length) = false := by rw [← e0]; simpa using h1
          rw [h2] at k
          exact k H1 s1
      · refine ⟨_, (pss_cons (ps_if (pt_not (pt_val (pe_call GS hr (by rfl) gS kS bS .nil pass0 (pa_cons (pv 0) pa_nil)))) (pss_one (ps_ret pe_bl)) pss_nil)
          (pss_one (ps_ret (pe_and (pe_cmpR op_gt (pe_callB call_len_seq (by rfl) T.len PySem.boot_len (pa_cons (pv 0) pa_nil)) pe_int (nomark _)) (pe_one (pe_callB (cr_all rfl) (by rfl) T.all (by decide +kernel) (pa_cons
            (pe_lc (own := [("one", 1)]) (g := gName 1) (tt := tYes) (by rfl) scNames.nd (pi_tup (pv 0)) (blkOk_by (N := ["value", "one"]) (sc := defScope sNames) (by decide +kernel)) (fun _ _ _ _ _ => pg_name (i := 1) scNames.nd rfl (Or.inl rfl)) (fun _ _ _ _ _ => pts_nil) (fun _ _ _ _ _ => pe_call GN hr (by rfl) gN kN bN .nil pass0 (pa_cons (pv 1) pa_nil))) pa_nil))))))), ?_⟩
        refine ⟨_, rfl, _, true, rfl, SqX.seq (.inr hx), fun H1 s1 => ⟨_, rfl, ?_⟩⟩
        refine ⟨_, rfl, a, xs, rfl, .inr (SqT.of (s1 _ _ hx)), _, _, rfl, rfl, _, rfl, ?_⟩
        have e0 : decide (((xs.length : Nat) : Int) > 0) = decide (0 < xs.length) := by
          by_cases q : 0 < xs.length
          · rw [decide_eq_true q, decide_eq_true (by omega)]
          · rw [decide_eq_false q, decide_eq_false (by omega)]
        refine ite2 (fun h1 => ?_) (fun h1 => ?_)
        · have h2 : decide (0 < xs.length) = true := by rw [← e0]; exact h1
          rw [h2] at k
          refine ⟨_, rfl, a, rfl, ⟨_, SqT.of (s1 _ _ hx)⟩, fun D nD => lc_tup (K := K) (a := a) (xs := xs) (fun i G => Same H1 G ∧ G D = some (.lst ((bs.take i).map V.bl))) ⟨Same.new nD, upd_same⟩ (fun i G _ q => SqT.of (q.1 _ _ (s1 _ _ hx))) ?_ ?_⟩
          · rintro i x G hi ⟨sG, hD⟩
            obtain ⟨b, eb, nb⟩ := turn (D := D) (s1.trans sG) hi
            refine ⟨rfl, _, rfl, x, b, rfl, nb, _, hD, ?_, fun c u e => by rw [upd_ne (ne_of_none e nD)]; exact sG _ _ e, ?_⟩
            · rw [List.length_map, List.length_take]
              have : i < xs.length := (List.getElem?_eq_some_iff.mp hi).1
              exact small1000 (by omega)
            · rw [upd_same, List.take_succ, eb, List.map_append]
              rfl
          · rintro G ⟨sG, hD⟩
            refine ⟨D, bs, rfl, ?_, ?_⟩
            · rw [← hb.1, List.take_length] at hD
              exact SqL.of hD
            · exact k G (s1.trans sG)
        · have h2 : decide (0 < xs.length) = false := by rw [← e0]; simpa using h1
          rw [h2] at k
          exact k H1 s1
theorem scReq : FnScope ["holds", "word"] ["holds", "word"] (defScope sReq) := ⟨rfl, rfl, rfl, by decide +kernel, rfl, by decide +kernel, by decide +kernel⟩
/-- require, where what is asked holds -/
theorem ok_req {f : Addr} {fd : FuncData} (F : Fun K "require" "require" sReq f fd) : FnOk P w K mg base CX0 1 f fd ["holds", "word"] spReq := by
  refine F.ok scReq (fun vs H Q E h => ?_) (fun cdv A outer s H vs Q E hr h => ?_)
  · obtain ⟨v, rfl, _⟩ := h
    rfl
  · obtain ⟨v, rfl, k⟩ := h
    exact ⟨_, pss_one (ps_if (pt_not (pt_val (pv 0))) pss_never pss_nil), _, rfl, _, rfl, k⟩
theorem scRem : FnScope ["value"] ["value"] (defScope sRem) := ⟨rfl, rfl, rfl, by decide +kernel, rfl, by decide +kernel, by decide +kernel⟩
theorem ok_rem {f fN : Addr} {fd fdN : FuncData} (F : Fun K "is_remark" "is_remark" sRem f fd) (T : TxtK mg) (GN : FnOk P w K mg base CX0 1 fN fdN ["value"] (spName K)) (gN : mg "is_name" = some (.ref fN)) (kN : PySem.W.keepIn K (.ref fN) = true) (bN : Binds K fdN ["value"] []) :
    FnOk P w K mg base CX0 2 f fd ["value"] (spRem K) := by
  refine F.ok scRem (fun vs H Q E h => ?_) (fun cdv A outer s H vs Q E hr h => ?_)
  · obtain ⟨x, rfl, _⟩ := h
    rfl
  · obtain ⟨x, rfl, h⟩ := h
    refine ⟨_, (pss_one (ps_ret (pe_and (pe_callB call_isi (by rfl) T.isinstance (by decide +kernel) (pa_cons (pv 0) (pa_cons (pe_bltn (v := .ty "str") (by rfl) T.str (by decide +kernel) rfl) pa_nil))) (pe_one (pe_or (pe_cmpR op_eq (pv 0) pe_str (nomark _)) (pe_one (pe_call GN hr (by rfl) gN kN bN .nil pass0 (pa_cons (pv 0) pa_nil)))))))), ?_⟩
    rcases h with ⟨z, rfl, hz, k⟩ | ⟨⟨t, ty, e⟩, k⟩
    · obtain ⟨t, ty, e⟩ := isT_str (K := K) (H := H) (z := z)
      refine ⟨_, rfl, _, _, _, _, _, rfl, .ty _, ty, e, _, rfl, ?_⟩
      refine ⟨_, rfl, rfl, _, rfl, ?_⟩
      unfold remarkB at k
      refine ite2 (fun h1 => ?_) (fun h1 => ?_)
      · rw [h1] at k
        exact k
      · have : decide (V.str z = V.str "") = false := by simpa using h1
        rw [this, Bool.false_or] at k
        exact ⟨_, rfl, _, _, rfl, .inl ⟨z, rfl, hz, rfl⟩, k⟩
    · exact ⟨_, rfl, _, _, _, _, _, rfl, .ty _, ty, e, _, rfl, k⟩
end
end Lay
set_option Elab.async false
set_option linter.all false
set_option maxRecDepth 100000
set_option maxHeartbeats 4000000
set_option pp.maxSteps 700
namespace Lay
open PySem PySem.Spec PyProof.Rows L2
/-- an error class with an __init__ of its own that keeps f -/
structure XC (K : PySem.W.Frag) (mg : Str → Option Value) (C fI : Addr) (x f : Str) : Prop where
  oex : OexC K C
  init : PySem.W.findIn K (.ref C) "__init__" = some (some (.ref fI))
  tI : PySem.W.typeIn K (.ref fI) = some (.type "function")
  gC : mg x = some (.ref C)
  no : PySem.W.findIn K (.ref C) f = some none
  isC : ExcC K C
  xf : XfC K C
def spInit (K : PySem.W.Frag) (C : Addr) (f : Str) : Sp := fun vs H Q _ => ∃ (a : Addr) (v : V), vs = [.ref a, v] ∧ OexC K C ∧ PySem.W.findIn K (.ref C) f = some none ∧ H a = some (exo a C none) ∧
  ∀ dx, H dx = none → dx ≠ a → Q .non (upd (upd H dx (exd dx [(f, v)])) a (exo a C (some dx)))
/-- what raising such a class comes to -/
theorem raised_at {K : PySem.W.Frag} {C a : Addr} {f : Str} {H : Hp} {v : V} {Q : XK} (T : OexC K C) (no : PySem.W.findIn K (.ref C) f = some none) (ha : H a = none)
    (k : ∀ H' d, Same H H' → H d = none → H' d = some (.xd [(f, v)]) → Q (.ref C) (some d) H') :
    spInit K C f [.ref a, v] (upd H a (exo a C none)) (fun u H2 => u = .non ∧ ∃ (d : Addr) (fs : List (Str × V)), H2 a = some (exo a C (some d)) ∧ H2 d = some (exd d fs) ∧ H d = none ∧ Q (.ref C) (some d) (upd (del H2 a) d (.xd fs))) (fun _ _ _ => False) := by
  refine ⟨a, v, rfl, T, no, upd_same, fun dx hd ne => ?_⟩
  have hd' : H dx = none := by
    rw [upd_ne ne] at hd
    exact hd
  refine ⟨rfl, dx, _, upd_same, by rw [upd_ne ne, upd_same], hd', k _ dx (fun b o e => ?_) hd' upd_same⟩
  have nb : b ≠ a := ne_of_none e ha
  have nd : b ≠ dx := ne_of_none e hd'
  rw [upd_ne nd, del_ne nb, upd_ne nb, upd_ne nd, upd_ne nb]
  exact e
/-! C(e, ..) where what is let out depends on the slots; isinstance of an exception that the suite holds, with a dict. -/
section
variable {X : Cx} {CX : CXT} {k : Nat} {f C : Addr} {fd : FuncData} {ps : List Str} {sp : Sp} {E : L2.St → XK} {x m : Str} {p pos : Pos} {e : Expr} {es : List Expr} {t : TA} {ds : List Value} {dvs : List V}
theorem run_makeS {pins : List (Addr × Obj)} {σ : L2.St} {H : Hp} {s : Shared} {Q : VK} {us : List Value} {vs : List V} (M : Mk X.K C f) (F : FnOk X.prog X.w X.K X.mg X.base CX k f fd ps sp) (hr : Room (k + 1) X.A) (hb : Binds X.K fd ps ds) (hd : Vals dvs ds)
    (hx : PassesAt CX X σ (E σ)) (I : Inv X pins σ H s) (r : Vals vs us)
    (h : ∀ x dx, H x = none → H dx = none → dx ≠ x → sp (.ref x :: (vs ++ dvs)) (upd (upd H dx (.own x)) x (.ins C dx [])) (fun v H2 => v = .non ∧ Q (.ref x) H2) (E σ)) :
    wpAny (model X.prog X.w) X.A (call (.ref C) us) (EP X pins σ Q) X.xe s := by
  have hq := h (s.heap.objs.size + 1) s.heap.objs.size (I.hok.fresh (Nat.le_succ _)) (I.hok.fresh (Nat.le_refl _)) (Nat.ne_of_lt (Nat.lt_succ_self _))
  have I2 := Inv.made (C := C) I
  have r2 : Vals (V.ref (s.heap.objs.size + 1) :: (vs ++ dvs)) (Value.ref (s.heap.objs.size + 1) :: (us ++ ds)) := .cons rfl (r.append hd)
  have hl : (Value.ref (s.heap.objs.size + 1) :: us ++ ds).length = ps.length := by
    have e := r2.length
    rw [F.len _ _ _ _ hq] at e
    exact e.symm
  refine wpAny_call (make_map (f := f) I.kIn M.makes M.init (beq_iff_eq.mp M.fn) (codeAny_mono (F.run _ X.stack _ _ ⟨Value.ref (s.heap.objs.size + 1) :: us, []⟩ (Value.ref (s.heap.objs.size + 1) :: (us ++ ds)) _ _ (E σ) (hr.make C us [])
    (I2.env0.make C us []) (hb _ (Value.ref (s.heap.objs.size + 1) :: us) I2.kIn hl) r2 hq) fun r s' hq' => ?_))
  cases r with
  | error e => exact hx pins _ _ e s' I2 hq'
  | ok fl =>
    cases fl with
    | ret u =>
      obtain ⟨v, H', I3, rv, ev, q3⟩ := I2.after hq'
      subst ev
      exact ⟨rv, ⟨V.ref (s.heap.objs.size + 1), H', I3, rfl, q3⟩⟩
    | next => exact False.elim hq'
    | brk => exact False.elim hq'
    | cont => exact False.elim hq'
def tMakeS (C : Addr) (sp : Sp) (dvs : List V) (E : L2.St → XK) (t : TA) : TE := fun σ H Q => t σ H fun vs H1 => ∀ x dx, H1 x = none → H1 dx = none → dx ≠ x → sp (.ref x :: (vs ++ dvs)) (upd (upd H1 dx (.own x)) x (.ins C dx [])) (fun v H2 => v = .non ∧ Q (.ref x) H2) (E σ)
theorem pe_makeS (M : Mk X.K C f) (F : FnOk X.prog X.w X.K X.mg X.base CX k f fd ps sp) (hr : Room (k + 1) X.A) (hg : Gl X x) (hm : X.mg x = some (.ref C)) (hb : Binds X.K fd ps ds) (hd : Vals dvs ds) (hx : ∀ σ, PassesAt CX X σ (E σ))
    (ha : PA X (e :: es) t) (hdb : (x == ("__debug__" : Str)) = false := by decide) (he : starEach (e :: es) X.env = (false, eval e X.env) :: starEach es X.env := by rfl) (hpl : (backTo pos (starEach es X.env)).any (·.1) = false := by rfl) :
    PE X (.Call (.Name x p) (e :: es) [] pos) (tMakeS C sp dvs E t) := by
  refine ⟨fun pins s σ H Q I h => ?_⟩
  refine wpAny_Call_Name_kw (ld_glob I hg hm ?_ hdb)
  refine PySem.W.callWith_K (h₀ := X.base) I.ok.mod.kin M.kp (thn (ha.run pos pins s σ H _ I h) fun us s1 ⟨vs, H1, I1, r, q⟩ => ⟨I1.kIn, ?_⟩) he hpl
  exact run_makeS M F hr hb hd (hx σ) I1 r q
/-- isinstance(e, c), e the exception that the suite holds, a dict with it -/
def rIsEX (K : PySem.W.Frag) (a : Addr) (cls : Value) (d : Option Addr) : List V → Hp → VK → Prop := fun xs H Q => ∃ (D dd : Addr) (fs : List (Str × V)) (c : V) (cv : Value) (b : Bool), xs = [.ref a, c] ∧ cls = .ref D ∧ d = some dd ∧ H dd = some (.xd fs) ∧ ExcC K D ∧ ClsV c cv ∧
  PySem.W.kitOne K (.ref D) cv = some b ∧ Q (.bl b) H
theorem call_isEX {a : Addr} {cls : Value} {d : Option Addr} {oe : Obj} {pn : List (Addr × Obj)} (hz : Zc cls d oe) (hf : ∃ vs, oe.data = .fields vs) : CallR (X.suite a ((a, oe) :: pn)) (.builtin "isinstance") (rIsEX X.K a cls d) := by
  intro pins s σ H xs us Q I r h
  obtain ⟨D, dd, fs, c, cv, b, rfl, ec, ed, hdd, C, k, e, q⟩ := h
  obtain ⟨u1, u2, rfl, r1, r2⟩ := vals2 r
  cases r1
  have e2 := k.eq r2
  subst e2 ec ed
  have hcl : (PySem.W.clsIn X.K D).isSome = true := by
    obtain ⟨cd, hc, _⟩ := PySem.W.any_some C.hd
    rw [hc]
    rfl
  obtain ⟨hget, _⟩ := I.pin (a, oe) (List.mem_append_left _ List.mem_cons_self)
  obtain ⟨vs, hv⟩ := hf
  have hx : ObjOk X.prog X.w H s.heap dd (.xd fs) := I.hok dd _ hdd
  obtain ⟨mA, hns, hrel⟩ := hx
  obtain ⟨od, ho, hl⟩ := lookIn_ns hns
  have J : PySem.W.InstAt s.heap a oe D (some od) := ⟨hget, hz.1, by unfold PySem.W.notCls; rw [hv] <;> rfl, by rw [hz.2]; exact ho⟩
  exact PySem.W.kia_one (PySem.W.kitx_exc hcl C.hg C.hk C.hs C.ha C.hn C.ht C.hm) I.kIn J e (fun z => nomatch z) fun tk => ⟨.bl b, H, I.kept (t' := tk) fun _ _ z => z, rfl, q⟩
end

abbrev sIPc : Stmt := inClass (top 3) 0
def Raised (D : Addr) (H : Hp) (z : Str) (E : XK) : Prop := ∀ H' d, Same H H' → H d = none → H' d = some (.xd [("word", .str z)]) → E (.ref D) (some d) H'
theorem Raised.same {D : Addr} {H H' : Hp} {z : Str} {E : XK} (s : Same H H') (h : Raised D H z E) : Raised D H' z E := fun G d s2 n e => h G d (s.trans s2) (s.free n) e
/-- require, whatever it is asked -/
def spReqX (D : Addr) : Sp := fun vs H Q E => ∃ (b : Bool) (z : Str), vs = [.bl b, .str z] ∧ (b = true → Q .non H) ∧ (b = false → Raised D H z E)
section
variable {P : Program} {w : World} {K : PySem.W.Frag} {mg : Str → Option Value} {base : Heap}
theorem scIPc : FnScope ["self", "word"] ["self", "word"] (defScope sIPc) := ⟨rfl, rfl, rfl, by decide +kernel, rfl, by decide +kernel, by decide +kernel⟩
theorem ok_iPc {f C : Addr} {fd : FuncData} (F : Fun K "__init__" "InvalidPiece.__init__" sIPc f fd) : FnOk P w K mg base CX0 1 f fd ["self", "word"] (spInit K C "word") := by
  refine F.ok scIPc (fun vs H Q E h => ?_) (fun cdv A outer s H vs Q E hr h => ?_)
  · obtain ⟨a, v, rfl, _⟩ := h
    rfl
  · obtain ⟨a, v, rfl, T, no, ha, k⟩ := h
    exact ⟨_, pss_one (ps_ost (pv 0) (pv 1)), _, rfl, _, rfl, a, C, rfl, T, no, .inl ⟨ha, fun dx h1 h2 => k dx h1 h2⟩⟩
theorem ok_reqX {f fI D : Addr} {fd fdI : FuncData} (F : Fun K "require" "require" sReq f fd) (Y : XC K mg D fI "InvalidPiece" "word") (GI : FnOk P w K mg base CX0 1 fI fdI ["self", "word"] (spInit K D "word")) (bI : Binds K fdI ["self", "word"] []) : FnOk P w K mg base (L2.CX P w) 3 f fd ["holds", "word"] (spReqX D) := by
  refine F.okX scReq (fun vs H Q E h => ?_) (fun cdv A outer s H vs Q E hr h => ?_)
  · obtain ⟨b, z, rfl, _⟩ := h
    rfl
  · obtain ⟨b, z, rfl, k1, k2⟩ := h
    refine ⟨_, (pss_one (ps_if (pt_not (pt_val (pv 0))) (pss_one (ps_raise rfl (takes_of rfl rfl rfl rfl) (pmk_oex Y.oex Y.init Y.tI GI hr bI .nil pass0 (by rfl) Y.gC (pa_cons (pv 1) pa_nil)))) pss_nil)), ?_⟩
    cases b with
    | true => exact ⟨_, rfl, _, rfl, k1 rfl⟩
    | false => exact ⟨_, rfl, _, rfl, _, rfl, (by show 1 ≤ 1000; decide), fun a ha => raised_at Y.oex Y.no ha fun G d s2 n e => k2 rfl G d s2 n e⟩
end
end Lay
set_option Elab.async false
set_option linter.all false
set_option maxRecDepth 100000
set_option maxHeartbeats 4000000
namespace Lay
open PySem L2
/-- what a piece is made of -/
structure PD where
  word : Str
  parts : List Str
  broken : Bool
  marked : Bool
  ahead : Str
  behind : Str
  blanks : Int
  left : Bool
structure PD.Ok (d : PD) : Prop where
  word : nameB d.word = true
  some : 0 < d.parts.length
  few : d.parts.length ≤ 1000
  parts : ∀ z ∈ d.parts, nameB z = true
  ahead : remarkB d.ahead = true
  behind : remarkB d.behind = true
  b0 : 0 ≤ d.blanks
  b3 : d.blanks < 3
theorem remarkB_len {z : Str} (h : remarkB z = true) : z.length ≤ 6 := by
  unfold remarkB at h
  rcases Bool.or_eq_true_iff.mp h with h | h
  · have e : z = ("" : Str) := V.str.inj (of_decide_eq_true h)
    rw [e]
    decide
  · exact nameB_len h
theorem six_line {n : Nat} (h : n ≤ 6) : n ≤ sizeLine := Nat.le_trans h (by decide)
/-- its attributes, the tuple of the items at t -/
def pieceF (d : PD) (t : Addr) : List (Str × V) :=
  putF "left" (.bl d.left) (putF "blanks" (.int d.blanks) (putF "behind" (.str d.behind) (putF "ahead" (.str d.ahead) (putF "marked" (.bl d.marked) (putF "broken" (.bl d.broken) (putF "parts" (.ref t) (putF "word" (.str d.word) [])))))))
/-- at p a piece of d -/
def PieceAt (K : PySem.W.Frag) (C : Addr) (H : Hp) (p : Addr) (d : PD) : Prop := ∃ dx t, H p = some (.ins C dx (pieceF d t)) ∧ SqT K H t (d.parts.map V.str)
theorem SqT.same {K : PySem.W.Frag} {H H' : Hp} {a : Addr} {xs : List V} (e : Same H H') (h : SqT K H a xs) : SqT K H' a xs := by
  rcases h with (h | ⟨o, h⟩) | h
  · exact .inl (.inl (e _ _ h))
  · exact .inl (.inr ⟨o, e _ _ h⟩)
  · exact .inr h
theorem PieceAt.same {K : PySem.W.Frag} {C : Addr} {H H' : Hp} {p : Addr} {d : PD} (s : Same H H') (h : PieceAt K C H p d) : PieceAt K C H' p d := by
  obtain ⟨dx, t, h1, h2⟩ := h
  exact ⟨dx, t, s _ _ h1, SqT.same s h2⟩
/-- what the class Piece says of itself -/
structure PieceC (K : PySem.W.Frag) (C : Addr) : Prop where
  cl : Cls K C
  word : NoAttr K C "word"
  parts : NoAttr K C "parts"
  broken : NoAttr K C "broken"
  marked : NoAttr K C "marked"
  ahead : NoAttr K C "ahead"
  behind : NoAttr K C "behind"
  blanks : NoAttr K C "blanks"
  left : NoAttr K C "left"
def spPieceI (C : Addr) (K : PySem.W.Frag) : Sp := fun vs H Q _ => ∃ (p a dx : Addr) (d : PD), vs = [.ref p, .str d.word, .ref a, .bl d.broken, .bl d.marked, .str d.ahead, .str d.behind, .int d.blanks, .bl d.left] ∧ d.Ok ∧ SqX K H a (d.parts.map V.str) ∧
  H p = some (.ins C dx []) ∧ ∀ H' t, Kept p H H' → H' p = some (.ins C dx (pieceF d t)) → SqT K H' t (d.parts.map V.str) → Q .non H'
abbrev sPieceI : Stmt := inClass (top 14) 0
theorem few_put {f : Str} {v : V} {fs : List (Str × V)} {n : Nat} (h : fs.length ≤ n) : (putF f v fs).length ≤ n + 1 := Nat.le_trans (length_putF f v fs) (Nat.succ_le_succ h)
theorem few_1000 {fs : List (Str × V)} {n : Nat} (h : fs.length ≤ n) (hn : n < 1000) : fs.length < 1000 := Nat.lt_of_le_of_lt h hn
section
variable {P : Program} {w : World} {K : PySem.W.Frag} {mg : Str → Option Value} {base : Heap}
theorem scPi : FnScope ["self", "word", "parts", "broken", "marked", "ahead", "behind", "blanks", "left"] ["self", "word", "parts", "broken", "marked", "ahead", "behind", "blanks", "left"] (defScope sPieceI) := ⟨rfl, rfl, rfl, by decide +kernel, rfl, by decide +kernel, by decide +kernel⟩
/-- the defs that Piece asks -/
structure PieceD (P : Program) (w : World) (K : PySem.W.Frag) (mg : Str → Option Value) (base : Heap) (fR fN fM fE fU : Addr) (dR dN dM dE dU : FuncData) : Prop where
  GR : FnOk P w K mg base CX0 1 fR dR ["holds", "word"] spReq
  gR : mg "require" = some (.ref fR)
  kR : PySem.W.keepIn K (.ref fR) = true
  bR : Binds K dR ["holds", "word"] []
  GN : FnOk P w K mg base CX0 1 fN dN ["value"] (spName K)
  gN : mg "is_name" = some (.ref fN)
  kN : PySem.W.keepIn K (.ref fN) = true
  bN : Binds K dN ["value"] []
  GM : FnOk P w K mg base CX0 2 fM dM ["value"] (spNames K)
  gM : mg "are_names" = some (.ref fM)
  kM : PySem.W.keepIn K (.ref fM) = true
  bM : Binds K dM ["value"] []
  GE : FnOk P w K mg base CX0 2 fE dE ["value"] (spRem K)
  gE : mg "is_remark" = some (.ref fE)
  kE : PySem.W.keepIn K (.ref fE) = true
  bE : Binds K dE ["value"] []
  GU : FnOk P w K mg base CX0 2 fU dU ["value", "many"] (spNum K)
  gU : mg "is_number" = some (.ref fU)
  kU : PySem.W.keepIn K (.ref fU) = true
  bU : Binds K dU ["value", "many"] []
theorem ok_pieceI {f C : Addr} {fd : FuncData} {dvs : List V} {fR fN fM fE fU : Addr} {dR dN dM dE dU : FuncData} (F : FunD K "__init__" "Piece.__init__" (defArgs sPieceI) (defBody sPieceI) (defScope sPieceI) dvs [] f fd) (T : TxtK mg) (Z : PieceC K C) (D : PieceD P w K mg base fR fN fM fE fU dR dN dM dE dU) :
    FnOk P w K mg base CX0 3 f fd ["self", "word", "parts", "broken", "marked", "ahead", "behind", "blanks", "left"] (spPieceI C K) := by
  refine F.ok scPi (fun vs H Q E h => ?_) (fun cdv A outer s H vs Q E hr h => ?_)
  · obtain ⟨p, a, dx, d, rfl, _⟩ := h
    rfl
  · obtain ⟨p, a, dx, d, rfl, o, ha, hp, k⟩ := h
    have hr1 := hr.mono (show 1 ≤ 2 by decide)
    suffices h : ∃ t, PSs (cxOf CX0 P w K mg base ["self", "word", "parts", "broken", "marked", "ahead", "behind", "blanks", "left"] "Piece.__init__" (defScope sPieceI) f cdv A outer s H E).nox (defBody sPieceI) t ∧ t { nx := fun _ H' => Q .non H', rt := Q } (start ["self", "word", "parts", "broken", "marked", "ahead", "behind", "blanks", "left"] [.ref p, .str d.word, .ref a, .bl d.broken, .bl d.marked, .str d.ahead, .str d.behind, .int d.blanks, .bl d.left]) H by
      obtain ⟨t, h1, h2⟩ := h
      exact ⟨t, h1.nox, h2⟩
    refine ⟨_, (pss_cons (ps_expr (pe_call D.GR hr1 (by rfl) D.gR D.kR D.bR .nil pass0 (pa_cons (pe_call D.GN hr1 (by rfl) D.gN D.kN D.bN .nil pass0 (pa_cons (pv 1) pa_nil)) (pa_cons pe_str pa_nil))))
    (pss_cons (ps_expr (pe_call D.GR hr1 (by rfl) D.gR D.kR D.bR .nil pass0 (pa_cons (pe_call D.GM hr (by rfl) D.gM D.kM D.bM .nil pass0 (pa_cons (pv 2) pa_nil)) (pa_cons pe_str pa_nil))))
    (pss_cons (ps_expr (pe_call D.GR hr1 (by rfl) D.gR D.kR D.bR .nil pass0 (pa_cons (pe_callB call_isi (by rfl) T.isinstance (by decide +kernel) (pa_cons (pv 3) (pa_cons (pe_bltn (v := .ty "bool") (by rfl) T.bool (by decide +kernel) rfl) pa_nil))) (pa_cons pe_str pa_nil))))
    (pss_cons (ps_expr (pe_call D.GR hr1 (by rfl) D.gR D.kR D.bR .nil pass0 (pa_cons (pe_callB call_isi (by rfl) T.isinstance (by decide +kernel) (pa_cons (pv 4) (pa_cons (pe_bltn (v := .ty "bool") (by rfl) T.bool (by decide +kernel) rfl) pa_nil))) (pa_cons pe_str pa_nil))))
    (pss_cons (ps_expr (pe_call D.GR hr1 (by rfl) D.gR D.kR D.bR .nil pass0 (pa_cons (pe_call D.GE hr (by rfl) D.gE D.kE D.bE .nil pass0 (pa_cons (pv 5) pa_nil)) (pa_cons pe_str pa_nil))))
    (pss_cons (ps_expr (pe_call D.GR hr1 (by rfl) D.gR D.kR D.bR .nil pass0 (pa_cons (pe_call D.GE hr (by rfl) D.gE D.kE D.bE .nil pass0 (pa_cons (pv 6) pa_nil)) (pa_cons pe_str pa_nil))))
    (pss_cons (ps_expr (pe_call D.GR hr1 (by rfl) D.gR D.kR D.bR .nil pass0 (pa_cons (pe_call D.GU hr (by rfl) D.gU D.kU D.bU .nil pass0 (pa_cons (pv 7) (pa_cons pe_int pa_nil))) (pa_cons pe_str pa_nil))))
    (pss_cons (ps_expr (pe_call D.GR hr1 (by rfl) D.gR D.kR D.bR .nil pass0 (pa_cons (pe_callB call_isi (by rfl) T.isinstance (by decide +kernel) (pa_cons (pv 8) (pa_cons (pe_bltn (v := .ty "bool") (by rfl) T.bool (by decide +kernel) rfl) pa_nil))) (pa_cons pe_str pa_nil))))
    (pss_cons (ps_fld (pv 0) (pv 1) rfl)
    (C8.pss_cut (ps_fld (pv 0) (pe_callTy call_tuple_of (by rfl) T.tuple (by decide +kernel) (pa_cons (pv 2) pa_nil)) rfl)
    (pss_cons (ps_fld (pv 0) (pv 3) rfl)
    (pss_cons (ps_fld (pv 0) (pv 4) rfl)
    (pss_cons (ps_fld (pv 0) (pv 5) rfl)
    (pss_cons (ps_fld (pv 0) (pv 6) rfl)
    (pss_cons (ps_fld (pv 0) (pv 7) rfl)
    (pss_one (ps_fld (pv 0) (pv 8) rfl))))))))))))))))), ?_⟩
    have nap : a ≠ p := by
      rcases ha with ha | ha
      · exact ne_of ha hp (fun z => nomatch z)
      · exact ne_of ha hp (fun z => nomatch z)
    refine ⟨_, rfl, _, true, rfl, .inl ⟨_, rfl, six_line (nameB_len o.word), o.word.symm⟩, _, rfl, ?_⟩
    have hall : (decide (0 < (d.parts.map V.str).length) && (List.replicate d.parts.length true).all id) = true := by
      rw [List.length_map, decide_eq_true o.some, Bool.true_and, List.all_eq_true]
      intro b hb
      rw [(List.mem_replicate.mp hb).2]
      rfl
    refine ⟨_, rfl, _, rfl, .inr ⟨a, _, List.replicate d.parts.length true, rfl, ha, by rw [List.length_map]; exact o.few, ⟨by rw [List.length_replicate, List.length_map], fun i x b hx hb => ?_⟩, fun H1 s1 => ⟨_, by rw [hall]; rfl, ?_⟩⟩⟩
    · rw [List.getElem?_map] at hx
      cases q : d.parts[i]? with
      | none =>
        rw [q] at hx
        cases hx
      | some z =>
        rw [q] at hx
        cases hx
        have hz := o.parts z (List.mem_of_getElem? q)
        have eb : b = true := (List.mem_replicate.mp (List.mem_of_getElem? hb)).2
        exact .inl ⟨z, rfl, six_line (nameB_len hz), by rw [eb, hz]⟩
    obtain ⟨t3, y3, e3⟩ := isT_bl (K := K) (H := H1) (z := d.broken)
    refine ⟨_, rfl, _, _, _, _, _, rfl, .ty _, y3, e3, _, rfl, ?_⟩
    obtain ⟨t4, y4, e4⟩ := isT_bl (K := K) (H := H1) (z := d.marked)
    refine ⟨_, rfl, _, _, _, _, _, rfl, .ty _, y4, e4, _, rfl, ?_⟩
    refine ⟨_, rfl, _, rfl, .inl ⟨_, rfl, six_line (remarkB_len o.ahead), _, by rw [o.ahead]; rfl, ?_⟩⟩
    refine ⟨_, rfl, _, rfl, .inl ⟨_, rfl, six_line (remarkB_len o.behind), _, by rw [o.behind]; rfl, ?_⟩⟩
    refine ⟨_, rfl, _, _, rfl, .inl ⟨_, rfl, _, by rw [decide_eq_true o.b0, decide_eq_true o.b3]; rfl, ?_⟩⟩
    obtain ⟨t8, y8, e8⟩ := isT_bl (K := K) (H := H1) (z := d.left)
    refine ⟨_, rfl, _, _, _, _, _, rfl, .ty _, y8, e8, _, rfl, ?_⟩
    refine ⟨_, rfl, _, rfl, p, C, dx, _, rfl, s1 _ _ hp, Z.cl, Z.word, (by show 0 < 1000; decide), ?_⟩
    refine ⟨fun σ' G => σ' = start ["self", "word", "parts", "broken", "marked", "ahead", "behind", "blanks", "left"] [.ref p, .str d.word, .ref a, .bl d.broken, .bl d.marked, .str d.ahead, .str d.behind, .int d.blanks, .bl d.left] ∧
      ∃ t, Kept p H G ∧ t ≠ p ∧ G p = some (.ins C dx (putF "parts" (.ref t) (putF "word" (.str d.word) []))) ∧ SqT K G t (d.parts.map V.str), ?_, ?_⟩
    · have k1 : Kept p H (upd H1 p (.ins C dx (putF "word" (.str d.word) []))) := (Kept.of_same s1).trans Kept.box
      rcases ha with ha | ha
      · refine ⟨_, rfl, a, _, rfl, .inl ⟨SqL.of (k1 _ _ nap ha), fun l hl => ⟨_, rfl, p, C, dx, _, rfl, Same.new hl _ _ upd_same, Z.cl, Z.parts, few_1000 (few_put (Nat.zero_le 0)) (by decide), rfl, l, (k1.trans (Kept.new hl)).trans Kept.box, ?_, upd_same, ?_⟩⟩⟩
        · intro z
          rw [z, upd_same] at hl
          cases hl
        · have nlp : l ≠ p := fun z => by
            rw [z, upd_same] at hl
            cases hl
          exact SqT.of (by rw [upd_ne nlp, upd_same])
      · refine ⟨_, rfl, a, _, rfl, .inr ⟨SqT.of (k1 _ _ nap ha), _, rfl, p, C, dx, _, rfl, upd_same, Z.cl, Z.parts, few_1000 (few_put (Nat.zero_le 0)) (by decide), rfl, a, k1.trans Kept.box, nap, upd_same, SqT.of (by rw [upd_ne nap]; exact k1 _ _ nap ha)⟩⟩
    · rintro σ' G ⟨rfl, t, kG, ntp, hG, ht⟩
      refine ⟨_, rfl, _, rfl, p, C, dx, _, rfl, hG, Z.cl, Z.broken, few_1000 (few_put (few_put (Nat.zero_le 0))) (by decide), ?_⟩
      refine ⟨_, rfl, _, rfl, p, C, dx, _, rfl, upd_same, Z.cl, Z.marked, few_1000 (few_put (few_put (few_put (Nat.zero_le 0)))) (by decide), ?_⟩
      refine ⟨_, rfl, _, rfl, p, C, dx, _, rfl, upd_same, Z.cl, Z.ahead, few_1000 (few_put (few_put (few_put (few_put (Nat.zero_le 0))))) (by decide), ?_⟩
      refine ⟨_, rfl, _, rfl, p, C, dx, _, rfl, upd_same, Z.cl, Z.behind, few_1000 (few_put (few_put (few_put (few_put (few_put (Nat.zero_le 0)))))) (by decide), ?_⟩
      refine ⟨_, rfl, _, rfl, p, C, dx, _, rfl, upd_same, Z.cl, Z.blanks, few_1000 (few_put (few_put (few_put (few_put (few_put (few_put (Nat.zero_le 0))))))) (by decide), ?_⟩
      refine ⟨_, rfl, _, rfl, p, C, dx, _, rfl, upd_same, Z.cl, Z.left, few_1000 (few_put (few_put (few_put (few_put (few_put (few_put (few_put (Nat.zero_le 0)))))))) (by decide), ?_⟩
      simp only [upd_upd]
      exact k _ t (kG.trans Kept.box) upd_same (SqT.kept Kept.box ntp ht)
end
end Lay
set_option Elab.async false
set_option linter.all false
set_option maxRecDepth 100000
set_option maxHeartbeats 4000000
set_option pp.maxSteps 700
namespace Lay
open PySem PySem.Spec PyProof.Rows L2
/-! Piece, whatever it is handed -/
def NamV (K : PySem.W.Frag) (H : Hp) (x : V) (b : Bool) : Prop := (IsSeq K H x false ∧ b = false) ∨ ∃ a xs bs, x = .ref a ∧ SqX K H a xs ∧ xs.length ≤ 1000 ∧ NmBs K H xs bs ∧ b = (decide (0 < xs.length) && bs.all id)
def RemV (K : PySem.W.Frag) (H : Hp) (x : V) (b : Bool) : Prop := (∃ z, x = .str z ∧ z.length ≤ sizeLine ∧ b = remarkB z) ∨ (b = false ∧ IsT K H x "str" false)
def NumV (K : PySem.W.Frag) (H : Hp) (x : V) (b : Bool) : Prop := (∃ i, x = .int i ∧ b = (decide (0 ≤ i) && decide (i < 3))) ∨ ∃ b1 c1, IsT K H x "int" b1 ∧ IsT K H x "bool" c1 ∧ (b1 && !c1) = false ∧ b = false
theorem NmBs.same {K : PySem.W.Frag} {H H' : Hp} {xs : List V} {bs : List Bool} (s : Same H H') (h : NmBs K H xs bs) : NmBs K H' xs bs := ⟨h.1, fun i x b h1 h2 => (h.2 i x b h1 h2).same s⟩
theorem NamV.same {K : PySem.W.Frag} {H H' : Hp} {x : V} {b : Bool} (s : Same H H') (h : NamV K H x b) : NamV K H' x b := by
  rcases h with ⟨h, e⟩ | ⟨a, xs, bs, e, h1, h2, h3, h4⟩
  · exact .inl ⟨h.same s, e⟩
  · exact .inr ⟨a, xs, bs, e, h1.same s, h2, h3.same s, h4⟩
theorem RemV.same {K : PySem.W.Frag} {H H' : Hp} {x : V} {b : Bool} (s : Same H H') (h : RemV K H x b) : RemV K H' x b := h.imp id fun ⟨e, t⟩ => ⟨e, t.same s⟩
theorem NumV.same {K : PySem.W.Frag} {H H' : Hp} {x : V} {b : Bool} (s : Same H H') (h : NumV K H x b) : NumV K H' x b := h.imp id fun ⟨b1, c1, h1, h2, e⟩ => ⟨b1, c1, h1.same s, h2.same s, e⟩
/-- what a piece says of its eight arguments -/
structure Vd (K : PySem.W.Frag) (H : Hp) (x1 x2 x3 x4 x5 x6 x7 x8 : V) (b1 b2 b3 b4 b5 b6 b7 b8 : Bool) : Prop where
  h1 : NmB K H x1 b1
  h2 : NamV K H x2 b2
  h3 : IsT K H x3 "bool" b3
  h4 : IsT K H x4 "bool" b4
  h5 : RemV K H x5 b5
  h6 : RemV K H x6 b6
  h7 : NumV K H x7 b7
  h8 : IsT K H x8 "bool" b8
theorem Vd.same {K : PySem.W.Frag} {H H' : Hp} {x1 x2 x3 x4 x5 x6 x7 x8 : V} {b1 b2 b3 b4 b5 b6 b7 b8 : Bool} (s : Same H H') (h : Vd K H x1 x2 x3 x4 x5 x6 x7 x8 b1 b2 b3 b4 b5 b6 b7 b8) : Vd K H' x1 x2 x3 x4 x5 x6 x7 x8 b1 b2 b3 b4 b5 b6 b7 b8 :=
  ⟨h.h1.same s, h.h2.same s, h.h3.same s, h.h4.same s, h.h5.same s, h.h6.same s, h.h7.same s, h.h8.same s⟩
/-- the first that is wrong -/
def firstW (b1 b2 b3 b4 b5 b6 b7 b8 : Bool) : Option Str := if b1 = false then some "word" else if b2 = false then some "parts" else if b3 = false then some "broken" else if b4 = false then some "marked" else if b5 = false then some "ahead" else if b6 = false then some "behind" else if b7 = false then some "blanks" else if b8 = false then some "left" else none
def spPieceV (K : PySem.W.Frag) (C D : Addr) : Sp := fun vs H Q E => ∃ (p dx : Addr) (x1 x2 x3 x4 x5 x6 x7 x8 : V) (b1 b2 b3 b4 b5 b6 b7 b8 : Bool), vs = [.ref p, x1, x2, x3, x4, x5, x6, x7, x8] ∧ Vd K H x1 x2 x3 x4 x5 x6 x7 x8 b1 b2 b3 b4 b5 b6 b7 b8 ∧ H p = some (.ins C dx []) ∧
  (firstW b1 b2 b3 b4 b5 b6 b7 b8 = none → ∀ H', Kept p H H' → Q .non H') ∧ ∀ z, firstW b1 b2 b3 b4 b5 b6 b7 b8 = some z → Raised D H z E
theorem NamV.sp {K : PySem.W.Frag} {H : Hp} {x : V} {b : Bool} {R : VK} {E : XK} (h : NamV K H x b) (k : ∀ H', Same H H' → R (.bl b) H') : spNames K [x] H R E := by
  rcases h with ⟨h, rfl⟩ | ⟨a, xs, bs, rfl, h1, h2, h3, rfl⟩
  · exact ⟨_, rfl, .inl ⟨h, k⟩⟩
  · exact ⟨_, rfl, .inr ⟨a, xs, bs, rfl, h1, h2, h3, k⟩⟩
theorem RemV.sp {K : PySem.W.Frag} {H : Hp} {x : V} {b : Bool} {R : VK} {E : XK} (h : RemV K H x b) (k : R (.bl b) H) : spRem K [x] H R E := by
  rcases h with ⟨z, rfl, h1, rfl⟩ | ⟨rfl, h⟩
  · exact ⟨_, rfl, .inl ⟨z, rfl, h1, k⟩⟩
  · exact ⟨_, rfl, .inr ⟨h, k⟩⟩
theorem NumV.sp {K : PySem.W.Frag} {H : Hp} {x : V} {b : Bool} {R : VK} {E : XK} (h : NumV K H x b) (k : R (.bl b) H) : spNum K [x, .int 3] H R E := by
  rcases h with ⟨i, rfl, rfl⟩ | ⟨b1, c1, h1, h2, e, rfl⟩
  · exact ⟨_, _, rfl, .inl ⟨i, rfl, k⟩⟩
  · exact ⟨_, _, rfl, .inr ⟨b1, c1, h1, h2, e, k⟩⟩
def spNamV (K : PySem.W.Frag) : Sp := fun vs H Q _ => ∃ x b, vs = [x] ∧ NamV K H x b ∧ ∀ H', Same H H' → Q (.bl b) H'
def spRemV (K : PySem.W.Frag) : Sp := fun vs H Q _ => ∃ x b, vs = [x] ∧ RemV K H x b ∧ Q (.bl b) H
def spNumV (K : PySem.W.Frag) : Sp := fun vs H Q _ => ∃ x b, vs = [x, .int 3] ∧ NumV K H x b ∧ Q (.bl b) H
/-- the defs that Piece asks, and require that raises -/
structure PieceV (P : Program) (w : World) (K : PySem.W.Frag) (mg : Str → Option Value) (base : Heap) (D fR fN fM fE fU : Addr) (dR dN dM dE dU : FuncData) : Prop extends PieceD P w K mg base fR fN fM fE fU dR dN dM dE dU where
  GX : FnOk P w K mg base (L2.CX P w) 3 fR dR ["holds", "word"] (spReqX D)
theorem PieceV.GM2 {P : Program} {w : World} {K : PySem.W.Frag} {mg : Str → Option Value} {base : Heap} {D fR fN fM fE fU : Addr} {dR dN dM dE dU : FuncData} (V : PieceV P w K mg base D fR fN fM fE fU dR dN dM dE dU) : FnOk P w K mg base CX0 2 fM dM ["value"] (spNamV K) :=
  V.GM.imp fun vs H Q E ⟨x, b, e, h, k⟩ => by subst e; exact h.sp k
theorem PieceV.GE2 {P : Program} {w : World} {K : PySem.W.Frag} {mg : Str → Option Value} {base : Heap} {D fR fN fM fE fU : Addr} {dR dN dM dE dU : FuncData} (V : PieceV P w K mg base D fR fN fM fE fU dR dN dM dE dU) : FnOk P w K mg base CX0 2 fE dE ["value"] (spRemV K) :=
  V.GE.imp fun vs H Q E ⟨x, b, e, h, k⟩ => by subst e; exact h.sp k
theorem PieceV.GU2 {P : Program} {w : World} {K : PySem.W.Frag} {mg : Str → Option Value} {base : Heap} {D fR fN fM fE fU : Addr} {dR dN dM dE dU : FuncData} (V : PieceV P w K mg base D fR fN fM fE fU dR dN dM dE dU) : FnOk P w K mg base CX0 2 fU dU ["value", "many"] (spNumV K) :=
  V.GU.imp fun vs H Q E ⟨x, b, e, h, k⟩ => by subst e; exact h.sp k
section
variable {P : Program} {w : World} {K : PySem.W.Frag} {mg : Str → Option Value} {base : Heap}
theorem ok_pieceV {f C D : Addr} {fd : FuncData} {dvs : List V} {fR fN fM fE fU : Addr} {dR dN dM dE dU : FuncData} (F : FunD K "__init__" "Piece.__init__" (defArgs sPieceI) (defBody sPieceI) (defScope sPieceI) dvs [] f fd) (T : TxtK mg) (Z : PieceC K C) (V : PieceV P w K mg base D fR fN fM fE fU dR dN dM dE dU) :
    FnOk P w K mg base (L2.CX P w) 4 f fd ["self", "word", "parts", "broken", "marked", "ahead", "behind", "blanks", "left"] (spPieceV K C D) := by
  refine F.ok scPi (fun vs H Q E h => ?_) (fun cdv A outer s H vs Q E hr h => ?_)
  · obtain ⟨p, dx, x1, x2, x3, x4, x5, x6, x7, x8, b1, b2, b3, b4, b5, b6, b7, b8, rfl, _⟩ := h
    rfl
  · obtain ⟨p, dx, x1, x2, x3, x4, x5, x6, x7, x8, b1, b2, b3, b4, b5, b6, b7, b8, rfl, hv, hp, k1, k2⟩ := h
    have hr1 := hr.mono (show 1 ≤ 3 by decide)
    have hr2 := hr.mono (show 2 ≤ 3 by decide)
    have px := fun (z : Str) => (passes_call (takes_of rfl rfl rfl rfl) fun _ _ _ _ h => h : Passes (L2.CX P w) (cxOf (L2.CX P w) P w K mg base ["self", "word", "parts", "broken", "marked", "ahead", "behind", "blanks", "left"] "Piece.__init__" (defScope sPieceI) f cdv A outer s H E) E)
    refine ⟨_, (pss_cons (ps_expr (pe_call (E := E) V.GX hr (by rfl) V.gR V.kR V.bR .nil (px "") (pa_cons (pe_call V.GN hr1 (by rfl) V.gN V.kN V.bN .nil pass0 (pa_cons (pv 1) pa_nil)) (pa_cons pe_str pa_nil))))
    (pss_cons (ps_expr (pe_call (E := E) V.GX hr (by rfl) V.gR V.kR V.bR .nil (px "") (pa_cons (pe_call V.GM2 hr2 (by rfl) V.gM V.kM V.bM .nil pass0 (pa_cons (pv 2) pa_nil)) (pa_cons pe_str pa_nil))))
    (pss_cons (ps_expr (pe_call (E := E) V.GX hr (by rfl) V.gR V.kR V.bR .nil (px "") (pa_cons (pe_callB call_isi (by rfl) T.isinstance (by decide +kernel) (pa_cons (pv 3) (pa_cons (pe_bltn (v := .ty "bool") (by rfl) T.bool (by decide +kernel) rfl) pa_nil))) (pa_cons pe_str pa_nil))))
    (pss_cons (ps_expr (pe_call (E := E) V.GX hr (by rfl) V.gR V.kR V.bR .nil (px "") (pa_cons (pe_callB call_isi (by rfl) T.isinstance (by decide +kernel) (pa_cons (pv 4) (pa_cons (pe_bltn (v := .ty "bool") (by rfl) T.bool (by decide +kernel) rfl) pa_nil))) (pa_cons pe_str pa_nil))))
    (pss_cons (ps_expr (pe_call (E := E) V.GX hr (by rfl) V.gR V.kR V.bR .nil (px "") (pa_cons (pe_call V.GE2 hr2 (by rfl) V.gE V.kE V.bE .nil pass0 (pa_cons (pv 5) pa_nil)) (pa_cons pe_str pa_nil))))
    (pss_cons (ps_expr (pe_call (E := E) V.GX hr (by rfl) V.gR V.kR V.bR .nil (px "") (pa_cons (pe_call V.GE2 hr2 (by rfl) V.gE V.kE V.bE .nil pass0 (pa_cons (pv 6) pa_nil)) (pa_cons pe_str pa_nil))))
    (pss_cons (ps_expr (pe_call (E := E) V.GX hr (by rfl) V.gR V.kR V.bR .nil (px "") (pa_cons (pe_call V.GU2 hr2 (by rfl) V.gU V.kU V.bU .nil pass0 (pa_cons (pv 7) (pa_cons pe_int pa_nil))) (pa_cons pe_str pa_nil))))
    (pss_cons (ps_expr (pe_call (E := E) V.GX hr (by rfl) V.gR V.kR V.bR .nil (px "") (pa_cons (pe_callB call_isi (by rfl) T.isinstance (by decide +kernel) (pa_cons (pv 8) (pa_cons (pe_bltn (v := .ty "bool") (by rfl) T.bool (by decide +kernel) rfl) pa_nil))) (pa_cons pe_str pa_nil))))
    (pss_cons (ps_fld (pv 0) (pv 1) rfl)
    (C8.pss_cut (ps_fld (pv 0) (pe_callTy call_tuple_of (by rfl) T.tuple (by decide +kernel) (pa_cons (pv 2) pa_nil)) rfl)
    (pss_cons (ps_fld (pv 0) (pv 3) rfl)
    (pss_cons (ps_fld (pv 0) (pv 4) rfl)
    (pss_cons (ps_fld (pv 0) (pv 5) rfl)
    (pss_cons (ps_fld (pv 0) (pv 6) rfl)
    (pss_cons (ps_fld (pv 0) (pv 7) rfl)
    (pss_one (ps_fld (pv 0) (pv 8) rfl))))))))))))))))), ?_⟩
    obtain ⟨h1, h2, h3, h4, h5, h6, h7, h8⟩ := hv
    refine ⟨_, rfl, x1, b1, rfl, h1, b1, "word", rfl, fun e1 => ?_, fun e1 => k2 _ (by subst e1; rfl)⟩
    subst e1
    refine ⟨_, rfl, x2, b2, rfl, h2, fun H1 s1 => ⟨b2, "parts", rfl, fun e2 => ?_, fun e2 => (k2 _ (by subst e2; rfl)).same s1⟩⟩
    subst e2
    have h3 := h3.same s1
    have h4 := h4.same s1
    have h5 := h5.same s1
    have h6 := h6.same s1
    have h7 := h7.same s1
    have h8 := h8.same s1
    obtain ⟨t3, y3, q3⟩ := h3
    refine ⟨_, rfl, _, _, _, _, _, rfl, .ty _, y3, q3, b3, "broken", rfl, fun e3 => ?_, fun e3 => (k2 _ (by subst e3; rfl)).same s1⟩
    subst e3
    obtain ⟨t4, y4, q4⟩ := h4
    refine ⟨_, rfl, _, _, _, _, _, rfl, .ty _, y4, q4, b4, "marked", rfl, fun e4 => ?_, fun e4 => (k2 _ (by subst e4; rfl)).same s1⟩
    subst e4
    refine ⟨_, rfl, x5, b5, rfl, h5, b5, "ahead", rfl, fun e5 => ?_, fun e5 => (k2 _ (by subst e5; rfl)).same s1⟩
    subst e5
    refine ⟨_, rfl, x6, b6, rfl, h6, b6, "behind", rfl, fun e6 => ?_, fun e6 => (k2 _ (by subst e6; rfl)).same s1⟩
    subst e6
    refine ⟨_, rfl, x7, b7, rfl, h7, b7, "blanks", rfl, fun e7 => ?_, fun e7 => (k2 _ (by subst e7; rfl)).same s1⟩
    subst e7
    obtain ⟨t8, y8, q8⟩ := h8
    refine ⟨_, rfl, _, _, _, _, _, rfl, .ty _, y8, q8, b8, "left", rfl, fun e8 => ?_, fun e8 => (k2 _ (by subst e8; rfl)).same s1⟩
    subst e8
    have fin := k1 rfl
    rcases h2 with ⟨_, z⟩ | ⟨a, xs, bs, rfl, hx, hl, _, _⟩
    · cases z
    have nap : a ≠ p := by
      rcases hx with hx | hx
      · exact ne_of hx hp (fun z => nomatch z)
      · exact ne_of hx hp (fun z => nomatch z)
    refine ⟨_, rfl, _, rfl, p, C, dx, _, rfl, s1 _ _ hp, Z.cl, Z.word, (by show 0 < 1000; decide), ?_⟩
    refine ⟨fun σ' G => σ' = start ["self", "word", "parts", "broken", "marked", "ahead", "behind", "blanks", "left"] [.ref p, x1, .ref a, x3, x4, x5, x6, x7, x8] ∧
      ∃ t, Kept p H G ∧ G p = some (.ins C dx (putF "parts" (.ref t) (putF "word" x1 []))), ?_, ?_⟩
    · have kp : Kept p H (upd H1 p (.ins C dx (putF "word" x1 []))) := (Kept.of_same s1).trans Kept.box
      rcases hx with hx | hx
      · refine ⟨_, rfl, a, _, rfl, .inl ⟨SqL.of (kp _ _ nap hx), fun l hl => ⟨_, rfl, p, C, dx, _, rfl, Same.new hl _ _ upd_same, Z.cl, Z.parts, few_1000 (few_put (Nat.zero_le 0)) (by decide), rfl, l, (kp.trans (Kept.new hl)).trans Kept.box, upd_same⟩⟩⟩
      · refine ⟨_, rfl, a, _, rfl, .inr ⟨SqT.of (kp _ _ nap hx), _, rfl, p, C, dx, _, rfl, upd_same, Z.cl, Z.parts, few_1000 (few_put (Nat.zero_le 0)) (by decide), rfl, a, kp.trans Kept.box, upd_same⟩⟩
    · rintro σ' G ⟨rfl, t, kG, hG⟩
      refine ⟨_, rfl, _, rfl, p, C, dx, _, rfl, hG, Z.cl, Z.broken, few_1000 (few_put (few_put (Nat.zero_le 0))) (by decide), ?_⟩
      refine ⟨_, rfl, _, rfl, p, C, dx, _, rfl, upd_same, Z.cl, Z.marked, few_1000 (few_put (few_put (few_put (Nat.zero_le 0)))) (by decide), ?_⟩
      refine ⟨_, rfl, _, rfl, p, C, dx, _, rfl, upd_same, Z.cl, Z.ahead, few_1000 (few_put (few_put (few_put (few_put (Nat.zero_le 0))))) (by decide), ?_⟩
      refine ⟨_, rfl, _, rfl, p, C, dx, _, rfl, upd_same, Z.cl, Z.behind, few_1000 (few_put (few_put (few_put (few_put (few_put (Nat.zero_le 0)))))) (by decide), ?_⟩
      refine ⟨_, rfl, _, rfl, p, C, dx, _, rfl, upd_same, Z.cl, Z.blanks, few_1000 (few_put (few_put (few_put (few_put (few_put (few_put (Nat.zero_le 0))))))) (by decide), ?_⟩
      refine ⟨_, rfl, _, rfl, p, C, dx, _, rfl, upd_same, Z.cl, Z.left, few_1000 (few_put (few_put (few_put (few_put (few_put (few_put (few_put (Nat.zero_le 0)))))))) (by decide), ?_⟩
      simp only [upd_upd]
      exact fin _ (kG.trans Kept.box)
end
end Lay
set_option Elab.async false
set_option linter.all false
set_option maxRecDepth 100000
set_option maxHeartbeats 4000000
set_option pp.maxSteps 700
namespace Lay
open PySem PySem.Spec PyProof.Rows L2 KwX StX
/-! a piece with other things in the place of its own -/
def pnames : List Str := ["word", "parts", "broken", "marked", "ahead", "behind", "blanks", "left"]
def slf : List Str := ["self"]
abbrev sBut : Stmt := inClass (top 14) 2
theorem kbn_piece {K : PySem.W.Frag} {f : Addr} {fd : FuncData} {dvs : List V} (F : FunD K "__init__" "Piece.__init__" (defArgs sPieceI) (defBody sPieceI) (defScope sPieceI) dvs [] f fd) (hd : dvs.length = 6) :
    ∃ its : List Value, KBn K fd ["self", "word", "parts", "broken", "marked", "ahead", "behind", "blanks", "left"] (0 + 1) pnames (fun us ws => us ++ ws) (fun vs zs => vs ++ zs) := by
  have h := F.kbindsD (ps := ["self", "word", "parts", "broken", "marked", "ahead", "behind", "blanks", "left"]) 1 pnames (fun us _ ws => us ++ ws) (fun z => by rw [z] at hd; cases hd) (fun r _ r2 => r.append r2) fun T kV doc pm an cdv ct us its ws h1 h2 h3 => by
    rw [hd] at h2
    match us, its, ws, h1, h2, h3 with
    | [_], [_, _, _, _, _, _], [_, _, _, _, _, _, _, _], _, _, _ => exact ⟨_, rfl, rfl⟩
  exact h
def spButB (K : PySem.W.Frag) (C D : Addr) (ks : List Str) : Sp := fun vs H Q E => ∃ (p q t dx : Addr) (d : PD) (zs : List V) (x1 x2 x3 x4 x5 x6 x7 x8 : V) (b1 b2 b3 b4 b5 b6 b7 b8 : Bool), vs = [.ref p, .ref q] ∧ H p = some (.ins C dx (pieceF d t)) ∧ H q = some (.dK (kvK ks zs)) ∧ ks.length ≤ 8 ∧ zs.length = ks.length ∧
  mergeK (kvK pnames [.str d.word, .ref t, .bl d.broken, .bl d.marked, .str d.ahead, .str d.behind, .int d.blanks, .bl d.left]) (kvK ks zs) = kvK pnames [x1, x2, x3, x4, x5, x6, x7, x8] ∧ Vd K H x1 x2 x3 x4 x5 x6 x7 x8 b1 b2 b3 b4 b5 b6 b7 b8 ∧
  (firstW b1 b2 b3 b4 b5 b6 b7 b8 = none → ∀ (a : Addr) H', Same H H' → Q (.ref a) H') ∧ ∀ z, firstW b1 b2 b3 b4 b5 b6 b7 b8 = some z → Raised D H z E
section
variable {P : Program} {w : World} {K : PySem.W.Frag} {mg : Str → Option Value} {base : Heap}
theorem scBut : FnScope ["self", "others", "told"] (slf ++ [("others" : Str)]) (defScope sBut) := ⟨rfl, rfl, rfl, by decide +kernel, rfl, by decide +kernel, by decide +kernel⟩
theorem ok_butV {f fP C D : Addr} {fd fdP : FuncData} {ks : List Str} {its : List Value} (F : Fun K "but" "Piece.but" sBut f fd) (Z : PieceC K C) (M : Mk K C fP) (hnd : ks.Nodup) (hks : ks.length ≤ 1000)
    (GP : FnOk P w K mg base (L2.CX P w) 4 fP fdP ["self", "word", "parts", "broken", "marked", "ahead", "behind", "blanks", "left"] (spPieceV K C D)) (gP : mg "Piece" = some (.ref C)) (kb : KBn K fdP ["self", "word", "parts", "broken", "marked", "ahead", "behind", "blanks", "left"] (0 + 1) pnames (fun us ws => us ++ ws) (fun vs zs => vs ++ zs))
    (hb : ∀ (kV doc pm : Value) (an : Option Addr) (cdv ct : Value) (us ws : List Value), us.length = slf.length → ws.length = ks.length → bindArgs (PySem.W.fnOf "but" "Piece.but" (defArgs sBut) (defBody sBut) (defScope sBut) .none kV doc pm an cdv ct) ⟨us, ks.zip ws⟩ =
      ((alloc ({ cls := .type "dict", data := .dict #[] } : Obj) : Sem Addr) >>= fun d => (forIn (ks.zip ws) PUnit.unit fun x _ => (nsSet d x.1 x.2 >>= fun _ => pure (ForInStep.yield PUnit.unit))) >>= fun _ => pure (slf.zip us ++ [(("others" : Str), Value.ref d)]))) :
    FnRK P w K mg base (L2.CX P w) 6 f ks (fun vs zs H Q E => vs.length = slf.length ∧ zs.length = ks.length ∧ ∀ d, H d = none → spButB K C D ks (vs ++ [V.ref d]) (upd H d (.dK (kvK ks zs))) Q E) := by
  refine fun_kw F scBut cxUp hnd hks hb (fun cdv A outer s H vs Q E hr h => ?_)
  obtain ⟨p, q, t, dx, d, zs, x1, x2, x3, x4, x5, x6, x7, x8, b1, b2, b3, b4, b5, b6, b7, b8, rfl, hp, hq, lk, lz, em, hv, k1, k2⟩ := h
  refine ⟨_, (pss_cons (ps_set (i := 2) scBut.nd rfl (.inl rfl) (pe_disp (pps_cons pe_str (pe_fld (pv 0) rfl) (pps_cons pe_str (pe_fld (pv 0) rfl) (pps_cons pe_str (pe_fld (pv 0) rfl) (pps_cons pe_str (pe_fld (pv 0) rfl) (pps_cons pe_str (pe_fld (pv 0) rfl) (pps_cons pe_str (pe_fld (pv 0) rfl) (pps_cons pe_str (pe_fld (pv 0) rfl) (pps_cons pe_str (pe_fld (pv 0) rfl) pps_nil)))))))) rfl rfl (by decide) (by decide)))
    (pss_cons (ps_expr (pe_dupd (pv 2) (pv 1) ⟨by rfl, by rfl, by rfl, by rfl⟩))
    (pss_one (ps_ret (pe_makeD (E := E) M GP hr (by rfl) gP kb (passes_call (takes_of rfl rfl rfl rfl) fun _ _ _ _ h => h) (pv 2) (by decide +kernel) (by decide)))))), ?_⟩
  refine fun u nu => ?_
  have hp1 := Same.new nu (o := .dK []) _ _ hp
  refine ⟨_, rfl, p, C, dx, _, _, rfl, hp1, Z.cl, Z.word, rfl, _, rfl, p, C, dx, _, _, rfl, hp1, Z.cl, Z.parts, rfl, _, rfl, p, C, dx, _, _, rfl, hp1, Z.cl, Z.broken, rfl, _, rfl, p, C, dx, _, _, rfl, hp1, Z.cl, Z.marked, rfl, ?_⟩
  refine ⟨_, rfl, p, C, dx, _, _, rfl, hp1, Z.cl, Z.ahead, rfl, _, rfl, p, C, dx, _, _, rfl, hp1, Z.cl, Z.behind, rfl, _, rfl, p, C, dx, _, _, rfl, hp1, Z.cl, Z.blanks, rfl, _, rfl, p, C, dx, _, _, rfl, hp1, Z.cl, Z.left, rfl, ?_⟩
  refine ⟨upd_same, [(.inr "word", .str d.word), (.inr "parts", .ref t), (.inr "broken", .bl d.broken), (.inr "marked", .bl d.marked), (.inr "ahead", .str d.ahead), (.inr "behind", .str d.behind), (.inr "blanks", .int d.blanks), (.inr "left", .bl d.left)], rfl, (by show 8 ≤ 15; decide), ?_⟩
  rw [show mergeK [] [(.inr "word", .str d.word), (.inr "parts", .ref t), (.inr "broken", .bl d.broken), (.inr "marked", .bl d.marked), (.inr "ahead", .str d.ahead), (.inr "behind", .str d.behind), (.inr "blanks", .int d.blanks), (.inr "left", .bl d.left)] = kvK pnames [.str d.word, .ref t, .bl d.broken, .bl d.marked, .str d.ahead, .str d.behind, .int d.blanks, .bl d.left] from rfl, upd_upd]
  have uq : u ≠ q := (ne_of_none hq nu).symm
  have hqu : upd H u (.dK (kvK pnames [.str d.word, .ref t, .bl d.broken, .bl d.marked, .str d.ahead, .str d.behind, .int d.blanks, .bl d.left])) q = some (.dK (kvK ks zs)) := by rw [upd_ne (Ne.symm uq)]; exact hq
  have lk2 : (kvK ks zs).length ≤ 8 := by
    unfold kvK
    rw [List.length_zip, List.length_map]
    omega
  refine ⟨_, rfl, u, rfl, .inl ⟨_, .inl upd_same⟩, _, rfl, q, _, _, rfl, upd_same, hqu, uq, (by show 8 + _ ≤ 1000; omega), ?_⟩
  rw [em, upd_upd]
  refine fun d1 nd1 => ⟨_, rfl, u, [x1, x2, x3, x4, x5, x6, x7, x8], rfl, upd_same, ?_, rfl, ?_, fun a da na nda ne => ?_⟩
  · have nu1 : d1 ≠ u := fun z => by
      rw [z, upd_same] at nd1
      cases nd1
    rw [upd_ne (Ne.symm nu1), upd_same]
  · intro z
    rw [← z, upd_same] at nd1
    cases nd1
  · rw [upd_upd] at na nda ⊢
    have nu1 : d1 ≠ u := fun z => by
      rw [z, upd_same] at nd1
      cases nd1
    have s0 : Same H (upd (upd H u (.dK (kvK pnames [x1, x2, x3, x4, x5, x6, x7, x8]))) d1 (.dK (kvK pnames [x1, x2, x3, x4, x5, x6, x7, x8]))) := (Same.new nu).trans (Same.new nd1)
    have na2 : upd (upd (upd H u (.dK (kvK pnames [x1, x2, x3, x4, x5, x6, x7, x8]))) d1 (.dK (kvK pnames [x1, x2, x3, x4, x5, x6, x7, x8]))) da (.own a) a = none := by
      rw [upd_ne (Ne.symm ne)]
      exact na
    have s1 := (s0.trans (Same.new nda (o := .own a))).trans (Same.new na2 (o := .ins C da []))
    refine ⟨a, da, x1, x2, x3, x4, x5, x6, x7, x8, b1, b2, b3, b4, b5, b6, b7, b8, rfl, hv.same s1, upd_same, fun e H' k => ⟨rfl, k1 e a H' fun b o eb => k b o (ne_of_none (s0 _ _ eb) na) (s1 _ _ eb)⟩, fun z e => (k2 z e).same s1⟩
end
end Lay
set_option Elab.async false
set_option linter.all false
set_option maxRecDepth 100000
set_option maxHeartbeats 4000000
set_option pp.maxSteps 700
namespace Lay
open PySem PySem.Spec PyProof.Rows L2
theorem iteN {c : Bool} {A B : Prop} (h : c = false) (x : B) : if c = true then A else B := by
  rw [if_neg (by rw [h]; exact Bool.false_ne_true)]
  exact x
theorem iteY {c : Bool} {A B : Prop} (h : c = true) (x : A) : if c = true then A else B := by
  rw [if_pos h]
  exact x
theorem same_put {H H1 : Hp} {p : Addr} {o : HO} (s : Same H H1) (n : H p = none) : Same H (upd H1 p o) := fun b u e => by
  rw [upd_ne (ne_of_none e n)]
  exact s _ _ e
theorem Same.rfl {H : Hp} : Same H H := fun _ _ e => e
/-! defs by their names -/
/-- the module's names that must be Python's own -/
structure Bt (mg : Str → Option Value) : Prop where
  int : mg "int" = none
  bool : mg "bool" = none
  str : mg "str" = none
  list : mg "list" = none
  tuple : mg "tuple" = none
  dict : mg "dict" = none
  isinstance : mg "isinstance" = none
  len : mg "len" = none
  all : mg "all" = none
  any : mg "any" = none
  abs : mg "abs" = none
  range : mg "range" = none
  enumerate : mg "enumerate" = none
  zip : mg "zip" = none
  max : mg "max" = none
  min : mg "min" = none
  repr : mg "repr" = none
  sorted : mg "sorted" = none
/-- the def n as it stands behind the top -/
def Dfn (K : PySem.W.Frag) (mg : Str → Option Value) (n : Str) (st : Stmt) (ps : List Str) : Prop := ∃ f fd, Fun K n n st f fd ∧ mg n = some (.ref f) ∧ Binds K fd ps []
/-- the def n keeps a promise -/
def Has (P : Program) (w : World) (K : PySem.W.Frag) (mg : Str → Option Value) (base : Heap) (CX : CXT) (k : Nat) (n : Str) (ps : List Str) (sp : Sp) : Prop :=
  ∃ f fd, FnOk P w K mg base CX k f fd ps sp ∧ mg n = some (.ref f) ∧ PySem.W.keepIn K (.ref f) = true ∧ Binds K fd ps []
section
variable {P : Program} {w : World} {K : PySem.W.Frag} {mg : Str → Option Value} {base : Heap} {n : Str} {st : Stmt} {N ps : List Str} {k : Nat} {sp : Sp}
theorem Dfn.has (D : Dfn K mg n st ps) (S : FnScope N ps (defScope st)) (len : ∀ vs H Q E, sp vs H Q E → vs.length = ps.length)
    (hbody : ∀ (f : Addr) (cdv : Value) (A : Around) (outer : List Env) (s : Shared) (H : Hp) (vs : List V) (Q : VK) (E : XK), Room k (A.deeper (envOfC n (defScope st) s.heap.objs.size f cdv)) → sp vs H Q E →
      ∃ t, PSs (cxOf CX0 P w K mg base N n (defScope st) f cdv A outer s H E).nox (defBody st) t ∧ t { nx := fun _ H' => Q .non H', rt := Q } (start N vs) H) : Has P w K mg base CX0 (k + 1) n ps sp := by
  obtain ⟨f, fd, F, g, b⟩ := D
  exact ⟨f, fd, F.ok S len (hbody f), g, F.kp, b⟩
theorem Dfn.hasX (D : Dfn K mg n st ps) (S : FnScope N ps (defScope st)) (len : ∀ vs H Q E, sp vs H Q E → vs.length = ps.length)
    (hbody : ∀ (f : Addr) (cdv : Value) (A : Around) (outer : List Env) (s : Shared) (H : Hp) (vs : List V) (Q : VK) (E : XK), Room k (A.deeper (envOfC n (defScope st) s.heap.objs.size f cdv)) → sp vs H Q E →
      ∃ t, PSs (cxOf (L2.CX P w) P w K mg base N n (defScope st) f cdv A outer s H E) (defBody st) t ∧ t { nx := fun _ H' => Q .non H', rt := Q } (start N vs) H) : Has P w K mg base (L2.CX P w) (k + 1) n ps sp := by
  obtain ⟨f, fd, F, g, b⟩ := D
  exact ⟨f, fd, F.okX S len (hbody f), g, F.kp, b⟩
theorem Has.mono {CX : CXT} {j : Nat} (h : Has P w K mg base CX j n ps sp) (l : j ≤ k) : Has P w K mg base CX k n ps sp := by
  obtain ⟨f, fd, F, r⟩ := h
  exact ⟨f, fd, F.mono l, r⟩
theorem Has.imp {CX : CXT} {sp' : Sp} (h : Has P w K mg base CX k n ps sp) (i : ∀ vs H Q E, sp' vs H Q E → sp vs H Q E) : Has P w K mg base CX k n ps sp' := by
  obtain ⟨f, fd, F, r⟩ := h
  exact ⟨f, fd, F.imp i, r⟩
end
section
variable {X : Cx} {CX : CXT} {k : Nat} {ps : List Str} {sp : Sp} {E : XK} {n : Str} {p pos : Pos} {e : Expr} {es : List Expr} {t : TA}
theorem pe_callH (D : Has X.prog X.w X.K X.mg X.base CX k n ps sp) (hr : Room k X.A) (hg : Gl X n) (hx : Passes CX X E) (ha : PA X (e :: es) t) (hdb : (n == ("__debug__" : Str)) = false := by decide)
    (he : starEach (e :: es) X.env = (false, eval e X.env) :: starEach es X.env := by rfl) (hpl : (backTo pos (starEach es X.env)).any (·.1) = false := by rfl) : PE X (.Call (.Name n p) (e :: es) [] pos) (tCall sp [] E t) := by
  obtain ⟨f, fd, F, g, kp, b⟩ := D
  exact pe_call F hr hg g kp b .nil hx ha hdb he hpl
theorem pe_callH0 (D : Has X.prog X.w X.K X.mg X.base CX k n ps sp) (hr : Room k X.A) (hg : Gl X n) (hx : Passes CX X E) (hdb : (n == ("__debug__" : Str)) = false := by decide) : PE X (.Call (.Name n p) [] [] pos) (tCall sp [] E tNil) := by
  obtain ⟨f, fd, F, g, kp, b⟩ := D
  exact pe_call0 F hr hg g kp b .nil hx hdb
end
section
variable {X : Cx}
/-- xs == [], any xs -/
theorem op_eqNil (hu : X.A.units + 64 < cLine) : OpR X (compareOp .Eq) (fun x y H Q => ∃ a b xs, x = .ref a ∧ y = .ref b ∧ SqL X.K H a xs ∧ H b = some (.lst []) ∧ Q (.bl xs.isEmpty) H) := by
  intro pins s σ H x y v u Q I rx ry h
  obtain ⟨a, b, xs, rfl, rfl, ha, hb, q⟩ := h
  cases xs with
  | nil => exact op_eqD hu pins s σ H _ _ v u Q I rx ry ⟨.list [], .list [], .lst ha .nil, .lst (SqL.of hb) .nil, rfl, rfl, q⟩
  | cons z zs =>
    cases rx
    cases ry
    obtain ⟨its, r, p1, _⟩ := I.list ha
    obtain ⟨its2, r2, p2, _⟩ := I.list (SqL.of hb)
    cases r2
    refine SeqAt.eq_list_lengthsAt p1.isList p2.isList ?_ (by omega) ⟨.bl false, H, I, rfl, q⟩
    cases r
    rfl
end
/-! rules that name K -/
def rLenK (K : PySem.W.Frag) : List V → Hp → VK → Prop := fun xs H Q => ∃ p ys, xs = [.ref p] ∧ (SqL K H p ys ∨ SqT K H p ys) ∧ Q (.int ys.length) H
section
variable {X : Cx} {K : PySem.W.Frag}
theorem call_lenK (hK : X.K = K) : CallR X (.builtin "len") (rLenK K) := by
  subst hK
  exact call_len_seq
theorem call_isiK (hK : X.K = K) : CallR X (.builtin "isinstance") (rIsi K) := by
  subst hK
  exact call_isi
theorem call_isiTK (hK : X.K = K) : CallR X (.builtin "isinstance") (rIsiT K) := by
  subst hK
  exact call_isiT
theorem ix_listK (hK : X.K = K) : IxR X (rIxL K) := by
  subst hK
  exact ix_list
theorem op_inK (hK : X.K = K) : OpR X (compareOp .In) (rIn K false) := by
  subst hK
  exact op_in_seq
theorem op_notInK (hK : X.K = K) : OpR X (compareOp .NotIn) (rIn K true) := by
  subst hK
  exact op_notIn_seq
end
/-! a list or a tuple, walked -/
def SqK (K : PySem.W.Frag) (k : Bool) (H : Hp) (a : Addr) (xs : List V) : Prop := match k with
  | false => SqL K H a xs
  | true => SqT K H a xs
theorem SqK.same {K : PySem.W.Frag} {k : Bool} {H H' : Hp} {a : Addr} {xs : List V} (e : Same H H') (h : SqK K k H a xs) : SqK K k H' a xs := by
  cases k with
  | false =>
    rcases h with (h | ⟨o, h⟩) | h
    · exact .inl (.inl (e _ _ h))
    · exact .inl (.inr ⟨o, e _ _ h⟩)
    · exact .inr h
  | true =>
    rcases h with (h | ⟨o, h⟩) | h
    · exact .inl (.inl (e _ _ h))
    · exact .inl (.inr ⟨o, e _ _ h⟩)
    · exact .inr h
def iSq (K : PySem.W.Frag) (te : TE) : TI := fun σ H R => te σ H fun x H1 => ∃ (a : Addr) (xs : List V) (k : Bool), x = .ref a ∧ SqK K k H1 a xs ∧ ∀ J, Walk J xs.length (fun G => SqK K k G a xs) (YAt xs) → R J H1
theorem pi_sq {X : Cx} {K : PySem.W.Frag} (hK : X.K = K) {l tg : Expr} {te : TE} (hl : PE X l te) : PI X tg l (iSq K te) := by
  subst hK
  refine ⟨fun pins s σ H R I h => thn (hl.run pins s σ H _ I h) fun v s1 ⟨x, H1, I1, r1, a, xs, k, e, hq, q⟩ => ?_⟩
  subst e
  cases r1
  have done : ∀ b ∈ [s1.heap.objs.size], FpOk X pins H1 b := fun b hb => by
    rw [List.mem_singleton.mp hb]
    exact I1.fpOk (Nat.le_refl _) (I1.hok.fresh (Nat.le_refl _))
  cases k with
  | false =>
    obtain ⟨its, rv, p, hz⟩ := I1.list hq
    have q := q _ walk_list
    refine wpAny_pyIter_list p.isList ?_
    exact ⟨s1.heap.objs.size, [s1.heap.objs.size], _, _, H1, rfl, I1.kept (t' := s1.toks) fun b o e => Heap.get?_push_of_some _ e, turn_list a _, ⟨_, Heap.get?_push_size _ rfl, rfl, rfl⟩, done, q⟩
  | true =>
    obtain ⟨its, rv, p, hz⟩ := I1.tuple hq
    have q := q _ walk_tup
    refine wpAny_pyIter_tuple (show s1.heap.IsTuple a its.toArray from p) ?_
    exact ⟨s1.heap.objs.size, [s1.heap.objs.size], _, _, H1, rfl, I1.kept (t' := s1.toks) fun b o e => Heap.get?_push_of_some _ e, turn_tuple a _, ⟨_, Heap.get?_push_size _ rfl, rfl, rfl⟩, done, q⟩
/-! names, sign by sign -/
def az (c : Nat) : Bool := decide (97 ≤ c) && decide (c ≤ 122)
theorem az_iff {c : Nat} : az c = true ↔ 97 ≤ c ∧ c ≤ 122 := by
  unfold az
  rw [Bool.and_eq_true, decide_eq_true_iff, decide_eq_true_iff]
theorem ch128 : ∀ c, c < 128 → (Unicode.isAlpha c && !(Unicode.isUpper c || Unicode.isTitle c)) = az c ∧ (az c = true → Unicode.isLower c = true) := by decide +kernel
theorem nameB_eq (z : Str) : nameB z = (decide (z.length ≤ 6) && (decide (0 < z.length) && z.cps.all az)) := by
  unfold nameB Txt.isascii Txt.isalpha Txt.islower
  congr 1
  apply Bool.eq_iff_iff.mpr
  simp only [Bool.and_eq_true, decide_eq_true_iff, Array.all_eq_true', Array.any_eq_true', Bool.not_eq_true', Array.any_eq_false', gt_iff_lt]
  constructor
  · rintro ⟨h1, ⟨h2, h3⟩, _, h5⟩
    refine ⟨h2, fun c hc => ?_⟩
    rw [← (ch128 c (h1 c hc)).1, Bool.and_eq_true]
    refine ⟨h3 c hc, ?_⟩
    have := h5 c hc
    simpa using this
  · rintro ⟨h2, h3⟩
    have lt : ∀ c, c ∈ z.cps → c < 128 := fun c hc => by
      have := (az_iff.mp (h3 c hc)).2
      omega
    refine ⟨lt, ⟨h2, fun c hc => ?_⟩, ?_, fun c hc => ?_⟩
    · have := (ch128 c (lt c hc)).1
      rw [h3 c hc, Bool.and_eq_true] at this
      exact this.1
    · have h0 : 0 < z.cps.size := h2
      exact ⟨z.cps[0], Array.getElem_mem h0, (ch128 _ (lt _ (Array.getElem_mem h0))).2 (h3 _ (Array.getElem_mem h0))⟩
    · have := (ch128 c (lt c hc)).1
      rw [h3 c hc, Bool.and_eq_true] at this
      simpa using this.2
def alphaS : Str := "abcdefghijklmnopqrstuvwxyz"
theorem alpha_list : alphaS.cps.toList = List.range' 97 26 := by decide +kernel
theorem mem_alpha {c : Nat} : decide (c ∈ alphaS.cps.toList) = az c := by
  rw [alpha_list]
  apply Bool.eq_iff_iff.mpr
  rw [decide_eq_true_iff, List.mem_range'_1, az_iff]
  omega
end Lay
set_option Elab.async false
set_option linter.all false
set_option maxRecDepth 100000
set_option maxHeartbeats 4000000
set_option pp.maxSteps 900
namespace Lay
open PySem PySem.Spec PyProof.Rows L2
def spWName (K : PySem.W.Frag) : Sp := fun vs H Q _ => ∃ x b, vs = [x] ∧ NmB K H x b ∧ ∀ H', Same H H' → Q (.bl b) H'
/-- xs == [], any xs -/
def wNm (z : Str) (i : Nat) : List V := ((z.cps.toList.take i).filter fun c => !az c).map fun c => .str ⟨#[c]⟩
abbrev sIsN : Stmt := top 20
def IsNN : List Str := ["_law_value_here", "_law_sign"]
abbrev IsNP : List Str := ["_law_value_here"]
section
variable {P : Program} {w : World} {K : PySem.W.Frag} {mg : Str → Option Value} {base : Heap}
theorem scIsN : FnScope IsNN IsNP (defScope sIsN) := ⟨rfl, rfl, rfl, by decide +kernel, rfl, by decide +kernel, by decide +kernel⟩
theorem has_IsN (B : Bt mg) (D : Dfn K mg "_law_is_name" sIsN IsNP) : Has P w K mg base CX0 1 "_law_is_name" IsNP (spWName K) := by
  refine D.has scIsN (fun vs H Q E h => ?_) (fun f cdv A outer s H vs Q E hr h => ?_)
  · obtain ⟨x, b, rfl, _⟩ := h
    rfl
  · obtain ⟨x, b, rfl, h, k⟩ := h
    refine ⟨_, (pss_cons (ps_if (PW.pt (pw_or (pt_not (pt_val (pe_callB call_isi (by rfl) B.isinstance (by decide +kernel) (pa_cons (pv 0) (pa_cons (pe_bltn (v := .ty "str") (by rfl) B.str (by decide +kernel) rfl) pa_nil))))) (pw_or (pt_cmpR op_lt (pe_callB call_len_str (by rfl) B.len PySem.boot_len (pa_cons (pv 0) pa_nil)) pe_int (nomark _)) (pw_or1 (pt_cmpR op_gt (pe_callB call_len_str (by rfl) B.len PySem.boot_len (pa_cons (pv 0) pa_nil)) pe_int (nomark _))))))
      (pss_one (ps_ret pe_bl))
      pss_nil)
    (pss_one (ps_ret (pe_cmpR (op_eqNil hr.units) (pe_lc (own := [("_law_sign", 1)]) (g := gName 1) (by rfl) scIsN.nd (pi_str (pv 0)) (blkOk_by (N := IsNN) (sc := defScope sIsN) (by decide +kernel)) (fun _ _ _ _ _ => pg_name (i := 1) scIsN.nd rfl (Or.inl rfl)) (fun _ _ _ _ _ => pts_one (pt_cmpR op_notIn_sign (pv 1) pe_str (by rfl))) (fun _ _ _ _ _ => (pv 1))) (pe_lst pa_nil) (nomark _))))), ?_⟩
    rcases h with ⟨z, rfl, hz, rfl⟩ | ⟨rfl, h⟩
    · obtain ⟨t, ty, e⟩ := isT_str (K := K) (H := H) (z := z)
      refine ⟨_, rfl, _, _, _, _, _, rfl, .ty _, ty, e, _, rfl, ?_⟩
      refine iteN rfl ?_
      refine ⟨_, rfl, _, rfl, hz, _, _, rfl, rfl, _, rfl, ?_⟩
      have lz : z.length = z.cps.toList.length := rfl
      have ne := nameB_eq z
      refine ite2 (fun q => ?_) (fun q => ?_)
      · have q1 : ¬ 0 < z.length := by
          have := of_decide_eq_true q
          omega
        have e0 : nameB z = false := by rw [ne, decide_eq_false q1, Bool.false_and, Bool.and_false]
        rw [e0] at k
        exact k _ (fun _ _ e => e)
      · have q1 : 0 < z.length := by
          have : ¬ ((z.length : Int) < 1) := fun w => q (decide_eq_true w)
          omega
        refine ⟨_, rfl, _, rfl, hz, _, _, rfl, rfl, _, rfl, ?_⟩
        refine ite2 (fun q2 => ?_) (fun q2 => ?_)
        · have q3 : ¬ z.length ≤ 6 := by
            have : (6 : Int) < z.length := of_decide_eq_true q2
            omega
          have e0 : nameB z = false := by rw [ne, decide_eq_false q3, Bool.false_and]
          rw [e0] at k
          exact k _ (fun _ _ e => e)
        · have q3 : z.length ≤ 6 := by
            have : ¬ ((6 : Int) < z.length) := fun w => q2 (decide_eq_true w)
            omega
          rw [ne, decide_eq_true q3, decide_eq_true q1, Bool.true_and, Bool.true_and] at k
          refine ⟨_, rfl, z, rfl, fun Dl nD => lc_it walk_str (fun i G => Same H G ∧ G Dl = some (.lst (wNm z i))) ⟨Same.new nD, upd_same⟩ (fun _ _ _ _ => trivial) ?_ ?_⟩
          · rintro i x G G' hi ⟨sG, hD⟩ ⟨rfl, c, hc, rfl⟩
            have hc2 : z.cps.toList[i]? = some c := by rw [← hc]; simp
            have et : wNm z (i + 1) = wNm z i ++ (if az c = true then [] else [V.str ⟨#[c]⟩]) := by
              unfold wNm
              rw [List.take_succ, hc2, List.filter_append, List.map_append]
              congr 1
              cases q : az c with
              | true => simp [q]
              | false => simp [q]
            refine ⟨rfl, _, rfl, c, alphaS, rfl, rfl, ?_⟩
            rw [mem_alpha]
            refine ⟨_, rfl, ?_⟩
            cases q : az c with
            | true =>
              refine iteN rfl ⟨sG, ?_⟩
              rw [hD, et, q]
              simp
            | false =>
              refine iteY rfl ⟨_, rfl, _, hD, ?_, fun a o e => ?_, ?_⟩
              · have : (wNm z i).length ≤ i := by
                  unfold wNm
                  rw [List.length_map]
                  exact Nat.le_trans (List.length_filter_le _ _) (by rw [List.length_take]; omega)
                have hi2 : i < z.length := hi
                exact Nat.lt_of_le_of_lt (show _ ≤ 6 by omega) (by decide)
              · rw [upd_ne (ne_of_none e nD)]
                exact sG _ _ e
              · rw [upd_same, et, q]
                simp
          · rintro G ⟨sG, hD⟩
            have nb : ∀ b, G b = none → b ≠ Dl := fun b e z => by
              rw [z, hD] at e
              cases e
            refine ⟨(by show 0 ≤ sizeLine; exact Nat.zero_le _), fun b hb => ⟨Dl, b, _, rfl, rfl, SqL.of (by rw [upd_ne (Ne.symm (nb b hb))]; exact hD), upd_same, ?_⟩⟩
            have ee : (wNm z z.cps.size).isEmpty = z.cps.all az := by
              unfold wNm
              rw [show z.cps.toList.take z.cps.size = z.cps.toList from List.take_of_length_le (by simp)]
              apply Bool.eq_iff_iff.mpr
              rw [List.isEmpty_iff, List.map_eq_nil_iff, List.filter_eq_nil_iff, Array.all_eq_true']
              constructor
              · intro h c hc
                have := h c (by simpa using hc)
                simpa using this
              · intro h c hc
                have := h c (by simpa using hc)
                simp [this]
            rw [ee]
            exact k _ (sG.trans (Same.new hb))
    · obtain ⟨t, ty, e⟩ := h
      refine ⟨_, rfl, _, _, _, _, _, rfl, .ty _, ty, e, _, rfl, iteY rfl ?_⟩
      exact k _ (fun _ _ e => e)
end
end Lay
set_option Elab.async false
set_option linter.all false
set_option maxRecDepth 100000
set_option maxHeartbeats 4000000
set_option pp.maxSteps 900
namespace Lay
open PySem PySem.Spec PyProof.Rows L2
/-- what is heard: nothing, or the first that is wrong -/
def hearW : Option Str → V
  | none => .non
  | some z => .str z
def gList (b1 b2 b3 b4 b5 b6 b7 b8 : Bool) : List V := [.bl b1, .bl b2, .bl b3, .bl b4, .bl b5, .bl b6, .bl b7, .bl b8]
theorem first_idx (b1 b2 b3 b4 b5 b6 b7 b8 : Bool) : (firstW b1 b2 b3 b4 b5 b6 b7 b8 = none ∧ inV (.bl false) (gList b1 b2 b3 b4 b5 b6 b7 b8) = false) ∨ ∃ (j : Nat) (z : Str), firstW b1 b2 b3 b4 b5 b6 b7 b8 = some z ∧ inV (.bl false) (gList b1 b2 b3 b4 b5 b6 b7 b8) = true ∧ (gList b1 b2 b3 b4 b5 b6 b7 b8)[j]? = some (.bl false) ∧
    (∀ (m : Nat) (z' : V), m < j → (gList b1 b2 b3 b4 b5 b6 b7 b8)[m]? = some z' → eqV z' (.bl false) = false) ∧ (pnames.map V.str)[j]? = some (.str z) := by
  cases b1 with
  | false => exact .inr ⟨0, "word", rfl, rfl, rfl, (fun m z' hm _ => absurd hm (Nat.not_lt_zero _)), rfl⟩
  | true =>
  cases b2 with
  | false => exact .inr ⟨1, "parts", rfl, rfl, rfl, (fun m z' hm hz => by
      have e : m = 0 := by omega
      subst e
      cases hz
      rfl), rfl⟩
  | true =>
  cases b3 with
  | false => exact .inr ⟨2, "broken", rfl, rfl, rfl, (fun m z' hm hz => by
      rcases (show m = 0 ∨ m = 1 by omega) with rfl | rfl <;> (cases hz; rfl)), rfl⟩
  | true =>
  cases b4 with
  | false => exact .inr ⟨3, "marked", rfl, rfl, rfl, (fun m z' hm hz => by
      rcases (show m = 0 ∨ m = 1 ∨ m = 2 by omega) with rfl | rfl | rfl <;> (cases hz; rfl)), rfl⟩
  | true =>
  cases b5 with
  | false => exact .inr ⟨4, "ahead", rfl, rfl, rfl, (fun m z' hm hz => by
      rcases (show m = 0 ∨ m = 1 ∨ m = 2 ∨ m = 3 by omega) with rfl | rfl | rfl | rfl <;> (cases hz; rfl)), rfl⟩
  | true =>
  cases b6 with
  | false => exact .inr ⟨5, "behind", rfl, rfl, rfl, (fun m z' hm hz => by
      rcases (show m = 0 ∨ m = 1 ∨ m = 2 ∨ m = 3 ∨ m = 4 by omega) with rfl | rfl | rfl | rfl | rfl <;> (cases hz; rfl)), rfl⟩
  | true =>
  cases b7 with
  | false => exact .inr ⟨6, "blanks", rfl, rfl, rfl, (fun m z' hm hz => by
      rcases (show m = 0 ∨ m = 1 ∨ m = 2 ∨ m = 3 ∨ m = 4 ∨ m = 5 by omega) with rfl | rfl | rfl | rfl | rfl | rfl <;> (cases hz; rfl)), rfl⟩
  | true =>
  cases b8 with
  | false => exact .inr ⟨7, "left", rfl, rfl, rfl, (fun m z' hm hz => by
      rcases (show m = 0 ∨ m = 1 ∨ m = 2 ∨ m = 3 ∨ m = 4 ∨ m = 5 ∨ m = 6 by omega) with rfl | rfl | rfl | rfl | rfl | rfl | rfl <;> (cases hz; rfl)), rfl⟩
  | true =>
  exact .inl ⟨rfl, rfl⟩

def spDue (K : PySem.W.Frag) : Sp := fun vs H Q _ => ∃ (l : Addr) (x1 x2 x3 x4 x5 x6 x7 x8 : V) (b1 b2 b3 b4 b5 b6 b7 b8 : Bool), vs = [.ref l] ∧ H l = some (.lst [x1, x2, x3, x4, x5, x6, x7, x8]) ∧ Vd K H x1 x2 x3 x4 x5 x6 x7 x8 b1 b2 b3 b4 b5 b6 b7 b8 ∧
  ∀ H', Same H H' → Q (hearW (firstW b1 b2 b3 b4 b5 b6 b7 b8)) H'
abbrev sDue : Stmt := top 21
def DueN : List Str := ["_law_some", "_law_some_parts", "_law_is_list", "_law_good", "_law_is_number", "_law_names", "_law_part", "_law_one"]
abbrev DueP : List Str := ["_law_some"]
section
variable {P : Program} {w : World} {K : PySem.W.Frag} {mg : Str → Option Value} {base : Heap}
theorem scDue : FnScope DueN DueP (defScope sDue) := ⟨rfl, rfl, rfl, by decide +kernel, rfl, by decide +kernel, by decide +kernel⟩
theorem has_Due (B : Bt mg) (DN : Has P w K mg base CX0 1 "_law_is_name" IsNP (spWName K)) (D : Dfn K mg "_law_due" sDue DueP) : Has P w K mg base CX0 2 "_law_due" DueP (spDue K) := by
  refine D.has scDue (fun vs H Q E h => ?_) (fun f cdv A outer s H vs Q E hr h => ?_)
  · obtain ⟨l, x1, x2, x3, x4, x5, x6, x7, x8, b1, b2, b3, b4, b5, b6, b7, b8, rfl, _⟩ := h
    rfl
  · obtain ⟨l, x1, x2, x3, x4, x5, x6, x7, x8, b1, b2, b3, b4, b5, b6, b7, b8, rfl, hl, hv, k⟩ := h
    have hu : (A.deeper (envOfC "_law_due" (defScope sDue) s.heap.objs.size f cdv)).units + 64 < cLine := by have := hr.units; omega
    refine ⟨_, (pss_cons (ps_set (i := 1) scDue.nd rfl (.inl rfl) (pe_ix ix_list (pv 0) pe_int (fun _ _ => rfl)))
    (C8.pss_cut (ps_set (i := 2) scDue.nd rfl (.inl rfl) (pe_and (pe_callB (call_isiTK (K := K) rfl) (by rfl) B.isinstance (by decide +kernel) (pa_cons (pv 1) (pa_cons (pe_tup (pa_cons (pe_bltn (v := .ty "list") (by rfl) B.list (by decide +kernel) rfl) (pa_cons (pe_bltn (v := .ty "tuple") (by rfl) B.tuple (by decide +kernel) rfl) pa_nil))) pa_nil))) (pe_one (pe_cmpR op_gt (pe_callB (call_lenK (K := K) rfl) (by rfl) B.len PySem.boot_len (pa_cons (pv 1) pa_nil)) pe_int (nomark _)))))
    (C8.pss_cut (ps_set (i := 3) scDue.nd rfl (.inl rfl) (pe_lst (pa_cons (pe_callH DN hr (by rfl) pass0 (pa_cons (pe_ix ix_list (pv 0) pe_int (fun _ _ => rfl)) pa_nil)) (pa_cons (pe_and (pv 2) (pe_one (pe_cmpR (op_eqNil hu) (pe_lc (own := [("_law_part", 6)]) (g := gName 6) (by rfl) scDue.nd (pi_sq (K := K) rfl (pv 1)) (blkOk_by (N := DueN) (sc := defScope sDue) (by decide +kernel)) (fun _ _ _ _ _ => pg_name (i := 6) scDue.nd rfl (Or.inl rfl)) (fun _ _ _ _ _ => pts_one (pt_not (pt_val (pe_callH DN hr (by rfl) pass0 (pa_cons (pv 6) pa_nil))))) (fun _ _ _ _ _ => (pv 6))) (pe_lst pa_nil) (nomark _)))) pa_nil))))
    (pss_cons (ps_expr (pe_bm PySem.F.plainAttrs_list PySem.F.slot_list_extend PySem.F.type_list_extend mt_extend (pv 3) (pa_cons (pe_lst (pa_cons (pe_callB (call_isiK (K := K) rfl) (by rfl) B.isinstance (by decide +kernel) (pa_cons (pe_ix ix_list (pv 0) pe_int (fun _ _ => rfl)) (pa_cons (pe_bltn (v := .ty "bool") (by rfl) B.bool (by decide +kernel) rfl) pa_nil))) (pa_cons (pe_callB (call_isiK (K := K) rfl) (by rfl) B.isinstance (by decide +kernel) (pa_cons (pe_ix ix_list (pv 0) pe_int (fun _ _ => rfl)) (pa_cons (pe_bltn (v := .ty "bool") (by rfl) B.bool (by decide +kernel) rfl) pa_nil))) pa_nil))) pa_nil)))
    (C8.pss_cut (ps_expr (pe_bm PySem.F.plainAttrs_list PySem.F.slot_list_extend PySem.F.type_list_extend mt_extend (pv 3) (pa_cons (pe_lc (own := [("_law_one", 7)]) (g := gName 7) (tt := tYes) (by rfl) scDue.nd (pi_list (pe_slice sl_list (pv 0) (po_some pe_int) (po_some pe_int))) (blkOk_by (N := DueN) (sc := defScope sDue) (by decide +kernel)) (fun _ _ _ _ _ => pg_name (i := 7) scDue.nd rfl (Or.inl rfl)) (fun _ _ _ _ _ => pts_nil) (fun _ _ _ _ _ => (pe_and (pe_callB (call_isiK (K := K) rfl) (by rfl) B.isinstance (by decide +kernel) (pa_cons (pv 7) (pa_cons (pe_bltn (v := .ty "str") (by rfl) B.str (by decide +kernel) rfl) pa_nil))) (pe_one (pe_or (pe_cmpR op_eq (pv 7) pe_str (nomark _)) (pe_one (pe_callH DN hr (by rfl) pass0 (pa_cons (pv 7) pa_nil)))))))) pa_nil)))
    (C8.pss_cut (ps_set (i := 4) scDue.nd rfl (.inl rfl) (pe_and (pe_callB (call_isiK (K := K) rfl) (by rfl) B.isinstance (by decide +kernel) (pa_cons (pe_ix ix_list (pv 0) pe_int (fun _ _ => rfl)) (pa_cons (pe_bltn (v := .ty "int") (by rfl) B.int (by decide +kernel) rfl) pa_nil))) (pe_one (pe_not (pe_callB (call_isiK (K := K) rfl) (by rfl) B.isinstance (by decide +kernel) (pa_cons (pe_ix ix_list (pv 0) pe_int (fun _ _ => rfl)) (pa_cons (pe_bltn (v := .ty "bool") (by rfl) B.bool (by decide +kernel) rfl) pa_nil)))))))
    (C8.pss_cut (ps_expr (pe_bm PySem.F.plainAttrs_list PySem.F.slot_list_extend PySem.F.type_list_extend mt_extend (pv 3) (pa_cons (pe_lst (pa_cons (pe_and (pv 4) (pe_one (pe_chain op_le op_le pe_int (pe_ix ix_list (pv 0) pe_int (fun _ _ => rfl)) pe_int))) (pa_cons (pe_callB (call_isiK (K := K) rfl) (by rfl) B.isinstance (by decide +kernel) (pa_cons (pe_ix ix_list (pv 0) pe_int (fun _ _ => rfl)) (pa_cons (pe_bltn (v := .ty "bool") (by rfl) B.bool (by decide +kernel) rfl) pa_nil))) pa_nil))) pa_nil)))
    (pss_cons (ps_set (i := 5) scDue.nd rfl (.inl rfl) (pe_lst (pa_cons pe_str (pa_cons pe_str (pa_cons pe_str (pa_cons pe_str (pa_cons pe_str (pa_cons pe_str (pa_cons pe_str (pa_cons pe_str pa_nil))))))))))
    (pss_one (ps_ret (pe_ifExp (pt_cmpR (op_notInK (K := K) rfl) pe_bl (pv 3) (by rfl)) pe_non (pe_ix ix_list (pv 5) (pe_bm PySem.F.plainAttrs_list PySem.F.slot_list_index PySem.F.type_list_index mt_index (pv 3) (pa_cons pe_bl pa_nil)) (fun _ _ => rfl))))))))))))), ?_⟩
    obtain ⟨h1, h2, h3, h4, h5, h6, h7, h8⟩ := hv
    refine ⟨_, rfl, l, _, _, _, rfl, rfl, SqL.of hl, rfl, ?_⟩
    refine ⟨fun σ G => ∃ il : Bool, σ = [some (.ref l), some x2, some (.bl il), none, none, none, none, none] ∧ Same H G ∧ (il = true → ∃ a xs kk bs, x2 = .ref a ∧ SqK K kk H a xs ∧ xs.length ≤ 1000 ∧ NmBs K H xs bs ∧ b2 = bs.all id) ∧ (il = false → b2 = false), ?_, ?_⟩
    · refine ⟨_, rfl, (by show 2 ≤ sizeLine; decide), fun p np => ?_⟩
      have sp := Same.new np (o := .tup [.ty "list", .ty "tuple"])
      rcases h2 with ⟨⟨t, ty, e⟩, rfl⟩ | ⟨a, xs, bs, rfl, hx, hn, hb, rfl⟩
      · refine ⟨_, p, _, t, _, false, rfl, upd_same, .cons (.ty _) (.cons (.ty _) .nil), TyX.same sp ty, e, _, rfl, iteN rfl ?_⟩
        exact ⟨false, rfl, sp, (fun z => nomatch z), fun _ => rfl⟩
      · obtain ⟨t, ty, e⟩ := SqX.seq hx
        refine ⟨_, p, _, t, _, true, rfl, upd_same, .cons (.ty _) (.cons (.ty _) .nil), TyX.same sp ty, e, _, rfl, iteY rfl ?_⟩
        have hx2 : ∃ kk, SqK K kk H a xs := by
          rcases hx with hx | hx
          · exact ⟨false, SqL.of hx⟩
          · exact ⟨true, SqT.of hx⟩
        obtain ⟨kk, hk⟩ := hx2
        refine ⟨_, rfl, a, xs, rfl, ?_, _, _, rfl, rfl, ?_⟩
        · rcases hx with hx | hx
          · exact .inl (SqL.of (sp _ _ hx))
          · exact .inr (SqT.of (sp _ _ hx))
        · refine ⟨decide (0 < xs.length), ?_, sp, fun z => ⟨a, xs, kk, bs, rfl, hk, hn, hb, by rw [z, Bool.true_and]⟩, fun z => by rw [z, Bool.false_and]⟩
          have e0 : decide ((0 : Int) < (xs.length : Nat)) = decide (0 < xs.length) := by
            by_cases q : 0 < xs.length
            · rw [decide_eq_true q, decide_eq_true (by omega)]
            · rw [decide_eq_false q, decide_eq_false (by omega)]
          show [some (V.ref l), some (.ref a), some (.bl (decide ((0 : Int) < (xs.length : Nat)))), none, none, none, none, none] = _
          rw [e0]
    · rintro σ G ⟨il, rfl, sG, y1, y2⟩
      refine ⟨fun σ G => ∃ g, σ = [some (.ref l), some x2, some (.bl il), some (.ref g), none, none, none, none] ∧ Same H G ∧ H g = none ∧ G g = some (.lst [.bl b1, .bl b2]), ?_, ?_⟩
      · refine ⟨_, rfl, l, _, _, _, rfl, rfl, SqL.of (sG _ _ hl), rfl, x1, b1, rfl, h1.same sG, fun G1 s1 => ⟨_, rfl, _, rfl, ?_⟩⟩
        have sG1 := sG.trans s1
        cases il with
        | false =>
          rw [y2 rfl]
          exact iteN rfl ⟨(by show 2 ≤ sizeLine; decide), fun g ng => ⟨g, rfl, sG1.trans (Same.new ng), sG1.free ng, upd_same⟩⟩
        | true =>
          refine iteY rfl ?_
          obtain ⟨a, xs, kk, bs, rfl, hk, hn, hb, rfl⟩ := y1 rfl
          refine ⟨_, rfl, a, xs, kk, rfl, hk.same sG1, fun J wJ Dl nD => lc_it wJ (fun i G => ∃ acc : List V, Same G1 G ∧ G Dl = some (.lst acc) ∧ acc.length ≤ i ∧ acc.isEmpty = (bs.take i).all id) ⟨[], Same.new nD, upd_same, Nat.le_refl _, rfl⟩ (fun i G _ q => by obtain ⟨_, q, _⟩ := q; exact hk.same (sG1.trans q)) ?_ ?_⟩
          · rintro i x G3 G4 hi ⟨acc, sG3, hD, la, ea⟩ ⟨rfl, hx⟩
            have li2 : i < bs.length := by rw [hb.1]; exact hi
            have eb : bs[i]? = some bs[i] := by simp [li2]
            have et2 : (bs.take (i + 1)).all id = ((bs.take i).all id && bs[i]) := by
              rw [List.take_succ, eb, List.all_append]
              simp
            refine ⟨rfl, _, rfl, x, bs[i], rfl, (hb.2 i x _ hx eb).same (sG1.trans sG3), fun G5 s5 => ⟨_, rfl, ?_⟩⟩
            have hD5 := s5 _ _ hD
            cases q : bs[i] with
            | true =>
              refine iteN rfl ⟨acc, sG3.trans s5, hD5, by omega, ?_⟩
              rw [et2, q, ea]
              simp
            | false =>
              refine iteY rfl ⟨_, rfl, acc, hD5, Nat.lt_of_le_of_lt (show _ ≤ 1000 by omega) (by decide), acc ++ [x], fun c u e => ?_, upd_same, ?_, ?_⟩
              · rw [upd_ne (ne_of_none e nD)]
                exact s5 _ _ (sG3 _ _ e)
              · rw [List.length_append]
                show acc.length + 1 ≤ i + 1
                omega
              · rw [et2, q]
                simp
          · rintro G3 ⟨acc, sG3, hD, la, ea⟩
            rw [show bs.take xs.length = bs by rw [← hb.1]; exact List.take_length] at ea
            refine ⟨(by show 0 ≤ sizeLine; exact Nat.zero_le _), fun b nb => ⟨Dl, b, acc, rfl, rfl, SqL.of (Same.new nb _ _ hD), upd_same, ?_⟩⟩
            rw [ea]
            have s9 := (sG1.trans sG3).trans (Same.new nb (o := .lst []))
            exact ⟨(by show 2 ≤ sizeLine; decide), fun g ng => ⟨g, rfl, s9.trans (Same.new ng), s9.free ng, upd_same⟩⟩
      · rintro σ G ⟨g, rfl, sG, ng, hg⟩
        obtain ⟨t3, y3, e3⟩ := h3.same sG
        obtain ⟨t4, y4, e4⟩ := h4.same sG
        refine ⟨_, rfl, .inl ⟨rfl, _, .inl (.inl hg)⟩, ?_⟩
        refine ⟨_, rfl, l, _, _, _, rfl, rfl, SqL.of (sG _ _ hl), rfl, _, _, _, _, _, rfl, .ty _, y3, e3, ?_⟩
        refine ⟨_, rfl, l, _, _, _, rfl, rfl, SqL.of (sG _ _ hl), rfl, _, _, _, _, _, rfl, .ty _, y4, e4, ?_⟩
        refine ⟨(by show 2 ≤ sizeLine; decide), fun m nm => ⟨g, m, _, _, rfl, rfl, Same.new nm _ _ hg, upd_same, (by show 2 + 2 ≤ sizeLine; decide), ?_⟩⟩
        have gm : g ≠ m := ne_of_none hg nm
        have s4 : Same H (upd (upd G m (.lst [.bl b3, .bl b4])) g (.lst [.bl b1, .bl b2, .bl b3, .bl b4])) := same_put (sG.trans (Same.new nm)) ng
        have hg4 : upd (upd G m (.lst [.bl b3, .bl b4])) g (.lst [.bl b1, .bl b2, .bl b3, .bl b4]) g = some (.lst [.bl b1, .bl b2, .bl b3, .bl b4]) := upd_same
        show C8.tCut _ _ _ _ (upd (upd G m (.lst [.bl b3, .bl b4])) g (.lst [.bl b1, .bl b2, .bl b3, .bl b4]))
        generalize upd (upd G m (.lst [.bl b3, .bl b4])) g (.lst [.bl b1, .bl b2, .bl b3, .bl b4]) = G4 at *
        refine ⟨fun σ G => σ = [some (.ref l), some x2, some (.bl il), some (.ref g), none, none, none, none] ∧ Same H G ∧ G g = some (.lst [.bl b1, .bl b2, .bl b3, .bl b4, .bl b5, .bl b6]), ?_, ?_⟩
        · refine ⟨_, rfl, .inl ⟨rfl, _, .inl (.inl hg4)⟩, ?_⟩
          refine ⟨_, rfl, _, rfl, _, rfl, l, _, rfl, SqL.of (s4 _ _ hl), fun c nc => ?_⟩
          have sc := Same.new nc (o := .lst (cutV [x1, x2, x3, x4, x5, x6, x7, x8] (some 4) (some 6)))
          have ec : cutV [x1, x2, x3, x4, x5, x6, x7, x8] (some 4) (some 6) = [x5, x6] := rfl
          rw [ec] at sc ⊢
          have hc : upd G4 c (.lst [x5, x6]) c = some (.lst [x5, x6]) := upd_same
          have hg5 := sc _ _ hg4
          have s5 := s4.trans sc
          have nec : g ≠ c := ne_of_none hg4 nc
          generalize upd G4 c (.lst [x5, x6]) = G5 at *
          refine ⟨c, rfl, ⟨_, SqL.of hc⟩, fun Dl nD => lc_list (xs := [x5, x6]) (fun i G => Same G5 G ∧ G Dl = some (.lst (([b5, b6].take i).map V.bl))) ⟨Same.new nD, upd_same⟩ (fun i G _ q => SqL.of (q.1 _ _ hc)) ?_ ?_⟩
          · rintro i x G hi ⟨sG, hD⟩
            have i2 : i < 2 := (List.getElem?_eq_some_iff.mp hi).1
            have one : ∀ (x : V) (b : Bool), RemV K H x b → [b5, b6][i]? = some b → [x5, x6][i]? = some x → ∀ (σ' : L2.St), σ'[7]? = some (some x) → ∀ (R : V → Hp → Prop), (∀ G', Same G5 G' → G' Dl = some (.lst (([b5, b6].take i).map V.bl)) → R (.bl b) G') → tAndV (tCB (rIsi K) (tCons (tVar 7) (tCons (tC (V.ty "str")) tNil))) (tOrV (tOp rEq (tVar 7) (tC (V.str ""))) (tCall (spWName K) [] E0 (tCons (tVar 7) tNil))) σ' G R := by
              intro x b hr hb hx σ' h7' R kR
              rcases (hr.same (s5.trans sG)) with ⟨z, rfl, hz, rfl⟩ | ⟨rfl, t, ty, e⟩
              · obtain ⟨t, ty, e⟩ := isT_str (K := K) (H := G) (z := z)
                refine ⟨_, h7', _, _, t, _, true, rfl, .ty _, ty, e, _, rfl, iteY rfl ⟨_, h7', rfl, _, rfl, ?_⟩⟩
                unfold remarkB at kR
                refine ite2 (fun q => ?_) (fun q => ?_)
                · rw [q] at kR
                  exact kR G sG hD
                · have q2 : decide (V.str z = V.str "") = false := by simpa using q
                  rw [q2, Bool.false_or] at kR
                  exact ⟨_, h7', _, nameB z, rfl, .inl ⟨z, rfl, hz, rfl⟩, fun G' s' => kR G' (sG.trans s') (s' _ _ hD)⟩
              · exact ⟨_, h7', _, _, t, _, false, rfl, .ty _, ty, e, _, rfl, iteN rfl (kR G sG hD)⟩
            refine ⟨rfl, ?_⟩
            have fin : ∀ b, [b5, b6][i]? = some b → ∀ G', Same G5 G' → G' Dl = some (.lst (([b5, b6].take i).map V.bl)) → ∃ acc, G' Dl = some (.lst acc) ∧ acc.length < sizeLine ∧ Same G5 (upd G' Dl (.lst (acc ++ [V.bl b]))) ∧ upd G' Dl (.lst (acc ++ [V.bl b])) Dl = some (.lst (([b5, b6].take (i + 1)).map V.bl)) := fun b hb G' s' h' => by
              refine ⟨_, h', Nat.lt_of_le_of_lt (show _ ≤ 2 by rw [List.length_map, List.length_take]; exact Nat.min_le_right _ _) (by decide), same_put s' nD, ?_⟩
              rw [upd_same, List.take_succ, hb, List.map_append]
              rfl
            rcases (show i = 0 ∨ i = 1 by omega) with rfl | rfl
            · cases hi
              exact one x5 b5 h5 rfl rfl _ rfl _ fun G' s' h' => fin b5 rfl G' s' h'
            · cases hi
              exact one x6 b6 h6 rfl rfl _ rfl _ fun G' s' h' => fin b6 rfl G' s' h'
          · rintro G ⟨sG, hD⟩
            have hg6 := sG _ _ hg5
            have neD : g ≠ Dl := ne_of_none hg5 nD
            refine ⟨g, Dl, _, _, rfl, rfl, hg6, hD, (by show 4 + 2 ≤ sizeLine; decide), ?_⟩
            exact ⟨rfl, same_put (s5.trans sG) ng, upd_same⟩
        · rintro σ G ⟨rfl, sG, hg⟩
          refine ⟨fun σ G => ∃ im : Bool, σ = [some (.ref l), some x2, some (.bl il), some (.ref g), some (.bl im), none, none, none] ∧ Same H G ∧ G g = some (.lst [.bl b1, .bl b2, .bl b3, .bl b4, .bl b5, .bl b6]) ∧ (im = true → ∃ i, x7 = .int i ∧ b7 = (decide (0 ≤ i) && decide (i < 3))) ∧ (im = false → b7 = false), ?_, ?_⟩
          · refine ⟨_, rfl, l, _, _, _, rfl, rfl, SqL.of (sG _ _ hl), rfl, ?_⟩
            rcases h7.same sG with ⟨i, rfl, e7⟩ | ⟨c1, c2, ⟨u1, v1, w1⟩, ⟨u2, v2, w2⟩, ec, e7⟩
            · obtain ⟨⟨u1, v1, w1⟩, u2, v2, w2⟩ := isT_int (K := K) (H := G) (z := i)
              refine ⟨_, _, u1, _, true, rfl, .ty _, v1, w1, _, rfl, iteY rfl ⟨_, rfl, l, _, _, _, rfl, rfl, SqL.of (sG _ _ hl), rfl, _, _, u2, _, false, rfl, .ty _, v2, w2, _, rfl, ?_⟩⟩
              exact ⟨true, rfl, sG, hg, fun _ => ⟨i, rfl, e7⟩, (fun z => nomatch z)⟩
            · refine ⟨_, _, u1, _, c1, rfl, .ty _, v1, w1, _, rfl, ?_⟩
              cases c1 with
              | true =>
                refine iteY rfl ⟨_, rfl, l, _, _, _, rfl, rfl, SqL.of (sG _ _ hl), rfl, _, _, u2, _, c2, rfl, .ty _, v2, w2, _, rfl, ?_⟩
                rw [Bool.true_and] at ec
                exact ⟨false, by rw [ec]; rfl, sG, hg, (fun z => nomatch z), fun _ => e7⟩
              | false =>
                exact iteN rfl ⟨false, rfl, sG, hg, (fun z => nomatch z), fun _ => e7⟩
          · rintro σ G ⟨im, rfl, sG, hg, m1, m2⟩
            obtain ⟨t8, y8, e8⟩ := h8.same sG
            refine ⟨fun σ G => σ = [some (.ref l), some x2, some (.bl il), some (.ref g), some (.bl im), none, none, none] ∧ Same H G ∧ G g = some (.lst (gList b1 b2 b3 b4 b5 b6 b7 b8)), ?_, ?_⟩
            · refine ⟨_, rfl, .inl ⟨rfl, _, .inl (.inl hg)⟩, _, rfl, _, rfl, ?_⟩
              have fin0 : tCons (tCB (rIsi K) (tCons (tOp (rIxL K) (tVar 0) (tC (.int 7))) (tCons (tC (.ty "bool")) tNil))) tNil [some (.ref l), some x2, some (.bl il), some (.ref g), some (.bl im), none, none, none] G fun xs H2 => xs = [.bl b8] ∧ H2 = G :=
                ⟨_, rfl, l, _, _, _, rfl, rfl, SqL.of (sG _ _ hl), rfl, _, _, t8, _, b8, rfl, .ty _, y8, e8, rfl, rfl⟩
              have rest : ∀ (b : Bool), b = b7 → tCons (tCB (rIsi K) (tCons (tOp (rIxL K) (tVar 0) (tC (.int 7))) (tCons (tC (.ty "bool")) tNil))) tNil [some (.ref l), some x2, some (.bl il), some (.ref g), some (.bl im), none, none, none] G fun xs H2 => (.bl b :: xs).length ≤ sizeLine ∧ ∀ p, H2 p = none → ∃ l' b' xs' zs, V.ref g = .ref l' ∧ [V.ref p] = [.ref b'] ∧ upd H2 p (.lst (.bl b :: xs)) l' = some (.lst xs') ∧ upd H2 p (.lst (.bl b :: xs)) b' = some (.lst zs) ∧ xs'.length + zs.length ≤ sizeLine ∧
                  ([some (.ref l), some x2, some (.bl il), some (.ref g), some (.bl im), none, none, none] = ([some (.ref l), some x2, some (.bl il), some (.ref g), some (.bl im), none, none, none] : L2.St) ∧ Same H (upd (upd H2 p (.lst (.bl b :: xs))) l' (.lst (xs' ++ zs))) ∧ upd (upd H2 p (.lst (.bl b :: xs))) l' (.lst (xs' ++ zs)) g = some (.lst (gList b1 b2 b3 b4 b5 b6 b7 b8))) := by
                intro b eb
                subst eb
                refine ⟨_, rfl, l, _, _, _, rfl, rfl, SqL.of (sG _ _ hl), rfl, _, _, t8, _, b8, rfl, .ty _, y8, e8, (by show 2 ≤ sizeLine; decide), fun p np => ⟨g, p, _, _, rfl, rfl, Same.new np _ _ hg, upd_same, (by show 6 + 2 ≤ sizeLine; decide), rfl, same_put (sG.trans (Same.new np)) ng, upd_same⟩⟩
              cases im with
              | false => exact iteN rfl (rest false (m2 rfl).symm)
              | true =>
                obtain ⟨i, rfl, e7⟩ := m1 rfl
                refine iteY rfl ⟨_, rfl, l, _, _, _, rfl, rfl, SqL.of (sG _ _ hl), rfl, _, _, rfl, rfl, _, rfl, ?_⟩
                refine ite2 (fun q => ?_) (fun q => ?_)
                · rw [q, Bool.true_and] at e7
                  refine ⟨_, _, rfl, rfl, ?_⟩
                  refine rest _ ?_
                  rw [e7]
                  by_cases w : i < 3
                  · rw [decide_eq_true w, decide_eq_true (by omega)]
                  · rw [decide_eq_false w, decide_eq_false (by omega)]
                · have q2 : decide ((0 : Int) ≤ i) = false := by simpa using q
                  rw [q2, Bool.false_and] at e7
                  exact rest false e7.symm
            · rintro σ G ⟨rfl, sG, hg⟩
              refine ⟨(by show 8 ≤ sizeLine; decide), fun q nq => ?_⟩
              have hg2 := Same.new nq (o := .lst (pnames.map V.str)) _ _ hg
              have s2 := sG.trans (Same.new nq (o := .lst (pnames.map V.str)))
              refine ⟨_, rfl, g, _, rfl, .inl (SqL.of hg2), rfl, rfl, _, rfl, ?_⟩
              rcases first_idx b1 b2 b3 b4 b5 b6 b7 b8 with ⟨e1, e2⟩ | ⟨j, z, e1, e2, e3, e4, e5⟩
              · rw [e1] at k
                rw [e2]
                exact iteY rfl (k _ s2)
              · rw [e1] at k
                rw [e2]
                refine iteN rfl ?_
                have ez : (pnames.map V.str)[j]? = some (.str z) := e5
                refine ⟨_, rfl, _, rfl, .inl ⟨rfl, _, .inl (.inl hg2)⟩, g, _, _, j, _, rfl, rfl, SqL.of hg2, rfl, rfl, e3, rfl, e4, ?_⟩
                exact ⟨_, _, _, _, rfl, rfl, SqL.of upd_same, at_of rfl e5, k _ s2⟩
end
end Lay
set_option Elab.async false
set_option linter.all false
set_option maxRecDepth 100000
set_option maxHeartbeats 4000000
set_option pp.maxSteps 900
namespace Lay
open PySem PySem.Spec PyProof.Rows L2 KwX StX
def ks6 : List Str := ["left", "blanks", "behind", "ahead", "word", "parts"]
def pdQ : PD := ⟨"q", ["r"], true, true, "", "", 0, false⟩
theorem pdQ_ok : pdQ.Ok := ⟨by decide +kernel, by decide, by decide, by decide +kernel, by decide +kernel, by decide +kernel, by decide, by decide⟩
abbrev psPiece : List Str := ["self", "word", "parts", "broken", "marked", "ahead", "behind", "blanks", "left"]
def dPiece4 : List V := [.str "", .str "", .int 0, .bl false]
/-- the class D is no InvalidProgram, and a LayError -/
structure Kin (K : PySem.W.Frag) (mg : Str → Option Value) (D L DP : Addr) : Prop where
  gL : mg "LayError" = some (.ref L)
  gDP : mg "InvalidProgram" = some (.ref DP)
  kL : PySem.W.kitOne K (.ref D) (.ref L) = some true
  kP : PySem.W.kitOne K (.ref D) (.ref DP) = some false
  ex : PySem.W.exmOne K (.ref D) (.ref D) = some true
/-- what is had of Piece -/
structure PcF (P : Program) (w : World) (K : PySem.W.Frag) (mg : Str → Option Value) (base : Heap) (C D : Addr) : Prop where
  Z : PieceC K C
  gC : mg "Piece" = some (.ref C)
  made : ∃ f fd, Mk K C f ∧ FnOk P w K mg base CX0 3 f fd psPiece (spPieceI C K) ∧ FnOk P w K mg base (L2.CX P w) 4 f fd psPiece (spPieceV K C D) ∧ Binds K fd psPiece [] ∧ ∃ ds, Vals dPiece4 ds ∧ Binds K fd psPiece ds
  but : ∃ f, Meth K C "but" f ∧ FnRK P w K mg base (L2.CX P w) 6 f ks6 (fun vs zs H Q E => vs.length = slf.length ∧ zs.length = ks6.length ∧ ∀ d, H d = none → spButB K C D ks6 (vs ++ [V.ref d]) (upd H d (.dK (kvK ks6 zs))) Q E)
def spHea (K : PySem.W.Frag) : Sp := fun vs H Q _ => ∃ (l : Addr) (ib : Bool) (x1 x2 x3 x4 x5 x6 x7 x8 y3 y4 : V) (b1 b2 b3 b4 b5 b6 b7 b8 : Bool), vs = [.ref l, .bl ib] ∧ H l = some (.lst [x1, x2, y3, y4, x5, x6, x7, x8]) ∧ (ib = true → x3 = .bl true ∧ x4 = .bl true) ∧ (ib = false → y3 = x3 ∧ y4 = x4) ∧ Vd K H x1 x2 x3 x4 x5 x6 x7 x8 b1 b2 b3 b4 b5 b6 b7 b8 ∧
  ∀ H', Same H H' → Q (hearW (firstW b1 b2 b3 b4 b5 b6 b7 b8)) H'
abbrev sHea : Stmt := top 22
def HeaN : List Str := ["_law_some", "_law_is_but", "_law_found", "_law_zother", "e"]
abbrev HeaP : List Str := ["_law_some", "_law_is_but"]
section
variable {P : Program} {w : World} {K : PySem.W.Frag} {mg : Str → Option Value} {base : Heap}
theorem scHea : FnScope HeaN HeaP (defScope sHea) := ⟨rfl, rfl, rfl, by decide +kernel, rfl, by decide +kernel, by decide +kernel⟩
theorem has_Hea {C D fI L DP : Addr} (B : Bt mg) (Y : XC K mg D fI "InvalidPiece" "word") (N : Kin K mg D L DP) (T : PcF P w K mg base C D) (DF : Dfn K mg "_law_heard" sHea HeaP) : Has P w K mg base CX0 7 "_law_heard" HeaP (spHea K) := by
  refine DF.has scHea (fun vs H Q E h => ?_) (fun f cdv A outer s H vs Q E hr h => ?_)
  · obtain ⟨l, ib, x1, x2, x3, x4, x5, x6, x7, x8, y3, y4, b1, b2, b3, b4, b5, b6, b7, b8, rfl, _⟩ := h
    rfl
  · obtain ⟨l, ib, x1, x2, x3, x4, x5, x6, x7, x8, y3, y4, b1, b2, b3, b4, b5, b6, b7, b8, rfl, hl, hi, hj, hv, k⟩ := h
    obtain ⟨fP, dP, M, GI, GV, b0, ds4, hd4, bd4⟩ := T.made
    obtain ⟨fB, hm, GB⟩ := T.but
    refine ⟨_, (pss_cons (ps_set (i := 2) scHea.nd rfl (.inl rfl) pe_non)
      (pss_cons (ps_try_as (i := 4) rfl rfl scHea.nd rfl (by rfl) ⟨by rfl, by decide, .inl Y.gC⟩ takes0
        (fun W pn xe tk hp => pss_one (ps_if (pt_val (pv 1))
          (pss_cons (ps_set (i := 3) scHea.nd rfl (.inl rfl) (pe_make M GI (hr.mono (by decide)) (by rfl) T.gC bd4 hd4 pass0 (pa_cons pe_str (pa_cons (pe_lst (pa_cons pe_str pa_nil)) (pa_cons pe_bl (pa_cons pe_bl pa_nil))))))
            (pss_one (ps_expr (pe_methKwS (E := WE W) (pv 3) T.Z.cl hm GB hr (fun σ => passAt tk σ) (pk_cons (pe_ix (ix_listK (K := K) rfl) (pv 0) pe_int (fun _ _ => rfl)) (pk_cons (pe_ix (ix_listK (K := K) rfl) (pv 0) pe_int (fun _ _ => rfl)) (pk_cons (pe_ix (ix_listK (K := K) rfl) (pv 0) pe_int (fun _ _ => rfl)) (pk_cons (pe_ix (ix_listK (K := K) rfl) (pv 0) pe_int (fun _ _ => rfl)) (pk_cons (pe_ix (ix_listK (K := K) rfl) (pv 0) pe_int (fun _ _ => rfl)) (pk_cons (pe_ix (ix_listK (K := K) rfl) (pv 0) pe_int (fun _ _ => rfl)) pk_nil))))))))))
          (pss_one (ps_expr (pe_makeS (E := WE W) M GV (hr.mono (by decide)) (by rfl) T.gC b0 .nil (fun σ => passAt tk σ) (pa_cons (pe_ix (ix_listK (K := K) rfl) (pv 0) pe_int (fun _ _ => rfl)) (pa_cons (pe_ix (ix_listK (K := K) rfl) (pv 0) pe_int (fun _ _ => rfl)) (pa_cons (pe_ix (ix_listK (K := K) rfl) (pv 0) pe_int (fun _ _ => rfl)) (pa_cons (pe_ix (ix_listK (K := K) rfl) (pv 0) pe_int (fun _ _ => rfl)) (pa_cons (pe_ix (ix_listK (K := K) rfl) (pv 0) pe_int (fun _ _ => rfl)) (pa_cons (pe_ix (ix_listK (K := K) rfl) (pv 0) pe_int (fun _ _ => rfl)) (pa_cons (pe_ix (ix_listK (K := K) rfl) (pv 0) pe_int (fun _ _ => rfl)) (pa_cons (pe_ix (ix_listK (K := K) rfl) (pv 0) pe_int (fun _ _ => rfl)) pa_nil)))))))))))))
        (fun a oe cls d pn hz hf => pss_one (ps_set (i := 2) scHea.nd rfl (.inl rfl) (pe_ifExp (PW.pt (pw_and (pt_val (pe_callB (call_isEX hz hf) (by rfl) B.isinstance (by decide +kernel) (pa_cons (pv 4) (pa_cons (pe_glob (v := .ref L) (by rfl) N.gL rfl) pa_nil))))
          (pw_and1 (pt_not (pt_val (pe_callB (call_isEX hz hf) (by rfl) B.isinstance (by decide +kernel) (pa_cons (pv 4) (pa_cons (pe_glob (v := .ref DP) (by rfl) N.gDP rfl) pa_nil))))))))
          (pe_xf Y.xf Y.no hz hf (pv 4)) pe_str))))
      (pss_one (ps_ret (pv 2))))), ?_⟩
    refine ⟨_, rfl, _, rfl, ?_⟩
    cases ib with
    | true =>
      obtain ⟨rfl, rfl⟩ := hi rfl
      refine ⟨(by show 1 ≤ sizeLine; decide), fun q nq => ?_⟩
      refine fun p dx np nd ne => ?_
      have sq := Same.new nq (o := .lst [.str "r"])
      have np2 : upd (upd H q (.lst [.str "r"])) dx (.own p) p = none := by
        rw [upd_ne (Ne.symm ne)]
        exact np
      have s1 : Same H (upd (upd (upd H q (.lst [.str "r"])) dx (.own p)) p (.ins C dx [])) := (sq.trans (Same.new nd)).trans (Same.new np2)
      have nqp : q ≠ p := fun z => by
        rw [z] at np
        rw [upd_same] at np
        cases np
      have nqd : q ≠ dx := fun z => by
        rw [z] at nd
        rw [upd_same] at nd
        cases nd
      refine ⟨p, q, dx, pdQ, rfl, pdQ_ok, .inl (by rw [upd_ne nqp, upd_ne nqd, upd_same]; rfl), upd_same, fun H1 t kp hp ht => ⟨rfl, ?_⟩⟩
      have hpn : H p = none := sq.free np
      have sH : Same H H1 := fun a o e => kp a o (ne_of_none e hpn) (s1 _ _ e)
      have hl1 := sH _ _ hl
      refine ⟨_, rfl, p, dx, _, rfl, hp, rfl, ?_⟩
      refine ⟨_, rfl, l, _, _, _, rfl, rfl, SqL.of hl1, rfl, _, rfl, l, _, _, _, rfl, rfl, SqL.of hl1, rfl, _, rfl, l, _, _, _, rfl, rfl, SqL.of hl1, rfl, _, rfl, l, _, _, _, rfl, rfl, SqL.of hl1, rfl, _, rfl, l, _, _, _, rfl, rfl, SqL.of hl1, rfl, _, rfl, l, _, _, _, rfl, rfl, SqL.of hl1, rfl, ?_⟩
      refine ⟨rfl, rfl, fun d nd1 => ⟨p, d, t, dx, pdQ, [x8, x7, x6, x5, x1, x2], x1, x2, _, _, x5, x6, x7, x8, b1, b2, b3, b4, b5, b6, b7, b8, rfl, Same.new nd1 _ _ hp, upd_same, (by decide), rfl, rfl, hv.same (sH.trans (Same.new nd1)), fun e a G sG => ?_, fun z ez => ?_⟩⟩
      · rw [e] at k
        exact ⟨_, rfl, k G ((sH.trans (Same.new nd1)).trans sG)⟩
      · refine fun G d s2 n e => ⟨true, N.ex, fun _ a ha => ?_, (fun z => nomatch z)⟩
        have sF := (sH.trans (Same.new nd1)).trans s2
        rw [ez] at k
        refine ⟨_, rfl, D, d, _, _, _, _, rfl, rfl, rfl, e, Y.isC, .own _, N.kL, _, rfl, ?_⟩
        refine ⟨_, rfl, D, d, _, _, _, _, rfl, rfl, rfl, e, Y.isC, .own _, N.kP, _, rfl, ?_⟩
        exact ⟨_, rfl, rfl, rfl, d, _, _, rfl, e, rfl, _, rfl, k G sF⟩
    | false =>
      obtain ⟨rfl, rfl⟩ := hj rfl
      refine ⟨_, rfl, l, _, _, _, rfl, rfl, SqL.of hl, rfl, _, rfl, l, _, _, _, rfl, rfl, SqL.of hl, rfl, _, rfl, l, _, _, _, rfl, rfl, SqL.of hl, rfl, _, rfl, l, _, _, _, rfl, rfl, SqL.of hl, rfl, _, rfl, l, _, _, _, rfl, rfl, SqL.of hl, rfl, _, rfl, l, _, _, _, rfl, rfl, SqL.of hl, rfl, _, rfl, l, _, _, _, rfl, rfl, SqL.of hl, rfl, _, rfl, l, _, _, _, rfl, rfl, SqL.of hl, rfl, ?_⟩
      refine fun p dx np nd ne => ?_
      have np2 : upd H dx (.own p) p = none := by
        rw [upd_ne (Ne.symm ne)]
        exact np
      have s1 : Same H (upd (upd H dx (.own p)) p (.ins C dx [])) := (Same.new nd).trans (Same.new np2)
      refine ⟨p, dx, x1, x2, _, _, x5, x6, x7, x8, b1, b2, b3, b4, b5, b6, b7, b8, rfl, hv.same s1, upd_same, fun e H' kp => ⟨rfl, ?_⟩, fun z ez => ?_⟩
      · rw [e] at k
        exact ⟨_, rfl, k H' fun b o eb => kp b o (ne_of_none eb np) (s1 _ _ eb)⟩
      · refine fun G d s2 n e => ⟨true, N.ex, fun _ a ha => ?_, (fun z => nomatch z)⟩
        have sF := s1.trans s2
        rw [ez] at k
        refine ⟨_, rfl, D, d, _, _, _, _, rfl, rfl, rfl, e, Y.isC, .own _, N.kL, _, rfl, ?_⟩
        refine ⟨_, rfl, D, d, _, _, _, _, rfl, rfl, rfl, e, Y.isC, .own _, N.kP, _, rfl, ?_⟩
        exact ⟨_, rfl, rfl, rfl, d, _, _, rfl, e, rfl, _, rfl, k G sF⟩
end
end Lay
set_option Elab.async false
set_option linter.all false
set_option maxRecDepth 100000
set_option maxHeartbeats 4000000
set_option pp.maxSteps 900
namespace Lay
open PySem PySem.Spec PyProof.Rows L2
theorem BoxAt.same {b : Addr} {G G' : Hp} (s : Same G G') (h : BoxAt G b) : BoxAt G' b := by
  obtain ⟨o, e, y⟩ := h
  exact ⟨o, s _ _ e, y⟩
/-! values of any kind, that stand beside b and c -/
def At (v : V) : Prop := v = .non ∨ (∃ i, v = .int i) ∨ (∃ z, v = .str z ∧ z.length ≤ sizeLine) ∨ ∃ z, v = .bl z
def ItV (b c : Addr) (G : Hp) (v : V) : Prop := At v ∨ ∃ a, v = .ref a ∧ a ≠ b ∧ a ≠ c ∧ ((∃ xs, G a = some (.lst xs)) ∨ ∃ xs, G a = some (.tup xs))
def Vl (b c : Addr) (G : Hp) (v : V) : Prop := At v ∨ ∃ a xs, v = .ref a ∧ a ≠ b ∧ a ≠ c ∧ (G a = some (.lst xs) ∨ G a = some (.tup xs)) ∧ xs.length ≤ 1000 ∧ ∀ x ∈ xs, ItV b c G x
def K2 (b c : Addr) (H H' : Hp) : Prop := ∀ a o, a ≠ b → a ≠ c → H a = some o → H' a = some o
theorem K2.of_same {b c : Addr} {H H' : Hp} (s : Same H H') : K2 b c H H' := fun a o _ _ e => s a o e
theorem K2.of_kept {b c : Addr} {H H' : Hp} (s : Kept b H H') : K2 b c H H' := fun a o n _ e => s a o n e
theorem K2.put {b c : Addr} {H : Hp} {o : HO} : K2 b c H (upd H c o) := fun a u _ n e => by rw [upd_ne n]; exact e
theorem K2.trans {b c : Addr} {H H1 H2 : Hp} (x : K2 b c H H1) (y : K2 b c H1 H2) : K2 b c H H2 := fun a o n m e => y a o n m (x a o n m e)
theorem ItV.k2 {b c : Addr} {G G' : Hp} {v : V} (k : K2 b c G G') (h : ItV b c G v) : ItV b c G' v := by
  rcases h with h | ⟨a, e, n, m, h⟩
  · exact .inl h
  · refine .inr ⟨a, e, n, m, ?_⟩
    rcases h with ⟨xs, h⟩ | ⟨xs, h⟩
    · exact .inl ⟨xs, k _ _ n m h⟩
    · exact .inr ⟨xs, k _ _ n m h⟩
theorem Vl.k2 {b c : Addr} {G G' : Hp} {v : V} (k : K2 b c G G') (h : Vl b c G v) : Vl b c G' v := by
  rcases h with h | ⟨a, xs, e, n, m, h, l, i⟩
  · exact .inl h
  · exact .inr ⟨a, xs, e, n, m, h.imp (k _ _ n m) (k _ _ n m), l, fun x hx => (i x hx).k2 k⟩
theorem Vl.same {b c : Addr} {G G' : Hp} {v : V} (k : Same G G') (h : Vl b c G v) : Vl b c G' v := h.k2 (K2.of_same k)
theorem vl_int {b c : Addr} {G : Hp} {i : Int} : Vl b c G (.int i) := .inl (.inr (.inl ⟨i, rfl⟩))
theorem vl_non {b c : Addr} {G : Hp} : Vl b c G .non := .inl (.inl rfl)
theorem vl_bl {b c : Addr} {G : Hp} {z : Bool} : Vl b c G (.bl z) := .inl (.inr (.inr (.inr ⟨z, rfl⟩)))
theorem vl_str {b c : Addr} {G : Hp} {z : Str} (h : z.length ≤ 20) : Vl b c G (.str z) := .inl (.inr (.inr (.inl ⟨z, rfl, Nat.le_trans h (by decide)⟩)))
theorem it_int {b c : Addr} {G : Hp} {i : Int} : ItV b c G (.int i) := .inl (.inr (.inl ⟨i, rfl⟩))
theorem it_non {b c : Addr} {G : Hp} : ItV b c G .non := .inl (.inl rfl)
theorem it_str {b c : Addr} {G : Hp} {z : Str} (h : z.length ≤ 20) : ItV b c G (.str z) := .inl (.inr (.inr (.inl ⟨z, rfl, Nat.le_trans h (by decide)⟩)))
theorem vl_seq {b c a : Addr} {G : Hp} {xs : List V} (n : a ≠ b) (m : a ≠ c) (h : G a = some (.lst xs) ∨ G a = some (.tup xs)) (l : xs.length ≤ 20) (i : ∀ x ∈ xs, ItV b c G x) : Vl b c G (.ref a) := .inr ⟨a, xs, rfl, n, m, h, Nat.le_trans l (by decide), i⟩
/-- what such values are for a piece -/
theorem At.str {K : PySem.W.Frag} {G : Hp} {v : V} (h : At v) : ∃ q, NmB K G v q := by
  rcases h with rfl | ⟨i, rfl⟩ | ⟨z, rfl, hz⟩ | ⟨z, rfl⟩
  · exact ⟨false, .inr ⟨rfl, _, .base .non, kit_ty (by decide +kernel)⟩⟩
  · exact ⟨false, .inr ⟨rfl, _, .base (.int i), kit_ty (by decide +kernel)⟩⟩
  · exact ⟨_, .inl ⟨z, rfl, hz, rfl⟩⟩
  · exact ⟨false, .inr ⟨rfl, _, .base (.bl z), kit_ty (by decide +kernel)⟩⟩
theorem no_seq_str {K : PySem.W.Frag} {G : Hp} {a : Addr} {xs : List V} {n : String} (h : G a = some (.lst xs) ∨ G a = some (.tup xs)) (hl : PySem.W.kitOne K (.type "list") (.type n) = some false) (ht : PySem.W.kitOne K (.type "tuple") (.type n) = some false) : IsT K G (.ref a) n false := by
  rcases h with h | h
  · exact ⟨_, .base (.lst h), hl⟩
  · exact ⟨_, .base (.tup h), ht⟩
theorem ItV.nm {K : PySem.W.Frag} {b c : Addr} {G : Hp} {v : V} (h : ItV b c G v) : ∃ q, NmB K G v q := by
  rcases h with h | ⟨a, rfl, _, _, h⟩
  · exact h.str
  · have h2 : ∃ xs, G a = some (.lst xs) ∨ G a = some (.tup xs) := by
      rcases h with ⟨xs, h⟩ | ⟨xs, h⟩
      · exact ⟨xs, .inl h⟩
      · exact ⟨xs, .inr h⟩
    obtain ⟨xs, h2⟩ := h2
    exact ⟨false, .inr ⟨rfl, no_seq_str h2 (kit_ty (by decide +kernel)) (kit_ty (by decide +kernel))⟩⟩
theorem items_nm {K : PySem.W.Frag} {b c : Addr} {G : Hp} : ∀ {xs : List V}, (∀ x ∈ xs, ItV b c G x) → ∃ bs, NmBs K G xs bs
  | [], _ => ⟨[], rfl, fun i x b h => by simp at h⟩
  | x :: xs, h => by
    obtain ⟨q, hq⟩ := (h x List.mem_cons_self).nm (K := K)
    obtain ⟨bs, hl, hb⟩ := items_nm (K := K) (xs := xs) fun y hy => h y (List.mem_cons_of_mem _ hy)
    refine ⟨q :: bs, by rw [List.length_cons, List.length_cons, hl], fun i y b h1 h2 => ?_⟩
    cases i with
    | zero =>
      cases h1
      cases h2
      exact hq
    | succ i => exact hb i y b h1 h2
theorem Vl.nm {K : PySem.W.Frag} {b c : Addr} {G : Hp} {v : V} (h : Vl b c G v) : ∃ q, NmB K G v q := by
  rcases h with h | ⟨a, xs, rfl, _, _, h, _⟩
  · exact h.str
  · exact ⟨false, .inr ⟨rfl, no_seq_str h (kit_ty (by decide +kernel)) (kit_ty (by decide +kernel))⟩⟩
theorem Vl.names {K : PySem.W.Frag} {b c : Addr} {G : Hp} {v : V} (h : Vl b c G v) : ∃ q, NamV K G v q := by
  rcases h with h | ⟨a, xs, rfl, _, _, h, l, i⟩
  · refine ⟨false, .inl ⟨?_, rfl⟩⟩
    rcases h with rfl | ⟨i, rfl⟩ | ⟨z, rfl, hz⟩ | ⟨z, rfl⟩
    · exact ⟨_, .base .non, kitAny_lt (b := false) (c := false) (kit_ty (by decide +kernel)) (kit_ty (by decide +kernel))⟩
    · exact ⟨_, .base (.int i), kitAny_lt (b := false) (c := false) (kit_ty (by decide +kernel)) (kit_ty (by decide +kernel))⟩
    · exact ⟨_, .base (.str z), kitAny_lt (b := false) (c := false) (kit_ty (by decide +kernel)) (kit_ty (by decide +kernel))⟩
    · exact ⟨_, .base (.bl z), kitAny_lt (b := false) (c := false) (kit_ty (by decide +kernel)) (kit_ty (by decide +kernel))⟩
  · obtain ⟨bs, hb⟩ := items_nm (K := K) i
    exact ⟨_, .inr ⟨a, xs, bs, rfl, h, l, hb, rfl⟩⟩
theorem Vl.bool {K : PySem.W.Frag} {b c : Addr} {G : Hp} {v : V} (h : Vl b c G v) : ∃ q, IsT K G v "bool" q := by
  rcases h with h | ⟨a, xs, rfl, _, _, h, _⟩
  · rcases h with rfl | ⟨i, rfl⟩ | ⟨z, rfl, hz⟩ | ⟨z, rfl⟩
    · exact ⟨false, _, .base .non, kit_ty (by decide +kernel)⟩
    · exact ⟨false, isT_int.2⟩
    · exact ⟨false, _, .base (.str z), kit_ty (by decide +kernel)⟩
    · exact ⟨true, isT_bl⟩
  · exact ⟨false, no_seq_str h (kit_ty (by decide +kernel)) (kit_ty (by decide +kernel))⟩
theorem Vl.rem {K : PySem.W.Frag} {b c : Addr} {G : Hp} {v : V} (h : Vl b c G v) : ∃ q, RemV K G v q := by
  rcases h with h | ⟨a, xs, rfl, _, _, h, _⟩
  · rcases h with rfl | ⟨i, rfl⟩ | ⟨z, rfl, hz⟩ | ⟨z, rfl⟩
    · exact ⟨false, .inr ⟨rfl, _, .base .non, kit_ty (by decide +kernel)⟩⟩
    · exact ⟨false, .inr ⟨rfl, _, .base (.int i), kit_ty (by decide +kernel)⟩⟩
    · exact ⟨_, .inl ⟨z, rfl, hz, rfl⟩⟩
    · exact ⟨false, .inr ⟨rfl, _, .base (.bl z), kit_ty (by decide +kernel)⟩⟩
  · exact ⟨false, .inr ⟨rfl, no_seq_str h (kit_ty (by decide +kernel)) (kit_ty (by decide +kernel))⟩⟩
theorem Vl.num {K : PySem.W.Frag} {b c : Addr} {G : Hp} {v : V} (h : Vl b c G v) : ∃ q, NumV K G v q := by
  rcases h with h | ⟨a, xs, rfl, _, _, h, _⟩
  · rcases h with rfl | ⟨i, rfl⟩ | ⟨z, rfl, hz⟩ | ⟨z, rfl⟩
    · exact ⟨false, .inr ⟨false, false, ⟨_, .base .non, kit_ty (by decide +kernel)⟩, ⟨_, .base .non, kit_ty (by decide +kernel)⟩, rfl, rfl⟩⟩
    · exact ⟨_, .inl ⟨i, rfl, rfl⟩⟩
    · exact ⟨false, .inr ⟨false, false, ⟨_, .base (.str z), kit_ty (by decide +kernel)⟩, ⟨_, .base (.str z), kit_ty (by decide +kernel)⟩, rfl, rfl⟩⟩
    · exact ⟨false, .inr ⟨true, true, ⟨_, .base (.bl z), kit_ty (by decide +kernel)⟩, isT_bl, rfl, rfl⟩⟩
  · exact ⟨false, .inr ⟨false, false, no_seq_str h (kit_ty (by decide +kernel)) (kit_ty (by decide +kernel)), no_seq_str h (kit_ty (by decide +kernel)) (kit_ty (by decide +kernel)), rfl, rfl⟩⟩
theorem vl_vd {K : PySem.W.Frag} {b c : Addr} {G : Hp} {x1 x2 x3 x4 x5 x6 x7 x8 : V} (h1 : Vl b c G x1) (h2 : Vl b c G x2) (h3 : Vl b c G x3) (h4 : Vl b c G x4) (h5 : Vl b c G x5) (h6 : Vl b c G x6) (h7 : Vl b c G x7) (h8 : Vl b c G x8) :
    ∃ b1 b2 b3 b4 b5 b6 b7 b8, Vd K G x1 x2 x3 x4 x5 x6 x7 x8 b1 b2 b3 b4 b5 b6 b7 b8 := by
  obtain ⟨b1, h1⟩ := h1.nm (K := K)
  obtain ⟨b2, h2⟩ := h2.names (K := K)
  obtain ⟨b3, h3⟩ := h3.bool (K := K)
  obtain ⟨b4, h4⟩ := h4.bool (K := K)
  obtain ⟨b5, h5⟩ := h5.rem (K := K)
  obtain ⟨b6, h6⟩ := h6.rem (K := K)
  obtain ⟨b7, h7⟩ := h7.num (K := K)
  obtain ⟨b8, h8⟩ := h8.bool (K := K)
  exact ⟨b1, b2, b3, b4, b5, b6, b7, b8, h1, h2, h3, h4, h5, h6, h7, h8⟩
def spVal : Sp := fun vs H Q _ => ∃ (b : Addr), vs = [.ref b] ∧ BoxAt H b ∧ ∀ v G, Kept b H G → BoxAt G b → (∀ c, (∃ o, H c = some o) → Vl b c G v) → Q v G
abbrev sVal : Stmt := top 19
def ValN : List Str := ["_law_box_here", "_law_some", "_law_deep", "_law_turn"]
abbrev ValP : List Str := ["_law_box_here"]
section
variable {P : Program} {w : World} {K : PySem.W.Frag} {mg : Str → Option Value} {base : Heap}
theorem scVal : FnScope ValN ValP (defScope sVal) := ⟨rfl, rfl, rfl, by decide +kernel, rfl, by decide +kernel, by decide +kernel⟩
theorem has_Val (B : Bt mg) (DK : Has P w K mg base CX0 2 "_law_pick" ["_law_box_here", "_law_items"] (spPick K)) (D : Dfn K mg "_law_value" sVal ValP) : Has P w K mg base CX0 3 "_law_value" ValP spVal := by
  refine D.has scVal (fun vs H Q E h => ?_) (fun f cdv A outer s H vs Q E hr h => ?_)
  · obtain ⟨b, rfl, _⟩ := h
    rfl
  · obtain ⟨b, rfl, hb, k⟩ := h
    refine ⟨_, (C8.pss_cut (ps_set (i := 1) scVal.nd rfl (.inl rfl) (pe_lst (pa_cons pe_int (pa_cons (pe_un un_neg pe_int) (pa_cons (pe_op op_pow pe_int pe_int) (pa_cons pe_str (pa_cons pe_str (pa_cons pe_non (pa_cons pe_bl (pa_cons pe_bl (pa_cons (pe_lst pa_nil) (pa_cons (pe_lst (pa_cons pe_int (pa_cons pe_str pa_nil))) (pa_cons (pe_tup (pa_cons pe_str (pa_cons pe_non pa_nil))) (pa_cons (pe_tup pa_nil) pa_nil))))))))))))))
    (C8.pss_cut (ps_par (i := 1) (j := 2) (by rfl) scVal.nd rfl rfl (by decide) rfl rfl (pa_cons (pe_op op_cat (pv 1) (pe_lst (pa_cons pe_str (pa_cons pe_int (pa_cons pe_str (pa_cons (pe_lst (pa_cons pe_str pa_nil)) (pa_cons pe_str pa_nil))))))) (pa_cons (pe_tup pa_nil) pa_nil)) (by rfl))
    (C8.pss_cut (ps_for PassesOwn.never rfl (pi_range1 (by rfl) B.range (pa_cons pe_int pa_nil)) (pg_name (i := 3) scVal.nd rfl (.inl rfl))
      (pss_one (ps_set (i := 2) scVal.nd rfl (.inl rfl) (pe_tup (pa_cons (pv 2) pa_nil)))))
    (pss_one (ps_ret (pe_callH DK hr (by rfl) pass0 (pa_cons (pv 0) (pa_cons (pe_op op_cat (pv 1) (pe_lst (pa_cons (pv 2) pa_nil))) pa_nil)))))))), ?_⟩
    obtain ⟨ob, hbo, hbx⟩ := id hb
    have nn : ∀ {G : Hp} {p c : Addr}, Same H G → G p = none → (∃ o, H c = some o) → p ≠ c := fun s n ⟨o, e⟩ z => by
      rw [z, s _ _ e] at n
      cases n
    have z0 : 0 ≤ sizeLine := Nat.zero_le _
    have z2 : 2 ≤ sizeLine := by decide
    refine ⟨fun σ G => ∃ p xs, σ = [some (.ref b), some (.ref p), none, none] ∧ Same H G ∧ G p = some (.lst xs) ∧ xs.length ≤ 12 ∧ ∀ v ∈ xs, ∀ c, (∃ o, H c = some o) → Vl b c G v, ?_, ?_⟩
    · refine ⟨_, rfl, _, _, rfl, rfl, ⟨by decide, by decide, by decide⟩, z0, fun p1 n1 => ⟨z2, fun p2 n2 => ⟨z2, fun p3 n3 => ⟨z0, fun p4 n4 => ⟨(by show 12 ≤ sizeLine; decide), fun p n => ?_⟩⟩⟩⟩⟩
      have s1 := Same.new n1 (o := .lst [])
      have s2 := Same.new n2 (o := .lst [.int 1, .str "a"])
      have s3 := Same.new n3 (o := .tup [.str "x", .non])
      have s4 := Same.new n4 (o := .tup [])
      refine ⟨p, _, rfl, (((s1.trans s2).trans s3).trans s4).trans (Same.new n), upd_same, Nat.le_refl _, fun v hv c hc => Vl.same (Same.new n) ?_⟩
      simp only [List.mem_cons, List.not_mem_nil, or_false] at hv
      rcases hv with rfl | rfl | rfl | rfl | rfl | rfl | rfl | rfl | rfl | rfl | rfl | rfl
      · exact vl_int
      · exact vl_int
      · exact vl_int
      · exact vl_str (by decide)
      · exact vl_str (by decide)
      · exact vl_non
      · exact vl_bl
      · exact vl_bl
      · exact vl_seq (nn Same.rfl n1 ⟨_, hbo⟩) (nn Same.rfl n1 hc) (.inl (((s2.trans s3).trans s4) _ _ upd_same)) (by decide) fun x hx => absurd hx List.not_mem_nil
      · refine vl_seq (nn s1 n2 ⟨_, hbo⟩) (nn s1 n2 hc) (.inl ((s3.trans s4) _ _ upd_same)) (by decide) fun x hx => ?_
        simp only [List.mem_cons, List.not_mem_nil, or_false] at hx
        rcases hx with rfl | rfl
        · exact it_int
        · exact it_str (by decide)
      · refine vl_seq (nn (s1.trans s2) n3 ⟨_, hbo⟩) (nn (s1.trans s2) n3 hc) (.inr (s4 _ _ upd_same)) (by decide) fun x hx => ?_
        simp only [List.mem_cons, List.not_mem_nil, or_false] at hx
        rcases hx with rfl | rfl
        · exact it_str (by decide)
        · exact it_non
      · exact vl_seq (nn ((s1.trans s2).trans s3) n4 ⟨_, hbo⟩) (nn ((s1.trans s2).trans s3) n4 hc) (.inr upd_same) (by decide) fun x hx => absurd hx List.not_mem_nil
    · rintro σ G ⟨p, xs, rfl, sG, hp, lx, hv⟩
      refine ⟨fun σ G => ∃ p xs d, σ = [some (.ref b), some (.ref p), some (.ref d), none] ∧ Same H G ∧ G p = some (.lst xs) ∧ xs.length ≤ 17 ∧ (∀ v ∈ xs, ∀ c, (∃ o, H c = some o) → Vl b c G v) ∧ H d = none ∧ ∃ ys, G d = some (.tup ys) ∧ ys.length ≤ 1 ∧ ∀ x ∈ ys, ∀ c, (∃ o, H c = some o) → ItV b c G x, ?_, ?_⟩
      · refine ⟨_, rfl, (by show 1 ≤ sizeLine; decide), fun q nq => ⟨(by show 5 ≤ sizeLine; decide), fun r nr => ?_⟩⟩
        have s1 := Same.new nq (o := .lst [.str "x"])
        have s2 := Same.new nr (o := .lst [.str "ab", .int 2, .str "left", .ref q, .str "# a"])
        refine ⟨p, r, _, _, rfl, rfl, s2 _ _ (s1 _ _ hp), upd_same, Nat.le_trans (show _ ≤ 12 + 5 by exact Nat.add_le_add_right lx 5) (by decide), fun u nu => ⟨z0, fun d nd => ?_⟩⟩
        have s3 := Same.new nu (o := .lst (xs ++ [.str "ab", .int 2, .str "left", .ref q, .str "# a"]))
        have s4 := Same.new nd (o := .tup [])
        have s13 := (sG.trans s1).trans s2
        refine ⟨_, _, rfl, u, _, d, rfl, (s13.trans s3).trans s4, s4 _ _ upd_same, ?_, fun v hv' c hc => ?_, (s13.trans s3).free nd, [], upd_same, by decide, fun x hx => absurd hx List.not_mem_nil⟩
        · rw [List.length_append]
          exact Nat.add_le_add_right lx 5
        · refine Vl.same (s3.trans s4) ?_
          rcases List.mem_append.mp hv' with h | h
          · exact Vl.same (s1.trans s2) (hv v h c hc)
          · simp only [List.mem_cons, List.not_mem_nil, or_false] at h
            rcases h with rfl | rfl | rfl | rfl | rfl
            · exact vl_str (by decide)
            · exact vl_int
            · exact vl_str (by decide)
            · refine vl_seq (nn sG nq ⟨_, hbo⟩) (nn sG nq hc) (.inl (s2 _ _ upd_same)) (by decide) fun x hx => ?_
              simp only [List.mem_cons, List.not_mem_nil, or_false] at hx
              subst hx
              exact it_str (by decide)
            · exact vl_str (by decide)
      · rintro σ G ⟨p, xs, d, rfl, sG, hp, lx, hv, nd, ys, hd, ly, hy⟩
        refine ⟨fun σ G => ∃ d x3, σ = [some (.ref b), some (.ref p), some (.ref d), x3] ∧ Same H G ∧ G p = some (.lst xs) ∧ (∀ v ∈ xs, ∀ c, (∃ o, H c = some o) → Vl b c G v) ∧ H d = none ∧ ∃ ys, G d = some (.tup ys) ∧ ys.length ≤ 1 ∧ ∀ x ∈ ys, ∀ c, (∃ o, H c = some o) → ItV b c G x, ?_, ?_⟩
        · refine ⟨7, rfl, by decide, by decide, for_range (n := 7) (fun i σ G => ∃ d x3, σ = [some (.ref b), some (.ref p), some (.ref d), x3] ∧ Same H G ∧ G p = some (.lst xs) ∧ (∀ v ∈ xs, ∀ c, (∃ o, H c = some o) → Vl b c G v) ∧ H d = none ∧ ∃ ys, G d = some (.tup ys) ∧ ys.length ≤ 1 ∧ ∀ x ∈ ys, ∀ c, (∃ o, H c = some o) → ItV b c G x) ⟨d, none, rfl, sG, hp, hv, nd, ys, hd, ly, hy⟩ ?_ fun σ G h => h⟩
          rintro i σ G hi ⟨d, x3, rfl, sG, hp, hv, nd, ys, hd, ly, hy⟩
          refine ⟨_, rfl, (by show 1 ≤ sizeLine; decide), fun q nq => ?_⟩
          have s1 := Same.new nq (o := .tup [.ref d])
          refine ⟨q, _, rfl, sG.trans s1, s1 _ _ hp, fun v hv' c hc => Vl.same s1 (hv v hv' c hc), sG.free nq, [.ref d], upd_same, Nat.le_refl _, fun x hx c hc => ?_⟩
          rw [List.mem_singleton] at hx
          subst hx
          refine .inr ⟨d, rfl, fun z => ?_, fun z => ?_, .inr ⟨ys, s1 _ _ hd⟩⟩
          · rw [z, hbo] at nd
            cases nd
          · obtain ⟨oc, ec⟩ := hc
            rw [z, ec] at nd
            cases nd
        · rintro σ G ⟨d, x3, rfl, sG, hp, hv, nd, ys, hd, ly, hy⟩
          refine ⟨_, rfl, _, rfl, _, rfl, (by show 1 ≤ sizeLine; decide), fun r nr => ?_⟩
          have s1 := Same.new nr (o := .lst [.ref d])
          refine ⟨p, r, _, _, rfl, rfl, s1 _ _ hp, upd_same, Nat.le_trans (show _ ≤ 17 + 1 by exact Nat.add_le_add_right lx 1) (by decide), fun u nu => ?_⟩
          have s2 := Same.new nu (o := .lst (xs ++ [.ref d]))
          have s3 := (sG.trans s1).trans s2
          refine ⟨b, u, _, rfl, BoxAt.same s3 hb, (fun z => by
            have := (sG.trans s1) _ _ hbo
            rw [← z, nu] at this
            cases this), SqL.of upd_same, by rw [List.length_append]; show 0 < _ + 1; omega, by rw [List.length_append]; show _ + 1 ≤ 1000; omega, fun v o hv' yo => ?_⟩
          refine k v _ ((Kept.of_same s3).trans Kept.box) (BoxAt.box yo) fun c hc => Vl.k2 (K2.of_kept Kept.box) (Vl.same (s1.trans s2) ?_)
          rcases List.mem_append.mp hv' with h | h
          · exact hv v h c hc
          · rw [List.mem_singleton] at h
            subst h
            refine .inr ⟨d, ys, rfl, fun z => ?_, fun z => ?_, .inr hd, by omega, fun x hx => hy x hx c hc⟩
            · rw [z, hbo] at nd
              cases nd
            · obtain ⟨oc, ec⟩ := hc
              rw [z, ec] at nd
              cases nd
end
end Lay
set_option Elab.async false
set_option linter.all false
set_option maxRecDepth 100000
set_option maxHeartbeats 8000000
set_option pp.maxSteps 900
namespace Lay
open PySem PySem.Spec PyProof.Rows L2
/-! values that stood ahead of the turns -/
def It0 (G : Hp) (v : V) : Prop := At v ∨ ∃ a, v = .ref a ∧ ((∃ xs, G a = some (.lst xs)) ∨ ∃ xs, G a = some (.tup xs))
def Vl0 (G : Hp) (v : V) : Prop := At v ∨ ∃ a xs, v = .ref a ∧ (G a = some (.lst xs) ∨ G a = some (.tup xs)) ∧ xs.length ≤ 1000 ∧ ∀ x ∈ xs, It0 G x
theorem It0.same {G G' : Hp} {v : V} (s : Same G G') (h : It0 G v) : It0 G' v := by
  rcases h with h | ⟨a, e, ⟨xs, h⟩ | ⟨xs, h⟩⟩
  · exact .inl h
  · exact .inr ⟨a, e, .inl ⟨xs, s _ _ h⟩⟩
  · exact .inr ⟨a, e, .inr ⟨xs, s _ _ h⟩⟩
theorem Vl0.same {G G' : Hp} {v : V} (s : Same G G') (h : Vl0 G v) : Vl0 G' v := by
  rcases h with h | ⟨a, xs, e, h, l, i⟩
  · exact .inl h
  · exact .inr ⟨a, xs, e, h.imp (s _ _) (s _ _), l, fun x hx => (i x hx).same s⟩
theorem It0.it {G : Hp} {v : V} {b c : Addr} (h : It0 G v) (nb : G b = none) (nc : G c = none) : ItV b c G v := by
  rcases h with h | ⟨a, e, h⟩
  · exact .inl h
  · have q : ∃ o, G a = some o := by
      rcases h with ⟨xs, h⟩ | ⟨xs, h⟩
      · exact ⟨_, h⟩
      · exact ⟨_, h⟩
    obtain ⟨o, q⟩ := q
    exact .inr ⟨a, e, ne_of_none q nb, ne_of_none q nc, h⟩
theorem Vl0.vl {G : Hp} {v : V} {b c : Addr} (h : Vl0 G v) (nb : G b = none) (nc : G c = none) : Vl b c G v := by
  rcases h with h | ⟨a, xs, e, h, l, i⟩
  · exact .inl h
  · have q : ∃ o, G a = some o := by
      rcases h with h | h
      · exact ⟨_, h⟩
      · exact ⟨_, h⟩
    obtain ⟨o, q⟩ := q
    exact .inr ⟨a, xs, e, ne_of_none q nb, ne_of_none q nc, h, l, fun x hx => (i x hx).it nb nc⟩
/-- at q a list of some such values -/
def OkL (G : Hp) (q : Addr) : Prop := ∃ ys, G q = some (.lst ys) ∧ 0 < ys.length ∧ ys.length ≤ 1000 ∧ ∀ v ∈ ys, Vl0 G v
theorem OkL.same {G G' : Hp} {q : Addr} (s : Same G G') (h : OkL G q) : OkL G' q := by
  obtain ⟨ys, h1, h2, h3, h4⟩ := h
  exact ⟨ys, s _ _ h1, h2, h3, fun v hv => (h4 v hv).same s⟩
theorem at_int {i : Int} : At (.int i) := .inr (.inl ⟨i, rfl⟩)
theorem at_non : At .non := .inl rfl
theorem at_bl {z : Bool} : At (.bl z) := .inr (.inr (.inr ⟨z, rfl⟩))
theorem at_str {z : Str} (h : z.length ≤ 20) : At (.str z) := .inr (.inr (.inl ⟨z, rfl, Nat.le_trans h (by decide)⟩))
theorem v0_seq {a : Addr} {G : Hp} {xs : List V} (h : G a = some (.lst xs) ∨ G a = some (.tup xs)) (l : xs.length ≤ 20) (i : ∀ x ∈ xs, It0 G x) : Vl0 G (.ref a) := .inr ⟨a, xs, rfl, h, Nat.le_trans l (by decide), i⟩
theorem scal_hear (r : Option Str) : scal (hearW r) (hearW r) = true := by cases r <;> rfl
def spLaw (K : PySem.W.Frag) : Sp := fun vs H Q _ => ∃ (a : Addr) (ns : List Int), vs = [.ref a] ∧ SqL K H a (ns.map V.int) ∧ ns.length ≤ 63 ∧ ∀ H', Q (.bl true) H'
/-- eight such values in the list at s -/
def In8 (b s : Addr) (G : Hp) : Prop := ∃ xs, G s = some (.lst xs) ∧ xs.length = 8 ∧ ∀ x ∈ xs, Vl b s G x
def atomB : V → Bool
  | .non => true
  | .int _ => true
  | .bl _ => true
  | .str z => decide (z.length ≤ 20)
  | _ => false
theorem atom_at {v : V} (h : atomB v = true) : At v := by
  cases v with
  | non => exact at_non
  | int i => exact at_int
  | bl z => exact at_bl
  | str z => exact at_str (of_decide_eq_true h)
  | byt _ => cases h
  | flt _ => cases h
  | ref _ => cases h
  | ty _ => cases h
theorem atoms_v0 {G : Hp} {ys : List V} (h : ys.all atomB = true) : ∀ v ∈ ys, Vl0 G v := fun v hv => .inl (atom_at (List.all_eq_true.mp h v hv))
theorem atoms_it {G : Hp} {ys : List V} (h : ys.all atomB = true) : ∀ v ∈ ys, It0 G v := fun v hv => .inl (atom_at (List.all_eq_true.mp h v hv))
theorem okl_atoms {G : Hp} {q : Addr} {ys : List V} (e : G q = some (.lst ys)) (h0 : 0 < ys.length) (h1 : ys.length ≤ 20) (h : ys.all atomB = true) : OkL G q := ⟨ys, e, h0, Nat.le_trans h1 (by decide), atoms_v0 h⟩
abbrev sLaw : Stmt := top 23
def LawN : List Str := ["_law_script", "_law_odd", "_law_k", "_law_box_here", "_law_turn", "_law_some", "_law_more", "_law_at", "_law_calm"]
abbrev LawP : List Str := ["_law_script"]
section
variable {P : Program} {w : World} {K : PySem.W.Frag} {mg : Str → Option Value} {base : Heap}
theorem scLaw : FnScope LawN LawP (defScope sLaw) := ⟨rfl, rfl, rfl, by decide +kernel, rfl, by decide +kernel, by decide +kernel⟩
theorem ok_Law {f : Addr} {fd : FuncData} (B : Bt mg) (DK : Has P w K mg base CX0 2 "_law_pick" ["_law_box_here", "_law_items"] (spPick K)) (DT : Has P w K mg base CX0 1 "_law_take" ["_law_box_here", "_law_many"] spTake) (DB : Has P w K mg base CX0 1 "_law_box" ["_law_script", "_law_k", "_law_own"] (spBox K)) (DV : Has P w K mg base CX0 3 "_law_value" ValP spVal) (DH : Has P w K mg base CX0 7 "_law_heard" HeaP (spHea K)) (DD : Has P w K mg base CX0 2 "_law_due" DueP (spDue K)) (F : Fun K "law" "law" sLaw f fd) : FnOk P w K mg base CX0 9 f fd LawP (spLaw K) := by
  refine F.ok scLaw (fun vs H Q E h => ?_) (fun cdv A outer s H vs Q E hr h => ?_)
  · obtain ⟨a, ns, rfl, _⟩ := h
    rfl
  · obtain ⟨a, ns, rfl, hs, hn, k⟩ := h
    have hr1 := hr.mono (show 1 ≤ 8 by decide)
    have hr2 := hr.mono (show 2 ≤ 8 by decide)
    have hr3 := hr.mono (show 3 ≤ 8 by decide)
    have hr7 := hr.mono (show 7 ≤ 8 by decide)
    refine ⟨_, (C8.pss_cut (ps_set (i := 1) scLaw.nd rfl (.inl rfl) (pe_lst (pa_cons (pe_lst (pa_cons pe_str (pa_cons pe_str (pa_cons pe_str (pa_cons pe_str (pa_cons pe_str (pa_cons pe_non pa_nil))))))) (pa_cons (pe_lst (pa_cons (pe_lst pa_nil) (pa_cons (pe_tup pa_nil) (pa_cons (pe_lst (pa_cons pe_str (pa_cons pe_str pa_nil))) (pa_cons pe_str (pa_cons (pe_lst (pa_cons pe_str (pa_cons pe_int pa_nil))) (pa_cons (pe_lst (pa_cons (pe_lst (pa_cons pe_str pa_nil)) pa_nil)) pa_nil))))))) (pa_cons (pe_lst (pa_cons pe_int (pa_cons pe_int (pa_cons pe_non (pa_cons pe_str pa_nil))))) pa_nil)))))
    (C8.pss_cut (ps_set (i := 1) scLaw.nd rfl (.inl rfl) (pe_op op_cat (pv 1) (pe_lst (pa_cons (pe_lst (pa_cons pe_int (pa_cons pe_int (pa_cons pe_non pa_nil)))) (pa_cons (pe_lst (pa_cons pe_str (pa_cons pe_str (pa_cons pe_non (pa_cons pe_str pa_nil))))) (pa_cons (pe_lst (pa_cons pe_non (pa_cons pe_str (pa_cons pe_str (pa_cons pe_int pa_nil))))) (pa_cons (pe_lst (pa_cons (pe_un un_neg pe_int) (pa_cons pe_int (pa_cons pe_bl (pa_cons pe_str pa_nil))))) (pa_cons (pe_lst (pa_cons pe_int (pa_cons pe_int (pa_cons pe_non pa_nil)))) pa_nil))))))))
    (pss_cons (ps_for PassesOwn.never rfl (pi_range1 (by rfl) B.range (pa_cons (pe_callB (call_max2 rfl) (by rfl) B.max (by decide +kernel) (pa_cons pe_int (pa_cons (pe_callB (call_min2 rfl) (by rfl) B.min (by decide +kernel) (pa_cons pe_int (pa_cons (pe_callB (call_lenK (K := K) rfl) (by rfl) B.len PySem.boot_len (pa_cons (pv 0) pa_nil)) pa_nil))) pa_nil))) pa_nil)) (pg_name (i := 2) scLaw.nd rfl (.inl rfl))
      (pss_cons (ps_set (i := 3) scLaw.nd rfl (.inl rfl) (pe_callH DB hr1 (by rfl) pass0 (pa_cons (pv 0) (pa_cons (pv 2) (pa_cons pe_int pa_nil)))))
      (pss_one (ps_for PassesOwn.never rfl (pi_range1 (by rfl) B.range (pa_cons pe_int pa_nil)) (pg_name (i := 4) scLaw.nd rfl (.inl rfl))
        (C8.pss_cut (ps_set (i := 5) scLaw.nd rfl (.inl rfl) (pe_lst (pa_cons pe_str (pa_cons (pe_lst (pa_cons pe_str (pa_cons pe_str pa_nil))) (pa_cons pe_bl (pa_cons pe_bl (pa_cons (pe_callH DK hr2 (by rfl) pass0 (pa_cons (pv 3) (pa_cons (pe_lst (pa_cons pe_str (pa_cons pe_str pa_nil))) pa_nil))) (pa_cons pe_str (pa_cons (pe_callH DT hr1 (by rfl) pass0 (pa_cons (pv 3) (pa_cons pe_int pa_nil))) (pa_cons pe_bl pa_nil))))))))))
        (C8.pss_cut (ps_for PassesOwn.never rfl (pi_range1 (by rfl) B.range (pa_cons (pe_callH DT hr1 (by rfl) pass0 (pa_cons (pv 3) (pa_cons pe_int pa_nil))) pa_nil)) (pg_name (i := 6) scLaw.nd rfl (.inl rfl))
          (pss_cons (ps_set (i := 7) scLaw.nd rfl (.inl rfl) (pe_callH DT hr1 (by rfl) pass0 (pa_cons (pv 3) (pa_cons pe_int pa_nil))))
          (pss_one (ps_asg (pe_ifExp (pt_cmpR op_eq (pe_callH DT hr1 (by rfl) pass0 (pa_cons (pv 3) (pa_cons pe_int pa_nil))) pe_int (nomark _)) (pe_callH DV hr3 (by rfl) pass0 (pa_cons (pv 3) pa_nil)) (pe_callH DK hr2 (by rfl) pass0 (pa_cons (pv 3) (pa_cons (pe_ix ix_list (pv 1) (pv 7) (fun _ _ => rfl)) pa_nil)))) (pg_sub (pv 5) (pv 7) set_list)))))
        (C8.pss_cut (ps_if (pt_cmpR op_ne (pe_callH DH hr7 (by rfl) pass0 (pa_cons (pv 5) (pa_cons pe_bl pa_nil))) (pe_callH DD hr2 (by rfl) pass0 (pa_cons (pv 5) pa_nil)) (nomark _))
          (pss_one (ps_ret pe_bl))
          pss_nil)
        (C8.pss_cut (ps_set (i := 8) scLaw.nd rfl (.inl rfl) (pe_op op_cat (pe_op op_cat (pe_slice sl_list (pv 5) po_none (po_some pe_int)) (pe_lst (pa_cons pe_bl (pa_cons pe_bl pa_nil)))) (pe_slice sl_list (pv 5) (po_some pe_int) po_none)))
        (pss_one (ps_if (pt_cmpR op_ne (pe_callH DH hr7 (by rfl) pass0 (pa_cons (pv 8) (pa_cons pe_bl pa_nil))) (pe_callH DD hr2 (by rfl) pass0 (pa_cons (pv 8) pa_nil)) (nomark _))
          (pss_one (ps_ret pe_bl))
          pss_nil))))))))))
    (pss_one (ps_ret (pe_cmpR op_isN (pe_callH DH hr7 (by rfl) pass0 (pa_cons (pe_lst (pa_cons pe_str (pa_cons (pe_tup (pa_cons pe_str pa_nil)) (pa_cons pe_bl (pa_cons pe_bl (pa_cons pe_str (pa_cons pe_str (pa_cons pe_int (pa_cons pe_bl pa_nil))))))))) (pa_cons pe_bl pa_nil))) pe_non (nomark _))))))), ?_⟩
    have z0 : 0 ≤ sizeLine := Nat.zero_le _
    refine ⟨fun σ G => ∃ o l1 l2 l3, σ = [some (.ref a), some (.ref o), none, none, none, none, none, none, none] ∧ Same H G ∧ G o = some (.lst [.ref l1, .ref l2, .ref l3]) ∧ OkL G l1 ∧ OkL G l2 ∧ OkL G l3, ?_, ?_⟩
    · refine ⟨(by show 6 ≤ sizeLine; decide), fun p1 n1 => ⟨z0, fun q1 m1 => ⟨z0, fun q2 m2 => ⟨(by show 2 ≤ sizeLine; decide), fun q3 m3 => ⟨(by show 2 ≤ sizeLine; decide), fun q4 m4 => ⟨(by show 1 ≤ sizeLine; decide), fun q5 m5 => ⟨(by show 1 ≤ sizeLine; decide), fun q6 m6 => ⟨(by show 6 ≤ sizeLine; decide), fun p2 n2 => ⟨(by show 4 ≤ sizeLine; decide), fun p3 n3 => ⟨(by show 3 ≤ sizeLine; decide), fun o no => ?_⟩⟩⟩⟩⟩⟩⟩⟩⟩⟩
      have a1 := Same.new n1 (o := .lst [.str "", .str "abcdefg", .str "A", .str "a b", .str "a1", .non])
      have a2 := Same.new m1 (o := .lst [])
      have a3 := Same.new m2 (o := .tup [])
      have a4 := Same.new m3 (o := .lst [.str "a", .str ""])
      have a5 := Same.new m4 (o := .lst [.str "a", .int 1])
      have a6 := Same.new m5 (o := .lst [.str "a"])
      have a7 := Same.new m6 (o := .lst [.ref q5])
      have a8 := Same.new n2 (o := .lst [.ref q1, .ref q2, .ref q3, .str "ab", .ref q4, .ref q6])
      have a9 := Same.new n3 (o := .lst [.int 0, .int 1, .non, .str "True"])
      have a10 := Same.new no (o := .lst [.ref p1, .ref p2, .ref p3])
      have b9 := a9.trans a10
      have b8 := a8.trans b9
      have b7 := a7.trans b8
      have b6 := a6.trans b7
      have b5 := a5.trans b6
      have b4 := a4.trans b5
      have b3 := a3.trans b4
      have b2 := a2.trans b3
      refine ⟨o, p1, p2, p3, rfl, a1.trans b2, upd_same, okl_atoms (b2 _ _ upd_same) (by decide) (by decide) (by decide +kernel), ⟨_, b9 _ _ upd_same, by show 0 < 6; decide, by show 6 ≤ 1000; decide, fun v hv => ?_⟩, okl_atoms (a10 _ _ upd_same) (by decide) (by decide) (by decide +kernel)⟩
      simp only [List.mem_cons, List.not_mem_nil, or_false] at hv
      rcases hv with rfl | rfl | rfl | rfl | rfl | rfl
      · exact v0_seq (.inl (b3 _ _ upd_same)) (by decide) (atoms_it (by decide +kernel))
      · exact v0_seq (.inr (b4 _ _ upd_same)) (by decide) (atoms_it (by decide +kernel))
      · exact v0_seq (.inl (b5 _ _ upd_same)) (by decide) (atoms_it (by decide +kernel))
      · exact .inl (at_str (by decide))
      · exact v0_seq (.inl (b6 _ _ upd_same)) (by decide) (atoms_it (by decide +kernel))
      · refine v0_seq (.inl (b8 _ _ upd_same)) (Nat.le_of_ble_eq_true rfl) fun x hx => ?_
        rw [List.mem_singleton] at hx
        subst hx
        exact .inr ⟨q5, rfl, .inl ⟨_, b7 _ _ upd_same⟩⟩
    · rintro σ G ⟨o1, l1, l2, l3, rfl, s1, ho1, k1, k2, k3⟩
      refine ⟨fun σ G => ∃ o ls, σ = [some (.ref a), some (.ref o), none, none, none, none, none, none, none] ∧ Same H G ∧ G o = some (.lst ls) ∧ ls.length = 8 ∧ ∀ l ∈ ls, ∃ q, l = .ref q ∧ OkL G q, ?_, ?_⟩
      · refine ⟨_, rfl, (by show 3 ≤ sizeLine; decide), fun p1 n1 => ⟨(by show 4 ≤ sizeLine; decide), fun p2 n2 => ⟨(by show 4 ≤ sizeLine; decide), fun p3 n3 => ⟨_, rfl, (by show 4 ≤ sizeLine; decide), fun p4 n4 => ⟨(by show 3 ≤ sizeLine; decide), fun p5 n5 => ⟨(by show 5 ≤ sizeLine; decide), fun o2 no2 => ?_⟩⟩⟩⟩⟩⟩
        have a1 := Same.new n1 (o := .lst [.int 0, .int 1, .non])
        have a2 := Same.new n2 (o := .lst [.str "# a", .str "abcdefg", .non, .str "A"])
        have a3 := Same.new n3 (o := .lst [.non, .str " ", .str "x y", .int 3])
        have a4 := Same.new n4 (o := .lst [.int (-1), .int 3, .bl true, .str "1"])
        have a5 := Same.new n5 (o := .lst [.int 0, .int 1, .non])
        have a6 := Same.new no2 (o := .lst [.ref p1, .ref p2, .ref p3, .ref p4, .ref p5])
        have b5 := a5.trans a6
        have b4 := a4.trans b5
        have b3 := a3.trans b4
        have b2 := a2.trans b3
        have b1 := a1.trans b2
        refine ⟨o1, o2, _, _, rfl, rfl, b1 _ _ ho1, upd_same, (by show 3 + 5 ≤ sizeLine; decide), fun o no => ?_⟩
        have a7 := Same.new no (o := .lst ([.ref l1, .ref l2, .ref l3] ++ [.ref p1, .ref p2, .ref p3, .ref p4, .ref p5]))
        refine ⟨o, _, rfl, (s1.trans b1).trans a7, upd_same, rfl, fun l hl => ?_⟩
        simp only [List.cons_append, List.nil_append, List.mem_cons, List.not_mem_nil, or_false] at hl
        rcases hl with rfl | rfl | rfl | rfl | rfl | rfl | rfl | rfl
        · exact ⟨_, rfl, (k1.same b1).same a7⟩
        · exact ⟨_, rfl, (k2.same b1).same a7⟩
        · exact ⟨_, rfl, (k3.same b1).same a7⟩
        · exact ⟨_, rfl, okl_atoms ((b2.trans a7) _ _ upd_same) (by decide) (by decide) (by decide +kernel)⟩
        · exact ⟨_, rfl, okl_atoms ((b3.trans a7) _ _ upd_same) (by decide) (by decide) (by decide +kernel)⟩
        · exact ⟨_, rfl, okl_atoms ((b4.trans a7) _ _ upd_same) (by decide) (by decide) (by decide +kernel)⟩
        · exact ⟨_, rfl, okl_atoms ((b5.trans a7) _ _ upd_same) (by decide) (by decide) (by decide +kernel)⟩
        · exact ⟨_, rfl, okl_atoms ((a6.trans a7) _ _ upd_same) (by decide) (by decide) (by decide +kernel)⟩
      · rintro σ G0 ⟨o, ls, rfl, s0, ho, lls, hls⟩
        have hmap : (ns.map V.int).length = ns.length := List.length_map ..
        refine ⟨_, rfl, a, _, rfl, .inl (s0.seq hs), _, _, rfl, _, _, rfl, _, rfl, ?_, ?_, for_range (lo := 0) (n := Int.toNat _) (fun i σ G => ∃ x2 x3 x4 x5 x6 x7 x8 : Option V, σ = [some (.ref a), some (.ref o), x2, x3, x4, x5, x6, x7, x8] ∧ Same G0 G)
          ⟨none, none, none, none, none, none, none, rfl, Same.rfl⟩ ?_ ?_⟩
        · split <;> split <;> omega
        · split <;> split <;> omega
        · rintro i σ G hi ⟨x2, x3, x4, x5, x6, x7, x8, rfl, sG⟩
          have hi3 : i ≤ 2 := by
            revert hi
            split <;> split <;> omega
          refine ⟨_, rfl, _, rfl, a, ns, 0 + (i : Int), 3, rfl, (s0.trans sG).seq hs, by omega, by omega, by decide, by decide, by omega, fun b G1 sb nb bb => ?_⟩
          have nb0 : G0 b = none := sG.free nb
          refine ⟨8, rfl, by decide, by decide, for_range (lo := 0) (n := 8) (fun i' σ G' => ∃ x4 x5 x6 x7 x8 : Option V, σ = [some (.ref a), some (.ref o), some (.int (0 + (i : Int))), some (.ref b), x4, x5, x6, x7, x8] ∧ Same G0 G' ∧ BoxAt G' b)
            ⟨x4, x5, x6, x7, x8, rfl, sG.trans sb, bb⟩ ?_ ?_⟩
          · rintro j σ G2 hj ⟨x4, x5, x6, x7, x8, rfl, s2, bb2⟩
            refine ⟨fun σ' G' => ∃ (s : Addr) (x4 x6 x7 x8 : Option V), σ' = [some (.ref a), some (.ref o), some (.int (0 + (i : Int))), some (.ref b), x4, some (.ref s), x6, x7, x8] ∧ Same G0 G' ∧ BoxAt G' b ∧ s ≠ b ∧ G0 s = none ∧ In8 b s G', ?_, ?_⟩
            · refine ⟨(by show 2 ≤ sizeLine; decide), fun q nq => ⟨_, rfl, (by show 2 ≤ sizeLine; decide), fun l2 nl2 => ?_⟩⟩
              have t1 := Same.new nq (o := .lst [.str "c", .str "defghi"])
              have t2 := Same.new nl2 (o := .lst [.str "", .str "x"])
              have bbl := BoxAt.same (t1.trans t2) bb2
              refine ⟨b, l2, _, rfl, bbl, BoxAt.ne (BoxAt.same t1 bb2) nl2, SqL.of upd_same, by decide, by decide, fun v ob hv yo => ?_⟩
              refine ⟨_, rfl, b, 3, rfl, BoxAt.box yo, by decide, by decide, fun r o2 r0 r3 yo2 => ⟨(by show 8 ≤ sizeLine; decide), fun s ns => ?_⟩⟩
              have qb : q ≠ b := BoxAt.ne bb2 nq
              have hq := t2 _ _ (show upd G2 q (.lst [.str "c", .str "defghi"]) q = _ from upd_same)
              have sl := s2.trans (t1.trans t2)
              generalize upd (upd G2 q (.lst [.str "c", .str "defghi"])) l2 (.lst [.str "", .str "x"]) = Gl at *
              have s5 : Same G0 (upd (upd Gl b ob) b o2) := same_put (same_put sl nb0) nb0
              have hq5 : (upd (upd Gl b ob) b o2) q = some (.lst [.str "c", .str "defghi"]) := by rw [upd_ne qb, upd_ne qb]; exact hq
              have bb5 : BoxAt (upd (upd Gl b ob) b o2) b := BoxAt.box yo2
              generalize upd (upd Gl b ob) b o2 = G5 at *
              have t5 := Same.new ns (o := .lst [.str "ab", .ref q, .bl true, .bl false, v, .str "note", .int r, .bl true])
              have sq : q ≠ s := ne_of_none hq5 ns
              refine ⟨s, _, _, _, _, rfl, s5.trans t5, BoxAt.same t5 bb5, BoxAt.ne bb5 ns, s5.free ns, _, upd_same, rfl, fun x hx => ?_⟩
              simp only [List.mem_cons, List.not_mem_nil, or_false] at hx hv
              rcases hx with rfl | rfl | rfl | rfl | rfl | rfl | rfl | rfl
              · exact vl_str (by decide)
              · refine vl_seq qb sq (.inl (t5 _ _ hq5)) (by decide) fun x hx => ?_
                simp only [List.mem_cons, List.not_mem_nil, or_false] at hx
                rcases hx with rfl | rfl
                · exact it_str (by decide)
                · exact it_str (by decide)
              · exact vl_bl
              · exact vl_bl
              · rcases hv with rfl | rfl
                · exact vl_str (by decide)
                · exact vl_str (by decide)
              · exact vl_str (by decide)
              · exact vl_int
              · exact vl_bl
            · rintro σ' G3 ⟨s, x4, x6, x7, x8, rfl, s3, bb3, sb3, ns0, i3⟩
              refine ⟨fun σ' G' => ∃ (x4 x6 x7 x8 : Option V), σ' = [some (.ref a), some (.ref o), some (.int (0 + (i : Int))), some (.ref b), x4, some (.ref s), x6, x7, x8] ∧ Same G0 G' ∧ BoxAt G' b ∧ In8 b s G', ?_, ?_⟩
              · refine ⟨_, rfl, b, 3, rfl, bb3, by decide, by decide, fun r o1 r0 r3 yo => ?_⟩
                have hs1 : In8 b s (upd G3 b o1) := by
                  obtain ⟨xs, h1, h2, h3⟩ := i3
                  exact ⟨xs, by rw [upd_ne sb3]; exact h1, h2, fun x hx => (h3 x hx).k2 (K2.of_kept Kept.box)⟩
                refine ⟨r, rfl, by omega, by omega, for_range (lo := 0) (n := r.toNat) (fun n σ' G' => ∃ (x4 x6 x7 x8 : Option V), σ' = [some (.ref a), some (.ref o), some (.int (0 + (i : Int))), some (.ref b), x4, some (.ref s), x6, x7, x8] ∧ Same G0 G' ∧ BoxAt G' b ∧ In8 b s G') ⟨_, _, _, _, rfl, same_put s3 nb0, BoxAt.box yo, hs1⟩ ?_ fun σ G h => h⟩
                rintro n σ G hn ⟨x4, x6, x7, x8, rfl, s4, bb4, xs, hx4, lx4, vx4⟩
                refine ⟨_, rfl, b, 8, rfl, bb4, by decide, by decide, fun at_ o2 at0 at8 yo2 => ?_⟩
                have s5 := same_put s4 nb0 (o := o2)
                have bb5 : BoxAt (upd G b o2) b := BoxAt.box yo2
                have hx5 : (upd G b o2) s = some (.lst xs) := by rw [upd_ne sb3]; exact hx4
                have vx5 : ∀ x ∈ xs, Vl b s (upd G b o2) x := fun x hx => (vx4 x hx).k2 (K2.of_kept Kept.box)
                generalize upd G b o2 = G5 at *
                refine ⟨_, rfl, b, 3, rfl, bb5, by decide, by decide, fun w o3 w0 w3 yo3 => ⟨rfl, _, rfl, ?_⟩⟩
                have s6 := same_put s5 nb0 (o := o3)
                have bb6 : BoxAt (upd G5 b o3) b := BoxAt.box yo3
                have hx6 : (upd G5 b o3) s = some (.lst xs) := by rw [upd_ne sb3]; exact hx5
                have vx6 : ∀ x ∈ xs, Vl b s (upd G5 b o3) x := fun x hx => (vx5 x hx).k2 (K2.of_kept Kept.box)
                generalize upd G5 b o3 = G6 at *
                obtain ⟨jn, rfl⟩ : ∃ jn : Nat, at_ = (jn : Int) := ⟨at_.toNat, by omega⟩
                have jl : jn < xs.length := by omega
                have fin : ∀ v G7, Kept b G6 G7 → BoxAt G7 b → Vl b s G7 v → Same G0 G7 → ∃ p ys kk jj, V.ref s = .ref p ∧ V.int (jn : Int) = .int kk ∧ G7 p = some (.lst ys) ∧ ixN ys.length kk = some jj ∧ ∃ (x4' x6' x7' x8' : Option V), [some (.ref a), some (.ref o), some (.int (0 + (i : Int))), some (.ref b), x4, some (.ref s), some (.int (0 + (n : Int))), some (.int (jn : Int)), x8] = [some (V.ref a), some (.ref o), some (.int (0 + (i : Int))), some (.ref b), x4', some (.ref s), x6', x7', x8'] ∧ Same G0 (upd G7 p (.lst (ys.set jj v))) ∧ BoxAt (upd G7 p (.lst (ys.set jj v))) b ∧ In8 b s (upd G7 p (.lst (ys.set jj v))) := by
                  intro v G7 k7 bb7 hv s7
                  have hx7 := k7 _ _ sb3 hx6
                  refine ⟨s, xs, jn, jn, rfl, rfl, hx7, by unfold ixN; simp; omega, _, _, _, _, rfl, same_put s7 ns0, ?_, _, upd_same, by rw [List.length_set]; exact lx4, fun x hx => ?_⟩
                  · obtain ⟨ob, eb, yb⟩ := bb7
                    exact ⟨ob, by rw [upd_ne (Ne.symm sb3)]; exact eb, yb⟩
                  · rcases List.mem_or_eq_of_mem_set hx with h | h
                    · exact Vl.k2 K2.put (Vl.k2 (K2.of_kept k7) (vx6 x h))
                    · subst h
                      exact Vl.k2 K2.put hv
                refine ite2 (fun _ => ?_) (fun _ => ?_)
                · refine ⟨_, rfl, b, rfl, bb6, fun v G7 k7 bb7 hv => ⟨_, rfl, _, rfl, ?_⟩⟩
                  refine fin v G7 k7 bb7 (hv s ⟨_, hx6⟩) fun c u e => ?_
                  exact k7 c u (ne_of_none e nb0) (s6 _ _ e)
                · have hj : ls[jn]? = some ls[jn] := by simp [show jn < ls.length by omega]
                  obtain ⟨q, eq, ys, hq, y0, y1, hy⟩ := hls ls[jn] (List.getElem_mem _)
                  rw [eq] at hj
                  refine ⟨_, rfl, _, rfl, _, rfl, o, _, _, _, rfl, rfl, SqL.of (s6 _ _ ho), at_of rfl hj, b, q, ys, rfl, bb6, ne_of_none hq nb0, SqL.of (s6 _ _ hq), y0, y1, fun v o4 hv yo4 => ⟨_, rfl, _, rfl, ?_⟩⟩
                  refine fin v _ Kept.box (BoxAt.box yo4) ?_ (same_put s6 nb0)
                  exact Vl.k2 (K2.of_same (same_put s6 nb0)) ((hy v hv).vl nb0 ns0)
              · rintro σ' G4 ⟨x4, x6, x7, x8, rfl, s4, bb4, xs, hs4, ls4, hv4⟩
                match xs, ls4 with
                | [x1, x2, x3, x4', x5, x6', x7', x8'], _ =>
                  have v1 := hv4 x1 (by simp)
                  have v2 := hv4 x2 (by simp)
                  have v3 := hv4 x3 (by simp)
                  have v4 := hv4 x4' (by simp)
                  have v5 := hv4 x5 (by simp)
                  have v6 := hv4 x6' (by simp)
                  have v7 := hv4 x7' (by simp)
                  have v8 := hv4 x8' (by simp)
                  refine ⟨fun σ' G' => σ' = [some (.ref a), some (.ref o), some (.int (0 + (i : Int))), some (.ref b), x4, some (.ref s), x6, x7, x8] ∧ Same G4 G', ?_, ?_⟩
                  · obtain ⟨b1, b2, b3, b4, b5, b6, b7, b8, vd⟩ := vl_vd (K := K) v1 v2 v3 v4 v5 v6 v7 v8
                    refine ⟨_, rfl, s, false, x1, x2, x3, x4', x5, x6', x7', x8', x3, x4', b1, b2, b3, b4, b5, b6, b7, b8, rfl, hs4, (fun z => nomatch z), (fun _ => ⟨rfl, rfl⟩), vd, fun G5 s5 => ?_⟩
                    refine ⟨_, rfl, s, x1, x2, x3, x4', x5, x6', x7', x8', b1, b2, b3, b4, b5, b6, b7, b8, rfl, s5 _ _ hs4, vd.same s5, fun G6 s6 => ⟨scal_hear _, _, rfl, iteN (by simp) ⟨rfl, s5.trans s6⟩⟩⟩
                  · rintro σ' G5 ⟨rfl, s5⟩
                    have hs5 := s5 _ _ hs4
                    refine ⟨fun σ' G' => ∃ c, σ' = [some (.ref a), some (.ref o), some (.int (0 + (i : Int))), some (.ref b), x4, some (.ref s), x6, x7, some (.ref c)] ∧ Same G4 G' ∧ G' c = some (.lst [x1, x2, .bl true, .bl true, x5, x6', x7', x8']), ?_, ?_⟩
                    · refine ⟨_, rfl, _, rfl, s, _, rfl, SqL.of hs5, fun p np => ⟨(by show 2 ≤ sizeLine; decide), fun q nq => ?_⟩⟩
                      have t1 := Same.new np (o := .lst [x1, x2])
                      have t2 := Same.new nq (o := .lst [.bl true, .bl true])
                      refine ⟨p, q, _, _, rfl, rfl, t2 _ _ upd_same, upd_same, (by show 2 + 2 ≤ sizeLine; decide), fun u nu => ?_⟩
                      have t3 := Same.new nu (o := .lst [x1, x2, .bl true, .bl true])
                      refine ⟨_, rfl, _, rfl, s, _, rfl, SqL.of ((t1.trans (t2.trans t3)) _ _ hs5), fun e ne => ?_⟩
                      have t4 := Same.new ne (o := .lst [x5, x6', x7', x8'])
                      refine ⟨u, e, _, _, rfl, rfl, t4 _ _ upd_same, upd_same, (by show 4 + 4 ≤ sizeLine; decide), fun c nc => ?_⟩
                      exact ⟨c, rfl, s5.trans ((t1.trans (t2.trans t3)).trans (t4.trans (Same.new nc))), upd_same⟩
                    · rintro σ' G6 ⟨c, rfl, s6, hc⟩
                      have w : ∀ {x}, Vl b s G4 x → Vl b s G6 x := fun h => h.same s6
                      obtain ⟨b1, b2, b3, b4, b5, b6, b7, b8, vd⟩ := vl_vd (K := K) (w v1) (w v2) (vl_bl (z := true)) (vl_bl (z := true)) (w v5) (w v6) (w v7) (w v8)
                      refine ⟨_, rfl, c, true, x1, x2, .bl true, .bl true, x5, x6', x7', x8', .bl true, .bl true, b1, b2, b3, b4, b5, b6, b7, b8, rfl, hc, (fun _ => ⟨rfl, rfl⟩), (fun z => nomatch z), vd, fun G7 s7 => ?_⟩
                      refine ⟨_, rfl, c, x1, x2, .bl true, .bl true, x5, x6', x7', x8', b1, b2, b3, b4, b5, b6, b7, b8, rfl, s7 _ _ hc, vd.same s7, fun G8 s8 => ⟨scal_hear _, _, rfl, iteN (by simp) ⟨_, _, _, _, _, rfl, s4.trans (s6.trans (s7.trans s8)), BoxAt.same (s6.trans (s7.trans s8)) bb4⟩⟩⟩
          · rintro σ G' ⟨x4, x5, x6, x7, x8, rfl, sG', _⟩
            exact ⟨_, _, _, _, _, _, _, rfl, sG'⟩
        · rintro σ G' ⟨x2, x3, x4, x5, x6, x7, x8, rfl, sG⟩
          refine ⟨(by show 1 ≤ sizeLine; decide), fun q nq => ⟨(by show 8 ≤ sizeLine; decide), fun l nl => ?_⟩⟩
          have t1 := Same.new nl (o := .lst [.str "a", .ref q, .bl false, .bl false, .str "", .str "", .int 2, .bl false])
          have hq := t1 _ _ (show upd G' q (.tup [.str "b"]) q = _ from upd_same)
          refine ⟨l, true, .str "a", .ref q, .bl true, .bl true, .str "", .str "", .int 2, .bl false, _, _, true, true, true, true, true, true, true, true, rfl, upd_same, (fun _ => ⟨rfl, rfl⟩), (fun z => nomatch z), ?_, fun G8 s8 => ⟨rfl, k _⟩⟩
          refine ⟨.inl ⟨_, rfl, by decide, by decide +kernel⟩, .inr ⟨q, [.str "b"], [true], rfl, .inr hq, by decide, ⟨rfl, fun i x b h1 h2 => ?_⟩, rfl⟩, isT_bl, isT_bl, .inl ⟨_, rfl, by decide, by decide +kernel⟩, .inl ⟨_, rfl, by decide, by decide +kernel⟩, .inl ⟨2, rfl, rfl⟩, isT_bl⟩
          cases i with
          | zero =>
            cases h1
            cases h2
            exact .inl ⟨_, rfl, by decide, by decide +kernel⟩
          | succ i => simp at h1
end
end Lay
set_option Elab.async false
set_option linter.all false
set_option maxRecDepth 100000
set_option maxHeartbeats 8000000
namespace Lay
open PySem L2
def dPiece : List V := [.bl false, .bl false, .str "", .str "", .int 0, .bl false]

theorem kit_cls {K : PySem.W.Frag} {C : Addr} {t : Value} {b : Bool} (hd : PySem.W.hasDictIn K C = true) (ty : PySem.W.typeIn K (.ref C) = some (.type "type")) (s : PySem.W.subIn K t (.ref C) = some b) (e : t = .ref C → b = true) : PySem.W.kitOne K t (.ref C) = some b := by
  unfold PySem.W.kitOne
  by_cases h : (t == Value.ref C) = true
  · rw [if_pos h, e (beq_iff_eq.mp h)]
  · rw [if_neg h]
    obtain ⟨cd, hc, _⟩ := PySem.W.any_some hd
    unfold PySem.W.kitCls
    dsimp only
    rw [if_pos (by rw [hc, ty]; rfl)]
    exact s
theorem kit_type {K : PySem.W.Frag} {C : Addr} {n : String} {b : Bool} (hm : PySem.W.kitMeta n = true) (s : PySem.W.subIn K (.ref C) (.type n) = some b) : PySem.W.kitOne K (.ref C) (.type n) = some b := by
  unfold PySem.W.kitOne
  rw [if_neg (fun h => by have q := beq_iff_eq.mp h; cases q)]
  unfold PySem.W.kitCls
  dsimp only
  rw [if_pos hm]
  exact s
theorem np_none {C : Addr} : (PySem.fastBuiltinMro "NoneType").map (·.contains (Value.ref C)) = some false := by
  have e : PySem.fastBuiltinMro "NoneType" = some [.type "NoneType", .type "object"] := by decide +kernel
  rw [e]
  rfl
theorem np_int {C : Addr} : (PySem.fastBuiltinMro "int").map (·.contains (Value.ref C)) = some false := by
  have e : PySem.fastBuiltinMro "int" = some [.type "int", .type "object"] := by decide +kernel
  rw [e]
  rfl
theorem np_bool {C : Addr} : (PySem.fastBuiltinMro "bool").map (·.contains (Value.ref C)) = some false := by
  have e : PySem.fastBuiltinMro "bool" = some [.type "bool", .type "int", .type "object"] := by decide +kernel
  rw [e]
  rfl
theorem np_str {C : Addr} : (PySem.fastBuiltinMro "str").map (·.contains (Value.ref C)) = some false := by
  have e : PySem.fastBuiltinMro "str" = some [.type "str", .type "object"] := by decide +kernel
  rw [e]
  rfl
theorem np_list {C : Addr} : (PySem.fastBuiltinMro "list").map (·.contains (Value.ref C)) = some false := by
  have e : PySem.fastBuiltinMro "list" = some [.type "list", .type "object"] := by decide +kernel
  rw [e]
  rfl
theorem np_tuple {C : Addr} : (PySem.fastBuiltinMro "tuple").map (·.contains (Value.ref C)) = some false := by
  have e : PySem.fastBuiltinMro "tuple" = some [.type "tuple", .type "object"] := by decide +kernel
  rw [e]
  rfl

theorem refs_ok (L : Addr) : PySem.HandSPX.refsVE [.ref L, .type "ValueError", .type "Exception", .type "BaseException", .type "object"] = true := by
  show PySem.HandSPX.refsVE [.type "ValueError", .type "Exception", .type "BaseException", .type "object"] = true
  decide +kernel

theorem binds_piece4 {K : PySem.W.Frag} {f : Addr} {fd : FuncData} (F : FunD K "__init__" "Piece.__init__" (defArgs sPieceI) (defBody sPieceI) (defScope sPieceI) dPiece [] f fd) : ∃ ds, Vals dPiece4 ds ∧ Binds K fd psPiece ds :=
  F.binds1 (ps := psPiece) 5 2 (fun z => nomatch z) rfl fun T kV doc pm an cdv ct us its h1 h2 => match us, its, h1, h2 with
    | [_, _, _, _, _], [_, _, _, _, _, _], _, _ => ⟨_, rfl, rfl⟩
theorem binds_piece8 {K : PySem.W.Frag} {f : Addr} {fd : FuncData} (F : FunD K "__init__" "Piece.__init__" (defArgs sPieceI) (defBody sPieceI) (defScope sPieceI) dPiece [] f fd) : Binds K fd psPiece [] := by
  obtain ⟨ds, h1, h2⟩ := F.binds1 (ps := psPiece) 9 6 (fun z => nomatch z) rfl fun T kV doc pm an cdv ct us its h1 h2 => match us, its, h1, h2 with
    | [_, _, _, _, _, _, _, _, _], [_, _, _, _, _, _], _, _ => ⟨_, rfl, rfl⟩
  cases h1
  exact h2

theorem all_mk {l : PySem.W.OpenLaw} {w : World} {K : PySem.W.Frag} {h : Heap} {mg : Str → Option Value} {fa L C TC fPI fBu DI fII DP g_int g_num g_seq g_name g_names g_req g_rem g_box g_take g_pick g_value g_isn g_due g_heard g_law : Addr} (X : K.In h) (G : h.Ns mainGlobals mg) (hfa : mg "law" = some (.ref fa))
    {od_Ci an_Ci : Option Addr} {sl_Ci : Array (Option Value)} {oc_Ci kV_Ci dc_Ci pm_Ci cd_Ci ct_Ci : Value}
    {u1 u2 u3 : Nat}
    {oc_TC : Value} {od_TC : Option Addr} {n_TC : Nat} {sl_TC : Array (Option Value)}
    {od_but an_but : Option Addr} {sl_but : Array (Option Value)} {oc_but kV_but dc_but pm_but cd_but ct_but : Value}
    {nm_I qn_I : Str} {N0_I : Addr} {bs_I : List Value} {sn_I : List Str} {sub0_I : List Value} {ab_I : Bool} {col_I : Option Bool} {dd_I : Option Addr} {m0_I m1_I m2_I m3_I m5_I : Option Value}
    {od_I an_I : Option Addr} {sl_I : Array (Option Value)} {oc_I kV_I dc_I pm_I cd_I ct_I : Value}
    {od_int an_int : Option Addr} {sl_int : Array (Option Value)} {oc_int kV_int dc_int pm_int cd_int ct_int : Value}
    {od_num an_num : Option Addr} {sl_num : Array (Option Value)} {oc_num kV_num dc_num pm_num cd_num ct_num : Value}
    {od_seq an_seq : Option Addr} {sl_seq : Array (Option Value)} {oc_seq kV_seq dc_seq pm_seq cd_seq ct_seq : Value}
    {od_name an_name : Option Addr} {sl_name : Array (Option Value)} {oc_name kV_name dc_name pm_name cd_name ct_name : Value}
    {od_names an_names : Option Addr} {sl_names : Array (Option Value)} {oc_names kV_names dc_names pm_names cd_names ct_names : Value}
    {od_req an_req : Option Addr} {sl_req : Array (Option Value)} {oc_req kV_req dc_req pm_req cd_req ct_req : Value}
    {od_rem an_rem : Option Addr} {sl_rem : Array (Option Value)} {oc_rem kV_rem dc_rem pm_rem cd_rem ct_rem : Value}
    {od_box an_box : Option Addr} {sl_box : Array (Option Value)} {oc_box kV_box dc_box pm_box cd_box ct_box : Value}
    {od_take an_take : Option Addr} {sl_take : Array (Option Value)} {oc_take kV_take dc_take pm_take cd_take ct_take : Value}
    {od_pick an_pick : Option Addr} {sl_pick : Array (Option Value)} {oc_pick kV_pick dc_pick pm_pick cd_pick ct_pick : Value}
    {od_value an_value : Option Addr} {sl_value : Array (Option Value)} {oc_value kV_value dc_value pm_value cd_value ct_value : Value}
    {od_isn an_isn : Option Addr} {sl_isn : Array (Option Value)} {oc_isn kV_isn dc_isn pm_isn cd_isn ct_isn : Value}
    {od_due an_due : Option Addr} {sl_due : Array (Option Value)} {oc_due kV_due dc_due pm_due cd_due ct_due : Value}
    {od_heard an_heard : Option Addr} {sl_heard : Array (Option Value)} {oc_heard kV_heard dc_heard pm_heard cd_heard ct_heard : Value}
    {od_law an_law : Option Addr} {sl_law : Array (Option Value)} {oc_law kV_law dc_law pm_law cd_law ct_law : Value}
    (aL : PySem.W.nsIn K mainGlobals "LayError" = some (some (.ref L)))
    (tL : PySem.W.typeIn K (.ref L) = some (.type "type"))
    (hL : PySem.W.hasDictIn K L = true)
    (hn : PySem.W.specialIn K (.builtin "object.__class__") "__get__" = some (some (.builtin "getset_descriptor.__get__")))
    (ht : PySem.W.takesIn K (.builtin "object.__class__") = some true)
    (aC : PySem.W.nsIn K mainGlobals "Piece" = some (some (.ref C)))
    (pgC : PySem.W.plainGet K C Str.empty = true)
    (hdC : PySem.W.hasDictIn K C = true)
    (poC : PySem.W.plainOver K C = true)
    (saC : PySem.W.findIn K (.ref C) "__setattr__" = some (some (.builtin "object.__setattr__")))
    (caC : PySem.W.findIn K (.ref C) "__class__" = some (some (.builtin "object.__class__")))
    (moC : PySem.W.mroIn K C (.type "object") = some true)
    (nlC : PySem.W.subIn K (.ref C) (.type "list") = some false)
    (ntC : PySem.W.subIn K (.ref C) (.type "tuple") = some false)
    (nbC : PySem.W.subIn K (.ref C) (.type "bool") = some false)
    (tyC : PySem.W.typeIn K (.ref C) = some (.type "type"))
    (noC_word : PySem.W.findIn K (.ref C) "word" = some none)
    (noC_parts : PySem.W.findIn K (.ref C) "parts" = some none)
    (noC_broken : PySem.W.findIn K (.ref C) "broken" = some none)
    (noC_marked : PySem.W.findIn K (.ref C) "marked" = some none)
    (noC_ahead : PySem.W.findIn K (.ref C) "ahead" = some none)
    (noC_behind : PySem.W.findIn K (.ref C) "behind" = some none)
    (noC_blanks : PySem.W.findIn K (.ref C) "blanks" = some none)
    (noC_left : PySem.W.findIn K (.ref C) "left" = some none)
    (mkC : PySem.W.makesIn K C = true)
    (inC : PySem.W.findIn K (.ref C) "__init__" = some (some (.ref fPI)))
    (fiC : PySem.W.isFn K (.ref fPI) = true)
    (kpC : PySem.W.keepIn K (.ref C) = true)
    (l_Ci : K.lookup fPI = some ⟨oc_Ci, od_Ci, .func (PySem.W.fnOf "__init__" "Piece.__init__" (defArgs sPieceI) (defBody sPieceI) (defScope sPieceI) (.ref TC) kV_Ci dc_Ci pm_Ci an_Ci cd_Ci ct_Ci), sl_Ci⟩)
    (c_Ci : PySem.W.codeIn K cd_Ci "Piece.__init__" = true)
    (k_Ci : PySem.W.keepIn K (.ref fPI) = true)
    (l_TC : K.lookup TC = some ⟨oc_TC, od_TC, .seq [.bool false, .bool false, .str "" u1, .str "" u2, .int 0 u3, .bool false].toArray n_TC, sl_TC⟩)
    (s_but : PySem.W.findIn K (.ref C) "but" = some (some (.ref fBu)))
    (f_but : PySem.W.isFn K (.ref fBu) = true)
    (l_but : K.lookup fBu = some ⟨oc_but, od_but, .func (PySem.W.fnOf "but" "Piece.but" (defArgs sBut) (defBody sBut) (defScope sBut) .none kV_but dc_but pm_but an_but cd_but ct_but), sl_but⟩)
    (c_but : PySem.W.codeIn K cd_but "Piece.but" = true)
    (k_but : PySem.W.keepIn K (.ref fBu) = true)
    (aDI : PySem.W.nsIn K mainGlobals "InvalidPiece" = some (some (.ref DI)))
    (tyI : PySem.W.typeIn K (.ref DI) = some (.type "type"))
    (kDI : PySem.W.keepIn K (.ref DI) = true)
    (exI : PySem.W.subIn K (.ref DI) (.type "BaseException") = some true)
    (sLI : PySem.W.subIn K (.ref DI) (.ref L) = some true)
    (sSI : PySem.W.subIn K (.ref DI) (.ref DI) = some true)
    (gaI : PySem.W.findIn K (.ref DI) "__getattribute__" = some (some (.builtin "BaseException.__getattribute__")))
    (ggI : PySem.W.findIn K (.ref DI) "__getattr__" = some none)
    (hdI : PySem.W.hasDictIn K DI = true)
    (caI : PySem.W.findIn K (.ref DI) "__class__" = some (some (.builtin "object.__class__")))
    (moI : PySem.W.mroIn K DI (.type "object") = some true)
    (xLI : K.lookup DI = some (excClassObj nm_I qn_I DI N0_I bs_I [.ref L, .type "ValueError", .type "Exception", .type "BaseException", .type "object"] true sn_I sub0_I ab_I col_I dd_I m0_I m1_I m2_I m3_I m5_I "ValueError.__new__"))
    (saI : PySem.W.findIn K (.ref DI) "__setattr__" = some (some (.builtin "object.__setattr__")))
    (iniI : PySem.W.findIn K (.ref DI) "__init__" = some (some (.ref fII)))
    (tiI : PySem.W.typeIn K (.ref fII) = some (.type "function"))
    (noI : PySem.W.findIn K (.ref DI) "word" = some none)
    (l_I : K.lookup fII = some ⟨oc_I, od_I, .func (PySem.W.fnOf "__init__" "InvalidPiece.__init__" (defArgs sIPc) (defBody sIPc) (defScope sIPc) .none kV_I dc_I pm_I an_I cd_I ct_I), sl_I⟩)
    (c_I : PySem.W.codeIn K cd_I "InvalidPiece.__init__" = true)
    (k_I : PySem.W.keepIn K (.ref fII) = true)
    (aDP : PySem.W.nsIn K mainGlobals "InvalidProgram" = some (some (.ref DP)))
    (tDP : PySem.W.typeIn K (.ref DP) = some (.type "type"))
    (hDP : PySem.W.hasDictIn K DP = true)
    (sPI : PySem.W.subIn K (.ref DI) (.ref DP) = some false)
    (a_int : PySem.W.nsIn K mainGlobals "is_integer" = some (some (.ref g_int)))
    (l_int : K.lookup g_int = some ⟨oc_int, od_int, .func (PySem.W.fnOf "is_integer" "is_integer" (defArgs sInt) (defBody sInt) (defScope sInt) .none kV_int dc_int pm_int an_int cd_int ct_int), sl_int⟩)
    (c_int : PySem.W.codeIn K cd_int "is_integer" = true)
    (k_int : PySem.W.keepIn K (.ref g_int) = true)
    (a_num : PySem.W.nsIn K mainGlobals "is_number" = some (some (.ref g_num)))
    (l_num : K.lookup g_num = some ⟨oc_num, od_num, .func (PySem.W.fnOf "is_number" "is_number" (defArgs sNum) (defBody sNum) (defScope sNum) .none kV_num dc_num pm_num an_num cd_num ct_num), sl_num⟩)
    (c_num : PySem.W.codeIn K cd_num "is_number" = true)
    (k_num : PySem.W.keepIn K (.ref g_num) = true)
    (a_seq : PySem.W.nsIn K mainGlobals "is_sequence" = some (some (.ref g_seq)))
    (l_seq : K.lookup g_seq = some ⟨oc_seq, od_seq, .func (PySem.W.fnOf "is_sequence" "is_sequence" (defArgs sSeq) (defBody sSeq) (defScope sSeq) .none kV_seq dc_seq pm_seq an_seq cd_seq ct_seq), sl_seq⟩)
    (c_seq : PySem.W.codeIn K cd_seq "is_sequence" = true)
    (k_seq : PySem.W.keepIn K (.ref g_seq) = true)
    (a_name : PySem.W.nsIn K mainGlobals "is_name" = some (some (.ref g_name)))
    (l_name : K.lookup g_name = some ⟨oc_name, od_name, .func (PySem.W.fnOf "is_name" "is_name" (defArgs sName) (defBody sName) (defScope sName) .none kV_name dc_name pm_name an_name cd_name ct_name), sl_name⟩)
    (c_name : PySem.W.codeIn K cd_name "is_name" = true)
    (k_name : PySem.W.keepIn K (.ref g_name) = true)
    (a_names : PySem.W.nsIn K mainGlobals "are_names" = some (some (.ref g_names)))
    (l_names : K.lookup g_names = some ⟨oc_names, od_names, .func (PySem.W.fnOf "are_names" "are_names" (defArgs sNames) (defBody sNames) (defScope sNames) .none kV_names dc_names pm_names an_names cd_names ct_names), sl_names⟩)
    (c_names : PySem.W.codeIn K cd_names "are_names" = true)
    (k_names : PySem.W.keepIn K (.ref g_names) = true)
    (a_req : PySem.W.nsIn K mainGlobals "require" = some (some (.ref g_req)))
    (l_req : K.lookup g_req = some ⟨oc_req, od_req, .func (PySem.W.fnOf "require" "require" (defArgs sReq) (defBody sReq) (defScope sReq) .none kV_req dc_req pm_req an_req cd_req ct_req), sl_req⟩)
    (c_req : PySem.W.codeIn K cd_req "require" = true)
    (k_req : PySem.W.keepIn K (.ref g_req) = true)
    (a_rem : PySem.W.nsIn K mainGlobals "is_remark" = some (some (.ref g_rem)))
    (l_rem : K.lookup g_rem = some ⟨oc_rem, od_rem, .func (PySem.W.fnOf "is_remark" "is_remark" (defArgs sRem) (defBody sRem) (defScope sRem) .none kV_rem dc_rem pm_rem an_rem cd_rem ct_rem), sl_rem⟩)
    (c_rem : PySem.W.codeIn K cd_rem "is_remark" = true)
    (k_rem : PySem.W.keepIn K (.ref g_rem) = true)
    (a_box : PySem.W.nsIn K mainGlobals "_law_box" = some (some (.ref g_box)))
    (l_box : K.lookup g_box = some ⟨oc_box, od_box, .func (PySem.W.fnOf "_law_box" "_law_box" (defArgs sBox) (defBody sBox) (defScope sBox) .none kV_box dc_box pm_box an_box cd_box ct_box), sl_box⟩)
    (c_box : PySem.W.codeIn K cd_box "_law_box" = true)
    (k_box : PySem.W.keepIn K (.ref g_box) = true)
    (a_take : PySem.W.nsIn K mainGlobals "_law_take" = some (some (.ref g_take)))
    (l_take : K.lookup g_take = some ⟨oc_take, od_take, .func (PySem.W.fnOf "_law_take" "_law_take" (defArgs sTake) (defBody sTake) (defScope sTake) .none kV_take dc_take pm_take an_take cd_take ct_take), sl_take⟩)
    (c_take : PySem.W.codeIn K cd_take "_law_take" = true)
    (k_take : PySem.W.keepIn K (.ref g_take) = true)
    (a_pick : PySem.W.nsIn K mainGlobals "_law_pick" = some (some (.ref g_pick)))
    (l_pick : K.lookup g_pick = some ⟨oc_pick, od_pick, .func (PySem.W.fnOf "_law_pick" "_law_pick" (defArgs sPick) (defBody sPick) (defScope sPick) .none kV_pick dc_pick pm_pick an_pick cd_pick ct_pick), sl_pick⟩)
    (c_pick : PySem.W.codeIn K cd_pick "_law_pick" = true)
    (k_pick : PySem.W.keepIn K (.ref g_pick) = true)
    (a_value : PySem.W.nsIn K mainGlobals "_law_value" = some (some (.ref g_value)))
    (l_value : K.lookup g_value = some ⟨oc_value, od_value, .func (PySem.W.fnOf "_law_value" "_law_value" (defArgs sVal) (defBody sVal) (defScope sVal) .none kV_value dc_value pm_value an_value cd_value ct_value), sl_value⟩)
    (c_value : PySem.W.codeIn K cd_value "_law_value" = true)
    (k_value : PySem.W.keepIn K (.ref g_value) = true)
    (a_isn : PySem.W.nsIn K mainGlobals "_law_is_name" = some (some (.ref g_isn)))
    (l_isn : K.lookup g_isn = some ⟨oc_isn, od_isn, .func (PySem.W.fnOf "_law_is_name" "_law_is_name" (defArgs sIsN) (defBody sIsN) (defScope sIsN) .none kV_isn dc_isn pm_isn an_isn cd_isn ct_isn), sl_isn⟩)
    (c_isn : PySem.W.codeIn K cd_isn "_law_is_name" = true)
    (k_isn : PySem.W.keepIn K (.ref g_isn) = true)
    (a_due : PySem.W.nsIn K mainGlobals "_law_due" = some (some (.ref g_due)))
    (l_due : K.lookup g_due = some ⟨oc_due, od_due, .func (PySem.W.fnOf "_law_due" "_law_due" (defArgs sDue) (defBody sDue) (defScope sDue) .none kV_due dc_due pm_due an_due cd_due ct_due), sl_due⟩)
    (c_due : PySem.W.codeIn K cd_due "_law_due" = true)
    (k_due : PySem.W.keepIn K (.ref g_due) = true)
    (a_heard : PySem.W.nsIn K mainGlobals "_law_heard" = some (some (.ref g_heard)))
    (l_heard : K.lookup g_heard = some ⟨oc_heard, od_heard, .func (PySem.W.fnOf "_law_heard" "_law_heard" (defArgs sHea) (defBody sHea) (defScope sHea) .none kV_heard dc_heard pm_heard an_heard cd_heard ct_heard), sl_heard⟩)
    (c_heard : PySem.W.codeIn K cd_heard "_law_heard" = true)
    (k_heard : PySem.W.keepIn K (.ref g_heard) = true)
    (a_law : PySem.W.nsIn K mainGlobals "law" = some (some (.ref g_law)))
    (l_law : K.lookup g_law = some ⟨oc_law, od_law, .func (PySem.W.fnOf "law" "law" (defArgs sLaw) (defBody sLaw) (defScope sLaw) .none kV_law dc_law pm_law an_law cd_law ct_law), sl_law⟩)
    (c_law : PySem.W.codeIn K cd_law "law" = true)
    (k_law : PySem.W.keepIn K (.ref g_law) = true)
    (z_int : PySem.W.nsIn K mainGlobals "int" = some none)
    (z_bool : PySem.W.nsIn K mainGlobals "bool" = some none)
    (z_str : PySem.W.nsIn K mainGlobals "str" = some none)
    (z_list : PySem.W.nsIn K mainGlobals "list" = some none)
    (z_tuple : PySem.W.nsIn K mainGlobals "tuple" = some none)
    (z_dict : PySem.W.nsIn K mainGlobals "dict" = some none)
    (z_isinstance : PySem.W.nsIn K mainGlobals "isinstance" = some none)
    (z_len : PySem.W.nsIn K mainGlobals "len" = some none)
    (z_all : PySem.W.nsIn K mainGlobals "all" = some none)
    (z_any : PySem.W.nsIn K mainGlobals "any" = some none)
    (z_abs : PySem.W.nsIn K mainGlobals "abs" = some none)
    (z_range : PySem.W.nsIn K mainGlobals "range" = some none)
    (z_enumerate : PySem.W.nsIn K mainGlobals "enumerate" = some none)
    (z_zip : PySem.W.nsIn K mainGlobals "zip" = some none)
    (z_max : PySem.W.nsIn K mainGlobals "max" = some none)
    (z_min : PySem.W.nsIn K mainGlobals "min" = some none)
    (z_repr : PySem.W.nsIn K mainGlobals "repr" = some none)
    (z_sorted : PySem.W.nsIn K mainGlobals "sorted" = some none)
    : ∃ fd : FuncData, (∀ (s : Shared) (v : Value), BindsTo s fd ⟨[v], []⟩ [("_law_script", v)]) ∧ ∀ base : Heap, K.In base → base.Ns mainGlobals mg → FnOk l.prog w K mg base CX0 9 fa fd ["_law_script"] (spLaw K) := by
  have e := hfa.symm.trans (PySem.W.mg_of X G a_law)
  cases e
  have M : ∀ {x : Str} {a : Addr}, PySem.W.nsIn K mainGlobals x = some (some (.ref a)) → mg x = some (.ref a) := fun h => PySem.W.mg_of X G h
  have N : ∀ {x : Str}, PySem.W.nsIn K mainGlobals x = some none → mg x = none := fun h => PySem.W.mg_none_of X G h
  have F_int := fun_mk (st := sInt) l_int c_int k_int
  have b_int := F_int.binds (ps := ["value"]) fun _ _ _ _ _ _ us hl => match us, hl with | [_], _ => rfl
  have F_num := fun_mk (st := sNum) l_num c_num k_num
  have b_num := F_num.binds (ps := ["value", "many"]) fun _ _ _ _ _ _ us hl => match us, hl with | [_, _], _ => rfl
  have F_seq := fun_mk (st := sSeq) l_seq c_seq k_seq
  have b_seq := F_seq.binds (ps := ["value"]) fun _ _ _ _ _ _ us hl => match us, hl with | [_], _ => rfl
  have F_name := fun_mk (st := sName) l_name c_name k_name
  have b_name := F_name.binds (ps := ["value"]) fun _ _ _ _ _ _ us hl => match us, hl with | [_], _ => rfl
  have F_names := fun_mk (st := sNames) l_names c_names k_names
  have b_names := F_names.binds (ps := ["value"]) fun _ _ _ _ _ _ us hl => match us, hl with | [_], _ => rfl
  have F_req := fun_mk (st := sReq) l_req c_req k_req
  have b_req := F_req.binds (ps := ["holds", "word"]) fun _ _ _ _ _ _ us hl => match us, hl with | [_, _], _ => rfl
  have F_rem := fun_mk (st := sRem) l_rem c_rem k_rem
  have b_rem := F_rem.binds (ps := ["value"]) fun _ _ _ _ _ _ us hl => match us, hl with | [_], _ => rfl
  have F_box := fun_mk (st := sBox) l_box c_box k_box
  have b_box := F_box.binds (ps := ["_law_script", "_law_k", "_law_own"]) fun _ _ _ _ _ _ us hl => match us, hl with | [_, _, _], _ => rfl
  have F_take := fun_mk (st := sTake) l_take c_take k_take
  have b_take := F_take.binds (ps := ["_law_box_here", "_law_many"]) fun _ _ _ _ _ _ us hl => match us, hl with | [_, _], _ => rfl
  have F_pick := fun_mk (st := sPick) l_pick c_pick k_pick
  have b_pick := F_pick.binds (ps := ["_law_box_here", "_law_items"]) fun _ _ _ _ _ _ us hl => match us, hl with | [_, _], _ => rfl
  have F_value := fun_mk (st := sVal) l_value c_value k_value
  have b_value := F_value.binds (ps := ["_law_box_here"]) fun _ _ _ _ _ _ us hl => match us, hl with | [_], _ => rfl
  have F_isn := fun_mk (st := sIsN) l_isn c_isn k_isn
  have b_isn := F_isn.binds (ps := ["_law_value_here"]) fun _ _ _ _ _ _ us hl => match us, hl with | [_], _ => rfl
  have F_due := fun_mk (st := sDue) l_due c_due k_due
  have b_due := F_due.binds (ps := ["_law_some"]) fun _ _ _ _ _ _ us hl => match us, hl with | [_], _ => rfl
  have F_heard := fun_mk (st := sHea) l_heard c_heard k_heard
  have b_heard := F_heard.binds (ps := ["_law_some", "_law_is_but"]) fun _ _ _ _ _ _ us hl => match us, hl with | [_, _], _ => rfl
  have F_law := fun_mk (st := sLaw) l_law c_law k_law
  have b_law := F_law.binds (ps := ["_law_script"]) fun _ _ _ _ _ _ us hl => match us, hl with | [_], _ => rfl
  have D_box : Dfn K mg "_law_box" sBox ["_law_script", "_law_k", "_law_own"] := ⟨_, _, F_box, M a_box, b_box⟩
  have D_take : Dfn K mg "_law_take" sTake ["_law_box_here", "_law_many"] := ⟨_, _, F_take, M a_take, b_take⟩
  have D_pick : Dfn K mg "_law_pick" sPick ["_law_box_here", "_law_items"] := ⟨_, _, F_pick, M a_pick, b_pick⟩
  have D_value : Dfn K mg "_law_value" sVal ["_law_box_here"] := ⟨_, _, F_value, M a_value, b_value⟩
  have D_isn : Dfn K mg "_law_is_name" sIsN ["_law_value_here"] := ⟨_, _, F_isn, M a_isn, b_isn⟩
  have D_due : Dfn K mg "_law_due" sDue ["_law_some"] := ⟨_, _, F_due, M a_due, b_due⟩
  have D_heard : Dfn K mg "_law_heard" sHea ["_law_some", "_law_is_but"] := ⟨_, _, F_heard, M a_heard, b_heard⟩
  have D_law : Dfn K mg "law" sLaw ["_law_script"] := ⟨_, _, F_law, M a_law, b_law⟩
  have isCI : ExcC K DI := ⟨gaI, ggI, exI, hdI, caI, hn, ht, moI⟩
  have XI : XC K mg DI fII "InvalidPiece" "word" := ⟨⟨⟨_, _, _, _, _, _, _, _, _, _, _, _, _, _, _, xLI, refs_ok L⟩, saI, exI, tyI, kDI⟩, iniI, tiI, M aDI, noI, isCI, ⟨gaI, ggI, exI, hdI⟩⟩
  have F_I := fun_mk (st := sIPc) l_I c_I k_I
  have b_I := F_I.binds (ps := ["self", "word"]) fun _ _ _ _ _ _ us hl => match us, hl with | [_, _], _ => rfl
  have F_but := fun_mk (st := sBut) l_but c_but k_but
  have FPI : FunD K "__init__" "Piece.__init__" (defArgs sPieceI) (defBody sPieceI) (defScope sPieceI) dPiece [] fPI _ :=
    ⟨⟨_, _, _, _, _, _, _, _, _, _, rfl, l_Ci, c_Ci, .inr ⟨(fun z => nomatch z), TC, _, _, _, rfl, l_TC, rfl, .cons rfl (.cons rfl (.cons ⟨_, rfl⟩ (.cons ⟨_, rfl⟩ (.cons ⟨_, rfl⟩ (.cons rfl .nil)))))⟩, .inl rfl⟩, k_Ci⟩
  have D : TxtD mg := ⟨N z_int, N z_len, N z_abs, N z_range⟩
  have T : TxtK mg := ⟨N z_int, N z_bool, N z_str, N z_list, N z_tuple, N z_isinstance, N z_len, N z_all, N z_enumerate⟩
  have B : Bt mg := ⟨N z_int, N z_bool, N z_str, N z_list, N z_tuple, N z_dict, N z_isinstance, N z_len, N z_all, N z_any, N z_abs, N z_range, N z_enumerate, N z_zip, N z_max, N z_min, N z_repr, N z_sorted⟩
  have cl : Cls K C := ⟨pgC, hdC, poC, saC⟩
  have ZC : PieceC K C := ⟨cl, noC_word, noC_parts, noC_broken, noC_marked, noC_ahead, noC_behind, noC_blanks, noC_left⟩
  have mk1 : Mk K C fPI := ⟨mkC, inC, fiC, kpC⟩
  refine ⟨PySem.W.fnOf "law" "law" (defArgs sLaw) (defBody sLaw) (defScope sLaw) .none kV_law dc_law pm_law an_law cd_law ct_law, fun s v => .of_eq rfl, fun base _ _ => ?_⟩
  have okName : FnOk l.prog w K mg base CX0 1 g_name _ ["value"] (spName K) := ok_name F_name T
  have okSeq : FnOk l.prog w K mg base CX0 1 g_seq _ ["value"] (spSeq K) := ok_seq F_seq T
  have okInt : FnOk l.prog w K mg base CX0 1 g_int _ ["value"] (spInt K) := ok_int F_int T
  have okNum := ok_num F_num okInt (M a_int) k_int b_int
  have okI := ok_iPc (P := l.prog) (w := w) (mg := mg) (base := base) (C := DI) F_I
  have Dp : PieceD l.prog w K mg base g_req g_name g_names g_rem g_num _ _ _ _ _ := ⟨ok_req F_req, M a_req, k_req, b_req, okName, M a_name, k_name, b_name,
    ok_names F_names T okSeq (M a_seq) k_seq b_seq okName (M a_name) k_name b_name, M a_names, k_names, b_names, ok_rem F_rem T okName (M a_name) k_name b_name, M a_rem, k_rem, b_rem, okNum, M a_num, k_num, b_num⟩
  have okPI := ok_pieceI (C := C) FPI T ZC Dp
  have okPV := ok_pieceV (C := C) FPI T ZC ⟨Dp, ok_reqX F_req XI okI b_I⟩
  obtain ⟨its, kb⟩ := kbn_piece FPI rfl
  have okBut := ok_butV (P := l.prog) (w := w) (base := base) (its := its) (ks := ks6) F_but ZC mk1 (by decide +kernel) (by decide) okPV (M aC) kb (fun kV doc pm an cdv ct us ws h1 h2 => match us, ws, h1, h2 with | [_], [_, _, _, _, _, _], _, _ => rfl)
  have neD : DI ≠ DP := fun z => by
    have q := sPI
    rw [← z, sSI] at q
    cases q
  have PC : PcF l.prog w K mg base C DI := ⟨ZC, M aC, ⟨_, _, mk1, okPI, okPV, binds_piece8 FPI, binds_piece4 FPI⟩, ⟨_, ⟨s_but, f_but, k_but⟩, okBut⟩⟩
  have Kn : Kin K mg DI L DP := ⟨M aL, M aDP, kit_cls hL tL sLI (fun _ => rfl), kit_cls hDP tDP sPI (fun z => absurd (Value.ref.inj z) neD), PySem.W.exm_ref exI hdI tyI sSI⟩
  have hTake : Has l.prog w K mg base CX0 1 "_law_take" ["_law_box_here", "_law_many"] spTake := ⟨_, _, ok_take F_take D, M a_take, k_take, b_take⟩
  have hPick : Has l.prog w K mg base CX0 2 "_law_pick" ["_law_box_here", "_law_items"] (spPick K) := ⟨_, _, ok_pick F_pick D F_take b_take (M a_take), M a_pick, k_pick, b_pick⟩
  have hBox : Has l.prog w K mg base CX0 1 "_law_box" ["_law_script", "_law_k", "_law_own"] (spBox K) := ⟨_, _, ok_box F_box D, M a_box, k_box, b_box⟩
  have hIsN := has_IsN (P := l.prog) (w := w) (base := base) B D_isn
  have hDue := has_Due B hIsN D_due
  have hHea := has_Hea B XI Kn PC D_heard
  have hVal := has_Val B hPick D_value
  exact ok_Law B hPick hTake hBox hVal hHea hDue F_law
end Lay
open PySem PySem.W PyProof.Rows
set_option Elab.async false
set_option maxRecDepth 100000 in
set_option maxHeartbeats 0 in
theorem PySem.Challenge.cw_laytwice_k03_pieces_refused_holds : PySem.Challenge.rw_laytwice_k03_pieces_refused.Holds := by
  w_on; o_law; k_head; (case hw => w_witness2)
  k_fill
  refine L2.walk_of (l := PySem.Challenge.rw_laytwice_k03_pieces_refused) (n := 63) (k := 9) (x := "_law_script") (CX := fun _ => L2.CX0) (sp := fun w => Lay.spLaw _) rfl (by decide) rfl ⟨rfl, by decide, by decide⟩ (fun w h Y => PySem.W.kIn_of Y) ?F (fun _ _ a ns hl _ hS => ⟨a, ns, rfl, hS, hl, fun _ => rfl⟩) (fun _ _ _ _ _ z => z.elim)
  case F =>
    intro w mg fa h KX G hmg
    refine' Lay.all_mk KX G hmg ?aL ?tL ?hL ?hn ?ht ?aC ?pgC ?hdC ?poC ?saC ?caC ?moC ?nlC ?ntC ?nbC ?tyC ?noC_word ?noC_parts ?noC_broken ?noC_marked ?noC_ahead ?noC_behind ?noC_blanks ?noC_left ?mkC ?inC ?fiC ?kpC ?l_Ci ?c_Ci ?k_Ci ?l_TC ?s_but ?f_but ?l_but ?c_but ?k_but ?aDI ?tyI ?kDI ?exI ?sLI ?sSI ?gaI ?ggI ?hdI ?caI ?moI ?xLI ?saI ?iniI ?tiI ?noI ?l_I ?c_I ?k_I ?aDP ?tDP ?hDP ?sPI ?a_int ?l_int ?c_int ?k_int ?a_num ?l_num ?c_num ?k_num ?a_seq ?l_seq ?c_seq ?k_seq ?a_name ?l_name ?c_name ?k_name ?a_names ?l_names ?c_names ?k_names ?a_req ?l_req ?c_req ?k_req ?a_rem ?l_rem ?c_rem ?k_rem ?a_box ?l_box ?c_box ?k_box ?a_take ?l_take ?c_take ?k_take ?a_pick ?l_pick ?c_pick ?k_pick ?a_value ?l_value ?c_value ?k_value ?a_isn ?l_isn ?c_isn ?k_isn ?a_due ?l_due ?c_due ?k_due ?a_heard ?l_heard ?c_heard ?k_heard ?a_law ?l_law ?c_law ?k_law ?z_int ?z_bool ?z_str ?z_list ?z_tuple ?z_dict ?z_isinstance ?z_len ?z_all ?z_any ?z_abs ?z_range ?z_enumerate ?z_zip ?z_max ?z_min ?z_repr ?z_sorted
    (case aL => k_is)
    (case tL => k_is)
    (case hL => k_is)
    (case hn => k_is)
    (case ht => k_is)
    (case aC => k_is)
    (case pgC => k_is)
    (case hdC => k_is)
    (case poC => k_is)
    (case saC => k_is)
    (case caC => k_is)
    (case moC => k_is)
    (case nlC => k_is)
    (case ntC => k_is)
    (case nbC => k_is)
    (case tyC => k_is)
    (case noC_word => k_is)
    (case noC_parts => k_is)
    (case noC_broken => k_is)
    (case noC_marked => k_is)
    (case noC_ahead => k_is)
    (case noC_behind => k_is)
    (case noC_blanks => k_is)
    (case noC_left => k_is)
    (case mkC => k_is)
    (case inC => k_is)
    (case fiC => k_is)
    (case kpC => k_is)
    (case l_Ci => k_is)
    (case c_Ci => k_is)
    (case k_Ci => k_is)
    (case l_TC => k_is)
    (case s_but => k_is)
    (case f_but => k_is)
    (case l_but => k_is)
    (case c_but => k_is)
    (case k_but => k_is)
    (case aDI => k_is)
    (case tyI => k_is)
    (case kDI => k_is)
    (case exI => k_is)
    (case sLI => k_is)
    (case sSI => k_is)
    (case gaI => k_is)
    (case ggI => k_is)
    (case hdI => k_is)
    (case caI => k_is)
    (case moI => k_is)
    (case xLI => k_is)
    (case saI => k_is)
    (case iniI => k_is)
    (case tiI => k_is)
    (case noI => k_is)
    (case l_I => k_is)
    (case c_I => k_is)
    (case k_I => k_is)
    (case aDP => k_is)
    (case tDP => k_is)
    (case hDP => k_is)
    (case sPI => k_is)
    (case a_int => k_is)
    (case l_int => k_is)
    (case c_int => k_is)
    (case k_int => k_is)
    (case a_num => k_is)
    (case l_num => k_is)
    (case c_num => k_is)
    (case k_num => k_is)
    (case a_seq => k_is)
    (case l_seq => k_is)
    (case c_seq => k_is)
    (case k_seq => k_is)
    (case a_name => k_is)
    (case l_name => k_is)
    (case c_name => k_is)
    (case k_name => k_is)
    (case a_names => k_is)
    (case l_names => k_is)
    (case c_names => k_is)
    (case k_names => k_is)
    (case a_req => k_is)
    (case l_req => k_is)
    (case c_req => k_is)
    (case k_req => k_is)
    (case a_rem => k_is)
    (case l_rem => k_is)
    (case c_rem => k_is)
    (case k_rem => k_is)
    (case a_box => k_is)
    (case l_box => k_is)
    (case c_box => k_is)
    (case k_box => k_is)
    (case a_take => k_is)
    (case l_take => k_is)
    (case c_take => k_is)
    (case k_take => k_is)
    (case a_pick => k_is)
    (case l_pick => k_is)
    (case c_pick => k_is)
    (case k_pick => k_is)
    (case a_value => k_is)
    (case l_value => k_is)
    (case c_value => k_is)
    (case k_value => k_is)
    (case a_isn => k_is)
    (case l_isn => k_is)
    (case c_isn => k_is)
    (case k_isn => k_is)
    (case a_due => k_is)
    (case l_due => k_is)
    (case c_due => k_is)
    (case k_due => k_is)
    (case a_heard => k_is)
    (case l_heard => k_is)
    (case c_heard => k_is)
    (case k_heard => k_is)
    (case a_law => k_is)
    (case l_law => k_is)
    (case c_law => k_is)
    (case k_law => k_is)
    (case z_int => k_is)
    (case z_bool => k_is)
    (case z_str => k_is)
    (case z_list => k_is)
    (case z_tuple => k_is)
    (case z_dict => k_is)
    (case z_isinstance => k_is)
    (case z_len => k_is)
    (case z_all => k_is)
    (case z_any => k_is)
    (case z_abs => k_is)
    (case z_range => k_is)
    (case z_enumerate => k_is)
    (case z_zip => k_is)
    (case z_max => k_is)
    (case z_min => k_is)
    (case z_repr => k_is)
    (case z_sorted => k_is)
