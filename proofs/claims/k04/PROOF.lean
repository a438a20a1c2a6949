import PyProof.Rows.All
import Wide.All
import OpenK.AllK
import Wide.FinOn
import HandS.ForMost
import HandS.Codes
import KE.GoesMore
import HandS.Walk
import HandS.IsInst
import HandS.StrMore
import HandS.Defaults
import HandS.ExcInit
import HandS.ExcField
import HandS.ExcIs
import HandS.WordsExc
import HandS.OwnEq
import KE.KCallOwn
import HandS.Style
import HandS.NoneIn
import HandS.FStr
import HandS.Text
import HandS.Star
import HandS.TupAny
import HandS.Comp
import HandS.Dict
import PyProof.DictUpdate
import HandS.More
import PyProof.ListStr
import HandS.RaiseMore
import HandS.ForExc
import HandS.ExcValue
import PySem.Challenge.RW_laytwice_k04_programs_made
set_option Elab.async false
set_option linter.all false
set_option maxRecDepth 100000
set_option maxHeartbeats 4000000
/-! enumerate over a tuple. -/
namespace Lay
open PySem PySem.Spec PyProof.Rows L2
open AutoSeq1 (wpAny_loadPart')
abbrev tupIt (t : Addr) : Obj := { cls := .type "tuple_iterator", data := .fields #[.ref t, .int 0 0] }
abbrev enumOf (it : Addr) : Obj := { cls := .type "enumerate", data := .fields #[.none, .bool false, .ref it, rawInt 0, .none, .none] }
theorem ent_new (t : Addr) (items : Array Value) : Meets (Builtin.«enumerate.__new__» ⟨[.type "enumerate", .ref t], []⟩)
    (fun _ R s => s.heap.IsTuple t items ∧ R (.ok (.ret (.ref (s.heap.push (tupIt t)).objs.size))) { s with heap := (s.heap.push (tupIt t)).push (enumOf s.heap.objs.size) }) :=
  .of_wp fun prog w A R s h => by
    obtain ⟨hp, g, d, tk, os⟩ := s
    obtain ⟨ht, h⟩ := h
    have hsub := sub_enumerate
    have hT : Heap.IsTuple (Shared.heap ⟨hp, g, d, tk, os⟩) t items := ht
    obtain ⟨o, ho, _⟩ := id ht
    wp_walk using wpAny_loadPart' ho
    refine wpAny_stack_any fun st => wpAny_pure ?_
    split
    · rename_i c _ _ _ _ _
      cases (c == Value.type "enumerate") <;> (wp_walk using wpAny_loadPart' ho, wpAny_pyIter_tuple hT; exact ⟨_, rfl, h⟩)
    · wp_walk using wpAny_loadPart' ho, wpAny_pyIter_tuple hT
      exact ⟨_, rfl, h⟩
theorem ent_call {prog : Program} {w : World} {A : Around} {E : Value → Shared → Prop} {s : Shared} {t : Addr} {items : Array Value} {Q : Value → Shared → Prop} (hT : s.heap.IsTuple t items)
    (h : ∀ h', IsEnum h' (s.heap.objs.size + 1) s.heap.objs.size 0 .none → h'.IsTupleIter s.heap.objs.size t 0 → (∀ b o, s.heap.get? b = some o → h'.get? b = some o) → Q (.ref (s.heap.objs.size + 1)) { s with heap := h' }) :
    wpAny (model prog w) A (call (.type "enumerate") [.ref t]) Q E s := by
  refine callType_new F.called_enumerate (by decide) (F.typeCall_enumerate_1 _) (F.newCall_enumerate_1 _) (fun obj => F.args_object_init_2 obj _) F.entry_enumerate_new (ent_new t items) ⟨hT, ?_⟩
  have hz : (s.heap.push (tupIt t)).objs.size = s.heap.objs.size + 1 := Heap.size_push ..
  show _ ∧ _
  rw [hz]
  have he : IsEnum ((s.heap.push (tupIt t)).push (enumOf s.heap.objs.size)) (s.heap.objs.size + 1) s.heap.objs.size 0 .none := by
    have y := Heap.get?_push_size (s.heap.push (tupIt t)) (o := enumOf s.heap.objs.size) rfl
    rw [hz] at y
    exact y
  exact ⟨⟨_, he, rfl⟩, h _ he ⟨_, Heap.get?_push_of_some _ (Heap.get?_push_size _ rfl), rfl, rfl⟩ fun b o x => Heap.get?_push_of_some _ (Heap.get?_push_of_some _ x)⟩
/-- the tuple at a, each item in a new pair -/
def IteT (K : PySem.W.Frag) (a : Addr) : It :=
  ⟨fun i H => ∃ (xs : List V) (x : V), SqT K H a xs ∧ xs[i]? = some x, fun i H v H' => ∃ T x, v = .ref T ∧ H T = none ∧ H' = upd H T (.tup [.int (i : Nat), x]) ∧ ∀ xs, SqT K H a xs → xs[i]? = some x, fun i H => ∃ xs : List V, SqT K H a xs ∧ xs.length = i⟩
theorem turn_enumT {P : Program} {w : World} {K : PySem.W.Frag} {elts : List Expr} {kk : Nat} {tpos : Pos} (a e it : Addr) :
    Turn P w K (.Tuple elts kk tpos) (IteT K a) [e, it] e (fun i h => (∃ old, IsEnum h e it ((i : Nat) : Int) old) ∧ h.IsTupleIter it a i ∧ e ≠ it) where
  mem := by simp
  obj := fun i h st b hb => by
    obtain ⟨⟨old, he⟩, ⟨o, ho, _, hd⟩, _⟩ := st
    rcases List.mem_cons.mp hb with z | hb
    · rw [z]
      exact ⟨_, he, fun v q => nomatch q⟩
    · rw [List.mem_singleton.mp hb]
      exact ⟨o, ho, fun v q => by
        rw [hd] at q
        cases q⟩
  keep := fun i h h' st k => by
    obtain ⟨⟨old, he⟩, hi, hne⟩ := st
    exact ⟨⟨old, k e (by simp) _ he⟩, hi.at fun o q => k it (by simp) o q, hne⟩
  item := by
    intro X hP hw hK hc i pins s σ H E I hf st hg
    subst hP hw hK
    obtain ⟨⟨old, he⟩, hit, hne⟩ := st
    obtain ⟨xs, x, hq, hx⟩ := hg
    obtain ⟨its, rv, p, hz⟩ := I.tuple hq
    obtain ⟨u, hu, ru⟩ := rv.get hx
    have eL : e < s.heap.objs.size := Heap.lt_size he
    have itL : it < s.heap.objs.size := by
      obtain ⟨_, q, _⟩ := hit
      exact Heap.lt_size q
    have p' : s.heap.IsTuple a its.toArray := p
    have ta : a ≠ it := fun z => by
      obtain ⟨o1, q1, c1, _⟩ := hit
      obtain ⟨o2, q2, c2, _⟩ := p'
      rw [← z, q2] at q1
      cases q1
      rw [c2] at c1
      exact absurd c1 (by decide)
    have te : a ≠ e := fun z => by
      obtain ⟨o2, q2, c2, _⟩ := p'
      rw [z, he] at q2
      cases q2
      have c3 : Value.type "enumerate" = Value.type "tuple" := c2
      exact absurd c3 (by decide)
    have hlt : i < its.toArray.size := by
      have := (List.getElem?_eq_some_iff.mp hu).1
      simpa using this
    refine wpAny_pyNext_enum_itemD (Draws.tuple (prog := X.prog) (w := X.w) (A := X.A.in1) (I.ok.hd hc) it a ta its.toArray) he ⟨hit, p'⟩ hlt hne (by simp [hne, Ne.symm te]) fun y h' tk hy ho hst hT hsz hk => ?_
    obtain rfl : y = u := by
      have q : its[i]? = some y := by simpa using hy
      rw [hu] at q
      exact (Option.some.inj q).symm
    refine ⟨_, rfl, wpAny_letOwnedTupleGo_enum (s := { s with heap := h', toks := tk + 1 }) ho fun h'' he' sb => ?_⟩
    have hT2 : h''.get? s.heap.objs.size = some { cls := .type "tuple", data := .seq #[.int i tk, y] } := (sb.2 _ (Nat.ne_of_gt eL)).trans hT
    have new : ObjOk X.prog X.w (upd H s.heap.objs.size (.tup [.int (i : Nat), x])) h'' s.heap.objs.size (.tup [.int (i : Nat), x]) :=
      ⟨by show 2 ≤ sizeLine; decide, [.int i tk, y], .cons ⟨_, rfl⟩ (.cons ru .nil), ⟨_, hT2, rfl, _, rfl⟩⟩
    have J : Inv X pins σ (upd H s.heap.objs.size (.tup [.int (i : Nat), x])) { s with heap := h'', toks := tk + 1 } :=
      I.turnedNew (ch := [e, it]) (fun b ob hb q => (sb.2 b (fun z => hb (by simp [z]))).trans (hk b ob (fun z => hb (by simp [z])) (fun z => hb (by simp [z])) q)) hf (Nat.le_refl _) new
    refine ⟨.ref s.heap.objs.size, _, J, rfl, ⟨_, x, rfl, I.hok.fresh (Nat.le_refl _), rfl, fun ys hy => by rw [I.tuple_inj hy hq]; exact hx⟩, ⟨⟨y, ?_⟩, hst.1.at fun o q => (sb.2 it (Ne.symm hne)).trans q, hne⟩, fun b hb => ?_⟩
    · have e1 : ((i + 1 : Nat) : Int) = (i : Int) + 1 := by omega
      rw [e1]
      exact he'
    · have bL : b < s.heap.objs.size := by
        rcases List.mem_cons.mp hb with z | hb
        · rw [z]
          exact eL
        · rw [List.mem_singleton.mp hb]
          exact itL
      rw [upd_ne (Nat.ne_of_lt bL)]
      exact (hf b hb).1
  done := by
    intro X hP hw hK hc i pins s σ H E I hf st hg
    subst hP hw hK
    obtain ⟨⟨old, he⟩, hit, hne⟩ := st
    obtain ⟨xs, hq, hx⟩ := hg
    obtain ⟨its, rv, p, hz⟩ := I.tuple hq
    obtain ⟨f0, f1, f2, f3, f4, f5⟩ := hf it (by simp)
    have p' : s.heap.IsTuple a its.toArray := p
    have ta : a ≠ it := fun z => by
      obtain ⟨o1, q1, c1, _⟩ := hit
      obtain ⟨o2, q2, c2, _⟩ := p'
      rw [← z, q2] at q1
      cases q1
      rw [c2] at c1
      exact absurd c1 (by decide)
    have hn : i = its.toArray.size := by
      have := rv.length
      simp
      omega
    exact wpAny_pyNext_enum_endD (Draws.tuple (prog := X.prog) (w := X.w) (A := X.A.in1) (I.ok.hd hc) it a ta its.toArray) he (by rw [← hn]; exact ⟨hit, p'⟩) fun h' eb => ⟨rfl, I.turned (t' := s.toks) (fun b o hb q => eb b o hb q) f0 f1 f3 f4 f5⟩
  self := fun A i s Q E st h => by
    obtain ⟨⟨_, he⟩, _⟩ := st
    exact wpAny_pyIter_enum he h
/-- what enumerate goes over: a list, or a tuple -/
def iEnum2 (K : PySem.W.Frag) (ta : TA) : TI := fun σ H R => ta σ H fun vs H1 => ∃ (a : Addr) (xs : List V), vs = [.ref a] ∧ ((SqL K H1 a xs ∧ R (Ite K a) H1) ∨ (SqT K H1 a xs ∧ R (IteT K a) H1))
theorem pi_enum2 {X : Cx} {e : Expr} {ta : TA} {p pos tpos : Pos} {elts : List Expr} {kk : Nat} (hg : Gl X "enumerate") (hm : X.mg "enumerate" = none) (ha : PA X [e] ta) (hs : starEach [e] X.env = [(false, eval e X.env)] := by rfl) :
    PI X (.Tuple elts kk tpos) (.Call (.Name "enumerate" p) [e] [] pos) (iEnum2 X.K ta) := by
  refine ⟨fun pins s σ H R I h => ?_⟩
  refine Call_ (ld_blt I hg hm boot_enumerate (PyProof.Rows.callWith_type1 (thn (ha.run pos pins s σ H _ I h) fun us s1 ⟨vs, H1, I1, r1, q1⟩ => ?_) hs rfl))
  obtain ⟨a, xs, ex, q⟩ := q1
  subst ex
  obtain ⟨u, rfl, ru⟩ := vals1 r1
  cases ru
  have young : ∀ b, b ∈ [s1.heap.objs.size + 1, s1.heap.objs.size] → FpOk X pins H1 b := fun b hb => by
    have hle : s1.heap.objs.size ≤ b := by
      rcases List.mem_cons.mp hb with z | hb
      · rw [z]
        exact Nat.le_add_right _ _
      · rw [List.mem_singleton.mp hb]
        exact Nat.le_refl _
    exact I1.fpOk hle (I1.hok.fresh hle)
  rcases q with ⟨hq, q⟩ | ⟨hq, q⟩
  · obtain ⟨its, rv, p', hz⟩ := I1.list hq
    refine call_enumerate_list p'.isList fun h' he hit hsz hk => wpAny_pyIter_enum he ?_
    have I2 : Inv X pins σ H1 { s1 with heap := h' } := I1.kept (t' := s1.toks) hk
    exact ⟨s1.heap.objs.size + 1, [s1.heap.objs.size + 1, s1.heap.objs.size], _, _, H1, rfl, I2, turn_enum a (s1.heap.objs.size + 1) s1.heap.objs.size, ⟨⟨.none, he⟩, hit, Nat.succ_ne_self _⟩, young, q⟩
  · obtain ⟨its, rv, p', hz⟩ := I1.tuple hq
    refine ent_call (show s1.heap.IsTuple a its.toArray from p') fun h' he hit hk => wpAny_pyIter_enum he ?_
    have I2 : Inv X pins σ H1 { s1 with heap := h' } := I1.kept (t' := s1.toks) hk
    exact ⟨s1.heap.objs.size + 1, [s1.heap.objs.size + 1, s1.heap.objs.size], _, _, H1, rfl, I2, turn_enumT a (s1.heap.objs.size + 1) s1.heap.objs.size, ⟨⟨.none, he⟩, hit, Nat.succ_ne_self _⟩, young, q⟩
theorem walk_enumT {K : PySem.W.Frag} {a : Addr} {xs : List V} : Walk (IteT K a) xs.length (fun H => SqT K H a xs) (YPair (fun i => some (.int (i : Nat))) (fun i => xs[i]?)) := by
  refine ⟨fun i _ hi q => ⟨xs, xs[i], q, by simp [hi]⟩, fun _ q => ⟨xs, q, rfl⟩, fun i H v H' _ q y => ?_⟩
  obtain ⟨T, x, h1, h2, h3, h4⟩ := y
  exact ⟨T, .int (i : Nat), x, h1, h2, h3, rfl, h4 xs q⟩
end Lay
set_option Elab.async false
set_option linter.all false
set_option maxRecDepth 100000
set_option maxHeartbeats 4000000
namespace Lay
open PySem L2
def top (i : Nat) : Stmt := PySem.Challenge.pw_laytwice_k04_programs_made.main.body.getD i (.Pass ⟨0, 0, 0, 0⟩)
abbrev sBox : Stmt := top 35
abbrev sTake : Stmt := top 36
abbrev sPick : Stmt := top 37

/-! ### the box of draws -/
def Boxy (o : HO) : Prop := ∃ g s n : Int, o = .lst [.int g, .int s, .int n]
def BoxAt (H : Hp) (b : Addr) : Prop := ∃ o, H b = some o ∧ Boxy o
/-- all that is tracked beside b is as it was -/
def Kept (b : Addr) (H H' : Hp) : Prop := ∀ a o, a ≠ b → H a = some o → H' a = some o
theorem Kept.refl (b : Addr) (H : Hp) : Kept b H H := fun _ _ _ h => h
theorem Kept.trans {b : Addr} {H H1 H2 : Hp} (x : Kept b H H1) (y : Kept b H1 H2) : Kept b H H2 := fun a o n h => y a o n (x a o n h)
theorem Kept.of_same {b : Addr} {H H' : Hp} (x : Same H H') : Kept b H H' := fun a o _ h => x a o h
theorem Kept.box {b : Addr} {H : Hp} {o : HO} : Kept b H (upd H b o) := fun a u n h => by rw [upd_ne n]; exact h
theorem Kept.new {b a : Addr} {H : Hp} {o : HO} (h : H a = none) : Kept b H (upd H a o) := fun c u _ e => by
  rw [upd_ne (ne_of_none e h)]
  exact e
theorem Same.new {a : Addr} {H : Hp} {o : HO} (h : H a = none) : Same H (upd H a o) := fun c u e => by
  rw [upd_ne (ne_of_none e h)]
  exact e
theorem BoxAt.new {b a : Addr} {H : Hp} {o : HO} (x : BoxAt H b) (h : H a = none) : BoxAt (upd H a o) b := by
  obtain ⟨u, e, y⟩ := x
  exact ⟨u, Same.new h _ _ e, y⟩
theorem BoxAt.box {b : Addr} {H : Hp} {o : HO} (y : Boxy o) : BoxAt (upd H b o) b := ⟨o, upd_same, y⟩
theorem BoxAt.ne {b a : Addr} {H : Hp} (x : BoxAt H b) (h : H a = none) : a ≠ b := by
  obtain ⟨u, e, y⟩ := x
  exact (ne_of_none e h).symm

/-- what the draws want of the module's names -/
structure TxtD (mg : Str → Option Value) : Prop where
  int : mg "int" = none
  len : mg "len" = none
  abs : mg "abs" = none
  range : mg "range" = none

def spTake : Sp := fun vs H Q _ => ∃ (b : Addr) (m : Int), vs = [.ref b, .int m] ∧ BoxAt H b ∧ 0 < m ∧ m < 1073741824 ∧
  ∀ (r : Int) (o : HO), 0 ≤ r → r < m → Boxy o → Q (.int r) (upd H b o)
def spPick (K : PySem.W.Frag) : Sp := fun vs H Q _ => ∃ (b l : Addr) (xs : List V), vs = [.ref b, .ref l] ∧ BoxAt H b ∧ l ≠ b ∧ SqL K H l xs ∧ 0 < xs.length ∧ xs.length ≤ 1000 ∧
  ∀ (v : V) (o : HO), v ∈ xs → Boxy o → Q v (upd H b o)
theorem SqL.kept {K : PySem.W.Frag} {b a : Addr} {H H' : Hp} {xs : List V} (k : Kept b H H') (n : a ≠ b) (h : SqL K H a xs) : SqL K H' a xs := by
  rcases h with (h | ⟨o, h⟩) | h
  · exact .inl (.inl (k _ _ n h))
  · exact .inl (.inr ⟨o, k _ _ n h⟩)
  · exact .inr h
theorem SqT.kept {K : PySem.W.Frag} {b a : Addr} {H H' : Hp} {xs : List V} (k : Kept b H H') (n : a ≠ b) (h : SqT K H a xs) : SqT K H' a xs := by
  rcases h with (h | ⟨o, h⟩) | h
  · exact .inl (.inl (k _ _ n h))
  · exact .inl (.inr ⟨o, k _ _ n h⟩)
  · exact .inr h

theorem lt40 {m : Int} (h : m < 1073741824) : m < 2 ^ (40 : Int).toNat := by
  have e : (2 : Int) ^ (40 : Int).toNat = 1099511627776 := by decide
  omega
section
variable {P : Program} {w : World} {K : PySem.W.Frag} {mg : Str → Option Value} {base : Heap}
theorem scTake : FnScope ["_law_box_here", "_law_many", "_law_digit", "_law_raw", "_law_wide"] ["_law_box_here", "_law_many"] (defScope sTake) := ⟨rfl, rfl, rfl, by decide +kernel, rfl, by decide +kernel, by decide +kernel⟩
theorem ok_take {f : Addr} {fd : FuncData} (F : Fun K "_law_take" "_law_take" sTake f fd) (T : TxtD mg) : FnOk P w K mg base CX0 1 f fd ["_law_box_here", "_law_many"] spTake := by
  refine F.ok scTake (fun vs H Q E h => ?_) (fun cdv A outer s H vs Q E hr h => ?_)
  · obtain ⟨b, m, rfl, _⟩ := h
    rfl
  · obtain ⟨b, m, rfl, ⟨o, hb, g, s, n, rfl⟩, hm0, hm1, k⟩ := h
    refine ⟨_, (pss_cons (ps_if (pt_cmpR op_gt (pe_ix ix_list (pv 0) pe_int (fun _ _ => rfl)) pe_int (nomark _))
      (pss_cons (ps_set (i := 2) scTake.nd rfl (.inl rfl) (pe_op op_mod (pe_callTy call_int1 (by rfl) T.int (by decide +kernel) (pa_cons (pe_ix ix_list (pv 0) pe_int (fun _ _ => rfl)) pa_nil)) (pv 1)))
      (pss_cons (ps_asg (pe_op op_fdiv (pe_ix ix_list (pv 0) pe_int (fun _ _ => rfl)) (pv 1)) (pg_sub (pv 0) pe_int set_list))
      (pss_one (ps_ret (pv 2)))))
      pss_nil)
    (pss_cons (ps_asg (pe_op op_add (pe_ix ix_list (pv 0) pe_int (fun _ _ => rfl)) pe_int) (pg_sub (pv 0) pe_int set_list))
    (pss_cons (ps_set (i := 3) scTake.nd rfl (.inl rfl) (pe_op op_mod (pe_callTy call_int1 (by rfl) T.int (by decide +kernel) (pa_cons (pe_op op_mul (pe_op op_add (pe_ix ix_list (pv 0) pe_int (fun _ _ => rfl)) (pe_op op_mul pe_int (pe_ix ix_list (pv 0) pe_int (fun _ _ => rfl)))) pe_int) pa_nil)) pe_int))
    (pss_cons (ps_asg (pe_op op_add (pe_op op_mod (pe_callTy call_int1 (by rfl) T.int (by decide +kernel) (pa_cons (pe_op op_add (pe_op op_mul (pv 3) pe_int) pe_int) pa_nil)) pe_int) pe_int) (pg_sub (pv 0) pe_int set_list))
    (pss_cons (ps_if (pt_cmpR op_lt (pv 1) (pe_op op_pow pe_int pe_int) (nomark _))
      (pss_one (ps_ret (pe_op op_mod (pe_callTy call_int1 (by rfl) T.int (by decide +kernel) (pa_cons (pe_op op_fdiv (pe_op op_add (pe_op op_mul (pv 3) pe_int) (pe_ix ix_list (pv 0) pe_int (fun _ _ => rfl))) pe_int) pa_nil)) (pv 1))))
      pss_nil)
    pss_never))))), ?_⟩
    refine ⟨_, rfl, b, _, _, _, rfl, rfl, SqL.of hb, rfl, _, _, rfl, rfl, _, rfl, ?_⟩
    refine ite2 (fun h0 => ?_) (fun h0 => ?_)
    · refine ⟨_, rfl, b, _, _, _, rfl, rfl, SqL.of hb, rfl, .inl ⟨_, rfl, _, rfl, _, _, rfl, rfl, hm0, ?_⟩⟩
      refine ⟨_, rfl, b, _, _, _, rfl, rfl, SqL.of hb, rfl, _, rfl, _, _, rfl, rfl, ⟨hm0, hm1⟩, _, rfl, b, _, _, 0, rfl, rfl, hb, rfl, ?_⟩
      refine ⟨_, rfl, k _ _ (Int.emod_nonneg _ (by omega)) (Int.emod_lt_of_pos _ hm0) ⟨_, _, _, rfl⟩⟩
    · refine ⟨_, rfl, b, _, _, _, rfl, rfl, SqL.of hb, rfl, _, _, rfl, rfl, _, rfl, b, _, _, 2, rfl, rfl, hb, rfl, ?_⟩
      refine ⟨_, rfl, b, _, _, _, rfl, rfl, SqL.of upd_same, rfl, _, rfl, b, _, _, _, rfl, rfl, SqL.of upd_same, rfl, _, _, rfl, rfl, .inl ⟨by decide, by decide⟩, _, _, rfl, rfl, _, _, rfl, rfl, .inr ⟨by decide, by decide⟩, .inl ⟨_, rfl, _, _, rfl, rfl, (by show (0 : Int) < 2147483647; decide), ?_⟩⟩
      refine ⟨_, rfl, _, _, rfl, rfl, .inr ⟨by decide, by decide⟩, _, _, rfl, rfl, .inl ⟨_, rfl, _, _, rfl, rfl, (by show (0 : Int) < 2147483629; decide), _, _, rfl, rfl, _, rfl, b, _, _, 1, rfl, rfl, upd_same, rfl, ?_⟩⟩
      rw [upd_upd]
      refine ⟨_, rfl, _, _, rfl, rfl, ⟨by decide, by decide, by decide⟩, _, _, rfl, rfl, _, rfl, ?_⟩
      refine ite2 (fun _ => ?_) (fun h1 => absurd (decide_eq_true (lt40 hm1)) h1)
      refine ⟨_, rfl, _, _, rfl, rfl, .inr ⟨by decide, by decide⟩, _, rfl, b, _, _, _, rfl, rfl, SqL.of upd_same, rfl, _, _, rfl, rfl, _, _, rfl, rfl, ⟨by decide, by decide⟩, .inl ⟨_, rfl, _, rfl, _, _, rfl, rfl, hm0, ?_⟩⟩
      exact k _ _ (Int.emod_nonneg _ (by omega)) (Int.emod_lt_of_pos _ hm0) ⟨_, _, _, rfl⟩

theorem scPick : FnScope ["_law_box_here", "_law_items"] ["_law_box_here", "_law_items"] (defScope sPick) := ⟨rfl, rfl, rfl, by decide +kernel, rfl, by decide +kernel, by decide +kernel⟩
theorem ok_pick {f fT : Addr} {fd fdT : FuncData} (F : Fun K "_law_pick" "_law_pick" sPick f fd) (T : TxtD mg) (FT : Fun K "_law_take" "_law_take" sTake fT fdT) (bT : Binds K fdT ["_law_box_here", "_law_many"] []) (gT : mg "_law_take" = some (.ref fT)) :
    FnOk P w K mg base CX0 2 f fd ["_law_box_here", "_law_items"] (spPick K) := by
  have GT : FnOk P w K mg base CX0 1 fT fdT ["_law_box_here", "_law_many"] spTake := ok_take FT T
  refine F.ok scPick (fun vs H Q E h => ?_) (fun cdv A outer s H vs Q E hr h => ?_)
  · obtain ⟨b, l, xs, rfl, _⟩ := h
    rfl
  · obtain ⟨b, l, xs, rfl, hb, hl, hs, h0, h1, k⟩ := h
    refine ⟨_, (pss_one (ps_ret (pe_ix ix_list (pv 1) (pe_call GT hr (by rfl) gT FT.kp bT .nil pass0 (pa_cons (pv 0) (pa_cons (pe_callB call_len_seq (by rfl) T.len (by decide +kernel) (pa_cons (pv 1) pa_nil)) pa_nil))) (fun _ _ => rfl)))), ?_⟩
    refine ⟨_, rfl, _, rfl, _, rfl, l, xs, rfl, .inl hs, b, _, rfl, hb, by omega, by omega, fun r o r0 r1 ho => ?_⟩
    have hr' : r.toNat < xs.length := by omega
    have er : r = ((r.toNat : Nat) : Int) := by omega
    exact ⟨l, xs, r, xs[r.toNat], rfl, rfl, SqL.kept Kept.box hl hs, at_of er (by simp [hr']), k _ _ (List.getElem_mem hr') ho⟩

def spBox (K : PySem.W.Frag) : Sp := fun vs H Q _ => ∃ (a : Addr) (ns : List Int) (i j : Int), vs = [.ref a, .int i, .int j] ∧ SqL K H a (ns.map V.int) ∧ 0 ≤ i ∧ i ≤ 1000 ∧ 0 ≤ j ∧ j ≤ 1000 ∧ ns.length ≤ 1000 ∧
  ∀ (p : Addr) (H' : Hp), Same H H' → H p = none → BoxAt H' p → Q (.ref p) H'
theorem scBox : FnScope ["_law_script", "_law_k", "_law_own", "_law_cell", "_law_seed"] ["_law_script", "_law_k", "_law_own"] (defScope sBox) := ⟨rfl, rfl, rfl, by decide +kernel, rfl, by decide +kernel, by decide +kernel⟩
theorem ok_box {f : Addr} {fd : FuncData} (F : Fun K "_law_box" "_law_box" sBox f fd) (T : TxtD mg) : FnOk P w K mg base CX0 1 f fd ["_law_script", "_law_k", "_law_own"] (spBox K) := by
  refine F.ok scBox (fun vs H Q E h => ?_) (fun cdv A outer s H vs Q E hr h => ?_)
  · obtain ⟨a, ns, i, j, rfl, _⟩ := h
    rfl
  · obtain ⟨a, ns, i, j, rfl, hs, i0, i1, j0, j1, hn, k⟩ := h
    refine ⟨_, (pss_cons (ps_set (i := 3) scBox.nd rfl (.inl rfl) (pe_op op_add (pe_op op_add (pe_op op_mul pe_int (pv 1)) (pe_op op_mul pe_int (pv 2))) pe_int))
    (C8.pss_cut (ps_if (pt_cmpR op_lt (pv 1) (pe_callB call_len_seq (by rfl) T.len (by decide +kernel) (pa_cons (pv 0) pa_nil)) (nomark _))
      (pss_one (ps_set (i := 3) scBox.nd rfl (.inl rfl) (pe_callB call_abs (by rfl) T.abs (by decide +kernel) (pa_cons (pe_ix ix_list (pv 0) (pv 1) (fun _ _ => rfl)) pa_nil))))
      (pss_one (ps_if (pt_cmpR op_gt (pe_callB call_len_seq (by rfl) T.len (by decide +kernel) (pa_cons (pv 0) pa_nil)) pe_int (nomark _))
        (pss_one (ps_set (i := 3) scBox.nd rfl (.inl rfl) (pe_op op_add (pv 3) (pe_op op_mul (pe_op op_mod (pe_callTy call_int1 (by rfl) T.int (by decide +kernel) (pa_cons (pe_callB call_abs (by rfl) T.abs (by decide +kernel) (pa_cons (pe_ix ix_list (pv 0) (pe_op op_mod (pe_callTy call_int1 (by rfl) T.int (by decide +kernel) (pa_cons (pv 1) pa_nil)) (pe_callB call_len_seq (by rfl) T.len (by decide +kernel) (pa_cons (pv 0) pa_nil))) (fun _ _ => rfl)) pa_nil)) pa_nil)) pe_int) pe_int))))
        pss_nil)))
    (pss_cons (ps_set (i := 4) scBox.nd rfl (.inl rfl) (pe_op op_add (pe_op op_mod (pe_callTy call_int1 (by rfl) T.int (by decide +kernel) (pa_cons (pe_op op_add (pe_op op_mul (pe_op op_mod (pe_callTy call_int1 (by rfl) T.int (by decide +kernel) (pa_cons (pv 3) pa_nil)) pe_int) pe_int) (pe_op op_mul pe_int (pe_op op_add (pv 1) (pe_op op_mul pe_int (pv 2))))) pa_nil)) pe_int) pe_int))
    (pss_one (ps_ret (pe_lst (pa_cons (pe_ix ix_list (pe_lst (pa_cons pe_int (pa_cons (pv 3) pa_nil))) (pe_callTy call_int1 (by rfl) T.int (by decide +kernel) (pa_cons (pe_cmpR op_ge (pv 3) (pe_op op_pow pe_int pe_int) (nomark _)) pa_nil)) (fun _ _ => rfl)) (pa_cons (pv 4) (pa_cons pe_int pa_nil))))))))), ?_⟩
    refine ⟨_, rfl, _, _, rfl, rfl, .inl ⟨by decide, by decide⟩, _, rfl, _, _, rfl, rfl, .inl ⟨by decide, by decide⟩, _, _, rfl, rfl, _, _, rfl, rfl, ?_⟩
    refine ⟨fun σ' H' => H' = H ∧ ∃ c : Int, σ' = [some (.ref a), some (.int i), some (.int j), some (.int c), none], ?_, ?_⟩
    · have hl : (ns.map V.int).length = ns.length := List.length_map ..
      refine ⟨_, rfl, _, rfl, a, _, rfl, .inl hs, _, _, rfl, rfl, _, rfl, ?_⟩
      refine ite2 (fun h => ?_) (fun h => ?_)
      · have hi : i < (ns.map V.int).length := of_decide_eq_true h
        obtain ⟨z, hz⟩ : ∃ z, (ns.map V.int)[i.toNat]? = some (V.int z) := by
          refine ⟨ns[i.toNat]'(by omega), ?_⟩
          rw [List.getElem?_map, List.getElem?_eq_getElem (by omega)]
          rfl
        exact ⟨_, rfl, _, rfl, a, _, _, _, rfl, rfl, hs, at_of (by omega) hz, _, rfl, rfl, _, rfl⟩
      · refine ⟨_, rfl, a, _, rfl, .inl hs, _, _, rfl, rfl, _, rfl, ?_⟩
        refine ite2 (fun h2 => ?_) (fun _ => ⟨rfl, _, rfl⟩)
        have h2' : (0 : Int) < (ns.map V.int).length := of_decide_eq_true h2
        have m0 := Int.emod_nonneg i (show ((ns.map V.int).length : Int) ≠ 0 by omega)
        have m1 := Int.emod_lt_of_pos i h2'
        obtain ⟨z, hz⟩ : ∃ z, (ns.map V.int)[(i % ((ns.map V.int).length : Int)).toNat]? = some (V.int z) := by
          refine ⟨ns[(i % ((ns.map V.int).length : Int)).toNat]'(by omega), ?_⟩
          rw [List.getElem?_map, List.getElem?_eq_getElem (by omega)]
          rfl
        refine ⟨_, rfl, _, rfl, _, rfl, .inl ⟨_, rfl, _, rfl, a, _, rfl, .inl hs, _, _, rfl, rfl, h2', a, _, _, _, rfl, rfl, hs, at_of (by omega) hz, _, rfl, .inl ⟨_, rfl, _, _, rfl, rfl, (by show (0 : Int) < 2147483629; decide), _, _, rfl, rfl, .inr ⟨by decide, by decide⟩, _, _, rfl, rfl, rfl, _, rfl⟩⟩⟩
    · rintro σ' H' ⟨rfl, c, rfl⟩
      refine ⟨_, rfl, .inl ⟨_, rfl, _, _, rfl, rfl, (by show (0 : Int) < 2147483629; decide), _, _, rfl, rfl, .inr ⟨by decide, by decide⟩, _, rfl, _, rfl, _, _, rfl, rfl, .inl ⟨by decide, by decide⟩, _, _, rfl, rfl, _, _, rfl, rfl, .inl ⟨by decide, by decide⟩, _, _, rfl, rfl, .inl ⟨_, rfl, _, _, rfl, rfl, (by show (0 : Int) < 2147483629; decide), _, _, rfl, rfl, ?_⟩⟩⟩
      refine ⟨_, rfl, (by show 2 ≤ sizeLine; decide), fun l hl => ⟨_, rfl, _, _, rfl, rfl, ⟨by decide, by decide, by decide⟩, _, _, rfl, rfl, .inr ⟨_, rfl, l, _, _, if (decide ((10 : Int) ^ (18 : Int).toNat ≤ c)) = true then V.int c else V.int 0, rfl, rfl, SqL.of upd_same, ?_, ?_⟩⟩⟩
      · cases decide ((10 : Int) ^ (18 : Int).toNat ≤ c) <;> rfl
      · refine ⟨_, rfl, (by show 3 ≤ sizeLine; decide), fun p hp => ?_⟩
        refine k _ _ ((Same.new hl).trans (Same.new hp)) ((Same.new hl).free hp) ⟨_, upd_same, ?_⟩
        by_cases hc : (decide ((10 : Int) ^ (18 : Int).toNat ≤ c)) = true
        · rw [if_pos hc]
          exact ⟨_, _, _, rfl⟩
        · rw [if_neg hc]
          exact ⟨_, _, _, rfl⟩
end
end Lay
set_option Elab.async false
set_option linter.all false
set_option maxRecDepth 100000
set_option maxHeartbeats 4000000
namespace Lay
open PySem L2
/-- the names of the module that must be Python's own -/
structure TxtK (mg : Str → Option Value) : Prop where
  int : mg "int" = none
  bool : mg "bool" = none
  str : mg "str" = none
  list : mg "list" = none
  tuple : mg "tuple" = none
  isinstance : mg "isinstance" = none
  len : mg "len" = none
  all : mg "all" = none
  enumerate : mg "enumerate" = none
theorem TyOf.same {K : PySem.W.Frag} {H H' : Hp} {x : V} {t : Value} (s : Same H H') (h : TyOf K H x t) : TyOf K H' x t := by
  cases h with
  | non => exact .non
  | bl b => exact .bl b
  | int i => exact .int i
  | str z => exact .str z
  | flt z => exact .flt z
  | lst e => exact .lst (s _ _ e)
  | frz e => exact .frz (s _ _ e)
  | tup e => exact .tup (s _ _ e)
  | dK e => exact .dK (s _ _ e)
  | dT e => exact .dT (s _ _ e)
  | ins e cl ha hn htk hm => exact .ins (s _ _ e) cl ha hn htk hm
theorem TyX.same {K : PySem.W.Frag} {H H' : Hp} {x : V} {t : Value} (s : Same H H') (h : TyX K H x t) : TyX K H' x t := by
  cases h with
  | base h => exact .base (TyOf.same s h)
  | byt b => exact .byt b
  | set e => exact .set (s _ _ e)
  | kList e c => exact .kList e c
  | kTuple e c => exact .kTuple e c
  | kDict e c => exact .kDict e c
  | fTuple e => exact .fTuple (s _ _ e)
  | fDict e => exact .fDict (s _ _ e)
/-- isinstance of the built-in class n -/
def IsT (K : PySem.W.Frag) (H : Hp) (x : V) (n : String) (b : Bool) : Prop := ∃ t, TyX K H x t ∧ PySem.W.kitOne K t (.type n) = some b
theorem IsT.same {K : PySem.W.Frag} {H H' : Hp} {x : V} {n : String} {b : Bool} (s : Same H H') (h : IsT K H x n b) : IsT K H' x n b := by
  obtain ⟨t, h1, h2⟩ := h
  exact ⟨t, TyX.same s h1, h2⟩
theorem isT_str {K : PySem.W.Frag} {H : Hp} {z : Str} : IsT K H (.str z) "str" true := ⟨_, .base (.str z), kit_ty (by decide +kernel)⟩
theorem isT_bl {K : PySem.W.Frag} {H : Hp} {z : Bool} : IsT K H (.bl z) "bool" true := ⟨_, .base (.bl z), kit_ty (by decide +kernel)⟩
theorem isT_int {K : PySem.W.Frag} {H : Hp} {z : Int} : IsT K H (.int z) "int" true ∧ IsT K H (.int z) "bool" false := ⟨⟨_, .base (.int z), kit_ty (by decide +kernel)⟩, ⟨_, .base (.int z), kit_ty (by decide +kernel)⟩⟩
/-- is it a list or a tuple -/
def IsSeq (K : PySem.W.Frag) (H : Hp) (x : V) (b : Bool) : Prop := ∃ t, TyX K H x t ∧ PySem.W.kitAny K t [.type "list", .type "tuple"] = some b
theorem IsSeq.same {K : PySem.W.Frag} {H H' : Hp} {x : V} {b : Bool} (s : Same H H') (h : IsSeq K H x b) : IsSeq K H' x b := by
  obtain ⟨t, h1, h2⟩ := h
  exact ⟨t, TyX.same s h1, h2⟩
theorem kitAny_lt {K : PySem.W.Frag} {t : Value} {b c : Bool} (h1 : PySem.W.kitOne K t (.type "list") = some b) (h2 : PySem.W.kitOne K t (.type "tuple") = some c) : PySem.W.kitAny K t [.type "list", .type "tuple"] = some (b || c) := by
  refine kitAny_cons h1 (fun hb => ?_) (fun hb => by rw [hb]; rfl)
  subst hb
  exact kitAny_cons h2 (fun hc => by subst hc; exact kitAny_nil) (fun hc => by rw [hc]; rfl)
/-- what is a list or a tuple of xs -/
def SqX (K : PySem.W.Frag) (H : Hp) (a : Addr) (xs : List V) : Prop := H a = some (.lst xs) ∨ H a = some (.tup xs)
theorem SqX.same {K : PySem.W.Frag} {H H' : Hp} {a : Addr} {xs : List V} (s : Same H H') (h : SqX K H a xs) : SqX K H' a xs := h.imp (s _ _) (s _ _)
theorem SqX.seq {K : PySem.W.Frag} {H : Hp} {a : Addr} {xs : List V} (h : SqX K H a xs) : IsSeq K H (.ref a) true := by
  rcases h with h | h
  · exact ⟨_, .base (.lst h), kitAny_lt (b := true) (c := false) (kit_ty (by decide +kernel)) (kit_ty (by decide +kernel))⟩
  · exact ⟨_, .base (.tup h), kitAny_lt (b := false) (c := true) (kit_ty (by decide +kernel)) (kit_ty (by decide +kernel))⟩
def nameB (z : Str) : Bool := decide (z.length ≤ 6) && (Txt.isascii z && (Txt.isalpha z && Txt.islower z))
theorem nameB_len {z : Str} (h : nameB z = true) : z.length ≤ 6 := of_decide_eq_true (Bool.and_eq_true_iff.mp h).1
/-- whether x is a name -/
def NmB (K : PySem.W.Frag) (H : Hp) (x : V) (b : Bool) : Prop := (∃ z, x = .str z ∧ z.length ≤ sizeLine ∧ b = nameB z) ∨ (b = false ∧ IsT K H x "str" false)
theorem NmB.same {K : PySem.W.Frag} {H H' : Hp} {x : V} {b : Bool} (s : Same H H') (h : NmB K H x b) : NmB K H' x b := h.imp id fun ⟨e, t⟩ => ⟨e, t.same s⟩
def remarkB (z : Str) : Bool := decide (V.str z = V.str "") || nameB z

def spInt (K : PySem.W.Frag) : Sp := fun vs H Q _ => ∃ x b c, vs = [x] ∧ IsT K H x "int" b ∧ IsT K H x "bool" c ∧ Q (.bl (b && !c)) H
def spNum (K : PySem.W.Frag) : Sp := fun vs H Q _ => ∃ (x : V) (m : Int), vs = [x, .int m] ∧ ((∃ i, x = .int i ∧ Q (.bl (decide (0 ≤ i) && decide (i < m))) H) ∨ (∃ b c, IsT K H x "int" b ∧ IsT K H x "bool" c ∧ (b && !c) = false ∧ Q (.bl false) H))
def spSeq (K : PySem.W.Frag) : Sp := fun vs H Q _ => ∃ x b, vs = [x] ∧ IsSeq K H x b ∧ ∀ H', Same H H' → Q (.bl b) H'
def spName (K : PySem.W.Frag) : Sp := fun vs H Q _ => ∃ x b, vs = [x] ∧ NmB K H x b ∧ Q (.bl b) H
/-- the items' answers -/
def NmBs (K : PySem.W.Frag) (H : Hp) (xs : List V) (bs : List Bool) : Prop := bs.length = xs.length ∧ ∀ (i : Nat) (x : V) (b : Bool), xs[i]? = some x → bs[i]? = some b → NmB K H x b
def spNames (K : PySem.W.Frag) : Sp := fun vs H Q _ => ∃ x, vs = [x] ∧ ((IsSeq K H x false ∧ ∀ H', Same H H' → Q (.bl false) H') ∨
  (∃ a xs bs, x = .ref a ∧ SqX K H a xs ∧ xs.length ≤ 1000 ∧ NmBs K H xs bs ∧ ∀ H', Same H H' → Q (.bl (decide (0 < xs.length) && bs.all id)) H'))
def spReq : Sp := fun vs H Q _ => ∃ v, vs = [.bl true, v] ∧ Q .non H
def spRem (K : PySem.W.Frag) : Sp := fun vs H Q _ => ∃ x, vs = [x] ∧ ((∃ z, x = .str z ∧ z.length ≤ sizeLine ∧ Q (.bl (remarkB z)) H) ∨ (IsT K H x "str" false ∧ Q (.bl false) H))
abbrev sInt : Stmt := top 8
abbrev sNum : Stmt := top 9
abbrev sSeq : Stmt := top 10
abbrev sName : Stmt := top 11
abbrev sNames : Stmt := top 12
abbrev sReq : Stmt := top 14
abbrev sRem : Stmt := top 15
section
variable {P : Program} {w : World} {K : PySem.W.Frag} {mg : Str → Option Value} {base : Heap}
theorem scInt : FnScope ["value"] ["value"] (defScope sInt) := ⟨rfl, rfl, rfl, by decide +kernel, rfl, by decide +kernel, by decide +kernel⟩
theorem ok_int {f : Addr} {fd : FuncData} (F : Fun K "is_integer" "is_integer" sInt f fd) (T : TxtK mg) : FnOk P w K mg base CX0 1 f fd ["value"] (spInt K) := by
  refine F.ok scInt (fun vs H Q E h => ?_) (fun cdv A outer s H vs Q E hr h => ?_)
  · obtain ⟨x, b, c, rfl, _⟩ := h
    rfl
  · obtain ⟨x, b, c, rfl, ⟨t, ty, e⟩, ⟨t', ty', e'⟩, k⟩ := h
    refine ⟨_, (pss_one (ps_ret (pe_and (pe_callB call_isi (by rfl) T.isinstance (by decide +kernel) (pa_cons (pv 0) (pa_cons (pe_bltn (v := .ty "int") (by rfl) T.int (by decide +kernel) rfl) pa_nil))) (pe_one (pe_not (pe_callB call_isi (by rfl) T.isinstance (by decide +kernel) (pa_cons (pv 0) (pa_cons (pe_bltn (v := .ty "bool") (by rfl) T.bool (by decide +kernel) rfl) pa_nil)))))))), ?_⟩
    refine ⟨_, rfl, _, _, _, _, _, rfl, .ty _, ty, e, _, rfl, ?_⟩
    refine ite2 (fun hb => ?_) (fun hb => ?_)
    · subst hb
      exact ⟨_, rfl, _, _, _, _, _, rfl, .ty _, ty', e', _, rfl, k⟩
    · have : b = false := by simpa using hb
      subst this
      exact k
theorem scNum : FnScope ["value", "many"] ["value", "many"] (defScope sNum) := ⟨rfl, rfl, rfl, by decide +kernel, rfl, by decide +kernel, by decide +kernel⟩
theorem ok_num {f fI : Addr} {fd fdI : FuncData} (F : Fun K "is_number" "is_number" sNum f fd) (GI : FnOk P w K mg base CX0 1 fI fdI ["value"] (spInt K)) (gI : mg "is_integer" = some (.ref fI)) (kI : PySem.W.keepIn K (.ref fI) = true) (bI : Binds K fdI ["value"] []) :
    FnOk P w K mg base CX0 2 f fd ["value", "many"] (spNum K) := by
  refine F.ok scNum (fun vs H Q E h => ?_) (fun cdv A outer s H vs Q E hr h => ?_)
  · obtain ⟨x, m, rfl, _⟩ := h
    rfl
  · obtain ⟨x, m, rfl, h⟩ := h
    refine ⟨_, (pss_one (ps_ret (pe_and (pe_call GI hr (by rfl) gI kI bI .nil pass0 (pa_cons (pv 0) pa_nil)) (pe_one (pe_chain op_le op_lt pe_int (pv 0) (pv 1)))))), ?_⟩
    rcases h with ⟨i, rfl, k⟩ | ⟨b, c, h1, h2, h3, k⟩
    · refine ⟨_, rfl, _, true, false, rfl, isT_int.1, isT_int.2, _, rfl, ?_⟩
      refine ⟨_, rfl, _, _, rfl, rfl, _, rfl, ?_⟩
      refine ite2 (fun hb => ?_) (fun hb => ?_)
      · refine ⟨_, rfl, _, _, rfl, rfl, ?_⟩
        rw [hb, Bool.true_and] at k
        exact k
      · have : decide (0 ≤ i) = false := by simpa using hb
        rw [this, Bool.false_and] at k
        exact k
    · refine ⟨_, rfl, _, b, c, rfl, h1, h2, _, rfl, ?_⟩
      rw [h3]
      exact k
theorem scSeq : FnScope ["value"] ["value"] (defScope sSeq) := ⟨rfl, rfl, rfl, by decide +kernel, rfl, by decide +kernel, by decide +kernel⟩
theorem ok_seq {f : Addr} {fd : FuncData} (F : Fun K "is_sequence" "is_sequence" sSeq f fd) (T : TxtK mg) : FnOk P w K mg base CX0 1 f fd ["value"] (spSeq K) := by
  refine F.ok scSeq (fun vs H Q E h => ?_) (fun cdv A outer s H vs Q E hr h => ?_)
  · obtain ⟨x, b, rfl, _⟩ := h
    rfl
  · obtain ⟨x, b, rfl, ⟨t, ty, e⟩, k⟩ := h
    refine ⟨_, (pss_one (ps_ret (pe_callB call_isiT (by rfl) T.isinstance (by decide +kernel) (pa_cons (pv 0) (pa_cons (pe_tup (pa_cons (pe_bltn (v := .ty "list") (by rfl) T.list (by decide +kernel) rfl) (pa_cons (pe_bltn (v := .ty "tuple") (by rfl) T.tuple (by decide +kernel) rfl) pa_nil))) pa_nil))))), ?_⟩
    refine ⟨_, rfl, (by show 2 ≤ sizeLine; decide), fun p hp => ?_⟩
    exact ⟨x, p, _, t, _, b, rfl, upd_same, .cons (.ty _) (.cons (.ty _) .nil), TyX.same (Same.new hp) ty, e, k _ (Same.new hp)⟩
theorem scName : FnScope ["value"] ["value"] (defScope sName) := ⟨rfl, rfl, rfl, by decide +kernel, rfl, by decide +kernel, by decide +kernel⟩
theorem ok_name {f : Addr} {fd : FuncData} (F : Fun K "is_name" "is_name" sName f fd) (T : TxtK mg) : FnOk P w K mg base CX0 1 f fd ["value"] (spName K) := by
  refine F.ok scName (fun vs H Q E h => ?_) (fun cdv A outer s H vs Q E hr h => ?_)
  · obtain ⟨x, b, rfl, _⟩ := h
    rfl
  · obtain ⟨x, b, rfl, h, k⟩ := h
    refine ⟨_, (pss_cons (ps_if (pt_not (pt_val (pe_callB call_isi (by rfl) T.isinstance (by decide +kernel) (pa_cons (pv 0) (pa_cons (pe_bltn (v := .ty "str") (by rfl) T.str (by decide +kernel) rfl) pa_nil)))))
      (pss_one (ps_ret pe_bl))
      pss_nil)
    (pss_one (ps_ret (pe_and (pe_cmpR op_le (pe_callB call_len_str (by rfl) T.len PySem.boot_len (pa_cons (pv 0) pa_nil)) pe_int (nomark _)) (pe_and (pe_m0 PySem.F.slot_str_isascii PySem.F.type_str_isascii mt_isascii (pv 0)) (pe_and (pe_m0 PySem.F.slot_str_isalpha PySem.F.type_str_isalpha mt_isalpha (pv 0)) (pe_one (pe_m0 PySem.F.slot_str_islower PySem.F.type_str_islower mt_islower (pv 0))))))))), ?_⟩
    rcases h with ⟨z, rfl, hz, rfl⟩ | ⟨rfl, t, ty, e⟩
    · obtain ⟨t, ty, e⟩ := isT_str (K := K) (H := H) (z := z)
      refine ⟨_, rfl, _, _, _, _, _, rfl, .ty _, ty, e, _, rfl, ?_⟩
      refine ⟨_, rfl, _, rfl, hz, _, _, rfl, rfl, _, rfl, ?_⟩
      have e0 : decide (((z.length : Nat) : Int) ≤ 6) = decide (z.length ≤ 6) := by
        by_cases q : z.length ≤ 6
        · rw [decide_eq_true q, decide_eq_true (by omega)]
        · rw [decide_eq_false q, decide_eq_false (by omega)]
      unfold nameB at k
      refine ite2 (fun h1 => ?_) (fun h1 => ?_)
      · rw [e0] at h1
        rw [h1, Bool.true_and] at k
        refine ⟨_, rfl, ⟨_, rfl⟩, _, rfl, rfl, trivial, _, rfl, ?_⟩
        refine ite2 (fun h2 => ?_) (fun h2 => ?_)
        · rw [h2, Bool.true_and] at k
          refine ⟨_, rfl, ⟨_, rfl⟩, _, rfl, rfl, trivial, _, rfl, ?_⟩
          refine ite2 (fun h3 => ?_) (fun h3 => ?_)
          · rw [h3, Bool.true_and] at k
            exact ⟨_, rfl, ⟨_, rfl⟩, _, rfl, rfl, trivial, k⟩
          · have : Txt.isalpha z = false := by simpa using h3
            rw [this, Bool.false_and] at k
            exact k
        · have : Txt.isascii z = false := by simpa using h2
          rw [this, Bool.false_and] at k
          exact k
      · rw [e0] at h1
        have : decide (z.length ≤ 6) = false := by simpa using h1
        rw [this, Bool.false_and] at k
        exact k
    · exact ⟨_, rfl, _, _, _, _, _, rfl, .ty _, ty, e, _, rfl, k⟩
theorem scNames : FnScope ["value", "one"] ["value"] (defScope sNames) := ⟨rfl, rfl, rfl, by decide +kernel, rfl, by decide +kernel, by decide +kernel⟩
theorem ok_names {f fS fN : Addr} {fd fdS fdN : FuncData} (F : Fun K "are_names" "are_names" sNames f fd) (T : TxtK mg) (GS : FnOk P w K mg base CX0 1 fS fdS ["value"] (spSeq K)) (gS : mg "is_sequence" = some (.ref fS)) (kS : PySem.W.keepIn K (.ref fS) = true) (bS : Binds K fdS ["value"] [])
    (GN : FnOk P w K mg base CX0 1 fN fdN ["value"] (spName K)) (gN : mg "is_name" = some (.ref fN)) (kN : PySem.W.keepIn K (.ref fN) = true) (bN : Binds K fdN ["value"] []) : FnOk P w K mg base CX0 2 f fd ["value"] (spNames K) := by
  refine F.ok scNames (fun vs H Q E h => ?_) (fun cdv A outer s H vs Q E hr h => ?_)
  · obtain ⟨x, rfl, _⟩ := h
    rfl
  · obtain ⟨x, rfl, h⟩ := h
    rcases h with ⟨h, k⟩ | ⟨a, xs, bs, rfl, hx, hl, hb, k⟩
    · refine ⟨_, (pss_cons (ps_if (pt_not (pt_val (pe_call GS hr (by rfl) gS kS bS .nil pass0 (pa_cons (pv 0) pa_nil)))) (pss_one (ps_ret pe_bl)) pss_nil) pss_never), ?_⟩
      exact ⟨_, rfl, _, false, rfl, h, fun H' s => ⟨_, rfl, k H' s⟩⟩
    · have fin : ∀ H1 l, Same H H1 → H1 l = some (.lst (bs.map V.bl)) → (Q (.bl (bs.all id)) H1 ↔ Q (.bl (bs.all id)) H1) := fun _ _ _ _ => Iff.rfl
      have turn : ∀ {G : Hp} {D : Addr} {i : Nat} {x : V}, Same H G → xs[i]? = some x → ∃ b, bs[i]? = some b ∧ NmB K G x b := fun {G D i x} s hi => by
        have li := (List.getElem?_eq_some_iff.mp hi).1
        rw [← hb.1] at li
        exact ⟨bs[i], by simp [li], (hb.2 i x _ hi (by simp [li])).same s⟩
      rcases hx with hx | hx
      · refine ⟨_, (pss_cons (ps_if (pt_not (pt_val (pe_call GS hr (by rfl) gS kS bS .nil pass0 (pa_cons (pv 0) pa_nil)))) (pss_one (ps_ret pe_bl)) pss_nil)
          (pss_one (ps_ret (pe_and (pe_cmpR op_gt (pe_callB call_len_seq (by rfl) T.len PySem.boot_len (pa_cons (pv 0) pa_nil)) pe_int (nomark _)) (pe_one (pe_callB (cr_all rfl) (by rfl) T.all (by decide +kernel) (pa_cons
            (pe_lc (own := [("one", 1)]) (g := gName 1) (tt := tYes) (by rfl) scNames.nd (pi_list (pv 0)) (blkOk_by (N := ["value", "one"]) (sc := defScope sNames) (by decide +kernel)) (fun _ _ _ _ _ => pg_name (i := 1) scNames.nd rfl (Or.inl rfl)) (fun _ _ _ _ _ => pts_nil) (fun _ _ _ _ _ => pe_call GN hr (by rfl) gN kN bN .nil pass0 (pa_cons (pv 1) pa_nil))) pa_nil))))))), ?_⟩
        refine ⟨_, rfl, _, true, rfl, SqX.seq (.inl hx), fun H1 s1 => ⟨_, rfl, ?_⟩⟩
        refine ⟨_, rfl, a, xs, rfl, .inl (SqL.of (s1 _ _ hx)), _, _, rfl, rfl, _, rfl, ?_⟩
        have e0 : decide (((xs.length : Nat) : Int) > 0) = decide (0 < xs.length) := by
          by_cases q : 0 < xs.length
          · rw [decide_eq_true q, decide_eq_true (by omega)]
          · rw [decide_eq_false q, decide_eq_false (by omega)]
        refine ite2 (fun h1 => ?_) (fun h1 => ?_)
        · have h2 : decide (0 < xs.length) = true := by rw [← e0]; exact h1
          rw [h2] at k
          refine ⟨_, rfl, a, rfl, ⟨_, SqL.of (s1 _ _ hx)⟩, fun D nD => lc_list (K := K) (a := a) (xs := xs) (fun i G => Same H1 G ∧ G D = some (.lst ((bs.take i).map V.bl))) ⟨Same.new nD, upd_same⟩ (fun i G _ q => SqL.of (q.1 _ _ (s1 _ _ hx))) ?_ ?_⟩
          · rintro i x G hi ⟨sG, hD⟩
            obtain ⟨b, eb, nb⟩ := turn (D := D) (s1.trans sG) hi
            refine ⟨rfl, _, rfl, x, b, rfl, nb, _, hD, ?_, fun c u e => by rw [upd_ne (ne_of_none e nD)]; exact sG _ _ e, ?_⟩
            · rw [List.length_map, List.length_take]
              have : i < xs.length := (List.getElem?_eq_some_iff.mp hi).1
              exact small1000 (by omega)
            · rw [upd_same, List.take_succ, eb, List.map_append]
              rfl
          · rintro G ⟨sG, hD⟩
            refine ⟨D, bs, rfl, ?_, ?_⟩
            · rw [← hb.1, List.take_length] at hD
              exact SqL.of hD
            · exact k G (s1.trans sG)
        · have h2 : decide (0 < xs.length) = false := by rw [← e0]; simpa using h1
          rw [h2] at k
          exact k H1 s1
      · refine ⟨_, (pss_cons (ps_if (pt_not (pt_val (pe_call GS hr (by rfl) gS kS bS .nil pass0 (pa_cons (pv 0) pa_nil)))) (pss_one (ps_ret pe_bl)) pss_nil)
          (pss_one (ps_ret (pe_and (pe_cmpR op_gt (pe_callB call_len_seq (by rfl) T.len PySem.boot_len (pa_cons (pv 0) pa_nil)) pe_int (nomark _)) (pe_one (pe_callB (cr_all rfl) (by rfl) T.all (by decide +kernel) (pa_cons
            (pe_lc (own := [("one", 1)]) (g := gName 1) (tt := tYes) (by rfl) scNames.nd (pi_tup (pv 0)) (blkOk_by (N := ["value", "one"]) (sc := defScope sNames) (by decide +kernel)) (fun _ _ _ _ _ => pg_name (i := 1) scNames.nd rfl (Or.inl rfl)) (fun _ _ _ _ _ => pts_nil) (fun _ _ _ _ _ => pe_call GN hr (by rfl) gN kN bN .nil pass0 (pa_cons (pv 1) pa_nil))) pa_nil))))))), ?_⟩
        refine ⟨_, rfl, _, true, rfl, SqX.seq (.inr hx), fun H1 s1 => ⟨_, rfl, ?_⟩⟩
        refine ⟨_, rfl, a, xs, rfl, .inr (SqT.of (s1 _ _ hx)), _, _, rfl, rfl, _, rfl, ?_⟩
        have e0 : decide (((xs.length : Nat) : Int) > 0) = decide (0 < xs.length) := by
          by_cases q : 0 < xs.length
          · rw [decide_eq_true q, decide_eq_true (by omega)]
          · rw [decide_eq_false q, decide_eq_false (by omega)]
        refine ite2 (fun h1 => ?_) (fun h1 => ?_)
        · have h2 : decide (0 < xs.length) = true := by rw [← e0]; exact h1
          rw [h2] at k
          refine ⟨_, rfl, a, rfl, ⟨_, SqT.of (s1 _ _ hx)⟩, fun D nD => lc_tup (K := K) (a := a) (xs := xs) (fun i G => Same H1 G ∧ G D = some (.lst ((bs.take i).map V.bl))) ⟨Same.new nD, upd_same⟩ (fun i G _ q => SqT.of (q.1 _ _ (s1 _ _ hx))) ?_ ?_⟩
          · rintro i x G hi ⟨sG, hD⟩
            obtain ⟨b, eb, nb⟩ := turn (D := D) (s1.trans sG) hi
            refine ⟨rfl, _, rfl, x, b, rfl, nb, _, hD, ?_, fun c u e => by rw [upd_ne (ne_of_none e nD)]; exact sG _ _ e, ?_⟩
            · rw [List.length_map, List.length_take]
              have : i < xs.length := (List.getElem?_eq_some_iff.mp hi).1
              exact small1000 (by omega)
            · rw [upd_same, List.take_succ, eb, List.map_append]
              rfl
          · rintro G ⟨sG, hD⟩
            refine ⟨D, bs, rfl, ?_, ?_⟩
            · rw [← hb.1, List.take_length] at hD
              exact SqL.of hD
            · exact k G (s1.trans sG)
        · have h2 : decide (0 < xs.length) = false := by rw [← e0]; simpa using h1
          rw [h2] at k
          exact k H1 s1
theorem scReq : FnScope ["holds", "word"] ["holds", "word"] (defScope sReq) := ⟨rfl, rfl, rfl, by decide +kernel, rfl, by decide +kernel, by decide +kernel⟩
/-- require, where what is asked holds -/
theorem ok_req {f : Addr} {fd : FuncData} (F : Fun K "require" "require" sReq f fd) : FnOk P w K mg base CX0 1 f fd ["holds", "word"] spReq := by
  refine F.ok scReq (fun vs H Q E h => ?_) (fun cdv A outer s H vs Q E hr h => ?_)
  · obtain ⟨v, rfl, _⟩ := h
    rfl
  · obtain ⟨v, rfl, k⟩ := h
    exact ⟨_, pss_one (ps_if (pt_not (pt_val (pv 0))) pss_never pss_nil), _, rfl, _, rfl, k⟩
theorem scRem : FnScope ["value"] ["value"] (defScope sRem) := ⟨rfl, rfl, rfl, by decide +kernel, rfl, by decide +kernel, by decide +kernel⟩
theorem ok_rem {f fN : Addr} {fd fdN : FuncData} (F : Fun K "is_remark" "is_remark" sRem f fd) (T : TxtK mg) (GN : FnOk P w K mg base CX0 1 fN fdN ["value"] (spName K)) (gN : mg "is_name" = some (.ref fN)) (kN : PySem.W.keepIn K (.ref fN) = true) (bN : Binds K fdN ["value"] []) :
    FnOk P w K mg base CX0 2 f fd ["value"] (spRem K) := by
  refine F.ok scRem (fun vs H Q E h => ?_) (fun cdv A outer s H vs Q E hr h => ?_)
  · obtain ⟨x, rfl, _⟩ := h
    rfl
  · obtain ⟨x, rfl, h⟩ := h
    refine ⟨_, (pss_one (ps_ret (pe_and (pe_callB call_isi (by rfl) T.isinstance (by decide +kernel) (pa_cons (pv 0) (pa_cons (pe_bltn (v := .ty "str") (by rfl) T.str (by decide +kernel) rfl) pa_nil))) (pe_one (pe_or (pe_cmpR op_eq (pv 0) pe_str (nomark _)) (pe_one (pe_call GN hr (by rfl) gN kN bN .nil pass0 (pa_cons (pv 0) pa_nil)))))))), ?_⟩
    rcases h with ⟨z, rfl, hz, k⟩ | ⟨⟨t, ty, e⟩, k⟩
    · obtain ⟨t, ty, e⟩ := isT_str (K := K) (H := H) (z := z)
      refine ⟨_, rfl, _, _, _, _, _, rfl, .ty _, ty, e, _, rfl, ?_⟩
      refine ⟨_, rfl, rfl, _, rfl, ?_⟩
      unfold remarkB at k
      refine ite2 (fun h1 => ?_) (fun h1 => ?_)
      · rw [h1] at k
        exact k
      · have : decide (V.str z = V.str "") = false := by simpa using h1
        rw [this, Bool.false_or] at k
        exact ⟨_, rfl, _, _, rfl, .inl ⟨z, rfl, hz, rfl⟩, k⟩
    · exact ⟨_, rfl, _, _, _, _, _, rfl, .ty _, ty, e, _, rfl, k⟩
end
end Lay
set_option Elab.async false
set_option linter.all false
set_option maxRecDepth 100000
set_option maxHeartbeats 4000000
namespace Lay
open PySem L2
/-- what a piece is made of -/
structure PD where
  word : Str
  parts : List Str
  broken : Bool
  marked : Bool
  ahead : Str
  behind : Str
  blanks : Int
  left : Bool
structure PD.Ok (d : PD) : Prop where
  word : nameB d.word = true
  some : 0 < d.parts.length
  few : d.parts.length ≤ 1000
  parts : ∀ z ∈ d.parts, nameB z = true
  ahead : remarkB d.ahead = true
  behind : remarkB d.behind = true
  b0 : 0 ≤ d.blanks
  b3 : d.blanks < 3
theorem remarkB_len {z : Str} (h : remarkB z = true) : z.length ≤ 6 := by
  unfold remarkB at h
  rcases Bool.or_eq_true_iff.mp h with h | h
  · have e : z = ("" : Str) := V.str.inj (of_decide_eq_true h)
    rw [e]
    decide
  · exact nameB_len h
theorem six_line {n : Nat} (h : n ≤ 6) : n ≤ sizeLine := Nat.le_trans h (by decide)
/-- its attributes, the tuple of the items at t -/
def pieceF (d : PD) (t : Addr) : List (Str × V) :=
  putF "left" (.bl d.left) (putF "blanks" (.int d.blanks) (putF "behind" (.str d.behind) (putF "ahead" (.str d.ahead) (putF "marked" (.bl d.marked) (putF "broken" (.bl d.broken) (putF "parts" (.ref t) (putF "word" (.str d.word) [])))))))
/-- at p a piece of d -/
def PieceAt (K : PySem.W.Frag) (C : Addr) (H : Hp) (p : Addr) (d : PD) : Prop := ∃ dx t, H p = some (.ins C dx (pieceF d t)) ∧ SqT K H t (d.parts.map V.str)
theorem SqT.same {K : PySem.W.Frag} {H H' : Hp} {a : Addr} {xs : List V} (e : Same H H') (h : SqT K H a xs) : SqT K H' a xs := by
  rcases h with (h | ⟨o, h⟩) | h
  · exact .inl (.inl (e _ _ h))
  · exact .inl (.inr ⟨o, e _ _ h⟩)
  · exact .inr h
theorem PieceAt.same {K : PySem.W.Frag} {C : Addr} {H H' : Hp} {p : Addr} {d : PD} (s : Same H H') (h : PieceAt K C H p d) : PieceAt K C H' p d := by
  obtain ⟨dx, t, h1, h2⟩ := h
  exact ⟨dx, t, s _ _ h1, SqT.same s h2⟩
/-- what the class Piece says of itself -/
structure PieceC (K : PySem.W.Frag) (C : Addr) : Prop where
  cl : Cls K C
  word : NoAttr K C "word"
  parts : NoAttr K C "parts"
  broken : NoAttr K C "broken"
  marked : NoAttr K C "marked"
  ahead : NoAttr K C "ahead"
  behind : NoAttr K C "behind"
  blanks : NoAttr K C "blanks"
  left : NoAttr K C "left"
def spPieceI (C : Addr) (K : PySem.W.Frag) : Sp := fun vs H Q _ => ∃ (p a dx : Addr) (d : PD), vs = [.ref p, .str d.word, .ref a, .bl d.broken, .bl d.marked, .str d.ahead, .str d.behind, .int d.blanks, .bl d.left] ∧ d.Ok ∧ SqX K H a (d.parts.map V.str) ∧
  H p = some (.ins C dx []) ∧ ∀ H' t, Kept p H H' → H' p = some (.ins C dx (pieceF d t)) → SqT K H' t (d.parts.map V.str) → Q .non H'
abbrev sPieceI : Stmt := inClass (top 20) 0
theorem few_put {f : Str} {v : V} {fs : List (Str × V)} {n : Nat} (h : fs.length ≤ n) : (putF f v fs).length ≤ n + 1 := Nat.le_trans (length_putF f v fs) (Nat.succ_le_succ h)
theorem few_1000 {fs : List (Str × V)} {n : Nat} (h : fs.length ≤ n) (hn : n < 1000) : fs.length < 1000 := Nat.lt_of_le_of_lt h hn
section
variable {P : Program} {w : World} {K : PySem.W.Frag} {mg : Str → Option Value} {base : Heap}
theorem scPi : FnScope ["self", "word", "parts", "broken", "marked", "ahead", "behind", "blanks", "left"] ["self", "word", "parts", "broken", "marked", "ahead", "behind", "blanks", "left"] (defScope sPieceI) := ⟨rfl, rfl, rfl, by decide +kernel, rfl, by decide +kernel, by decide +kernel⟩
/-- the defs that Piece asks -/
structure PieceD (P : Program) (w : World) (K : PySem.W.Frag) (mg : Str → Option Value) (base : Heap) (fR fN fM fE fU : Addr) (dR dN dM dE dU : FuncData) : Prop where
  GR : FnOk P w K mg base CX0 1 fR dR ["holds", "word"] spReq
  gR : mg "require" = some (.ref fR)
  kR : PySem.W.keepIn K (.ref fR) = true
  bR : Binds K dR ["holds", "word"] []
  GN : FnOk P w K mg base CX0 1 fN dN ["value"] (spName K)
  gN : mg "is_name" = some (.ref fN)
  kN : PySem.W.keepIn K (.ref fN) = true
  bN : Binds K dN ["value"] []
  GM : FnOk P w K mg base CX0 2 fM dM ["value"] (spNames K)
  gM : mg "are_names" = some (.ref fM)
  kM : PySem.W.keepIn K (.ref fM) = true
  bM : Binds K dM ["value"] []
  GE : FnOk P w K mg base CX0 2 fE dE ["value"] (spRem K)
  gE : mg "is_remark" = some (.ref fE)
  kE : PySem.W.keepIn K (.ref fE) = true
  bE : Binds K dE ["value"] []
  GU : FnOk P w K mg base CX0 2 fU dU ["value", "many"] (spNum K)
  gU : mg "is_number" = some (.ref fU)
  kU : PySem.W.keepIn K (.ref fU) = true
  bU : Binds K dU ["value", "many"] []
theorem ok_pieceI {f C : Addr} {fd : FuncData} {dvs : List V} {fR fN fM fE fU : Addr} {dR dN dM dE dU : FuncData} (F : FunD K "__init__" "Piece.__init__" (defArgs sPieceI) (defBody sPieceI) (defScope sPieceI) dvs [] f fd) (T : TxtK mg) (Z : PieceC K C) (D : PieceD P w K mg base fR fN fM fE fU dR dN dM dE dU) :
    FnOk P w K mg base CX0 3 f fd ["self", "word", "parts", "broken", "marked", "ahead", "behind", "blanks", "left"] (spPieceI C K) := by
  refine F.ok scPi (fun vs H Q E h => ?_) (fun cdv A outer s H vs Q E hr h => ?_)
  · obtain ⟨p, a, dx, d, rfl, _⟩ := h
    rfl
  · obtain ⟨p, a, dx, d, rfl, o, ha, hp, k⟩ := h
    have hr1 := hr.mono (show 1 ≤ 2 by decide)
    suffices h : ∃ t, PSs (cxOf CX0 P w K mg base ["self", "word", "parts", "broken", "marked", "ahead", "behind", "blanks", "left"] "Piece.__init__" (defScope sPieceI) f cdv A outer s H E).nox (defBody sPieceI) t ∧ t { nx := fun _ H' => Q .non H', rt := Q } (start ["self", "word", "parts", "broken", "marked", "ahead", "behind", "blanks", "left"] [.ref p, .str d.word, .ref a, .bl d.broken, .bl d.marked, .str d.ahead, .str d.behind, .int d.blanks, .bl d.left]) H by
      obtain ⟨t, h1, h2⟩ := h
      exact ⟨t, h1.nox, h2⟩
    refine ⟨_, (pss_cons (ps_expr (pe_call D.GR hr1 (by rfl) D.gR D.kR D.bR .nil pass0 (pa_cons (pe_call D.GN hr1 (by rfl) D.gN D.kN D.bN .nil pass0 (pa_cons (pv 1) pa_nil)) (pa_cons pe_str pa_nil))))
    (pss_cons (ps_expr (pe_call D.GR hr1 (by rfl) D.gR D.kR D.bR .nil pass0 (pa_cons (pe_call D.GM hr (by rfl) D.gM D.kM D.bM .nil pass0 (pa_cons (pv 2) pa_nil)) (pa_cons pe_str pa_nil))))
    (pss_cons (ps_expr (pe_call D.GR hr1 (by rfl) D.gR D.kR D.bR .nil pass0 (pa_cons (pe_callB call_isi (by rfl) T.isinstance (by decide +kernel) (pa_cons (pv 3) (pa_cons (pe_bltn (v := .ty "bool") (by rfl) T.bool (by decide +kernel) rfl) pa_nil))) (pa_cons pe_str pa_nil))))
    (pss_cons (ps_expr (pe_call D.GR hr1 (by rfl) D.gR D.kR D.bR .nil pass0 (pa_cons (pe_callB call_isi (by rfl) T.isinstance (by decide +kernel) (pa_cons (pv 4) (pa_cons (pe_bltn (v := .ty "bool") (by rfl) T.bool (by decide +kernel) rfl) pa_nil))) (pa_cons pe_str pa_nil))))
    (pss_cons (ps_expr (pe_call D.GR hr1 (by rfl) D.gR D.kR D.bR .nil pass0 (pa_cons (pe_call D.GE hr (by rfl) D.gE D.kE D.bE .nil pass0 (pa_cons (pv 5) pa_nil)) (pa_cons pe_str pa_nil))))
    (pss_cons (ps_expr (pe_call D.GR hr1 (by rfl) D.gR D.kR D.bR .nil pass0 (pa_cons (pe_call D.GE hr (by rfl) D.gE D.kE D.bE .nil pass0 (pa_cons (pv 6) pa_nil)) (pa_cons pe_str pa_nil))))
    (pss_cons (ps_expr (pe_call D.GR hr1 (by rfl) D.gR D.kR D.bR .nil pass0 (pa_cons (pe_call D.GU hr (by rfl) D.gU D.kU D.bU .nil pass0 (pa_cons (pv 7) (pa_cons pe_int pa_nil))) (pa_cons pe_str pa_nil))))
    (pss_cons (ps_expr (pe_call D.GR hr1 (by rfl) D.gR D.kR D.bR .nil pass0 (pa_cons (pe_callB call_isi (by rfl) T.isinstance (by decide +kernel) (pa_cons (pv 8) (pa_cons (pe_bltn (v := .ty "bool") (by rfl) T.bool (by decide +kernel) rfl) pa_nil))) (pa_cons pe_str pa_nil))))
    (pss_cons (ps_fld (pv 0) (pv 1) rfl)
    (C8.pss_cut (ps_fld (pv 0) (pe_callTy call_tuple_of (by rfl) T.tuple (by decide +kernel) (pa_cons (pv 2) pa_nil)) rfl)
    (pss_cons (ps_fld (pv 0) (pv 3) rfl)
    (pss_cons (ps_fld (pv 0) (pv 4) rfl)
    (pss_cons (ps_fld (pv 0) (pv 5) rfl)
    (pss_cons (ps_fld (pv 0) (pv 6) rfl)
    (pss_cons (ps_fld (pv 0) (pv 7) rfl)
    (pss_one (ps_fld (pv 0) (pv 8) rfl))))))))))))))))), ?_⟩
    have nap : a ≠ p := by
      rcases ha with ha | ha
      · exact ne_of ha hp (fun z => nomatch z)
      · exact ne_of ha hp (fun z => nomatch z)
    refine ⟨_, rfl, _, true, rfl, .inl ⟨_, rfl, six_line (nameB_len o.word), o.word.symm⟩, _, rfl, ?_⟩
    have hall : (decide (0 < (d.parts.map V.str).length) && (List.replicate d.parts.length true).all id) = true := by
      rw [List.length_map, decide_eq_true o.some, Bool.true_and, List.all_eq_true]
      intro b hb
      rw [(List.mem_replicate.mp hb).2]
      rfl
    refine ⟨_, rfl, _, rfl, .inr ⟨a, _, List.replicate d.parts.length true, rfl, ha, by rw [List.length_map]; exact o.few, ⟨by rw [List.length_replicate, List.length_map], fun i x b hx hb => ?_⟩, fun H1 s1 => ⟨_, by rw [hall]; rfl, ?_⟩⟩⟩
    · rw [List.getElem?_map] at hx
      cases q : d.parts[i]? with
      | none =>
        rw [q] at hx
        cases hx
      | some z =>
        rw [q] at hx
        cases hx
        have hz := o.parts z (List.mem_of_getElem? q)
        have eb : b = true := (List.mem_replicate.mp (List.mem_of_getElem? hb)).2
        exact .inl ⟨z, rfl, six_line (nameB_len hz), by rw [eb, hz]⟩
    obtain ⟨t3, y3, e3⟩ := isT_bl (K := K) (H := H1) (z := d.broken)
    refine ⟨_, rfl, _, _, _, _, _, rfl, .ty _, y3, e3, _, rfl, ?_⟩
    obtain ⟨t4, y4, e4⟩ := isT_bl (K := K) (H := H1) (z := d.marked)
    refine ⟨_, rfl, _, _, _, _, _, rfl, .ty _, y4, e4, _, rfl, ?_⟩
    refine ⟨_, rfl, _, rfl, .inl ⟨_, rfl, six_line (remarkB_len o.ahead), _, by rw [o.ahead]; rfl, ?_⟩⟩
    refine ⟨_, rfl, _, rfl, .inl ⟨_, rfl, six_line (remarkB_len o.behind), _, by rw [o.behind]; rfl, ?_⟩⟩
    refine ⟨_, rfl, _, _, rfl, .inl ⟨_, rfl, _, by rw [decide_eq_true o.b0, decide_eq_true o.b3]; rfl, ?_⟩⟩
    obtain ⟨t8, y8, e8⟩ := isT_bl (K := K) (H := H1) (z := d.left)
    refine ⟨_, rfl, _, _, _, _, _, rfl, .ty _, y8, e8, _, rfl, ?_⟩
    refine ⟨_, rfl, _, rfl, p, C, dx, _, rfl, s1 _ _ hp, Z.cl, Z.word, (by show 0 < 1000; decide), ?_⟩
    refine ⟨fun σ' G => σ' = start ["self", "word", "parts", "broken", "marked", "ahead", "behind", "blanks", "left"] [.ref p, .str d.word, .ref a, .bl d.broken, .bl d.marked, .str d.ahead, .str d.behind, .int d.blanks, .bl d.left] ∧
      ∃ t, Kept p H G ∧ t ≠ p ∧ G p = some (.ins C dx (putF "parts" (.ref t) (putF "word" (.str d.word) []))) ∧ SqT K G t (d.parts.map V.str), ?_, ?_⟩
    · have k1 : Kept p H (upd H1 p (.ins C dx (putF "word" (.str d.word) []))) := (Kept.of_same s1).trans Kept.box
      rcases ha with ha | ha
      · refine ⟨_, rfl, a, _, rfl, .inl ⟨SqL.of (k1 _ _ nap ha), fun l hl => ⟨_, rfl, p, C, dx, _, rfl, Same.new hl _ _ upd_same, Z.cl, Z.parts, few_1000 (few_put (Nat.zero_le 0)) (by decide), rfl, l, (k1.trans (Kept.new hl)).trans Kept.box, ?_, upd_same, ?_⟩⟩⟩
        · intro z
          rw [z, upd_same] at hl
          cases hl
        · have nlp : l ≠ p := fun z => by
            rw [z, upd_same] at hl
            cases hl
          exact SqT.of (by rw [upd_ne nlp, upd_same])
      · refine ⟨_, rfl, a, _, rfl, .inr ⟨SqT.of (k1 _ _ nap ha), _, rfl, p, C, dx, _, rfl, upd_same, Z.cl, Z.parts, few_1000 (few_put (Nat.zero_le 0)) (by decide), rfl, a, k1.trans Kept.box, nap, upd_same, SqT.of (by rw [upd_ne nap]; exact k1 _ _ nap ha)⟩⟩
    · rintro σ' G ⟨rfl, t, kG, ntp, hG, ht⟩
      refine ⟨_, rfl, _, rfl, p, C, dx, _, rfl, hG, Z.cl, Z.broken, few_1000 (few_put (few_put (Nat.zero_le 0))) (by decide), ?_⟩
      refine ⟨_, rfl, _, rfl, p, C, dx, _, rfl, upd_same, Z.cl, Z.marked, few_1000 (few_put (few_put (few_put (Nat.zero_le 0)))) (by decide), ?_⟩
      refine ⟨_, rfl, _, rfl, p, C, dx, _, rfl, upd_same, Z.cl, Z.ahead, few_1000 (few_put (few_put (few_put (few_put (Nat.zero_le 0))))) (by decide), ?_⟩
      refine ⟨_, rfl, _, rfl, p, C, dx, _, rfl, upd_same, Z.cl, Z.behind, few_1000 (few_put (few_put (few_put (few_put (few_put (Nat.zero_le 0)))))) (by decide), ?_⟩
      refine ⟨_, rfl, _, rfl, p, C, dx, _, rfl, upd_same, Z.cl, Z.blanks, few_1000 (few_put (few_put (few_put (few_put (few_put (few_put (Nat.zero_le 0))))))) (by decide), ?_⟩
      refine ⟨_, rfl, _, rfl, p, C, dx, _, rfl, upd_same, Z.cl, Z.left, few_1000 (few_put (few_put (few_put (few_put (few_put (few_put (few_put (Nat.zero_le 0)))))))) (by decide), ?_⟩
      simp only [upd_upd]
      exact k _ t (kG.trans Kept.box) upd_same (SqT.kept Kept.box ntp ht)
end
end Lay
set_option Elab.async false
set_option linter.all false
set_option maxRecDepth 100000
set_option maxHeartbeats 4000000
namespace Lay
open PySem L2
/-- an error class with an __init__ of its own that keeps f -/
structure XC (K : PySem.W.Frag) (mg : Str → Option Value) (C fI : Addr) (x f : Str) : Prop where
  oex : OexC K C
  init : PySem.W.findIn K (.ref C) "__init__" = some (some (.ref fI))
  tI : PySem.W.typeIn K (.ref fI) = some (.type "function")
  gC : mg x = some (.ref C)
  no : PySem.W.findIn K (.ref C) f = some none
  isC : ExcC K C
  xf : XfC K C
def spInit (K : PySem.W.Frag) (C : Addr) (f : Str) : Sp := fun vs H Q _ => ∃ (a : Addr) (v : V), vs = [.ref a, v] ∧ OexC K C ∧ PySem.W.findIn K (.ref C) f = some none ∧ H a = some (exo a C none) ∧
  ∀ dx, H dx = none → dx ≠ a → Q .non (upd (upd H dx (exd dx [(f, v)])) a (exo a C (some dx)))
/-- what raising such a class comes to -/
theorem raised_at {K : PySem.W.Frag} {C a : Addr} {f : Str} {H : Hp} {v : V} {Q : XK} (T : OexC K C) (no : PySem.W.findIn K (.ref C) f = some none) (ha : H a = none)
    (k : ∀ H' d, Same H H' → H d = none → H' d = some (.xd [(f, v)]) → Q (.ref C) (some d) H') :
    spInit K C f [.ref a, v] (upd H a (exo a C none)) (fun u H2 => u = .non ∧ ∃ (d : Addr) (fs : List (Str × V)), H2 a = some (exo a C (some d)) ∧ H2 d = some (exd d fs) ∧ H d = none ∧ Q (.ref C) (some d) (upd (del H2 a) d (.xd fs))) (fun _ _ _ => False) := by
  refine ⟨a, v, rfl, T, no, upd_same, fun dx hd ne => ?_⟩
  have hd' : H dx = none := by
    rw [upd_ne ne] at hd
    exact hd
  refine ⟨rfl, dx, _, upd_same, by rw [upd_ne ne, upd_same], hd', k _ dx (fun b o e => ?_) hd' upd_same⟩
  have nb : b ≠ a := ne_of_none e ha
  have nd : b ≠ dx := ne_of_none e hd'
  rw [upd_ne nd, del_ne nb, upd_ne nb, upd_ne nd, upd_ne nb]
  exact e
/-- isinstance(x, Piece) -/
def IsP (K : PySem.W.Frag) (C : Addr) (H : Hp) (x : V) (b : Bool) : Prop := ∃ t, TyX K H x t ∧ PySem.W.kitOne K t (.ref C) = some b
theorem IsP.same {K : PySem.W.Frag} {C : Addr} {H H' : Hp} {x : V} {b : Bool} (s : Same H H') (h : IsP K C H x b) : IsP K C H' x b := by
  obtain ⟨t, h1, h2⟩ := h
  exact ⟨t, TyX.same s h1, h2⟩
/-- what Program says of a value: none, or the number of what is wrong -/
def Verdict (K : PySem.W.Frag) (C : Addr) (H : Hp) (x : V) (r : Option Nat) : Prop := (IsSeq K H x false ∧ r = some 0) ∨
  ∃ a xs, x = .ref a ∧ SqX K H a xs ∧ xs.length ≤ 1000 ∧ ((r = none ∧ ∀ y ∈ xs, IsP K C H y true) ∨ ∃ i y, r = some i ∧ xs[i]? = some y ∧ IsP K C H y false ∧ ∀ j z, j < i → xs[j]? = some z → IsP K C H z true)
theorem Verdict.same {K : PySem.W.Frag} {C : Addr} {H H' : Hp} {x : V} {r : Option Nat} (s : Same H H') (h : Verdict K C H x r) : Verdict K C H' x r := by
  rcases h with ⟨h, e⟩ | ⟨a, xs, e, h, l, k⟩
  · exact .inl ⟨h.same s, e⟩
  · refine .inr ⟨a, xs, e, h.same s, l, ?_⟩
    rcases k with ⟨e1, k⟩ | ⟨i, y, e1, e2, k1, k2⟩
    · exact .inl ⟨e1, fun y hy => (k y hy).same s⟩
    · exact .inr ⟨i, y, e1, e2, k1.same s, fun j z h1 h2 => (k2 j z h1 h2).same s⟩
/-- what is raised of it -/
def Raised (D : Addr) (H : Hp) (i : Nat) (E : XK) : Prop := ∀ H' d, Same H H' → H d = none → H' d = some (.xd [("at", .int i)]) → E (.ref D) (some d) H'
def spCheck (K : PySem.W.Frag) (C D : Addr) : Sp := fun vs H Q E => ∃ x r, vs = [x] ∧ Verdict K C H x r ∧ (r = none → ∀ H', Same H H' → Q .non H') ∧ ∀ i, r = some i → Raised D H i E
theorem Raised.same {D : Addr} {H H' : Hp} {i : Nat} {E : XK} (s : Same H H') (h : Raised D H i E) : Raised D H' i E := fun G d s2 n e => h G d (s.trans s2) (s.free n) e
abbrev sIIP : Stmt := inClass (top 4) 0
abbrev sCheck : Stmt := top 22
section
variable {P : Program} {w : World} {K : PySem.W.Frag} {mg : Str → Option Value} {base : Heap}
theorem scIIP : FnScope ["self", "at"] ["self", "at"] (defScope sIIP) := ⟨rfl, rfl, rfl, by decide +kernel, rfl, by decide +kernel, by decide +kernel⟩
theorem ok_iIP {f C : Addr} {fd : FuncData} (F : Fun K "__init__" "InvalidProgram.__init__" sIIP f fd) : FnOk P w K mg base CX0 1 f fd ["self", "at"] (spInit K C "at") := by
  refine F.ok scIIP (fun vs H Q E h => ?_) (fun cdv A outer s H vs Q E hr h => ?_)
  · obtain ⟨a, v, rfl, _⟩ := h
    rfl
  · obtain ⟨a, v, rfl, T, no, ha, k⟩ := h
    exact ⟨_, pss_one (ps_ost (pv 0) (pv 1)), _, rfl, _, rfl, a, C, rfl, T, no, .inl ⟨ha, fun dx h1 h2 => k dx h1 h2⟩⟩
theorem scCheck : FnScope ["value", "at", "one"] ["value"] (defScope sCheck) := ⟨rfl, rfl, rfl, by decide +kernel, rfl, by decide +kernel, by decide +kernel⟩
theorem ok_check {f fS fI C D : Addr} {fd fdS fdI : FuncData} (F : Fun K "check_pieces" "check_pieces" sCheck f fd) (T : TxtK mg) (GS : FnOk P w K mg base CX0 1 fS fdS ["value"] (spSeq K)) (gS : mg "is_sequence" = some (.ref fS)) (kS : PySem.W.keepIn K (.ref fS) = true) (bS : Binds K fdS ["value"] [])
    (Y : XC K mg D fI "InvalidProgram" "at") (GI : FnOk P w K mg base CX0 1 fI fdI ["self", "at"] (spInit K D "at")) (bI : Binds K fdI ["self", "at"] []) (gP : mg "Piece" = some (.ref C)) : FnOk P w K mg base (L2.CX P w) 3 f fd ["value"] (spCheck K C D) := by
  refine F.okX scCheck (fun vs H Q E h => ?_) (fun cdv A outer s H vs Q E hr h => ?_)
  · obtain ⟨x, r, rfl, _⟩ := h
    rfl
  · obtain ⟨x, r, rfl, h, k1, k2⟩ := h
    refine ⟨_, (pss_cons (ps_if (pt_not (pt_val (pe_call GS (hr.mono (by decide)) (by rfl) gS kS bS .nil pass0 (pa_cons (pv 0) pa_nil))))
      (pss_one (ps_raise rfl (takes_of rfl rfl rfl rfl) (pmk_oex Y.oex Y.init Y.tI GI hr bI .nil pass0 (by rfl) Y.gC (pa_cons pe_int pa_nil))))
      pss_nil)
    (pss_one (ps_for (passes_of rfl) rfl (pi_enum2 (by rfl) T.enumerate (pa_cons (pv 0) pa_nil)) (pg_tup rfl (pgs_cons (pg_name (i := 1) scCheck.nd rfl (.inl rfl)) (pgs_cons (pg_name (i := 2) scCheck.nd rfl (.inl rfl)) pgs_nil)))
      (pss_one (ps_if (pt_not (pt_val (pe_callB call_isi (by rfl) T.isinstance (by decide +kernel) (pa_cons (pv 2) (pa_cons (pe_glob (v := .ref C) (by rfl) gP rfl) pa_nil)))))
        (pss_one (ps_raise rfl (takes_of rfl rfl rfl rfl) (pmk_oex Y.oex Y.init Y.tI GI hr bI .nil pass0 (by rfl) Y.gC (pa_cons (pv 1) pa_nil))))
        pss_nil))))), ?_⟩
    rcases h with ⟨h, rfl⟩ | ⟨a, xs, rfl, hx, hl, h⟩
    · exact ⟨_, rfl, _, false, rfl, h, fun H1 s1 => ⟨_, rfl, (by show 1 ≤ 1000; decide), fun a ha => raised_at Y.oex Y.no ha fun G d s2 n e => k2 0 rfl G d (s1.trans s2) (s1.free n) e⟩⟩
    refine ⟨_, rfl, _, true, rfl, SqX.seq hx, fun H1 s1 => ⟨_, rfl, ?_⟩⟩
    rcases hx with hx | hx
    · refine ⟨_, rfl, a, xs, rfl, .inl ⟨SqL.of (s1 _ _ hx), for_it walk_enum (fun i σ G => (∃ x1 x2, σ = [some (.ref a), x1, x2]) ∧ Same H G ∧ ∀ j, r = some j → i ≤ j) ⟨⟨_, _, rfl⟩, s1, fun j _ => Nat.zero_le j⟩ (fun i σ G _ q => SqL.of (q.2.1 _ _ hx)) ?_ ?_⟩⟩
      · rintro i x σ G G' hi ⟨⟨x1, x2, rfl⟩, sG, hr0⟩ ⟨T0, u, v, rfl, hT, rfl, e1, e2⟩
        cases e1
        have e2 : xs[i]? = some v := e2
        have sT := Same.new hT (o := .tup [.int (i : Nat), v])
        refine ⟨T0, _, rfl, SqT.of upd_same, rfl, _, _, rfl, _, _, rfl, rfl, ?_⟩
        have q : (IsP K C H v true ∧ ∀ j, r = some j → i + 1 ≤ j) ∨ (IsP K C H v false ∧ r = some i) := by
          rcases h with ⟨e, h⟩ | ⟨j, y, e, ej, h1, h2⟩
          · exact .inl ⟨h v (List.mem_of_getElem? e2), fun j z => by
              rw [e] at z
              cases z⟩
          · have le := hr0 j e
            rcases Nat.lt_or_ge i j with lt | ge
            · exact .inl ⟨h2 i v lt e2, fun j' z => by
                rw [e] at z
                cases z
                exact lt⟩
            · have ij : i = j := by omega
              subst ij
              rw [ej] at e2
              cases e2
              exact .inr ⟨h1, e⟩
        rcases q with ⟨q, lt⟩ | ⟨q, er⟩
        · obtain ⟨t, ty, et⟩ := (q.same sG).same sT
          exact ⟨_, rfl, _, _, _, _, _, rfl, .own _, ty, et, _, rfl, ⟨_, _, rfl⟩, sG.trans sT, lt⟩
        · obtain ⟨t, ty, et⟩ := (q.same sG).same sT
          exact ⟨_, rfl, _, _, _, _, _, rfl, .own _, ty, et, _, rfl, _, rfl, (by show 1 ≤ 1000; decide), fun a ha => raised_at Y.oex Y.no ha fun G2 d s2 n e => k2 i er G2 d ((sG.trans sT).trans s2) ((sG.trans sT).free n) e⟩
      · rintro σ G ⟨_, sG, hr0⟩
        rcases h with ⟨rfl, _⟩ | ⟨j, y, rfl, e2, _⟩
        · exact k1 rfl G sG
        · have := hr0 j rfl
          have := (List.getElem?_eq_some_iff.mp e2).1
          omega
    · refine ⟨_, rfl, a, xs, rfl, .inr ⟨SqT.of (s1 _ _ hx), for_it walk_enumT (fun i σ G => (∃ x1 x2, σ = [some (.ref a), x1, x2]) ∧ Same H G ∧ ∀ j, r = some j → i ≤ j) ⟨⟨_, _, rfl⟩, s1, fun j _ => Nat.zero_le j⟩ (fun i σ G _ q => SqT.of (q.2.1 _ _ hx)) ?_ ?_⟩⟩
      · rintro i x σ G G' hi ⟨⟨x1, x2, rfl⟩, sG, hr0⟩ ⟨T0, u, v, rfl, hT, rfl, e1, e2⟩
        cases e1
        have e2 : xs[i]? = some v := e2
        have sT := Same.new hT (o := .tup [.int (i : Nat), v])
        refine ⟨T0, _, rfl, SqT.of upd_same, rfl, _, _, rfl, _, _, rfl, rfl, ?_⟩
        have q : (IsP K C H v true ∧ ∀ j, r = some j → i + 1 ≤ j) ∨ (IsP K C H v false ∧ r = some i) := by
          rcases h with ⟨e, h⟩ | ⟨j, y, e, ej, h1, h2⟩
          · exact .inl ⟨h v (List.mem_of_getElem? e2), fun j z => by
              rw [e] at z
              cases z⟩
          · have le := hr0 j e
            rcases Nat.lt_or_ge i j with lt | ge
            · exact .inl ⟨h2 i v lt e2, fun j' z => by
                rw [e] at z
                cases z
                exact lt⟩
            · have ij : i = j := by omega
              subst ij
              rw [ej] at e2
              cases e2
              exact .inr ⟨h1, e⟩
        rcases q with ⟨q, lt⟩ | ⟨q, er⟩
        · obtain ⟨t, ty, et⟩ := (q.same sG).same sT
          exact ⟨_, rfl, _, _, _, _, _, rfl, .own _, ty, et, _, rfl, ⟨_, _, rfl⟩, sG.trans sT, lt⟩
        · obtain ⟨t, ty, et⟩ := (q.same sG).same sT
          exact ⟨_, rfl, _, _, _, _, _, rfl, .own _, ty, et, _, rfl, _, rfl, (by show 1 ≤ 1000; decide), fun a ha => raised_at Y.oex Y.no ha fun G2 d s2 n e => k2 i er G2 d ((sG.trans sT).trans s2) ((sG.trans sT).free n) e⟩
      · rintro σ G ⟨_, sG, hr0⟩
        rcases h with ⟨rfl, _⟩ | ⟨j, y, rfl, e2, _⟩
        · exact k1 rfl G sG
        · have := hr0 j rfl
          have := (List.getElem?_eq_some_iff.mp e2).1
          omega
end
/-- what the class Program says of itself -/
structure ProgC (K : PySem.W.Frag) (CP : Addr) : Prop where
  cl : Cls K CP
  pieces : NoAttr K CP "pieces"
def spProgI (K : PySem.W.Frag) (C D CP : Addr) : Sp := fun vs H Q E => ∃ (p dx : Addr) (x : V) (r : Option Nat), vs = [.ref p, x] ∧ H p = some (.ins CP dx []) ∧ Verdict K C H x r ∧
  (r = none → ∀ H' t, Kept p H H' → H' p = some (.ins CP dx (putF "pieces" (.ref t) [])) → Q .non H') ∧ ∀ i, r = some i → Raised D H i E
abbrev sProgI : Stmt := inClass (top 33) 0
section
variable {P : Program} {w : World} {K : PySem.W.Frag} {mg : Str → Option Value} {base : Heap}
theorem scProgI : FnScope ["self", "pieces"] ["self", "pieces"] (defScope sProgI) := ⟨rfl, rfl, rfl, by decide +kernel, rfl, by decide +kernel, by decide +kernel⟩
theorem ok_progI {f fC C D CP : Addr} {fd fdC : FuncData} {dvs : List V} (F : FunD K "__init__" "Program.__init__" (defArgs sProgI) (defBody sProgI) (defScope sProgI) dvs [] f fd) (T : TxtK mg) (Z : ProgC K CP)
    (GC : FnOk P w K mg base (L2.CX P w) 3 fC fdC ["value"] (spCheck K C D)) (gC : mg "check_pieces" = some (.ref fC)) (kC : PySem.W.keepIn K (.ref fC) = true) (bC : Binds K fdC ["value"] []) : FnOk P w K mg base (L2.CX P w) 4 f fd ["self", "pieces"] (spProgI K C D CP) := by
  refine F.ok scProgI (fun vs H Q E h => ?_) (fun cdv A outer s H vs Q E hr h => ?_)
  · obtain ⟨p, dx, x, r, rfl, _⟩ := h
    rfl
  · obtain ⟨p, dx, x, r, rfl, hp, h, k1, k2⟩ := h
    refine ⟨_, (pss_cons (ps_expr (pe_call (E := E) GC hr (by rfl) gC kC bC .nil (passes_call (takes_of rfl rfl rfl rfl) fun _ _ _ _ h => h) (pa_cons (pv 1) pa_nil)))
      (pss_one (ps_fld (pv 0) (pe_callTy call_tuple_of (by rfl) T.tuple (by decide +kernel) (pa_cons (pv 1) pa_nil)) rfl))), ?_⟩
    refine ⟨_, rfl, x, r, rfl, h, fun er H1 s1 => ?_, fun i er => ?_⟩
    · rcases h with ⟨_, z⟩ | ⟨a, xs, rfl, hx, hl, h⟩
      · rw [er] at z
        cases z
      have nap : a ≠ p := by
        rcases hx with hx | hx
        · exact ne_of hx hp (fun z => nomatch z)
        · exact ne_of hx hp (fun z => nomatch z)
      rcases hx with hx | hx
      · refine ⟨_, rfl, a, _, rfl, .inl ⟨SqL.of (s1 _ _ hx), fun l hl => ⟨_, rfl, p, CP, dx, _, rfl, Same.new hl _ _ (s1 _ _ hp), Z.cl, Z.pieces, few_1000 (Nat.zero_le 0) (by decide), k1 er _ l (((Kept.of_same s1).trans (Kept.new hl)).trans Kept.box) upd_same⟩⟩⟩
      · refine ⟨_, rfl, a, _, rfl, .inr ⟨SqT.of (s1 _ _ hx), _, rfl, p, CP, dx, _, rfl, s1 _ _ hp, Z.cl, Z.pieces, few_1000 (Nat.zero_le 0) (by decide), k1 er _ a ((Kept.of_same s1).trans Kept.box) upd_same⟩⟩
    · exact k2 i er
end
end Lay
set_option Elab.async false
set_option linter.all false
set_option maxRecDepth 100000
set_option maxHeartbeats 4000000
/-! str(x), x == y, x != y, x + y by what an own class defines. -/
namespace Lay
open PySem PySem.Spec PyProof.Rows L2
section
variable {X : Cx} {CX : CXT} {C f : Addr} {n : Nat} {fd : FuncData} {ps : List Str} {sp : Sp}
/-- a def called beneath, with its values -/
theorem run_sub {A : Around} {pins : List (Addr × Obj)} {σ : L2.St} {H : Hp} {s : Shared} {Q : VK} {us : List Value} {vs : List V} {Post : Value → Shared → Prop} (F : FnOk X.prog X.w X.K X.mg X.base CX n f fd ps sp) (hr : Sub X n A) (hb : Binds X.K fd ps []) (hx : Passes CX X E0)
    (I : Inv X pins σ H s) (r : Vals vs us) (h : sp vs H Q E0) (post : ∀ v u H' s', Inv X pins σ H' s' → RelV v u → Q v H' → Post u s') : wpAny (model X.prog X.w) A (call (.ref f) us) Post X.xe s := by
  have hl : us.length = ps.length := by rw [← r.length]; exact F.len _ _ _ _ h
  have b := hb s us I.kIn (by rw [List.append_nil]; exact hl)
  rw [List.append_nil] at b
  have e := I.env0
  have e0 : Env0 X.prog X.w X.K X.mg X.base A X.stack s H := ⟨by rw [hr.fr]; exact e.frames, e.mod, e.bs, e.bsz, e.funs, e.frf, e.hok, e.bare⟩
  refine wpAny_call (codeAny_mono (F.run A X.stack s H ⟨us, []⟩ us vs Q E0 hr.room e0 b r h) fun r s' hq => ?_)
  cases r with
  | error er => exact hx pins σ H s er s' I hq
  | ok fl =>
    cases fl with
    | ret u =>
      obtain ⟨v, H', I', rv, q⟩ := I.after hq
      exact post v u H' s' I' rv q
    | next => exact False.elim hq
    | brk => exact False.elim hq
    | cont => exact False.elim hq
theorem call_strOwn (F : FnOk X.prog X.w X.K X.mg X.base CX n f fd ps sp) (hs : PySem.W.findIn X.K (.ref C) "__str__" = some (some (.ref f))) (hf : PySem.W.isFn X.K (.ref f) = true) (hr : Room (n + 2) X.A) (hb : Binds X.K fd ps []) (hx : Passes CX X E0) :
    CallR X (.type "str") (fun xs H Q => ∃ (a dx : Addr) (fs : List (Str × V)), xs = [.ref a] ∧ H a = some (.ins C dx fs) ∧ sp [.ref a] H (fun v H' => ∃ z, v = .str z ∧ Q (.str z) H') E0) := by
  intro pins s σ H xs us Q I r h
  obtain ⟨a, dx, fs, rfl, ha, q⟩ := h
  obtain ⟨u, rfl, ru⟩ := vals1 r
  cases ru
  obtain ⟨mA, J, _⟩ := ins_get I.hok ha
  obtain ⟨od, J, _⟩ := J.look
  have sb : Sub X n X.A.in1.in1 := ⟨hr.in1.in1, rfl⟩
  refine PySem.W.kso_call sb.room.units0 I.kIn J hs hf (run_sub (vs := [V.ref a]) F sb hb hx I (.cons rfl .nil) q fun v u H' s' I' rv hq => ?_)
  obtain ⟨z, rfl, hq⟩ := hq
  obtain ⟨t, rfl⟩ := rv
  exact ⟨.str z, H', I', ⟨t, rfl⟩, hq⟩
/-- x == y, two instances of the class -/
theorem op_eqOwn (F : FnOk X.prog X.w X.K X.mg X.base CX n f fd ps sp) (hs : PySem.W.findIn X.K (.ref C) "__eq__" = some (some (.ref f))) (hf : PySem.W.isFn X.K (.ref f) = true) (hr : Room n X.A) (hb : Binds X.K fd ps []) (hx : Passes CX X E0) :
    OpR X (compareOp .Eq) (fun x y H Q => ∃ (a b dx dy : Addr) (fs gs : List (Str × V)), x = .ref a ∧ y = .ref b ∧ H a = some (.ins C dx fs) ∧ H b = some (.ins C dy gs) ∧ sp [.ref a, .ref b] H (fun v H' => ∃ z, v = .bl z ∧ Q (.bl z) H') E0) := by
  intro pins s σ H x y v u Q I rx ry h
  obtain ⟨a, b, dx, dy, fs, gs, rfl, rfl, ha, hb2, q⟩ := h
  cases rx
  cases ry
  obtain ⟨mA, J, _⟩ := ins_get I.hok ha
  obtain ⟨mB, J', _⟩ := ins_get I.hok hb2
  obtain ⟨od, J, _⟩ := J.look
  obtain ⟨od', J', _⟩ := J'.look
  obtain ⟨m, hF⟩ := I.fr
  have sb : Sub X n X.A := ⟨hr, rfl⟩
  show wpAny (model X.prog X.w) X.A (richCompare .Eq (.ref a) (.ref b)) (EP X pins σ Q) X.xe s
  refine PySem.W.cmp_K (op := .Eq) (tb := .ref C) sb.room.units0 hF I.ok.mod.kin J J'.type (by simp [PySem.W.notFirst]) hs hf (run_sub (vs := [V.ref a, V.ref b]) F sb hb hx I (.cons rfl (.cons rfl .nil)) q fun v u H' s' I' rv hq => ?_)
  obtain ⟨z, rfl, hq⟩ := hq
  cases rv
  exact ⟨.bl z, H', I', rfl, hq⟩
/-- x + y, two instances of the class, by its __add__ -/
theorem op_addOwn (F : FnOk X.prog X.w X.K X.mg X.base CX n f fd ps sp) (hs : PySem.W.findIn X.K (.ref C) "__add__" = some (some (.ref f))) (hc : PySem.W.selfFirst X.K C = true) (hf : PySem.W.isFn X.K (.ref f) = true) (hr : Room n X.A) (hb : Binds X.K fd ps []) (hx : Passes CX X E0) :
    OpR X (binaryOp .Add) (fun x y H Q => ∃ (a b dx dy : Addr) (fs gs : List (Str × V)), x = .ref a ∧ y = .ref b ∧ H a = some (.ins C dx fs) ∧ H b = some (.ins C dy gs) ∧ sp [.ref a, .ref b] H (fun v H' => ∃ c, v = .ref c ∧ Q (.ref c) H') E0) := by
  intro pins s σ H x y v u Q I rx ry h
  obtain ⟨a, b, dx, dy, fs, gs, rfl, rfl, ha, hb2, q⟩ := h
  cases rx
  cases ry
  obtain ⟨mA, J, _⟩ := ins_get I.hok ha
  obtain ⟨mB, J', _⟩ := ins_get I.hok hb2
  obtain ⟨od, J, _⟩ := J.look
  obtain ⟨od', J', _⟩ := J'.look
  obtain ⟨m, hF⟩ := I.fr
  have sb : Sub X n X.A := ⟨hr, rfl⟩
  refine PySem.W.binop_K (op := .Add) hF I.ok.mod.kin J J'.type hc hs hf (run_sub (vs := [V.ref a, V.ref b]) F sb hb hx I (.cons rfl (.cons rfl .nil)) q fun v u H' s' I' rv hq => ?_)
  obtain ⟨c, rfl, hq⟩ := hq
  cases rv
  exact ⟨.ref c, H', I', rfl, hq⟩
end
section
variable {prog : Program} {w : World} {A : Around} {E : Value → Shared → Prop} {s : Shared} {K : PySem.W.Frag} {x C f : Addr} {ox : Obj} {od : Option Obj} {b : Value}
theorem check_slot_K {M : Model} {id owner n : String} {rest : List Value} {Q : Unit → Shared → Prop} (hk : builtinKind id = some .slot) (hs : splitId id = some (owner, n))
    (ha : argsOk id ⟨.ref x :: rest, []⟩) (X : K.In s.heap) (I : PySem.W.InstAt s.heap x ox C od) (hm : PySem.W.mroIn K C (.type owner) = some true) (hq : Q () s) :
    wpAny M A (checkBuiltinCall id ⟨.ref x :: rest, []⟩) Q E s := by
  simp only [checkBuiltinCall, hk, hs]
  refine wpAny_bind ?_
  · unfold isInstance
    refine wpAny_bind (I.type.here ((PySem.W.looks_mroIn X hm).here ?_))
    rw [if_neg (by decide : ¬ (!true) = true)]
    cases hsig : Manifest.signature? id with
    | none => exact wpAny_pure hq
    | some sig =>
      simp only [argsOk, hsig] at ha
      have h2 : Bind.checkArgs id sig ⟨.ref x :: rest, []⟩ = pure () := ha
      show wpAny M A (Bind.checkArgs id sig ⟨.ref x :: rest, []⟩) Q E _
      rw [h2]
      exact wpAny_pure hq
theorem ne_entry {Q : PySem.Fin → Shared → Prop} (hu : A.units < cLine) (X : K.In s.heap) (I : PySem.W.InstAt s.heap x ox C od) (heq : PySem.W.findIn K (.ref C) "__eq__" = some (some (.ref f))) (hf : PySem.W.isFn K (.ref f) = true)
    (h : wpAny (model prog w) A (call (.ref f) [.ref x, b]) (fun v s' => ∃ z, v = .bool z ∧ Q (.done (.ret (.bool (!z)))) s') E s) : wpAny (model prog w) A (Builtin.«object.__ne__» ⟨[.ref x, b], []⟩) Q E s := by
  unfold Builtin.«object.__ne__»
  repeat (first | with_reducible refine wpAny_cRoomFor hu ?_ | (with_reducible refine PySem.W.ifBound_K X I heq hf (wpAny_mono h ?_ fun _ _ e => e)) | wp_step)
  rintro v s' ⟨z, rfl, q⟩
  repeat (first | wp_step)
  exact q
theorem ifBound_B {M : Model} {id : String} {name : Str} {args : List Value} {Q : Option Value → Shared → Prop} (S : ∀ v, bindSpecial (.builtin id) v = pure (.builtin id, [v])) (X : K.In s.heap) (I : PySem.W.InstAt s.heap x ox C od) (hs : PySem.W.findIn K (.ref C) name = some (some (.builtin id)))
    (h : wpAny M A (call (.builtin id) (.ref x :: args)) (fun v => Q (some v)) E s) : wpAny M A (callSpecialIfBound? (.ref x) name args) Q E s := by
  simp only [callSpecialIfBound?, bindSpecialIfBound?]
  refine wpAny_holding (wpAny_bind (wpAny_bind (wpAny_bind (I.type.here ((PySem.W.looks_findIn X hs).here ?_)))))
  simp only [S]
  refine wpAny_bind (wpAny_askSetting (wpAny_ite ?_))
  have fin : wpAny M A (call (.builtin id) ([.ref x] ++ args) >>= fun v => pure (some v)) Q E s := wpAny_bind (wpAny_mono h (fun v s' h' => wpAny_pure h') fun _ _ h' => h')
  split
  · exact wpAny_bind (wpAny_pure (wpAny_pure (by exact fin)))
  · exact wpAny_tryCatch (wpAny_bind (wpAny_pure (wpAny_pure (by exact fin))))
theorem ne_own {Q : Value → Shared → Prop} (hu : A.units + 1 < cLine) (X : K.In s.heap) (I : PySem.W.InstAt s.heap x ox C od) (hb : PySem.W.Looks (model prog w) s.heap (typeOf b) (.ref C)) (hne : PySem.W.findIn K (.ref C) "__ne__" = some (some (.builtin "object.__ne__")))
    (heq : PySem.W.findIn K (.ref C) "__eq__" = some (some (.ref f))) (hf : PySem.W.isFn K (.ref f) = true) (hm : PySem.W.mroIn K C (.type "object") = some true)
    (h : wpAny (model prog w) A.in1 (call (.ref f) [.ref x, b]) (fun v s' => ∃ z, v = .bool z ∧ Q (.bool (!z)) s') E s) : wpAny (model prog w) A (richCompare .NotEq (.ref x) b) Q E s := by
  have one : wpAny (model prog w) A (tryCompare (.ref x) "__ne__" b) (fun r s' => ∃ v, r = some v ∧ Q v s') E s := by
    unfold tryCompare
    refine wpAny_bind (ifBound_B F.cmp_object.ne.bind X I hne (wpAny_call (codeAny_call_builtin F.cmp_object.ne.plain F.cmpEntry_ne (check_slot_K F.cmpKind_ne F.cmpSplit_ne (F.cmpArgs_ne _ _) X I hm (ne_entry (A := A.in1) hu X I heq hf ?_)))))
    refine wpAny_mono h (fun v s' hv => ?_) fun _ _ e => e
    obtain ⟨z, rfl, q⟩ := hv
    exact ⟨z, rfl, wpAny_pure ⟨_, rfl, q⟩⟩
  unfold richCompare
  simp only [oneThing_ref]
  refine wpAny_holding (wpAny_bind (wpAny_cRoomFor (Nat.lt_of_succ_lt hu) ?_))
  refine wpAny_bind (I.type.here (wpAny_bind (hb.here ?_)))
  rw [if_neg (by simp)]
  refine wpAny_bind (wpAny_pure ?_)
  simp only [Bool.false_eq_true, if_false]
  refine wpAny_bind (wpAny_mono one (fun r s' z => ?_) fun _ _ e => e)
  obtain ⟨v, rfl, hq⟩ := z
  exact wpAny_pure hq
end
section
variable {X : Cx} {CX : CXT} {C f : Addr} {n : Nat} {fd : FuncData} {ps : List Str} {sp : Sp}
/-- x != y, two instances of the class, by its __eq__ -/
theorem op_neOwn (F : FnOk X.prog X.w X.K X.mg X.base CX n f fd ps sp) (hs : PySem.W.findIn X.K (.ref C) "__eq__" = some (some (.ref f))) (hne : PySem.W.findIn X.K (.ref C) "__ne__" = some (some (.builtin "object.__ne__"))) (hm : PySem.W.mroIn X.K C (.type "object") = some true)
    (hf : PySem.W.isFn X.K (.ref f) = true) (hr : Room (n + 1) X.A) (hb : Binds X.K fd ps []) (hx : Passes CX X E0) :
    OpR X (compareOp .NotEq) (fun x y H Q => ∃ (a b dx dy : Addr) (fs gs : List (Str × V)), x = .ref a ∧ y = .ref b ∧ H a = some (.ins C dx fs) ∧ H b = some (.ins C dy gs) ∧ sp [.ref a, .ref b] H (fun v H' => ∃ z, v = .bl z ∧ Q (.bl (!z)) H') E0) := by
  intro pins s σ H x y v u Q I rx ry h
  obtain ⟨a, b, dx, dy, fs, gs, rfl, rfl, ha, hb2, q⟩ := h
  cases rx
  cases ry
  obtain ⟨mA, J, _⟩ := ins_get I.hok ha
  obtain ⟨mB, J', _⟩ := ins_get I.hok hb2
  obtain ⟨od, J, _⟩ := J.look
  obtain ⟨od', J', _⟩ := J'.look
  have sb : Sub X n X.A.in1 := ⟨hr.in1, rfl⟩
  show wpAny (model X.prog X.w) X.A (richCompare .NotEq (.ref a) (.ref b)) (EP X pins σ Q) X.xe s
  refine ne_own sb.room.units0 I.kIn J J'.type hne hs hf hm (run_sub (vs := [V.ref a, V.ref b]) F sb hb hx I (.cons rfl (.cons rfl .nil)) q fun v u H' s' I' rv hq => ?_)
  obtain ⟨z, rfl, hq⟩ := hq
  cases rv
  exact ⟨z, rfl, .bl (!z), H', I', rfl, hq⟩
/-- len(x) by its __len__ -/
theorem call_lenOwn (F : FnOk X.prog X.w X.K X.mg X.base CX n f fd ps sp) (hs : PySem.W.findIn X.K (.ref C) "__len__" = some (some (.ref f))) (hf : PySem.W.isFn X.K (.ref f) = true) (hr : Room (n + 1) X.A) (hb : Binds X.K fd ps []) (hx : Passes CX X E0) :
    CallR X (.builtin "len") (fun xs H Q => ∃ (a dx : Addr) (fs : List (Str × V)), xs = [.ref a] ∧ H a = some (.ins C dx fs) ∧ sp [.ref a] H (fun v H' => ∃ k : Int, v = .int k ∧ 0 ≤ k ∧ k < 2 ^ 63 ∧ Q (.int k) H') E0) := by
  intro pins s σ H xs us Q I r h
  obtain ⟨a, dx, fs, rfl, ha, q⟩ := h
  obtain ⟨u, rfl, ru⟩ := vals1 r
  cases ru
  obtain ⟨mA, J, _⟩ := ins_get I.hok ha
  obtain ⟨od, J, _⟩ := J.look
  obtain ⟨m, hF⟩ := I.fr
  have sb : Sub X n X.A.in1 := ⟨hr.in1, rfl⟩
  refine PySem.W.len_K hF I.ok.mod.kin J hs hf (run_sub (vs := [V.ref a]) F sb hb hx I (.cons rfl .nil) q fun v u H' s' I' rv hq => ?_)
  obtain ⟨k, rfl, k0, k1, hq⟩ := hq
  obtain ⟨t, rfl⟩ := rv
  exact ⟨⟨k0, k1⟩, .int k, H', I'.tok _, ⟨_, rfl⟩, hq⟩
end
end Lay
set_option Elab.async false
set_option linter.all false
set_option maxRecDepth 100000
set_option maxHeartbeats 4000000
/-! x += y by __add__; sequences of the same objects compared. -/
namespace Lay
open PySem PySem.Spec PyProof.Rows L2
theorem refs_eq : ∀ {xs : List V} {as bs : List Value}, (∀ v ∈ xs, ∃ p, v = V.ref p) → Vals xs as → Vals xs bs → as = bs
  | [], _, _, _, ra, rb => by
    cases ra
    cases rb
    rfl
  | x :: xs, _, _, h, ra, rb => by
    obtain ⟨p, rfl⟩ := h x List.mem_cons_self
    cases ra with
    | cons r1 ra =>
      cases rb with
      | cons r2 rb =>
        cases r1
        cases r2
        rw [refs_eq (fun v hv => h v (List.mem_cons_of_mem _ hv)) ra rb]
section
variable {X : Cx}
theorem op_neSameT (hu : X.A.units + 64 < cLine) : OpR X (compareOp .NotEq) (fun x y H Q => ∃ a b xs, x = .ref a ∧ y = .ref b ∧ SqT X.K H a xs ∧ SqT X.K H b xs ∧ (∀ v ∈ xs, ∃ p, v = V.ref p) ∧ Q (.bl false) H) := by
  intro pins s σ H x y v u Q I rx ry h
  obtain ⟨a, b, xs, rfl, rfl, ha, hb, hr, q⟩ := h
  cases rx
  cases ry
  obtain ⟨its, r, p1, _⟩ := I.tuple ha
  obtain ⟨its2, r2, p2, _⟩ := I.tuple hb
  obtain rfl := refs_eq hr r r2
  refine SeqAt.RcNeAt.tuples (A := X.A) (e := fun _ => true) p1 p2 (by omega) (fun j h1 h2 => SeqAt.EqAt.same _) X.prog X.w X.xe (EP X pins σ Q) ?_
  have : (!((List.range (min its.toArray.size its.toArray.size)).all (fun _ => true) && its.toArray.size == its.toArray.size)) = false := by simp
  rw [this]
  exact ⟨.bl false, H, I, rfl, q⟩
theorem op_eqSameT (hu : X.A.units + 64 < cLine) : OpR X (compareOp .Eq) (fun x y H Q => ∃ a b xs, x = .ref a ∧ y = .ref b ∧ SqT X.K H a xs ∧ SqT X.K H b xs ∧ (∀ v ∈ xs, ∃ p, v = V.ref p) ∧ Q (.bl true) H) := by
  intro pins s σ H x y v u Q I rx ry h
  obtain ⟨a, b, xs, rfl, rfl, ha, hb, hr, q⟩ := h
  cases rx
  cases ry
  obtain ⟨its, r, p1, _⟩ := I.tuple ha
  obtain ⟨its2, r2, p2, _⟩ := I.tuple hb
  obtain rfl := refs_eq hr r r2
  refine SeqAt.RcAt.tuples (A := X.A) (e := fun _ => true) p1 p2 (by omega) (fun j h1 h2 => SeqAt.EqAt.same _) X.prog X.w X.xe (EP X pins σ Q) ?_
  have : ((List.range (min its.toArray.size its.toArray.size)).all (fun _ => true) && its.toArray.size == its.toArray.size) = true := by simp
  rw [this]
  exact ⟨.bl true, H, I, rfl, q⟩
theorem op_neSameL (hu : X.A.units + 64 < cLine) : OpR X (compareOp .NotEq) (fun x y H Q => ∃ a b xs, x = .ref a ∧ y = .ref b ∧ SqL X.K H a xs ∧ SqL X.K H b xs ∧ (∀ v ∈ xs, ∃ p, v = V.ref p) ∧ Q (.bl false) H) := by
  intro pins s σ H x y v u Q I rx ry h
  obtain ⟨a, b, xs, rfl, rfl, ha, hb, hr, q⟩ := h
  cases rx
  cases ry
  obtain ⟨its, r, p1, _⟩ := I.list ha
  obtain ⟨its2, r2, p2, _⟩ := I.list hb
  obtain rfl := refs_eq hr r r2
  refine SeqAt.RcNeAt.lists (A := X.A) (e := fun _ => true) p1.isList p2.isList rfl (by omega) (fun j h1 h2 => SeqAt.EqAt.same _) X.prog X.w X.xe (EP X pins σ Q) ?_
  have : (!((List.range its.toArray.size).all (fun _ => true))) = false := by simp
  rw [this]
  exact ⟨.bl false, H, I, rfl, q⟩
end
section
variable {prog : Program} {w : World} {A : Around} {E : Value → Shared → Prop} {s : Shared} {K : PySem.W.Frag} {x C L f : Addr} {h₀ : Heap} {m : Str → Option Value} {ox : Obj} {od : Option Obj}
theorem fillsI_K {M : Model} {h : Heap} {cd : ClassData} {nm : String} {b : Bool} (X : K.In h) (hc : PySem.W.clsIn K C = some cd) (hm : cd.mro = [.ref C, .type "object"]) (h1 : PySem.W.findIn K (.ref C) (PySem.dunderI nm) = some none)
    (h2 : PySem.W.findIn K (.type "object") (PySem.dunderI nm) = some none) : PySem.W.Looks M h (fillsInplaceSlot (.ref C) nm b) false := by
  intro A Q E s k q
  unfold fillsInplaceSlot
  refine wpAny_bind ((PySem.W.looks_clsIn X hc).andThen (f := fun cd => pure cd.mro) .now A _ E s k ?_)
  rw [hm, List.anyM_cons]
  refine wpAny_bind (wpAny_bind (PySem.W.looks_findIn X h1 A _ E s k ?_))
  refine wpAny_pure ?_
  rw [if_neg Bool.false_ne_true, List.anyM_cons]
  refine wpAny_bind (wpAny_bind (PySem.W.looks_findIn X h2 A _ E s k ?_))
  refine wpAny_pure ?_
  rw [if_neg Bool.false_ne_true]
  exact wpAny_pure q
theorem iop_K {op : Operator} {b : Value} {cd : ClassData} {Q : Value → Shared → Prop} (F : PyProof.Rows.Fr h₀ L s.heap m) (X₀ : K.In h₀) (I : PySem.W.InstAt s.heap x ox C od) (hb : PySem.W.Looks (model prog w) s.heap (typeOf b) (.ref C)) (hcd : PySem.W.clsIn K C = some cd) (hm : cd.mro = [.ref C, .type "object"])
    (h1 : PySem.W.findIn K (.ref C) (PySem.dunderI op.info.2) = some none) (h2 : PySem.W.findIn K (.type "object") (PySem.dunderI op.info.2) = some none)
    (hs : PySem.W.findIn K (.ref C) (PySem.dunder op.info.2) = some (some (.ref f))) (hf : PySem.W.isFn K (.ref f) = true)
    (h : wpAny (model prog w) A (call (.ref f) [.ref x, b]) (PySem.W.CmpBack Q) E s) : wpAny (model prog w) A (inplaceOp op (.ref x) b) Q E s := by
  have X := X₀.keeps F.keep
  unfold inplaceOp
  refine wpAny_holding (wpAny_bind (I.type.here (wpAny_bind ((fillsI_K X hcd hm h1 h2).here ?_))))
  simp only [Bool.false_eq_true, if_false]
  refine wpAny_bind ?_
  unfold binaryOp1
  refine wpAny_bind (I.type.here (wpAny_bind (hb.here (wpAny_bind ((PySem.W.fills_K X hcd hm hs).here ?_)))))
  simp only [beq_self_eq_true, if_true]
  refine wpAny_bind (wpAny_pure ?_)
  simp only [Bool.and_false, Bool.false_eq_true, if_false, Bool.false_and]
  refine wpAny_bind (wpAny_pure ?_)
  simp only [Bool.false_eq_true, if_false]
  refine wpAny_bind (m := tryMethod (.ref x) _ b) ?_
  unfold tryMethod
  refine wpAny_bind (PySem.W.special_fn X I hs (beq_iff_eq.mp hf) (wpAny_mono h (fun v s' hv => ?_) fun _ _ e => e))
  cases v <;> first | exact hv.elim | exact wpAny_pure (wpAny_pure (wpAny_pure hv))
end
section
variable {X : Cx} {CX : CXT} {C f : Addr} {n : Nat} {fd : FuncData} {ps : List Str} {sp : Sp}
/-- x += y, two instances of the class, by its __add__ -/
theorem ip_addOwn {cd : ClassData} (F : FnOk X.prog X.w X.K X.mg X.base CX n f fd ps sp) (hs : PySem.W.findIn X.K (.ref C) "__add__" = some (some (.ref f))) (hcd : PySem.W.clsIn X.K C = some cd) (hm : cd.mro = [.ref C, .type "object"]) (h1 : PySem.W.findIn X.K (.ref C) "__iadd__" = some none)
    (h2 : PySem.W.findIn X.K (.type "object") "__iadd__" = some none) (hf : PySem.W.isFn X.K (.ref f) = true) (hr : Room n X.A) (hb : Binds X.K fd ps []) (hx : Passes CX X E0) :
    PIp X .Add (fun x y H Q => ∃ (a b dx dy : Addr) (fs gs : List (Str × V)), x = .ref a ∧ y = .ref b ∧ H a = some (.ins C dx fs) ∧ H b = some (.ins C dy gs) ∧ sp [.ref a, .ref b] H (fun v H' => ∃ c, v = .ref c ∧ Q (.ref c) H') E0) := by
  intro pins s σ H x y v u Q I rx ry h
  obtain ⟨a, b, dx, dy, fs, gs, rfl, rfl, ha, hb2, q⟩ := h
  cases rx
  cases ry
  obtain ⟨mA, J, _⟩ := ins_get I.hok ha
  obtain ⟨mB, J', _⟩ := ins_get I.hok hb2
  obtain ⟨od, J, _⟩ := J.look
  obtain ⟨od', J', _⟩ := J'.look
  obtain ⟨m, hF⟩ := I.fr
  have sb : Sub X n X.A := ⟨hr, rfl⟩
  refine iop_K (op := .Add) hF I.ok.mod.kin J J'.type hcd hm h1 h2 hs hf (run_sub (vs := [V.ref a, V.ref b]) F sb hb hx I (.cons rfl (.cons rfl .nil)) q fun v u H' s' I' rv hq => ?_)
  obtain ⟨c, rfl, hq⟩ := hq
  cases rv
  exact ⟨.ref c, H', I', rfl, hq⟩
end
end Lay
set_option Elab.async false
set_option linter.all false
set_option maxRecDepth 100000
set_option maxHeartbeats 4000000
namespace Lay
open PySem PySem.Spec PyProof.Rows L2
section
variable {X : Cx}
theorem pe_mono {e : Expr} {t t' : TE} (h : PE X e t) (m : ∀ σ H Q, t' σ H Q → t σ H Q) : PE X e t' := ⟨fun pins s σ H Q I q => h.run pins s σ H Q I (m σ H Q q)⟩
end
/-- a reading with a weaker wish -/
def clo (t : TE) : TE := fun σ H Q => ∃ R : VK, t σ H R ∧ ∀ v H1, R v H1 → Q v H1
def cloA (t : TA) : TA := fun σ H Q => ∃ R : List V → Hp → Prop, t σ H R ∧ ∀ v H1, R v H1 → Q v H1
section
variable {X : Cx} {e : Expr} {es : List Expr} {ta : TE} {t : TA}
theorem pe_clo (he : PE X e ta) : PE X e (clo ta) := ⟨fun pins s σ H Q I h => by
  obtain ⟨R, hR, m⟩ := h
  refine thn (he.run pins s σ H R I hR) fun v s' hv => ?_
  obtain ⟨x, H', I', r, q⟩ := hv
  exact ⟨x, H', I', r, m _ _ q⟩⟩
theorem pa_clo (ha : PA X es t) : PA X es (cloA t) := ⟨fun pos pins s σ H Q I h => by
  obtain ⟨R, hR, m⟩ := h
  refine thn (ha.run pos pins s σ H R I hR) fun v s' hv => ?_
  obtain ⟨x, H', I', r, q⟩ := hv
  exact ⟨x, H', I', r, m _ _ q⟩⟩
end
theorem made_same {x dx : Addr} {H H' : Hp} {o : HO} (hx : H x = none) (hd : H dx = none) (k : Kept x (upd (upd H dx (.own x)) x o) H') : Same H H' := fun b u e => k b u (ne_of_none e hx) (by rw [upd_ne (ne_of_none e hx), upd_ne (ne_of_none e hd)]; exact e)
theorem fresh_own {H : Hp} {p d : Addr} {o : HO} (np : H p = none) (ne : d ≠ p) : upd H d o p = none := by
  rw [upd_ne (Ne.symm ne)]
  exact np
section
variable {X : Cx} {CT : Addr}
theorem pe_fldX {e : Expr} {ta : TE} {f : Str} {pos : Pos} (he : PE X e ta) (c : Cls X.K CT) (nf : NoAttr X.K CT f) (hb : attributeBase e f X.env (eval e X.env) = eval e X.env := by rfl) :
    PE X (.Attribute e f pos) (fun σ H Q => ta σ H fun x H1 => ∃ p dx fs v, x = .ref p ∧ H1 p = some (.ins CT dx fs) ∧ fs.lookup f = some v ∧ Q v H1) := by
  refine pe_mono (pe_fld (pe_clo he) hb) fun σ H Q h => ⟨_, h, fun v H1 q => ?_⟩
  obtain ⟨p, dx, fs, y, rfl, hp, hl, q⟩ := q
  exact ⟨p, CT, dx, fs, y, rfl, hp, c, nf, hl, q⟩
end
end Lay
set_option Elab.async false
set_option linter.all false
set_option maxRecDepth 100000
set_option maxHeartbeats 4000000
set_option pp.maxSteps 1000
namespace Lay
open PySem PySem.Spec PyProof.Rows L2
theorem iteN {c : Bool} {A B : Prop} (h : c = false) (x : B) : if c = true then A else B := by
  subst h
  exact x
theorem iteY {c : Bool} {A B : Prop} (h : c = true) (x : A) : if c = true then A else B := by
  subst h
  exact x
theorem fitsN {n : Nat} (h : n ≤ 1000000) : n ≤ sizeLine := by rw [sizeLine_eq]; omega
theorem sum_few : ∀ {zs : List Str} {n : Nat}, (∀ z ∈ zs, z.length ≤ n) → (zs.map (·.length)).sum ≤ zs.length * n
  | [], _, _ => by simp
  | z :: zs, n, h => by
    have h1 := h z List.mem_cons_self
    have h2 := sum_few (zs := zs) fun y hy => h y (List.mem_cons_of_mem _ hy)
    rw [List.map_cons, List.sum_cons, List.length_cons, Nat.succ_mul]
    omega
theorem sjoin_le (sep : Str) : ∀ ts : List Str, (Str.join sep ts).length ≤ (ts.map (·.length)).sum + ts.length * sep.length
  | [] => by
    show (Str.join sep []).length ≤ _
    have : (Str.join sep []).length = 0 := rfl
    omega
  | [t] => by
    show t.length ≤ _
    rw [List.map_cons, List.sum_cons]
    omega
  | t :: u :: r => by
    have ih := sjoin_le sep (u :: r)
    show (t ++ sep ++ Str.join sep (u :: r)).length ≤ _
    rw [Str.length_append, Str.length_append, List.map_cons, List.sum_cons, List.length_cons, Nat.succ_mul]
    omega
theorem join_le (sep : Str) (ts : List Str) : (Txt.join sep ts).length ≤ (ts.map (·.length)).sum + ts.length * sep.length := by
  rw [TL.join_eq]
  exact sjoin_le sep ts
/-! ### the rows of a piece -/
def signS (d : PD) : Str := if d.left = true then Str.ofString "!" else Str.ofString ""
def headS (d : PD) : Str := ((Str.empty ++ signS d) ++ d.word) ++ Str.ofString "("
def tailS (d : PD) : Str := if d.behind.length = 0 then Str.ofString ")" else (Str.empty ++ Str.ofString ")  # ") ++ d.behind
def commaS (d : PD) : Str := if d.marked = true then Str.ofString "," else Str.ofString ""
def itemS (z : Str) : Str := ((Str.empty ++ Str.ofString "  ") ++ z) ++ Str.ofString ","
def lastS (d : PD) (z : Str) : Str := ((Str.empty ++ Str.ofString "  ") ++ z) ++ commaS d
def bodyS (d : PD) : List Str := if d.broken = true then headS d :: ((d.parts.dropLast.map itemS) ++ [lastS d (d.parts.getLastD Str.empty), tailS d])
  else [((headS d ++ Txt.join ", " d.parts) ++ commaS d) ++ tailS d]
def remarkS (d : PD) : List Str := if d.ahead.length = 0 then [] else [(Str.empty ++ Str.ofString "# ") ++ d.ahead]
def rowsS (d : PD) : List Str := List.replicate d.blanks.toNat (Str.ofString "") ++ (remarkS d ++ bodyS d)
def spText (K : PySem.W.Frag) (C : Addr) (g : PD → Str) : Sp := fun vs H Q _ => ∃ (p : Addr) (d : PD), vs = [.ref p] ∧ PieceAt K C H p d ∧ d.Ok ∧ d.parts.length ≤ 30 ∧ Q (.str (g d)) H
def spRowsOf (K : PySem.W.Frag) (C : Addr) (g : PD → List Str) : Sp := fun vs H Q _ => ∃ (p : Addr) (d : PD), vs = [.ref p] ∧ PieceAt K C H p d ∧ d.Ok ∧ d.parts.length ≤ 30 ∧ ∀ l H', Same H H' → H l = none → H' l = some (.lst ((g d).map V.str)) → Q (.ref l) H'
theorem headS_len {d : PD} (o : d.Ok) : (headS d).length ≤ 8 := by
  have h1 := nameB_len o.word
  have h2 : (signS d).length ≤ 1 := by
    unfold signS
    split <;> decide
  have h3 : (Str.ofString "(").length = 1 := by decide
  have h4 : Str.empty.length = 0 := by decide
  unfold headS
  rw [Str.length_append, Str.length_append, Str.length_append]
  omega
theorem tailS_len {d : PD} (o : d.Ok) : (tailS d).length ≤ 11 := by
  have h1 := remarkB_len o.behind
  have h3 : (Str.ofString ")  # ").length = 5 := by decide
  have h4 : Str.empty.length = 0 := by decide
  unfold tailS
  split
  · decide
  · rw [Str.length_append, Str.length_append]
    omega
theorem commaS_len {d : PD} : (commaS d).length ≤ 1 := by
  unfold commaS
  split <;> decide
section
variable {X : Cx}
theorem sl_tupS : SlR X (fun x lo hi H Q => ∃ a xs, x = .ref a ∧ SqT X.K H a xs ∧ ∀ p H', Same H H' → SqT X.K H' p (cutV xs lo hi) → Q (.ref p) H') := by
  intro pins s σ H x v vl vu lo hi sl Q I rx hs pl pu h
  obtain ⟨a, xs, rfl, hx, q⟩ := h
  refine sl_tupA pins s σ H _ v vl vu lo hi sl Q I rx hs pl pu ⟨a, xs, rfl, hx, fun w => ?_, fun _ p np => q p _ (Same.new np) (SqT.of upd_same)⟩
  refine q a H (Same.refl H) ?_
  unfold cutV
  rw [w.1, w.2, List.drop_zero, Nat.sub_zero, List.take_length]
  exact hx
end
abbrev sHead : Stmt := top 16
abbrev sTail : Stmt := top 17
abbrev sBody : Stmt := top 18
abbrev sRowsOf : Stmt := top 19
section
variable {P : Program} {w : World} {K : PySem.W.Frag} {mg : Str → Option Value} {base : Heap}
theorem scHead : FnScope ["piece", "sign"] ["piece"] (defScope sHead) := ⟨rfl, rfl, rfl, by decide +kernel, rfl, by decide +kernel, by decide +kernel⟩
theorem ok_head {f C : Addr} {fd : FuncData} (F : Fun K "head_of" "head_of" sHead f fd) (Z : PieceC K C) : FnOk P w K mg base CX0 1 f fd ["piece"] (spText K C headS) := by
  refine F.ok scHead (fun vs H Q E h => ?_) (fun cdv A outer s H vs Q E hr h => ?_)
  · obtain ⟨p, d, rfl, _⟩ := h
    rfl
  · obtain ⟨p, d, rfl, ⟨dx, t, hp, ht⟩, o, few, k⟩ := h
    refine ⟨_, (pss_cons (ps_set (i := 1) scHead.nd rfl (.inl rfl) (pe_ifExp (pt_val (pe_fld (pv 0) rfl)) pe_str pe_str))
      (pss_one (ps_ret (pe_joined (.cons (pe_fmt (pv 1)) (.cons (pe_fmt (pe_fld (pv 0) rfl)) (.cons pe_str .nil))))))), ?_⟩
    have hl := headS_len o
    have h1 := nameB_len o.word
    have h3 : (Str.ofString "(").length = 1 := by decide
    have h4 : Str.empty.length = 0 := by decide
    refine ⟨_, rfl, p, C, dx, _, _, rfl, hp, Z.cl, Z.left, rfl, d.left, rfl, ?_⟩
    by_cases q : d.left = true
    · refine iteY q ?_
      have e : headS d = ((Str.empty ++ Str.ofString "!") ++ d.word) ++ Str.ofString "(" := by
        unfold headS signS
        rw [if_pos q]
      rw [e] at k hl
      have l0 : (Str.ofString "!").length = 1 := by decide
      exact ⟨_, rfl, .inl ⟨_, rfl, fitsN (by omega), _, rfl, fitsN (by rw [Str.length_append]; omega), _, rfl, p, C, dx, _, _, rfl, hp, Z.cl, Z.word, rfl, .inl ⟨_, rfl, fitsN (by omega), _, rfl, fitsN (by rw [Str.length_append, Str.length_append]; omega), _, rfl, fitsN (by omega), k⟩⟩⟩
    · refine iteN (by simpa using q) ?_
      have e : headS d = ((Str.empty ++ Str.ofString "") ++ d.word) ++ Str.ofString "(" := by
        unfold headS signS
        rw [if_neg q]
      rw [e] at k hl
      have l0 : (Str.ofString "").length = 0 := by decide
      exact ⟨_, rfl, .inl ⟨_, rfl, fitsN (by omega), _, rfl, fitsN (by rw [Str.length_append]; omega), _, rfl, p, C, dx, _, _, rfl, hp, Z.cl, Z.word, rfl, .inl ⟨_, rfl, fitsN (by omega), _, rfl, fitsN (by rw [Str.length_append, Str.length_append]; omega), _, rfl, fitsN (by omega), k⟩⟩⟩
theorem scTail : FnScope ["piece"] ["piece"] (defScope sTail) := ⟨rfl, rfl, rfl, by decide +kernel, rfl, by decide +kernel, by decide +kernel⟩
theorem ok_tail {f C : Addr} {fd : FuncData} (F : Fun K "tail_of" "tail_of" sTail f fd) (Z : PieceC K C) : FnOk P w K mg base CX0 1 f fd ["piece"] (spText K C tailS) := by
  refine F.ok scTail (fun vs H Q E h => ?_) (fun cdv A outer s H vs Q E hr h => ?_)
  · obtain ⟨p, d, rfl, _⟩ := h
    rfl
  · obtain ⟨p, d, rfl, ⟨dx, t, hp, ht⟩, o, few, k⟩ := h
    refine ⟨_, pss_one (ps_ret (pe_ifExp (pt_truth (pe_fld (pv 0) rfl) (by intro _; rfl)) (pe_joined (.cons pe_str (.cons (pe_fmt (pe_fld (pv 0) rfl)) .nil))) pe_str)), ?_⟩
    have h1 := remarkB_len o.behind
    have h3 : (Str.ofString ")  # ").length = 5 := by decide
    have h4 : Str.empty.length = 0 := by decide
    refine ⟨_, rfl, p, C, dx, _, _, rfl, hp, Z.cl, Z.behind, rfl, _, ⟨fitsN (by omega), rfl⟩, ?_⟩
    by_cases q : d.behind.length = 0
    · refine iteN (by rw [q]; rfl) ?_
      have e : tailS d = Str.ofString ")" := by
        unfold tailS
        rw [if_pos q]
      rw [e] at k
      exact k
    · refine iteY (by simp; omega) ?_
      have e : tailS d = (Str.empty ++ Str.ofString ")  # ") ++ d.behind := by
        unfold tailS
        rw [if_neg q]
      rw [e] at k
      exact ⟨_, rfl, fitsN (by rw [Str.length_append]; omega), _, rfl, p, C, dx, _, _, rfl, hp, Z.cl, Z.behind, rfl, .inl ⟨_, rfl, fitsN (by omega), _, rfl, fitsN (by rw [Str.length_append, Str.length_append]; omega), k⟩⟩
end
end Lay
set_option Elab.async false
set_option linter.all false
set_option maxRecDepth 100000
set_option maxHeartbeats 4000000
set_option pp.maxSteps 1000
namespace Lay
open PySem PySem.Spec PyProof.Rows L2
def tJoin (ts : List TE) : TE := fun σ H Q => tJs ts Str.empty σ H fun out H1 => Q (.str out) H1
theorem pe_joinedN {X : Cx} {v1 v2 : Expr} {rest : List Expr} {ts : List TE} {pos : Pos} (h : PJ X (v1 :: v2 :: rest) ts) : PE X (.JoinedStr (v1 :: v2 :: rest) pos) (tJoin ts) := pe_joined h
theorem cut_last (xs : List V) : cutV xs none (some (-1)) = xs.dropLast := by
  unfold cutV
  have e : HT.sIx xs.length xs.length (some (-1)) = xs.length - 1 := by
    show (if (-1 : Int) < 0 then ((-1 : Int) + (xs.length : Int)).toNat else min (-1 : Int).toNat xs.length) = _
    rw [if_pos (by decide)]
    omega
  rw [HT.sIx_none, e, List.drop_zero, Nat.sub_zero, List.dropLast_eq_take]
theorem at_last {zs : List Str} (h : 0 < zs.length) : atI (zs.map V.str) (-1) = some (.str (zs.getLastD Str.empty)) := by
  have e : ixN (zs.map V.str).length (-1) = some (zs.length - 1) := by
    unfold ixN
    rw [List.length_map, if_neg (by decide), if_pos (by omega)]
    congr 1
    omega
  unfold atI
  rw [e]
  show (zs.map V.str)[zs.length - 1]? = _
  rw [List.getElem?_map, List.getLastD_eq_getLast?, List.getLast?_eq_getElem?]
  have hl : zs.length - 1 < zs.length := by omega
  rw [List.getElem?_eq_getElem hl]
  rfl
theorem rowsOf_len {d : PD} (o : d.Ok) (l : d.parts.length ≤ 30) : (bodyS d).length ≤ 40 := by
  unfold bodyS
  split
  · rw [List.length_cons, List.length_append, List.length_map, List.length_dropLast]
    show _ + 2 + 1 ≤ 40
    omega
  · show 1 ≤ 40
    decide
section
variable {P : Program} {w : World} {K : PySem.W.Frag} {mg : Str → Option Value} {base : Heap}
theorem scBody : FnScope ["piece", "comma", "upper", "last", "part"] ["piece"] (defScope sBody) := ⟨rfl, rfl, rfl, by decide +kernel, rfl, by decide +kernel, by decide +kernel⟩
theorem ok_body {f fH fT C : Addr} {fd dH dT : FuncData} (F : Fun K "body_rows" "body_rows" sBody f fd) (Z : PieceC K C)
    (GH : FnOk P w K mg base CX0 1 fH dH ["piece"] (spText K C headS)) (gH : mg "head_of" = some (.ref fH)) (kH : PySem.W.keepIn K (.ref fH) = true) (bH : Binds K dH ["piece"] [])
    (GT : FnOk P w K mg base CX0 1 fT dT ["piece"] (spText K C tailS)) (gT : mg "tail_of" = some (.ref fT)) (kT : PySem.W.keepIn K (.ref fT) = true) (bT : Binds K dT ["piece"] []) : FnOk P w K mg base CX0 2 f fd ["piece"] (spRowsOf K C bodyS) := by
  refine F.ok scBody (fun vs H Q E h => ?_) (fun cdv A outer s H vs Q E hr h => ?_)
  · obtain ⟨p, d, rfl, _⟩ := h
    rfl
  · obtain ⟨p, d, rfl, hP, o, few, k⟩ := h
    refine ⟨_, (C8.pss_cut (ps_set (i := 1) scBody.nd rfl (.inl rfl) (pe_ifExp (pt_val (pe_fld (pv 0) rfl)) pe_str pe_str))
      (pss_cons (ps_if (pt_not (pt_val (pe_fld (pv 0) rfl)))
        (pss_one (ps_ret (pe_lst (pa_cons (pe_op op_add_str (pe_op op_add_str (pe_op op_add_str (pe_call GH hr (by rfl) gH kH bH .nil pass0 (pa_cons (pv 0) pa_nil)) (pe_bm PySem.F.plainAttrs_str PySem.F.slot_str_join PySem.F.type_str_join mt_join pe_str (pa_cons (pe_fld (pv 0) rfl) pa_nil))) (pv 1)) (pe_call GT hr (by rfl) gT kT bT .nil pass0 (pa_cons (pv 0) pa_nil))) pa_nil))))
        pss_nil)
      (pss_cons (ps_setLc (i := 2) (own := [("part", 4)]) (g := gName 4) (tt := tYes) rfl scBody.nd rfl rfl (sw_true rfl rfl rfl (by decide +kernel)) (pi_tup (pe_slice sl_tupS (pe_fld (pv 0) rfl) po_none (po_some (pe_un un_neg pe_int)))) (blkOk_by (N := ["piece", "comma", "upper", "last", "part"]) (sc := defScope sBody) (by decide +kernel))
          (fun _ _ _ _ _ => pg_name (i := 4) scBody.nd rfl (Or.inl rfl)) (fun _ _ _ _ _ => pts_nil) (fun _ _ _ _ _ => pe_joinedN (.cons pe_str (.cons (pe_fmt (pv 4)) (.cons pe_str .nil)))))
      (pss_cons (ps_set (i := 3) scBody.nd rfl (.inl rfl) (pe_joined (.cons pe_str (.cons (pe_fmt (pe_ix ix_tup (pe_fld (pv 0) rfl) (pe_un un_neg pe_int) (fun _ _ => rfl))) (.cons (pe_fmt (pv 1)) .nil)))))
      (pss_one (ps_ret (pe_lst (pa_cons (pe_call GH hr (by rfl) gH kH bH .nil pass0 (pa_cons (pv 0) pa_nil)) (StX.pa_star (pv 2) (pa_cons (pv 3) (pa_cons (pe_call GT hr (by rfl) gT kT bT .nil pass0 (pa_cons (pv 0) pa_nil)) pa_nil))))))))))), ?_⟩
    obtain ⟨dx, t, hp, ht⟩ := id hP
    refine ⟨fun σ G => σ = [some (.ref p), some (.str (commaS d)), none, none, none] ∧ G = H, ?_, ?_⟩
    · refine ⟨_, rfl, p, C, dx, _, _, rfl, hp, Z.cl, Z.marked, rfl, d.marked, rfl, ?_⟩
      by_cases q : d.marked = true
      · refine iteY q ⟨?_, rfl⟩
        unfold commaS
        rw [if_pos q]
        rfl
      · refine iteN (by simpa using q) ⟨?_, rfl⟩
        unfold commaS
        rw [if_neg q]
        rfl
    · rintro σ G ⟨rfl, rfl⟩
      refine ⟨_, rfl, p, C, dx, _, _, rfl, hp, Z.cl, Z.broken, rfl, d.broken, rfl, ?_⟩
      have hH := headS_len o
      have hT := tailS_len o
      have hC := commaS_len (d := d)
      have j1 : (Str.ofString ", ").length = 2 := by decide
      have j2 : (Str.ofString "  ").length = 2 := by decide
      have j3 : (Str.ofString ",").length = 1 := by decide
      have j4 : Str.empty.length = 0 := by decide
      have hsum := sum_few (n := 6) fun z hz => nameB_len (o.parts z hz)
      have hjoin := join_le ", " d.parts
      rw [j1] at hjoin
      by_cases q : d.broken = true
      · refine iteN (by rw [q]; rfl) ?_
        have eb : bodyS d = headS d :: ((d.parts.dropLast.map itemS) ++ [lastS d (d.parts.getLastD Str.empty), tailS d]) := by
          unfold bodyS
          rw [if_pos q]
        rw [eb] at k
        refine ⟨_, rfl, p, C, dx, _, _, rfl, hp, Z.cl, Z.parts, rfl, 1, rfl, -1, rfl, t, _, rfl, ht, fun u G1 s1 hu => ?_⟩
        rw [cut_last, ← List.map_dropLast] at hu
        have ld : d.parts.dropLast.length ≤ 30 := by rw [List.length_dropLast]; omega
        refine ⟨u, rfl, ⟨_, hu⟩, fun D nD => lc_tup (K := K) (a := u) (xs := d.parts.dropLast.map V.str) (fun i G' => Same G1 G' ∧ G' D = some (.lst ((d.parts.dropLast.take i).map fun z => V.str (itemS z))))
          ⟨Same.new nD, upd_same⟩ (fun i G' _ q => SqT.same q.1 hu) ?_ ?_⟩
        · rintro i x G' hi ⟨sG, hD⟩
          obtain ⟨z, hz, rfl⟩ : ∃ z, d.parts.dropLast[i]? = some z ∧ V.str z = x := by
            rw [List.getElem?_map] at hi
            cases e : d.parts.dropLast[i]? with
            | none => rw [e] at hi; cases hi
            | some y => rw [e] at hi; exact ⟨y, rfl, Option.some.inj hi⟩
          have lz := nameB_len (o.parts z (List.dropLast_subset _ (List.mem_of_getElem? hz)))
          refine ⟨rfl, _, rfl, fitsN (by rw [Str.length_append]; omega), _, rfl, .inl ⟨_, rfl, fitsN (by omega), _, rfl, fitsN (by rw [Str.length_append, Str.length_append]; omega), _, rfl, fitsN (by rw [Str.length_append, Str.length_append, Str.length_append]; omega), _, hD, ?_, fun c w e => ?_, ?_⟩⟩
          · rw [List.length_map, List.length_take]
            exact Nat.lt_of_le_of_lt (Nat.min_le_right _ _) (Nat.lt_of_le_of_lt ld (by rw [sizeLine_eq]; decide))
          · rw [upd_ne (ne_of_none e nD)]
            exact sG _ _ e
          · rw [upd_same, List.take_succ, hz, List.map_append]
            rfl
        · rintro G2 ⟨s2, hD⟩
          rw [List.length_map, List.take_length] at hD
          have s12 := s1.trans s2
          have hp2 := s12 _ _ hp
          have ht2 := SqT.same s12 ht
          have hP2 := hP.same s12
          have lz : (d.parts.getLastD Str.empty).length ≤ 6 := by
            obtain ⟨a, ha⟩ : ∃ a, d.parts.getLast? = some a := by
              cases e : d.parts with
              | nil => have := o.some; rw [e] at this; exact absurd this (by decide)
              | cons x xs => exact ⟨_, List.getLast?_cons⟩
            rw [List.getLastD_eq_getLast?, ha]
            exact nameB_len (o.parts a (List.mem_of_getLast? ha))
          refine ⟨_, rfl, fitsN (by rw [Str.length_append]; omega), _, rfl, p, C, dx, _, _, rfl, hp2, Z.cl, Z.parts, rfl, 1, rfl, t, _, -1, _, rfl, rfl, ht2, at_last o.some, .inl ⟨_, rfl, fitsN (by omega), _, rfl, fitsN (by rw [Str.length_append, Str.length_append]; omega), ?_⟩⟩
          refine ⟨_, rfl, .inl ⟨_, rfl, fitsN (by omega), _, rfl, fitsN (by rw [Str.length_append, Str.length_append, Str.length_append]; omega), _, rfl, p, d, rfl, hP2, o, few, _, rfl, D, _, rfl, .inr (SqL.of hD), _, rfl, _, rfl, p, d, rfl, hP2, o, few, ?_, fun l nl => ?_⟩⟩
          · refine fitsN ?_
            rw [List.length_cons, List.length_append, List.length_map]
            show _ + 2 + 1 ≤ 1000000
            omega
          · refine k l _ (s12.trans (Same.new nl)) (s12.free nl) ?_
            rw [upd_same]
            simp [lastS]
            rfl
      · refine iteY (by simpa using q) ?_
        have eb : bodyS d = [((headS d ++ Txt.join ", " d.parts) ++ commaS d) ++ tailS d] := by
          unfold bodyS
          rw [if_neg q]
        rw [eb] at k
        refine ⟨_, rfl, p, d, rfl, hP, o, few, rfl, _, rfl, p, C, dx, _, _, rfl, hp, Z.cl, Z.parts, rfl, _, t, d.parts, rfl, rfl, .inr ht, by rw [j1]; omega, _, _, rfl, rfl, fitsN (by omega), _, rfl, _, _, rfl, rfl, fitsN (by rw [Str.length_append]; omega), _, rfl, p, d, rfl, hP, o, few, _, _, rfl, rfl, fitsN (by rw [Str.length_append, Str.length_append]; omega), (by show 1 ≤ sizeLine; decide), fun l nl => ?_⟩
        exact k l _ (Same.new nl) nl upd_same
end
end Lay
set_option Elab.async false
set_option linter.all false
set_option maxRecDepth 100000
set_option maxHeartbeats 4000000
set_option pp.maxSteps 1000
namespace Lay
open PySem PySem.Spec PyProof.Rows L2
theorem flat_one {α : Type} (x : α) : ∀ n : Nat, (List.replicate n [x]).flatten = List.replicate n x
  | 0 => rfl
  | n + 1 => by
    show [x] ++ (List.replicate n [x]).flatten = _
    rw [flat_one x n]
    rfl
theorem rowsS_len {d : PD} (o : d.Ok) (l : d.parts.length ≤ 30) : (rowsS d).length ≤ 43 := by
  have h1 := rowsOf_len o l
  have h2 := o.b3
  have h3 : (remarkS d).length ≤ 1 := by
    unfold remarkS
    split
    · exact Nat.zero_le _
    · exact Nat.le_refl _
  unfold rowsS
  rw [List.length_append, List.length_append, List.length_replicate]
  omega
section
variable {P : Program} {w : World} {K : PySem.W.Frag} {mg : Str → Option Value} {base : Heap}
theorem scRowsOf : FnScope ["piece", "blank", "remark"] ["piece"] (defScope sRowsOf) := ⟨rfl, rfl, rfl, by decide +kernel, rfl, by decide +kernel, by decide +kernel⟩
theorem ok_rowsOf {f fB C : Addr} {fd dB : FuncData} (F : Fun K "rows_of" "rows_of" sRowsOf f fd) (Z : PieceC K C)
    (GB : FnOk P w K mg base CX0 2 fB dB ["piece"] (spRowsOf K C bodyS)) (gB : mg "body_rows" = some (.ref fB)) (kB : PySem.W.keepIn K (.ref fB) = true) (bB : Binds K dB ["piece"] []) : FnOk P w K mg base CX0 3 f fd ["piece"] (spRowsOf K C rowsS) := by
  refine F.ok scRowsOf (fun vs H Q E h => ?_) (fun cdv A outer s H vs Q E hr h => ?_)
  · obtain ⟨p, d, rfl, _⟩ := h
    rfl
  · obtain ⟨p, d, rfl, hP, o, few, k⟩ := h
    refine ⟨_, (pss_cons (ps_set (i := 1) scRowsOf.nd rfl (.inl rfl) (pe_op op_rep (pe_lst (pa_cons pe_str pa_nil)) (pe_fld (pv 0) rfl)))
      (C8.pss_cut (ps_set (i := 2) scRowsOf.nd rfl (.inl rfl) (pe_ifExp (pt_truth (pe_fld (pv 0) rfl) (by intro _; rfl)) (pe_lst (pa_cons (pe_joined (.cons pe_str (.cons (pe_fmt (pe_fld (pv 0) rfl)) .nil))) pa_nil)) (pe_lst pa_nil)))
      (pss_one (ps_ret (pe_lst (StX.pa_star (pv 1) (StX.pa_star (pv 2) (StX.pa_star (pe_call GB hr (by rfl) gB kB bB .nil pass0 (pa_cons (pv 0) pa_nil)) pa_nil)))))))), ?_⟩
    obtain ⟨dx, t, hp, ht⟩ := id hP
    have j2 : (Str.ofString "# ").length = 2 := by decide
    have j4 : Str.empty.length = 0 := by decide
    have la := remarkB_len o.ahead
    have b0 := o.b0
    have b3 := o.b3
    refine ⟨(by show 1 ≤ sizeLine; decide), fun l0 n0 => ?_⟩
    have s0 := Same.new n0 (o := .lst [.str ""])
    refine ⟨_, rfl, p, C, dx, _, _, rfl, s0 _ _ hp, Z.cl, Z.blanks, rfl, l0, d.blanks, _, rfl, rfl, upd_same, by omega, by omega, fitsN (by show 1 * d.blanks.toNat ≤ 1000000; omega), fun l1 n1 => ?_⟩
    rw [flat_one]
    have s1 := Same.new n1 (o := .lst (List.replicate d.blanks.toNat (V.str "")))
    have h1 : upd (upd H l0 (.lst [.str ""])) l1 (.lst (List.replicate d.blanks.toNat (V.str ""))) l1 = some (.lst (List.replicate d.blanks.toNat (V.str ""))) := upd_same
    have s01 := s0.trans s1
    generalize upd (upd H l0 (.lst [.str ""])) l1 (.lst (List.replicate d.blanks.toNat (V.str ""))) = G at *
    refine ⟨fun σ G' => ∃ l2, σ = [some (.ref p), some (.ref l1), some (.ref l2)] ∧ Same G G' ∧ G' l2 = some (.lst ((remarkS d).map V.str)), ?_, ?_⟩
    · refine ⟨_, rfl, p, C, dx, _, _, rfl, s01 _ _ hp, Z.cl, Z.ahead, rfl, _, ⟨fitsN (by omega), rfl⟩, ?_⟩
      by_cases q : d.ahead.length = 0
      · refine iteN (by rw [q]; rfl) ⟨Nat.zero_le _, fun l2 n2 => ⟨l2, rfl, Same.new n2, ?_⟩⟩
        unfold remarkS
        rw [if_pos q]
        exact upd_same
      · refine iteY (by simp; omega) ?_
        refine ⟨_, rfl, fitsN (by rw [Str.length_append]; omega), _, rfl, p, C, dx, _, _, rfl, s01 _ _ hp, Z.cl, Z.ahead, rfl, .inl ⟨_, rfl, fitsN (by omega), _, rfl, fitsN (by rw [Str.length_append, Str.length_append]; omega), ⟨(by show 1 ≤ sizeLine; decide), fun l2 n2 => ⟨l2, rfl, Same.new n2, ?_⟩⟩⟩⟩
        unfold remarkS
        rw [if_neg q]
        exact upd_same
    · rintro σ G' ⟨l2, rfl, s2, h2⟩
      have s02 := s01.trans s2
      refine ⟨_, rfl, l1, _, rfl, .inr (SqL.of (s2 _ _ h1)), _, rfl, l2, _, rfl, .inr (SqL.of h2), _, rfl, p, d, rfl, hP.same s02, o, few, fun l3 G3 s3 n3 h3 => ⟨l3, _, rfl, .inr (SqL.of h3), ?_, fun l4 n4 => ?_⟩⟩
      · have hh := rowsS_len o few
        unfold rowsS at hh
        refine fitsN ?_
        rw [List.append_nil, List.length_append, List.length_append, List.length_replicate, List.length_map, List.length_map]
        rw [List.length_append, List.length_append, List.length_replicate] at hh
        omega
      · refine k l4 _ ((s02.trans s3).trans (Same.new n4)) ((s02.trans s3).free n4) ?_
        rw [upd_same]
        unfold rowsS
        rw [List.map_append, List.map_append, List.map_replicate, List.append_nil]
end
end Lay
set_option Elab.async false
set_option linter.all false
set_option maxRecDepth 100000
set_option maxHeartbeats 4000000
set_option pp.maxSteps 1000
namespace Lay
open PySem L2
theorem fits {n : Nat} (h : n ≤ 1000) : n ≤ sizeLine := fitsN (by omega)
theorem small1000 {n : Nat} (h : n < 1000) : n < sizeLine := Nat.lt_of_lt_of_le h (fitsN (by decide))
theorem SqL.same {K : PySem.W.Frag} {H H' : Hp} {a : Addr} {xs : List V} (e : Same H H') (h : SqL K H a xs) : SqL K H' a xs := by
  rcases h with (h | ⟨o, h⟩) | h
  · exact .inl (.inl (e _ _ h))
  · exact .inl (.inr ⟨o, e _ _ h⟩)
  · exact .inr h
/-- a tuple that is tracked, or a written one -/
def TupG (K : PySem.W.Frag) (H : Hp) (a : Addr) (xs : List V) : Prop := H a = some (.tup xs) ∨ ∃ (o : Obj) (its : Array Value) (n : Nat), K.lookup a = some o ∧ o.cls = .type "tuple" ∧ o.data = .seq its n ∧ its.size ≤ sizeLine ∧ Vals xs its.toList
theorem TupG.sqT {K : PySem.W.Frag} {H : Hp} {a : Addr} {xs : List V} (h : TupG K H a xs) : SqT K H a xs := by
  rcases h with h | h
  · exact SqT.of h
  · exact .inr h
theorem TupG.same {K : PySem.W.Frag} {H H' : Hp} {a : Addr} {xs : List V} (s : Same H H') (h : TupG K H a xs) : TupG K H' a xs := h.imp (s _ _) id
theorem TupG.put_ins {K : PySem.W.Frag} {H : Hp} {a p C dx : Addr} {fs : List (Str × V)} {o : HO} {xs : List V} (h : TupG K H a xs) (hp : H p = some (.ins C dx fs)) : TupG K (upd H p o) a xs := by
  rcases h with h | h
  · exact .inl (by rw [upd_ne (ne_of h hp (fun z => nomatch z))]; exact h)
  · exact .inr h
theorem TupG.seq {K : PySem.W.Frag} {H : Hp} {a : Addr} {xs : List V} (h : TupG K H a xs) : IsSeq K H (.ref a) true := by
  rcases h with h | ⟨o, its, n, h1, h2, _⟩
  · exact SqX.seq (.inr h)
  · exact ⟨_, .kTuple h1 h2, kitAny_lt (b := false) (c := true) (kit_ty (by decide +kernel)) (kit_ty (by decide +kernel))⟩
/-- a list, or any tuple (the written ones, too) -/
def SqG (K : PySem.W.Frag) (H : Hp) (a : Addr) (xs : List V) : Prop := H a = some (.lst xs) ∨ TupG K H a xs
theorem SqG.same {K : PySem.W.Frag} {H H' : Hp} {a : Addr} {xs : List V} (s : Same H H') (h : SqG K H a xs) : SqG K H' a xs := h.imp (s _ _) fun q => q.same s
theorem SqG.seq {K : PySem.W.Frag} {H : Hp} {a : Addr} {xs : List V} (h : SqG K H a xs) : IsSeq K H (.ref a) true := by
  rcases h with h | h
  · exact SqX.seq (.inl h)
  · exact h.seq
theorem SqG.of {K : PySem.W.Frag} {H : Hp} {a : Addr} {xs : List V} (h : SqX K H a xs) : SqG K H a xs := h.imp id .inl
section
variable {X : Cx}
theorem call_tupleG : CallR X (.type "tuple") (fun xs H Q => ∃ a ys, xs = [.ref a] ∧ SqG X.K H a ys ∧ ∀ l H', Same H H' → TupG X.K H' l ys → Q (.ref l) H') := by
  intro pins s σ H xs us Q I r h
  obtain ⟨a, ys, rfl, hs, q⟩ := h
  refine call_tuple_of pins s σ H _ us Q I r ⟨a, ys, rfl, ?_⟩
  rcases hs with hs | hs
  · exact .inl ⟨SqL.of hs, fun l nl => q l _ (Same.new nl) (.inl upd_same)⟩
  · exact .inr ⟨hs.sqT, q a H (Same.refl H) hs⟩
end
structure ClsI (K : PySem.W.Frag) (C : Addr) : Prop where
  cl : Cls K C
  ha : PySem.W.findIn K (.ref C) "__class__" = some (some (.builtin "object.__class__"))
  hn : PySem.W.specialIn K (.builtin "object.__class__") "__get__" = some (some (.builtin "getset_descriptor.__get__"))
  htk : PySem.W.takesIn K (.builtin "object.__class__") = some true
  hm : PySem.W.mroIn K C (.type "object") = some true
theorem ClsI.at {K : PySem.W.Frag} {C a dx : Addr} {H : Hp} {fs : List (Str × V)} (c : ClsI K C) (h : H a = some (.ins C dx fs)) : TyX K H (.ref a) (.ref C) := .base (.ins h c.cl c.ha c.hn c.htk c.hm)
theorem kit_same {K : PySem.W.Frag} {C : Addr} : PySem.W.kitOne K (.ref C) (.ref C) = some true := by
  unfold PySem.W.kitOne
  rw [if_pos (by simp)]
section
variable {X : Cx}
theorem op_catG : OpR X (binaryOp .Add) (fun x y H Q => ∃ a b xs ys, x = .ref a ∧ y = .ref b ∧ TupG X.K H a xs ∧ TupG X.K H b ys ∧ xs.length + ys.length ≤ 1000 ∧ ∀ p H', Same H H' → TupG X.K H' p (xs ++ ys) → Q (.ref p) H') := by
  intro pins s σ H x y v u Q I rx ry h
  obtain ⟨a, b, xs, ys, rfl, rfl, ha, hb, hl, q⟩ := h
  refine op_catA pins s σ H _ _ v u Q I rx ry ⟨a, b, xs, ys, rfl, rfl, ha.sqT, hb.sqT, fits hl, fun e => ?_, fun _ e => ?_, fun _ _ p np => q p _ (Same.new np) (.inl upd_same)⟩
  · subst e
    exact q b H (Same.refl H) hb
  · subst e
    exact q a H (Same.refl H) (by rw [List.append_nil]; exact ha)
end

/-- pieces, one by one -/
def PcsAt (K : PySem.W.Frag) (C : Addr) (H : Hp) (xs : List V) (ds : List PD) : Prop := xs.length = ds.length ∧ (∀ d ∈ ds, d.Ok ∧ d.parts.length ≤ 30) ∧ ∀ (i : Nat) (x : V) (d : PD), xs[i]? = some x → ds[i]? = some d → ∃ p, x = .ref p ∧ PieceAt K C H p d
theorem PcsAt.same {K : PySem.W.Frag} {C : Addr} {H H' : Hp} {xs : List V} {ds : List PD} (s : Same H H') (h : PcsAt K C H xs ds) : PcsAt K C H' xs ds :=
  ⟨h.1, h.2.1, fun i x d hx hd => by
    obtain ⟨p, e, hp⟩ := h.2.2 i x d hx hd
    exact ⟨p, e, hp.same s⟩⟩
theorem PieceAt.isP {K : PySem.W.Frag} {C p : Addr} {H : Hp} {d : PD} (c : ClsI K C) (h : PieceAt K C H p d) : IsP K C H (.ref p) true := by
  obtain ⟨dx, t, h1, h2⟩ := h
  exact ⟨_, c.at h1, kit_same⟩
theorem PcsAt.isP {K : PySem.W.Frag} {C : Addr} {H : Hp} {xs : List V} {ds : List PD} (c : ClsI K C) (h : PcsAt K C H xs ds) : ∀ v ∈ xs, IsP K C H v true := fun v hv => by
  obtain ⟨i, hi, e⟩ := List.mem_iff_getElem.mp hv
  obtain ⟨p, rfl, hp⟩ := h.2.2 i v (ds[i]'(by rw [← h.1]; exact hi)) (by rw [List.getElem?_eq_getElem hi, e]) (List.getElem?_eq_getElem _)
  exact hp.isP c
theorem PcsAt.append {K : PySem.W.Frag} {C : Addr} {H : Hp} {xs ys : List V} {ds es : List PD} (h : PcsAt K C H xs ds) (k : PcsAt K C H ys es) : PcsAt K C H (xs ++ ys) (ds ++ es) := by
  refine ⟨by rw [List.length_append, List.length_append, h.1, k.1], fun d hd => (List.mem_append.mp hd).elim (h.2.1 d) (k.2.1 d), fun i x d hx hd => ?_⟩
  rcases Nat.lt_or_ge i xs.length with l | l
  · rw [List.getElem?_append_left l] at hx
    rw [List.getElem?_append_left (by rw [← h.1]; exact l)] at hd
    exact h.2.2 i x d hx hd
  · rw [List.getElem?_append_right l] at hx
    rw [List.getElem?_append_right (by rw [← h.1]; exact l), ← h.1] at hd
    exact k.2.2 _ x d hx hd
theorem PcsAt.nil {K : PySem.W.Frag} {C : Addr} {H : Hp} : PcsAt K C H [] [] := ⟨rfl, fun d h => (List.not_mem_nil h).elim, fun i x d h _ => by cases h⟩
def progF (t : Addr) : List (Str × V) := putF "pieces" (.ref t) []
/-- at p a program with the tuple t of pieces -/
def ProgT (K : PySem.W.Frag) (C CP : Addr) (H : Hp) (p t : Addr) (xs : List V) (ds : List PD) : Prop := ∃ dx, H p = some (.ins CP dx (progF t)) ∧ TupG K H t xs ∧ PcsAt K C H xs ds ∧ ds.length ≤ 100
theorem ProgT.same {K : PySem.W.Frag} {C CP : Addr} {H H' : Hp} {p t : Addr} {xs : List V} {ds : List PD} (s : Same H H') (h : ProgT K C CP H p t xs ds) : ProgT K C CP H' p t xs ds := by
  obtain ⟨dx, h1, h2, h3, h4⟩ := h
  exact ⟨dx, s _ _ h1, h2.same s, h3.same s, h4⟩
def spCheckG (K : PySem.W.Frag) (C : Addr) : Sp := fun vs H Q _ => ∃ a xs, vs = [.ref a] ∧ SqG K H a xs ∧ xs.length ≤ 1000 ∧ (∀ v ∈ xs, IsP K C H v true) ∧ ∀ H', Same H H' → Q .non H'
def spProgG (K : PySem.W.Frag) (C CP : Addr) : Sp := fun vs H Q _ => ∃ (p dx a : Addr) (xs : List V), vs = [.ref p, .ref a] ∧ H p = some (.ins CP dx []) ∧ SqG K H a xs ∧ xs.length ≤ 1000 ∧ (∀ v ∈ xs, IsP K C H v true) ∧
  ∀ H' t, TupG K H' t xs → Kept p H H' → H' p = some (.ins CP dx (progF t)) → Q .non H'
section
variable {P : Program} {w : World} {K : PySem.W.Frag} {mg : Str → Option Value} {base : Heap}
theorem ok_checkG {f fS C : Addr} {fd fdS : FuncData} (F : Fun K "check_pieces" "check_pieces" sCheck f fd) (T : TxtK mg) (GS : FnOk P w K mg base CX0 1 fS fdS ["value"] (spSeq K)) (gS : mg "is_sequence" = some (.ref fS)) (kS : PySem.W.keepIn K (.ref fS) = true) (bS : Binds K fdS ["value"] [])
    (gP : mg "Piece" = some (.ref C)) : FnOk P w K mg base CX0 2 f fd ["value"] (spCheckG K C) := by
  refine F.ok scCheck (fun vs H Q E h => ?_) (fun cdv A outer s H vs Q E hr h => ?_)
  · obtain ⟨a, xs, rfl, _⟩ := h
    rfl
  · obtain ⟨a, xs, rfl, hx, hl, hi, k⟩ := h
    refine ⟨_, (pss_cons (ps_if (pt_not (pt_val (pe_call GS hr (by rfl) gS kS bS .nil pass0 (pa_cons (pv 0) pa_nil)))) pss_never pss_nil)
    (pss_one (ps_for PassesOwn.never rfl (pi_enum2 (by rfl) T.enumerate (pa_cons (pv 0) pa_nil)) (pg_tup rfl (pgs_cons (pg_name (i := 1) scCheck.nd rfl (.inl rfl)) (pgs_cons (pg_name (i := 2) scCheck.nd rfl (.inl rfl)) pgs_nil)))
      (pss_one (ps_if (pt_not (pt_val (pe_callB call_isi (by rfl) T.isinstance (by decide +kernel) (pa_cons (pv 2) (pa_cons (pe_glob (v := .ref C) (by rfl) gP rfl) pa_nil))))) pss_never pss_nil))))), ?_⟩
    refine ⟨_, rfl, _, true, rfl, hx.seq, fun H1 s1 => ⟨_, rfl, ?_⟩⟩
    rcases hx with hx | hx
    · refine ⟨_, rfl, a, xs, rfl, .inl ⟨SqL.of (s1 _ _ hx), for_it walk_enum (fun i σ G => (∃ x1 x2, σ = [some (.ref a), x1, x2]) ∧ Same H G) ⟨⟨_, _, rfl⟩, s1⟩ (fun i σ G _ q => SqL.of (q.2 _ _ hx)) ?_ ?_⟩⟩
      · rintro i x σ G G' hi' ⟨⟨x1, x2, rfl⟩, sG⟩ ⟨T0, u, v, rfl, hT, rfl, e1, e2⟩
        cases e1
        have e2 : xs[i]? = some v := e2
        have sT := Same.new hT (o := .tup [.int (i : Nat), v])
        obtain ⟨t, ty, et⟩ := ((hi v (List.mem_of_getElem? e2)).same sG).same sT
        exact ⟨T0, _, rfl, SqT.of upd_same, rfl, _, _, rfl, _, _, rfl, rfl, _, rfl, _, _, _, _, _, rfl, .own _, ty, et, _, rfl, ⟨_, _, rfl⟩, sG.trans sT⟩
      · rintro σ G ⟨_, sG⟩
        exact k G sG
    · refine ⟨_, rfl, a, xs, rfl, .inr ⟨(hx.same s1).sqT, for_it walk_enumT (fun i σ G => (∃ x1 x2, σ = [some (.ref a), x1, x2]) ∧ Same H G) ⟨⟨_, _, rfl⟩, s1⟩ (fun i σ G _ q => (hx.same q.2).sqT) ?_ ?_⟩⟩
      · rintro i x σ G G' hi' ⟨⟨x1, x2, rfl⟩, sG⟩ ⟨T0, u, v, rfl, hT, rfl, e1, e2⟩
        cases e1
        have e2 : xs[i]? = some v := e2
        have sT := Same.new hT (o := .tup [.int (i : Nat), v])
        obtain ⟨t, ty, et⟩ := ((hi v (List.mem_of_getElem? e2)).same sG).same sT
        exact ⟨T0, _, rfl, SqT.of upd_same, rfl, _, _, rfl, _, _, rfl, rfl, _, rfl, _, _, _, _, _, rfl, .own _, ty, et, _, rfl, ⟨_, _, rfl⟩, sG.trans sT⟩
      · rintro σ G ⟨_, sG⟩
        exact k G sG
theorem ok_progG {f fC C CP : Addr} {fd fdC : FuncData} {dvs : List V} (F : FunD K "__init__" "Program.__init__" (defArgs sProgI) (defBody sProgI) (defScope sProgI) dvs [] f fd) (T : TxtK mg) (Z : ProgC K CP)
    (GC : FnOk P w K mg base CX0 2 fC fdC ["value"] (spCheckG K C)) (gC : mg "check_pieces" = some (.ref fC)) (kC : PySem.W.keepIn K (.ref fC) = true) (bC : Binds K fdC ["value"] []) : FnOk P w K mg base CX0 3 f fd ["self", "pieces"] (spProgG K C CP) := by
  refine F.ok scProgI (fun vs H Q E h => ?_) (fun cdv A outer s H vs Q E hr h => ?_)
  · obtain ⟨p, dx, a, xs, rfl, _⟩ := h
    rfl
  · obtain ⟨p, dx, a, xs, rfl, hp, hx, hl, hi, k⟩ := h
    refine ⟨_, (pss_cons (ps_expr (pe_call GC hr (by rfl) gC kC bC .nil pass0 (pa_cons (pv 1) pa_nil)))
      (pss_one (ps_fld (pv 0) (pe_callTy call_tupleG (by rfl) T.tuple (by decide +kernel) (pa_cons (pv 1) pa_nil)) rfl))), ?_⟩
    refine ⟨_, rfl, a, xs, rfl, hx, hl, hi, fun H1 s1 => ⟨_, rfl, a, xs, rfl, hx.same s1, fun l H2 s2 hl2 => ⟨_, rfl, p, CP, dx, _, rfl, s2 _ _ (s1 _ _ hp), Z.cl, Z.pieces, (by show 0 < 1000; decide), ?_⟩⟩⟩
    exact k _ l (hl2.put_ins (s2 _ _ (s1 _ _ hp))) ((Kept.of_same (s1.trans s2)).trans Kept.box) upd_same
end
end Lay
set_option Elab.async false
set_option linter.all false
set_option maxRecDepth 100000
set_option maxHeartbeats 4000000
set_option pp.maxSteps 1000
namespace Lay
open PySem PySem.Spec PyProof.Rows L2
theorem pi_listK {X : Cx} {K : PySem.W.Frag} {tg l : Expr} {tl : TE} (hK : X.K = K) (hl : PE X l tl) : PI X tg l (iList K tl) := by
  subst hK
  exact pi_list hl
theorem it_tup {K : PySem.W.Frag} {a : Addr} {xs : List V} {H0 : Hp} {Qd : Hp → Prop} {B : V → Hp → (Hp → Prop) → Prop} (Pv : Nat → Hp → Prop) (h0 : Pv 0 H0) (hl : ∀ i H, i ≤ xs.length → Pv i H → SqT K H a xs)
    (hs : ∀ i x H, xs[i]? = some x → Pv i H → B x H (Pv (i + 1))) (hd : ∀ H, Pv xs.length H → Qd H) :
    ∃ W : Nat → Nat → Hp → Prop, (∃ m, W 0 m H0) ∧ ∀ i m H, W i m H →
      ((Itt K a).stop i H ∧ Qd H) ∨ ((Itt K a).go i H ∧ ∃ Nx : Hp → Prop, (∀ H', Nx H' → ∃ m', m' < m ∧ W (i + 1) m' H') ∧ ∀ x H', (Itt K a).yld i H x H' → B x H' Nx) := by
  refine ⟨fun i m H => m = xs.length - i ∧ i ≤ xs.length ∧ Pv i H, ⟨xs.length, by simp, Nat.zero_le _, h0⟩, ?_⟩
  rintro i m H ⟨rfl, hi, p⟩
  have q := hl i H hi p
  by_cases hlt : i < xs.length
  · refine .inr ⟨⟨xs, xs[i], q, by simp [hlt]⟩, Pv (i + 1), fun H' p' => ⟨xs.length - (i + 1), by omega, rfl, hlt, p'⟩, fun x H' y => ?_⟩
    obtain ⟨e, y⟩ := y
    subst e
    exact hs i x H' (y xs q) p
  · have e : i = xs.length := by omega
    subst e
    exact .inl ⟨⟨xs, q, Nat.le_refl _⟩, hd H p⟩
theorem it_lst {K : PySem.W.Frag} {a : Addr} {xs : List V} {H0 : Hp} {Qd : Hp → Prop} {B : V → Hp → (Hp → Prop) → Prop} (Pv : Nat → Hp → Prop) (h0 : Pv 0 H0) (hl : ∀ i H, i ≤ xs.length → Pv i H → SqL K H a xs)
    (hs : ∀ i x H, xs[i]? = some x → Pv i H → B x H (Pv (i + 1))) (hd : ∀ H, Pv xs.length H → Qd H) :
    ∃ W : Nat → Nat → Hp → Prop, (∃ m, W 0 m H0) ∧ ∀ i m H, W i m H →
      ((Itl K a).stop i H ∧ Qd H) ∨ ((Itl K a).go i H ∧ ∃ Nx : Hp → Prop, (∀ H', Nx H' → ∃ m', m' < m ∧ W (i + 1) m' H') ∧ ∀ x H', (Itl K a).yld i H x H' → B x H' Nx) := by
  refine ⟨fun i m H => m = xs.length - i ∧ i ≤ xs.length ∧ Pv i H, ⟨xs.length, by simp, Nat.zero_le _, h0⟩, ?_⟩
  rintro i m H ⟨rfl, hi, p⟩
  have q := hl i H hi p
  by_cases hlt : i < xs.length
  · refine .inr ⟨⟨xs, xs[i], q, by simp [hlt]⟩, Pv (i + 1), fun H' p' => ⟨xs.length - (i + 1), by omega, rfl, hlt, p'⟩, fun x H' y => ?_⟩
    obtain ⟨e, y⟩ := y
    subst e
    exact hs i x H' (y xs q) p
  · have e : i = xs.length := by omega
    subst e
    exact .inl ⟨⟨xs, q, Nat.le_refl _⟩, hd H p⟩
def progRows (ds : List PD) : List Str := (ds.map rowsS).flatten
def progText (ds : List PD) : Str := Txt.join "\n" (progRows ds)
theorem progRows_take {ds : List PD} {i : Nat} {d : PD} (h : ds[i]? = some d) : progRows (ds.take (i + 1)) = progRows (ds.take i) ++ rowsS d := by
  unfold progRows
  rw [List.take_succ, h, List.map_append, List.flatten_append]
  simp
theorem progRows_len : ∀ {ds : List PD}, (∀ d ∈ ds, d.Ok ∧ d.parts.length ≤ 30) → (progRows ds).length ≤ 43 * ds.length
  | [], _ => Nat.zero_le _
  | d :: ds, h => by
    have h1 := rowsS_len (h d List.mem_cons_self).1 (h d List.mem_cons_self).2
    have h2 := progRows_len (ds := ds) fun e he => h e (List.mem_cons_of_mem _ he)
    unfold progRows at h2 ⊢
    rw [List.map_cons, List.flatten_cons, List.length_append, List.length_cons]
    omega
theorem bodyS_few {d : PD} (o : d.Ok) (l : d.parts.length ≤ 30) : ∀ z ∈ bodyS d, z.length ≤ 300 := by
  have hH := headS_len o
  have hT := tailS_len o
  have hC := commaS_len (d := d)
  have j1 : (Str.ofString ", ").length = 2 := by decide
  have j2 : (Str.ofString "  ").length = 2 := by decide
  have j3 : (Str.ofString ",").length = 1 := by decide
  have j4 : Str.empty.length = 0 := by decide
  have hsum := sum_few (n := 6) fun z hz => nameB_len (o.parts z hz)
  have hjoin := join_le ", " d.parts
  rw [j1] at hjoin
  intro z hz
  unfold bodyS at hz
  split at hz
  · simp only [List.mem_cons, List.mem_append, List.mem_map, List.not_mem_nil, or_false] at hz
    rcases hz with rfl | ⟨y, hy, rfl⟩ | rfl | rfl
    · omega
    · have := nameB_len (o.parts y (List.dropLast_subset _ hy))
      unfold itemS
      rw [Str.length_append, Str.length_append, Str.length_append]
      omega
    · have lz : (d.parts.getLastD Str.empty).length ≤ 6 := by
        obtain ⟨a, ha⟩ : ∃ a, d.parts.getLast? = some a := by
          cases e : d.parts with
          | nil => have := o.some; rw [e] at this; exact absurd this (by decide)
          | cons x xs => exact ⟨_, List.getLast?_cons⟩
        rw [List.getLastD_eq_getLast?, ha]
        exact nameB_len (o.parts a (List.mem_of_getLast? ha))
      unfold lastS
      rw [Str.length_append, Str.length_append, Str.length_append]
      omega
    · omega
  · rw [List.mem_singleton] at hz
    subst hz
    rw [Str.length_append, Str.length_append, Str.length_append]
    omega
theorem rowsS_few {d : PD} (o : d.Ok) (l : d.parts.length ≤ 30) : ∀ z ∈ rowsS d, z.length ≤ 300 := by
  intro z hz
  unfold rowsS at hz
  rcases List.mem_append.mp hz with h | h
  · rw [(List.mem_replicate.mp h).2]
    decide
  · rcases List.mem_append.mp h with h | h
    · unfold remarkS at h
      split at h
      · exact (List.not_mem_nil h).elim
      · rw [List.mem_singleton] at h
        subst h
        have j2 : (Str.ofString "# ").length = 2 := by decide
        have j4 : Str.empty.length = 0 := by decide
        have la := remarkB_len o.ahead
        rw [Str.length_append, Str.length_append]
        omega
    · exact bodyS_few o l z h
theorem progRows_few {ds : List PD} (h : ∀ d ∈ ds, d.Ok ∧ d.parts.length ≤ 30) : ∀ z ∈ progRows ds, z.length ≤ 300 := by
  intro z hz
  obtain ⟨l, hl, hz⟩ := List.mem_flatten.mp hz
  obtain ⟨d, hd, rfl⟩ := List.mem_map.mp hl
  exact rowsS_few (h d hd).1 (h d hd).2 z hz
abbrev sStrP : Stmt := inClass (top 33) 7
def spStrP (K : PySem.W.Frag) (C CP : Addr) : Sp := fun vs H Q _ => ∃ (p t : Addr) (xs : List V) (ds : List PD), vs = [.ref p] ∧ ProgT K C CP H p t xs ds ∧ ∀ H', Same H H' → Q (.str (progText ds)) H'
section
variable {P : Program} {w : World} {K : PySem.W.Frag} {mg : Str → Option Value} {base : Heap}
theorem scStrP : FnScope ["self", "piece", "row"] ["self"] (defScope sStrP) := ⟨rfl, rfl, rfl, by decide +kernel, rfl, by decide +kernel, by decide +kernel⟩
theorem ok_strP {f fR C CP : Addr} {fd dR : FuncData} (F : Fun K "__str__" "Program.__str__" sStrP f fd) (Z : ProgC K CP)
    (GR : FnOk P w K mg base CX0 3 fR dR ["piece"] (spRowsOf K C rowsS)) (gR : mg "rows_of" = some (.ref fR)) (kR : PySem.W.keepIn K (.ref fR) = true) (bR : Binds K dR ["piece"] []) : FnOk P w K mg base CX0 4 f fd ["self"] (spStrP K C CP) := by
  refine F.ok scStrP (fun vs H Q E h => ?_) (fun cdv A outer s H vs Q E hr h => ?_)
  · obtain ⟨p, t, xs, ds, rfl, _⟩ := h
    rfl
  · obtain ⟨p, t, xs, ds, rfl, hT, k⟩ := h
    refine ⟨_, pss_one (ps_ret (pe_bm PySem.F.plainAttrs_str PySem.F.slot_str_join PySem.F.type_str_join mt_join pe_str (pa_cons
      (pe_lc2 (own := [("piece", 1), ("row", 2)]) (vs1 := [2]) (g := gName 1) (tt := tYes) (g1 := gName 2) (tt1 := tYes) (by rfl) scStrP.nd (pi_tup (pe_fld (pv 0) rfl)) (blkOk_by (N := ["self", "piece", "row"]) (sc := defScope sStrP) (by decide +kernel)) (by decide)
        (fun _ _ _ _ _ => pg_name (i := 1) scStrP.nd rfl (Or.inl rfl)) (fun _ _ _ _ _ => pts_nil)
        (fun _ _ _ _ _ => pi_listK (K := K) rfl (pe_call GR hr (by rfl) gR kR bR .nil pass0 (pa_cons (pv 1) pa_nil)))
        (fun _ _ _ _ _ => pg_name (i := 2) scStrP.nd rfl (Or.inl rfl)) (fun _ _ _ _ _ => pts_nil)
        (fun _ _ _ _ _ => pv 2)) pa_nil))), ?_⟩
    obtain ⟨dx, hp, ht, hps, hl⟩ := id hT
    refine ⟨rfl, _, rfl, p, CP, dx, _, _, rfl, hp, Z.cl, Z.pieces, rfl, t, rfl, ⟨_, ht.sqT⟩, fun D nD => it_tup (K := K) (a := t) (xs := xs) (fun i G => Same H G ∧ G D = some (.lst ((progRows (ds.take i)).map V.str))) ⟨Same.new nD, upd_same⟩ (fun i G _ q => SqT.same q.1 ht.sqT) ?_ ?_⟩
    · rintro i x G hi ⟨sG, hD⟩
      have li := (List.getElem?_eq_some_iff.mp hi).1
      obtain ⟨d, ed⟩ : ∃ d, ds[i]? = some d := ⟨_, List.getElem?_eq_getElem (by rw [← hps.1]; exact li)⟩
      obtain ⟨q, rfl, hq⟩ := (hps.same sG).2.2 i x _ hi ed
      obtain ⟨o, few⟩ := hps.2.1 d (List.mem_of_getElem? ed)
      have hlen := progRows_len (ds := ds.take i) fun e he => hps.2.1 e (List.mem_of_mem_take he)
      have hlen2 := rowsS_len o few
      rw [List.length_take] at hlen
      refine ⟨rfl, _, rfl, q, d, rfl, hq, o, few, fun l G2 s2 n2 hl2 => ⟨l, rfl, ⟨_, SqL.of hl2⟩, it_lst (K := K) (a := l) (xs := (rowsS d).map V.str) (fun j G' => Same H G' ∧ G' l = some (.lst ((rowsS d).map V.str)) ∧ G' D = some (.lst ((progRows (ds.take i) ++ (rowsS d).take j).map V.str)))
        ⟨sG.trans s2, hl2, by rw [List.take_zero, List.append_nil]; exact s2 _ _ hD⟩ (fun j G' _ z => SqL.of z.2.1) ?_ ?_⟩⟩
      · rintro j y G' hj ⟨sG', hl', hD'⟩
        obtain ⟨z, hz, rfl⟩ : ∃ z, (rowsS d)[j]? = some z ∧ V.str z = y := by
          rw [List.getElem?_map] at hj
          cases e : (rowsS d)[j]? with
          | none => rw [e] at hj; cases hj
          | some y => rw [e] at hj; exact ⟨y, rfl, Option.some.inj hj⟩
        have nlD : l ≠ D := Ne.symm (ne_of_none hD n2)
        refine ⟨rfl, _, rfl, _, hD', ?_, fun c u e => ?_, by rw [upd_ne nlD]; exact hl', ?_⟩
        · rw [List.length_map, List.length_append, List.length_take]
          refine Nat.lt_of_lt_of_le (m := 1000000) ?_ (fitsN (Nat.le_refl _))
          omega
        · rw [upd_ne (ne_of_none e nD)]
          exact sG' _ _ e
        · rw [upd_same, List.take_succ, hz, List.map_append, List.map_append, List.map_append, List.append_assoc]
          rfl
      · rintro G' ⟨sG', hl', hD'⟩
        rw [List.length_map, List.take_length] at hD'
        exact ⟨sG', by rw [hD', progRows_take ed]⟩
    · rintro G ⟨sG, hD⟩
      rw [hps.1, List.take_length] at hD
      have hlen := progRows_len (ds := ds) hps.2.1
      have hsum := sum_few (n := 300) (progRows_few hps.2.1)
      have j : (Str.ofString "\n").length = 1 := by decide
      exact ⟨_, D, progRows ds, rfl, rfl, .inl (SqL.of hD), by rw [j]; omega, k G sG⟩
end
end Lay
set_option Elab.async false
set_option linter.all false
set_option maxRecDepth 100000
set_option maxHeartbeats 4000000
set_option pp.maxSteps 1000
namespace Lay
open PySem PySem.Spec PyProof.Rows L2
abbrev sLenP : Stmt := inClass (top 33) 2
abbrev sGetP : Stmt := inClass (top 33) 3
abbrev sAddP : Stmt := inClass (top 33) 5
abbrev sEqP : Stmt := inClass (top 33) 6
abbrev sEqPc : Stmt := inClass (top 20) 3
abbrev sNP : Stmt := inClass (top 6) 0
def RaisedA (D : Addr) (H : Hp) (v : V) (E : XK) : Prop := ∀ H' d, Same H H' → H d = none → H' d = some (.xd [("at", v)]) → E (.ref D) (some d) H'
def spLenP (K : PySem.W.Frag) (C CP : Addr) : Sp := fun vs H Q _ => ∃ (p t : Addr) (xs : List V) (ds : List PD), vs = [.ref p] ∧ ProgT K C CP H p t xs ds ∧ Q (.int ds.length) H
def spEqPg (K : PySem.W.Frag) (C CP : Addr) : Sp := fun vs H Q _ => ∃ (p q t1 t2 : Addr) (xs ys : List V) (ds es : List PD), vs = [.ref p, .ref q] ∧ ProgT K C CP H p t1 xs ds ∧ ProgT K C CP H q t2 ys es ∧ ∀ H', Same H H' → Q (.bl (decide (V.str (progText ds) = V.str (progText es)))) H'
def spEqN (K : PySem.W.Frag) (CP : Addr) : Sp := fun vs H Q _ => ∃ (p : Addr) (y : V), vs = [.ref p, y] ∧ IsP K CP H y false ∧ Q (.bl false) H
def spGetG (K : PySem.W.Frag) (C CP : Addr) : Sp := fun vs H Q _ => ∃ (p t : Addr) (i : Nat) (xs : List V) (ds : List PD) (v : V), vs = [.ref p, .int i] ∧ ProgT K C CP H p t xs ds ∧ xs[i]? = some v ∧ Q v H
def spBad (K : PySem.W.Frag) (C CP D : Addr) : Sp := fun vs H _ E => ∃ (p t : Addr) (i : Int) (xs : List V) (ds : List PD), vs = [.ref p, .int i] ∧ ProgT K C CP H p t xs ds ∧ (i < 0 ∨ (ds.length : Int) ≤ i) ∧ RaisedA D H (.int i) E
def spAddP (K : PySem.W.Frag) (C CP : Addr) : Sp := fun vs H Q _ => ∃ (p q t1 t2 : Addr) (xs ys : List V) (ds es : List PD), vs = [.ref p, .ref q] ∧ ProgT K C CP H p t1 xs ds ∧ ProgT K C CP H q t2 ys es ∧ ds.length + es.length ≤ 100 ∧ ∀ c u H', Same H H' → H c = none → ProgT K C CP H' c u (xs ++ ys) (ds ++ es) → Q (.ref c) H'
/-- a piece against itself -/
def spEqPc (K : PySem.W.Frag) (C : Addr) : Sp := fun vs H Q _ => ∃ (p : Addr) (d : PD), vs = [.ref p, .ref p] ∧ PieceAt K C H p d ∧ d.Ok ∧ d.parts.length ≤ 30 ∧ Q (.bl true) H
section
variable {P : Program} {w : World} {K : PySem.W.Frag} {mg : Str → Option Value} {base : Heap}
theorem scNP : FnScope ["self", "at"] ["self", "at"] (defScope sNP) := ⟨rfl, rfl, rfl, by decide +kernel, rfl, by decide +kernel, by decide +kernel⟩
theorem ok_nP {f C : Addr} {fd : FuncData} (F : Fun K "__init__" "NoPiece.__init__" sNP f fd) : FnOk P w K mg base CX0 1 f fd ["self", "at"] (spInit K C "at") := by
  refine F.ok scNP (fun vs H Q E h => ?_) (fun cdv A outer s H vs Q E hr h => ?_)
  · obtain ⟨a, v, rfl, _⟩ := h
    rfl
  · obtain ⟨a, v, rfl, T, no, ha, k⟩ := h
    exact ⟨_, pss_one (ps_ost (pv 0) (pv 1)), _, rfl, _, rfl, a, C, rfl, T, no, .inl ⟨ha, fun dx h1 h2 => k dx h1 h2⟩⟩
theorem scLenP : FnScope ["self"] ["self"] (defScope sLenP) := ⟨rfl, rfl, rfl, by decide +kernel, rfl, by decide +kernel, by decide +kernel⟩
theorem ok_lenP {f C CP : Addr} {fd : FuncData} (F : Fun K "__len__" "Program.__len__" sLenP f fd) (hlen : mg "len" = none) (Z : ProgC K CP) : FnOk P w K mg base CX0 1 f fd ["self"] (spLenP K C CP) := by
  refine F.ok scLenP (fun vs H Q E h => ?_) (fun cdv A outer s H vs Q E hr h => ?_)
  · obtain ⟨p, t, xs, ds, rfl, _⟩ := h
    rfl
  · obtain ⟨p, t, xs, ds, rfl, ⟨dx, hp, ht, hps, hl⟩, k⟩ := h
    refine ⟨_, pss_one (ps_ret (pe_callB call_len_seq (by rfl) hlen PySem.boot_len (pa_cons (pe_fld (pv 0) rfl) pa_nil))), ?_⟩
    refine ⟨_, rfl, p, CP, dx, _, _, rfl, hp, Z.cl, Z.pieces, rfl, t, xs, rfl, .inr ht.sqT, ?_⟩
    rw [hps.1]
    exact k
theorem scEqP : FnScope ["self", "other"] ["self", "other"] (defScope sEqP) := ⟨rfl, rfl, rfl, by decide +kernel, rfl, by decide +kernel, by decide +kernel⟩
theorem ok_eqP {f fS C CP : Addr} {fd fdS : FuncData} (F : Fun K "__eq__" "Program.__eq__" sEqP f fd) (T : TxtK mg) (hstr : mg "str" = none) (c : ClsI K CP) (gT : mg "Program" = some (.ref CP))
    (GS : FnOk P w K mg base CX0 4 fS fdS ["self"] (spStrP K C CP)) (hs : PySem.W.findIn K (.ref CP) "__str__" = some (some (.ref fS))) (hf : PySem.W.isFn K (.ref fS) = true) (bS : Binds K fdS ["self"] []) : FnOk P w K mg base CX0 7 f fd ["self", "other"] (spEqPg K C CP) := by
  refine F.ok scEqP (fun vs H Q E h => ?_) (fun cdv A outer s H vs Q E hr h => ?_)
  · obtain ⟨p, q, t1, t2, xs, ys, ds, es, rfl, _⟩ := h
    rfl
  · obtain ⟨p, q, t1, t2, xs, ys, ds, es, rfl, hp, hq, k⟩ := h
    refine ⟨_, pss_one (ps_ret (pe_and (pe_callB call_isi (by rfl) T.isinstance (by decide +kernel) (pa_cons (pv 1) (pa_cons (pe_glob (v := .ref CP) (by rfl) gT rfl) pa_nil)))
      (pe_one (pe_cmpR op_eq (pe_callTy (call_strOwn GS hs hf hr bS pass0) (by rfl) hstr (by decide +kernel) (pa_cons (pv 0) pa_nil)) (pe_callTy (call_strOwn GS hs hf hr bS pass0) (by rfl) hstr (by decide +kernel) (pa_cons (pv 1) pa_nil)) (nomark _))))), ?_⟩
    obtain ⟨dx2, hq2, _⟩ := id hq
    obtain ⟨dx1, hp1, _⟩ := id hp
    refine ⟨_, rfl, _, _, _, _, true, rfl, .own _, c.at hq2, kit_same, _, rfl, iteY rfl ?_⟩
    refine ⟨_, rfl, p, dx1, _, rfl, hp1, p, t1, xs, ds, rfl, hp, fun H1 s1 => ⟨_, rfl, _, rfl, q, dx2, _, rfl, s1 _ _ hq2, q, t2, ys, es, rfl, hq.same s1, fun H2 s2 => ⟨_, rfl, rfl, k H2 (s1.trans s2)⟩⟩⟩
theorem ok_eqN {f fS C CP : Addr} {fd fdS : FuncData} (F : Fun K "__eq__" "Program.__eq__" sEqP f fd) (T : TxtK mg) (hstr : mg "str" = none) (gT : mg "Program" = some (.ref CP))
    (GS : FnOk P w K mg base CX0 4 fS fdS ["self"] (spStrP K C CP)) (hs : PySem.W.findIn K (.ref CP) "__str__" = some (some (.ref fS))) (hf : PySem.W.isFn K (.ref fS) = true) (bS : Binds K fdS ["self"] []) : FnOk P w K mg base CX0 7 f fd ["self", "other"] (spEqN K CP) := by
  refine F.ok scEqP (fun vs H Q E h => ?_) (fun cdv A outer s H vs Q E hr h => ?_)
  · obtain ⟨p, y, rfl, _⟩ := h
    rfl
  · obtain ⟨p, y, rfl, ⟨t, ty, e⟩, k⟩ := h
    refine ⟨_, pss_one (ps_ret (pe_and (pe_callB call_isi (by rfl) T.isinstance (by decide +kernel) (pa_cons (pv 1) (pa_cons (pe_glob (v := .ref CP) (by rfl) gT rfl) pa_nil)))
      (pe_one (pe_cmpR op_eq (pe_callTy (call_strOwn GS hs hf hr bS pass0) (by rfl) hstr (by decide +kernel) (pa_cons (pv 0) pa_nil)) (pe_callTy (call_strOwn GS hs hf hr bS pass0) (by rfl) hstr (by decide +kernel) (pa_cons (pv 1) pa_nil)) (nomark _))))), ?_⟩
    exact ⟨_, rfl, _, _, t, _, false, rfl, .own _, ty, e, _, rfl, iteN rfl k⟩
theorem scGetP : FnScope ["self", "at"] ["self", "at"] (defScope sGetP) := ⟨rfl, rfl, rfl, by decide +kernel, rfl, by decide +kernel, by decide +kernel⟩
theorem atI_nat {xs : List V} {i : Nat} {v : V} (h : xs[i]? = some v) : atI xs (i : Int) = some v := by
  have li := (List.getElem?_eq_some_iff.mp h).1
  unfold atI ixN
  rw [if_pos (by omega), if_pos (by omega)]
  simpa using h
theorem ok_getG {f fN C CP : Addr} {fd fdN : FuncData} (F : Fun K "__getitem__" "Program.__getitem__" sGetP f fd) (hlen : mg "len" = none) (Z : ProgC K CP)
    (GN : FnOk P w K mg base CX0 2 fN fdN ["value", "many"] (spNum K)) (gN : mg "is_number" = some (.ref fN)) (kN : PySem.W.keepIn K (.ref fN) = true) (bN : Binds K fdN ["value", "many"] []) : FnOk P w K mg base CX0 3 f fd ["self", "at"] (spGetG K C CP) := by
  refine F.ok scGetP (fun vs H Q E h => ?_) (fun cdv A outer s H vs Q E hr h => ?_)
  · obtain ⟨p, t, i, xs, ds, v, rfl, _⟩ := h
    rfl
  · obtain ⟨p, t, i, xs, ds, v, rfl, ⟨dx, hp, ht, hps, hl⟩, hi, k⟩ := h
    refine ⟨_, (pss_cons (ps_if (pt_not (pt_val (pe_call GN hr (by rfl) gN kN bN .nil pass0 (pa_cons (pv 1) (pa_cons (pe_callB call_len_seq (by rfl) hlen PySem.boot_len (pa_cons (pe_fld (pv 0) rfl) pa_nil)) pa_nil))))) pss_never pss_nil)
      (pss_one (ps_ret (pe_ix ix_tup (pe_fld (pv 0) rfl) (pv 1) (fun _ _ => rfl))))), ?_⟩
    have li := (List.getElem?_eq_some_iff.mp hi).1
    refine ⟨_, rfl, _, rfl, p, CP, dx, _, _, rfl, hp, Z.cl, Z.pieces, rfl, t, xs, rfl, .inr ht.sqT, _, _, rfl, .inl ⟨_, rfl, _, rfl, iteN (by simp [li]) ?_⟩⟩
    exact ⟨_, rfl, p, CP, dx, _, _, rfl, hp, Z.cl, Z.pieces, rfl, _, rfl, t, xs, _, v, rfl, rfl, ht.sqT, atI_nat hi, k⟩
theorem ok_getB {f fN fI C CP D : Addr} {fd fdN fdI : FuncData} (F : Fun K "__getitem__" "Program.__getitem__" sGetP f fd) (hlen : mg "len" = none) (Z : ProgC K CP)
    (GN : FnOk P w K mg base CX0 2 fN fdN ["value", "many"] (spNum K)) (gN : mg "is_number" = some (.ref fN)) (kN : PySem.W.keepIn K (.ref fN) = true) (bN : Binds K fdN ["value", "many"] [])
    (Y : XC K mg D fI "NoPiece" "at") (GI : FnOk P w K mg base CX0 1 fI fdI ["self", "at"] (spInit K D "at")) (bI : Binds K fdI ["self", "at"] []) : FnOk P w K mg base (L2.CX P w) 3 f fd ["self", "at"] (spBad K C CP D) := by
  refine F.okX scGetP (fun vs H Q E h => ?_) (fun cdv A outer s H vs Q E hr h => ?_)
  · obtain ⟨p, t, i, xs, ds, rfl, _⟩ := h
    rfl
  · obtain ⟨p, t, i, xs, ds, rfl, ⟨dx, hp, ht, hps, hl⟩, hi, k⟩ := h
    refine ⟨_, (pss_cons (ps_if (pt_not (pt_val (pe_call GN hr (by rfl) gN kN bN .nil pass0 (pa_cons (pv 1) (pa_cons (pe_callB call_len_seq (by rfl) hlen PySem.boot_len (pa_cons (pe_fld (pv 0) rfl) pa_nil)) pa_nil)))))
      (pss_one (ps_raise rfl (takes_of rfl rfl rfl rfl) (pmk_oex Y.oex Y.init Y.tI GI (hr.mono (by decide)) bI .nil pass0 (by rfl) Y.gC (pa_cons (pv 1) pa_nil)))) pss_nil)
      (pss_one ps_never)), ?_⟩
    refine ⟨_, rfl, _, rfl, p, CP, dx, _, _, rfl, hp, Z.cl, Z.pieces, rfl, t, xs, rfl, .inr ht.sqT, _, _, rfl, .inl ⟨_, rfl, _, rfl, iteY ?_ ?_⟩⟩
    · rw [hps.1]
      rcases hi with hi | hi
      · simp only [Bool.not_eq_true', Bool.and_eq_false_iff, decide_eq_false_iff_not]
        exact .inl (by omega)
      · simp only [Bool.not_eq_true', Bool.and_eq_false_iff, decide_eq_false_iff_not]
        exact .inr (by omega)
    · exact ⟨_, rfl, by show 1 ≤ 1000; decide, fun a ha => raised_at Y.oex Y.no ha k⟩
theorem scAddP : FnScope ["self", "other"] ["self", "other"] (defScope sAddP) := ⟨rfl, rfl, rfl, by decide +kernel, rfl, by decide +kernel, by decide +kernel⟩
theorem ok_addP {f fP C CP : Addr} {fd fdP : FuncData} (F : Fun K "__add__" "Program.__add__" sAddP f fd) (T : TxtK mg) (c0 : ClsI K C) (c : ClsI K CP) (Z : ProgC K CP) (gT : mg "Program" = some (.ref CP)) (M : Mk K CP fP)
    (GP : FnOk P w K mg base CX0 3 fP fdP ["self", "pieces"] (spProgG K C CP)) (bP : Binds K fdP ["self", "pieces"] []) : FnOk P w K mg base CX0 5 f fd ["self", "other"] (spAddP K C CP) := by
  refine F.ok scAddP (fun vs H Q E h => ?_) (fun cdv A outer s H vs Q E hr h => ?_)
  · obtain ⟨p, q, t1, t2, xs, ys, ds, es, rfl, _⟩ := h
    rfl
  · obtain ⟨p, q, t1, t2, xs, ys, ds, es, rfl, hp, hq, hl, k⟩ := h
    refine ⟨_, (pss_cons (ps_if (pt_not (pt_val (pe_callB call_isi (by rfl) T.isinstance (by decide +kernel) (pa_cons (pv 1) (pa_cons (pe_glob (v := .ref CP) (by rfl) gT rfl) pa_nil))))) pss_never pss_nil)
      (pss_one (ps_ret (pe_make M GP hr (by rfl) gT bP .nil pass0 (pa_cons (pe_op op_catG (pe_fld (pv 0) rfl) (pe_fld (pv 1) rfl)) pa_nil))))), ?_⟩
    obtain ⟨dx2, hq2, ht2, hr2, hl2⟩ := id hq
    obtain ⟨dx1, hp1, ht1, hr1, hl1⟩ := id hp
    refine ⟨_, rfl, _, _, _, _, true, rfl, .own _, c.at hq2, kit_same, _, rfl, iteN rfl ?_⟩
    refine ⟨_, rfl, p, CP, dx1, _, _, rfl, hp1, Z.cl, Z.pieces, rfl, _, rfl, q, CP, dx2, _, _, rfl, hq2, Z.cl, Z.pieces, rfl, t1, t2, xs, ys, rfl, rfl, ht1, ht2, by rw [hr1.1, hr2.1]; omega, fun u H1 s1 hu => fun x dx nx nd ne => ?_⟩
    have zz := (Same.new nd (o := .own x)).trans (Same.new (fresh_own (o := .own x) nx ne) (o := .ins CP dx []))
    have rr := ((hr1.append hr2).same s1)
    refine ⟨x, dx, u, xs ++ ys, rfl, upd_same, .inr (hu.same zz), by rw [List.length_append, hr1.1, hr2.1]; omega, (rr.same zz).isP c0, fun H2 t ht kp hx => ⟨rfl, ?_⟩⟩
    have s2 := made_same nx nd kp
    exact k x t H2 (s1.trans s2) (s1.free nx) ⟨dx, hx, ht, rr.same s2, by rw [List.length_append]; exact hl⟩
end
end Lay
set_option Elab.async false
set_option linter.all false
set_option maxRecDepth 100000
set_option maxHeartbeats 4000000
set_option pp.maxSteps 1000
namespace Lay
open PySem PySem.Spec PyProof.Rows L2
section
variable {X : Cx}
/-- d.update(e): dicts with keys ints and texts -/
def tDUpd (td te : TE) : TE := fun σ H Q => td σ H fun x H1 => ∃ a, x = .ref a ∧ IsD H1 a ∧ te σ H1 fun y H2 => ∃ o kvs more, y = .ref o ∧ H2 a = some (.dK kvs) ∧ H2 o = some (.dK more) ∧ a ≠ o ∧ kvs.length + more.length ≤ 1000 ∧ Q .non (upd H2 a (.dK (mergeK kvs more)))
theorem pe_dupd {o e : Expr} {td te : TE} {apos pos : Pos} (ho : PE X o td) (he : PE X e te) (m : M1 X o "update" apos e pos) : PE X (.Call (.Attribute o "update" apos) [e] [] pos) (tDUpd td te) := by
  refine ⟨fun pins s σ H Q I h => ?_⟩
  refine wpAny_Call_method m.base m.few m.line PySem.F.plainAttrs_dict PySem.F.slot_dict_update PySem.F.type_dict_update (thn (ho.run pins s σ H _ I h) fun u s1 ⟨x, H1, I1, rx, a, ex, d, q1⟩ => ?_)
  subst ex
  obtain rfl : u = Value.ref a := rx
  obtain ⟨t1, t2, _⟩ := isD_at I1 d
  refine ⟨t1, t2, ?_⟩
  rw [m.trees]
  refine Calls.callWith_builtin rfl (Calls.evalArgs_plain (Calls.spliced_cons (thn (he.run pins s1 σ H1 _ I1 q1) fun iv s2 ⟨y, H2, I2, ry, ov, kvs, more, ey, e1, e2, hne, hl, q2⟩ => Calls.spliced_nil ?_)))
  subst ey
  cases ry
  obtain ⟨z, hd, vs, rel, dd⟩ := dk_of I2.hok e1
  obtain ⟨z2, hd2, vs2, rel2, dd2⟩ := dk_of I2.hok e2
  have lz := length_mergeK more kvs
  refine call_meetsIn PySem.F.slot_dict_update dd.typeIs PySem.F.entry_dict_update (PySem.F.args_dict_update_2 _ _) (meets_dict_update (mixKind X.prog X.w) a ov hne hd2) ⟨vs, vs2, dd, dd2, by rw [← rel.length, ← rel2.length]; exact fitsN (by omega), fun h' dd' _ hs => ?_⟩
  have he' : ∃ q, h'.get? a = some q := let ⟨q, _, _, hq, _⟩ := dd'; ⟨q, hq⟩
  exact ⟨.non, _, d_write I2 (by rw [e1]; exact True.intro) hs he' (dk_new (fitsN (by omega)) hd (rel2.merge rel) dd'), rfl, q2⟩
end
theorem strs_dp {K : PySem.W.Frag} {H : Hp} : ∀ ws : List Str, DpAll K H (ws.map V.str) (ws.map PyData.str)
  | [] => .nil
  | w :: ws => .cons (.str w) (strs_dp ws)
theorem canLay_strs : ∀ ws : List Str, (∀ z ∈ ws, PyData.strOk z = true) → PyData.canLayAll0 (ws.map PyData.str) = true
  | [], _ => by simp [PyData.canLayAll0]
  | n :: r, h => by simp [PyData.canLayAll0, PyData.canLay0, h n List.mem_cons_self, canLay_strs r fun z hz => h z (List.mem_cons_of_mem _ hz)]
theorem depth_strs : ∀ ws : List Str, PyData.depthAll (ws.map PyData.str) ≤ 1
  | [] => by simp [PyData.depthAll]
  | n :: r => by
    have := depth_strs r
    simp only [List.map_cons, PyData.depthAll, PyData.depth]
    omega
theorem shaped_strs (ws : List Str) (h : ∀ z ∈ ws, PyData.strOk z = true) : PySem.SeqAt.shaped (.tuple (ws.map PyData.str)) = true := by
  have h1 := depth_strs ws
  have h2 : PyData.depth (.tuple (ws.map PyData.str)) ≤ 64 := by simp only [PyData.depth]; omega
  show (PyData.canLay0 (.tuple (ws.map PyData.str)) && decide (PyData.depth (.tuple (ws.map PyData.str)) ≤ 64)) = true
  rw [Bool.and_eq_true]
  exact ⟨by simp only [PyData.canLay0]; exact canLay_strs ws h, decide_eq_true h2⟩
theorem eqv_same : ∀ ws : List Str, PyData.eqvAll (ws.map .str) (ws.map .str) = true
  | [] => rfl
  | w :: ws => by
    show (PyData.eqv (.str w) (.str w) && PyData.eqvAll (ws.map .str) (ws.map .str)) = true
    rw [eqv_same ws, PyData.eqv]
    simp
theorem nameB_strOk {z : Str} (h : nameB z = true) : PyData.strOk z = true := by
  unfold nameB at h
  have h1 := (Bool.and_eq_true_iff.mp (Bool.and_eq_true_iff.mp h).2).1
  unfold Txt.isascii at h1
  unfold PyData.strOk
  rw [Array.all_eq_true'] at h1 ⊢
  intro c hc
  have := of_decide_eq_true (h1 c hc)
  exact decide_eq_true (by omega)
section
variable {P : Program} {w : World} {K : PySem.W.Frag} {mg : Str → Option Value} {base : Heap}
theorem scEqPc : FnScope ["self", "other"] ["self", "other"] (defScope sEqPc) := ⟨rfl, rfl, rfl, by decide +kernel, rfl, by decide +kernel, by decide +kernel⟩
theorem ok_eqPc {f C : Addr} {fd : FuncData} (F : Fun K "__eq__" "Piece.__eq__" sEqPc f fd) (T : TxtK mg) (c : ClsI K C) (Z : PieceC K C) (gC : mg "Piece" = some (.ref C)) : FnOk P w K mg base CX0 1 f fd ["self", "other"] (spEqPc K C) := by
  refine F.ok scEqPc (fun vs H Q E h => ?_) (fun cdv A outer s H vs Q E hr h => ?_)
  · obtain ⟨p, d, rfl, _⟩ := h
    rfl
  · obtain ⟨p, d, rfl, ⟨dx, t, hp, ht⟩, o, few, k⟩ := h
    refine ⟨_, pss_one (ps_ret (pe_and (pe_callB call_isi (by rfl) T.isinstance (by decide +kernel) (pa_cons (pv 1) (pa_cons (pe_glob (v := .ref C) (by rfl) gC rfl) pa_nil)))
      (pe_and (pe_cmpR op_eq (pe_fld (pv 0) rfl) (pe_fld (pv 1) rfl) (nomark _))
      (pe_and (pe_cmpR (op_eqD hr.units) (pe_fld (pv 0) rfl) (pe_fld (pv 1) rfl) (nomark _))
      (pe_and (pe_cmpR op_eq (pe_fld (pv 0) rfl) (pe_fld (pv 1) rfl) (nomark _))
      (pe_and (pe_cmpR op_eq (pe_fld (pv 0) rfl) (pe_fld (pv 1) rfl) (nomark _))
      (pe_and (pe_cmpR op_eq (pe_fld (pv 0) rfl) (pe_fld (pv 1) rfl) (nomark _))
      (pe_and (pe_cmpR op_eq (pe_fld (pv 0) rfl) (pe_fld (pv 1) rfl) (nomark _))
      (pe_and (pe_cmpR op_eq (pe_fld (pv 0) rfl) (pe_fld (pv 1) rfl) (nomark _))
      (pe_one (pe_cmpR op_eq (pe_fld (pv 0) rfl) (pe_fld (pv 1) rfl) (nomark _)))))))))))), ?_⟩
    have sh : PySem.SeqAt.shaped (.tuple (d.parts.map PyData.str)) = true := shaped_strs _ fun z hz => nameB_strOk (o.parts z hz)
    refine ⟨_, rfl, _, _, _, _, true, rfl, .own _, c.at hp, kit_same, _, rfl, iteY rfl ?_⟩
    refine ⟨_, rfl, p, C, dx, _, _, rfl, hp, Z.cl, Z.word, rfl, _, rfl, p, C, dx, _, _, rfl, hp, Z.cl, Z.word, rfl, rfl, _, rfl, iteY (by simp) ?_⟩
    refine ⟨_, rfl, p, C, dx, _, _, rfl, hp, Z.cl, Z.parts, rfl, _, rfl, p, C, dx, _, _, rfl, hp, Z.cl, Z.parts, rfl, .tuple (d.parts.map .str), .tuple (d.parts.map .str), .tup ht (strs_dp _), .tup ht (strs_dp _), sh, sh, _, rfl, iteY (by rw [PyData.eqv]; exact eqv_same _) ?_⟩
    refine ⟨_, rfl, p, C, dx, _, _, rfl, hp, Z.cl, Z.broken, rfl, _, rfl, p, C, dx, _, _, rfl, hp, Z.cl, Z.broken, rfl, rfl, _, rfl, iteY (by simp) ?_⟩
    refine ⟨_, rfl, p, C, dx, _, _, rfl, hp, Z.cl, Z.marked, rfl, _, rfl, p, C, dx, _, _, rfl, hp, Z.cl, Z.marked, rfl, rfl, _, rfl, iteY (by simp) ?_⟩
    refine ⟨_, rfl, p, C, dx, _, _, rfl, hp, Z.cl, Z.ahead, rfl, _, rfl, p, C, dx, _, _, rfl, hp, Z.cl, Z.ahead, rfl, rfl, _, rfl, iteY (by simp) ?_⟩
    refine ⟨_, rfl, p, C, dx, _, _, rfl, hp, Z.cl, Z.behind, rfl, _, rfl, p, C, dx, _, _, rfl, hp, Z.cl, Z.behind, rfl, rfl, _, rfl, iteY (by simp) ?_⟩
    refine ⟨_, rfl, p, C, dx, _, _, rfl, hp, Z.cl, Z.blanks, rfl, _, rfl, p, C, dx, _, _, rfl, hp, Z.cl, Z.blanks, rfl, rfl, _, rfl, iteY (by simp) ?_⟩
    refine ⟨_, rfl, p, C, dx, _, _, rfl, hp, Z.cl, Z.left, rfl, _, rfl, p, C, dx, _, _, rfl, hp, Z.cl, Z.left, rfl, rfl, ?_⟩
    rw [decide_eq_true rfl]
    exact k
end
end Lay
set_option Elab.async false
set_option linter.all false
set_option maxRecDepth 100000
set_option maxHeartbeats 4000000
set_option pp.maxSteps 1000
namespace Lay
open PySem PySem.Spec PyProof.Rows L2
section
variable {X : Cx}
def signs (x : Str) : List V := x.cps.toList.map fun c => V.str ⟨#[c]⟩
/-- list(x) of a text -/
theorem call_listS (hc : X.calm = true) : CallR X (.type "list") (fun xs H Q => ∃ x : Str, xs = [.str x] ∧ x.cps.size ≤ 1000 ∧ ∀ l, H l = none → Q (.ref l) (upd H l (.lst (signs x)))) := by
  intro pins s σ H xs us Q I r h
  obtain ⟨x, rfl, hz, q⟩ := h
  obtain ⟨u, rfl, t, rfl⟩ := vals1 r
  refine call_list_str (hn := fits hz) (I.ok.hd hc) x t fun h' tk acc c' hk e hi => ?_
  refine ⟨.ref s.heap.objs.size, upd H s.heap.objs.size (.lst (signs x)), I.laid hk (Nat.le_refl _) ⟨by unfold signs; rw [List.length_map, Array.length_toList]; exact fits hz, acc.toList, c', ?_, by rw [Array.toArray_toList]; exact e⟩, rfl, q _ (I.hok.fresh (Nat.le_refl _))⟩
  refine vals_of_idx _ _ (by unfold signs; rw [List.length_map, Array.length_toList, Array.length_toList]; exact hi.1) fun j u hj => ?_
  obtain ⟨c, t', hc, rfl⟩ := hi.2 j u (by rw [← Array.getElem?_toList]; exact hj)
  exact ⟨.str ⟨#[c]⟩, by simp [signs, hc], ⟨_, rfl⟩⟩
end
/-! ### names that are drawn -/
def sixC : List Nat := [97, 98, 99, 120, 121, 122]
def Six (z : Str) : Prop := ∀ c ∈ z.cps.toList, c ∈ sixC
theorem six_all : ∀ c ∈ sixC, c < 128 ∧ Unicode.isAlpha c = true ∧ Unicode.isLower c = true ∧ (Unicode.isUpper c || Unicode.isTitle c) = false := by decide +kernel
theorem Six.append {a b : Str} (h : Six a) (k : Six b) : Six (a ++ b) := fun c hc => by
  have e : (a ++ b).cps.toList = a.cps.toList ++ b.cps.toList := by
    cases a
    cases b
    exact Array.toList_append
  rw [e] at hc
  exact (List.mem_append.mp hc).elim (h c) (k c)
theorem Six.join : ∀ {zs : List Str}, (∀ z ∈ zs, Six z ∧ z.length = 1) → Six (Str.join "" zs) ∧ (Str.join "" zs).length = zs.length
  | [], _ => ⟨fun c hc => by
      have e : (Str.join "" []).cps.toList = [] := by decide
      rw [e] at hc
      exact (List.not_mem_nil hc).elim, by decide⟩
  | [z], h => ⟨(h z (List.mem_singleton.mpr rfl)).1, (h z (List.mem_singleton.mpr rfl)).2⟩
  | z :: y :: r, h => by
    have ih := Six.join (zs := y :: r) fun x hx => h x (List.mem_cons_of_mem _ hx)
    have h0 := h z List.mem_cons_self
    have e : Six (Str.ofString "") := fun c hc => by
      have e : (Str.ofString "").cps.toList = [] := by decide
      rw [e] at hc
      exact (List.not_mem_nil hc).elim
    have e1 : (Str.ofString "").length = 0 := by decide
    refine ⟨(h0.1.append e).append ih.1, ?_⟩
    show ((z ++ Str.ofString "") ++ Str.join "" (y :: r)).length = _
    rw [Str.length_append, Str.length_append, ih.2, h0.2, e1, List.length_cons, List.length_cons, List.length_cons]
    omega
theorem Six.name {z : Str} (h : Six z) (l0 : 0 < z.length) (l6 : z.length ≤ 6) : nameB z = true := by
  have hs : z.cps.size = z.length := rfl
  unfold nameB Txt.isascii Txt.isalpha Txt.islower
  simp only [Bool.and_eq_true, decide_eq_true_eq]
  refine ⟨l6, ?_, ⟨l0, ?_⟩, ?_, ?_⟩
  · rw [Array.all_eq_true']
    exact fun c hc => decide_eq_true (six_all c (h c (Array.mem_toList_iff.mpr hc))).1
  · rw [Array.all_eq_true']
    exact fun c hc => (six_all c (h c (Array.mem_toList_iff.mpr hc))).2.1
  · rw [Array.any_eq_true']
    have hm : z.cps[0]'(by omega) ∈ z.cps := Array.getElem_mem _
    exact ⟨_, hm, (six_all _ (h _ (Array.mem_toList_iff.mpr hm))).2.2.1⟩
  · rw [Bool.not_eq_true']
    cases e : z.cps.any fun c => Unicode.isUpper c || Unicode.isTitle c with
    | false => rfl
    | true =>
      rw [Array.any_eq_true'] at e
      obtain ⟨c, hc, hu⟩ := e
      rw [(six_all c (h c (Array.mem_toList_iff.mpr hc))).2.2.2] at hu
      cases hu
theorem signs_six : ∀ v ∈ signs (Str.ofString "abcxyz"), ∃ z, v = V.str z ∧ Six z ∧ z.length = 1 := fun v hv => by
  obtain ⟨c, hc, rfl⟩ := List.mem_map.mp hv
  refine ⟨_, rfl, fun d hd => ?_, rfl⟩
  have e : (Str.ofString "abcxyz").cps.toList = sixC := by decide +kernel
  rw [e] at hc
  have : d = c := by simpa using hd
  rw [this]
  exact hc
abbrev sLName : Stmt := top 38
def lnN : List Str := ["_law_box_here", "_law_most", "_law_letters", "_law_many", "_law_turn"]
def spLName : Sp := fun vs H Q _ => ∃ (b : Addr) (m : Int), vs = [.ref b, .int m] ∧ BoxAt H b ∧ 0 < m ∧ m ≤ 6 ∧ ∀ z H', Kept b H H' → BoxAt H' b → nameB z = true → Q (.str z) H'
section
variable {P : Program} {w : World} {K : PySem.W.Frag} {mg : Str → Option Value} {base : Heap}
theorem scLName : FnScope lnN ["_law_box_here", "_law_most"] (defScope sLName) := ⟨rfl, rfl, rfl, by decide +kernel, rfl, by decide +kernel, by decide +kernel⟩
theorem ok_lname {f fT fK : Addr} {fd dT dK : FuncData} (F : Fun K "_law_name" "_law_name" sLName f fd) (hrange : mg "range" = none) (hlist : mg "list" = none)
    (GT : FnOk P w K mg base CX0 1 fT dT ["_law_box_here", "_law_many"] spTake) (gT : mg "_law_take" = some (.ref fT)) (kT : PySem.W.keepIn K (.ref fT) = true) (bT : Binds K dT ["_law_box_here", "_law_many"] [])
    (GK : FnOk P w K mg base CX0 2 fK dK ["_law_box_here", "_law_items"] (spPick K)) (gK : mg "_law_pick" = some (.ref fK)) (kK : PySem.W.keepIn K (.ref fK) = true) (bK : Binds K dK ["_law_box_here", "_law_items"] []) : FnOk P w K mg base CX0 3 f fd ["_law_box_here", "_law_most"] spLName := by
  refine F.ok scLName (fun vs H Q E h => ?_) (fun cdv A outer s H vs Q E hr h => ?_)
  · obtain ⟨b, m, rfl, _⟩ := h
    rfl
  · obtain ⟨b, m, rfl, hb, m0, m6, k⟩ := h
    have hr1 := hr.mono (show 1 ≤ 2 by decide)
    refine ⟨_, (pss_cons (ps_asg (pe_tup (pa_cons pe_str (pa_cons (pe_op op_add pe_int (pe_call GT hr1 (by rfl) gT kT bT .nil pass0 (pa_cons (pv 0) (pa_cons (pv 1) pa_nil)))) pa_nil))) (pg_tup rfl (pgs_cons (pg_name (i := 2) scLName.nd rfl (.inr rfl)) (pgs_cons (pg_name (i := 3) scLName.nd rfl (.inl rfl)) pgs_nil))))
      (pss_one (ps_ret (pe_bm PySem.F.plainAttrs_str PySem.F.slot_str_join PySem.F.type_str_join mt_join pe_str (pa_cons
        (pe_lc (own := [("_law_turn", 4)]) (g := gName 4) (tt := tYes) (by rfl) scLName.nd (pi_range1 (by rfl) hrange (pa_cons (pv 3) pa_nil)) (blkOk_by (N := lnN) (sc := defScope sLName) (by decide +kernel))
          (fun _ _ _ _ _ => pg_name (i := 4) scLName.nd rfl (Or.inl rfl)) (fun _ _ _ _ _ => pts_nil)
          (fun _ _ _ _ _ => pe_call GK hr (by rfl) gK kK bK .nil pass0 (pa_cons (pv 0) (pa_cons (pe_callTy (call_listS rfl) (by rfl) hlist (by decide +kernel) (pa_cons (pv 2) pa_nil)) pa_nil)))) pa_nil))))), ?_⟩
    refine ⟨_, rfl, _, rfl, b, m, rfl, hb, m0, by omega, fun r o r0 r1 ob => ?_⟩
    have b1 : BoxAt (upd H b o) b := BoxAt.box ob
    have k1 : Kept b H (upd H b o) := Kept.box
    generalize upd H b o = G1 at *
    refine ⟨1, r, rfl, rfl, (by show 2 ≤ sizeLine; decide), fun p np => ⟨p, _, rfl, SqT.of upd_same, rfl, _, _, rfl, _, _, rfl, rfl, ?_⟩⟩
    have sp := Same.new np (o := .tup [.str "abcxyz", .int (1 + r)])
    have b2 : BoxAt (upd G1 p (.tup [.str "abcxyz", .int (1 + r)])) b := BoxAt.new b1 np
    have k2 : Kept b H (upd G1 p (.tup [.str "abcxyz", .int (1 + r)])) := k1.trans (Kept.of_same sp)
    generalize upd G1 p (.tup [.str "abcxyz", .int (1 + r)]) = G2 at *
    have ls : (signs (Str.ofString "abcxyz")).length = 6 := by decide +kernel
    refine ⟨rfl, _, rfl, 1 + r, rfl, by omega, by omega, fun D nD => lc_range (lo := 0) (n := Int.toNat _) (fun n G' => ∃ zs : List Str, Kept b G2 G' ∧ BoxAt G' b ∧ D ≠ b ∧ G' D = some (.lst (zs.map V.str)) ∧ zs.length = n ∧ ∀ z ∈ zs, Six z ∧ z.length = 1)
      ⟨[], Kept.new nD, b2.new nD, b2.ne nD, upd_same, rfl, fun z h => (List.not_mem_nil h).elim⟩ ?_ ?_⟩
    · rintro n G' hn ⟨zs, k', b', nb, hD, hl, hz⟩
      refine ⟨rfl, _, rfl, _, rfl, _, rfl, by decide +kernel, fun l nl => ?_⟩
      refine ⟨b, l, _, rfl, b'.new nl, b'.ne nl, SqL.of upd_same, by rw [ls]; decide, by rw [ls]; decide, fun v o hv ho => ?_⟩
      obtain ⟨z, rfl, z1, z2⟩ := signs_six v hv
      have nlD : D ≠ l := ne_of_none hD nl
      have kb : Kept b G' (upd (upd G' l (.lst (signs (Str.ofString "abcxyz")))) b o) := (Kept.new nl).trans Kept.box
      refine ⟨_, kb _ _ nb hD, ?_, zs ++ [z], fun c u n1 e => ?_, ?_, nb, by rw [upd_same, List.map_append]; rfl, by rw [List.length_append, hl]; rfl, fun y hy => ?_⟩
      · rw [List.length_map, hl]
        exact small1000 (by omega)
      · rw [upd_ne (ne_of_none e nD)]
        exact kb _ _ n1 (k' _ _ n1 e)
      · obtain ⟨o2, e2, y2⟩ : BoxAt (upd (upd G' l (.lst (signs (Str.ofString "abcxyz")))) b o) b := BoxAt.box ho
        exact ⟨o2, by rw [upd_ne (Ne.symm nb)]; exact e2, y2⟩
      · rcases List.mem_append.mp hy with h | h
        · exact hz y h
        · rw [List.mem_singleton] at h
          subst h
          exact ⟨z1, z2⟩
    · rintro G' ⟨zs, k', b', nb, hD, hl, hz⟩
      have hj := Six.join hz
      have hsum := sum_few (n := 1) fun z hz' => Nat.le_of_eq (hz z hz').2
      have j0 : (Str.ofString "").length = 0 := by decide
      refine ⟨_, D, zs, rfl, rfl, .inl (SqL.of hD), by rw [j0]; omega, k _ _ (k2.trans k') b' ?_⟩
      rw [TL.join_eq]
      exact hj.1.name (by rw [hj.2, hl]; omega) (by rw [hj.2, hl]; omega)
end
end Lay
set_option Elab.async false
set_option linter.all false
set_option maxRecDepth 100000
set_option maxHeartbeats 4000000
set_option pp.maxSteps 1500
namespace Lay
open PySem PySem.Spec PyProof.Rows L2
def kw : Key := .inr "word"
def kp : Key := .inr "parts"
def kb : Key := .inr "broken"
def km : Key := .inr "marked"
def ka : Key := .inr "ahead"
def kh : Key := .inr "behind"
def kn : Key := .inr "blanks"
def kl : Key := .inr "left"
/-- how a piece is written, as the law's dict -/
structure LF (kvs : List (Key × V)) (lp : Addr) (d : PD) : Prop where
  w : valV kvs kw = some (.str d.word)
  p : valV kvs kp = some (.ref lp)
  b : valV kvs kb = some (.bl d.broken)
  m : valV kvs km = some (.bl d.marked)
  a : valV kvs ka = some (.str d.ahead)
  h : valV kvs kh = some (.str d.behind)
  n : valV kvs kn = some (.int d.blanks)
  l : valV kvs kl = some (.bl d.left)
def DictAt (G : Hp) (q lp : Addr) (d : PD) : Prop := ∃ kvs, G q = some (.dK kvs) ∧ G lp = some (.lst (d.parts.map V.str)) ∧ LF kvs lp d
theorem DictAt.same {G G' : Hp} {q lp : Addr} {d : PD} (s : Same G G') (h : DictAt G q lp d) : DictAt G' q lp d := by
  obtain ⟨kvs, h1, h2, h3⟩ := h
  exact ⟨kvs, s _ _ h1, s _ _ h2, h3⟩
def spLPiece : Sp := fun vs H Q _ => ∃ (b : Addr) (m : Int), vs = [.ref b, .int m] ∧ BoxAt H b ∧ 0 < m ∧ m ≤ 8 ∧
  ∀ q lp d H', Kept b H H' → BoxAt H' b → d.Ok → d.parts.length ≤ 8 → DictAt H' q lp d → H q = none → H lp = none → Q (.ref q) H'
theorem merge2 (kvs : List (Key × V)) (k1 k2 : Key) (v1 v2 : V) (j : Key) (ne : k1 ≠ k2) : valV (mergeK kvs (mergeK [] [(k1, v1), (k2, v2)])) j = if j = k2 then some v2 else if j = k1 then some v1 else valV kvs j := by
  have e : mergeK [] [(k1, v1), (k2, v2)] = [(k1, v1), (k2, v2)] := by
    show putK (putK [] k1 v1) k2 v2 = _
    have e1 : putK ([] : List (Key × V)) k1 v1 = [(k1, v1)] := rfl
    rw [e1, putK_new]
    · rfl
    · rw [valV_neg ne]
      rfl
  rw [e]
  show valV (putK (putK kvs k1 v1) k2 v2) j = _
  rw [valV_put, valV_put]
theorem len2 (kvs : List (Key × V)) (k1 k2 : Key) (v1 v2 : V) : (mergeK [] [(k1, v1), (k2, v2)]).length ≤ 2 := length_mergeK _ _
abbrev sLPiece : Stmt := top 39
def lpN : List Str := ["_law_box_here", "_law_many", "_law_found", "_law_place", "_law_turn"]
section
variable {P : Program} {w : World} {K : PySem.W.Frag} {mg : Str → Option Value} {base : Heap}
theorem scLPiece : FnScope lpN ["_law_box_here", "_law_many"] (defScope sLPiece) := ⟨rfl, rfl, rfl, by decide +kernel, rfl, by decide +kernel, by decide +kernel⟩
theorem ok_lpiece {f fT fK fN : Addr} {fd dT dK dN : FuncData} (F : Fun K "_law_piece" "_law_piece" sLPiece f fd) (hrange : mg "range" = none)
    (GT : FnOk P w K mg base CX0 1 fT dT ["_law_box_here", "_law_many"] spTake) (gT : mg "_law_take" = some (.ref fT)) (kT : PySem.W.keepIn K (.ref fT) = true) (bT : Binds K dT ["_law_box_here", "_law_many"] [])
    (GK : FnOk P w K mg base CX0 2 fK dK ["_law_box_here", "_law_items"] (spPick K)) (gK : mg "_law_pick" = some (.ref fK)) (kK : PySem.W.keepIn K (.ref fK) = true) (bK : Binds K dK ["_law_box_here", "_law_items"] [])
    (GN : FnOk P w K mg base CX0 3 fN dN ["_law_box_here", "_law_most"] spLName) (gN : mg "_law_name" = some (.ref fN)) (kN : PySem.W.keepIn K (.ref fN) = true) (bN : Binds K dN ["_law_box_here", "_law_most"] []) : FnOk P w K mg base CX0 4 f fd ["_law_box_here", "_law_many"] spLPiece := by
  refine F.ok scLPiece (fun vs H Q E h => ?_) (fun cdv A outer s H vs Q E hr h => ?_)
  · obtain ⟨b, m, rfl, _⟩ := h
    rfl
  · obtain ⟨b, m, rfl, hb, m0, m8, k⟩ := h
    have hr1 := hr.mono (show 1 ≤ 3 by decide)
    have hr2 := hr.mono (show 2 ≤ 3 by decide)
    have hu : (A.deeper (envOfC "_law_piece" (defScope sLPiece) s.heap.objs.size f cdv)).units + 1 < cLine := by have := hr.units; omega
    refine ⟨_, (C8.pss_cut (ps_set (i := 2) scLPiece.nd rfl (.inl rfl) (pe_disp (pps_cons pe_str (pe_call GN hr (by rfl) gN kN bN .nil pass0 (pa_cons (pv 0) (pa_cons pe_int pa_nil))) (pps_cons pe_str
        (pe_lc (own := [("_law_turn", 4)]) (g := gName 4) (tt := tYes) (by rfl) scLPiece.nd (pi_range1 (by rfl) hrange (pa_cons (pe_op op_add pe_int (pe_call GT hr1 (by rfl) gT kT bT .nil pass0 (pa_cons (pv 0) (pa_cons (pv 1) pa_nil)))) pa_nil)) (blkOk_by (N := lpN) (sc := defScope sLPiece) (by decide +kernel))
          (fun _ _ _ _ _ => pg_name (i := 4) scLPiece.nd rfl (Or.inl rfl)) (fun _ _ _ _ _ => pts_nil)
          (fun _ _ _ _ _ => pe_call GN hr (by rfl) gN kN bN .nil pass0 (pa_cons (pv 0) (pa_cons pe_int pa_nil)))) pps_nil)) rfl rfl (by decide) (by decide)))
      (C8.pss_cut (ps_expr (pe_dupd (pv 2) (pe_disp (pps_cons pe_str (pe_cmpR op_eq (pe_call GT hr1 (by rfl) gT kT bT .nil pass0 (pa_cons (pv 0) (pa_cons pe_int pa_nil))) pe_int (nomark _)) (pps_cons pe_str (pe_cmpR op_eq (pe_call GT hr1 (by rfl) gT kT bT .nil pass0 (pa_cons (pv 0) (pa_cons pe_int pa_nil))) pe_int (nomark _)) pps_nil)) rfl rfl (by decide) (by decide)) ⟨by rfl, by rfl, by rfl, by rfl⟩))
      (C8.pss_cut (ps_for PassesOwn.never rfl (pi_tup (pe_tup (pa_cons pe_str (pa_cons pe_str pa_nil)))) (pg_name (i := 3) scLPiece.nd rfl (.inl rfl))
        (pss_one (ps_dput hu (pv 2) (pv 3) (pe_ifExp (pt_cmpR op_eq (pe_call GT hr1 (by rfl) gT kT bT .nil pass0 (pa_cons (pv 0) (pa_cons pe_int pa_nil))) pe_int (nomark _)) (pe_call GN hr (by rfl) gN kN bN .nil pass0 (pa_cons (pv 0) (pa_cons pe_int pa_nil))) pe_str) (by rfl))))
      (pss_cons (ps_expr (pe_dupd (pv 2) (pe_disp (pps_cons pe_str (pe_call GK hr2 (by rfl) gK kK bK .nil pass0 (pa_cons (pv 0) (pa_cons (pe_lst (pa_cons pe_int (pa_cons pe_int (pa_cons pe_int (pa_cons pe_int (pa_cons pe_int pa_nil)))))) pa_nil))) (pps_cons pe_str (pe_cmpR op_eq (pe_call GT hr1 (by rfl) gT kT bT .nil pass0 (pa_cons (pv 0) (pa_cons pe_int pa_nil))) pe_int (nomark _)) pps_nil)) rfl rfl (by decide) (by decide)) ⟨by rfl, by rfl, by rfl, by rfl⟩))
      (pss_one (ps_ret (pv 2))))))), ?_⟩
    refine ⟨fun σ G => ∃ (q lp : Addr) (wd : Str) (ps : List Str) (kvs : List (Key × V)), σ = [some (.ref b), some (.int m), some (.ref q), none, none] ∧ Kept b H G ∧ BoxAt G b ∧ H q = none ∧ H lp = none ∧ G q = some (.dK kvs) ∧ G lp = some (.lst (ps.map V.str)) ∧ kvs.length ≤ 2 ∧ nameB wd = true ∧ 0 < ps.length ∧ ps.length ≤ 8 ∧ (∀ z ∈ ps, nameB z = true) ∧ valV kvs kw = some (.str wd) ∧ valV kvs kp = some (.ref lp), ?_, ?_⟩
    · refine fun q nq => ?_
      have qb : q ≠ b := hb.ne nq
      refine ⟨_, rfl, b, 3, rfl, hb.new nq, by decide, by decide, fun wd G1 k1 b1 gw => ?_⟩
      refine ⟨_, rfl, _, rfl, b, m, rfl, b1, m0, by omega, fun r o r0 r1 ob => ?_⟩
      have kB : Kept b (upd H q (.dK [])) (upd G1 b o) := k1.trans Kept.box
      have bB : BoxAt (upd G1 b o) b := BoxAt.box ob
      generalize upd G1 b o = G2 at *
      refine ⟨1, r, rfl, rfl, 1 + r, rfl, by omega, by omega, fun D nD => lc_range (lo := 0) (n := Int.toNat _) (fun n G' => ∃ zs : List Str, Kept b G2 G' ∧ BoxAt G' b ∧ D ≠ b ∧ G' D = some (.lst (zs.map V.str)) ∧ zs.length = n ∧ ∀ z ∈ zs, nameB z = true)
        ⟨[], Kept.new nD, bB.new nD, bB.ne nD, upd_same, rfl, fun z h => (List.not_mem_nil h).elim⟩ ?_ ?_⟩
      · rintro n G' hn ⟨zs, k', b', nb, hD, hl, hz⟩
        refine ⟨rfl, _, rfl, b, 6, rfl, b', by decide, by decide, fun z G3 k3 b3 gz => ⟨_, k3 _ _ nb hD, ?_, zs ++ [z], fun c u n1 e => ?_, ?_, nb, by rw [upd_same, List.map_append]; rfl, by rw [List.length_append, hl]; rfl, fun y hy => ?_⟩⟩
        · rw [List.length_map, hl]
          exact small1000 (by omega)
        · rw [upd_ne (ne_of_none e nD)]
          exact k3 _ _ n1 (k' _ _ n1 e)
        · obtain ⟨o2, e2, y2⟩ := b3
          exact ⟨o2, by rw [upd_ne (Ne.symm nb)]; exact e2, y2⟩
        · rcases List.mem_append.mp hy with h | h
          · exact hz y h
          · rw [List.mem_singleton] at h
            subst h
            exact gz
      · rintro G' ⟨zs, k', b', nb, hD, hl, hz⟩
        have k0 : Kept b (upd H q (.dK [])) G' := kB.trans k'
        have hq : G' q = some (.dK []) := k0 _ _ qb upd_same
        have nlp : H D = none := by
          cases e : H D with
          | none => rfl
          | some u =>
            have := kB _ _ nb (Same.new nq _ _ e)
            rw [nD] at this
            cases this
        have Dq : D ≠ q := ne_of hD hq (fun z => nomatch z)
        refine ⟨hq, [(kw, .str wd), (kp, .ref D)], rfl, (by show 2 ≤ 15; decide), q, D, wd, zs, _, rfl, fun c u n1 e => ?_, ?_, nq, nlp, upd_same, by rw [upd_ne Dq]; exact hD, len2 [] _ _ _ _, gw, by omega, by omega, hz, ?_, ?_⟩
        · rw [upd_ne (ne_of_none e nq)]
          exact k0 _ _ n1 (Same.new nq _ _ e)
        · obtain ⟨o2, e2, y2⟩ := b'
          exact ⟨o2, by rw [upd_ne (Ne.symm qb)]; exact e2, y2⟩
        · have := merge2 [] kw kp (.str wd) (.ref D) kw (by decide)
          exact this
        · have := merge2 [] kw kp (.str wd) (.ref D) kp (by decide)
          exact this
    · rintro σ G ⟨q, lp, wd, ps, kvs, rfl, kG, bG, nq, nl, hq, hl, lk, gw, p0, p8, gp, vw, vp⟩
      have qb : q ≠ b := fun z => by
        rw [z] at nq
        obtain ⟨o, e, _⟩ := hb
        rw [nq] at e
        cases e
      refine ⟨fun σ G => ∃ (kvs : List (Key × V)) (bb mm : Bool), σ = [some (.ref b), some (.int m), some (.ref q), none, none] ∧ Kept b H G ∧ BoxAt G b ∧ G q = some (.dK kvs) ∧ G lp = some (.lst (ps.map V.str)) ∧ kvs.length ≤ 4 ∧ valV kvs kw = some (.str wd) ∧ valV kvs kp = some (.ref lp) ∧ valV kvs kb = some (.bl bb) ∧ valV kvs km = some (.bl mm), ?_, ?_⟩
      · refine ⟨_, rfl, q, rfl, .inl ⟨_, .inl hq⟩, fun u nu => ?_⟩
        have ub : u ≠ b := bG.ne nu
        have qu : q ≠ u := ne_of_none hq nu
        refine ⟨_, rfl, b, 2, rfl, bG.new nu, by decide, by decide, fun r1 o1 _ _ ob1 => ⟨rfl, _, rfl, b, 2, rfl, BoxAt.box ob1, by decide, by decide, fun r2 o2 _ _ ob2 => ⟨rfl, ?_⟩⟩⟩
        have kk : Kept b (upd G u (.dK [])) (upd (upd (upd G u (.dK [])) b o1) b o2) := Kept.box.trans Kept.box
        have bb2 : BoxAt (upd (upd (upd G u (.dK [])) b o1) b o2) b := BoxAt.box ob2
        generalize upd (upd (upd G u (.dK [])) b o1) b o2 = G3 at *
        have kG3 : Kept b G G3 := (Kept.new nu).trans kk
        have hu3 : G3 u = some (.dK []) := kk _ _ ub upd_same
        have hq3 := kG3 _ _ qb hq
        have lpq : lp ≠ q := ne_of hl hq (fun z => nomatch z)
        have lpb : lp ≠ b := fun z => by
          rw [z] at nl
          obtain ⟨o, e, _⟩ := hb
          rw [nl] at e
          cases e
        have hl3 := kG3 _ _ lpb hl
        have lpu : lp ≠ u := ne_of_none hl nu
        refine ⟨hu3, [(kb, .bl (decide (V.int r1 = V.int 0))), (km, .bl (decide (V.int r2 = V.int 0)))], rfl, (by show 2 ≤ 15; decide), u, _, _, rfl, by rw [upd_ne qu]; exact hq3, upd_same, qu, by have := len2 [] kb km (.bl (decide (V.int r1 = V.int 0))) (.bl (decide (V.int r2 = V.int 0))); omega, _, decide (V.int r1 = V.int 0), decide (V.int r2 = V.int 0), rfl, fun c w n1 e => ?_, ?_, upd_same, ?_, ?_, ?_, ?_, ?_, ?_⟩
        · have hc := kG _ _ n1 e
          rw [upd_ne (ne_of_none e nq), upd_ne (ne_of_none hc nu)]
          exact kG3 _ _ n1 hc
        · obtain ⟨o3, e3, y3⟩ := bb2
          exact ⟨o3, by rw [upd_ne (Ne.symm qb), upd_ne (Ne.symm ub)]; exact e3, y3⟩
        · rw [upd_ne lpq, upd_ne lpu]
          exact hl3
        · have h1 := length_mergeK (mergeK [] [(kb, V.bl (decide (V.int r1 = V.int 0))), (km, .bl (decide (V.int r2 = V.int 0)))]) kvs
          have h2 := len2 [] kb km (.bl (decide (V.int r1 = V.int 0))) (.bl (decide (V.int r2 = V.int 0)))
          omega
        · rw [merge2 _ _ _ _ _ _ (by decide), if_neg (by decide), if_neg (by decide)]
          exact vw
        · rw [merge2 _ _ _ _ _ _ (by decide), if_neg (by decide), if_neg (by decide)]
          exact vp
        · rw [merge2 _ _ _ _ _ _ (by decide), if_neg (by decide), if_pos rfl]
        · rw [merge2 _ _ _ _ _ _ (by decide), if_pos rfl]
      · rintro σ G ⟨kvs, bb, mm, rfl, kG, bG, hq, hl, lk, vw, vp, vb, vm⟩
        have lpq : lp ≠ q := ne_of hl hq (fun z => nomatch z)
        have lpb : lp ≠ b := fun z => by
          rw [z] at nl
          obtain ⟨o, e, _⟩ := hb
          rw [nl] at e
          cases e
        refine ⟨fun σ G => ∃ (x3 : Option V) (kvs : List (Key × V)) (a c : Str), σ = [some (.ref b), some (.int m), some (.ref q), x3, none] ∧ Kept b H G ∧ BoxAt G b ∧ G q = some (.dK kvs) ∧ G lp = some (.lst (ps.map V.str)) ∧ kvs.length ≤ 6 ∧ valV kvs kw = some (.str wd) ∧ valV kvs kp = some (.ref lp) ∧ valV kvs kb = some (.bl bb) ∧ valV kvs km = some (.bl mm) ∧
          remarkB a = true ∧ remarkB c = true ∧ valV kvs ka = some (.str a) ∧ valV kvs kh = some (.str c), ?_, ?_⟩
        · refine ⟨(by show 2 ≤ sizeLine; decide), fun T nT => ?_⟩
          have sT := Same.new nT (o := .tup [.str "ahead", .str "behind"])
          have Tb : T ≠ b := bG.ne nT
          refine ⟨T, rfl, ⟨_, SqT.of upd_same⟩, for_tup (K := K) (xs := [.str "ahead", .str "behind"]) (fun i σ G' => ∃ (x3 : Option V) (kvs : List (Key × V)), σ = [some (.ref b), some (.int m), some (.ref q), x3, none] ∧ Kept b H G' ∧ BoxAt G' b ∧ G' T = some (.tup [.str "ahead", .str "behind"]) ∧ G' q = some (.dK kvs) ∧ G' lp = some (.lst (ps.map V.str)) ∧ kvs.length ≤ 4 + i ∧ valV kvs kw = some (.str wd) ∧ valV kvs kp = some (.ref lp) ∧ valV kvs kb = some (.bl bb) ∧ valV kvs km = some (.bl mm) ∧
            (1 ≤ i → ∃ a, remarkB a = true ∧ valV kvs ka = some (.str a)) ∧ (2 ≤ i → ∃ c, remarkB c = true ∧ valV kvs kh = some (.str c)))
            ⟨_, kvs, rfl, kG.trans (Kept.of_same sT), bG.new nT, upd_same, sT _ _ hq, sT _ _ hl, lk, vw, vp, vb, vm, fun z => absurd z (by decide), fun z => absurd z (by decide)⟩ (fun i σ G' _ z => by
              obtain ⟨_, _, _, _, _, z, _⟩ := z
              exact SqT.of z) ?_ ?_⟩
          · rintro i x σ G' hi ⟨x3, kvs, rfl, kG, bG, hT, hq, hl, lk, vw, vp, vb, vm, va, vh⟩
            have fin : ∀ (z : Str) (Gz : Hp), remarkB z = true → Kept b G' Gz → BoxAt Gz b → ∃ a H4, V.ref q = .ref a ∧ DPut Gz a x (.str z) H4 ∧ ∃ (x3' : Option V) (kvs : List (Key × V)), [some (V.ref b), some (.int m), some (.ref q), some x, none] = [some (.ref b), some (.int m), some (.ref q), x3', none] ∧ Kept b H H4 ∧ BoxAt H4 b ∧ H4 T = some (.tup [.str "ahead", .str "behind"]) ∧ H4 q = some (.dK kvs) ∧ H4 lp = some (.lst (ps.map V.str)) ∧ kvs.length ≤ 4 + (i + 1) ∧ valV kvs kw = some (.str wd) ∧ valV kvs kp = some (.ref lp) ∧ valV kvs kb = some (.bl bb) ∧ valV kvs km = some (.bl mm) ∧
                (1 ≤ i + 1 → ∃ a, remarkB a = true ∧ valV kvs ka = some (.str a)) ∧ (2 ≤ i + 1 → ∃ c, remarkB c = true ∧ valV kvs kh = some (.str c)) := fun z Gz rz kz bz => by
              have hqz := kz _ _ qb hq
              have hTz := kz _ _ Tb hT
              have hlz := kz _ _ lpb hl
              have Tq : T ≠ q := ne_of hT hq (fun z => nomatch z)
              have hk : ∀ k : Key, Kept b H (upd Gz q (.dK (putK kvs k (.str z)))) ∧ BoxAt (upd Gz q (.dK (putK kvs k (.str z)))) b ∧ upd Gz q (.dK (putK kvs k (.str z))) T = some (.tup [.str "ahead", .str "behind"]) ∧ upd Gz q (.dK (putK kvs k (.str z))) lp = some (.lst (ps.map V.str)) ∧ (putK kvs k (.str z)).length ≤ 4 + (i + 1) := fun k => by
                refine ⟨fun c w n1 e => ?_, ?_, by rw [upd_ne Tq]; exact hTz, by rw [upd_ne lpq]; exact hlz, by have := length_putK kvs k (.str z); omega⟩
                · rw [upd_ne (ne_of_none e nq)]
                  exact kz _ _ n1 (kG _ _ n1 e)
                · obtain ⟨o3, e3, y3⟩ := bz
                  exact ⟨o3, by rw [upd_ne (Ne.symm qb)]; exact e3, y3⟩
              have i2 : i < 2 := (List.getElem?_eq_some_iff.mp hi).1
              have ll : kvs.length < sizeLine := small1000 (by omega)
              rcases (show i = 0 ∨ i = 1 by omega) with rfl | rfl
              · cases hi
                obtain ⟨p1, p2, p3, p4, p5⟩ := hk ka
                refine ⟨q, _, rfl, DPut.k (k := ka) hqz ll, _, _, rfl, p1, p2, p3, upd_same, p4, p5, ?_, ?_, ?_, ?_, fun _ => ⟨z, rz, ?_⟩, fun z => absurd z (by decide)⟩
                · rw [valV_put, if_neg (by decide)]; exact vw
                · rw [valV_put, if_neg (by decide)]; exact vp
                · rw [valV_put, if_neg (by decide)]; exact vb
                · rw [valV_put, if_neg (by decide)]; exact vm
                · rw [valV_put, if_pos rfl]
              · cases hi
                obtain ⟨p1, p2, p3, p4, p5⟩ := hk kh
                obtain ⟨a, ra, ea⟩ := va (Nat.le_refl 1)
                refine ⟨q, _, rfl, DPut.k (k := kh) hqz ll, _, _, rfl, p1, p2, p3, upd_same, p4, p5, ?_, ?_, ?_, ?_, fun _ => ⟨a, ra, ?_⟩, fun _ => ⟨z, rz, ?_⟩⟩
                · rw [valV_put, if_neg (by decide)]; exact vw
                · rw [valV_put, if_neg (by decide)]; exact vp
                · rw [valV_put, if_neg (by decide)]; exact vb
                · rw [valV_put, if_neg (by decide)]; exact vm
                · rw [valV_put, if_neg (by decide)]; exact ea
                · rw [valV_put, if_pos rfl]
            refine ⟨_, rfl, b, 3, rfl, bG, by decide, by decide, fun r o _ _ ob => ⟨rfl, _, rfl, ?_⟩⟩
            cases decide (V.int r = V.int 0) with
            | true =>
              refine iteY rfl ⟨_, rfl, b, 6, rfl, BoxAt.box ob, by decide, by decide, fun z Gz kz bz gz => ⟨_, rfl, _, rfl, ?_⟩⟩
              exact fin z Gz (by unfold remarkB; rw [gz, Bool.or_true]) (Kept.box.trans kz) bz
            | false =>
              refine iteN rfl ⟨_, rfl, _, rfl, ?_⟩
              exact fin "" _ (by decide +kernel) Kept.box (BoxAt.box ob)
          · rintro σ G' ⟨x3, kvs, rfl, kG, bG, hT, hq, hl, lk, vw, vp, vb, vm, va, vh⟩
            obtain ⟨a, ra, ea⟩ := va (by decide)
            obtain ⟨c, rc, ec⟩ := vh (by decide)
            exact ⟨_, kvs, a, c, rfl, kG, bG, hq, hl, lk, vw, vp, vb, vm, ra, rc, ea, ec⟩
        · rintro σ G ⟨x3, kvs, a, c, rfl, kG, bG, hq, hl, lk, vw, vp, vb, vm, ra, rc, va, vh⟩
          refine ⟨_, rfl, q, rfl, .inl ⟨_, .inl hq⟩, fun u nu => ?_⟩
          have ub : u ≠ b := bG.ne nu
          have qu : q ≠ u := ne_of_none hq nu
          have bu := bG.new nu (o := .dK [])
          have su := Same.new nu (o := .dK [])
          refine ⟨_, rfl, (by show 5 ≤ sizeLine; decide), fun l nl2 => ⟨b, l, _, rfl, bu.new nl2, bu.ne nl2, SqL.of upd_same, by decide, by decide, fun v o1 hv ob1 => ?_⟩⟩
          obtain ⟨n, rfl, n0, n3⟩ : ∃ n : Int, v = .int n ∧ 0 ≤ n ∧ n < 3 := by
            simp only [List.mem_cons, List.not_mem_nil, or_false] at hv
            rcases hv with rfl | rfl | rfl | rfl | rfl
            · exact ⟨_, rfl, by decide, by decide⟩
            · exact ⟨_, rfl, by decide, by decide⟩
            · exact ⟨_, rfl, by decide, by decide⟩
            · exact ⟨_, rfl, by decide, by decide⟩
            · exact ⟨_, rfl, by decide, by decide⟩
          refine ⟨_, rfl, b, 5, rfl, BoxAt.box ob1, by decide, by decide, fun r2 o2 _ _ ob2 => ⟨rfl, ?_⟩⟩
          have kk : Kept b (upd G u (.dK [])) (upd (upd (upd (upd G u (.dK [])) l (.lst [.int 0, .int 0, .int 0, .int 1, .int 2])) b o1) b o2) := ((Kept.new nl2).trans Kept.box).trans Kept.box
          have bb2 : BoxAt (upd (upd (upd (upd G u (.dK [])) l (.lst [.int 0, .int 0, .int 0, .int 1, .int 2])) b o1) b o2) b := BoxAt.box ob2
          generalize upd (upd (upd (upd G u (.dK [])) l (.lst [.int 0, .int 0, .int 0, .int 1, .int 2])) b o1) b o2 = G3 at *
          have kG3 : Kept b G G3 := (Kept.new nu).trans kk
          have hu3 : G3 u = some (.dK []) := kk _ _ ub upd_same
          have hq3 := kG3 _ _ qb hq
          have hl3 := kG3 _ _ lpb hl
          have lpu : lp ≠ u := ne_of_none hl nu
          refine ⟨hu3, [(kn, .int n), (kl, .bl (decide (V.int r2 = V.int 0)))], rfl, (by show 2 ≤ 15; decide), u, _, _, rfl, by rw [upd_ne qu]; exact hq3, upd_same, qu, by have := len2 [] kn kl (.int n) (.bl (decide (V.int r2 = V.int 0))); omega, _, rfl, ?_⟩
          refine k q lp ⟨wd, ps, bb, mm, a, c, n, decide (V.int r2 = V.int 0)⟩ _ (fun c w n1 e => ?_) ?_ ⟨gw, p0, by show ps.length ≤ 1000; omega, gp, ra, rc, n0, n3⟩ p8 ⟨_, upd_same, ?_, ?_, ?_, ?_, ?_, ?_, ?_, ?_, ?_⟩ nq nl
          · have hc := kG _ _ n1 e
            rw [upd_ne (ne_of_none e nq), upd_ne (ne_of_none hc nu)]
            exact kG3 _ _ n1 hc
          · obtain ⟨o3, e3, y3⟩ := bb2
            exact ⟨o3, by rw [upd_ne (Ne.symm qb), upd_ne (Ne.symm ub)]; exact e3, y3⟩
          · rw [upd_ne lpq, upd_ne lpu]
            exact hl3
          · rw [merge2 _ _ _ _ _ _ (by decide), if_neg (by decide), if_neg (by decide)]; exact vw
          · rw [merge2 _ _ _ _ _ _ (by decide), if_neg (by decide), if_neg (by decide)]; exact vp
          · rw [merge2 _ _ _ _ _ _ (by decide), if_neg (by decide), if_neg (by decide)]; exact vb
          · rw [merge2 _ _ _ _ _ _ (by decide), if_neg (by decide), if_neg (by decide)]; exact vm
          · rw [merge2 _ _ _ _ _ _ (by decide), if_neg (by decide), if_neg (by decide)]; exact va
          · rw [merge2 _ _ _ _ _ _ (by decide), if_neg (by decide), if_neg (by decide)]; exact vh
          · rw [merge2 _ _ _ _ _ _ (by decide), if_neg (by decide), if_pos rfl]
          · rw [merge2 _ _ _ _ _ _ (by decide), if_pos rfl]
end
end Lay
set_option Elab.async false
set_option linter.all false
set_option maxRecDepth 100000
set_option maxHeartbeats 4000000
set_option pp.maxSteps 1500
namespace Lay
open PySem PySem.Spec PyProof.Rows L2
section
variable {G : Hp} {q lp : Addr} {d : PD} (h : DictAt G q lp d)
include h
theorem dg_w : DGet G q (.str "word") (some (.str d.word)) := by
  obtain ⟨kvs, h1, _, h3⟩ := h
  exact .inl ⟨kvs, kw, .inl h1, rfl, h3.w.symm⟩
theorem dg_p : DGet G q (.str "parts") (some (.ref lp)) := by
  obtain ⟨kvs, h1, _, h3⟩ := h
  exact .inl ⟨kvs, kp, .inl h1, rfl, h3.p.symm⟩
theorem dg_b : DGet G q (.str "broken") (some (.bl d.broken)) := by
  obtain ⟨kvs, h1, _, h3⟩ := h
  exact .inl ⟨kvs, kb, .inl h1, rfl, h3.b.symm⟩
theorem dg_m : DGet G q (.str "marked") (some (.bl d.marked)) := by
  obtain ⟨kvs, h1, _, h3⟩ := h
  exact .inl ⟨kvs, km, .inl h1, rfl, h3.m.symm⟩
theorem dg_a : DGet G q (.str "ahead") (some (.str d.ahead)) := by
  obtain ⟨kvs, h1, _, h3⟩ := h
  exact .inl ⟨kvs, ka, .inl h1, rfl, h3.a.symm⟩
theorem dg_h : DGet G q (.str "behind") (some (.str d.behind)) := by
  obtain ⟨kvs, h1, _, h3⟩ := h
  exact .inl ⟨kvs, kh, .inl h1, rfl, h3.h.symm⟩
theorem dg_n : DGet G q (.str "blanks") (some (.int d.blanks)) := by
  obtain ⟨kvs, h1, _, h3⟩ := h
  exact .inl ⟨kvs, kn, .inl h1, rfl, h3.n.symm⟩
theorem dg_l : DGet G q (.str "left") (some (.bl d.left)) := by
  obtain ⟨kvs, h1, _, h3⟩ := h
  exact .inl ⟨kvs, kl, .inl h1, rfl, h3.l.symm⟩
theorem dg_lp : G lp = some (.lst (d.parts.map V.str)) := by
  obtain ⟨kvs, h1, h2, h3⟩ := h
  exact h2
end
theorem hu_of {k : Nat} {A : Around} (hr : Room k A) : A.units + 1 < cLine := by
  have := hr.units
  omega
def psPiece : List Str := ["self", "word", "parts", "broken", "marked", "ahead", "behind", "blanks", "left"]
def spLMade (K : PySem.W.Frag) (C : Addr) : Sp := fun vs H Q _ => ∃ (q lp : Addr) (d : PD), vs = [.ref q] ∧ DictAt H q lp d ∧ d.Ok ∧ d.parts.length ≤ 30 ∧ ∀ y H', Same H H' → H y = none → PieceAt K C H' y d → Q (.ref y) H'
def frontS (b : Bool) : Str := if b = true then Str.ofString "!" else Str.ofString ""
def endS (b : Bool) : Str := if b = true then Str.ofString "," else Str.ofString ""
def moreS (z : Str) : Str := if z.length = 0 then Str.ofString "" else Str.ofString "  # " ++ z
def flatS (d : PD) (mk : Bool) (rm : Str) : Str := (((((frontS d.left ++ d.word) ++ Str.ofString "(") ++ Txt.join ", " d.parts) ++ endS mk) ++ Str.ofString ")") ++ moreS rm
def spLFlat : Sp := fun vs H Q _ => ∃ (q lp : Addr) (d : PD) (mk : Bool) (rm : Str), vs = [.ref q, .bl mk, .str rm] ∧ DictAt H q lp d ∧ d.Ok ∧ d.parts.length ≤ 30 ∧ remarkB rm = true ∧ Q (.str (flatS d mk rm)) H
abbrev sLMade : Stmt := top 40
abbrev sLFlat : Stmt := top 41
theorem str_ne {z : Str} : decide (V.str z = V.str "") = decide (z.length = 0) := by
  apply decide_eq_decide.mpr
  constructor
  · intro e
    rw [V.str.inj e]
    decide
  · intro e
    have : z.cps = #[] := Array.eq_empty_of_size_eq_zero e
    cases z
    cases this
    rfl
section
variable {P : Program} {w : World} {K : PySem.W.Frag} {mg : Str → Option Value} {base : Heap}
theorem scLMade : FnScope ["_law_piece_here", "_law_words"] ["_law_piece_here"] (defScope sLMade) := ⟨rfl, rfl, rfl, by decide +kernel, rfl, by decide +kernel, by decide +kernel⟩
theorem ok_lmade {f fI C : Addr} {fd dI : FuncData} (F : Fun K "_law_made" "_law_made" sLMade f fd) (gC : mg "Piece" = some (.ref C)) (M : Mk K C fI)
    (GI : FnOk P w K mg base CX0 3 fI dI psPiece (spPieceI C K)) (bI : Binds K dI psPiece []) : FnOk P w K mg base CX0 5 f fd ["_law_piece_here"] (spLMade K C) := by
  refine F.ok scLMade (fun vs H Q E h => ?_) (fun cdv A outer s H vs Q E hr h => ?_)
  · obtain ⟨q, lp, d, rfl, _⟩ := h
    rfl
  · obtain ⟨q, lp, d, rfl, hD, o, few, k⟩ := h
    refine ⟨_, (pss_cons (ps_set (i := 1) scLMade.nd rfl (.inl rfl) (pe_tup (pa_cons (pe_dget (hu_of hr) (pv 0) pe_str (fun _ _ => rfl)) (pa_cons (pe_dget (hu_of hr) (pv 0) pe_str (fun _ _ => rfl)) (pa_cons (pe_dget (hu_of hr) (pv 0) pe_str (fun _ _ => rfl)) (pa_cons (pe_dget (hu_of hr) (pv 0) pe_str (fun _ _ => rfl)) (pa_cons (pe_dget (hu_of hr) (pv 0) pe_str (fun _ _ => rfl)) (pa_cons (pe_dget (hu_of hr) (pv 0) pe_str (fun _ _ => rfl)) pa_nil))))))))
      (pss_one (ps_ret (pe_make M GI hr (by rfl) gC bI .nil pass0 (pa_cons (pe_ix ix_tup (pv 1) pe_int (fun _ _ => rfl)) (pa_cons (pe_ix ix_tup (pv 1) pe_int (fun _ _ => rfl)) (pa_cons (pe_ix ix_tup (pv 1) pe_int (fun _ _ => rfl)) (pa_cons (pe_ix ix_tup (pv 1) pe_int (fun _ _ => rfl)) (pa_cons (pe_ix ix_tup (pv 1) pe_int (fun _ _ => rfl)) (pa_cons (pe_ix ix_tup (pv 1) pe_int (fun _ _ => rfl))
        (pa_cons (pe_dget (hu_of hr) (pv 0) pe_str (fun _ _ => rfl)) (pa_cons (pe_dget (hu_of hr) (pv 0) pe_str (fun _ _ => rfl)) pa_nil)))))))))))), ?_⟩
    refine ⟨_, rfl, q, _, rfl, dg_w hD, _, rfl, q, _, rfl, dg_p hD, _, rfl, q, _, rfl, dg_b hD, _, rfl, q, _, rfl, dg_m hD, _, rfl, q, _, rfl, dg_a hD, _, rfl, q, _, rfl, dg_h hD, (by show 6 ≤ sizeLine; decide), fun t nt => ?_⟩
    have st := Same.new nt (o := .tup [.str d.word, .ref lp, .bl d.broken, .bl d.marked, .str d.ahead, .str d.behind])
    have hD1 := hD.same st
    have ht : upd H t (.tup [.str d.word, .ref lp, .bl d.broken, .bl d.marked, .str d.ahead, .str d.behind]) t = some (.tup [.str d.word, .ref lp, .bl d.broken, .bl d.marked, .str d.ahead, .str d.behind]) := upd_same
    generalize upd H t (.tup [.str d.word, .ref lp, .bl d.broken, .bl d.marked, .str d.ahead, .str d.behind]) = G at *
    refine ⟨_, rfl, t, _, 0, _, rfl, rfl, SqT.of ht, rfl, _, rfl, t, _, 1, _, rfl, rfl, SqT.of ht, rfl, _, rfl, t, _, 2, _, rfl, rfl, SqT.of ht, rfl, _, rfl, t, _, 3, _, rfl, rfl, SqT.of ht, rfl, _, rfl, t, _, 4, _, rfl, rfl, SqT.of ht, rfl, _, rfl, t, _, 5, _, rfl, rfl, SqT.of ht, rfl, _, rfl, q, _, rfl, dg_n hD1, _, rfl, q, _, rfl, dg_l hD1, fun x dx nx nd ne => ?_⟩
    have zz := (Same.new nd (o := .own x)).trans (Same.new (fresh_own (o := .own x) nx ne) (o := .ins C dx []))
    refine ⟨x, lp, dx, d, rfl, o, .inl (zz _ _ (dg_lp hD1)), upd_same, fun H2 t2 kp2 hx ht2 => ⟨rfl, ?_⟩⟩
    have s2 := made_same nx nd kp2
    exact k x H2 (st.trans s2) (st.free nx) ⟨dx, t2, hx, ht2⟩
theorem scLFlat : FnScope ["_law_piece_here", "_law_is_marked", "_law_remark", "_law_end", "_law_front", "_law_more"] ["_law_piece_here", "_law_is_marked", "_law_remark"] (defScope sLFlat) := ⟨rfl, rfl, rfl, by decide +kernel, rfl, by decide +kernel, by decide +kernel⟩
theorem ok_lflat {f : Addr} {fd : FuncData} (F : Fun K "_law_flat" "_law_flat" sLFlat f fd) : FnOk P w K mg base CX0 1 f fd ["_law_piece_here", "_law_is_marked", "_law_remark"] spLFlat := by
  refine F.ok scLFlat (fun vs H Q E h => ?_) (fun cdv A outer s H vs Q E hr h => ?_)
  · obtain ⟨q, lp, d, mk, rm, rfl, _⟩ := h
    rfl
  · obtain ⟨q, lp, d, mk, rm, rfl, hD, o, few, hrm, k⟩ := h
    refine ⟨_, (C8.pss_cut (ps_set (i := 3) scLFlat.nd rfl (.inl rfl) (pe_ifExp (pt_val (pv 1)) pe_str pe_str))
      (C8.pss_cut (ps_set (i := 4) scLFlat.nd rfl (.inl rfl) (pe_ifExp (pt_val (pe_dget (hu_of hr) (pv 0) pe_str (fun _ _ => rfl))) pe_str pe_str))
      (C8.pss_cut (ps_set (i := 5) scLFlat.nd rfl (.inl rfl) (pe_ifExp (pt_cmpR op_ne (pv 2) pe_str (nomark _)) (pe_op op_add_str pe_str (pv 2)) pe_str))
      (pss_one (ps_ret (pe_op op_add_str (pe_op op_add_str (pe_op op_add_str (pe_op op_add_str (pe_op op_add_str (pe_op op_add_str (pv 4) (pe_dget (hu_of hr) (pv 0) pe_str (fun _ _ => rfl))) pe_str) (pe_bm PySem.F.plainAttrs_str PySem.F.slot_str_join PySem.F.type_str_join mt_join pe_str (pa_cons (pe_dget (hu_of hr) (pv 0) pe_str (fun _ _ => rfl)) pa_nil))) (pv 3)) pe_str) (pv 5))))))), ?_⟩
    refine ⟨fun σ G => σ = [some (.ref q), some (.bl mk), some (.str rm), some (.str (endS mk)), none, none] ∧ G = H, ?_, ?_⟩
    · refine ⟨_, rfl, mk, rfl, ?_⟩
      cases mk with
      | true => exact iteY rfl ⟨rfl, rfl⟩
      | false => exact iteN rfl ⟨rfl, rfl⟩
    rintro σ G ⟨rfl, rfl⟩
    refine ⟨fun σ G' => σ = [some (.ref q), some (.bl mk), some (.str rm), some (.str (endS mk)), some (.str (frontS d.left)), none] ∧ G' = G, ?_, ?_⟩
    · refine ⟨_, rfl, q, _, rfl, dg_l hD, d.left, rfl, ?_⟩
      cases e : d.left with
      | true => exact iteY rfl ⟨rfl, rfl⟩
      | false => exact iteN rfl ⟨rfl, rfl⟩
    rintro σ G' ⟨rfl, rfl⟩
    have lr := remarkB_len hrm
    have j5 : (Str.ofString "  # ").length = 4 := by decide
    refine ⟨fun σ G => σ = [some (.ref q), some (.bl mk), some (.str rm), some (.str (endS mk)), some (.str (frontS d.left)), some (.str (moreS rm))] ∧ G = G', ?_, ?_⟩
    · refine ⟨_, rfl, rfl, _, rfl, ?_⟩
      rw [str_ne]
      by_cases e : rm.length = 0
      · refine iteN (by rw [e]; rfl) ⟨?_, rfl⟩
        unfold moreS
        rw [if_pos e]
        rfl
      · refine iteY (by simp [e]) ⟨_, rfl, _, _, rfl, rfl, fitsN (by omega), ?_, rfl⟩
        unfold moreS
        rw [if_neg e]
        rfl
    rintro σ G ⟨rfl, rfl⟩
    have lf : (frontS d.left).length ≤ 1 := by unfold frontS; split <;> decide
    have le : (endS mk).length ≤ 1 := by unfold endS; split <;> decide
    have lm : (moreS rm).length ≤ 10 := by
      unfold moreS
      split
      · decide
      · rw [Str.length_append]
        omega
    have lw := nameB_len o.word
    have j1 : (Str.ofString ", ").length = 2 := by decide
    have j2 : (Str.ofString "(").length = 1 := by decide
    have j3 : (Str.ofString ")").length = 1 := by decide
    have hsum := sum_few (n := 6) fun z hz => nameB_len (o.parts z hz)
    have hjoin := join_le ", " d.parts
    rw [j1] at hjoin
    refine ⟨_, rfl, _, rfl, q, _, rfl, dg_w hD, _, _, rfl, rfl, fitsN (by omega), _, _, rfl, rfl, fitsN (by rw [Str.length_append]; omega), rfl, _, rfl, q, _, rfl, dg_p hD, _, lp, d.parts, rfl, rfl, .inl (SqL.of (dg_lp hD)), by rw [j1]; omega, _, _, rfl, rfl, fitsN (by rw [Str.length_append, Str.length_append]; omega), _, rfl, _, _, rfl, rfl, fitsN (by rw [Str.length_append, Str.length_append, Str.length_append]; omega), _, _, rfl, rfl, fitsN (by rw [Str.length_append, Str.length_append, Str.length_append, Str.length_append]; omega), _, rfl, _, _, rfl, rfl, fitsN (by rw [Str.length_append, Str.length_append, Str.length_append, Str.length_append, Str.length_append]; omega), k⟩
end
end Lay
set_option Elab.async false
set_option linter.all false
set_option maxRecDepth 100000
set_option maxHeartbeats 4000000
set_option pp.maxSteps 1500
namespace Lay
open PySem PySem.Spec PyProof.Rows L2
theorem str_assoc (a b c : Str) : (a ++ b) ++ c = a ++ (b ++ c) := by
  cases a
  cases b
  cases c
  show Str.mk _ = Str.mk _
  congr 1
  exact Array.append_assoc
theorem e_app (a : Str) : Str.empty ++ a = a := by
  cases a
  show Str.mk _ = Str.mk _
  congr 1
  exact Array.empty_append
theorem app_e (a : Str) : a ++ Str.ofString "" = a := by
  have e : Str.ofString "" = ⟨#[]⟩ := by decide
  rw [e]
  cases a
  rfl
theorem tail_eq (d : PD) : tailS d = Str.ofString ")" ++ moreS d.behind := by
  unfold tailS moreS
  split
  · rw [app_e]
  · rw [e_app, show Str.ofString ")  # " = Str.ofString ")" ++ Str.ofString "  # " from by decide, str_assoc]
theorem head_eq (d : PD) : headS d = (frontS d.left ++ d.word) ++ Str.ofString "(" := by
  unfold headS
  rw [e_app]
  rfl
theorem flat_eq (d : PD) : flatS d d.marked d.behind = ((headS d ++ Txt.join ", " d.parts) ++ commaS d) ++ tailS d := by
  rw [tail_eq, head_eq]
  unfold flatS
  rw [str_assoc (_ ++ _) (Str.ofString ")")]
  rfl
theorem remark_eq (d : PD) : remarkS d = if d.ahead.length = 0 then [] else [Str.ofString "# " ++ d.ahead] := by
  unfold remarkS
  rw [e_app]
def rowI (d : PD) (i : Nat) (z : Str) : Str := if i + 1 < d.parts.length then itemS z else lastS d z
theorem snoc_of {α : Type} {l : List α} (h : 0 < l.length) : ∃ init z, l = init ++ [z] := ⟨l.dropLast, l.getLast (List.ne_nil_of_length_pos h), (List.dropLast_concat_getLast _).symm⟩
theorem items_eq {d : PD} (h : 0 < d.parts.length) : d.parts.mapIdx (rowI d) = d.parts.dropLast.map itemS ++ [lastS d (d.parts.getLastD Str.empty)] := by
  obtain ⟨init, z, e⟩ := snoc_of h
  have hl : d.parts.length = init.length + 1 := by rw [e, List.length_append]; rfl
  rw [e, List.mapIdx_concat, List.dropLast_concat]
  have e1 : (init ++ [z]).getLastD Str.empty = z := by simp
  have e2 : rowI d init.length z = lastS d z := by
    unfold rowI
    rw [if_neg (by omega)]
  rw [e1, e2]
  congr 1
  apply List.ext_getElem?
  intro i
  rw [List.getElem?_mapIdx, List.getElem?_map]
  cases e3 : init[i]? with
  | none => rfl
  | some y =>
    have li := (List.getElem?_eq_some_iff.mp e3).1
    show some (rowI d i y) = some (itemS y)
    unfold rowI
    rw [if_pos (by omega)]
abbrev sLLines : Stmt := top 42
abbrev sLText : Stmt := top 43
def llN : List Str := ["_law_piece_here", "_law_found", "_law_last", "_law_at", "_law_part"]
def spLLines : Sp := fun vs H Q _ => ∃ (q lp : Addr) (d : PD), vs = [.ref q] ∧ DictAt H q lp d ∧ d.Ok ∧ d.parts.length ≤ 30 ∧ ∀ l H', Same H H' → H l = none → H' l = some (.lst ((rowsS d).map V.str)) → Q (.ref l) H'
theorem same_put {G G' : Hp} {g : Addr} {o : HO} (ng : G g = none) (s : Same G G') : Same G (upd G' g o) := fun a u e => by
  rw [upd_ne (ne_of_none e ng)]
  exact s _ _ e
section
variable {P : Program} {w : World} {K : PySem.W.Frag} {mg : Str → Option Value} {base : Heap}
theorem scLLines : FnScope llN ["_law_piece_here"] (defScope sLLines) := ⟨rfl, rfl, rfl, by decide +kernel, rfl, by decide +kernel, by decide +kernel⟩
theorem ok_llines {f fF : Addr} {fd dF : FuncData} (F : Fun K "_law_lines" "_law_lines" sLLines f fd) (hlen : mg "len" = none) (henum : mg "enumerate" = none)
    (GF : FnOk P w K mg base CX0 1 fF dF ["_law_piece_here", "_law_is_marked", "_law_remark"] spLFlat) (gF : mg "_law_flat" = some (.ref fF)) (kF : PySem.W.keepIn K (.ref fF) = true) (bF : Binds K dF ["_law_piece_here", "_law_is_marked", "_law_remark"] []) : FnOk P w K mg base CX0 2 f fd ["_law_piece_here"] spLLines := by
  refine F.ok scLLines (fun vs H Q E h => ?_) (fun cdv A outer s H vs Q E hr h => ?_)
  · obtain ⟨q, lp, d, rfl, _⟩ := h
    rfl
  · obtain ⟨q, lp, d, rfl, hD, o, few, k⟩ := h
    refine ⟨_, (pss_cons (ps_set (i := 1) scLLines.nd rfl (.inl rfl) (pe_op op_rep (pe_lst (pa_cons pe_str pa_nil)) (pe_dget (hu_of hr) (pv 0) pe_str (fun _ _ => rfl))))
      (C8.pss_cut (ps_if (pt_cmpR op_ne (pe_dget (hu_of hr) (pv 0) pe_str (fun _ _ => rfl)) pe_str (nomark _)) (pss_one (ps_expr (pe_bm PySem.F.plainAttrs_list PySem.F.slot_list_append PySem.F.type_list_append mt_append (pv 1) (pa_cons (pe_op op_add_str pe_str (pe_dget (hu_of hr) (pv 0) pe_str (fun _ _ => rfl))) pa_nil)))) pss_nil)
      (pss_cons (ps_if (pt_not (pt_val (pe_dget (hu_of hr) (pv 0) pe_str (fun _ _ => rfl)))) (pss_cons (ps_expr (pe_bm PySem.F.plainAttrs_list PySem.F.slot_list_append PySem.F.type_list_append mt_append (pv 1) (pa_cons (pe_call GF hr (by rfl) gF kF bF .nil pass0 (pa_cons (pv 0) (pa_cons (pe_dget (hu_of hr) (pv 0) pe_str (fun _ _ => rfl)) (pa_cons (pe_dget (hu_of hr) (pv 0) pe_str (fun _ _ => rfl)) pa_nil)))) pa_nil))) (pss_one (ps_ret (pv 1)))) pss_nil)
      (C8.pss_cut (ps_expr (pe_bm PySem.F.plainAttrs_list PySem.F.slot_list_append PySem.F.type_list_append mt_append (pv 1) (pa_cons (pe_op op_add_str (pe_op op_add_str (pe_ifExp (pt_val (pe_dget (hu_of hr) (pv 0) pe_str (fun _ _ => rfl))) pe_str pe_str) (pe_dget (hu_of hr) (pv 0) pe_str (fun _ _ => rfl))) pe_str) pa_nil)))
      (pss_cons (ps_set (i := 2) scLLines.nd rfl (.inl rfl) (pe_op op_sub (pe_callB call_len_seq (by rfl) hlen (by decide +kernel) (pa_cons (pe_dget (hu_of hr) (pv 0) pe_str (fun _ _ => rfl)) pa_nil)) pe_int))
      (pss_cons (ps_for PassesOwn.never rfl (pi_enum2 (by rfl) henum (pa_cons (pe_dget (hu_of hr) (pv 0) pe_str (fun _ _ => rfl)) pa_nil)) (pg_tup rfl (pgs_cons (pg_name (i := 3) scLLines.nd rfl (.inl rfl)) (pgs_cons (pg_name (i := 4) scLLines.nd rfl (.inl rfl)) pgs_nil)))
        (pss_one (ps_expr (pe_bm PySem.F.plainAttrs_list PySem.F.slot_list_append PySem.F.type_list_append mt_append (pv 1) (pa_cons (pe_op op_add_str (pe_op op_add_str pe_str (pv 4)) (pe_ifExp (PW.pt (pw_or (pt_cmpR op_lt (pv 3) (pv 2) (nomark _)) (pw_or1 (pt_val (pe_dget (hu_of hr) (pv 0) pe_str (fun _ _ => rfl)))))) pe_str pe_str)) pa_nil)))))
      (pss_cons (ps_expr (pe_bm PySem.F.plainAttrs_list PySem.F.slot_list_append PySem.F.type_list_append mt_append (pv 1) (pa_cons (pe_op op_add_str pe_str (pe_ifExp (pt_cmpR op_ne (pe_dget (hu_of hr) (pv 0) pe_str (fun _ _ => rfl)) pe_str (nomark _)) (pe_op op_add_str pe_str (pe_dget (hu_of hr) (pv 0) pe_str (fun _ _ => rfl))) pe_str)) pa_nil)))
      (pss_one (ps_ret (pv 1)))))))))), ?_⟩
    have b0 := o.b0
    have b3 := o.b3
    have la := remarkB_len o.ahead
    have lh := remarkB_len o.behind
    have lw := nameB_len o.word
    have j2 : (Str.ofString "# ").length = 2 := by decide
    refine ⟨(by show 1 ≤ sizeLine; decide), fun l0 n0 => ?_⟩
    have s0 := Same.new n0 (o := .lst [.str ""])
    refine ⟨_, rfl, q, _, rfl, dg_n (hD.same s0), l0, d.blanks, _, rfl, rfl, upd_same, by omega, by omega, fitsN (by show 1 * d.blanks.toNat ≤ 1000000; omega), fun l n1 => ?_⟩
    rw [flat_one]
    have s1 := Same.new n1 (o := .lst (List.replicate d.blanks.toNat (V.str "")))
    have h1 : upd (upd H l0 (.lst [.str ""])) l (.lst (List.replicate d.blanks.toNat (V.str ""))) l = some (.lst (List.replicate d.blanks.toNat (V.str ""))) := upd_same
    have s01 := s0.trans s1
    have nl : H l = none := s0.free n1
    generalize upd (upd H l0 (.lst [.str ""])) l (.lst (List.replicate d.blanks.toNat (V.str ""))) = G at *
    have rb : List.replicate d.blanks.toNat (V.str "") = (List.replicate d.blanks.toNat (Str.ofString "")).map V.str := by rw [List.map_replicate]
    refine ⟨fun σ G' => σ = [some (.ref q), some (.ref l), none, none, none] ∧ Same H G' ∧ G' l = some (.lst ((List.replicate d.blanks.toNat (Str.ofString "") ++ remarkS d).map V.str)), ?_, ?_⟩
    · refine ⟨_, rfl, q, _, rfl, dg_a (hD.same s01), rfl, _, rfl, ?_⟩
      rw [str_ne, remark_eq]
      by_cases e : d.ahead.length = 0
      · refine iteN (by rw [e]; rfl) ⟨rfl, s01, ?_⟩
        rw [if_pos e, List.append_nil, h1, rb]
      · refine iteY (by simp [e]) ⟨_, rfl, .inl ⟨rfl, _, SqL.of h1⟩, _, rfl, q, _, rfl, dg_a (hD.same s01), _, _, rfl, rfl, fitsN (by omega), l, _, _, rfl, rfl, h1, by rw [List.length_replicate]; exact small1000 (by omega), rfl, same_put nl s01, ?_⟩
        rw [upd_same, if_neg e, rb, List.map_append]
        rfl
    rintro σ G1 ⟨rfl, sG, hl⟩
    have sD := hD.same sG
    have lr : (List.replicate d.blanks.toNat (Str.ofString "") ++ remarkS d).length ≤ 4 := by
      rw [List.length_append, List.length_replicate, remark_eq]
      split
      · show _ + 0 ≤ 4
        omega
      · show _ + 1 ≤ 4
        omega
    have er : rowsS d = (List.replicate d.blanks.toNat (Str.ofString "") ++ remarkS d) ++ bodyS d := by
      unfold rowsS
      rw [List.append_assoc]
    generalize List.replicate d.blanks.toNat (Str.ofString "") ++ remarkS d = R at *
    have hH := headS_len o
    have hC := commaS_len (d := d)
    have j3 : (Str.ofString "  ").length = 2 := by decide
    have j4 : (Str.ofString ",").length = 1 := by decide
    have j5 : (Str.ofString ")").length = 1 := by decide
    have j6 : (Str.ofString "  # ").length = 4 := by decide
    have j7 : (Str.ofString "(").length = 1 := by decide
    have j8 : (Str.ofString "!").length = 1 := by decide
    have j9 : (Str.ofString "").length = 0 := by decide
    refine ⟨_, rfl, q, _, rfl, dg_b sD, d.broken, rfl, ?_⟩
    by_cases eb : d.broken = true
    · refine iteN (by rw [eb]; rfl) ?_
      have ebo : bodyS d = headS d :: ((d.parts.dropLast.map itemS) ++ [lastS d (d.parts.getLastD Str.empty), tailS d]) := by
        unfold bodyS
        rw [if_pos eb]
      refine ⟨fun σ G' => σ = [some (.ref q), some (.ref l), none, none, none] ∧ Same H G' ∧ G' l = some (.lst ((R ++ [headS d]).map V.str)), ?_, ?_⟩
      · refine ⟨_, rfl, .inl ⟨rfl, _, SqL.of hl⟩, _, rfl, q, _, rfl, dg_l sD, d.left, rfl, ?_⟩
        rw [head_eq]
        unfold frontS
        by_cases el : d.left = true
        · refine iteY el ⟨_, rfl, q, _, rfl, dg_w sD, _, _, rfl, rfl, fitsN (by omega), _, _, rfl, rfl, fitsN (by rw [Str.length_append]; omega), l, _, _, rfl, rfl, hl, by rw [List.length_map]; exact small1000 (by omega), rfl, same_put nl sG, ?_⟩
          rw [upd_same, if_pos el, List.map_append]
          rfl
        · refine iteN (by simpa using el) ⟨_, rfl, q, _, rfl, dg_w sD, _, _, rfl, rfl, fitsN (by omega), _, _, rfl, rfl, fitsN (by rw [Str.length_append]; omega), l, _, _, rfl, rfl, hl, by rw [List.length_map]; exact small1000 (by omega), rfl, same_put nl sG, ?_⟩
          rw [upd_same, if_neg el, List.map_append]
          rfl
      rintro σ G2 ⟨rfl, s2, hl2⟩
      have sD2 := hD.same s2
      refine ⟨_, rfl, q, _, rfl, dg_p sD2, lp, _, rfl, .inl (SqL.of (dg_lp sD2)), _, _, rfl, rfl, ?_⟩
      refine ⟨_, rfl, q, _, rfl, dg_p sD2, lp, d.parts.map V.str, rfl, .inl ⟨SqL.of (dg_lp sD2), for_it walk_enum (fun i σ G' => (∃ x3 x4, σ = [some (.ref q), some (.ref l), some (.int (((d.parts.map V.str).length : Int) - 1)), x3, x4]) ∧ Same H G' ∧ G' l = some (.lst ((R ++ headS d :: (d.parts.take i).mapIdx (rowI d)).map V.str))) ⟨⟨_, _, rfl⟩, s2, hl2⟩ (fun i σ G' _ z => SqL.of (dg_lp (hD.same z.2.1))) ?_ ?_⟩⟩
      · rintro i x σ G' G'' hi ⟨⟨x3, x4, rfl⟩, sG', hl'⟩ ⟨T0, u, v, rfl, hT, rfl, e1, e2⟩
        cases e1
        have e2 : (d.parts.map V.str)[i]? = some v := e2
        obtain ⟨y, ey, rfl⟩ : ∃ y, d.parts[i]? = some y ∧ V.str y = v := by
          rw [List.getElem?_map] at e2
          cases e : d.parts[i]? with
          | none => rw [e] at e2; cases e2
          | some y => rw [e] at e2; exact ⟨y, rfl, Option.some.inj e2⟩
        have li := (List.getElem?_eq_some_iff.mp ey).1
        have ly := nameB_len (o.parts y (List.mem_of_getElem? ey))
        have sT := Same.new hT (o := .tup [.int (i : Nat), .str y])
        have hT' := sT _ _ hl'
        have sD' := hD.same (sG'.trans sT)
        have grow : (d.parts.take (i + 1)).mapIdx (rowI d) = (d.parts.take i).mapIdx (rowI d) ++ [rowI d i y] := by
          rw [List.take_succ, ey]
          show ((d.parts.take i) ++ [y]).mapIdx (rowI d) = _
          rw [List.mapIdx_concat, List.length_take, Nat.min_eq_left (by omega)]
        have grow2 : ∀ z : Str, rowI d i y = (Str.ofString "  " ++ y) ++ z → ((R ++ headS d :: (d.parts.take i).mapIdx (rowI d)).map V.str) ++ [V.str ((Str.ofString "  " ++ y) ++ z)] = (R ++ headS d :: (d.parts.take (i + 1)).mapIdx (rowI d)).map V.str := fun z ez => by
          rw [grow, ez]
          simp
        have many : ((R ++ headS d :: (d.parts.take i).mapIdx (rowI d)).map V.str).length < sizeLine := by
          rw [List.length_map, List.length_append, List.length_cons, List.length_mapIdx, List.length_take]
          exact small1000 (by omega)
        refine ⟨T0, _, rfl, SqT.of upd_same, rfl, _, _, rfl, _, _, rfl, rfl, ?_⟩
        refine ⟨_, rfl, .inl ⟨rfl, _, SqL.of hT'⟩, _, rfl, _, _, rfl, rfl, fitsN (by omega), _, rfl, _, rfl, _, _, rfl, rfl, _, rfl, ?_⟩
        have ll : (d.parts.map V.str).length = d.parts.length := List.length_map ..
        by_cases c : i + 1 < d.parts.length
        · have hz : rowI d i y = (Str.ofString "  " ++ y) ++ Str.ofString "," := by
            unfold rowI itemS
            rw [if_pos c, e_app]
          refine iteY (decide_eq_true (by omega)) (iteY rfl ⟨_, _, rfl, rfl, fitsN (by rw [Str.length_append]; omega), l, _, _, rfl, rfl, hT', many, ⟨_, _, rfl⟩, same_put nl (sG'.trans sT), ?_⟩)
          rw [upd_same, grow2 _ hz]
        · refine iteN (decide_eq_false (by omega)) ⟨_, rfl, q, _, rfl, dg_m sD', d.marked, rfl, ?_⟩
          by_cases em : d.marked = true
          · have hz : rowI d i y = (Str.ofString "  " ++ y) ++ Str.ofString "," := by
              unfold rowI lastS commaS
              rw [if_neg c, if_pos em, e_app]
            refine iteY em ⟨_, _, rfl, rfl, fitsN (by rw [Str.length_append]; omega), l, _, _, rfl, rfl, hT', many, ⟨_, _, rfl⟩, same_put nl (sG'.trans sT), ?_⟩
            rw [upd_same, grow2 _ hz]
          · have hz : rowI d i y = (Str.ofString "  " ++ y) ++ Str.ofString "" := by
              unfold rowI lastS commaS
              rw [if_neg c, if_neg em, e_app]
            refine iteN (by simpa using em) ⟨_, _, rfl, rfl, fitsN (by rw [Str.length_append]; omega), l, _, _, rfl, rfl, hT', many, ⟨_, _, rfl⟩, same_put nl (sG'.trans sT), ?_⟩
            rw [upd_same, grow2 _ hz]
      · rintro σ G3 ⟨⟨x3, x4, rfl⟩, s3, hl3⟩
        rw [List.length_map, List.take_length, items_eq o.some] at hl3
        have sD3 := hD.same s3
        have many : ((R ++ headS d :: (d.parts.dropLast.map itemS ++ [lastS d (d.parts.getLastD Str.empty)])).map V.str).length < sizeLine := by
          rw [List.length_map, List.length_append, List.length_cons, List.length_append, List.length_map, List.length_dropLast]
          refine small1000 ?_
          show _ + (_ + 1 + 1) < 1000
          omega
        have last : ((R ++ headS d :: (d.parts.dropLast.map itemS ++ [lastS d (d.parts.getLastD Str.empty)])).map V.str) ++ [V.str (tailS d)] = (rowsS d).map V.str := by
          rw [er, ebo]
          simp
        refine ⟨_, rfl, .inl ⟨rfl, _, SqL.of hl3⟩, _, rfl, q, _, rfl, dg_h sD3, rfl, _, rfl, ?_⟩
        rw [str_ne]
        rw [tail_eq] at last
        by_cases e : d.behind.length = 0
        · refine iteN (by rw [e]; rfl) ⟨_, _, rfl, rfl, fitsN (by omega), l, _, _, rfl, rfl, hl3, many, _, rfl, k l _ (same_put nl s3) nl ?_⟩
          rw [upd_same, ← last]
          unfold moreS
          rw [if_pos e]
        · refine iteY (by simp [e]) ⟨_, rfl, q, _, rfl, dg_h sD3, _, _, rfl, rfl, fitsN (by omega), _, _, rfl, rfl, fitsN (by rw [Str.length_append]; omega), l, _, _, rfl, rfl, hl3, many, _, rfl, k l _ (same_put nl s3) nl ?_⟩
          rw [upd_same, ← last]
          unfold moreS
          rw [if_neg e]
    · refine iteY (by simpa using eb) ⟨_, rfl, .inl ⟨rfl, _, SqL.of hl⟩, _, rfl, _, rfl, q, _, rfl, dg_m sD, _, rfl, q, _, rfl, dg_h sD, q, lp, d, d.marked, d.behind, rfl, sD, o, few, o.behind, l, _, _, rfl, rfl, hl, by rw [List.length_map]; exact small1000 (by omega), _, rfl, k l _ (same_put nl sG) nl ?_⟩
      have ebo : bodyS d = [((headS d ++ Txt.join ", " d.parts) ++ commaS d) ++ tailS d] := by
        unfold bodyS
        rw [if_neg eb]
      rw [upd_same, er, ebo, flat_eq, List.map_append]
      rfl
end
end Lay
set_option Elab.async false
set_option linter.all false
set_option maxRecDepth 100000
set_option maxHeartbeats 4000000
set_option pp.maxSteps 1500
namespace Lay
open PySem PySem.Spec PyProof.Rows L2
section
variable {X : Cx} {CX : CXT} {C f : Addr} {n : Nat} {fd : FuncData} {ps : List Str} {sp : Sp} {E : L2.St → XK}
theorem run_subS {A : Around} {pins : List (Addr × Obj)} {σ : L2.St} {H : Hp} {s : Shared} {Q : VK} {us : List Value} {vs : List V} (F : FnOk X.prog X.w X.K X.mg X.base CX n f fd ps sp) (hr : Sub X n A) (hb : Binds X.K fd ps []) (hx : PassesAt CX X σ (E σ))
    (I : Inv X pins σ H s) (r : Vals vs us) (h : sp vs H Q (E σ)) : wpAny (model X.prog X.w) A (call (.ref f) us) (EP X pins σ Q) X.xe s := by
  have hl : us.length = ps.length := by rw [← r.length]; exact F.len _ _ _ _ h
  have b := hb s us I.kIn (by rw [List.append_nil]; exact hl)
  rw [List.append_nil] at b
  have e := I.env0
  have e0 : Env0 X.prog X.w X.K X.mg X.base A X.stack s H := ⟨by rw [hr.fr]; exact e.frames, e.mod, e.bs, e.bsz, e.funs, e.frf, e.hok, e.bare⟩
  refine wpAny_call (codeAny_mono (F.run A X.stack s H ⟨us, []⟩ us vs Q (E σ) hr.room e0 b r h) fun r s' hq => ?_)
  cases r with
  | error er => exact hx pins H s er s' I hq
  | ok fl =>
    cases fl with
    | ret u => exact I.after hq
    | next => exact False.elim hq
    | brk => exact False.elim hq
    | cont => exact False.elim hq
def tIxO (C : Addr) (sp : Sp) (E : L2.St → XK) (ta tb : TE) : TE := fun σ H Q => ta σ H fun x H1 => tb σ H1 fun y H2 => ∃ a dx fs, x = .ref a ∧ H2 a = some (.ins C dx fs) ∧ sp [.ref a, y] H2 Q (E σ)
/-- a[b] by its __getitem__ -/
theorem pe_ixO {a b : Expr} {ta tb : TE} {pos : Pos} (F : FnOk X.prog X.w X.K X.mg X.base CX n f fd ps sp) (hs : PySem.W.findIn X.K (.ref C) "__getitem__" = some (some (.ref f))) (hfi : PySem.W.fnIn X.K f = true) (hf : PySem.W.isFn X.K (.ref f) = true) (hr : Room (n + 1) X.A) (hb : Binds X.K fd ps [])
    (hx : ∀ σ, PassesAt CX X σ (E σ)) (ha : PE X a ta) (hbx : PE X b tb) (hsl : ∀ x i, subscripted b true (.ref x) i = runValue (.builtin "lifetime.subscript" ⟨[.ref x, i], []⟩) := by intros; with_unfolding_all rfl) : PE X (.Subscript a b pos) (tIxO C sp E ta tb) := by
  refine ⟨fun pins s σ H Q I h => ?_⟩
  refine Subscript_ (binT ha hbx I (R := fun x y H2 => ∃ a dx fs, x = .ref a ∧ H2 a = some (.ins C dx fs) ∧ sp [.ref a, y] H2 Q (E σ)) h fun v u s2 x y H2 I2 rx ry q => ?_)
  obtain ⟨p, dx, fs, rfl, hp, q⟩ := q
  cases rx
  obtain ⟨mA, J, _⟩ := ins_get I2.hok hp
  obtain ⟨od, J, _⟩ := J.look
  obtain ⟨m, hF⟩ := I2.fr
  exact PySem.W.sub_K hF I2.ok.mod.kin J hs hfi hf (run_subS (vs := [V.ref p, y]) F ⟨hr.in1, rfl⟩ hb (hx σ) I2 (.cons rfl (.cons ry .nil)) q) (hsl _ _)
def tMethE (C : Addr) (m : Str) (sp : Sp) (E : L2.St → XK) (ta : TE) (t : TA) : TE := fun σ H Q => ta σ H fun x H1 => ∃ a dx fs, x = .ref a ∧ H1 a = some (.ins C dx fs) ∧ fs.lookup m = none ∧ t σ H1 fun vs H2 => sp (x :: vs) H2 Q (E σ)
theorem pe_methE {o e : Expr} {es : List Expr} {m : Str} {apos pos : Pos} {ta : TE} {t : TA} {pl : Sem Bool} (he : PE X o ta) (c : Cls X.K C) (hm : Meth X.K C m f) (F : FnOk X.prog X.w X.K X.mg X.base CX n f fd ps sp) (hr : Room n X.A) (hb : Binds X.K fd ps []) (hx : ∀ σ, PassesAt CX X σ (E σ)) (ha : PA X (e :: es) t)
    (hst : starEach (e :: es) X.env = (false, eval e X.env) :: starEach es X.env := by rfl) (hpl : (backTo pos (starEach es X.env)).any (·.1) = false := by rfl)
    (ht : eval (.Call (.Attribute o m apos) (e :: es) [] pos) X.env = (do
      let ov ← eval o X.env
      standAt apos.atName
      let (f, first) ← holding [ov] (getMethod ov m pl)
      callWith pos f first (backTo pos (starEach (e :: es) X.env)) (backToKw pos (keywordEach [] X.env))) := by rfl) :
    PE X (.Call (.Attribute o m apos) (e :: es) [] pos) (tMethE C m sp E ta t) := by
  refine ⟨fun pins s σ H Q I h => ?_⟩
  refine PySem.W.methodCall_KW (pl := pl) (thn (he.run pins s σ H _ I h) fun u s1 ⟨x, H1, I1, rx, a, dx, fs, ex, ea, l, q⟩ => ?_) ht
  subst ex
  obtain rfl : u = Value.ref a := rx
  refine getmeth_ok I1 ea c hm l ?_
  refine PySem.W.callWith_K (first := [.ref a]) (h₀ := X.base) I.ok.mod.kin hm.kp (thn (ha.run pos pins s1 σ H1 _ I1 q) fun us s2 ⟨vs, H2, I2, r, q2⟩ => ⟨I2.kIn, ?_⟩) hst hpl
  exact run_fnS (us := .ref a :: us) (vs := .ref a :: vs) F hr hb (hx σ) I2 (.cons rfl r) q2
theorem passE0 {σ : L2.St} : PassesAt CX0 X σ ((fun _ => E0) σ) := fun _ _ _ _ _ _ h => h.elim
end

/-- the law's dicts, one by one -/
def DictsAt (H : Hp) (xs : List V) (ds : List PD) : Prop := xs.length = ds.length ∧ (∀ d ∈ ds, d.Ok ∧ d.parts.length ≤ 8) ∧ ∀ (i : Nat) (x : V) (d : PD), xs[i]? = some x → ds[i]? = some d → ∃ q lp, x = .ref q ∧ DictAt H q lp d
theorem DictsAt.same {H H' : Hp} {xs : List V} {ds : List PD} (s : Same H H') (h : DictsAt H xs ds) : DictsAt H' xs ds :=
  ⟨h.1, h.2.1, fun i x d hx hd => by
    obtain ⟨q, lp, e, hq⟩ := h.2.2 i x d hx hd
    exact ⟨q, lp, e, hq.same s⟩⟩
def spLText : Sp := fun vs H Q _ => ∃ (a : Addr) (xs : List V) (ds : List PD), vs = [.ref a] ∧ H a = some (.lst xs) ∧ DictsAt H xs ds ∧ ds.length ≤ 30 ∧ ∀ H', Same H H' → Q (.str (progText ds)) H'
abbrev sLHeard : Stmt := top 44
def spLHeard (K : PySem.W.Frag) (C CP : Addr) : Sp := fun vs H Q _ => ∃ (p t : Addr) (i : Int) (xs : List V) (ds : List PD), vs = [.ref p, .int i] ∧ ProgT K C CP H p t xs ds ∧ (i < 0 ∨ (ds.length : Int) ≤ i) ∧ ∀ H', Same H H' → Q (.int i) H'
section
variable {P : Program} {w : World} {K : PySem.W.Frag} {mg : Str → Option Value} {base : Heap}
theorem scLText : FnScope ["_law_pieces", "_law_found", "_law_piece_here"] ["_law_pieces"] (defScope sLText) := ⟨rfl, rfl, rfl, by decide +kernel, rfl, by decide +kernel, by decide +kernel⟩
theorem ok_ltext {f fL : Addr} {fd dL : FuncData} (F : Fun K "_law_text" "_law_text" sLText f fd)
    (GL : FnOk P w K mg base CX0 2 fL dL ["_law_piece_here"] spLLines) (gL : mg "_law_lines" = some (.ref fL)) (kL : PySem.W.keepIn K (.ref fL) = true) (bL : Binds K dL ["_law_piece_here"] []) : FnOk P w K mg base CX0 3 f fd ["_law_pieces"] spLText := by
  refine F.ok scLText (fun vs H Q E h => ?_) (fun cdv A outer s H vs Q E hr h => ?_)
  · obtain ⟨a, xs, ds, rfl, _⟩ := h
    rfl
  · obtain ⟨a, xs, ds, rfl, ha, hds, hl, k⟩ := h
    refine ⟨_, (pss_cons (ps_set (i := 1) scLText.nd rfl (.inl rfl) (pe_lst pa_nil))
      (pss_cons (ps_for PassesOwn.never rfl (pi_list (pv 0)) (pg_name (i := 2) scLText.nd rfl (.inl rfl))
        (pss_one (ps_expr (pe_bm PySem.F.plainAttrs_list PySem.F.slot_list_extend PySem.F.type_list_extend mt_extend (pv 1) (pa_cons (pe_call GL hr (by rfl) gL kL bL .nil pass0 (pa_cons (pv 2) pa_nil)) pa_nil)))))
      (pss_one (ps_ret (pe_bm PySem.F.plainAttrs_str PySem.F.slot_str_join PySem.F.type_str_join mt_join pe_str (pa_cons (pv 1) pa_nil)))))), ?_⟩
    refine ⟨(by show 0 ≤ sizeLine; exact Nat.zero_le _), fun l nl => ?_⟩
    have sl := Same.new nl (o := .lst [])
    have ok30 : ∀ d ∈ ds, d.Ok ∧ d.parts.length ≤ 30 := fun d hd => ⟨(hds.2.1 d hd).1, by have := (hds.2.1 d hd).2; omega⟩
    refine ⟨_, rfl, a, rfl, ⟨_, SqL.of (sl _ _ ha)⟩, for_list (K := K) (xs := xs) (fun i σ G => ∃ x2, σ = [some (.ref a), some (.ref l), x2] ∧ Same H G ∧ G l = some (.lst ((progRows (ds.take i)).map V.str))) ⟨_, rfl, sl, upd_same⟩ (fun i σ G _ z => by
      obtain ⟨_, _, z, _⟩ := z
      exact SqL.of (z _ _ ha)) ?_ ?_⟩
    · rintro i x σ G hi ⟨x2, rfl, sG, hG⟩
      have li := (List.getElem?_eq_some_iff.mp hi).1
      obtain ⟨d, ed⟩ : ∃ d, ds[i]? = some d := ⟨_, List.getElem?_eq_getElem (by rw [← hds.1]; exact li)⟩
      obtain ⟨q, lp, rfl, hq⟩ := (hds.same sG).2.2 i x d hi ed
      obtain ⟨o, few⟩ := ok30 d (List.mem_of_getElem? ed)
      have hlen := progRows_len (ds := ds.take i) fun e he => ok30 e (List.mem_of_mem_take he)
      have hlen2 := rowsS_len o few
      rw [List.length_take] at hlen
      refine ⟨_, rfl, .inl ⟨rfl, _, SqL.of hG⟩, _, rfl, q, lp, d, rfl, hq, o, few, fun l2 G2 s2 n2 hl2 => ⟨l, l2, _, _, rfl, rfl, s2 _ _ hG, hl2, ?_, _, rfl, same_put nl (sG.trans s2), ?_⟩⟩
      · rw [List.length_map, List.length_map]
        exact fitsN (by omega)
      · rw [upd_same, progRows_take ed, List.map_append]
    · rintro σ G ⟨x2, rfl, sG, hG⟩
      rw [hds.1, List.take_length] at hG
      have hlen := progRows_len (ds := ds) ok30
      have hsum := sum_few (n := 300) (progRows_few ok30)
      have j : (Str.ofString "\n").length = 1 := by decide
      exact ⟨rfl, _, rfl, _, l, progRows ds, rfl, rfl, .inl (SqL.of hG), by rw [j]; omega, k G sG⟩
theorem scLHeard : FnScope ["_law_program", "_law_at", "_law_found", "e"] ["_law_program", "_law_at"] (defScope sLHeard) := ⟨rfl, rfl, rfl, by decide +kernel, rfl, by decide +kernel, by decide +kernel⟩
theorem ok_lheard {f fG fI C CP D : Addr} {fd fdG : FuncData} (F : Fun K "_law_heard" "_law_heard" sLHeard f fd) (Y : XC K mg D fI "NoPiece" "at") (ex : PySem.W.exmOne K (.ref D) (.ref D) = some true)
    (GG : FnOk P w K mg base (L2.CX P w) 3 fG fdG ["self", "at"] (spBad K C CP D)) (hg : PySem.W.findIn K (.ref CP) "__getitem__" = some (some (.ref fG))) (hgi : PySem.W.fnIn K fG = true) (hgf : PySem.W.isFn K (.ref fG) = true) (bG : Binds K fdG ["self", "at"] []) : FnOk P w K mg base CX0 5 f fd ["_law_program", "_law_at"] (spLHeard K C CP) := by
  refine F.ok scLHeard (fun vs H Q E h => ?_) (fun cdv A outer s H vs Q E hr h => ?_)
  · obtain ⟨p, t, i, xs, ds, rfl, _⟩ := h
    rfl
  · obtain ⟨p, t, i, xs, ds, rfl, hT, hi, k⟩ := h
    obtain ⟨dx, hp, _⟩ := id hT
    refine ⟨_, (pss_cons (ps_set (i := 2) scLHeard.nd rfl (.inl rfl) pe_non)
      (pss_cons (ps_try_as (i := 3) rfl rfl scLHeard.nd rfl (by rfl) ⟨by rfl, by decide, .inl Y.gC⟩ takes0
        (fun W pn xe tk hp => pss_one (ps_expr (pe_ixO (C := CP) (E := WE W) GG hg hgi hgf (hr.mono (by decide)) bG (fun σ => passAt tk σ) (pv 0) (pv 1))))
        (fun a oe cls d pn hz hf => pss_one (ps_set (i := 2) scLHeard.nd rfl (.inl rfl) (pe_xf Y.xf Y.no hz hf (pv 3)))))
      (pss_one (ps_ret (pv 2))))), ?_⟩
    refine ⟨_, rfl, _, rfl, p, dx, _, rfl, hp, p, t, i, xs, ds, rfl, hT, hi, ?_⟩
    refine fun G d s2 n e => ⟨true, ex, fun _ a ha => ?_, fun z => nomatch z⟩
    exact ⟨_, rfl, rfl, rfl, d, _, _, rfl, e, rfl, _, rfl, k G s2⟩
end
end Lay
set_option Elab.async false
set_option linter.all false
set_option maxRecDepth 100000
set_option maxHeartbeats 4000000
set_option pp.maxSteps 1500
namespace Lay
open PySem PySem.Spec PyProof.Rows L2
def dPiece : List V := [.bl false, .bl false, .str "", .str "", .int 0, .bl false]
/-- what is had of the classes Piece and Program -/
structure PgF (P : Program) (w : World) (K : PySem.W.Frag) (mg : Str → Option Value) (base : Heap) (C CP : Addr) : Prop where
  gC : mg "Piece" = some (.ref C)
  gP : mg "Program" = some (.ref CP)
  Z : ProgC K CP
  c : ClsI K C
  cp : ClsI K CP
  pmade : ∃ f fd ds, Mk K C f ∧ FnOk P w K mg base CX0 3 f fd psPiece (spPieceI C K) ∧ Vals dPiece ds ∧ Binds K fd psPiece ds
  made : ∃ f fd, Mk K CP f ∧ FnOk P w K mg base CX0 3 f fd ["self", "pieces"] (spProgG K C CP) ∧ Binds K fd ["self", "pieces"] [] ∧ ∃ e ds, Vals [V.ref e] ds ∧ Binds K fd ["self", "pieces"] ds ∧ ∀ H, TupG K H e []
  str : ∃ f fd, FnOk P w K mg base CX0 4 f fd ["self"] (spStrP K C CP) ∧ PySem.W.findIn K (.ref CP) "__str__" = some (some (.ref f)) ∧ PySem.W.isFn K (.ref f) = true ∧ Binds K fd ["self"] []
  len : ∃ f fd, FnOk P w K mg base CX0 1 f fd ["self"] (spLenP K C CP) ∧ PySem.W.findIn K (.ref CP) "__len__" = some (some (.ref f)) ∧ PySem.W.isFn K (.ref f) = true ∧ Binds K fd ["self"] []
  eq : ∃ f fd, FnOk P w K mg base CX0 7 f fd ["self", "other"] (spEqPg K C CP) ∧ FnOk P w K mg base CX0 7 f fd ["self", "other"] (spEqN K CP) ∧ PySem.W.findIn K (.ref CP) "__eq__" = some (some (.ref f)) ∧ PySem.W.isFn K (.ref f) = true ∧ Binds K fd ["self", "other"] []
  ne : PySem.W.findIn K (.ref CP) "__ne__" = some (some (.builtin "object.__ne__"))
  nfs : PySem.W.notFirst K CP (.type "str") = true
  ks : PySem.W.kitOne K (.type "str") (.ref CP) = some false
  peq : ∃ f fd, FnOk P w K mg base CX0 1 f fd ["self", "other"] (spEqPc K C) ∧ PySem.W.findIn K (.ref C) "__eq__" = some (some (.ref f)) ∧ PySem.W.isFn K (.ref f) = true ∧ Binds K fd ["self", "other"] []
  pne : PySem.W.findIn K (.ref C) "__ne__" = some (some (.builtin "object.__ne__"))
  get : ∃ f fd, FnOk P w K mg base CX0 3 f fd ["self", "at"] (spGetG K C CP) ∧ PySem.W.findIn K (.ref CP) "__getitem__" = some (some (.ref f)) ∧ PySem.W.fnIn K f = true ∧ PySem.W.isFn K (.ref f) = true ∧ Binds K fd ["self", "at"] []
  add : ∃ f fd, FnOk P w K mg base CX0 5 f fd ["self", "other"] (spAddP K C CP) ∧ PySem.W.findIn K (.ref CP) "__add__" = some (some (.ref f)) ∧ PySem.W.isFn K (.ref f) = true ∧ Binds K fd ["self", "other"] []
  sf : PySem.W.selfFirst K CP = true
  mro : ∃ cd : ClassData, PySem.W.clsIn K CP = some cd ∧ cd.mro = [.ref CP, .type "object"]
  ia : PySem.W.findIn K (.ref CP) "__iadd__" = some none
  io : PySem.W.findIn K (.type "object") "__iadd__" = some none
def rNePc (K : PySem.W.Frag) (C : Addr) : R2 := fun x y H Q => ∃ p d, x = .ref p ∧ y = .ref p ∧ PieceAt K C H p d ∧ d.Ok ∧ d.parts.length ≤ 30 ∧ Q (.bl false) H
def tGetPg (K : PySem.W.Frag) (C CP : Addr) (ta tb : TE) : TE := fun σ H Q => ta σ H fun x H1 => clo tb σ H1 fun y H2 => ∃ (p t : Addr) (i : Nat) (xs : List V) (ds : List PD) (v : V), x = .ref p ∧ y = .int i ∧ ProgT K C CP H2 p t xs ds ∧ xs[i]? = some v ∧ Q v H2
section
variable {X : Cx} {C CP : Addr} {K : PySem.W.Frag}
theorem op_nePcK (hK : X.K = K) (T : PgF X.prog X.w K X.mg X.base C CP) (hr : Room 2 X.A) : OpR X (compareOp .NotEq) (rNePc K C) := by
  subst hK
  obtain ⟨f, fd, ok, hs, fn, b⟩ := T.peq
  intro pins s σ H x y v u Q I rx ry h
  obtain ⟨p, d, rfl, rfl, hp, o, few, k⟩ := h
  obtain ⟨d1, t, h1, _⟩ := id hp
  exact op_neOwn ok hs T.pne T.c.hm fn hr b pass0 pins s σ H _ _ v u Q I rx ry ⟨p, p, d1, d1, _, _, rfl, rfl, h1, h1, p, d, rfl, hp, o, few, _, rfl, k⟩
theorem pe_getPgK (hK : X.K = K) (T : PgF X.prog X.w K X.mg X.base C CP) (hr : Room 4 X.A) {a b : Expr} {ta tb : TE} {pos : Pos} (ha : PE X a ta) (hbx : PE X b tb) (hsl : ∀ x i, subscripted b true (.ref x) i = runValue (.builtin "lifetime.subscript" ⟨[.ref x, i], []⟩) := by intros; with_unfolding_all rfl) :
    PE X (.Subscript a b pos) (tGetPg K C CP ta tb) := by
  subst hK
  obtain ⟨f, fd, F, hs, hfi, hf, hb⟩ := T.get
  refine pe_mono (pe_ixO (C := CP) (E := fun _ => E0) F hs hfi hf hr hb (fun σ => passE0) (pe_clo ha) (pe_clo hbx) hsl) fun σ H Q h => ⟨_, h, fun x H1 q => ?_⟩
  obtain ⟨R, h1, h2⟩ := q
  refine ⟨R, h1, fun y H2 hy => ?_⟩
  obtain ⟨p, t, i, xs, ds, v, rfl, rfl, hT, hv, k⟩ := h2 y H2 hy
  obtain ⟨dx, hp, _⟩ := id hT
  exact ⟨p, dx, _, rfl, hp, p, t, i, xs, ds, v, rfl, hT, hv, k⟩
variable (T : PgF X.prog X.w X.K X.mg X.base C CP)
include T
theorem op_eqPg (hr : Room 7 X.A) : OpR X (compareOp .Eq) (fun x y H Q => ∃ p q t1 t2 xs ys ds es, x = .ref p ∧ y = .ref q ∧ ProgT X.K C CP H p t1 xs ds ∧ ProgT X.K C CP H q t2 ys es ∧ ∀ H', Same H H' → Q (.bl (decide (V.str (progText ds) = V.str (progText es)))) H') := by
  obtain ⟨f, fd, ok, _, hs, fn, b⟩ := T.eq
  intro pins s σ H x y v u Q I rx ry h
  obtain ⟨p, q, t1, t2, xs, ys, ds, es, rfl, rfl, hp, hq, k⟩ := h
  obtain ⟨d1, h1, _⟩ := id hp
  obtain ⟨d2, h2, _⟩ := id hq
  exact op_eqOwn ok hs fn hr b pass0 pins s σ H _ _ v u Q I rx ry ⟨p, q, d1, d2, _, _, rfl, rfl, h1, h2, p, q, t1, t2, xs, ys, ds, es, rfl, hp, hq, fun H' s' => ⟨_, rfl, k H' s'⟩⟩
theorem op_nePg (hr : Room 8 X.A) : OpR X (compareOp .NotEq) (fun x y H Q => ∃ p q t1 t2 xs ys ds es, x = .ref p ∧ y = .ref q ∧ ProgT X.K C CP H p t1 xs ds ∧ ProgT X.K C CP H q t2 ys es ∧ ∀ H', Same H H' → Q (.bl (!decide (V.str (progText ds) = V.str (progText es)))) H') := by
  obtain ⟨f, fd, ok, _, hs, fn, b⟩ := T.eq
  intro pins s σ H x y v u Q I rx ry h
  obtain ⟨p, q, t1, t2, xs, ys, ds, es, rfl, rfl, hp, hq, k⟩ := h
  obtain ⟨d1, h1, _⟩ := id hp
  obtain ⟨d2, h2, _⟩ := id hq
  exact op_neOwn ok hs T.ne T.cp.hm fn hr b pass0 pins s σ H _ _ v u Q I rx ry ⟨p, q, d1, d2, _, _, rfl, rfl, h1, h2, p, q, t1, t2, xs, ys, ds, es, rfl, hp, hq, fun H' s' => ⟨_, rfl, k H' s'⟩⟩
/-- a program against a text -/
theorem op_eqStr (hr : Room 7 X.A) : OpR X (compareOp .Eq) (fun x y H Q => ∃ p z t xs ds, x = .ref p ∧ y = .str z ∧ ProgT X.K C CP H p t xs ds ∧ Q (.bl false) H) := by
  obtain ⟨f, fd, _, ok, hs, fn, b⟩ := T.eq
  intro pins s σ H x y v u Q I rx ry h
  obtain ⟨p, z, t, xs, ds, rfl, rfl, ⟨dx, hp, _⟩, k⟩ := h
  cases rx
  obtain ⟨tk, rfl⟩ := ry
  obtain ⟨mA, J, _⟩ := ins_get I.hok hp
  obtain ⟨od, J, _⟩ := J.look
  obtain ⟨m, hF⟩ := I.fr
  have sb : Sub X 7 X.A := ⟨hr, rfl⟩
  show wpAny (model X.prog X.w) X.A (richCompare .Eq (.ref p) (.str z tk)) (EP X pins σ Q) X.xe s
  refine PySem.W.cmp_K (op := .Eq) (tb := .type "str") sb.room.units0 hF I.ok.mod.kin J .now T.nfs hs fn (run_sub (Q := fun v H' => v = .bl false ∧ H' = H) (vs := [V.ref p, V.str z]) ok sb b pass0 I (.cons rfl (.cons ⟨tk, rfl⟩ .nil)) ⟨p, _, rfl, ⟨_, .base (.str z), T.ks⟩, rfl, rfl⟩ fun v u H' s' I' rv hq => ?_)
  obtain ⟨rfl, rfl⟩ := hq
  cases rv
  exact ⟨.bl false, _, I', rfl, k⟩
theorem call_strPg (hr : Room 6 X.A) : CallR X (.type "str") (fun xs H Q => ∃ p t zs ds, xs = [.ref p] ∧ ProgT X.K C CP H p t zs ds ∧ ∀ H', Same H H' → Q (.str (progText ds)) H') := by
  obtain ⟨f, fd, ok, hs, fn, b⟩ := T.str
  intro pins s σ H xs us Q I r h
  obtain ⟨p, t, zs, ds, rfl, hp, k⟩ := h
  obtain ⟨d1, h1, _⟩ := id hp
  exact call_strOwn ok hs fn hr b pass0 pins s σ H _ us Q I r ⟨p, d1, _, rfl, h1, p, t, zs, ds, rfl, hp, fun H' s' => ⟨_, rfl, k H' s'⟩⟩
theorem call_lenPg (hr : Room 2 X.A) : CallR X (.builtin "len") (fun xs H Q => ∃ p t zs ds, xs = [.ref p] ∧ ProgT X.K C CP H p t zs ds ∧ Q (.int ds.length) H) := by
  obtain ⟨f, fd, ok, hs, fn, b⟩ := T.len
  intro pins s σ H xs us Q I r h
  obtain ⟨p, t, zs, ds, rfl, hp, k⟩ := h
  obtain ⟨d1, h1, _, _, hl⟩ := id hp
  exact call_lenOwn ok hs fn hr b pass0 pins s σ H _ us Q I r ⟨p, d1, _, rfl, h1, p, t, zs, ds, rfl, hp, ds.length, rfl, by omega, by omega, k⟩
theorem op_addPg (hr : Room 5 X.A) : OpR X (binaryOp .Add) (fun x y H Q => ∃ p q t1 t2 xs ys ds es, x = .ref p ∧ y = .ref q ∧ ProgT X.K C CP H p t1 xs ds ∧ ProgT X.K C CP H q t2 ys es ∧ ds.length + es.length ≤ 100 ∧ ∀ c u H', Same H H' → H c = none → ProgT X.K C CP H' c u (xs ++ ys) (ds ++ es) → Q (.ref c) H') := by
  obtain ⟨f, fd, ok, hs, fn, b⟩ := T.add
  intro pins s σ H x y v u Q I rx ry h
  obtain ⟨p, q, t1, t2, xs, ys, ds, es, rfl, rfl, hp, hq, hl, k⟩ := h
  obtain ⟨d1, h1, _⟩ := id hp
  obtain ⟨d2, h2, _⟩ := id hq
  exact op_addOwn ok hs T.sf fn hr b pass0 pins s σ H _ _ v u Q I rx ry ⟨p, q, d1, d2, _, _, rfl, rfl, h1, h2, p, q, t1, t2, xs, ys, ds, es, rfl, hp, hq, hl, fun c u H' s' n' h' => ⟨c, rfl, k c u H' s' n' h'⟩⟩
theorem ip_addPg (hr : Room 5 X.A) : PIp X .Add (fun x y H Q => ∃ p q t1 t2 xs ys ds es, x = .ref p ∧ y = .ref q ∧ ProgT X.K C CP H p t1 xs ds ∧ ProgT X.K C CP H q t2 ys es ∧ ds.length + es.length ≤ 100 ∧ ∀ c u H', Same H H' → H c = none → ProgT X.K C CP H' c u (xs ++ ys) (ds ++ es) → Q (.ref c) H') := by
  obtain ⟨f, fd, ok, hs, fn, b⟩ := T.add
  obtain ⟨cd, m1, m2⟩ := T.mro
  intro pins s σ H x y v u Q I rx ry h
  obtain ⟨p, q, t1, t2, xs, ys, ds, es, rfl, rfl, hp, hq, hl, k⟩ := h
  obtain ⟨d1, h1, _⟩ := id hp
  obtain ⟨d2, h2, _⟩ := id hq
  exact ip_addOwn ok hs m1 m2 T.ia T.io fn hr b pass0 pins s σ H _ _ v u Q I rx ry ⟨p, q, d1, d2, _, _, rfl, rfl, h1, h2, p, q, t1, t2, xs, ys, ds, es, rfl, hp, hq, hl, fun c u H' s' n' h' => ⟨c, rfl, k c u H' s' n' h'⟩⟩
theorem pe_piecesP {e : Expr} {ta : TE} {pos : Pos} (he : PE X e ta) (hb : attributeBase e "pieces" X.env (eval e X.env) = eval e X.env := by rfl) :
    PE X (.Attribute e "pieces" pos) (fun σ H Q => ta σ H fun x H1 => ∃ p t xs ds, x = .ref p ∧ ProgT X.K C CP H1 p t xs ds ∧ Q (.ref t) H1) := by
  refine pe_mono (pe_fldX (CT := CP) (pe_clo he) T.Z.cl T.Z.pieces hb) fun σ H Q h => ⟨_, h, fun v H1 q => ?_⟩
  obtain ⟨p, t, xs, ds, rfl, ⟨dx, hp, _⟩, q⟩ := q
  exact ⟨p, dx, _, _, rfl, hp, rfl, q⟩
theorem pe_mkPg {e : Expr} {t : TA} {x : Str} {p pos : Pos} (hx : x = "Program") (hr : Room 4 X.A) (hg : Gl X x) (ha : PA X [e] t) (he : starEach [e] X.env = (false, eval e X.env) :: starEach [] X.env := by rfl) (hpl : (backTo pos (starEach [] X.env)).any (·.1) = false := by rfl) :
    PE X (.Call (.Name x p) [e] [] pos) (fun σ H Q => t σ H fun vs H1 => ∃ a xs ds, vs = [.ref a] ∧ SqG X.K H1 a xs ∧ PcsAt X.K C H1 xs ds ∧ ds.length ≤ 100 ∧ ∀ c u H', Same H1 H' → H1 c = none → ProgT X.K C CP H' c u xs ds → Q (.ref c) H') := by
  subst hx
  obtain ⟨f, fd, M, ok, b, _⟩ := T.made
  refine pe_mono (pe_make M ok hr hg T.gP b .nil pass0 (pa_clo ha) (by decide) he hpl) fun σ H Q h => ⟨_, h, fun vs H1 q => ?_⟩
  obtain ⟨a, xs, ds, rfl, hs, hR, hl, k⟩ := q
  intro y dx nx nd ne
  have zz := (Same.new nd (o := .own y)).trans (Same.new (fresh_own (o := .own y) nx ne) (o := .ins CP dx []))
  refine ⟨y, dx, a, xs, rfl, upd_same, hs.same zz, by rw [hR.1]; omega, (hR.same zz).isP T.c, fun H2 u hu kp hx => ⟨rfl, ?_⟩⟩
  have s2 := made_same nx nd kp
  exact k y u H2 s2 nx ⟨dx, hx, hu, hR.same s2, hl⟩
theorem pe_mkPg0 {x : Str} {p pos : Pos} (hx : x = "Program") (hr : Room 4 X.A) (hg : Gl X x) :
    PE X (.Call (.Name x p) [] [] pos) (fun σ H Q => ∀ c u H', Same H H' → H c = none → ProgT X.K C CP H' c u [] [] → Q (.ref c) H') := by
  subst hx
  obtain ⟨f, fd, M, ok, _, e, ds, hd, b, he⟩ := T.made
  refine pe_mono (pe_make0 M ok hr hg T.gP b hd pass0 (by decide)) fun σ H Q k => ?_
  intro y dx nx nd ne
  have zz := (Same.new nd (o := .own y)).trans (Same.new (fresh_own (o := .own y) nx ne) (o := .ins CP dx []))
  refine ⟨y, dx, e, [], rfl, upd_same, .inr (he _), Nat.zero_le _, fun v h => (List.not_mem_nil h).elim, fun H2 u hu kp hx => ⟨rfl, ?_⟩⟩
  have s2 := made_same nx nd kp
  exact k y u H2 s2 nx ⟨dx, hx, hu, PcsAt.nil, Nat.zero_le _⟩
theorem pe_mkPc {e e2 : Expr} {t : TA} {x : Str} {p pos : Pos} (hx : x = "Piece") (hr : Room 4 X.A) (hg : Gl X x) (ha : PA X [e, e2] t) (he : starEach [e, e2] X.env = (false, eval e X.env) :: starEach [e2] X.env := by rfl) (hpl : (backTo pos (starEach [e2] X.env)).any (·.1) = false := by rfl) :
    PE X (.Call (.Name x p) [e, e2] [] pos) (fun σ H Q => t σ H fun vs H1 => ∃ a, vs = [.str "q", .ref a] ∧ SqX X.K H1 a [.str "r"] ∧ ∀ c H', Same H1 H' → H1 c = none → Q (.ref c) H') := by
  subst hx
  obtain ⟨f, fd, ds, M, ok, hd, b⟩ := T.pmade
  refine pe_mono (pe_make M ok hr hg T.gC b hd pass0 (pa_clo ha) (by decide) he hpl) fun σ H Q h => ⟨_, h, fun vs H1 q => ?_⟩
  obtain ⟨a, rfl, hs, k⟩ := q
  intro y dx nx nd ne
  have zz := (Same.new nd (o := .own y)).trans (Same.new (fresh_own (o := .own y) nx ne) (o := .ins C dx []))
  refine ⟨y, a, dx, ⟨"q", ["r"], false, false, "", "", 0, false⟩, rfl, ⟨by decide +kernel, by decide, by decide, by decide +kernel, by decide +kernel, by decide +kernel, by decide, by decide⟩, hs.same zz, upd_same, fun H2 u kp hx hu => ⟨rfl, ?_⟩⟩
  exact k y H2 (made_same nx nd kp) nx
end
end Lay
set_option Elab.async false
set_option linter.all false
set_option maxRecDepth 100000
set_option maxHeartbeats 8000000
set_option pp.maxSteps 700
namespace Lay
open PySem PySem.Spec PyProof.Rows L2
abbrev sLaw : Stmt := top 45
def lawN : List Str := ["_law_script", "_law_k", "_law_box_here", "_law_before", "_law_turn", "_law_some", "_law_handed", "_law_rows", "_law_made_here", "_law_both", "_law_held", "_law_more", "_law_piece_here", "_law_spot"]
/-- what the law wants -/
structure TxtL (mg : Str → Option Value) : Prop where
  range : mg "range" = none
  max : mg "max" = none
  min : mg "min" = none
  len : mg "len" = none
  str : mg "str" = none
  list : mg "list" = none
  tuple : mg "tuple" = none
theorem ix_listK {X : Cx} {K : PySem.W.Frag} (hK : X.K = K) : IxR X (rIxL K) := by
  subst hK
  exact ix_list
theorem DictAt.kept {b : Addr} {G G' : Hp} {q lp : Addr} {d : PD} (x : BoxAt G b) (k : Kept b G G') (n : 0 < d.parts.length) (h : DictAt G q lp d) : DictAt G' q lp d := by
  obtain ⟨kvs, h1, h2, h3⟩ := h
  obtain ⟨o, e, g, s, m, ey⟩ := x
  subst ey
  refine ⟨kvs, k _ _ (ne_of h1 e (fun z => nomatch z)) h1, k _ _ (fun z => ?_) h2, h3⟩
  rw [z, e] at h2
  cases hd : d.parts with
  | nil => rw [hd] at n; exact absurd n (by decide)
  | cons y ys => rw [hd] at h2; cases h2
/-- dicts one by one, their lists apart from D -/
def DictsD (D : Addr) (H : Hp) (xs : List V) (ds : List PD) : Prop := xs.length = ds.length ∧ (∀ d ∈ ds, d.Ok ∧ d.parts.length ≤ 8) ∧ ∀ (i : Nat) (x : V) (d : PD), xs[i]? = some x → ds[i]? = some d → ∃ q lp, x = .ref q ∧ lp ≠ D ∧ DictAt H q lp d
theorem DictsD.at {D : Addr} {H : Hp} {xs : List V} {ds : List PD} (h : DictsD D H xs ds) : DictsAt H xs ds := ⟨h.1, h.2.1, fun i x d hx hd => by
  obtain ⟨q, lp, e, _, hq⟩ := h.2.2 i x d hx hd
  exact ⟨q, lp, e, hq⟩⟩
theorem DictsD.kept {b D : Addr} {G G' : Hp} {xs : List V} {ds : List PD} (x : BoxAt G b) (k : Kept b G G') (h : DictsD D G xs ds) : DictsD D G' xs ds := ⟨h.1, h.2.1, fun i y d hx hd => by
  obtain ⟨q, lp, e, n, hq⟩ := h.2.2 i y d hx hd
  exact ⟨q, lp, e, n, hq.kept x k (h.2.1 d (List.mem_of_getElem? hd)).1.some⟩⟩
theorem DictsD.push {D q lp : Addr} {G : Hp} {xs ys : List V} {ds : List PD} {d : PD} (hD : G D = some (.lst ys)) (h : DictsD D G xs ds) (o : d.Ok) (l : d.parts.length ≤ 8) (n : lp ≠ D) (hq : DictAt G q lp d) {ob : HO} : DictsD D (upd G D ob) (xs ++ [.ref q]) (ds ++ [d]) := by
  have one : ∀ {q lp : Addr} {d : PD}, lp ≠ D → DictAt G q lp d → DictAt (upd G D ob) q lp d := fun n h => by
    obtain ⟨kvs, h1, h2, h3⟩ := h
    exact ⟨kvs, by rw [upd_ne (ne_of h1 hD (fun z => nomatch z))]; exact h1, by rw [upd_ne n]; exact h2, h3⟩
  refine ⟨by rw [List.length_append, List.length_append, h.1]; rfl, fun e he => ?_, fun i x e hx he => ?_⟩
  · rcases List.mem_append.mp he with he | he
    · exact h.2.1 e he
    · rw [List.mem_singleton] at he
      subst he
      exact ⟨o, l⟩
  · rcases Nat.lt_or_ge i xs.length with li | li
    · rw [List.getElem?_append_left li] at hx
      rw [List.getElem?_append_left (by rw [← h.1]; exact li)] at he
      obtain ⟨q2, lp2, e2, n2, h2⟩ := h.2.2 i x e hx he
      exact ⟨q2, lp2, e2, n2, one n2 h2⟩
    · rw [List.getElem?_append_right li] at hx
      rw [List.getElem?_append_right (by rw [← h.1]; exact li), ← h.1] at he
      have z : i - xs.length = 0 := by
        have := (List.getElem?_eq_some_iff.mp hx).1
        rw [List.length_singleton] at this
        omega
      rw [z] at hx he
      cases hx
      cases he
      exact ⟨q, lp, rfl, n, one n hq⟩
theorem SqT.lset {K : PySem.W.Frag} {E a : Addr} {G : Hp} {xs ys : List V} {ob : HO} (hE : G E = some (.lst ys)) (h : SqT K G a xs) : SqT K (upd G E ob) a xs := by
  rcases h with (h | ⟨o, h⟩) | h
  · exact .inl (.inl (by rw [upd_ne (ne_of h hE (fun z => nomatch z))]; exact h))
  · exact .inl (.inr ⟨o, by rw [upd_ne (ne_of h hE (fun z => nomatch z))]; exact h⟩)
  · exact .inr h
theorem PieceAt.lset {K : PySem.W.Frag} {C E p : Addr} {G : Hp} {d : PD} {ys : List V} {ob : HO} (hE : G E = some (.lst ys)) (h : PieceAt K C G p d) : PieceAt K C (upd G E ob) p d := by
  obtain ⟨dx, t, h1, h2⟩ := h
  exact ⟨dx, t, by rw [upd_ne (ne_of h1 hE (fun z => nomatch z))]; exact h1, SqT.lset hE h2⟩
theorem PcsAt.lset {K : PySem.W.Frag} {C E : Addr} {G : Hp} {xs : List V} {ds : List PD} {ys : List V} {ob : HO} (hE : G E = some (.lst ys)) (h : PcsAt K C G xs ds) : PcsAt K C (upd G E ob) xs ds := ⟨h.1, h.2.1, fun i x d hx hd => by
  obtain ⟨p, e, hp⟩ := h.2.2 i x d hx hd
  exact ⟨p, e, hp.lset hE⟩⟩
theorem ProgT.lset {K : PySem.W.Frag} {C CP E p t : Addr} {G : Hp} {xs : List V} {ds : List PD} {ys : List V} {ob : HO} (hE : G E = some (.lst ys)) (h : ProgT K C CP G p t xs ds) : ProgT K C CP (upd G E ob) p t xs ds := by
  obtain ⟨dx, h1, h2, h3, h4⟩ := h
  refine ⟨dx, by rw [upd_ne (ne_of h1 hE (fun z => nomatch z))]; exact h1, ?_, h3.lset hE, h4⟩
  rcases h2 with h2 | h2
  · exact .inl (by rw [upd_ne (ne_of h2 hE (fun z => nomatch z))]; exact h2)
  · exact .inr h2
theorem SqT.keptB {K : PySem.W.Frag} {b a : Addr} {G G' : Hp} {xs : List V} (x : BoxAt G b) (k : Kept b G G') (h : SqT K G a xs) : SqT K G' a xs := by
  obtain ⟨o, e, g, s, m, ey⟩ := x
  subst ey
  rcases h with (h | ⟨o, h⟩) | h
  · exact .inl (.inl (k _ _ (ne_of h e (fun z => nomatch z)) h))
  · exact .inl (.inr ⟨o, k _ _ (ne_of h e (fun z => nomatch z)) h⟩)
  · exact .inr h
theorem ProgT.kept {K : PySem.W.Frag} {b C CP p t : Addr} {G G' : Hp} {xs : List V} {ds : List PD} (x : BoxAt G b) (k : Kept b G G') (h : ProgT K C CP G p t xs ds) : ProgT K C CP G' p t xs ds := by
  obtain ⟨dx, h1, h2, h3, h4⟩ := h
  obtain ⟨o, e, g, s, m, ey⟩ := id x
  subst ey
  refine ⟨dx, k _ _ (ne_of h1 e (fun z => nomatch z)) h1, ?_, ⟨h3.1, h3.2.1, fun i x' d hx hd => ?_⟩, h4⟩
  · rcases h2 with h2 | h2
    · exact .inl (k _ _ (ne_of h2 e (fun z => nomatch z)) h2)
    · exact .inr h2
  · obtain ⟨q, eq, dx2, t2, p1, p2⟩ := h3.2.2 i x' d hx hd
    exact ⟨q, eq, dx2, t2, k _ _ (ne_of p1 e (fun z => nomatch z)) p1, SqT.keptB x k p2⟩
theorem PcsAt.refs {K : PySem.W.Frag} {C : Addr} {G : Hp} {xs : List V} {ds : List PD} (h : PcsAt K C G xs ds) : ∀ v ∈ xs, ∃ p, v = V.ref p := fun v hv => by
  obtain ⟨i, hi, e⟩ := List.mem_iff_getElem.mp hv
  obtain ⟨p, e2, _⟩ := h.2.2 i v (ds[i]'(by rw [← h.1]; exact hi)) (by rw [List.getElem?_eq_getElem hi, e]) (List.getElem?_eq_getElem _)
  exact ⟨p, e2⟩
def spLaw (K : PySem.W.Frag) : Sp := fun vs H Q _ => ∃ (a : Addr) (ns : List Int), vs = [.ref a] ∧ SqL K H a (ns.map V.int) ∧ ns.length ≤ 63 ∧ ∀ H', Q (.bl true) H'
theorem scLaw : FnScope lawN ["_law_script"] (defScope sLaw) := ⟨rfl, rfl, rfl, by decide +kernel, rfl, by decide +kernel, by decide +kernel⟩
section
variable {P : Program} {w : World} {K : PySem.W.Frag} {mg : Str → Option Value} {base : Heap} {C CP : Addr}
theorem ok_law {f fB fT fP fM fX fH : Addr} {fx dB dT dP dM dX dH : FuncData} (F : Fun K "law" "law" sLaw f fx) (L : TxtL mg) (T : PgF P w K mg base C CP)
    (ok_box : FnOk P w K mg base CX0 1 fB dB ["_law_script", "_law_k", "_law_own"] (spBox K)) (g_box : mg "_law_box" = some (.ref fB)) (k_box : PySem.W.keepIn K (.ref fB) = true) (b_box : Binds K dB ["_law_script", "_law_k", "_law_own"] [])
    (ok_take : FnOk P w K mg base CX0 1 fT dT ["_law_box_here", "_law_many"] spTake) (g_take : mg "_law_take" = some (.ref fT)) (k_take : PySem.W.keepIn K (.ref fT) = true) (b_take : Binds K dT ["_law_box_here", "_law_many"] [])
    (ok_piece : FnOk P w K mg base CX0 4 fP dP ["_law_box_here", "_law_many"] spLPiece) (g_piece : mg "_law_piece" = some (.ref fP)) (k_piece : PySem.W.keepIn K (.ref fP) = true) (b_piece : Binds K dP ["_law_box_here", "_law_many"] [])
    (ok_made : FnOk P w K mg base CX0 5 fM dM ["_law_piece_here"] (spLMade K C)) (g_made : mg "_law_made" = some (.ref fM)) (k_made : PySem.W.keepIn K (.ref fM) = true) (b_made : Binds K dM ["_law_piece_here"] [])
    (ok_text : FnOk P w K mg base CX0 3 fX dX ["_law_pieces"] spLText) (g_text : mg "_law_text" = some (.ref fX)) (k_text : PySem.W.keepIn K (.ref fX) = true) (b_text : Binds K dX ["_law_pieces"] [])
    (ok_heard : FnOk P w K mg base CX0 5 fH dH ["_law_program", "_law_at"] (spLHeard K C CP)) (g_heard : mg "_law_heard" = some (.ref fH)) (k_heard : PySem.W.keepIn K (.ref fH) = true) (b_heard : Binds K dH ["_law_program", "_law_at"] []) : FnOk P w K mg base CX0 9 f fx ["_law_script"] (spLaw K) := by
  refine F.ok scLaw (fun vs H Q E h => ?_) (fun cdv A outer s H vs Q E hr h => ?_)
  · obtain ⟨a, ns, rfl, _⟩ := h
    rfl
  · obtain ⟨a, ns, rfl, hs, hl, k⟩ := h
    have hr1 := hr.mono (show 1 ≤ 8 by decide)
    have hr2 := hr.mono (show 2 ≤ 8 by decide)
    have hr3 := hr.mono (show 3 ≤ 8 by decide)
    have hr4 := hr.mono (show 4 ≤ 8 by decide)
    have hr5 := hr.mono (show 5 ≤ 8 by decide)
    have hr6 := hr.mono (show 6 ≤ 8 by decide)
    have hr7 := hr.mono (show 7 ≤ 8 by decide)
    have hr8 := hr
    refine ⟨_, (pss_cons (ps_for PassesOwn.never rfl (pi_range1 (by rfl) L.range (pa_cons (pe_callB (call_max2 rfl) (by rfl) L.max (by decide +kernel) (pa_cons pe_int (pa_cons (pe_callB (call_min2 rfl) (by rfl) L.min (by decide +kernel) (pa_cons pe_int (pa_cons (pe_callB call_len_seq (by rfl) L.len (by decide +kernel) (pa_cons (pv 0) pa_nil)) pa_nil))) pa_nil))) pa_nil)) (pg_name (i := 1) scLaw.nd rfl (.inl rfl))
      (pss_cons (ps_asg (pe_tup (pa_cons (pe_call ok_box hr1 (by rfl) g_box k_box b_box .nil pass0 (pa_cons (pv 0) (pa_cons (pv 1) (pa_cons pe_int pa_nil)))) (pa_cons (pe_mkPg0 T rfl hr4 (by rfl)) pa_nil))) (pg_tup rfl (pgs_cons (pg_name (i := 2) scLaw.nd rfl (.inr rfl)) (pgs_cons (pg_name (i := 3) scLaw.nd rfl (.inl rfl)) pgs_nil))))
        (pss_one (ps_for PassesOwn.never rfl (pi_range1 (by rfl) L.range (pa_cons pe_int pa_nil)) (pg_name (i := 4) scLaw.nd rfl (.inl rfl))
      (pss_cons (ps_setLc (i := 5) (own := [("_law_more", 11)]) (tt := tYes) rfl scLaw.nd rfl rfl (sw_true rfl rfl rfl (by decide +kernel)) (pi_range1 (by rfl) L.range (pa_cons (pe_call ok_take hr1 (by rfl) g_take k_take b_take .nil pass0 (pa_cons (pv 2) (pa_cons pe_int pa_nil))) pa_nil)) (blkOk_by (N := lawN) (sc := defScope sLaw) (by decide +kernel)) (fun _ _ _ _ _ => pg_name (i := 11) scLaw.nd rfl (Or.inl rfl)) (fun _ _ _ _ _ => pts_nil) (fun _ _ _ _ _ => (pe_call ok_piece hr4 (by rfl) g_piece k_piece b_piece .nil pass0 (pa_cons (pv 2) (pa_cons pe_int pa_nil)))))
        (pss_cons (ps_setLc (i := 6) (own := [("_law_piece_here", 12)]) (tt := tYes) rfl scLaw.nd rfl rfl (sw_true rfl rfl rfl (by decide +kernel)) (pi_list (pv 5)) (blkOk_by (N := lawN) (sc := defScope sLaw) (by decide +kernel)) (fun _ _ _ _ _ => pg_name (i := 12) scLaw.nd rfl (Or.inl rfl)) (fun _ _ _ _ _ => pts_nil) (fun _ _ _ _ _ => (pe_call ok_made hr5 (by rfl) g_made k_made b_made .nil pass0 (pa_cons (pv 12) pa_nil))))
        (pss_cons (ps_set (i := 7) scLaw.nd rfl (.inr rfl) (pe_callTy call_list_of (by rfl) L.list (by decide +kernel) (pa_cons (pv 6) pa_nil)))
        (pss_cons (ps_set (i := 8) scLaw.nd rfl (.inr rfl) (pe_mkPg T rfl hr4 (by rfl) (pa_cons (pv 6) pa_nil)))
        (pss_cons (ps_expr (pe_bm PySem.F.plainAttrs_list PySem.F.slot_list_append PySem.F.type_list_append mt_append (pv 6) (pa_cons (pe_mkPc T rfl hr4 (by rfl) (pa_cons pe_str (pa_cons (pe_lst (pa_cons pe_str pa_nil)) pa_nil))) pa_nil)))
        (pss_cons (ps_if (PW.pt (pw_or (pt_cmpR (op_neSameT hr.units) (pe_piecesP T (pv 8)) (pe_callTy call_tupleG (by rfl) L.tuple (by decide +kernel) (pa_cons (pv 7) pa_nil)) (nomark _)) (pw_or (pt_cmpR op_ne (pe_callB (call_lenPg T hr2) (by rfl) L.len (by decide +kernel) (pa_cons (pv 8) pa_nil)) (pe_callB call_len_seq (by rfl) L.len (by decide +kernel) (pa_cons (pv 7) pa_nil)) (nomark _)) (pw_or1 (pt_cmpR op_ne (pe_callTy (call_strPg T hr6) (by rfl) L.str (by decide +kernel) (pa_cons (pv 8) pa_nil)) (pe_call ok_text hr3 (by rfl) g_text k_text b_text .nil pass0 (pa_cons (pv 5) pa_nil)) (nomark _)))))) (pss_one (ps_ret pe_bl)) pss_nil)
        (pss_cons (ps_if (pt_cmpR (op_neD hr.units) (pe_lc (own := [("_law_spot", 13)]) (g := gName 13) (by rfl) scLaw.nd (pi_range1 (by rfl) L.range (pa_cons (pe_callB call_len_seq (by rfl) L.len (by decide +kernel) (pa_cons (pv 7) pa_nil)) pa_nil)) (blkOk_by (N := lawN) (sc := defScope sLaw) (by decide +kernel)) (fun _ _ _ _ _ => pg_name (i := 13) scLaw.nd rfl (Or.inl rfl)) (fun _ _ _ _ _ => pts_one (pt_cmpR (op_nePcK (K := K) rfl T hr2) (pe_getPgK (K := K) rfl T hr4 (pv 8) (pv 13)) (pe_ix (ix_listK (K := K) rfl) (pv 7) (pv 13) (fun _ _ => rfl)) (nomark _))) (fun _ _ _ _ _ => (pv 13))) (pe_lst pa_nil) (nomark _)) (pss_one (ps_ret pe_bl)) pss_nil)
        (pss_cons (ps_if (pt_cmpR (op_neD hr.units) (pe_lc (own := [("_law_spot", 13)]) (g := gName 13) (by rfl) scLaw.nd (pi_tup (pe_tup (pa_cons (pe_un un_neg pe_int) (pa_cons (pe_callB call_len_seq (by rfl) L.len (by decide +kernel) (pa_cons (pv 7) pa_nil)) (pa_cons (pe_op op_pow pe_int pe_int) pa_nil))))) (blkOk_by (N := lawN) (sc := defScope sLaw) (by decide +kernel)) (fun _ _ _ _ _ => pg_name (i := 13) scLaw.nd rfl (Or.inl rfl)) (fun _ _ _ _ _ => pts_one (pt_cmpR op_ne (pe_call ok_heard hr5 (by rfl) g_heard k_heard b_heard .nil pass0 (pa_cons (pv 8) (pa_cons (pv 13) pa_nil))) (pv 13) (nomark _))) (fun _ _ _ _ _ => (pv 13))) (pe_lst pa_nil) (nomark _)) (pss_one (ps_ret pe_bl)) pss_nil)
        (pss_cons (ps_set (i := 9) scLaw.nd rfl (.inl rfl) (pe_op (op_addPg T hr5) (pv 3) (pv 8)))
        (pss_cons (ps_if (PW.pt (pw_or (pt_cmpR (op_neSameT hr.units) (pe_piecesP T (pv 9)) (pe_op op_catG (pe_piecesP T (pv 3)) (pe_piecesP T (pv 8))) (nomark _)) (pw_or (pt_cmpR (op_eqStr T hr7) (pv 8) (pe_callTy (call_strPg T hr6) (by rfl) L.str (by decide +kernel) (pa_cons (pv 8) pa_nil)) (nomark _)) (pw_or1 (pt_cmpR (op_nePg T hr8) (pe_mkPg T rfl hr4 (by rfl) (pa_cons (pe_callTy call_tupleG (by rfl) L.tuple (by decide +kernel) (pa_cons (pv 7) pa_nil)) pa_nil)) (pv 8) (nomark _)))))) (pss_one (ps_ret pe_bl)) pss_nil)
        (pss_cons (ps_set (i := 10) scLaw.nd rfl (.inl rfl) (pv 3))
        (pss_cons (ps_aug (i := 10) scLaw.nd rfl (.inl rfl) (pv 8) (ip_addPg T hr5))
        (pss_cons (ps_if (PW.pt (pw_or (pt_cmpR (op_nePg T hr8) (pv 10) (pv 9) (nomark _)) (pw_or1 (pt_cmpR op_ne (pe_cmpR (op_eqPg T hr7) (pv 3) (pv 8) (nomark _)) (pe_cmpR op_eq (pe_callTy (call_strPg T hr6) (by rfl) L.str (by decide +kernel) (pa_cons (pv 3) pa_nil)) (pe_callTy (call_strPg T hr6) (by rfl) L.str (by decide +kernel) (pa_cons (pv 8) pa_nil)) (nomark _)) (nomark _))))) (pss_one (ps_ret pe_bl)) pss_nil)
        (pss_one (ps_set (i := 3) scLaw.nd rfl (.inl rfl) (pv 8))))))))))))))))))))
        (pss_one (ps_ret (pe_and (pe_cmpR op_eq (pe_callB (call_lenPg T hr2) (by rfl) L.len (by decide +kernel) (pa_cons (pe_mkPg0 T rfl hr4 (by rfl)) pa_nil)) pe_int (nomark _)) (pe_and (pe_cmpR op_eq (pe_callTy (call_strPg T hr6) (by rfl) L.str (by decide +kernel) (pa_cons (pe_mkPg0 T rfl hr4 (by rfl)) pa_nil)) pe_str (nomark _)) (pe_one (pe_cmpR (op_eqPg T hr7) (pe_mkPg T rfl hr4 (by rfl) (pa_cons (pe_lst pa_nil) pa_nil)) (pe_mkPg T rfl hr4 (by rfl) (pa_cons (pe_tup pa_nil) pa_nil)) (nomark _)))))))), ?_⟩
    have hmap : (ns.map V.int).length = ns.length := List.length_map ..
    refine ⟨_, rfl, a, _, rfl, .inl hs, _, _, rfl, _, _, rfl, _, rfl, ?_, ?_, for_range (lo := 0) (n := Int.toNat _) (fun i σ G => ∃ x1 x2 x3 x4 x5 x6 x7 x8 x9 x10 x11 x12 x13 : Option V, σ = [some (.ref a), x1, x2, x3, x4, x5, x6, x7, x8, x9, x10, x11, x12, x13] ∧ Same H G)
      ⟨none, none, none, none, none, none, none, none, none, none, none, none, none, rfl, Same.refl H⟩ ?_ ?_⟩
    · split <;> split <;> omega
    · split <;> split <;> omega
    · rintro i σ G0 hi ⟨x1, x2, x3, x4, x5, x6, x7, x8, x9, x10, x11, x12, x13, rfl, sG⟩
      have hi3 : i ≤ 2 := by
        revert hi
        split <;> split <;> omega
      refine ⟨_, rfl, _, rfl, a, ns, 0 + (i : Int), 4, rfl, sG.seq hs, by omega, by omega, by decide, by decide, by omega, fun b G1 s1 nb b1 => ?_⟩
      refine fun p0 u0 G2 s2 n2 h2 => ⟨(by show 2 ≤ sizeLine; decide), fun tq ntq => ⟨tq, _, rfl, SqT.of upd_same, rfl, _, _, rfl, _, _, rfl, rfl, ?_⟩⟩
      have s3 := Same.new ntq (o := .tup [.ref b, .ref p0])
      have k03 : Kept b G0 (upd G2 tq (.tup [.ref b, .ref p0])) := Kept.of_same ((s1.trans s2).trans s3)
      have b3 : BoxAt (upd G2 tq (.tup [.ref b, .ref p0])) b := by
        obtain ⟨o, e, y⟩ := b1
        exact ⟨o, s3 _ _ (s2 _ _ e), y⟩
      have h3 := h2.same s3
      generalize upd G2 tq (.tup [.ref b, .ref p0]) = G3 at *
      refine ⟨4, rfl, by decide, by decide, for_range (lo := 0) (n := Int.toNat _) (fun j σ G => ∃ (pb tb : Addr) (xb : List V) (db : List PD) (x4 x5 x6 x7 x8 x9 x10 x11 x12 x13 : Option V), σ = [some (.ref a), some (.int (0 + (i : Int))), some (.ref b), some (.ref pb), x4, x5, x6, x7, x8, x9, x10, x11, x12, x13] ∧ Kept b G0 G ∧ BoxAt G b ∧ ProgT K C CP G pb tb xb db ∧ db.length ≤ 8)
        ⟨p0, u0, [], [], _, _, _, _, _, _, _, _, _, _, rfl, k03, b3, h3, Nat.zero_le _⟩ ?_ ?_⟩
      · rintro j σ G hj ⟨pb, tb, xb, db, x4, x5, x6, x7, x8, x9, x10, x11, x12, x13, rfl, kG, bG, hpb, ldb⟩
        refine ⟨_, rfl, b, 9, rfl, bG, by decide, by decide, fun r o r0 r1 ob => ?_⟩
        have bB : BoxAt (upd G b o) b := BoxAt.box ob
        have kB : Kept b G0 (upd G b o) := kG.trans Kept.box
        have hpB := hpb.kept bG (Kept.box (o := o))
        generalize upd G b o = GB at *
        refine ⟨r, rfl, by omega, by omega, fun D nD => lc_range (lo := 0) (n := Int.toNat _) (fun n G' => ∃ (xs : List V) (ds : List PD), Kept b GB G' ∧ BoxAt G' b ∧ D ≠ b ∧ G' D = some (.lst xs) ∧ DictsD D G' xs ds ∧ ds.length = n)
          ⟨[], [], Kept.new nD, bB.new nD, bB.ne nD, upd_same, ⟨rfl, fun d h => (List.not_mem_nil h).elim, fun i x d h _ => by cases h⟩, rfl⟩ ?_ ?_⟩
        · rintro n G' hn ⟨xs, ds, k', b', nb', hD, hds, hl'⟩
          refine ⟨rfl, _, rfl, b, 4, rfl, b', by decide, by decide, fun q lp d G4 k4 b4 o' few hq nq nlp => ⟨_, k4 _ _ nb' hD, ?_, xs ++ [.ref q], ds ++ [d], fun c u n1 e => ?_, ?_, nb', upd_same, ?_, by rw [List.length_append, hl']; rfl⟩⟩
          · rw [hds.1, hl']
            exact small1000 (by omega)
          · rw [upd_ne (ne_of_none e nD)]
            exact k4 _ _ n1 (k' _ _ n1 e)
          · obtain ⟨o2, e2, y2⟩ := b4
            exact ⟨o2, by rw [upd_ne (Ne.symm nb')]; exact e2, y2⟩
          · exact (hds.kept b' k4).push (k4 _ _ nb' hD) o' few (Ne.symm (ne_of_none hD nlp)) hq
        · rintro GA ⟨xsD, ds, kA, bA, Db, hDA, hdsA, lds⟩
          have hds := hdsA.at
          have lds8 : ds.length ≤ 8 := by omega
          have hpA := hpB.kept bB kA
          have k0A : Kept b G0 GA := kB.trans kA
          clear hpB hpb bB kA hdsA
          have ok30 : ∀ d ∈ ds, d.Ok ∧ d.parts.length ≤ 30 := fun d hd => ⟨(hds.2.1 d hd).1, by have := (hds.2.1 d hd).2; omega⟩
          refine ⟨_, rfl, D, rfl, ⟨_, SqL.of hDA⟩, fun E nE => lc_list (K := K) (xs := xsD) (fun n G' => ∃ hs : List V, Same GA G' ∧ G' E = some (.lst hs) ∧ PcsAt K C G' hs (ds.take n))
            ⟨[], Same.new nE, upd_same, by rw [List.take_zero]; exact PcsAt.nil⟩ (fun n G' _ z => by
              obtain ⟨_, z, _⟩ := z
              exact SqL.of (z _ _ hDA)) ?_ ?_⟩
          · rintro n x G' hx ⟨hs, sG', hE, pcs⟩
            have ln := (List.getElem?_eq_some_iff.mp hx).1
            obtain ⟨d, ed⟩ : ∃ d, ds[n]? = some d := ⟨_, List.getElem?_eq_getElem (by rw [← hds.1]; exact ln)⟩
            obtain ⟨q, lp, rfl, hq⟩ := (hds.same sG').2.2 n x d hx ed
            obtain ⟨o', few⟩ := ok30 d (List.mem_of_getElem? ed)
            have lhs : hs.length = n := by
              rw [pcs.1, List.length_take]
              have := (List.getElem?_eq_some_iff.mp ed).1
              omega
            refine ⟨rfl, _, rfl, q, lp, d, rfl, hq, o', few, fun y G5 s5 n5 hy => ⟨_, s5 _ _ hE, ?_, hs ++ [.ref y], same_put nE (sG'.trans s5), upd_same, ?_⟩⟩
            · rw [lhs]
              have := (List.getElem?_eq_some_iff.mp ed).1
              exact small1000 (by omega)
            · rw [List.take_succ, ed]
              refine ((pcs.same s5).append ⟨rfl, fun e he => ?_, fun i x e hx he => ?_⟩).lset (s5 _ _ hE)
              · have : e = d := by simpa using he
                rw [this]
                exact ⟨o', few⟩
              · cases i with
                | zero =>
                  cases hx
                  cases he
                  exact ⟨y, rfl, hy⟩
                | succ i => cases hx
          rintro GH ⟨hs, sH, hE, pcs⟩
          rw [hds.1, List.take_length] at pcs
          have lhs : hs.length ≤ 8 := by rw [pcs.1]; exact lds8
          refine ⟨_, rfl, E, hs, rfl, .inl (SqL.of hE), fun R nR => ?_⟩
          have sR := Same.new nR (o := .lst hs)
          have RE : E ≠ R := ne_of_none hE nR
          refine ⟨_, rfl, E, hs, ds, rfl, .inl (sR _ _ hE), pcs.same sR, by omega, fun pm tm G6 s6 n6 hm => ?_⟩
          have hE6 := s6 _ _ (sR _ _ hE)
          refine ⟨_, rfl, .inl ⟨rfl, _, SqL.of hE6⟩, (by show 1 ≤ sizeLine; decide), fun lr nlr => ⟨lr, rfl, .inl upd_same, fun pc G7 s7 n7 => ?_⟩⟩
          have sl := Same.new nlr (o := .lst [.str "r"])
          have s67 := sl.trans s7
          have hE7 := s67 _ _ hE6
          refine ⟨E, _, _, rfl, rfl, hE7, small1000 (by omega), ?_⟩
          have sHX : Same GA (upd G7 E (.lst (hs ++ [.ref pc]))) := same_put nE (((sH.trans sR).trans s6).trans s67)
          have hRX : upd G7 E (.lst (hs ++ [.ref pc])) R = some (.lst hs) := by
            rw [upd_ne (Ne.symm RE)]
            exact s67 _ _ (s6 _ _ upd_same)
          have hmX := (hm.same s67).lset (ob := .lst (hs ++ [.ref pc])) hE7
          have pcsX : PcsAt K C (upd G7 E (.lst (hs ++ [.ref pc]))) hs ds := (((pcs.same sR).same s6).same s67).lset hE7
          generalize upd G7 E (.lst (hs ++ [.ref pc])) = GX at *
          have hDX := sHX _ _ hDA
          have hdsX := hds.same sHX
          have hpX := hpA.same sHX
          have k0X : Kept b G0 GX := k0A.trans (Kept.of_same sHX)
          have bX : BoxAt GX b := by
            obtain ⟨o2, e2, y2⟩ := bA
            exact ⟨o2, sHX _ _ e2, y2⟩
          have refs := pcsX.refs
          clear hE7 hm hE6 s67 sl s6 s7 sR pcs hE sH hpA k0A bA hds hDA sHX
          have tup : ∀ {G : Hp} {p t : Addr} {xs : List V} {ds : List PD}, ProgT K C CP G p t xs ds → SqT K G t xs := fun h => by
            obtain ⟨_, _, h, _⟩ := h
            exact h.sqT
          have tupG : ∀ {G : Hp} {p t : Addr} {xs : List V} {ds : List PD}, ProgT K C CP G p t xs ds → TupG K G t xs := fun h => by
            obtain ⟨_, _, h, _⟩ := h
            exact h
          -- pieces, how many, the text
          refine ⟨_, rfl, pm, tm, hs, ds, rfl, hmX, _, rfl, R, hs, rfl, .inl hRX, fun l1 G8 s8 h8 => ⟨tm, l1, hs, rfl, rfl, tup (hmX.same s8), h8.sqT, refs, _, rfl, iteN rfl ?_⟩⟩
          refine ⟨_, rfl, pm, tm, hs, ds, rfl, hmX.same s8, _, rfl, R, hs, rfl, .inl (SqL.of (s8 _ _ hRX)), rfl, _, rfl, iteN (by rw [pcsX.1]; simp) ?_⟩
          refine ⟨_, rfl, pm, tm, hs, ds, rfl, hmX.same s8, fun G9 s9 => ⟨_, rfl, D, xsD, ds, rfl, s9 _ _ (s8 _ _ hDX), (hdsX.same s8).same s9, by omega, fun G10 s10 => ⟨rfl, _, rfl, iteN (by simp) ?_⟩⟩⟩
          have sX10 := (s8.trans s9).trans s10
          clear h8
          have hR10 := sX10 _ _ hRX
          have hm10 := hmX.same sX10
          have pcs10 := pcsX.same sX10
          -- each by its number
          refine ⟨_, rfl, R, hs, rfl, .inl (SqL.of hR10), hs.length, rfl, by omega, by omega, fun D2 nD2 => lc_range (lo := 0) (n := hs.length) (fun n G' => Same G10 G' ∧ G' D2 = some (.lst [])) ⟨Same.new nD2, upd_same⟩ ?_ ?_⟩
          · rintro n G' hn ⟨sG', hD2⟩
            obtain ⟨v, hv⟩ : ∃ v, hs[n]? = some v := ⟨_, List.getElem?_eq_getElem hn⟩
            obtain ⟨d, ed⟩ : ∃ d, ds[n]? = some d := ⟨_, List.getElem?_eq_getElem (by rw [← pcsX.1]; exact hn)⟩
            obtain ⟨y, rfl, hy⟩ := (pcs10.same sG').2.2 n v d hv ed
            obtain ⟨o', few⟩ := ok30 d (List.mem_of_getElem? ed)
            refine ⟨rfl, _, rfl, _, ⟨_, rfl, pm, tm, n, hs, ds, .ref y, rfl, by rw [Int.zero_add], hm10.same sG', hv, ?_⟩, fun _ _ q => q⟩
            refine ⟨_, rfl, _, rfl, R, hs, _, .ref y, rfl, rfl, SqL.of (sG' _ _ hR10), by rw [Int.zero_add]; exact atI_nat hv, y, d, rfl, rfl, hy, o', few, _, rfl, ?_⟩
            exact iteN rfl ⟨sG', hD2⟩
          rintro G11 ⟨s11, hD2⟩
          refine ⟨(by show 0 ≤ sizeLine; exact Nat.zero_le _), fun e1 ne1 => ⟨.list [], .list [], .lst (SqL.of (Same.new ne1 _ _ hD2)) .nil, .lst (SqL.of upd_same) .nil, rfl, rfl, _, rfl, iteN rfl ?_⟩⟩
          have s12 := s11.trans (Same.new ne1 (o := .lst []))
          have hR12 := s12 _ _ hR10
          have hm12 := hm10.same s12
          have pcs12 := pcs10.same s12
          have sX12 := sX10.trans s12
          generalize upd G11 e1 (.lst []) = G12 at *
          clear hD2 ne1 s11 hm10 hR10 pcs10 sX10 s12
          -- numbers of no piece
          refine ⟨1, rfl, _, rfl, R, hs, rfl, .inl (SqL.of hR12), 10, 20, rfl, rfl, ⟨by decide, by decide, by decide⟩, (by show 3 ≤ sizeLine; decide), fun Tt nTt => ?_⟩
          have sTt := Same.new nTt (o := .tup [.int (-1), .int (hs.length : Int), .int ((10 : Int) ^ (20 : Int).toNat)])
          refine ⟨Tt, rfl, ⟨_, SqT.of upd_same⟩, fun D3 nD3 => lc_tup (K := K) (a := Tt) (xs := [.int (-1), .int (hs.length : Int), .int ((10 : Int) ^ (20 : Int).toNat)]) (fun n G' => Same (upd G12 Tt (.tup [.int (-1), .int (hs.length : Int), .int ((10 : Int) ^ (20 : Int).toNat)])) G' ∧ G' D3 = some (.lst []))
            ⟨Same.new nD3, upd_same⟩ (fun n G' _ z => SqT.of (z.1 _ _ upd_same)) ?_ ?_⟩
          · rintro n x G' hx ⟨sG', hD3⟩
            obtain ⟨m, rfl, hm⟩ : ∃ m : Int, x = .int m ∧ (m < 0 ∨ (ds.length : Int) ≤ m) := by
              have hmem := List.mem_of_getElem? hx
              simp only [List.mem_cons, List.not_mem_nil, or_false] at hmem
              rcases hmem with rfl | rfl | rfl
              · exact ⟨_, rfl, .inl (by decide)⟩
              · exact ⟨_, rfl, .inr (by rw [pcsX.1]; exact Int.le_refl _)⟩
              · refine ⟨_, rfl, .inr ?_⟩
                have e : ((10 : Int) ^ (20 : Int).toNat) = 100000000000000000000 := by decide
                rw [e]
                omega
            exact ⟨rfl, _, rfl, _, rfl, pm, tm, m, hs, ds, rfl, (hm12.same sTt).same sG', hm, fun Gh sh => ⟨_, rfl, rfl, _, rfl, iteN (by simp) ⟨sG'.trans sh, sh _ _ hD3⟩⟩⟩
          rintro G13 ⟨s13, hD3⟩
          refine ⟨(by show 0 ≤ sizeLine; exact Nat.zero_le _), fun e2 ne2 => ⟨.list [], .list [], .lst (SqL.of (Same.new ne2 _ _ hD3)) .nil, .lst (SqL.of upd_same) .nil, rfl, rfl, _, rfl, iteN rfl ?_⟩⟩
          have s14 := (sTt.trans s13).trans (Same.new ne2 (o := .lst []))
          have hR14 := s14 _ _ hR12
          have hm14 := hm12.same s14
          have pcs14 := pcs12.same s14
          have sX14 := sX12.trans s14
          have hp14 := hpX.same sX14
          generalize upd G13 e2 (.lst []) = G14 at *
          clear hD3 ne2 s13 hm12 hR12 pcs12 sX12 s14 sTt
          -- both together
          refine ⟨_, rfl, _, rfl, pb, pm, tb, tm, xb, hs, db, ds, rfl, rfl, hp14, hm14, by omega, fun pq tq2 G15 s15 n15 hq15 => ?_⟩
          have hR15 := s15 _ _ hR14
          have hm15 := hm14.same s15
          have hp15 := hp14.same s15
          have pcs15 := pcs14.same s15
          have sX15 := sX14.trans s15
          clear hR14 hm14 hp14 pcs14 sX14 s15
          have refsq : ∀ v ∈ xb ++ hs, ∃ p, v = V.ref p := by
            obtain ⟨_, _, _, h, _⟩ := id hq15
            exact h.refs
          have lxb : xb.length = db.length := by
            obtain ⟨_, _, _, h, _⟩ := id hp15
            exact h.1
          refine ⟨_, rfl, pq, tq2, _, _, rfl, hq15, _, rfl, pb, tb, xb, db, rfl, hp15, _, rfl, pm, tm, hs, ds, rfl, hm15, tb, tm, xb, hs, rfl, rfl, tupG hp15, tupG hm15, by omega, fun l2 G16 s16 h16 => ⟨tq2, l2, xb ++ hs, rfl, rfl, tup (hq15.same s16), h16.sqT, refsq, _, rfl, iteN rfl ?_⟩⟩
          refine ⟨_, rfl, _, rfl, pm, tm, hs, ds, rfl, hm15.same s16, fun G17 s17 => ⟨pm, _, tm, hs, ds, rfl, rfl, (hm15.same s16).same s17, _, rfl, iteN rfl ?_⟩⟩
          have s1517 := s16.trans s17
          refine ⟨_, rfl, R, hs, rfl, .inl (s1517 _ _ hR15), fun l3 G18 s18 h18 => ⟨l3, hs, ds, rfl, .inr h18, (pcs15.same s1517).same s18, by omega, fun pc2 uc2 G19 s19 n19 h19 => ⟨_, rfl, pc2, pm, uc2, tm, hs, hs, ds, ds, rfl, rfl, h19, ((hm15.same s1517).same s18).same s19, fun G20 s20 => ⟨_, rfl, iteN (by simp) ?_⟩⟩⟩⟩
          have s1520 := ((s1517.trans s18).trans s19).trans s20
          have hm20 := hm15.same s1520
          have hp20 := hp15.same s1520
          have hq20 := hq15.same s1520
          have sX20 := sX15.trans s1520
          clear h16 h18 h19 s1517 s1520
          -- in place
          refine ⟨_, rfl, _, rfl, _, rfl, pb, pm, tb, tm, xb, hs, db, ds, rfl, rfl, hp20, hm20, by omega, fun ph th G21 s21 n21 h21 => ?_⟩
          have hm21 := hm20.same s21
          have hp21 := hp20.same s21
          have hq21 := hq20.same s21
          refine ⟨_, rfl, _, rfl, ph, pq, th, tq2, _, _, _, _, rfl, rfl, h21, hq21, fun G22 s22 => ⟨_, rfl, iteN (by simp) ?_⟩⟩
          have hm22 := hm21.same s22
          have hp22 := hp21.same s22
          refine ⟨_, rfl, _, rfl, pb, pm, tb, tm, xb, hs, db, ds, rfl, rfl, hp22, hm22, fun G23 s23 => ⟨_, rfl, pb, tb, xb, db, rfl, hp22.same s23, fun G24 s24 => ⟨_, rfl, pm, tm, hs, ds, rfl, (hm22.same s23).same s24, fun G25 s25 => ⟨rfl, rfl, _, rfl, iteN (by simp) ?_⟩⟩⟩⟩
          have s2225 := (s23.trans s24).trans s25
          have sX25 := ((sX20.trans s21).trans s22).trans s2225
          refine ⟨_, rfl, pm, tm, hs, ds, _, _, _, _, _, _, _, _, _, _, rfl, k0X.trans (Kept.of_same sX25), ?_, hm22.same s2225, lds8⟩
          obtain ⟨o2, e2, y2⟩ := bX
          exact ⟨o2, sX25 _ _ e2, y2⟩
      · rintro σ G ⟨pb, tb, xb, db, x4, x5, x6, x7, x8, x9, x10, x11, x12, x13, rfl, kG, bG, hpb, ldb⟩
        exact ⟨_, _, _, _, _, _, _, _, _, _, _, _, _, rfl, fun c u e => kG _ _ (ne_of_none (sG _ _ e) nb) (sG _ _ e)⟩
    · rintro σ G ⟨x1, x2, x3, x4, x5, x6, x7, x8, x9, x10, x11, x12, x13, rfl, sG⟩
      refine fun p1 u1 G1 s1 n1 h1 => ⟨p1, u1, [], [], rfl, h1, rfl, _, rfl, iteY rfl ?_⟩
      refine fun p2 u2 G2 s2 n2 h2 => ⟨p2, u2, [], [], rfl, h2, fun G3 s3 => ⟨rfl, _, rfl, iteY (by decide +kernel) ?_⟩⟩
      refine ⟨(by show 0 ≤ sizeLine; exact Nat.zero_le _), fun e1 m1 => ⟨e1, [], [], rfl, .inl upd_same, PcsAt.nil, Nat.zero_le _, fun p4 u4 G4 s4 n4 h4 => ?_⟩⟩
      refine ⟨(by show 0 ≤ sizeLine; exact Nat.zero_le _), fun e2 m2 => ⟨e2, [], [], rfl, .inr (.inl upd_same), PcsAt.nil, Nat.zero_le _, fun p5 u5 G5 s5 n5 h5 => ?_⟩⟩
      refine ⟨p4, p5, u4, u5, [], [], [], [], rfl, rfl, (h4.same (Same.new m2)).same s5, h5, fun G6 s6 => ?_⟩
      rw [decide_eq_true rfl]
      exact k _
end
end Lay
set_option Elab.async false
set_option linter.all false
set_option maxRecDepth 100000
set_option maxHeartbeats 8000000
namespace Lay
open PySem L2

theorem kit_cls {K : PySem.W.Frag} {C : Addr} {t : Value} {b : Bool} (hd : PySem.W.hasDictIn K C = true) (ty : PySem.W.typeIn K (.ref C) = some (.type "type")) (s : PySem.W.subIn K t (.ref C) = some b) (e : t = .ref C → b = true) : PySem.W.kitOne K t (.ref C) = some b := by
  unfold PySem.W.kitOne
  by_cases h : (t == Value.ref C) = true
  · rw [if_pos h, e (beq_iff_eq.mp h)]
  · rw [if_neg h]
    obtain ⟨cd, hc, _⟩ := PySem.W.any_some hd
    unfold PySem.W.kitCls
    dsimp only
    rw [if_pos (by rw [hc, ty]; rfl)]
    exact s
theorem kit_type {K : PySem.W.Frag} {C : Addr} {n : String} {b : Bool} (hm : PySem.W.kitMeta n = true) (s : PySem.W.subIn K (.ref C) (.type n) = some b) : PySem.W.kitOne K (.ref C) (.type n) = some b := by
  unfold PySem.W.kitOne
  rw [if_neg (fun h => by have q := beq_iff_eq.mp h; cases q)]
  unfold PySem.W.kitCls
  dsimp only
  rw [if_pos hm]
  exact s
theorem np_none {C : Addr} : (PySem.fastBuiltinMro "NoneType").map (·.contains (Value.ref C)) = some false := by
  have e : PySem.fastBuiltinMro "NoneType" = some [.type "NoneType", .type "object"] := by decide +kernel
  rw [e]
  rfl
theorem np_int {C : Addr} : (PySem.fastBuiltinMro "int").map (·.contains (Value.ref C)) = some false := by
  have e : PySem.fastBuiltinMro "int" = some [.type "int", .type "object"] := by decide +kernel
  rw [e]
  rfl
theorem np_bool {C : Addr} : (PySem.fastBuiltinMro "bool").map (·.contains (Value.ref C)) = some false := by
  have e : PySem.fastBuiltinMro "bool" = some [.type "bool", .type "int", .type "object"] := by decide +kernel
  rw [e]
  rfl
theorem np_str {C : Addr} : (PySem.fastBuiltinMro "str").map (·.contains (Value.ref C)) = some false := by
  have e : PySem.fastBuiltinMro "str" = some [.type "str", .type "object"] := by decide +kernel
  rw [e]
  rfl
theorem np_list {C : Addr} : (PySem.fastBuiltinMro "list").map (·.contains (Value.ref C)) = some false := by
  have e : PySem.fastBuiltinMro "list" = some [.type "list", .type "object"] := by decide +kernel
  rw [e]
  rfl
theorem np_tuple {C : Addr} : (PySem.fastBuiltinMro "tuple").map (·.contains (Value.ref C)) = some false := by
  have e : PySem.fastBuiltinMro "tuple" = some [.type "tuple", .type "object"] := by decide +kernel
  rw [e]
  rfl

theorem refs_ok (L : Addr) : PySem.HandSPX.refsVE [.ref L, .type "ValueError", .type "Exception", .type "BaseException", .type "object"] = true := by
  show PySem.HandSPX.refsVE [.type "ValueError", .type "Exception", .type "BaseException", .type "object"] = true
  decide +kernel

theorem binds_piece {K : PySem.W.Frag} {f : Addr} {fd : FuncData} (F : FunD K "__init__" "Piece.__init__" (defArgs sPieceI) (defBody sPieceI) (defScope sPieceI) dPiece [] f fd) : ∃ ds, Vals dPiece ds ∧ Binds K fd psPiece ds :=
  F.binds1 (ps := psPiece) 3 0 (fun z => nomatch z) rfl fun T kV doc pm an cdv ct us its h1 h2 => match us, its, h1, h2 with
    | [_, _, _], [_, _, _, _, _, _], _, _ => ⟨_, rfl, rfl⟩
theorem binds_piece8 {K : PySem.W.Frag} {f : Addr} {fd : FuncData} (F : FunD K "__init__" "Piece.__init__" (defArgs sPieceI) (defBody sPieceI) (defScope sPieceI) dPiece [] f fd) : Binds K fd psPiece [] := by
  obtain ⟨ds, h1, h2⟩ := F.binds1 (ps := psPiece) 9 6 (fun z => nomatch z) rfl fun T kV doc pm an cdv ct us its h1 h2 => match us, its, h1, h2 with
    | [_, _, _, _, _, _, _, _, _], [_, _, _, _, _, _], _, _ => ⟨_, rfl, rfl⟩
  cases h1
  exact h2
theorem binds_prog {K : PySem.W.Frag} {f e : Addr} {fd : FuncData} (F : FunD K "__init__" "Program.__init__" (defArgs sProgI) (defBody sProgI) (defScope sProgI) [.ref e] [] f fd) : Binds K fd ["self", "pieces"] [] := by
  obtain ⟨ds, h1, h2⟩ := F.binds1 (ps := ["self", "pieces"]) 2 1 (fun z => nomatch z) rfl fun T kV doc pm an cdv ct us its h1 h2 => match us, its, h1, h2 with
    | [_, _], [_], _, _ => ⟨_, rfl, rfl⟩
  cases h1
  exact h2
theorem binds_prog0 {K : PySem.W.Frag} {f e : Addr} {fd : FuncData} (F : FunD K "__init__" "Program.__init__" (defArgs sProgI) (defBody sProgI) (defScope sProgI) [.ref e] [] f fd) : ∃ ds, Vals [V.ref e] ds ∧ Binds K fd ["self", "pieces"] ds :=
  F.binds1 (ps := ["self", "pieces"]) 1 0 (fun z => nomatch z) rfl fun T kV doc pm an cdv ct us its h1 h2 => match us, its, h1, h2 with
    | [_], [_], _, _ => ⟨_, rfl, rfl⟩

theorem all_mk {l : PySem.W.OpenLaw} {w : World} {K : PySem.W.Frag} {h : Heap} {mg : Str → Option Value} {fa L C TC fPI CP TCP eP fGI NP fNI fsP flP fgP faP feP feC g_int g_num g_seq g_name g_names g_req g_rem g_head g_tail g_body g_rows g_check g_box g_take g_pick g_lname g_lpiece g_lmade g_lflat g_llines g_ltext g_lheard g_law : Addr} (X : K.In h) (G : h.Ns mainGlobals mg) (hfa : mg "law" = some (.ref fa))
    {od_Ci an_Ci : Option Addr} {sl_Ci : Array (Option Value)} {oc_Ci kV_Ci dc_Ci pm_Ci cd_Ci ct_Ci : Value}
    {u1 u2 u3 : Nat}
    {oc_TC : Value} {od_TC : Option Addr} {n_TC : Nat} {sl_TC : Array (Option Value)}
    {od_CPi an_CPi : Option Addr} {sl_CPi : Array (Option Value)} {oc_CPi kV_CPi dc_CPi pm_CPi cd_CPi ct_CPi : Value}
    {oc_TCP : Value} {od_TCP : Option Addr} {n_TCP : Nat} {sl_TCP : Array (Option Value)}
    {od_eP : Option Addr} {n_eP : Nat} {sl_eP : Array (Option Value)}
    {nm_N qn_N : Str} {N0_N : Addr} {bs_N : List Value} {sn_N : List Str} {sub0_N : List Value} {ab_N : Bool} {col_N : Option Bool} {dd_N : Option Addr} {m0_N m1_N m2_N m3_N m5_N : Option Value}
    {od_N an_N : Option Addr} {sl_N : Array (Option Value)} {oc_N kV_N dc_N pm_N cd_N ct_N : Value}
    {od_sP an_sP : Option Addr} {sl_sP : Array (Option Value)} {oc_sP kV_sP dc_sP pm_sP cd_sP ct_sP : Value}
    {od_lP an_lP : Option Addr} {sl_lP : Array (Option Value)} {oc_lP kV_lP dc_lP pm_lP cd_lP ct_lP : Value}
    {od_gP an_gP : Option Addr} {sl_gP : Array (Option Value)} {oc_gP kV_gP dc_gP pm_gP cd_gP ct_gP : Value}
    {od_aP an_aP : Option Addr} {sl_aP : Array (Option Value)} {oc_aP kV_aP dc_aP pm_aP cd_aP ct_aP : Value}
    {od_eqP an_eqP : Option Addr} {sl_eqP : Array (Option Value)} {oc_eqP kV_eqP dc_eqP pm_eqP cd_eqP ct_eqP : Value}
    {od_eqC an_eqC : Option Addr} {sl_eqC : Array (Option Value)} {oc_eqC kV_eqC dc_eqC pm_eqC cd_eqC ct_eqC : Value}
    {cdP : ClassData}
    {od_int an_int : Option Addr} {sl_int : Array (Option Value)} {oc_int kV_int dc_int pm_int cd_int ct_int : Value}
    {od_num an_num : Option Addr} {sl_num : Array (Option Value)} {oc_num kV_num dc_num pm_num cd_num ct_num : Value}
    {od_seq an_seq : Option Addr} {sl_seq : Array (Option Value)} {oc_seq kV_seq dc_seq pm_seq cd_seq ct_seq : Value}
    {od_name an_name : Option Addr} {sl_name : Array (Option Value)} {oc_name kV_name dc_name pm_name cd_name ct_name : Value}
    {od_names an_names : Option Addr} {sl_names : Array (Option Value)} {oc_names kV_names dc_names pm_names cd_names ct_names : Value}
    {od_req an_req : Option Addr} {sl_req : Array (Option Value)} {oc_req kV_req dc_req pm_req cd_req ct_req : Value}
    {od_rem an_rem : Option Addr} {sl_rem : Array (Option Value)} {oc_rem kV_rem dc_rem pm_rem cd_rem ct_rem : Value}
    {od_head an_head : Option Addr} {sl_head : Array (Option Value)} {oc_head kV_head dc_head pm_head cd_head ct_head : Value}
    {od_tail an_tail : Option Addr} {sl_tail : Array (Option Value)} {oc_tail kV_tail dc_tail pm_tail cd_tail ct_tail : Value}
    {od_body an_body : Option Addr} {sl_body : Array (Option Value)} {oc_body kV_body dc_body pm_body cd_body ct_body : Value}
    {od_rows an_rows : Option Addr} {sl_rows : Array (Option Value)} {oc_rows kV_rows dc_rows pm_rows cd_rows ct_rows : Value}
    {od_check an_check : Option Addr} {sl_check : Array (Option Value)} {oc_check kV_check dc_check pm_check cd_check ct_check : Value}
    {od_box an_box : Option Addr} {sl_box : Array (Option Value)} {oc_box kV_box dc_box pm_box cd_box ct_box : Value}
    {od_take an_take : Option Addr} {sl_take : Array (Option Value)} {oc_take kV_take dc_take pm_take cd_take ct_take : Value}
    {od_pick an_pick : Option Addr} {sl_pick : Array (Option Value)} {oc_pick kV_pick dc_pick pm_pick cd_pick ct_pick : Value}
    {od_lname an_lname : Option Addr} {sl_lname : Array (Option Value)} {oc_lname kV_lname dc_lname pm_lname cd_lname ct_lname : Value}
    {od_lpiece an_lpiece : Option Addr} {sl_lpiece : Array (Option Value)} {oc_lpiece kV_lpiece dc_lpiece pm_lpiece cd_lpiece ct_lpiece : Value}
    {od_lmade an_lmade : Option Addr} {sl_lmade : Array (Option Value)} {oc_lmade kV_lmade dc_lmade pm_lmade cd_lmade ct_lmade : Value}
    {od_lflat an_lflat : Option Addr} {sl_lflat : Array (Option Value)} {oc_lflat kV_lflat dc_lflat pm_lflat cd_lflat ct_lflat : Value}
    {od_llines an_llines : Option Addr} {sl_llines : Array (Option Value)} {oc_llines kV_llines dc_llines pm_llines cd_llines ct_llines : Value}
    {od_ltext an_ltext : Option Addr} {sl_ltext : Array (Option Value)} {oc_ltext kV_ltext dc_ltext pm_ltext cd_ltext ct_ltext : Value}
    {od_lheard an_lheard : Option Addr} {sl_lheard : Array (Option Value)} {oc_lheard kV_lheard dc_lheard pm_lheard cd_lheard ct_lheard : Value}
    {od_law an_law : Option Addr} {sl_law : Array (Option Value)} {oc_law kV_law dc_law pm_law cd_law ct_law : Value}
    (aL : PySem.W.nsIn K mainGlobals "LayError" = some (some (.ref L)))
    (tL : PySem.W.typeIn K (.ref L) = some (.type "type"))
    (hL : PySem.W.hasDictIn K L = true)
    (hn : PySem.W.specialIn K (.builtin "object.__class__") "__get__" = some (some (.builtin "getset_descriptor.__get__")))
    (ht : PySem.W.takesIn K (.builtin "object.__class__") = some true)
    (aC : PySem.W.nsIn K mainGlobals "Piece" = some (some (.ref C)))
    (pgC : PySem.W.plainGet K C Str.empty = true)
    (hdC : PySem.W.hasDictIn K C = true)
    (poC : PySem.W.plainOver K C = true)
    (saC : PySem.W.findIn K (.ref C) "__setattr__" = some (some (.builtin "object.__setattr__")))
    (caC : PySem.W.findIn K (.ref C) "__class__" = some (some (.builtin "object.__class__")))
    (moC : PySem.W.mroIn K C (.type "object") = some true)
    (nlC : PySem.W.subIn K (.ref C) (.type "list") = some false)
    (ntC : PySem.W.subIn K (.ref C) (.type "tuple") = some false)
    (nbC : PySem.W.subIn K (.ref C) (.type "bool") = some false)
    (tyC : PySem.W.typeIn K (.ref C) = some (.type "type"))
    (noC_word : PySem.W.findIn K (.ref C) "word" = some none)
    (noC_parts : PySem.W.findIn K (.ref C) "parts" = some none)
    (noC_broken : PySem.W.findIn K (.ref C) "broken" = some none)
    (noC_marked : PySem.W.findIn K (.ref C) "marked" = some none)
    (noC_ahead : PySem.W.findIn K (.ref C) "ahead" = some none)
    (noC_behind : PySem.W.findIn K (.ref C) "behind" = some none)
    (noC_blanks : PySem.W.findIn K (.ref C) "blanks" = some none)
    (noC_left : PySem.W.findIn K (.ref C) "left" = some none)
    (mkC : PySem.W.makesIn K C = true)
    (inC : PySem.W.findIn K (.ref C) "__init__" = some (some (.ref fPI)))
    (fiC : PySem.W.isFn K (.ref fPI) = true)
    (kpC : PySem.W.keepIn K (.ref C) = true)
    (l_Ci : K.lookup fPI = some ⟨oc_Ci, od_Ci, .func (PySem.W.fnOf "__init__" "Piece.__init__" (defArgs sPieceI) (defBody sPieceI) (defScope sPieceI) (.ref TC) kV_Ci dc_Ci pm_Ci an_Ci cd_Ci ct_Ci), sl_Ci⟩)
    (c_Ci : PySem.W.codeIn K cd_Ci "Piece.__init__" = true)
    (k_Ci : PySem.W.keepIn K (.ref fPI) = true)
    (l_TC : K.lookup TC = some ⟨oc_TC, od_TC, .seq [.bool false, .bool false, .str "" u1, .str "" u2, .int 0 u3, .bool false].toArray n_TC, sl_TC⟩)
    (aCP : PySem.W.nsIn K mainGlobals "Program" = some (some (.ref CP)))
    (pgCP : PySem.W.plainGet K CP Str.empty = true)
    (hdCP : PySem.W.hasDictIn K CP = true)
    (poCP : PySem.W.plainOver K CP = true)
    (saCP : PySem.W.findIn K (.ref CP) "__setattr__" = some (some (.builtin "object.__setattr__")))
    (caCP : PySem.W.findIn K (.ref CP) "__class__" = some (some (.builtin "object.__class__")))
    (moCP : PySem.W.mroIn K CP (.type "object") = some true)
    (nlCP : PySem.W.subIn K (.ref CP) (.type "list") = some false)
    (ntCP : PySem.W.subIn K (.ref CP) (.type "tuple") = some false)
    (nbCP : PySem.W.subIn K (.ref CP) (.type "bool") = some false)
    (tyCP : PySem.W.typeIn K (.ref CP) = some (.type "type"))
    (noCP_pieces : PySem.W.findIn K (.ref CP) "pieces" = some none)
    (mkCP : PySem.W.makesIn K CP = true)
    (inCP : PySem.W.findIn K (.ref CP) "__init__" = some (some (.ref fGI)))
    (fiCP : PySem.W.isFn K (.ref fGI) = true)
    (kpCP : PySem.W.keepIn K (.ref CP) = true)
    (l_CPi : K.lookup fGI = some ⟨oc_CPi, od_CPi, .func (PySem.W.fnOf "__init__" "Program.__init__" (defArgs sProgI) (defBody sProgI) (defScope sProgI) (.ref TCP) kV_CPi dc_CPi pm_CPi an_CPi cd_CPi ct_CPi), sl_CPi⟩)
    (c_CPi : PySem.W.codeIn K cd_CPi "Program.__init__" = true)
    (k_CPi : PySem.W.keepIn K (.ref fGI) = true)
    (l_TCP : K.lookup TCP = some ⟨oc_TCP, od_TCP, .seq [.ref eP].toArray n_TCP, sl_TCP⟩)
    (l_eP : K.lookup eP = some ⟨.type "tuple", od_eP, .seq [].toArray n_eP, sl_eP⟩)
    (aNP : PySem.W.nsIn K mainGlobals "NoPiece" = some (some (.ref NP)))
    (tyN : PySem.W.typeIn K (.ref NP) = some (.type "type"))
    (kNP : PySem.W.keepIn K (.ref NP) = true)
    (exN : PySem.W.subIn K (.ref NP) (.type "BaseException") = some true)
    (sLN : PySem.W.subIn K (.ref NP) (.ref L) = some true)
    (sSN : PySem.W.subIn K (.ref NP) (.ref NP) = some true)
    (gaN : PySem.W.findIn K (.ref NP) "__getattribute__" = some (some (.builtin "BaseException.__getattribute__")))
    (ggN : PySem.W.findIn K (.ref NP) "__getattr__" = some none)
    (hdN : PySem.W.hasDictIn K NP = true)
    (caN : PySem.W.findIn K (.ref NP) "__class__" = some (some (.builtin "object.__class__")))
    (moN : PySem.W.mroIn K NP (.type "object") = some true)
    (xLN : K.lookup NP = some (excClassObj nm_N qn_N NP N0_N bs_N [.ref L, .type "ValueError", .type "Exception", .type "BaseException", .type "object"] true sn_N sub0_N ab_N col_N dd_N m0_N m1_N m2_N m3_N m5_N "ValueError.__new__"))
    (saN : PySem.W.findIn K (.ref NP) "__setattr__" = some (some (.builtin "object.__setattr__")))
    (iniN : PySem.W.findIn K (.ref NP) "__init__" = some (some (.ref fNI)))
    (tiN : PySem.W.typeIn K (.ref fNI) = some (.type "function"))
    (noN : PySem.W.findIn K (.ref NP) "at" = some none)
    (l_N : K.lookup fNI = some ⟨oc_N, od_N, .func (PySem.W.fnOf "__init__" "NoPiece.__init__" (defArgs sNP) (defBody sNP) (defScope sNP) .none kV_N dc_N pm_N an_N cd_N ct_N), sl_N⟩)
    (c_N : PySem.W.codeIn K cd_N "NoPiece.__init__" = true)
    (k_N : PySem.W.keepIn K (.ref fNI) = true)
    (s_sP : PySem.W.findIn K (.ref CP) "__str__" = some (some (.ref fsP)))
    (f_sP : PySem.W.isFn K (.ref fsP) = true)
    (l_sP : K.lookup fsP = some ⟨oc_sP, od_sP, .func (PySem.W.fnOf "__str__" "Program.__str__" (defArgs sStrP) (defBody sStrP) (defScope sStrP) .none kV_sP dc_sP pm_sP an_sP cd_sP ct_sP), sl_sP⟩)
    (c_sP : PySem.W.codeIn K cd_sP "Program.__str__" = true)
    (k_sP : PySem.W.keepIn K (.ref fsP) = true)
    (s_lP : PySem.W.findIn K (.ref CP) "__len__" = some (some (.ref flP)))
    (f_lP : PySem.W.isFn K (.ref flP) = true)
    (l_lP : K.lookup flP = some ⟨oc_lP, od_lP, .func (PySem.W.fnOf "__len__" "Program.__len__" (defArgs sLenP) (defBody sLenP) (defScope sLenP) .none kV_lP dc_lP pm_lP an_lP cd_lP ct_lP), sl_lP⟩)
    (c_lP : PySem.W.codeIn K cd_lP "Program.__len__" = true)
    (k_lP : PySem.W.keepIn K (.ref flP) = true)
    (s_gP : PySem.W.findIn K (.ref CP) "__getitem__" = some (some (.ref fgP)))
    (f_gP : PySem.W.isFn K (.ref fgP) = true)
    (l_gP : K.lookup fgP = some ⟨oc_gP, od_gP, .func (PySem.W.fnOf "__getitem__" "Program.__getitem__" (defArgs sGetP) (defBody sGetP) (defScope sGetP) .none kV_gP dc_gP pm_gP an_gP cd_gP ct_gP), sl_gP⟩)
    (c_gP : PySem.W.codeIn K cd_gP "Program.__getitem__" = true)
    (k_gP : PySem.W.keepIn K (.ref fgP) = true)
    (s_aP : PySem.W.findIn K (.ref CP) "__add__" = some (some (.ref faP)))
    (f_aP : PySem.W.isFn K (.ref faP) = true)
    (l_aP : K.lookup faP = some ⟨oc_aP, od_aP, .func (PySem.W.fnOf "__add__" "Program.__add__" (defArgs sAddP) (defBody sAddP) (defScope sAddP) .none kV_aP dc_aP pm_aP an_aP cd_aP ct_aP), sl_aP⟩)
    (c_aP : PySem.W.codeIn K cd_aP "Program.__add__" = true)
    (k_aP : PySem.W.keepIn K (.ref faP) = true)
    (s_eqP : PySem.W.findIn K (.ref CP) "__eq__" = some (some (.ref feP)))
    (f_eqP : PySem.W.isFn K (.ref feP) = true)
    (l_eqP : K.lookup feP = some ⟨oc_eqP, od_eqP, .func (PySem.W.fnOf "__eq__" "Program.__eq__" (defArgs sEqP) (defBody sEqP) (defScope sEqP) .none kV_eqP dc_eqP pm_eqP an_eqP cd_eqP ct_eqP), sl_eqP⟩)
    (c_eqP : PySem.W.codeIn K cd_eqP "Program.__eq__" = true)
    (k_eqP : PySem.W.keepIn K (.ref feP) = true)
    (s_eqC : PySem.W.findIn K (.ref C) "__eq__" = some (some (.ref feC)))
    (f_eqC : PySem.W.isFn K (.ref feC) = true)
    (l_eqC : K.lookup feC = some ⟨oc_eqC, od_eqC, .func (PySem.W.fnOf "__eq__" "Piece.__eq__" (defArgs sEqPc) (defBody sEqPc) (defScope sEqPc) .none kV_eqC dc_eqC pm_eqC an_eqC cd_eqC ct_eqC), sl_eqC⟩)
    (c_eqC : PySem.W.codeIn K cd_eqC "Piece.__eq__" = true)
    (k_eqC : PySem.W.keepIn K (.ref feC) = true)
    (neP : PySem.W.findIn K (.ref CP) "__ne__" = some (some (.builtin "object.__ne__")))
    (neC : PySem.W.findIn K (.ref C) "__ne__" = some (some (.builtin "object.__ne__")))
    (nfs : PySem.W.notFirst K CP (.type "str") = true)
    (fiP : PySem.W.fnIn K fgP = true)
    (sfP : PySem.W.selfFirst K CP = true)
    (clP : PySem.W.clsIn K CP = some cdP)
    (mrP : cdP.mro = [.ref CP, .type "object"])
    (iaP : PySem.W.findIn K (.ref CP) "__iadd__" = some none)
    (ioP : PySem.W.findIn K (.type "object") "__iadd__" = some none)
    (a_int : PySem.W.nsIn K mainGlobals "is_integer" = some (some (.ref g_int)))
    (l_int : K.lookup g_int = some ⟨oc_int, od_int, .func (PySem.W.fnOf "is_integer" "is_integer" (defArgs sInt) (defBody sInt) (defScope sInt) .none kV_int dc_int pm_int an_int cd_int ct_int), sl_int⟩)
    (c_int : PySem.W.codeIn K cd_int "is_integer" = true)
    (k_int : PySem.W.keepIn K (.ref g_int) = true)
    (a_num : PySem.W.nsIn K mainGlobals "is_number" = some (some (.ref g_num)))
    (l_num : K.lookup g_num = some ⟨oc_num, od_num, .func (PySem.W.fnOf "is_number" "is_number" (defArgs sNum) (defBody sNum) (defScope sNum) .none kV_num dc_num pm_num an_num cd_num ct_num), sl_num⟩)
    (c_num : PySem.W.codeIn K cd_num "is_number" = true)
    (k_num : PySem.W.keepIn K (.ref g_num) = true)
    (a_seq : PySem.W.nsIn K mainGlobals "is_sequence" = some (some (.ref g_seq)))
    (l_seq : K.lookup g_seq = some ⟨oc_seq, od_seq, .func (PySem.W.fnOf "is_sequence" "is_sequence" (defArgs sSeq) (defBody sSeq) (defScope sSeq) .none kV_seq dc_seq pm_seq an_seq cd_seq ct_seq), sl_seq⟩)
    (c_seq : PySem.W.codeIn K cd_seq "is_sequence" = true)
    (k_seq : PySem.W.keepIn K (.ref g_seq) = true)
    (a_name : PySem.W.nsIn K mainGlobals "is_name" = some (some (.ref g_name)))
    (l_name : K.lookup g_name = some ⟨oc_name, od_name, .func (PySem.W.fnOf "is_name" "is_name" (defArgs sName) (defBody sName) (defScope sName) .none kV_name dc_name pm_name an_name cd_name ct_name), sl_name⟩)
    (c_name : PySem.W.codeIn K cd_name "is_name" = true)
    (k_name : PySem.W.keepIn K (.ref g_name) = true)
    (a_names : PySem.W.nsIn K mainGlobals "are_names" = some (some (.ref g_names)))
    (l_names : K.lookup g_names = some ⟨oc_names, od_names, .func (PySem.W.fnOf "are_names" "are_names" (defArgs sNames) (defBody sNames) (defScope sNames) .none kV_names dc_names pm_names an_names cd_names ct_names), sl_names⟩)
    (c_names : PySem.W.codeIn K cd_names "are_names" = true)
    (k_names : PySem.W.keepIn K (.ref g_names) = true)
    (a_req : PySem.W.nsIn K mainGlobals "require" = some (some (.ref g_req)))
    (l_req : K.lookup g_req = some ⟨oc_req, od_req, .func (PySem.W.fnOf "require" "require" (defArgs sReq) (defBody sReq) (defScope sReq) .none kV_req dc_req pm_req an_req cd_req ct_req), sl_req⟩)
    (c_req : PySem.W.codeIn K cd_req "require" = true)
    (k_req : PySem.W.keepIn K (.ref g_req) = true)
    (a_rem : PySem.W.nsIn K mainGlobals "is_remark" = some (some (.ref g_rem)))
    (l_rem : K.lookup g_rem = some ⟨oc_rem, od_rem, .func (PySem.W.fnOf "is_remark" "is_remark" (defArgs sRem) (defBody sRem) (defScope sRem) .none kV_rem dc_rem pm_rem an_rem cd_rem ct_rem), sl_rem⟩)
    (c_rem : PySem.W.codeIn K cd_rem "is_remark" = true)
    (k_rem : PySem.W.keepIn K (.ref g_rem) = true)
    (a_head : PySem.W.nsIn K mainGlobals "head_of" = some (some (.ref g_head)))
    (l_head : K.lookup g_head = some ⟨oc_head, od_head, .func (PySem.W.fnOf "head_of" "head_of" (defArgs sHead) (defBody sHead) (defScope sHead) .none kV_head dc_head pm_head an_head cd_head ct_head), sl_head⟩)
    (c_head : PySem.W.codeIn K cd_head "head_of" = true)
    (k_head : PySem.W.keepIn K (.ref g_head) = true)
    (a_tail : PySem.W.nsIn K mainGlobals "tail_of" = some (some (.ref g_tail)))
    (l_tail : K.lookup g_tail = some ⟨oc_tail, od_tail, .func (PySem.W.fnOf "tail_of" "tail_of" (defArgs sTail) (defBody sTail) (defScope sTail) .none kV_tail dc_tail pm_tail an_tail cd_tail ct_tail), sl_tail⟩)
    (c_tail : PySem.W.codeIn K cd_tail "tail_of" = true)
    (k_tail : PySem.W.keepIn K (.ref g_tail) = true)
    (a_body : PySem.W.nsIn K mainGlobals "body_rows" = some (some (.ref g_body)))
    (l_body : K.lookup g_body = some ⟨oc_body, od_body, .func (PySem.W.fnOf "body_rows" "body_rows" (defArgs sBody) (defBody sBody) (defScope sBody) .none kV_body dc_body pm_body an_body cd_body ct_body), sl_body⟩)
    (c_body : PySem.W.codeIn K cd_body "body_rows" = true)
    (k_body : PySem.W.keepIn K (.ref g_body) = true)
    (a_rows : PySem.W.nsIn K mainGlobals "rows_of" = some (some (.ref g_rows)))
    (l_rows : K.lookup g_rows = some ⟨oc_rows, od_rows, .func (PySem.W.fnOf "rows_of" "rows_of" (defArgs sRowsOf) (defBody sRowsOf) (defScope sRowsOf) .none kV_rows dc_rows pm_rows an_rows cd_rows ct_rows), sl_rows⟩)
    (c_rows : PySem.W.codeIn K cd_rows "rows_of" = true)
    (k_rows : PySem.W.keepIn K (.ref g_rows) = true)
    (a_check : PySem.W.nsIn K mainGlobals "check_pieces" = some (some (.ref g_check)))
    (l_check : K.lookup g_check = some ⟨oc_check, od_check, .func (PySem.W.fnOf "check_pieces" "check_pieces" (defArgs sCheck) (defBody sCheck) (defScope sCheck) .none kV_check dc_check pm_check an_check cd_check ct_check), sl_check⟩)
    (c_check : PySem.W.codeIn K cd_check "check_pieces" = true)
    (k_check : PySem.W.keepIn K (.ref g_check) = true)
    (a_box : PySem.W.nsIn K mainGlobals "_law_box" = some (some (.ref g_box)))
    (l_box : K.lookup g_box = some ⟨oc_box, od_box, .func (PySem.W.fnOf "_law_box" "_law_box" (defArgs sBox) (defBody sBox) (defScope sBox) .none kV_box dc_box pm_box an_box cd_box ct_box), sl_box⟩)
    (c_box : PySem.W.codeIn K cd_box "_law_box" = true)
    (k_box : PySem.W.keepIn K (.ref g_box) = true)
    (a_take : PySem.W.nsIn K mainGlobals "_law_take" = some (some (.ref g_take)))
    (l_take : K.lookup g_take = some ⟨oc_take, od_take, .func (PySem.W.fnOf "_law_take" "_law_take" (defArgs sTake) (defBody sTake) (defScope sTake) .none kV_take dc_take pm_take an_take cd_take ct_take), sl_take⟩)
    (c_take : PySem.W.codeIn K cd_take "_law_take" = true)
    (k_take : PySem.W.keepIn K (.ref g_take) = true)
    (a_pick : PySem.W.nsIn K mainGlobals "_law_pick" = some (some (.ref g_pick)))
    (l_pick : K.lookup g_pick = some ⟨oc_pick, od_pick, .func (PySem.W.fnOf "_law_pick" "_law_pick" (defArgs sPick) (defBody sPick) (defScope sPick) .none kV_pick dc_pick pm_pick an_pick cd_pick ct_pick), sl_pick⟩)
    (c_pick : PySem.W.codeIn K cd_pick "_law_pick" = true)
    (k_pick : PySem.W.keepIn K (.ref g_pick) = true)
    (a_lname : PySem.W.nsIn K mainGlobals "_law_name" = some (some (.ref g_lname)))
    (l_lname : K.lookup g_lname = some ⟨oc_lname, od_lname, .func (PySem.W.fnOf "_law_name" "_law_name" (defArgs sLName) (defBody sLName) (defScope sLName) .none kV_lname dc_lname pm_lname an_lname cd_lname ct_lname), sl_lname⟩)
    (c_lname : PySem.W.codeIn K cd_lname "_law_name" = true)
    (k_lname : PySem.W.keepIn K (.ref g_lname) = true)
    (a_lpiece : PySem.W.nsIn K mainGlobals "_law_piece" = some (some (.ref g_lpiece)))
    (l_lpiece : K.lookup g_lpiece = some ⟨oc_lpiece, od_lpiece, .func (PySem.W.fnOf "_law_piece" "_law_piece" (defArgs sLPiece) (defBody sLPiece) (defScope sLPiece) .none kV_lpiece dc_lpiece pm_lpiece an_lpiece cd_lpiece ct_lpiece), sl_lpiece⟩)
    (c_lpiece : PySem.W.codeIn K cd_lpiece "_law_piece" = true)
    (k_lpiece : PySem.W.keepIn K (.ref g_lpiece) = true)
    (a_lmade : PySem.W.nsIn K mainGlobals "_law_made" = some (some (.ref g_lmade)))
    (l_lmade : K.lookup g_lmade = some ⟨oc_lmade, od_lmade, .func (PySem.W.fnOf "_law_made" "_law_made" (defArgs sLMade) (defBody sLMade) (defScope sLMade) .none kV_lmade dc_lmade pm_lmade an_lmade cd_lmade ct_lmade), sl_lmade⟩)
    (c_lmade : PySem.W.codeIn K cd_lmade "_law_made" = true)
    (k_lmade : PySem.W.keepIn K (.ref g_lmade) = true)
    (a_lflat : PySem.W.nsIn K mainGlobals "_law_flat" = some (some (.ref g_lflat)))
    (l_lflat : K.lookup g_lflat = some ⟨oc_lflat, od_lflat, .func (PySem.W.fnOf "_law_flat" "_law_flat" (defArgs sLFlat) (defBody sLFlat) (defScope sLFlat) .none kV_lflat dc_lflat pm_lflat an_lflat cd_lflat ct_lflat), sl_lflat⟩)
    (c_lflat : PySem.W.codeIn K cd_lflat "_law_flat" = true)
    (k_lflat : PySem.W.keepIn K (.ref g_lflat) = true)
    (a_llines : PySem.W.nsIn K mainGlobals "_law_lines" = some (some (.ref g_llines)))
    (l_llines : K.lookup g_llines = some ⟨oc_llines, od_llines, .func (PySem.W.fnOf "_law_lines" "_law_lines" (defArgs sLLines) (defBody sLLines) (defScope sLLines) .none kV_llines dc_llines pm_llines an_llines cd_llines ct_llines), sl_llines⟩)
    (c_llines : PySem.W.codeIn K cd_llines "_law_lines" = true)
    (k_llines : PySem.W.keepIn K (.ref g_llines) = true)
    (a_ltext : PySem.W.nsIn K mainGlobals "_law_text" = some (some (.ref g_ltext)))
    (l_ltext : K.lookup g_ltext = some ⟨oc_ltext, od_ltext, .func (PySem.W.fnOf "_law_text" "_law_text" (defArgs sLText) (defBody sLText) (defScope sLText) .none kV_ltext dc_ltext pm_ltext an_ltext cd_ltext ct_ltext), sl_ltext⟩)
    (c_ltext : PySem.W.codeIn K cd_ltext "_law_text" = true)
    (k_ltext : PySem.W.keepIn K (.ref g_ltext) = true)
    (a_lheard : PySem.W.nsIn K mainGlobals "_law_heard" = some (some (.ref g_lheard)))
    (l_lheard : K.lookup g_lheard = some ⟨oc_lheard, od_lheard, .func (PySem.W.fnOf "_law_heard" "_law_heard" (defArgs sLHeard) (defBody sLHeard) (defScope sLHeard) .none kV_lheard dc_lheard pm_lheard an_lheard cd_lheard ct_lheard), sl_lheard⟩)
    (c_lheard : PySem.W.codeIn K cd_lheard "_law_heard" = true)
    (k_lheard : PySem.W.keepIn K (.ref g_lheard) = true)
    (a_law : PySem.W.nsIn K mainGlobals "law" = some (some (.ref g_law)))
    (l_law : K.lookup g_law = some ⟨oc_law, od_law, .func (PySem.W.fnOf "law" "law" (defArgs sLaw) (defBody sLaw) (defScope sLaw) .none kV_law dc_law pm_law an_law cd_law ct_law), sl_law⟩)
    (c_law : PySem.W.codeIn K cd_law "law" = true)
    (k_law : PySem.W.keepIn K (.ref g_law) = true)
    (z_int : PySem.W.nsIn K mainGlobals "int" = some none)
    (z_bool : PySem.W.nsIn K mainGlobals "bool" = some none)
    (z_str : PySem.W.nsIn K mainGlobals "str" = some none)
    (z_list : PySem.W.nsIn K mainGlobals "list" = some none)
    (z_tuple : PySem.W.nsIn K mainGlobals "tuple" = some none)
    (z_isinstance : PySem.W.nsIn K mainGlobals "isinstance" = some none)
    (z_len : PySem.W.nsIn K mainGlobals "len" = some none)
    (z_all : PySem.W.nsIn K mainGlobals "all" = some none)
    (z_abs : PySem.W.nsIn K mainGlobals "abs" = some none)
    (z_range : PySem.W.nsIn K mainGlobals "range" = some none)
    (z_max : PySem.W.nsIn K mainGlobals "max" = some none)
    (z_min : PySem.W.nsIn K mainGlobals "min" = some none)
    (z_enumerate : PySem.W.nsIn K mainGlobals "enumerate" = some none)
    : ∃ fd : FuncData, (∀ (s : Shared) (v : Value), BindsTo s fd ⟨[v], []⟩ [("_law_script", v)]) ∧ ∀ base : Heap, K.In base → base.Ns mainGlobals mg → FnOk l.prog w K mg base CX0 9 fa fd ["_law_script"] (spLaw K) := by
  have e := hfa.symm.trans (PySem.W.mg_of X G a_law)
  cases e
  have M : ∀ {x : Str} {a : Addr}, PySem.W.nsIn K mainGlobals x = some (some (.ref a)) → mg x = some (.ref a) := fun h => PySem.W.mg_of X G h
  have N : ∀ {x : Str}, PySem.W.nsIn K mainGlobals x = some none → mg x = none := fun h => PySem.W.mg_none_of X G h
  have F_int := fun_mk (st := sInt) l_int c_int k_int
  have b_int := F_int.binds (ps := ["value"]) fun _ _ _ _ _ _ us hl => match us, hl with | [_], _ => rfl
  have F_num := fun_mk (st := sNum) l_num c_num k_num
  have b_num := F_num.binds (ps := ["value", "many"]) fun _ _ _ _ _ _ us hl => match us, hl with | [_, _], _ => rfl
  have F_seq := fun_mk (st := sSeq) l_seq c_seq k_seq
  have b_seq := F_seq.binds (ps := ["value"]) fun _ _ _ _ _ _ us hl => match us, hl with | [_], _ => rfl
  have F_name := fun_mk (st := sName) l_name c_name k_name
  have b_name := F_name.binds (ps := ["value"]) fun _ _ _ _ _ _ us hl => match us, hl with | [_], _ => rfl
  have F_names := fun_mk (st := sNames) l_names c_names k_names
  have b_names := F_names.binds (ps := ["value"]) fun _ _ _ _ _ _ us hl => match us, hl with | [_], _ => rfl
  have F_req := fun_mk (st := sReq) l_req c_req k_req
  have b_req := F_req.binds (ps := ["holds", "word"]) fun _ _ _ _ _ _ us hl => match us, hl with | [_, _], _ => rfl
  have F_rem := fun_mk (st := sRem) l_rem c_rem k_rem
  have b_rem := F_rem.binds (ps := ["value"]) fun _ _ _ _ _ _ us hl => match us, hl with | [_], _ => rfl
  have F_head := fun_mk (st := sHead) l_head c_head k_head
  have b_head := F_head.binds (ps := ["piece"]) fun _ _ _ _ _ _ us hl => match us, hl with | [_], _ => rfl
  have F_tail := fun_mk (st := sTail) l_tail c_tail k_tail
  have b_tail := F_tail.binds (ps := ["piece"]) fun _ _ _ _ _ _ us hl => match us, hl with | [_], _ => rfl
  have F_body := fun_mk (st := sBody) l_body c_body k_body
  have b_body := F_body.binds (ps := ["piece"]) fun _ _ _ _ _ _ us hl => match us, hl with | [_], _ => rfl
  have F_rows := fun_mk (st := sRowsOf) l_rows c_rows k_rows
  have b_rows := F_rows.binds (ps := ["piece"]) fun _ _ _ _ _ _ us hl => match us, hl with | [_], _ => rfl
  have F_check := fun_mk (st := sCheck) l_check c_check k_check
  have b_check := F_check.binds (ps := ["value"]) fun _ _ _ _ _ _ us hl => match us, hl with | [_], _ => rfl
  have F_box := fun_mk (st := sBox) l_box c_box k_box
  have b_box := F_box.binds (ps := ["_law_script", "_law_k", "_law_own"]) fun _ _ _ _ _ _ us hl => match us, hl with | [_, _, _], _ => rfl
  have F_take := fun_mk (st := sTake) l_take c_take k_take
  have b_take := F_take.binds (ps := ["_law_box_here", "_law_many"]) fun _ _ _ _ _ _ us hl => match us, hl with | [_, _], _ => rfl
  have F_pick := fun_mk (st := sPick) l_pick c_pick k_pick
  have b_pick := F_pick.binds (ps := ["_law_box_here", "_law_items"]) fun _ _ _ _ _ _ us hl => match us, hl with | [_, _], _ => rfl
  have F_lname := fun_mk (st := sLName) l_lname c_lname k_lname
  have b_lname := F_lname.binds (ps := ["_law_box_here", "_law_most"]) fun _ _ _ _ _ _ us hl => match us, hl with | [_, _], _ => rfl
  have F_lpiece := fun_mk (st := sLPiece) l_lpiece c_lpiece k_lpiece
  have b_lpiece := F_lpiece.binds (ps := ["_law_box_here", "_law_many"]) fun _ _ _ _ _ _ us hl => match us, hl with | [_, _], _ => rfl
  have F_lmade := fun_mk (st := sLMade) l_lmade c_lmade k_lmade
  have b_lmade := F_lmade.binds (ps := ["_law_piece_here"]) fun _ _ _ _ _ _ us hl => match us, hl with | [_], _ => rfl
  have F_lflat := fun_mk (st := sLFlat) l_lflat c_lflat k_lflat
  have b_lflat := F_lflat.binds (ps := ["_law_piece_here", "_law_is_marked", "_law_remark"]) fun _ _ _ _ _ _ us hl => match us, hl with | [_, _, _], _ => rfl
  have F_llines := fun_mk (st := sLLines) l_llines c_llines k_llines
  have b_llines := F_llines.binds (ps := ["_law_piece_here"]) fun _ _ _ _ _ _ us hl => match us, hl with | [_], _ => rfl
  have F_ltext := fun_mk (st := sLText) l_ltext c_ltext k_ltext
  have b_ltext := F_ltext.binds (ps := ["_law_pieces"]) fun _ _ _ _ _ _ us hl => match us, hl with | [_], _ => rfl
  have F_lheard := fun_mk (st := sLHeard) l_lheard c_lheard k_lheard
  have b_lheard := F_lheard.binds (ps := ["_law_program", "_law_at"]) fun _ _ _ _ _ _ us hl => match us, hl with | [_, _], _ => rfl
  have F_law := fun_mk (st := sLaw) l_law c_law k_law
  have b_law := F_law.binds (ps := ["_law_script"]) fun _ _ _ _ _ _ us hl => match us, hl with | [_], _ => rfl
  have F_sP := fun_mk (st := sStrP) l_sP c_sP k_sP
  have b_sP := F_sP.binds (ps := ["self"]) fun _ _ _ _ _ _ us hl => match us, hl with | [_], _ => rfl
  have F_lP := fun_mk (st := sLenP) l_lP c_lP k_lP
  have b_lP := F_lP.binds (ps := ["self"]) fun _ _ _ _ _ _ us hl => match us, hl with | [_], _ => rfl
  have F_gP := fun_mk (st := sGetP) l_gP c_gP k_gP
  have b_gP := F_gP.binds (ps := ["self", "at"]) fun _ _ _ _ _ _ us hl => match us, hl with | [_, _], _ => rfl
  have F_aP := fun_mk (st := sAddP) l_aP c_aP k_aP
  have b_aP := F_aP.binds (ps := ["self", "other"]) fun _ _ _ _ _ _ us hl => match us, hl with | [_, _], _ => rfl
  have F_eqP := fun_mk (st := sEqP) l_eqP c_eqP k_eqP
  have b_eqP := F_eqP.binds (ps := ["self", "other"]) fun _ _ _ _ _ _ us hl => match us, hl with | [_, _], _ => rfl
  have F_eqC := fun_mk (st := sEqPc) l_eqC c_eqC k_eqC
  have b_eqC := F_eqC.binds (ps := ["self", "other"]) fun _ _ _ _ _ _ us hl => match us, hl with | [_, _], _ => rfl
  have isCN : ExcC K NP := ⟨gaN, ggN, exN, hdN, caN, hn, ht, moN⟩
  have XN : XC K mg NP fNI "NoPiece" "at" := ⟨⟨⟨_, _, _, _, _, _, _, _, _, _, _, _, _, _, _, xLN, refs_ok L⟩, saN, exN, tyN, kNP⟩, iniN, tiN, M aNP, noN, isCN, ⟨gaN, ggN, exN, hdN⟩⟩
  have F_N := fun_mk (st := sNP) l_N c_N k_N
  have b_N := F_N.binds (ps := ["self", "at"]) fun _ _ _ _ _ _ us hl => match us, hl with | [_, _], _ => rfl
  have FPI : FunD K "__init__" "Piece.__init__" (defArgs sPieceI) (defBody sPieceI) (defScope sPieceI) dPiece [] fPI _ :=
    ⟨⟨_, _, _, _, _, _, _, _, _, _, rfl, l_Ci, c_Ci, .inr ⟨(fun z => nomatch z), TC, _, _, _, rfl, l_TC, rfl, .cons rfl (.cons rfl (.cons ⟨_, rfl⟩ (.cons ⟨_, rfl⟩ (.cons ⟨_, rfl⟩ (.cons rfl .nil)))))⟩, .inl rfl⟩, k_Ci⟩
  have FGI : FunD K "__init__" "Program.__init__" (defArgs sProgI) (defBody sProgI) (defScope sProgI) [.ref eP] [] fGI _ :=
    ⟨⟨_, _, _, _, _, _, _, _, _, _, rfl, l_CPi, c_CPi, .inr ⟨(fun z => nomatch z), TCP, _, _, _, rfl, l_TCP, rfl, .cons rfl .nil⟩, .inl rfl⟩, k_CPi⟩
  have D : TxtD mg := ⟨N z_int, N z_len, N z_abs, N z_range⟩
  have T : TxtK mg := ⟨N z_int, N z_bool, N z_str, N z_list, N z_tuple, N z_isinstance, N z_len, N z_all, N z_enumerate⟩
  have c : ClsI K C := ⟨⟨pgC, hdC, poC, saC⟩, caC, hn, ht, moC⟩
  have cp : ClsI K CP := ⟨⟨pgCP, hdCP, poCP, saCP⟩, caCP, hn, ht, moCP⟩
  have ZC : PieceC K C := ⟨c.cl, noC_word, noC_parts, noC_broken, noC_marked, noC_ahead, noC_behind, noC_blanks, noC_left⟩
  have Z : ProgC K CP := ⟨cp.cl, noCP_pieces⟩
  have mk1 : Mk K C fPI := ⟨mkC, inC, fiC, kpC⟩
  have mk2 : Mk K CP fGI := ⟨mkCP, inCP, fiCP, kpCP⟩
  have emp : ∀ H : Hp, TupG K H eP [] := fun H => .inr ⟨_, _, _, l_eP, rfl, rfl, (by show 0 ≤ sizeLine; exact Nat.zero_le _), .nil⟩
  refine ⟨PySem.W.fnOf "law" "law" (defArgs sLaw) (defBody sLaw) (defScope sLaw) .none kV_law dc_law pm_law an_law cd_law ct_law, fun s v => .of_eq rfl, fun base _ _ => ?_⟩
  have okName : FnOk l.prog w K mg base CX0 1 g_name _ ["value"] (spName K) := ok_name F_name T
  have okSeq : FnOk l.prog w K mg base CX0 1 g_seq _ ["value"] (spSeq K) := ok_seq F_seq T
  have okInt : FnOk l.prog w K mg base CX0 1 g_int _ ["value"] (spInt K) := ok_int F_int T
  have okNum := ok_num F_num okInt (M a_int) k_int b_int
  have Dp : PieceD l.prog w K mg base g_req g_name g_names g_rem g_num _ _ _ _ _ := ⟨ok_req F_req, M a_req, k_req, b_req, okName, M a_name, k_name, b_name,
    ok_names F_names T okSeq (M a_seq) k_seq b_seq okName (M a_name) k_name b_name, M a_names, k_names, b_names, ok_rem F_rem T okName (M a_name) k_name b_name, M a_rem, k_rem, b_rem, okNum, M a_num, k_num, b_num⟩
  have okPI := ok_pieceI (C := C) FPI T ZC Dp
  have okCh := ok_checkG (P := l.prog) (w := w) (base := base) (C := C) F_check T okSeq (M a_seq) k_seq b_seq (M aC)
  have okGI := ok_progG (C := C) FGI T Z okCh (M a_check) k_check b_check
  have okHead := ok_head (P := l.prog) (w := w) (mg := mg) (base := base) F_head ZC
  have okTail := ok_tail (P := l.prog) (w := w) (mg := mg) (base := base) F_tail ZC
  have okBody := ok_body F_body ZC okHead (M a_head) k_head b_head okTail (M a_tail) k_tail b_tail
  have okRows := ok_rowsOf F_rows ZC okBody (M a_body) k_body b_body
  have okStr := ok_strP (CP := CP) F_sP Z okRows (M a_rows) k_rows b_rows
  have okLen := ok_lenP (P := l.prog) (w := w) (base := base) (C := C) F_lP (N z_len) Z
  have okEq := ok_eqP F_eqP T (N z_str) cp (M aCP) okStr s_sP f_sP b_sP
  have okEqN := ok_eqN F_eqP T (N z_str) (M aCP) okStr s_sP f_sP b_sP
  have okPc := ok_eqPc (P := l.prog) (w := w) (base := base) F_eqC T c ZC (M aC)
  have okGet := ok_getG (C := C) F_gP (N z_len) Z okNum (M a_num) k_num b_num
  have okNI := ok_nP (P := l.prog) (w := w) (mg := mg) (base := base) (C := NP) F_N
  have okBad := ok_getB (C := C) F_gP (N z_len) Z okNum (M a_num) k_num b_num XN okNI b_N
  have okAdd := ok_addP F_aP T c cp Z (M aCP) mk2 okGI (binds_prog FGI)
  have PG : PgF l.prog w K mg base C CP := ⟨M aC, M aCP, Z, c, cp, by
      obtain ⟨ds, h1, h2⟩ := binds_piece FPI
      exact ⟨_, _, ds, mk1, okPI, h1, h2⟩, ⟨_, _, mk2, okGI, binds_prog FGI, by
      obtain ⟨ds, h1, h2⟩ := binds_prog0 FGI
      exact ⟨_, ds, h1, h2, emp⟩⟩, ⟨_, _, okStr, s_sP, f_sP, b_sP⟩, ⟨_, _, okLen, s_lP, f_lP, b_lP⟩, ⟨_, _, okEq, okEqN, s_eqP, f_eqP, b_eqP⟩, neP, nfs, kit_cls hdCP tyCP np_str (fun z => nomatch z), ⟨_, _, okPc, s_eqC, f_eqC, b_eqC⟩, neC, ⟨_, _, okGet, s_gP, fiP, f_gP, b_gP⟩, ⟨_, _, okAdd, s_aP, f_aP, b_aP⟩, sfP, ⟨_, clP, mrP⟩, iaP, ioP⟩
  have okTake : FnOk l.prog w K mg base CX0 1 g_take _ ["_law_box_here", "_law_many"] spTake := ok_take F_take D
  have okPick : FnOk l.prog w K mg base CX0 2 g_pick _ ["_law_box_here", "_law_items"] (spPick K) := ok_pick F_pick D F_take b_take (M a_take)
  have okLN := ok_lname F_lname (N z_range) (N z_list) okTake (M a_take) k_take b_take okPick (M a_pick) k_pick b_pick
  have okLP := ok_lpiece F_lpiece (N z_range) okTake (M a_take) k_take b_take okPick (M a_pick) k_pick b_pick okLN (M a_lname) k_lname b_lname
  have okLM := ok_lmade (C := C) F_lmade (M aC) mk1 okPI (binds_piece8 FPI)
  have okLF := ok_lflat (P := l.prog) (w := w) (K := K) (mg := mg) (base := base) F_lflat
  have okLL := ok_llines F_llines (N z_len) (N z_enumerate) okLF (M a_lflat) k_lflat b_lflat
  have okLT := ok_ltext F_ltext okLL (M a_llines) k_llines b_llines
  have okLH := ok_lheard F_lheard XN (PySem.W.exm_ref exN hdN tyN sSN) okBad s_gP fiP f_gP b_gP
  exact ok_law F_law ⟨N z_range, N z_max, N z_min, N z_len, N z_str, N z_list, N z_tuple⟩ PG (ok_box F_box D) (M a_box) k_box b_box okTake (M a_take) k_take b_take okLP (M a_lpiece) k_lpiece b_lpiece okLM (M a_lmade) k_lmade b_lmade okLT (M a_ltext) k_ltext b_ltext okLH (M a_lheard) k_lheard b_lheard
end Lay
open PySem PySem.W PyProof.Rows
set_option Elab.async false
set_option maxRecDepth 100000 in
set_option maxHeartbeats 0 in
theorem PySem.Challenge.cw_laytwice_k04_programs_made_holds : PySem.Challenge.rw_laytwice_k04_programs_made.Holds := by
  w_on; o_law; k_head; (case hw => w_witness2)
  k_fill
  refine L2.walk_of (l := PySem.Challenge.rw_laytwice_k04_programs_made) (n := 63) (k := 9) (x := "_law_script") (CX := fun _ => L2.CX0) (sp := fun w => Lay.spLaw _) rfl (by decide) rfl ⟨rfl, by decide, by decide⟩ (fun w h Y => PySem.W.kIn_of Y) ?F (fun _ _ a ns hl _ hS => ⟨a, ns, rfl, hS, hl, fun _ => rfl⟩) (fun _ _ _ _ _ z => z.elim)
  case F =>
    intro w mg fa h KX G hmg
    refine' Lay.all_mk KX G hmg ?aL ?tL ?hL ?hn ?ht ?aC ?pgC ?hdC ?poC ?saC ?caC ?moC ?nlC ?ntC ?nbC ?tyC ?noC_word ?noC_parts ?noC_broken ?noC_marked ?noC_ahead ?noC_behind ?noC_blanks ?noC_left ?mkC ?inC ?fiC ?kpC ?l_Ci ?c_Ci ?k_Ci ?l_TC ?aCP ?pgCP ?hdCP ?poCP ?saCP ?caCP ?moCP ?nlCP ?ntCP ?nbCP ?tyCP ?noCP_pieces ?mkCP ?inCP ?fiCP ?kpCP ?l_CPi ?c_CPi ?k_CPi ?l_TCP ?l_eP ?aNP ?tyN ?kNP ?exN ?sLN ?sSN ?gaN ?ggN ?hdN ?caN ?moN ?xLN ?saN ?iniN ?tiN ?noN ?l_N ?c_N ?k_N ?s_sP ?f_sP ?l_sP ?c_sP ?k_sP ?s_lP ?f_lP ?l_lP ?c_lP ?k_lP ?s_gP ?f_gP ?l_gP ?c_gP ?k_gP ?s_aP ?f_aP ?l_aP ?c_aP ?k_aP ?s_eqP ?f_eqP ?l_eqP ?c_eqP ?k_eqP ?s_eqC ?f_eqC ?l_eqC ?c_eqC ?k_eqC ?neP ?neC ?nfs ?fiP ?sfP ?clP ?mrP ?iaP ?ioP ?a_int ?l_int ?c_int ?k_int ?a_num ?l_num ?c_num ?k_num ?a_seq ?l_seq ?c_seq ?k_seq ?a_name ?l_name ?c_name ?k_name ?a_names ?l_names ?c_names ?k_names ?a_req ?l_req ?c_req ?k_req ?a_rem ?l_rem ?c_rem ?k_rem ?a_head ?l_head ?c_head ?k_head ?a_tail ?l_tail ?c_tail ?k_tail ?a_body ?l_body ?c_body ?k_body ?a_rows ?l_rows ?c_rows ?k_rows ?a_check ?l_check ?c_check ?k_check ?a_box ?l_box ?c_box ?k_box ?a_take ?l_take ?c_take ?k_take ?a_pick ?l_pick ?c_pick ?k_pick ?a_lname ?l_lname ?c_lname ?k_lname ?a_lpiece ?l_lpiece ?c_lpiece ?k_lpiece ?a_lmade ?l_lmade ?c_lmade ?k_lmade ?a_lflat ?l_lflat ?c_lflat ?k_lflat ?a_llines ?l_llines ?c_llines ?k_llines ?a_ltext ?l_ltext ?c_ltext ?k_ltext ?a_lheard ?l_lheard ?c_lheard ?k_lheard ?a_law ?l_law ?c_law ?k_law ?z_int ?z_bool ?z_str ?z_list ?z_tuple ?z_isinstance ?z_len ?z_all ?z_abs ?z_range ?z_max ?z_min ?z_enumerate
    (case aL => k_is)
    (case tL => k_is)
    (case hL => k_is)
    (case hn => k_is)
    (case ht => k_is)
    (case aC => k_is)
    (case pgC => k_is)
    (case hdC => k_is)
    (case poC => k_is)
    (case saC => k_is)
    (case caC => k_is)
    (case moC => k_is)
    (case nlC => k_is)
    (case ntC => k_is)
    (case nbC => k_is)
    (case tyC => k_is)
    (case noC_word => k_is)
    (case noC_parts => k_is)
    (case noC_broken => k_is)
    (case noC_marked => k_is)
    (case noC_ahead => k_is)
    (case noC_behind => k_is)
    (case noC_blanks => k_is)
    (case noC_left => k_is)
    (case mkC => k_is)
    (case inC => k_is)
    (case fiC => k_is)
    (case kpC => k_is)
    (case l_Ci => k_is)
    (case c_Ci => k_is)
    (case k_Ci => k_is)
    (case l_TC => k_is)
    (case aCP => k_is)
    (case pgCP => k_is)
    (case hdCP => k_is)
    (case poCP => k_is)
    (case saCP => k_is)
    (case caCP => k_is)
    (case moCP => k_is)
    (case nlCP => k_is)
    (case ntCP => k_is)
    (case nbCP => k_is)
    (case tyCP => k_is)
    (case noCP_pieces => k_is)
    (case mkCP => k_is)
    (case inCP => k_is)
    (case fiCP => k_is)
    (case kpCP => k_is)
    (case l_CPi => k_is)
    (case c_CPi => k_is)
    (case k_CPi => k_is)
    (case l_TCP => k_is)
    (case l_eP => k_is)
    (case aNP => k_is)
    (case tyN => k_is)
    (case kNP => k_is)
    (case exN => k_is)
    (case sLN => k_is)
    (case sSN => k_is)
    (case gaN => k_is)
    (case ggN => k_is)
    (case hdN => k_is)
    (case caN => k_is)
    (case moN => k_is)
    (case xLN => k_is)
    (case saN => k_is)
    (case iniN => k_is)
    (case tiN => k_is)
    (case noN => k_is)
    (case l_N => k_is)
    (case c_N => k_is)
    (case k_N => k_is)
    (case s_sP => k_is)
    (case f_sP => k_is)
    (case l_sP => k_is)
    (case c_sP => k_is)
    (case k_sP => k_is)
    (case s_lP => k_is)
    (case f_lP => k_is)
    (case l_lP => k_is)
    (case c_lP => k_is)
    (case k_lP => k_is)
    (case s_gP => k_is)
    (case f_gP => k_is)
    (case l_gP => k_is)
    (case c_gP => k_is)
    (case k_gP => k_is)
    (case s_aP => k_is)
    (case f_aP => k_is)
    (case l_aP => k_is)
    (case c_aP => k_is)
    (case k_aP => k_is)
    (case s_eqP => k_is)
    (case f_eqP => k_is)
    (case l_eqP => k_is)
    (case c_eqP => k_is)
    (case k_eqP => k_is)
    (case s_eqC => k_is)
    (case f_eqC => k_is)
    (case l_eqC => k_is)
    (case c_eqC => k_is)
    (case k_eqC => k_is)
    (case neP => k_is)
    (case neC => k_is)
    (case nfs => k_is)
    (case fiP => k_is)
    (case sfP => k_is)
    (case clP => k_is)
    (case mrP => rfl)
    (case iaP => k_is)
    (case ioP => k_is)
    (case a_int => k_is)
    (case l_int => k_is)
    (case c_int => k_is)
    (case k_int => k_is)
    (case a_num => k_is)
    (case l_num => k_is)
    (case c_num => k_is)
    (case k_num => k_is)
    (case a_seq => k_is)
    (case l_seq => k_is)
    (case c_seq => k_is)
    (case k_seq => k_is)
    (case a_name => k_is)
    (case l_name => k_is)
    (case c_name => k_is)
    (case k_name => k_is)
    (case a_names => k_is)
    (case l_names => k_is)
    (case c_names => k_is)
    (case k_names => k_is)
    (case a_req => k_is)
    (case l_req => k_is)
    (case c_req => k_is)
    (case k_req => k_is)
    (case a_rem => k_is)
    (case l_rem => k_is)
    (case c_rem => k_is)
    (case k_rem => k_is)
    (case a_head => k_is)
    (case l_head => k_is)
    (case c_head => k_is)
    (case k_head => k_is)
    (case a_tail => k_is)
    (case l_tail => k_is)
    (case c_tail => k_is)
    (case k_tail => k_is)
    (case a_body => k_is)
    (case l_body => k_is)
    (case c_body => k_is)
    (case k_body => k_is)
    (case a_rows => k_is)
    (case l_rows => k_is)
    (case c_rows => k_is)
    (case k_rows => k_is)
    (case a_check => k_is)
    (case l_check => k_is)
    (case c_check => k_is)
    (case k_check => k_is)
    (case a_box => k_is)
    (case l_box => k_is)
    (case c_box => k_is)
    (case k_box => k_is)
    (case a_take => k_is)
    (case l_take => k_is)
    (case c_take => k_is)
    (case k_take => k_is)
    (case a_pick => k_is)
    (case l_pick => k_is)
    (case c_pick => k_is)
    (case k_pick => k_is)
    (case a_lname => k_is)
    (case l_lname => k_is)
    (case c_lname => k_is)
    (case k_lname => k_is)
    (case a_lpiece => k_is)
    (case l_lpiece => k_is)
    (case c_lpiece => k_is)
    (case k_lpiece => k_is)
    (case a_lmade => k_is)
    (case l_lmade => k_is)
    (case c_lmade => k_is)
    (case k_lmade => k_is)
    (case a_lflat => k_is)
    (case l_lflat => k_is)
    (case c_lflat => k_is)
    (case k_lflat => k_is)
    (case a_llines => k_is)
    (case l_llines => k_is)
    (case c_llines => k_is)
    (case k_llines => k_is)
    (case a_ltext => k_is)
    (case l_ltext => k_is)
    (case c_ltext => k_is)
    (case k_ltext => k_is)
    (case a_lheard => k_is)
    (case l_lheard => k_is)
    (case c_lheard => k_is)
    (case k_lheard => k_is)
    (case a_law => k_is)
    (case l_law => k_is)
    (case c_law => k_is)
    (case k_law => k_is)
    (case z_int => k_is)
    (case z_bool => k_is)
    (case z_str => k_is)
    (case z_list => k_is)
    (case z_tuple => k_is)
    (case z_isinstance => k_is)
    (case z_len => k_is)
    (case z_all => k_is)
    (case z_abs => k_is)
    (case z_range => k_is)
    (case z_max => k_is)
    (case z_min => k_is)
    (case z_enumerate => k_is)
