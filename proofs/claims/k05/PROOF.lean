import PyProof.Rows.All
import Wide.All
import OpenK.AllK
import Wide.FinOn
import HandS.ForMost
import HandS.Codes
import KE.GoesMore
import HandS.Walk
import HandS.IsInst
import HandS.StrMore
import HandS.Defaults
import HandS.ExcInit
import HandS.ExcField
import HandS.ExcIs
import HandS.WordsExc
import HandS.ExcOwn
import KE.KExcIs
import HandS.RaiseMore
import PySem.Challenge.RW_laytwice_k05_programs_refused
set_option Elab.async false
set_option linter.all false
set_option maxRecDepth 100000
set_option maxHeartbeats 4000000
/-! enumerate over a tuple. -/
namespace Lay
open PySem PySem.Spec PyProof.Rows L2
open AutoSeq1 (wpAny_loadPart')
abbrev tupIt (t : Addr) : Obj := { cls := .type "tuple_iterator", data := .fields #[.ref t, .int 0 0] }
abbrev enumOf (it : Addr) : Obj := { cls := .type "enumerate", data := .fields #[.none, .bool false, .ref it, rawInt 0, .none, .none] }
theorem ent_new (t : Addr) (items : Array Value) : Meets (Builtin.«enumerate.__new__» ⟨[.type "enumerate", .ref t], []⟩)
    (fun _ R s => s.heap.IsTuple t items ∧ R (.ok (.ret (.ref (s.heap.push (tupIt t)).objs.size))) { s with heap := (s.heap.push (tupIt t)).push (enumOf s.heap.objs.size) }) :=
  .of_wp fun prog w A R s h => by
    obtain ⟨hp, g, d, tk, os⟩ := s
    obtain ⟨ht, h⟩ := h
    have hsub := sub_enumerate
    have hT : Heap.IsTuple (Shared.heap ⟨hp, g, d, tk, os⟩) t items := ht
    obtain ⟨o, ho, _⟩ := id ht
    wp_walk using wpAny_loadPart' ho
    refine wpAny_stack_any fun st => wpAny_pure ?_
    split
    · rename_i c _ _ _ _ _
      cases (c == Value.type "enumerate") <;> (wp_walk using wpAny_loadPart' ho, wpAny_pyIter_tuple hT; exact ⟨_, rfl, h⟩)
    · wp_walk using wpAny_loadPart' ho, wpAny_pyIter_tuple hT
      exact ⟨_, rfl, h⟩
theorem ent_call {prog : Program} {w : World} {A : Around} {E : Value → Shared → Prop} {s : Shared} {t : Addr} {items : Array Value} {Q : Value → Shared → Prop} (hT : s.heap.IsTuple t items)
    (h : ∀ h', IsEnum h' (s.heap.objs.size + 1) s.heap.objs.size 0 .none → h'.IsTupleIter s.heap.objs.size t 0 → (∀ b o, s.heap.get? b = some o → h'.get? b = some o) → Q (.ref (s.heap.objs.size + 1)) { s with heap := h' }) :
    wpAny (model prog w) A (call (.type "enumerate") [.ref t]) Q E s := by
  refine callType_new F.called_enumerate (by decide) (F.typeCall_enumerate_1 _) (F.newCall_enumerate_1 _) (fun obj => F.args_object_init_2 obj _) F.entry_enumerate_new (ent_new t items) ⟨hT, ?_⟩
  have hz : (s.heap.push (tupIt t)).objs.size = s.heap.objs.size + 1 := Heap.size_push ..
  show _ ∧ _
  rw [hz]
  have he : IsEnum ((s.heap.push (tupIt t)).push (enumOf s.heap.objs.size)) (s.heap.objs.size + 1) s.heap.objs.size 0 .none := by
    have y := Heap.get?_push_size (s.heap.push (tupIt t)) (o := enumOf s.heap.objs.size) rfl
    rw [hz] at y
    exact y
  exact ⟨⟨_, he, rfl⟩, h _ he ⟨_, Heap.get?_push_of_some _ (Heap.get?_push_size _ rfl), rfl, rfl⟩ fun b o x => Heap.get?_push_of_some _ (Heap.get?_push_of_some _ x)⟩
/-- the tuple at a, each item in a new pair -/
def IteT (K : PySem.W.Frag) (a : Addr) : It :=
  ⟨fun i H => ∃ (xs : List V) (x : V), SqT K H a xs ∧ xs[i]? = some x, fun i H v H' => ∃ T x, v = .ref T ∧ H T = none ∧ H' = upd H T (.tup [.int (i : Nat), x]) ∧ ∀ xs, SqT K H a xs → xs[i]? = some x, fun i H => ∃ xs : List V, SqT K H a xs ∧ xs.length = i⟩
theorem turn_enumT {P : Program} {w : World} {K : PySem.W.Frag} {elts : List Expr} {kk : Nat} {tpos : Pos} (a e it : Addr) :
    Turn P w K (.Tuple elts kk tpos) (IteT K a) [e, it] e (fun i h => (∃ old, IsEnum h e it ((i : Nat) : Int) old) ∧ h.IsTupleIter it a i ∧ e ≠ it) where
  mem := by simp
  obj := fun i h st b hb => by
    obtain ⟨⟨old, he⟩, ⟨o, ho, _, hd⟩, _⟩ := st
    rcases List.mem_cons.mp hb with z | hb
    · rw [z]
      exact ⟨_, he, fun v q => nomatch q⟩
    · rw [List.mem_singleton.mp hb]
      exact ⟨o, ho, fun v q => by
        rw [hd] at q
        cases q⟩
  keep := fun i h h' st k => by
    obtain ⟨⟨old, he⟩, hi, hne⟩ := st
    exact ⟨⟨old, k e (by simp) _ he⟩, hi.at fun o q => k it (by simp) o q, hne⟩
  item := by
    intro X hP hw hK hc i pins s σ H E I hf st hg
    subst hP hw hK
    obtain ⟨⟨old, he⟩, hit, hne⟩ := st
    obtain ⟨xs, x, hq, hx⟩ := hg
    obtain ⟨its, rv, p, hz⟩ := I.tuple hq
    obtain ⟨u, hu, ru⟩ := rv.get hx
    have eL : e < s.heap.objs.size := Heap.lt_size he
    have itL : it < s.heap.objs.size := by
      obtain ⟨_, q, _⟩ := hit
      exact Heap.lt_size q
    have p' : s.heap.IsTuple a its.toArray := p
    have ta : a ≠ it := fun z => by
      obtain ⟨o1, q1, c1, _⟩ := hit
      obtain ⟨o2, q2, c2, _⟩ := p'
      rw [← z, q2] at q1
      cases q1
      rw [c2] at c1
      exact absurd c1 (by decide)
    have te : a ≠ e := fun z => by
      obtain ⟨o2, q2, c2, _⟩ := p'
      rw [z, he] at q2
      cases q2
      have c3 : Value.type "enumerate" = Value.type "tuple" := c2
      exact absurd c3 (by decide)
    have hlt : i < its.toArray.size := by
      have := (List.getElem?_eq_some_iff.mp hu).1
      simpa using this
    refine wpAny_pyNext_enum_itemD (Draws.tuple (prog := X.prog) (w := X.w) (A := X.A.in1) (I.ok.hd hc) it a ta its.toArray) he ⟨hit, p'⟩ hlt hne (by simp [hne, Ne.symm te]) fun y h' tk hy ho hst hT hsz hk => ?_
    obtain rfl : y = u := by
      have q : its[i]? = some y := by simpa using hy
      rw [hu] at q
      exact (Option.some.inj q).symm
    refine ⟨_, rfl, wpAny_letOwnedTupleGo_enum (s := { s with heap := h', toks := tk + 1 }) ho fun h'' he' sb => ?_⟩
    have hT2 : h''.get? s.heap.objs.size = some { cls := .type "tuple", data := .seq #[.int i tk, y] } := (sb.2 _ (Nat.ne_of_gt eL)).trans hT
    have new : ObjOk X.prog X.w (upd H s.heap.objs.size (.tup [.int (i : Nat), x])) h'' s.heap.objs.size (.tup [.int (i : Nat), x]) :=
      ⟨by show 2 ≤ sizeLine; decide, [.int i tk, y], .cons ⟨_, rfl⟩ (.cons ru .nil), ⟨_, hT2, rfl, _, rfl⟩⟩
    have J : Inv X pins σ (upd H s.heap.objs.size (.tup [.int (i : Nat), x])) { s with heap := h'', toks := tk + 1 } :=
      I.turnedNew (ch := [e, it]) (fun b ob hb q => (sb.2 b (fun z => hb (by simp [z]))).trans (hk b ob (fun z => hb (by simp [z])) (fun z => hb (by simp [z])) q)) hf (Nat.le_refl _) new
    refine ⟨.ref s.heap.objs.size, _, J, rfl, ⟨_, x, rfl, I.hok.fresh (Nat.le_refl _), rfl, fun ys hy => by rw [I.tuple_inj hy hq]; exact hx⟩, ⟨⟨y, ?_⟩, hst.1.at fun o q => (sb.2 it (Ne.symm hne)).trans q, hne⟩, fun b hb => ?_⟩
    · have e1 : ((i + 1 : Nat) : Int) = (i : Int) + 1 := by omega
      rw [e1]
      exact he'
    · have bL : b < s.heap.objs.size := by
        rcases List.mem_cons.mp hb with z | hb
        · rw [z]
          exact eL
        · rw [List.mem_singleton.mp hb]
          exact itL
      rw [upd_ne (Nat.ne_of_lt bL)]
      exact (hf b hb).1
  done := by
    intro X hP hw hK hc i pins s σ H E I hf st hg
    subst hP hw hK
    obtain ⟨⟨old, he⟩, hit, hne⟩ := st
    obtain ⟨xs, hq, hx⟩ := hg
    obtain ⟨its, rv, p, hz⟩ := I.tuple hq
    obtain ⟨f0, f1, f2, f3, f4, f5⟩ := hf it (by simp)
    have p' : s.heap.IsTuple a its.toArray := p
    have ta : a ≠ it := fun z => by
      obtain ⟨o1, q1, c1, _⟩ := hit
      obtain ⟨o2, q2, c2, _⟩ := p'
      rw [← z, q2] at q1
      cases q1
      rw [c2] at c1
      exact absurd c1 (by decide)
    have hn : i = its.toArray.size := by
      have := rv.length
      simp
      omega
    exact wpAny_pyNext_enum_endD (Draws.tuple (prog := X.prog) (w := X.w) (A := X.A.in1) (I.ok.hd hc) it a ta its.toArray) he (by rw [← hn]; exact ⟨hit, p'⟩) fun h' eb => ⟨rfl, I.turned (t' := s.toks) (fun b o hb q => eb b o hb q) f0 f1 f3 f4 f5⟩
  self := fun A i s Q E st h => by
    obtain ⟨⟨_, he⟩, _⟩ := st
    exact wpAny_pyIter_enum he h
/-- what enumerate goes over: a list, or a tuple -/
def iEnum2 (K : PySem.W.Frag) (ta : TA) : TI := fun σ H R => ta σ H fun vs H1 => ∃ (a : Addr) (xs : List V), vs = [.ref a] ∧ ((SqL K H1 a xs ∧ R (Ite K a) H1) ∨ (SqT K H1 a xs ∧ R (IteT K a) H1))
theorem pi_enum2 {X : Cx} {e : Expr} {ta : TA} {p pos tpos : Pos} {elts : List Expr} {kk : Nat} (hg : Gl X "enumerate") (hm : X.mg "enumerate" = none) (ha : PA X [e] ta) (hs : starEach [e] X.env = [(false, eval e X.env)] := by rfl) :
    PI X (.Tuple elts kk tpos) (.Call (.Name "enumerate" p) [e] [] pos) (iEnum2 X.K ta) := by
  refine ⟨fun pins s σ H R I h => ?_⟩
  refine Call_ (ld_blt I hg hm boot_enumerate (PyProof.Rows.callWith_type1 (thn (ha.run pos pins s σ H _ I h) fun us s1 ⟨vs, H1, I1, r1, q1⟩ => ?_) hs rfl))
  obtain ⟨a, xs, ex, q⟩ := q1
  subst ex
  obtain ⟨u, rfl, ru⟩ := vals1 r1
  cases ru
  have young : ∀ b, b ∈ [s1.heap.objs.size + 1, s1.heap.objs.size] → FpOk X pins H1 b := fun b hb => by
    have hle : s1.heap.objs.size ≤ b := by
      rcases List.mem_cons.mp hb with z | hb
      · rw [z]
        exact Nat.le_add_right _ _
      · rw [List.mem_singleton.mp hb]
        exact Nat.le_refl _
    exact I1.fpOk hle (I1.hok.fresh hle)
  rcases q with ⟨hq, q⟩ | ⟨hq, q⟩
  · obtain ⟨its, rv, p', hz⟩ := I1.list hq
    refine call_enumerate_list p'.isList fun h' he hit hsz hk => wpAny_pyIter_enum he ?_
    have I2 : Inv X pins σ H1 { s1 with heap := h' } := I1.kept (t' := s1.toks) hk
    exact ⟨s1.heap.objs.size + 1, [s1.heap.objs.size + 1, s1.heap.objs.size], _, _, H1, rfl, I2, turn_enum a (s1.heap.objs.size + 1) s1.heap.objs.size, ⟨⟨.none, he⟩, hit, Nat.succ_ne_self _⟩, young, q⟩
  · obtain ⟨its, rv, p', hz⟩ := I1.tuple hq
    refine ent_call (show s1.heap.IsTuple a its.toArray from p') fun h' he hit hk => wpAny_pyIter_enum he ?_
    have I2 : Inv X pins σ H1 { s1 with heap := h' } := I1.kept (t' := s1.toks) hk
    exact ⟨s1.heap.objs.size + 1, [s1.heap.objs.size + 1, s1.heap.objs.size], _, _, H1, rfl, I2, turn_enumT a (s1.heap.objs.size + 1) s1.heap.objs.size, ⟨⟨.none, he⟩, hit, Nat.succ_ne_self _⟩, young, q⟩
theorem walk_enumT {K : PySem.W.Frag} {a : Addr} {xs : List V} : Walk (IteT K a) xs.length (fun H => SqT K H a xs) (YPair (fun i => some (.int (i : Nat))) (fun i => xs[i]?)) := by
  refine ⟨fun i _ hi q => ⟨xs, xs[i], q, by simp [hi]⟩, fun _ q => ⟨xs, q, rfl⟩, fun i H v H' _ q y => ?_⟩
  obtain ⟨T, x, h1, h2, h3, h4⟩ := y
  exact ⟨T, .int (i : Nat), x, h1, h2, h3, rfl, h4 xs q⟩
end Lay
set_option Elab.async false
set_option linter.all false
set_option maxRecDepth 100000
set_option maxHeartbeats 4000000
namespace Lay
open PySem L2
def top (i : Nat) : Stmt := PySem.Challenge.pw_laytwice_k05_programs_refused.main.body.getD i (.Pass ⟨0, 0, 0, 0⟩)
abbrev sBox : Stmt := top 35
abbrev sTake : Stmt := top 36
abbrev sPick : Stmt := top 37

/-! ### the box of draws -/
def Boxy (o : HO) : Prop := ∃ g s n : Int, o = .lst [.int g, .int s, .int n]
def BoxAt (H : Hp) (b : Addr) : Prop := ∃ o, H b = some o ∧ Boxy o
/-- all that is tracked beside b is as it was -/
def Kept (b : Addr) (H H' : Hp) : Prop := ∀ a o, a ≠ b → H a = some o → H' a = some o
theorem Kept.refl (b : Addr) (H : Hp) : Kept b H H := fun _ _ _ h => h
theorem Kept.trans {b : Addr} {H H1 H2 : Hp} (x : Kept b H H1) (y : Kept b H1 H2) : Kept b H H2 := fun a o n h => y a o n (x a o n h)
theorem Kept.of_same {b : Addr} {H H' : Hp} (x : Same H H') : Kept b H H' := fun a o _ h => x a o h
theorem Kept.box {b : Addr} {H : Hp} {o : HO} : Kept b H (upd H b o) := fun a u n h => by rw [upd_ne n]; exact h
theorem Kept.new {b a : Addr} {H : Hp} {o : HO} (h : H a = none) : Kept b H (upd H a o) := fun c u _ e => by
  rw [upd_ne (ne_of_none e h)]
  exact e
theorem Same.new {a : Addr} {H : Hp} {o : HO} (h : H a = none) : Same H (upd H a o) := fun c u e => by
  rw [upd_ne (ne_of_none e h)]
  exact e
theorem BoxAt.new {b a : Addr} {H : Hp} {o : HO} (x : BoxAt H b) (h : H a = none) : BoxAt (upd H a o) b := by
  obtain ⟨u, e, y⟩ := x
  exact ⟨u, Same.new h _ _ e, y⟩
theorem BoxAt.box {b : Addr} {H : Hp} {o : HO} (y : Boxy o) : BoxAt (upd H b o) b := ⟨o, upd_same, y⟩
theorem BoxAt.ne {b a : Addr} {H : Hp} (x : BoxAt H b) (h : H a = none) : a ≠ b := by
  obtain ⟨u, e, y⟩ := x
  exact (ne_of_none e h).symm

/-- what the draws want of the module's names -/
structure TxtD (mg : Str → Option Value) : Prop where
  int : mg "int" = none
  len : mg "len" = none
  abs : mg "abs" = none
  range : mg "range" = none

def spTake : Sp := fun vs H Q _ => ∃ (b : Addr) (m : Int), vs = [.ref b, .int m] ∧ BoxAt H b ∧ 0 < m ∧ m < 1073741824 ∧
  ∀ (r : Int) (o : HO), 0 ≤ r → r < m → Boxy o → Q (.int r) (upd H b o)
def spPick (K : PySem.W.Frag) : Sp := fun vs H Q _ => ∃ (b l : Addr) (xs : List V), vs = [.ref b, .ref l] ∧ BoxAt H b ∧ l ≠ b ∧ SqL K H l xs ∧ 0 < xs.length ∧ xs.length ≤ 1000 ∧
  ∀ (v : V) (o : HO), v ∈ xs → Boxy o → Q v (upd H b o)
theorem SqL.kept {K : PySem.W.Frag} {b a : Addr} {H H' : Hp} {xs : List V} (k : Kept b H H') (n : a ≠ b) (h : SqL K H a xs) : SqL K H' a xs := by
  rcases h with (h | ⟨o, h⟩) | h
  · exact .inl (.inl (k _ _ n h))
  · exact .inl (.inr ⟨o, k _ _ n h⟩)
  · exact .inr h
theorem SqT.kept {K : PySem.W.Frag} {b a : Addr} {H H' : Hp} {xs : List V} (k : Kept b H H') (n : a ≠ b) (h : SqT K H a xs) : SqT K H' a xs := by
  rcases h with (h | ⟨o, h⟩) | h
  · exact .inl (.inl (k _ _ n h))
  · exact .inl (.inr ⟨o, k _ _ n h⟩)
  · exact .inr h

theorem lt40 {m : Int} (h : m < 1073741824) : m < 2 ^ (40 : Int).toNat := by
  have e : (2 : Int) ^ (40 : Int).toNat = 1099511627776 := by decide
  omega
section
variable {P : Program} {w : World} {K : PySem.W.Frag} {mg : Str → Option Value} {base : Heap}
theorem scTake : FnScope ["_law_box_here", "_law_many", "_law_digit", "_law_raw", "_law_wide"] ["_law_box_here", "_law_many"] (defScope sTake) := ⟨rfl, rfl, rfl, by decide +kernel, rfl, by decide +kernel, by decide +kernel⟩
theorem ok_take {f : Addr} {fd : FuncData} (F : Fun K "_law_take" "_law_take" sTake f fd) (T : TxtD mg) : FnOk P w K mg base CX0 1 f fd ["_law_box_here", "_law_many"] spTake := by
  refine F.ok scTake (fun vs H Q E h => ?_) (fun cdv A outer s H vs Q E hr h => ?_)
  · obtain ⟨b, m, rfl, _⟩ := h
    rfl
  · obtain ⟨b, m, rfl, ⟨o, hb, g, s, n, rfl⟩, hm0, hm1, k⟩ := h
    refine ⟨_, (pss_cons (ps_if (pt_cmpR op_gt (pe_ix ix_list (pv 0) pe_int (fun _ _ => rfl)) pe_int (nomark _))
      (pss_cons (ps_set (i := 2) scTake.nd rfl (.inl rfl) (pe_op op_mod (pe_callTy call_int1 (by rfl) T.int (by decide +kernel) (pa_cons (pe_ix ix_list (pv 0) pe_int (fun _ _ => rfl)) pa_nil)) (pv 1)))
      (pss_cons (ps_asg (pe_op op_fdiv (pe_ix ix_list (pv 0) pe_int (fun _ _ => rfl)) (pv 1)) (pg_sub (pv 0) pe_int set_list))
      (pss_one (ps_ret (pv 2)))))
      pss_nil)
    (pss_cons (ps_asg (pe_op op_add (pe_ix ix_list (pv 0) pe_int (fun _ _ => rfl)) pe_int) (pg_sub (pv 0) pe_int set_list))
    (pss_cons (ps_set (i := 3) scTake.nd rfl (.inl rfl) (pe_op op_mod (pe_callTy call_int1 (by rfl) T.int (by decide +kernel) (pa_cons (pe_op op_mul (pe_op op_add (pe_ix ix_list (pv 0) pe_int (fun _ _ => rfl)) (pe_op op_mul pe_int (pe_ix ix_list (pv 0) pe_int (fun _ _ => rfl)))) pe_int) pa_nil)) pe_int))
    (pss_cons (ps_asg (pe_op op_add (pe_op op_mod (pe_callTy call_int1 (by rfl) T.int (by decide +kernel) (pa_cons (pe_op op_add (pe_op op_mul (pv 3) pe_int) pe_int) pa_nil)) pe_int) pe_int) (pg_sub (pv 0) pe_int set_list))
    (pss_cons (ps_if (pt_cmpR op_lt (pv 1) (pe_op op_pow pe_int pe_int) (nomark _))
      (pss_one (ps_ret (pe_op op_mod (pe_callTy call_int1 (by rfl) T.int (by decide +kernel) (pa_cons (pe_op op_fdiv (pe_op op_add (pe_op op_mul (pv 3) pe_int) (pe_ix ix_list (pv 0) pe_int (fun _ _ => rfl))) pe_int) pa_nil)) (pv 1))))
      pss_nil)
    pss_never))))), ?_⟩
    refine ⟨_, rfl, b, _, _, _, rfl, rfl, SqL.of hb, rfl, _, _, rfl, rfl, _, rfl, ?_⟩
    refine ite2 (fun h0 => ?_) (fun h0 => ?_)
    · refine ⟨_, rfl, b, _, _, _, rfl, rfl, SqL.of hb, rfl, .inl ⟨_, rfl, _, rfl, _, _, rfl, rfl, hm0, ?_⟩⟩
      refine ⟨_, rfl, b, _, _, _, rfl, rfl, SqL.of hb, rfl, _, rfl, _, _, rfl, rfl, ⟨hm0, hm1⟩, _, rfl, b, _, _, 0, rfl, rfl, hb, rfl, ?_⟩
      refine ⟨_, rfl, k _ _ (Int.emod_nonneg _ (by omega)) (Int.emod_lt_of_pos _ hm0) ⟨_, _, _, rfl⟩⟩
    · refine ⟨_, rfl, b, _, _, _, rfl, rfl, SqL.of hb, rfl, _, _, rfl, rfl, _, rfl, b, _, _, 2, rfl, rfl, hb, rfl, ?_⟩
      refine ⟨_, rfl, b, _, _, _, rfl, rfl, SqL.of upd_same, rfl, _, rfl, b, _, _, _, rfl, rfl, SqL.of upd_same, rfl, _, _, rfl, rfl, .inl ⟨by decide, by decide⟩, _, _, rfl, rfl, _, _, rfl, rfl, .inr ⟨by decide, by decide⟩, .inl ⟨_, rfl, _, _, rfl, rfl, (by show (0 : Int) < 2147483647; decide), ?_⟩⟩
      refine ⟨_, rfl, _, _, rfl, rfl, .inr ⟨by decide, by decide⟩, _, _, rfl, rfl, .inl ⟨_, rfl, _, _, rfl, rfl, (by show (0 : Int) < 2147483629; decide), _, _, rfl, rfl, _, rfl, b, _, _, 1, rfl, rfl, upd_same, rfl, ?_⟩⟩
      rw [upd_upd]
      refine ⟨_, rfl, _, _, rfl, rfl, ⟨by decide, by decide, by decide⟩, _, _, rfl, rfl, _, rfl, ?_⟩
      refine ite2 (fun _ => ?_) (fun h1 => absurd (decide_eq_true (lt40 hm1)) h1)
      refine ⟨_, rfl, _, _, rfl, rfl, .inr ⟨by decide, by decide⟩, _, rfl, b, _, _, _, rfl, rfl, SqL.of upd_same, rfl, _, _, rfl, rfl, _, _, rfl, rfl, ⟨by decide, by decide⟩, .inl ⟨_, rfl, _, rfl, _, _, rfl, rfl, hm0, ?_⟩⟩
      exact k _ _ (Int.emod_nonneg _ (by omega)) (Int.emod_lt_of_pos _ hm0) ⟨_, _, _, rfl⟩

theorem scPick : FnScope ["_law_box_here", "_law_items"] ["_law_box_here", "_law_items"] (defScope sPick) := ⟨rfl, rfl, rfl, by decide +kernel, rfl, by decide +kernel, by decide +kernel⟩
theorem ok_pick {f fT : Addr} {fd fdT : FuncData} (F : Fun K "_law_pick" "_law_pick" sPick f fd) (T : TxtD mg) (FT : Fun K "_law_take" "_law_take" sTake fT fdT) (bT : Binds K fdT ["_law_box_here", "_law_many"] []) (gT : mg "_law_take" = some (.ref fT)) :
    FnOk P w K mg base CX0 2 f fd ["_law_box_here", "_law_items"] (spPick K) := by
  have GT : FnOk P w K mg base CX0 1 fT fdT ["_law_box_here", "_law_many"] spTake := ok_take FT T
  refine F.ok scPick (fun vs H Q E h => ?_) (fun cdv A outer s H vs Q E hr h => ?_)
  · obtain ⟨b, l, xs, rfl, _⟩ := h
    rfl
  · obtain ⟨b, l, xs, rfl, hb, hl, hs, h0, h1, k⟩ := h
    refine ⟨_, (pss_one (ps_ret (pe_ix ix_list (pv 1) (pe_call GT hr (by rfl) gT FT.kp bT .nil pass0 (pa_cons (pv 0) (pa_cons (pe_callB call_len_seq (by rfl) T.len (by decide +kernel) (pa_cons (pv 1) pa_nil)) pa_nil))) (fun _ _ => rfl)))), ?_⟩
    refine ⟨_, rfl, _, rfl, _, rfl, l, xs, rfl, .inl hs, b, _, rfl, hb, by omega, by omega, fun r o r0 r1 ho => ?_⟩
    have hr' : r.toNat < xs.length := by omega
    have er : r = ((r.toNat : Nat) : Int) := by omega
    exact ⟨l, xs, r, xs[r.toNat], rfl, rfl, SqL.kept Kept.box hl hs, at_of er (by simp [hr']), k _ _ (List.getElem_mem hr') ho⟩

def spBox (K : PySem.W.Frag) : Sp := fun vs H Q _ => ∃ (a : Addr) (ns : List Int) (i j : Int), vs = [.ref a, .int i, .int j] ∧ SqL K H a (ns.map V.int) ∧ 0 ≤ i ∧ i ≤ 1000 ∧ 0 ≤ j ∧ j ≤ 1000 ∧ ns.length ≤ 1000 ∧
  ∀ (p : Addr) (H' : Hp), Same H H' → H p = none → BoxAt H' p → Q (.ref p) H'
theorem scBox : FnScope ["_law_script", "_law_k", "_law_own", "_law_cell", "_law_seed"] ["_law_script", "_law_k", "_law_own"] (defScope sBox) := ⟨rfl, rfl, rfl, by decide +kernel, rfl, by decide +kernel, by decide +kernel⟩
theorem ok_box {f : Addr} {fd : FuncData} (F : Fun K "_law_box" "_law_box" sBox f fd) (T : TxtD mg) : FnOk P w K mg base CX0 1 f fd ["_law_script", "_law_k", "_law_own"] (spBox K) := by
  refine F.ok scBox (fun vs H Q E h => ?_) (fun cdv A outer s H vs Q E hr h => ?_)
  · obtain ⟨a, ns, i, j, rfl, _⟩ := h
    rfl
  · obtain ⟨a, ns, i, j, rfl, hs, i0, i1, j0, j1, hn, k⟩ := h
    refine ⟨_, (pss_cons (ps_set (i := 3) scBox.nd rfl (.inl rfl) (pe_op op_add (pe_op op_add (pe_op op_mul pe_int (pv 1)) (pe_op op_mul pe_int (pv 2))) pe_int))
    (C8.pss_cut (ps_if (pt_cmpR op_lt (pv 1) (pe_callB call_len_seq (by rfl) T.len (by decide +kernel) (pa_cons (pv 0) pa_nil)) (nomark _))
      (pss_one (ps_set (i := 3) scBox.nd rfl (.inl rfl) (pe_callB call_abs (by rfl) T.abs (by decide +kernel) (pa_cons (pe_ix ix_list (pv 0) (pv 1) (fun _ _ => rfl)) pa_nil))))
      (pss_one (ps_if (pt_cmpR op_gt (pe_callB call_len_seq (by rfl) T.len (by decide +kernel) (pa_cons (pv 0) pa_nil)) pe_int (nomark _))
        (pss_one (ps_set (i := 3) scBox.nd rfl (.inl rfl) (pe_op op_add (pv 3) (pe_op op_mul (pe_op op_mod (pe_callTy call_int1 (by rfl) T.int (by decide +kernel) (pa_cons (pe_callB call_abs (by rfl) T.abs (by decide +kernel) (pa_cons (pe_ix ix_list (pv 0) (pe_op op_mod (pe_callTy call_int1 (by rfl) T.int (by decide +kernel) (pa_cons (pv 1) pa_nil)) (pe_callB call_len_seq (by rfl) T.len (by decide +kernel) (pa_cons (pv 0) pa_nil))) (fun _ _ => rfl)) pa_nil)) pa_nil)) pe_int) pe_int))))
        pss_nil)))
    (pss_cons (ps_set (i := 4) scBox.nd rfl (.inl rfl) (pe_op op_add (pe_op op_mod (pe_callTy call_int1 (by rfl) T.int (by decide +kernel) (pa_cons (pe_op op_add (pe_op op_mul (pe_op op_mod (pe_callTy call_int1 (by rfl) T.int (by decide +kernel) (pa_cons (pv 3) pa_nil)) pe_int) pe_int) (pe_op op_mul pe_int (pe_op op_add (pv 1) (pe_op op_mul pe_int (pv 2))))) pa_nil)) pe_int) pe_int))
    (pss_one (ps_ret (pe_lst (pa_cons (pe_ix ix_list (pe_lst (pa_cons pe_int (pa_cons (pv 3) pa_nil))) (pe_callTy call_int1 (by rfl) T.int (by decide +kernel) (pa_cons (pe_cmpR op_ge (pv 3) (pe_op op_pow pe_int pe_int) (nomark _)) pa_nil)) (fun _ _ => rfl)) (pa_cons (pv 4) (pa_cons pe_int pa_nil))))))))), ?_⟩
    refine ⟨_, rfl, _, _, rfl, rfl, .inl ⟨by decide, by decide⟩, _, rfl, _, _, rfl, rfl, .inl ⟨by decide, by decide⟩, _, _, rfl, rfl, _, _, rfl, rfl, ?_⟩
    refine ⟨fun σ' H' => H' = H ∧ ∃ c : Int, σ' = [some (.ref a), some (.int i), some (.int j), some (.int c), none], ?_, ?_⟩
    · have hl : (ns.map V.int).length = ns.length := List.length_map ..
      refine ⟨_, rfl, _, rfl, a, _, rfl, .inl hs, _, _, rfl, rfl, _, rfl, ?_⟩
      refine ite2 (fun h => ?_) (fun h => ?_)
      · have hi : i < (ns.map V.int).length := of_decide_eq_true h
        obtain ⟨z, hz⟩ : ∃ z, (ns.map V.int)[i.toNat]? = some (V.int z) := by
          refine ⟨ns[i.toNat]'(by omega), ?_⟩
          rw [List.getElem?_map, List.getElem?_eq_getElem (by omega)]
          rfl
        exact ⟨_, rfl, _, rfl, a, _, _, _, rfl, rfl, hs, at_of (by omega) hz, _, rfl, rfl, _, rfl⟩
      · refine ⟨_, rfl, a, _, rfl, .inl hs, _, _, rfl, rfl, _, rfl, ?_⟩
        refine ite2 (fun h2 => ?_) (fun _ => ⟨rfl, _, rfl⟩)
        have h2' : (0 : Int) < (ns.map V.int).length := of_decide_eq_true h2
        have m0 := Int.emod_nonneg i (show ((ns.map V.int).length : Int) ≠ 0 by omega)
        have m1 := Int.emod_lt_of_pos i h2'
        obtain ⟨z, hz⟩ : ∃ z, (ns.map V.int)[(i % ((ns.map V.int).length : Int)).toNat]? = some (V.int z) := by
          refine ⟨ns[(i % ((ns.map V.int).length : Int)).toNat]'(by omega), ?_⟩
          rw [List.getElem?_map, List.getElem?_eq_getElem (by omega)]
          rfl
        refine ⟨_, rfl, _, rfl, _, rfl, .inl ⟨_, rfl, _, rfl, a, _, rfl, .inl hs, _, _, rfl, rfl, h2', a, _, _, _, rfl, rfl, hs, at_of (by omega) hz, _, rfl, .inl ⟨_, rfl, _, _, rfl, rfl, (by show (0 : Int) < 2147483629; decide), _, _, rfl, rfl, .inr ⟨by decide, by decide⟩, _, _, rfl, rfl, rfl, _, rfl⟩⟩⟩
    · rintro σ' H' ⟨rfl, c, rfl⟩
      refine ⟨_, rfl, .inl ⟨_, rfl, _, _, rfl, rfl, (by show (0 : Int) < 2147483629; decide), _, _, rfl, rfl, .inr ⟨by decide, by decide⟩, _, rfl, _, rfl, _, _, rfl, rfl, .inl ⟨by decide, by decide⟩, _, _, rfl, rfl, _, _, rfl, rfl, .inl ⟨by decide, by decide⟩, _, _, rfl, rfl, .inl ⟨_, rfl, _, _, rfl, rfl, (by show (0 : Int) < 2147483629; decide), _, _, rfl, rfl, ?_⟩⟩⟩
      refine ⟨_, rfl, (by show 2 ≤ sizeLine; decide), fun l hl => ⟨_, rfl, _, _, rfl, rfl, ⟨by decide, by decide, by decide⟩, _, _, rfl, rfl, .inr ⟨_, rfl, l, _, _, if (decide ((10 : Int) ^ (18 : Int).toNat ≤ c)) = true then V.int c else V.int 0, rfl, rfl, SqL.of upd_same, ?_, ?_⟩⟩⟩
      · cases decide ((10 : Int) ^ (18 : Int).toNat ≤ c) <;> rfl
      · refine ⟨_, rfl, (by show 3 ≤ sizeLine; decide), fun p hp => ?_⟩
        refine k _ _ ((Same.new hl).trans (Same.new hp)) ((Same.new hl).free hp) ⟨_, upd_same, ?_⟩
        by_cases hc : (decide ((10 : Int) ^ (18 : Int).toNat ≤ c)) = true
        · rw [if_pos hc]
          exact ⟨_, _, _, rfl⟩
        · rw [if_neg hc]
          exact ⟨_, _, _, rfl⟩
end
end Lay
set_option Elab.async false
set_option linter.all false
set_option maxRecDepth 100000
set_option maxHeartbeats 4000000
namespace Lay
open PySem L2
/-- the names of the module that must be Python's own -/
structure TxtK (mg : Str → Option Value) : Prop where
  int : mg "int" = none
  bool : mg "bool" = none
  str : mg "str" = none
  list : mg "list" = none
  tuple : mg "tuple" = none
  isinstance : mg "isinstance" = none
  len : mg "len" = none
  all : mg "all" = none
  enumerate : mg "enumerate" = none
theorem TyOf.same {K : PySem.W.Frag} {H H' : Hp} {x : V} {t : Value} (s : Same H H') (h : TyOf K H x t) : TyOf K H' x t := by
  cases h with
  | non => exact .non
  | bl b => exact .bl b
  | int i => exact .int i
  | str z => exact .str z
  | flt z => exact .flt z
  | lst e => exact .lst (s _ _ e)
  | frz e => exact .frz (s _ _ e)
  | tup e => exact .tup (s _ _ e)
  | dK e => exact .dK (s _ _ e)
  | dT e => exact .dT (s _ _ e)
  | ins e cl ha hn htk hm => exact .ins (s _ _ e) cl ha hn htk hm
theorem TyX.same {K : PySem.W.Frag} {H H' : Hp} {x : V} {t : Value} (s : Same H H') (h : TyX K H x t) : TyX K H' x t := by
  cases h with
  | base h => exact .base (TyOf.same s h)
  | byt b => exact .byt b
  | set e => exact .set (s _ _ e)
  | kList e c => exact .kList e c
  | kTuple e c => exact .kTuple e c
  | kDict e c => exact .kDict e c
  | fTuple e => exact .fTuple (s _ _ e)
  | fDict e => exact .fDict (s _ _ e)
/-- isinstance of the built-in class n -/
def IsT (K : PySem.W.Frag) (H : Hp) (x : V) (n : String) (b : Bool) : Prop := ∃ t, TyX K H x t ∧ PySem.W.kitOne K t (.type n) = some b
theorem IsT.same {K : PySem.W.Frag} {H H' : Hp} {x : V} {n : String} {b : Bool} (s : Same H H') (h : IsT K H x n b) : IsT K H' x n b := by
  obtain ⟨t, h1, h2⟩ := h
  exact ⟨t, TyX.same s h1, h2⟩
theorem isT_str {K : PySem.W.Frag} {H : Hp} {z : Str} : IsT K H (.str z) "str" true := ⟨_, .base (.str z), kit_ty (by decide +kernel)⟩
theorem isT_bl {K : PySem.W.Frag} {H : Hp} {z : Bool} : IsT K H (.bl z) "bool" true := ⟨_, .base (.bl z), kit_ty (by decide +kernel)⟩
theorem isT_int {K : PySem.W.Frag} {H : Hp} {z : Int} : IsT K H (.int z) "int" true ∧ IsT K H (.int z) "bool" false := ⟨⟨_, .base (.int z), kit_ty (by decide +kernel)⟩, ⟨_, .base (.int z), kit_ty (by decide +kernel)⟩⟩
/-- is it a list or a tuple -/
def IsSeq (K : PySem.W.Frag) (H : Hp) (x : V) (b : Bool) : Prop := ∃ t, TyX K H x t ∧ PySem.W.kitAny K t [.type "list", .type "tuple"] = some b
theorem IsSeq.same {K : PySem.W.Frag} {H H' : Hp} {x : V} {b : Bool} (s : Same H H') (h : IsSeq K H x b) : IsSeq K H' x b := by
  obtain ⟨t, h1, h2⟩ := h
  exact ⟨t, TyX.same s h1, h2⟩
theorem kitAny_lt {K : PySem.W.Frag} {t : Value} {b c : Bool} (h1 : PySem.W.kitOne K t (.type "list") = some b) (h2 : PySem.W.kitOne K t (.type "tuple") = some c) : PySem.W.kitAny K t [.type "list", .type "tuple"] = some (b || c) := by
  refine kitAny_cons h1 (fun hb => ?_) (fun hb => by rw [hb]; rfl)
  subst hb
  exact kitAny_cons h2 (fun hc => by subst hc; exact kitAny_nil) (fun hc => by rw [hc]; rfl)
/-- what is a list or a tuple of xs -/
def SqX (K : PySem.W.Frag) (H : Hp) (a : Addr) (xs : List V) : Prop := H a = some (.lst xs) ∨ H a = some (.tup xs)
theorem SqX.same {K : PySem.W.Frag} {H H' : Hp} {a : Addr} {xs : List V} (s : Same H H') (h : SqX K H a xs) : SqX K H' a xs := h.imp (s _ _) (s _ _)
theorem SqX.seq {K : PySem.W.Frag} {H : Hp} {a : Addr} {xs : List V} (h : SqX K H a xs) : IsSeq K H (.ref a) true := by
  rcases h with h | h
  · exact ⟨_, .base (.lst h), kitAny_lt (b := true) (c := false) (kit_ty (by decide +kernel)) (kit_ty (by decide +kernel))⟩
  · exact ⟨_, .base (.tup h), kitAny_lt (b := false) (c := true) (kit_ty (by decide +kernel)) (kit_ty (by decide +kernel))⟩
def nameB (z : Str) : Bool := decide (z.length ≤ 6) && (Txt.isascii z && (Txt.isalpha z && Txt.islower z))
theorem nameB_len {z : Str} (h : nameB z = true) : z.length ≤ 6 := of_decide_eq_true (Bool.and_eq_true_iff.mp h).1
/-- whether x is a name -/
def NmB (K : PySem.W.Frag) (H : Hp) (x : V) (b : Bool) : Prop := (∃ z, x = .str z ∧ z.length ≤ sizeLine ∧ b = nameB z) ∨ (b = false ∧ IsT K H x "str" false)
theorem NmB.same {K : PySem.W.Frag} {H H' : Hp} {x : V} {b : Bool} (s : Same H H') (h : NmB K H x b) : NmB K H' x b := h.imp id fun ⟨e, t⟩ => ⟨e, t.same s⟩
def remarkB (z : Str) : Bool := decide (V.str z = V.str "") || nameB z

def spInt (K : PySem.W.Frag) : Sp := fun vs H Q _ => ∃ x b c, vs = [x] ∧ IsT K H x "int" b ∧ IsT K H x "bool" c ∧ Q (.bl (b && !c)) H
def spNum (K : PySem.W.Frag) : Sp := fun vs H Q _ => ∃ (x : V) (m : Int), vs = [x, .int m] ∧ ((∃ i, x = .int i ∧ Q (.bl (decide (0 ≤ i) && decide (i < m))) H) ∨ (∃ b c, IsT K H x "int" b ∧ IsT K H x "bool" c ∧ (b && !c) = false ∧ Q (.bl false) H))
def spSeq (K : PySem.W.Frag) : Sp := fun vs H Q _ => ∃ x b, vs = [x] ∧ IsSeq K H x b ∧ ∀ H', Same H H' → Q (.bl b) H'
def spName (K : PySem.W.Frag) : Sp := fun vs H Q _ => ∃ x b, vs = [x] ∧ NmB K H x b ∧ Q (.bl b) H
/-- the items' answers -/
def NmBs (K : PySem.W.Frag) (H : Hp) (xs : List V) (bs : List Bool) : Prop := bs.length = xs.length ∧ ∀ (i : Nat) (x : V) (b : Bool), xs[i]? = some x → bs[i]? = some b → NmB K H x b
def spNames (K : PySem.W.Frag) : Sp := fun vs H Q _ => ∃ x, vs = [x] ∧ ((IsSeq K H x false ∧ ∀ H', Same H H' → Q (.bl false) H') ∨
  (∃ a xs bs, x = .ref a ∧ SqX K H a xs ∧ xs.length ≤ 1000 ∧ NmBs K H xs bs ∧ ∀ H', Same H H' → Q (.bl (decide (0 < xs.length) && bs.all id)) H'))
def spReq : Sp := fun vs H Q _ => ∃ v, vs = [.bl true, v] ∧ Q .non H
def spRem (K : PySem.W.Frag) : Sp := fun vs H Q _ => ∃ x, vs = [x] ∧ ((∃ z, x = .str z ∧ z.length ≤ sizeLine ∧ Q (.bl (remarkB z)) H) ∨ (IsT K H x "str" false ∧ Q (.bl false) H))
abbrev sInt : Stmt := top 8
abbrev sNum : Stmt := top 9
abbrev sSeq : Stmt := top 10
abbrev sName : Stmt := top 11
abbrev sNames : Stmt := top 12
abbrev sReq : Stmt := top 14
abbrev sRem : Stmt := top 15
section
variable {P : Program} {w : World} {K : PySem.W.Frag} {mg : Str → Option Value} {base : Heap}
theorem scInt : FnScope ["value"] ["value"] (defScope sInt) := ⟨rfl, rfl, rfl, by decide +kernel, rfl, by decide +kernel, by decide +kernel⟩
theorem ok_int {f : Addr} {fd : FuncData} (F : Fun K "is_integer" "is_integer" sInt f fd) (T : TxtK mg) : FnOk P w K mg base CX0 1 f fd ["value"] (spInt K) := by
  refine F.ok scInt (fun vs H Q E h => ?_) (fun cdv A outer s H vs Q E hr h => ?_)
  · obtain ⟨x, b, c, rfl, _⟩ := h
    rfl
  · obtain ⟨x, b, c, rfl, ⟨t, ty, e⟩, ⟨t', ty', e'⟩, k⟩ := h
    refine ⟨_, (pss_one (ps_ret (pe_and (pe_callB call_isi (by rfl) T.isinstance (by decide +kernel) (pa_cons (pv 0) (pa_cons (pe_bltn (v := .ty "int") (by rfl) T.int (by decide +kernel) rfl) pa_nil))) (pe_one (pe_not (pe_callB call_isi (by rfl) T.isinstance (by decide +kernel) (pa_cons (pv 0) (pa_cons (pe_bltn (v := .ty "bool") (by rfl) T.bool (by decide +kernel) rfl) pa_nil)))))))), ?_⟩
    refine ⟨_, rfl, _, _, _, _, _, rfl, .ty _, ty, e, _, rfl, ?_⟩
    refine ite2 (fun hb => ?_) (fun hb => ?_)
    · subst hb
      exact ⟨_, rfl, _, _, _, _, _, rfl, .ty _, ty', e', _, rfl, k⟩
    · have : b = false := by simpa using hb
      subst this
      exact k
theorem scNum : FnScope ["value", "many"] ["value", "many"] (defScope sNum) := ⟨rfl, rfl, rfl, by decide +kernel, rfl, by decide +kernel, by decide +kernel⟩
theorem ok_num {f fI : Addr} {fd fdI : FuncData} (F : Fun K "is_number" "is_number" sNum f fd) (GI : FnOk P w K mg base CX0 1 fI fdI ["value"] (spInt K)) (gI : mg "is_integer" = some (.ref fI)) (kI : PySem.W.keepIn K (.ref fI) = true) (bI : Binds K fdI ["value"] []) :
    FnOk P w K mg base CX0 2 f fd ["value", "many"] (spNum K) := by
  refine F.ok scNum (fun vs H Q E h => ?_) (fun cdv A outer s H vs Q E hr h => ?_)
  · obtain ⟨x, m, rfl, _⟩ := h
    rfl
  · obtain ⟨x, m, rfl, h⟩ := h
    refine ⟨_, (pss_one (ps_ret (pe_and (pe_call GI hr (by rfl) gI kI bI .nil pass0 (pa_cons (pv 0) pa_nil)) (pe_one (pe_chain op_le op_lt pe_int (pv 0) (pv 1)))))), ?_⟩
    rcases h with ⟨i, rfl, k⟩ | ⟨b, c, h1, h2, h3, k⟩
    · refine ⟨_, rfl, _, true, false, rfl, isT_int.1, isT_int.2, _, rfl, ?_⟩
      refine ⟨_, rfl, _, _, rfl, rfl, _, rfl, ?_⟩
      refine ite2 (fun hb => ?_) (fun hb => ?_)
      · refine ⟨_, rfl, _, _, rfl, rfl, ?_⟩
        rw [hb, Bool.true_and] at k
        exact k
      · have : decide (0 ≤ i) = false := by simpa using hb
        rw [this, Bool.false_and] at k
        exact k
    · refine ⟨_, rfl, _, b, c, rfl, h1, h2, _, rfl, ?_⟩
      rw [h3]
      exact k
theorem scSeq : FnScope ["value"] ["value"] (defScope sSeq) := ⟨rfl, rfl, rfl, by decide +kernel, rfl, by decide +kernel, by decide +kernel⟩
theorem ok_seq {f : Addr} {fd : FuncData} (F : Fun K "is_sequence" "is_sequence" sSeq f fd) (T : TxtK mg) : FnOk P w K mg base CX0 1 f fd ["value"] (spSeq K) := by
  refine F.ok scSeq (fun vs H Q E h => ?_) (fun cdv A outer s H vs Q E hr h => ?_)
  · obtain ⟨x, b, rfl, _⟩ := h
    rfl
  · obtain ⟨x, b, rfl, ⟨t, ty, e⟩, k⟩ := h
    refine ⟨_, (pss_one (ps_ret (pe_callB call_isiT (by rfl) T.isinstance (by decide +kernel) (pa_cons (pv 0) (pa_cons (pe_tup (pa_cons (pe_bltn (v := .ty "list") (by rfl) T.list (by decide +kernel) rfl) (pa_cons (pe_bltn (v := .ty "tuple") (by rfl) T.tuple (by decide +kernel) rfl) pa_nil))) pa_nil))))), ?_⟩
    refine ⟨_, rfl, (by show 2 ≤ sizeLine; decide), fun p hp => ?_⟩
    exact ⟨x, p, _, t, _, b, rfl, upd_same, .cons (.ty _) (.cons (.ty _) .nil), TyX.same (Same.new hp) ty, e, k _ (Same.new hp)⟩
theorem scName : FnScope ["value"] ["value"] (defScope sName) := ⟨rfl, rfl, rfl, by decide +kernel, rfl, by decide +kernel, by decide +kernel⟩
theorem ok_name {f : Addr} {fd : FuncData} (F : Fun K "is_name" "is_name" sName f fd) (T : TxtK mg) : FnOk P w K mg base CX0 1 f fd ["value"] (spName K) := by
  refine F.ok scName (fun vs H Q E h => ?_) (fun cdv A outer s H vs Q E hr h => ?_)
  · obtain ⟨x, b, rfl, _⟩ := h
    rfl
  · obtain ⟨x, b, rfl, h, k⟩ := h
    refine ⟨_, (pss_cons (ps_if (pt_not (pt_val (pe_callB call_isi (by rfl) T.isinstance (by decide +kernel) (pa_cons (pv 0) (pa_cons (pe_bltn (v := .ty "str") (by rfl) T.str (by decide +kernel) rfl) pa_nil)))))
      (pss_one (ps_ret pe_bl))
      pss_nil)
    (pss_one (ps_ret (pe_and (pe_cmpR op_le (pe_callB call_len_str (by rfl) T.len PySem.boot_len (pa_cons (pv 0) pa_nil)) pe_int (nomark _)) (pe_and (pe_m0 PySem.F.slot_str_isascii PySem.F.type_str_isascii mt_isascii (pv 0)) (pe_and (pe_m0 PySem.F.slot_str_isalpha PySem.F.type_str_isalpha mt_isalpha (pv 0)) (pe_one (pe_m0 PySem.F.slot_str_islower PySem.F.type_str_islower mt_islower (pv 0))))))))), ?_⟩
    rcases h with ⟨z, rfl, hz, rfl⟩ | ⟨rfl, t, ty, e⟩
    · obtain ⟨t, ty, e⟩ := isT_str (K := K) (H := H) (z := z)
      refine ⟨_, rfl, _, _, _, _, _, rfl, .ty _, ty, e, _, rfl, ?_⟩
      refine ⟨_, rfl, _, rfl, hz, _, _, rfl, rfl, _, rfl, ?_⟩
      have e0 : decide (((z.length : Nat) : Int) ≤ 6) = decide (z.length ≤ 6) := by
        by_cases q : z.length ≤ 6
        · rw [decide_eq_true q, decide_eq_true (by omega)]
        · rw [decide_eq_false q, decide_eq_false (by omega)]
      unfold nameB at k
      refine ite2 (fun h1 => ?_) (fun h1 => ?_)
      · rw [e0] at h1
        rw [h1, Bool.true_and] at k
        refine ⟨_, rfl, ⟨_, rfl⟩, _, rfl, rfl, trivial, _, rfl, ?_⟩
        refine ite2 (fun h2 => ?_) (fun h2 => ?_)
        · rw [h2, Bool.true_and] at k
          refine ⟨_, rfl, ⟨_, rfl⟩, _, rfl, rfl, trivial, _, rfl, ?_⟩
          refine ite2 (fun h3 => ?_) (fun h3 => ?_)
          · rw [h3, Bool.true_and] at k
            exact ⟨_, rfl, ⟨_, rfl⟩, _, rfl, rfl, trivial, k⟩
          · have : Txt.isalpha z = false := by simpa using h3
            rw [this, Bool.false_and] at k
            exact k
        · have : Txt.isascii z = false := by simpa using h2
          rw [this, Bool.false_and] at k
          exact k
      · rw [e0] at h1
        have : decide (z.length ≤ 6) = false := by simpa using h1
        rw [this, Bool.false_and] at k
        exact k
    · exact ⟨_, rfl, _, _, _, _, _, rfl, .ty _, ty, e, _, rfl, k⟩
theorem scNames : FnScope ["value", "one"] ["value"] (defScope sNames) := ⟨rfl, rfl, rfl, by decide +kernel, rfl, by decide +kernel, by decide +kernel⟩
theorem ok_names {f fS fN : Addr} {fd fdS fdN : FuncData} (F : Fun K "are_names" "are_names" sNames f fd) (T : TxtK mg) (GS : FnOk P w K mg base CX0 1 fS fdS ["value"] (spSeq K)) (gS : mg "is_sequence" = some (.ref fS)) (kS : PySem.W.keepIn K (.ref fS) = true) (bS : Binds K fdS ["value"] [])
    (GN : FnOk P w K mg base CX0 1 fN fdN ["value"] (spName K)) (gN : mg "is_name" = some (.ref fN)) (kN : PySem.W.keepIn K (.ref fN) = true) (bN : Binds K fdN ["value"] []) : FnOk P w K mg base CX0 2 f fd ["value"] (spNames K) := by
  refine F.ok scNames (fun vs H Q E h => ?_) (fun cdv A outer s H vs Q E hr h => ?_)
  · obtain ⟨x, rfl, _⟩ := h
    rfl
  · obtain ⟨x, rfl, h⟩ := h
    rcases h with ⟨h, k⟩ | ⟨a, xs, bs, rfl, hx, hl, hb, k⟩
    · refine ⟨_, (pss_cons (ps_if (pt_not (pt_val (pe_call GS hr (by rfl) gS kS bS .nil pass0 (pa_cons (pv 0) pa_nil)))) (pss_one (ps_ret pe_bl)) pss_nil) pss_never), ?_⟩
      exact ⟨_, rfl, _, false, rfl, h, fun H' s => ⟨_, rfl, k H' s⟩⟩
    · have fin : ∀ H1 l, Same H H1 → H1 l = some (.lst (bs.map V.bl)) → (Q (.bl (bs.all id)) H1 ↔ Q (.bl (bs.all id)) H1) := fun _ _ _ _ => Iff.rfl
      have turn : ∀ {G : Hp} {D : Addr} {i : Nat} {x : V}, Same H G → xs[i]? = some x → ∃ b, bs[i]? = some b ∧ NmB K G x b := fun {G D i x} s hi => by
        have li := (List.getElem?_eq_some_iff.mp hi).1
        rw [← hb.1] at li
        exact ⟨bs[i], by simp [li], (hb.2 i x _ hi (by simp [li])).same s⟩
      rcases hx with hx | hx
      · refine ⟨_, (pss_cons (ps_if (pt_not (pt_val (pe_call GS hr (by rfl) gS kS bS .nil pass0 (pa_cons (pv 0) pa_nil)))) (pss_one (ps_ret pe_bl)) pss_nil)
          (pss_one (ps_ret (pe_and (pe_cmpR op_gt (pe_callB call_len_seq (by rfl) T.len PySem.boot_len (pa_cons (pv 0) pa_nil)) pe_int (nomark _)) (pe_one (pe_callB (cr_all rfl) (by rfl) T.all (by decide +kernel) (pa_cons
            (pe_lc (own := [("one", 1)]) (g := gName 1) (tt := tYes) (by rfl) scNames.nd (pi_list (pv 0)) (blkOk_by (N := ["value", "one"]) (sc := defScope sNames) (by decide +kernel)) (fun _ _ _ _ _ => pg_name (i := 1) scNames.nd rfl (Or.inl rfl)) (fun _ _ _ _ _ => pts_nil) (fun _ _ _ _ _ => pe_call GN hr (by rfl) gN kN bN .nil pass0 (pa_cons (pv 1) pa_nil))) pa_nil))))))), ?_⟩
        refine ⟨_, rfl, _, true, rfl, SqX.seq (.inl hx), fun H1 s1 => ⟨_, rfl, ?_⟩⟩
        refine ⟨_, rfl, a, xs, rfl, .inl (SqL.of (s1 _ _ hx)), _, _, rfl, rfl, _, rfl, ?_⟩
        have e0 : decide (((xs.length : Nat) : Int) > 0) = decide (0 < xs.length) := by
          by_cases q : 0 < xs.length
          · rw [decide_eq_true q, decide_eq_true (by omega)]
          · rw [decide_eq_false q, decide_eq_false (by omega)]
        refine ite2 (fun h1 => ?_) (fun h1 => ?_)
        · have h2 : decide (0 < xs.length) = true := by rw [← e0]; exact h1
          rw [h2] at k
          refine ⟨_, rfl, a, rfl, ⟨_, SqL.of (s1 _ _ hx)⟩, fun D nD => lc_list (K := K) (a := a) (xs := xs) (fun i G => Same H1 G ∧ G D = some (.lst ((bs.take i).map V.bl))) ⟨Same.new nD, upd_same⟩ (fun i G _ q => SqL.of (q.1 _ _ (s1 _ _ hx))) ?_ ?_⟩
          · rintro i x G hi ⟨sG, hD⟩
            obtain ⟨b, eb, nb⟩ := turn (D := D) (s1.trans sG) hi
            refine ⟨rfl, _, rfl, x, b, rfl, nb, _, hD, ?_, fun c u e => by rw [upd_ne (ne_of_none e nD)]; exact sG _ _ e, ?_⟩
            · rw [List.length_map, List.length_take]
              have : i < xs.length := (List.getElem?_eq_some_iff.mp hi).1
              exact small1000 (by omega)
            · rw [upd_same, List.take_succ, eb, List.map_append]
              rfl
          · rintro G ⟨sG, hD⟩
            refine ⟨D, bs, rfl, ?_, ?_⟩
            · rw [← hb.1, List.take_length] at hD
              exact SqL.of hD
            · exact k G (s1.trans sG)
        · have h2 : decide (0 < xs.length) = false := by rw [← e0]; simpa using h1
          rw [h2] at k
          exact k H1 s1
      · refine ⟨_, (pss_cons (ps_if (pt_not (pt_val (pe_call GS hr (by rfl) gS kS bS .nil pass0 (pa_cons (pv 0) pa_nil)))) (pss_one (ps_ret pe_bl)) pss_nil)
          (pss_one (ps_ret (pe_and (pe_cmpR op_gt (pe_callB call_len_seq (by rfl) T.len PySem.boot_len (pa_cons (pv 0) pa_nil)) pe_int (nomark _)) (pe_one (pe_callB (cr_all rfl) (by rfl) T.all (by decide +kernel) (pa_cons
            (pe_lc (own := [("one", 1)]) (g := gName 1) (tt := tYes) (by rfl) scNames.nd (pi_tup (pv 0)) (blkOk_by (N := ["value", "one"]) (sc := defScope sNames) (by decide +kernel)) (fun _ _ _ _ _ => pg_name (i := 1) scNames.nd rfl (Or.inl rfl)) (fun _ _ _ _ _ => pts_nil) (fun _ _ _ _ _ => pe_call GN hr (by rfl) gN kN bN .nil pass0 (pa_cons (pv 1) pa_nil))) pa_nil))))))), ?_⟩
        refine ⟨_, rfl, _, true, rfl, SqX.seq (.inr hx), fun H1 s1 => ⟨_, rfl, ?_⟩⟩
        refine ⟨_, rfl, a, xs, rfl, .inr (SqT.of (s1 _ _ hx)), _, _, rfl, rfl, _, rfl, ?_⟩
        have e0 : decide (((xs.length : Nat) : Int) > 0) = decide (0 < xs.length) := by
          by_cases q : 0 < xs.length
          · rw [decide_eq_true q, decide_eq_true (by omega)]
          · rw [decide_eq_false q, decide_eq_false (by omega)]
        refine ite2 (fun h1 => ?_) (fun h1 => ?_)
        · have h2 : decide (0 < xs.length) = true := by rw [← e0]; exact h1
          rw [h2] at k
          refine ⟨_, rfl, a, rfl, ⟨_, SqT.of (s1 _ _ hx)⟩, fun D nD => lc_tup (K := K) (a := a) (xs := xs) (fun i G => Same H1 G ∧ G D = some (.lst ((bs.take i).map V.bl))) ⟨Same.new nD, upd_same⟩ (fun i G _ q => SqT.of (q.1 _ _ (s1 _ _ hx))) ?_ ?_⟩
          · rintro i x G hi ⟨sG, hD⟩
            obtain ⟨b, eb, nb⟩ := turn (D := D) (s1.trans sG) hi
            refine ⟨rfl, _, rfl, x, b, rfl, nb, _, hD, ?_, fun c u e => by rw [upd_ne (ne_of_none e nD)]; exact sG _ _ e, ?_⟩
            · rw [List.length_map, List.length_take]
              have : i < xs.length := (List.getElem?_eq_some_iff.mp hi).1
              exact small1000 (by omega)
            · rw [upd_same, List.take_succ, eb, List.map_append]
              rfl
          · rintro G ⟨sG, hD⟩
            refine ⟨D, bs, rfl, ?_, ?_⟩
            · rw [← hb.1, List.take_length] at hD
              exact SqL.of hD
            · exact k G (s1.trans sG)
        · have h2 : decide (0 < xs.length) = false := by rw [← e0]; simpa using h1
          rw [h2] at k
          exact k H1 s1
theorem scReq : FnScope ["holds", "word"] ["holds", "word"] (defScope sReq) := ⟨rfl, rfl, rfl, by decide +kernel, rfl, by decide +kernel, by decide +kernel⟩
/-- require, where what is asked holds -/
theorem ok_req {f : Addr} {fd : FuncData} (F : Fun K "require" "require" sReq f fd) : FnOk P w K mg base CX0 1 f fd ["holds", "word"] spReq := by
  refine F.ok scReq (fun vs H Q E h => ?_) (fun cdv A outer s H vs Q E hr h => ?_)
  · obtain ⟨v, rfl, _⟩ := h
    rfl
  · obtain ⟨v, rfl, k⟩ := h
    exact ⟨_, pss_one (ps_if (pt_not (pt_val (pv 0))) pss_never pss_nil), _, rfl, _, rfl, k⟩
theorem scRem : FnScope ["value"] ["value"] (defScope sRem) := ⟨rfl, rfl, rfl, by decide +kernel, rfl, by decide +kernel, by decide +kernel⟩
theorem ok_rem {f fN : Addr} {fd fdN : FuncData} (F : Fun K "is_remark" "is_remark" sRem f fd) (T : TxtK mg) (GN : FnOk P w K mg base CX0 1 fN fdN ["value"] (spName K)) (gN : mg "is_name" = some (.ref fN)) (kN : PySem.W.keepIn K (.ref fN) = true) (bN : Binds K fdN ["value"] []) :
    FnOk P w K mg base CX0 2 f fd ["value"] (spRem K) := by
  refine F.ok scRem (fun vs H Q E h => ?_) (fun cdv A outer s H vs Q E hr h => ?_)
  · obtain ⟨x, rfl, _⟩ := h
    rfl
  · obtain ⟨x, rfl, h⟩ := h
    refine ⟨_, (pss_one (ps_ret (pe_and (pe_callB call_isi (by rfl) T.isinstance (by decide +kernel) (pa_cons (pv 0) (pa_cons (pe_bltn (v := .ty "str") (by rfl) T.str (by decide +kernel) rfl) pa_nil))) (pe_one (pe_or (pe_cmpR op_eq (pv 0) pe_str (nomark _)) (pe_one (pe_call GN hr (by rfl) gN kN bN .nil pass0 (pa_cons (pv 0) pa_nil)))))))), ?_⟩
    rcases h with ⟨z, rfl, hz, k⟩ | ⟨⟨t, ty, e⟩, k⟩
    · obtain ⟨t, ty, e⟩ := isT_str (K := K) (H := H) (z := z)
      refine ⟨_, rfl, _, _, _, _, _, rfl, .ty _, ty, e, _, rfl, ?_⟩
      refine ⟨_, rfl, rfl, _, rfl, ?_⟩
      unfold remarkB at k
      refine ite2 (fun h1 => ?_) (fun h1 => ?_)
      · rw [h1] at k
        exact k
      · have : decide (V.str z = V.str "") = false := by simpa using h1
        rw [this, Bool.false_or] at k
        exact ⟨_, rfl, _, _, rfl, .inl ⟨z, rfl, hz, rfl⟩, k⟩
    · exact ⟨_, rfl, _, _, _, _, _, rfl, .ty _, ty, e, _, rfl, k⟩
end
end Lay
set_option Elab.async false
set_option linter.all false
set_option maxRecDepth 100000
set_option maxHeartbeats 4000000
namespace Lay
open PySem L2
/-- what a piece is made of -/
structure PD where
  word : Str
  parts : List Str
  broken : Bool
  marked : Bool
  ahead : Str
  behind : Str
  blanks : Int
  left : Bool
structure PD.Ok (d : PD) : Prop where
  word : nameB d.word = true
  some : 0 < d.parts.length
  few : d.parts.length ≤ 1000
  parts : ∀ z ∈ d.parts, nameB z = true
  ahead : remarkB d.ahead = true
  behind : remarkB d.behind = true
  b0 : 0 ≤ d.blanks
  b3 : d.blanks < 3
theorem remarkB_len {z : Str} (h : remarkB z = true) : z.length ≤ 6 := by
  unfold remarkB at h
  rcases Bool.or_eq_true_iff.mp h with h | h
  · have e : z = ("" : Str) := V.str.inj (of_decide_eq_true h)
    rw [e]
    decide
  · exact nameB_len h
theorem six_line {n : Nat} (h : n ≤ 6) : n ≤ sizeLine := Nat.le_trans h (by decide)
/-- its attributes, the tuple of the items at t -/
def pieceF (d : PD) (t : Addr) : List (Str × V) :=
  putF "left" (.bl d.left) (putF "blanks" (.int d.blanks) (putF "behind" (.str d.behind) (putF "ahead" (.str d.ahead) (putF "marked" (.bl d.marked) (putF "broken" (.bl d.broken) (putF "parts" (.ref t) (putF "word" (.str d.word) [])))))))
/-- at p a piece of d -/
def PieceAt (K : PySem.W.Frag) (C : Addr) (H : Hp) (p : Addr) (d : PD) : Prop := ∃ dx t, H p = some (.ins C dx (pieceF d t)) ∧ SqT K H t (d.parts.map V.str)
theorem SqT.same {K : PySem.W.Frag} {H H' : Hp} {a : Addr} {xs : List V} (e : Same H H') (h : SqT K H a xs) : SqT K H' a xs := by
  rcases h with (h | ⟨o, h⟩) | h
  · exact .inl (.inl (e _ _ h))
  · exact .inl (.inr ⟨o, e _ _ h⟩)
  · exact .inr h
theorem PieceAt.same {K : PySem.W.Frag} {C : Addr} {H H' : Hp} {p : Addr} {d : PD} (s : Same H H') (h : PieceAt K C H p d) : PieceAt K C H' p d := by
  obtain ⟨dx, t, h1, h2⟩ := h
  exact ⟨dx, t, s _ _ h1, SqT.same s h2⟩
/-- what the class Piece says of itself -/
structure PieceC (K : PySem.W.Frag) (C : Addr) : Prop where
  cl : Cls K C
  word : NoAttr K C "word"
  parts : NoAttr K C "parts"
  broken : NoAttr K C "broken"
  marked : NoAttr K C "marked"
  ahead : NoAttr K C "ahead"
  behind : NoAttr K C "behind"
  blanks : NoAttr K C "blanks"
  left : NoAttr K C "left"
def spPieceI (C : Addr) (K : PySem.W.Frag) : Sp := fun vs H Q _ => ∃ (p a dx : Addr) (d : PD), vs = [.ref p, .str d.word, .ref a, .bl d.broken, .bl d.marked, .str d.ahead, .str d.behind, .int d.blanks, .bl d.left] ∧ d.Ok ∧ SqX K H a (d.parts.map V.str) ∧
  H p = some (.ins C dx []) ∧ ∀ H' t, Kept p H H' → H' p = some (.ins C dx (pieceF d t)) → SqT K H' t (d.parts.map V.str) → Q .non H'
abbrev sPieceI : Stmt := inClass (top 20) 0
theorem few_put {f : Str} {v : V} {fs : List (Str × V)} {n : Nat} (h : fs.length ≤ n) : (putF f v fs).length ≤ n + 1 := Nat.le_trans (length_putF f v fs) (Nat.succ_le_succ h)
theorem few_1000 {fs : List (Str × V)} {n : Nat} (h : fs.length ≤ n) (hn : n < 1000) : fs.length < 1000 := Nat.lt_of_le_of_lt h hn
section
variable {P : Program} {w : World} {K : PySem.W.Frag} {mg : Str → Option Value} {base : Heap}
theorem scPi : FnScope ["self", "word", "parts", "broken", "marked", "ahead", "behind", "blanks", "left"] ["self", "word", "parts", "broken", "marked", "ahead", "behind", "blanks", "left"] (defScope sPieceI) := ⟨rfl, rfl, rfl, by decide +kernel, rfl, by decide +kernel, by decide +kernel⟩
/-- the defs that Piece asks -/
structure PieceD (P : Program) (w : World) (K : PySem.W.Frag) (mg : Str → Option Value) (base : Heap) (fR fN fM fE fU : Addr) (dR dN dM dE dU : FuncData) : Prop where
  GR : FnOk P w K mg base CX0 1 fR dR ["holds", "word"] spReq
  gR : mg "require" = some (.ref fR)
  kR : PySem.W.keepIn K (.ref fR) = true
  bR : Binds K dR ["holds", "word"] []
  GN : FnOk P w K mg base CX0 1 fN dN ["value"] (spName K)
  gN : mg "is_name" = some (.ref fN)
  kN : PySem.W.keepIn K (.ref fN) = true
  bN : Binds K dN ["value"] []
  GM : FnOk P w K mg base CX0 2 fM dM ["value"] (spNames K)
  gM : mg "are_names" = some (.ref fM)
  kM : PySem.W.keepIn K (.ref fM) = true
  bM : Binds K dM ["value"] []
  GE : FnOk P w K mg base CX0 2 fE dE ["value"] (spRem K)
  gE : mg "is_remark" = some (.ref fE)
  kE : PySem.W.keepIn K (.ref fE) = true
  bE : Binds K dE ["value"] []
  GU : FnOk P w K mg base CX0 2 fU dU ["value", "many"] (spNum K)
  gU : mg "is_number" = some (.ref fU)
  kU : PySem.W.keepIn K (.ref fU) = true
  bU : Binds K dU ["value", "many"] []
theorem ok_pieceI {f C : Addr} {fd : FuncData} {dvs : List V} {fR fN fM fE fU : Addr} {dR dN dM dE dU : FuncData} (F : FunD K "__init__" "Piece.__init__" (defArgs sPieceI) (defBody sPieceI) (defScope sPieceI) dvs [] f fd) (T : TxtK mg) (Z : PieceC K C) (D : PieceD P w K mg base fR fN fM fE fU dR dN dM dE dU) :
    FnOk P w K mg base CX0 3 f fd ["self", "word", "parts", "broken", "marked", "ahead", "behind", "blanks", "left"] (spPieceI C K) := by
  refine F.ok scPi (fun vs H Q E h => ?_) (fun cdv A outer s H vs Q E hr h => ?_)
  · obtain ⟨p, a, dx, d, rfl, _⟩ := h
    rfl
  · obtain ⟨p, a, dx, d, rfl, o, ha, hp, k⟩ := h
    have hr1 := hr.mono (show 1 ≤ 2 by decide)
    suffices h : ∃ t, PSs (cxOf CX0 P w K mg base ["self", "word", "parts", "broken", "marked", "ahead", "behind", "blanks", "left"] "Piece.__init__" (defScope sPieceI) f cdv A outer s H E).nox (defBody sPieceI) t ∧ t { nx := fun _ H' => Q .non H', rt := Q } (start ["self", "word", "parts", "broken", "marked", "ahead", "behind", "blanks", "left"] [.ref p, .str d.word, .ref a, .bl d.broken, .bl d.marked, .str d.ahead, .str d.behind, .int d.blanks, .bl d.left]) H by
      obtain ⟨t, h1, h2⟩ := h
      exact ⟨t, h1.nox, h2⟩
    refine ⟨_, (pss_cons (ps_expr (pe_call D.GR hr1 (by rfl) D.gR D.kR D.bR .nil pass0 (pa_cons (pe_call D.GN hr1 (by rfl) D.gN D.kN D.bN .nil pass0 (pa_cons (pv 1) pa_nil)) (pa_cons pe_str pa_nil))))
    (pss_cons (ps_expr (pe_call D.GR hr1 (by rfl) D.gR D.kR D.bR .nil pass0 (pa_cons (pe_call D.GM hr (by rfl) D.gM D.kM D.bM .nil pass0 (pa_cons (pv 2) pa_nil)) (pa_cons pe_str pa_nil))))
    (pss_cons (ps_expr (pe_call D.GR hr1 (by rfl) D.gR D.kR D.bR .nil pass0 (pa_cons (pe_callB call_isi (by rfl) T.isinstance (by decide +kernel) (pa_cons (pv 3) (pa_cons (pe_bltn (v := .ty "bool") (by rfl) T.bool (by decide +kernel) rfl) pa_nil))) (pa_cons pe_str pa_nil))))
    (pss_cons (ps_expr (pe_call D.GR hr1 (by rfl) D.gR D.kR D.bR .nil pass0 (pa_cons (pe_callB call_isi (by rfl) T.isinstance (by decide +kernel) (pa_cons (pv 4) (pa_cons (pe_bltn (v := .ty "bool") (by rfl) T.bool (by decide +kernel) rfl) pa_nil))) (pa_cons pe_str pa_nil))))
    (pss_cons (ps_expr (pe_call D.GR hr1 (by rfl) D.gR D.kR D.bR .nil pass0 (pa_cons (pe_call D.GE hr (by rfl) D.gE D.kE D.bE .nil pass0 (pa_cons (pv 5) pa_nil)) (pa_cons pe_str pa_nil))))
    (pss_cons (ps_expr (pe_call D.GR hr1 (by rfl) D.gR D.kR D.bR .nil pass0 (pa_cons (pe_call D.GE hr (by rfl) D.gE D.kE D.bE .nil pass0 (pa_cons (pv 6) pa_nil)) (pa_cons pe_str pa_nil))))
    (pss_cons (ps_expr (pe_call D.GR hr1 (by rfl) D.gR D.kR D.bR .nil pass0 (pa_cons (pe_call D.GU hr (by rfl) D.gU D.kU D.bU .nil pass0 (pa_cons (pv 7) (pa_cons pe_int pa_nil))) (pa_cons pe_str pa_nil))))
    (pss_cons (ps_expr (pe_call D.GR hr1 (by rfl) D.gR D.kR D.bR .nil pass0 (pa_cons (pe_callB call_isi (by rfl) T.isinstance (by decide +kernel) (pa_cons (pv 8) (pa_cons (pe_bltn (v := .ty "bool") (by rfl) T.bool (by decide +kernel) rfl) pa_nil))) (pa_cons pe_str pa_nil))))
    (pss_cons (ps_fld (pv 0) (pv 1) rfl)
    (C8.pss_cut (ps_fld (pv 0) (pe_callTy call_tuple_of (by rfl) T.tuple (by decide +kernel) (pa_cons (pv 2) pa_nil)) rfl)
    (pss_cons (ps_fld (pv 0) (pv 3) rfl)
    (pss_cons (ps_fld (pv 0) (pv 4) rfl)
    (pss_cons (ps_fld (pv 0) (pv 5) rfl)
    (pss_cons (ps_fld (pv 0) (pv 6) rfl)
    (pss_cons (ps_fld (pv 0) (pv 7) rfl)
    (pss_one (ps_fld (pv 0) (pv 8) rfl))))))))))))))))), ?_⟩
    have nap : a ≠ p := by
      rcases ha with ha | ha
      · exact ne_of ha hp (fun z => nomatch z)
      · exact ne_of ha hp (fun z => nomatch z)
    refine ⟨_, rfl, _, true, rfl, .inl ⟨_, rfl, six_line (nameB_len o.word), o.word.symm⟩, _, rfl, ?_⟩
    have hall : (decide (0 < (d.parts.map V.str).length) && (List.replicate d.parts.length true).all id) = true := by
      rw [List.length_map, decide_eq_true o.some, Bool.true_and, List.all_eq_true]
      intro b hb
      rw [(List.mem_replicate.mp hb).2]
      rfl
    refine ⟨_, rfl, _, rfl, .inr ⟨a, _, List.replicate d.parts.length true, rfl, ha, by rw [List.length_map]; exact o.few, ⟨by rw [List.length_replicate, List.length_map], fun i x b hx hb => ?_⟩, fun H1 s1 => ⟨_, by rw [hall]; rfl, ?_⟩⟩⟩
    · rw [List.getElem?_map] at hx
      cases q : d.parts[i]? with
      | none =>
        rw [q] at hx
        cases hx
      | some z =>
        rw [q] at hx
        cases hx
        have hz := o.parts z (List.mem_of_getElem? q)
        have eb : b = true := (List.mem_replicate.mp (List.mem_of_getElem? hb)).2
        exact .inl ⟨z, rfl, six_line (nameB_len hz), by rw [eb, hz]⟩
    obtain ⟨t3, y3, e3⟩ := isT_bl (K := K) (H := H1) (z := d.broken)
    refine ⟨_, rfl, _, _, _, _, _, rfl, .ty _, y3, e3, _, rfl, ?_⟩
    obtain ⟨t4, y4, e4⟩ := isT_bl (K := K) (H := H1) (z := d.marked)
    refine ⟨_, rfl, _, _, _, _, _, rfl, .ty _, y4, e4, _, rfl, ?_⟩
    refine ⟨_, rfl, _, rfl, .inl ⟨_, rfl, six_line (remarkB_len o.ahead), _, by rw [o.ahead]; rfl, ?_⟩⟩
    refine ⟨_, rfl, _, rfl, .inl ⟨_, rfl, six_line (remarkB_len o.behind), _, by rw [o.behind]; rfl, ?_⟩⟩
    refine ⟨_, rfl, _, _, rfl, .inl ⟨_, rfl, _, by rw [decide_eq_true o.b0, decide_eq_true o.b3]; rfl, ?_⟩⟩
    obtain ⟨t8, y8, e8⟩ := isT_bl (K := K) (H := H1) (z := d.left)
    refine ⟨_, rfl, _, _, _, _, _, rfl, .ty _, y8, e8, _, rfl, ?_⟩
    refine ⟨_, rfl, _, rfl, p, C, dx, _, rfl, s1 _ _ hp, Z.cl, Z.word, (by show 0 < 1000; decide), ?_⟩
    refine ⟨fun σ' G => σ' = start ["self", "word", "parts", "broken", "marked", "ahead", "behind", "blanks", "left"] [.ref p, .str d.word, .ref a, .bl d.broken, .bl d.marked, .str d.ahead, .str d.behind, .int d.blanks, .bl d.left] ∧
      ∃ t, Kept p H G ∧ t ≠ p ∧ G p = some (.ins C dx (putF "parts" (.ref t) (putF "word" (.str d.word) []))) ∧ SqT K G t (d.parts.map V.str), ?_, ?_⟩
    · have k1 : Kept p H (upd H1 p (.ins C dx (putF "word" (.str d.word) []))) := (Kept.of_same s1).trans Kept.box
      rcases ha with ha | ha
      · refine ⟨_, rfl, a, _, rfl, .inl ⟨SqL.of (k1 _ _ nap ha), fun l hl => ⟨_, rfl, p, C, dx, _, rfl, Same.new hl _ _ upd_same, Z.cl, Z.parts, few_1000 (few_put (Nat.zero_le 0)) (by decide), rfl, l, (k1.trans (Kept.new hl)).trans Kept.box, ?_, upd_same, ?_⟩⟩⟩
        · intro z
          rw [z, upd_same] at hl
          cases hl
        · have nlp : l ≠ p := fun z => by
            rw [z, upd_same] at hl
            cases hl
          exact SqT.of (by rw [upd_ne nlp, upd_same])
      · refine ⟨_, rfl, a, _, rfl, .inr ⟨SqT.of (k1 _ _ nap ha), _, rfl, p, C, dx, _, rfl, upd_same, Z.cl, Z.parts, few_1000 (few_put (Nat.zero_le 0)) (by decide), rfl, a, k1.trans Kept.box, nap, upd_same, SqT.of (by rw [upd_ne nap]; exact k1 _ _ nap ha)⟩⟩
    · rintro σ' G ⟨rfl, t, kG, ntp, hG, ht⟩
      refine ⟨_, rfl, _, rfl, p, C, dx, _, rfl, hG, Z.cl, Z.broken, few_1000 (few_put (few_put (Nat.zero_le 0))) (by decide), ?_⟩
      refine ⟨_, rfl, _, rfl, p, C, dx, _, rfl, upd_same, Z.cl, Z.marked, few_1000 (few_put (few_put (few_put (Nat.zero_le 0)))) (by decide), ?_⟩
      refine ⟨_, rfl, _, rfl, p, C, dx, _, rfl, upd_same, Z.cl, Z.ahead, few_1000 (few_put (few_put (few_put (few_put (Nat.zero_le 0))))) (by decide), ?_⟩
      refine ⟨_, rfl, _, rfl, p, C, dx, _, rfl, upd_same, Z.cl, Z.behind, few_1000 (few_put (few_put (few_put (few_put (few_put (Nat.zero_le 0)))))) (by decide), ?_⟩
      refine ⟨_, rfl, _, rfl, p, C, dx, _, rfl, upd_same, Z.cl, Z.blanks, few_1000 (few_put (few_put (few_put (few_put (few_put (few_put (Nat.zero_le 0))))))) (by decide), ?_⟩
      refine ⟨_, rfl, _, rfl, p, C, dx, _, rfl, upd_same, Z.cl, Z.left, few_1000 (few_put (few_put (few_put (few_put (few_put (few_put (few_put (Nat.zero_le 0)))))))) (by decide), ?_⟩
      simp only [upd_upd]
      exact k _ t (kG.trans Kept.box) upd_same (SqT.kept Kept.box ntp ht)
end
end Lay
set_option Elab.async false
set_option linter.all false
set_option maxRecDepth 100000
set_option maxHeartbeats 4000000
namespace Lay
open PySem L2
/-- an error class with an __init__ of its own that keeps f -/
structure XC (K : PySem.W.Frag) (mg : Str → Option Value) (C fI : Addr) (x f : Str) : Prop where
  oex : OexC K C
  init : PySem.W.findIn K (.ref C) "__init__" = some (some (.ref fI))
  tI : PySem.W.typeIn K (.ref fI) = some (.type "function")
  gC : mg x = some (.ref C)
  no : PySem.W.findIn K (.ref C) f = some none
  isC : ExcC K C
  xf : XfC K C
def spInit (K : PySem.W.Frag) (C : Addr) (f : Str) : Sp := fun vs H Q _ => ∃ (a : Addr) (v : V), vs = [.ref a, v] ∧ OexC K C ∧ PySem.W.findIn K (.ref C) f = some none ∧ H a = some (exo a C none) ∧
  ∀ dx, H dx = none → dx ≠ a → Q .non (upd (upd H dx (exd dx [(f, v)])) a (exo a C (some dx)))
/-- what raising such a class comes to -/
theorem raised_at {K : PySem.W.Frag} {C a : Addr} {f : Str} {H : Hp} {v : V} {Q : XK} (T : OexC K C) (no : PySem.W.findIn K (.ref C) f = some none) (ha : H a = none)
    (k : ∀ H' d, Same H H' → H d = none → H' d = some (.xd [(f, v)]) → Q (.ref C) (some d) H') :
    spInit K C f [.ref a, v] (upd H a (exo a C none)) (fun u H2 => u = .non ∧ ∃ (d : Addr) (fs : List (Str × V)), H2 a = some (exo a C (some d)) ∧ H2 d = some (exd d fs) ∧ H d = none ∧ Q (.ref C) (some d) (upd (del H2 a) d (.xd fs))) (fun _ _ _ => False) := by
  refine ⟨a, v, rfl, T, no, upd_same, fun dx hd ne => ?_⟩
  have hd' : H dx = none := by
    rw [upd_ne ne] at hd
    exact hd
  refine ⟨rfl, dx, _, upd_same, by rw [upd_ne ne, upd_same], hd', k _ dx (fun b o e => ?_) hd' upd_same⟩
  have nb : b ≠ a := ne_of_none e ha
  have nd : b ≠ dx := ne_of_none e hd'
  rw [upd_ne nd, del_ne nb, upd_ne nb, upd_ne nd, upd_ne nb]
  exact e
/-- isinstance(x, Piece) -/
def IsP (K : PySem.W.Frag) (C : Addr) (H : Hp) (x : V) (b : Bool) : Prop := ∃ t, TyX K H x t ∧ PySem.W.kitOne K t (.ref C) = some b
theorem IsP.same {K : PySem.W.Frag} {C : Addr} {H H' : Hp} {x : V} {b : Bool} (s : Same H H') (h : IsP K C H x b) : IsP K C H' x b := by
  obtain ⟨t, h1, h2⟩ := h
  exact ⟨t, TyX.same s h1, h2⟩
/-- what Program says of a value: none, or the number of what is wrong -/
def Verdict (K : PySem.W.Frag) (C : Addr) (H : Hp) (x : V) (r : Option Nat) : Prop := (IsSeq K H x false ∧ r = some 0) ∨
  ∃ a xs, x = .ref a ∧ SqX K H a xs ∧ xs.length ≤ 1000 ∧ ((r = none ∧ ∀ y ∈ xs, IsP K C H y true) ∨ ∃ i y, r = some i ∧ xs[i]? = some y ∧ IsP K C H y false ∧ ∀ j z, j < i → xs[j]? = some z → IsP K C H z true)
theorem Verdict.same {K : PySem.W.Frag} {C : Addr} {H H' : Hp} {x : V} {r : Option Nat} (s : Same H H') (h : Verdict K C H x r) : Verdict K C H' x r := by
  rcases h with ⟨h, e⟩ | ⟨a, xs, e, h, l, k⟩
  · exact .inl ⟨h.same s, e⟩
  · refine .inr ⟨a, xs, e, h.same s, l, ?_⟩
    rcases k with ⟨e1, k⟩ | ⟨i, y, e1, e2, k1, k2⟩
    · exact .inl ⟨e1, fun y hy => (k y hy).same s⟩
    · exact .inr ⟨i, y, e1, e2, k1.same s, fun j z h1 h2 => (k2 j z h1 h2).same s⟩
/-- what is raised of it -/
def Raised (D : Addr) (H : Hp) (i : Nat) (E : XK) : Prop := ∀ H' d, Same H H' → H d = none → H' d = some (.xd [("at", .int i)]) → E (.ref D) (some d) H'
def spCheck (K : PySem.W.Frag) (C D : Addr) : Sp := fun vs H Q E => ∃ x r, vs = [x] ∧ Verdict K C H x r ∧ (r = none → ∀ H', Same H H' → Q .non H') ∧ ∀ i, r = some i → Raised D H i E
theorem Raised.same {D : Addr} {H H' : Hp} {i : Nat} {E : XK} (s : Same H H') (h : Raised D H i E) : Raised D H' i E := fun G d s2 n e => h G d (s.trans s2) (s.free n) e
abbrev sIIP : Stmt := inClass (top 4) 0
abbrev sCheck : Stmt := top 22
section
variable {P : Program} {w : World} {K : PySem.W.Frag} {mg : Str → Option Value} {base : Heap}
theorem scIIP : FnScope ["self", "at"] ["self", "at"] (defScope sIIP) := ⟨rfl, rfl, rfl, by decide +kernel, rfl, by decide +kernel, by decide +kernel⟩
theorem ok_iIP {f C : Addr} {fd : FuncData} (F : Fun K "__init__" "InvalidProgram.__init__" sIIP f fd) : FnOk P w K mg base CX0 1 f fd ["self", "at"] (spInit K C "at") := by
  refine F.ok scIIP (fun vs H Q E h => ?_) (fun cdv A outer s H vs Q E hr h => ?_)
  · obtain ⟨a, v, rfl, _⟩ := h
    rfl
  · obtain ⟨a, v, rfl, T, no, ha, k⟩ := h
    exact ⟨_, pss_one (ps_ost (pv 0) (pv 1)), _, rfl, _, rfl, a, C, rfl, T, no, .inl ⟨ha, fun dx h1 h2 => k dx h1 h2⟩⟩
theorem scCheck : FnScope ["value", "at", "one"] ["value"] (defScope sCheck) := ⟨rfl, rfl, rfl, by decide +kernel, rfl, by decide +kernel, by decide +kernel⟩
theorem ok_check {f fS fI C D : Addr} {fd fdS fdI : FuncData} (F : Fun K "check_pieces" "check_pieces" sCheck f fd) (T : TxtK mg) (GS : FnOk P w K mg base CX0 1 fS fdS ["value"] (spSeq K)) (gS : mg "is_sequence" = some (.ref fS)) (kS : PySem.W.keepIn K (.ref fS) = true) (bS : Binds K fdS ["value"] [])
    (Y : XC K mg D fI "InvalidProgram" "at") (GI : FnOk P w K mg base CX0 1 fI fdI ["self", "at"] (spInit K D "at")) (bI : Binds K fdI ["self", "at"] []) (gP : mg "Piece" = some (.ref C)) : FnOk P w K mg base (L2.CX P w) 3 f fd ["value"] (spCheck K C D) := by
  refine F.okX scCheck (fun vs H Q E h => ?_) (fun cdv A outer s H vs Q E hr h => ?_)
  · obtain ⟨x, r, rfl, _⟩ := h
    rfl
  · obtain ⟨x, r, rfl, h, k1, k2⟩ := h
    refine ⟨_, (pss_cons (ps_if (pt_not (pt_val (pe_call GS (hr.mono (by decide)) (by rfl) gS kS bS .nil pass0 (pa_cons (pv 0) pa_nil))))
      (pss_one (ps_raise rfl (takes_of rfl rfl rfl rfl) (pmk_oex Y.oex Y.init Y.tI GI hr bI .nil pass0 (by rfl) Y.gC (pa_cons pe_int pa_nil))))
      pss_nil)
    (pss_one (ps_for (passes_of rfl) rfl (pi_enum2 (by rfl) T.enumerate (pa_cons (pv 0) pa_nil)) (pg_tup rfl (pgs_cons (pg_name (i := 1) scCheck.nd rfl (.inl rfl)) (pgs_cons (pg_name (i := 2) scCheck.nd rfl (.inl rfl)) pgs_nil)))
      (pss_one (ps_if (pt_not (pt_val (pe_callB call_isi (by rfl) T.isinstance (by decide +kernel) (pa_cons (pv 2) (pa_cons (pe_glob (v := .ref C) (by rfl) gP rfl) pa_nil)))))
        (pss_one (ps_raise rfl (takes_of rfl rfl rfl rfl) (pmk_oex Y.oex Y.init Y.tI GI hr bI .nil pass0 (by rfl) Y.gC (pa_cons (pv 1) pa_nil))))
        pss_nil))))), ?_⟩
    rcases h with ⟨h, rfl⟩ | ⟨a, xs, rfl, hx, hl, h⟩
    · exact ⟨_, rfl, _, false, rfl, h, fun H1 s1 => ⟨_, rfl, (by show 1 ≤ 1000; decide), fun a ha => raised_at Y.oex Y.no ha fun G d s2 n e => k2 0 rfl G d (s1.trans s2) (s1.free n) e⟩⟩
    refine ⟨_, rfl, _, true, rfl, SqX.seq hx, fun H1 s1 => ⟨_, rfl, ?_⟩⟩
    rcases hx with hx | hx
    · refine ⟨_, rfl, a, xs, rfl, .inl ⟨SqL.of (s1 _ _ hx), for_it walk_enum (fun i σ G => (∃ x1 x2, σ = [some (.ref a), x1, x2]) ∧ Same H G ∧ ∀ j, r = some j → i ≤ j) ⟨⟨_, _, rfl⟩, s1, fun j _ => Nat.zero_le j⟩ (fun i σ G _ q => SqL.of (q.2.1 _ _ hx)) ?_ ?_⟩⟩
      · rintro i x σ G G' hi ⟨⟨x1, x2, rfl⟩, sG, hr0⟩ ⟨T0, u, v, rfl, hT, rfl, e1, e2⟩
        cases e1
        have e2 : xs[i]? = some v := e2
        have sT := Same.new hT (o := .tup [.int (i : Nat), v])
        refine ⟨T0, _, rfl, SqT.of upd_same, rfl, _, _, rfl, _, _, rfl, rfl, ?_⟩
        have q : (IsP K C H v true ∧ ∀ j, r = some j → i + 1 ≤ j) ∨ (IsP K C H v false ∧ r = some i) := by
          rcases h with ⟨e, h⟩ | ⟨j, y, e, ej, h1, h2⟩
          · exact .inl ⟨h v (List.mem_of_getElem? e2), fun j z => by
              rw [e] at z
              cases z⟩
          · have le := hr0 j e
            rcases Nat.lt_or_ge i j with lt | ge
            · exact .inl ⟨h2 i v lt e2, fun j' z => by
                rw [e] at z
                cases z
                exact lt⟩
            · have ij : i = j := by omega
              subst ij
              rw [ej] at e2
              cases e2
              exact .inr ⟨h1, e⟩
        rcases q with ⟨q, lt⟩ | ⟨q, er⟩
        · obtain ⟨t, ty, et⟩ := (q.same sG).same sT
          exact ⟨_, rfl, _, _, _, _, _, rfl, .own _, ty, et, _, rfl, ⟨_, _, rfl⟩, sG.trans sT, lt⟩
        · obtain ⟨t, ty, et⟩ := (q.same sG).same sT
          exact ⟨_, rfl, _, _, _, _, _, rfl, .own _, ty, et, _, rfl, _, rfl, (by show 1 ≤ 1000; decide), fun a ha => raised_at Y.oex Y.no ha fun G2 d s2 n e => k2 i er G2 d ((sG.trans sT).trans s2) ((sG.trans sT).free n) e⟩
      · rintro σ G ⟨_, sG, hr0⟩
        rcases h with ⟨rfl, _⟩ | ⟨j, y, rfl, e2, _⟩
        · exact k1 rfl G sG
        · have := hr0 j rfl
          have := (List.getElem?_eq_some_iff.mp e2).1
          omega
    · refine ⟨_, rfl, a, xs, rfl, .inr ⟨SqT.of (s1 _ _ hx), for_it walk_enumT (fun i σ G => (∃ x1 x2, σ = [some (.ref a), x1, x2]) ∧ Same H G ∧ ∀ j, r = some j → i ≤ j) ⟨⟨_, _, rfl⟩, s1, fun j _ => Nat.zero_le j⟩ (fun i σ G _ q => SqT.of (q.2.1 _ _ hx)) ?_ ?_⟩⟩
      · rintro i x σ G G' hi ⟨⟨x1, x2, rfl⟩, sG, hr0⟩ ⟨T0, u, v, rfl, hT, rfl, e1, e2⟩
        cases e1
        have e2 : xs[i]? = some v := e2
        have sT := Same.new hT (o := .tup [.int (i : Nat), v])
        refine ⟨T0, _, rfl, SqT.of upd_same, rfl, _, _, rfl, _, _, rfl, rfl, ?_⟩
        have q : (IsP K C H v true ∧ ∀ j, r = some j → i + 1 ≤ j) ∨ (IsP K C H v false ∧ r = some i) := by
          rcases h with ⟨e, h⟩ | ⟨j, y, e, ej, h1, h2⟩
          · exact .inl ⟨h v (List.mem_of_getElem? e2), fun j z => by
              rw [e] at z
              cases z⟩
          · have le := hr0 j e
            rcases Nat.lt_or_ge i j with lt | ge
            · exact .inl ⟨h2 i v lt e2, fun j' z => by
                rw [e] at z
                cases z
                exact lt⟩
            · have ij : i = j := by omega
              subst ij
              rw [ej] at e2
              cases e2
              exact .inr ⟨h1, e⟩
        rcases q with ⟨q, lt⟩ | ⟨q, er⟩
        · obtain ⟨t, ty, et⟩ := (q.same sG).same sT
          exact ⟨_, rfl, _, _, _, _, _, rfl, .own _, ty, et, _, rfl, ⟨_, _, rfl⟩, sG.trans sT, lt⟩
        · obtain ⟨t, ty, et⟩ := (q.same sG).same sT
          exact ⟨_, rfl, _, _, _, _, _, rfl, .own _, ty, et, _, rfl, _, rfl, (by show 1 ≤ 1000; decide), fun a ha => raised_at Y.oex Y.no ha fun G2 d s2 n e => k2 i er G2 d ((sG.trans sT).trans s2) ((sG.trans sT).free n) e⟩
      · rintro σ G ⟨_, sG, hr0⟩
        rcases h with ⟨rfl, _⟩ | ⟨j, y, rfl, e2, _⟩
        · exact k1 rfl G sG
        · have := hr0 j rfl
          have := (List.getElem?_eq_some_iff.mp e2).1
          omega
end
/-- what the class Program says of itself -/
structure ProgC (K : PySem.W.Frag) (CP : Addr) : Prop where
  cl : Cls K CP
  pieces : NoAttr K CP "pieces"
def spProgI (K : PySem.W.Frag) (C D CP : Addr) : Sp := fun vs H Q E => ∃ (p dx : Addr) (x : V) (r : Option Nat), vs = [.ref p, x] ∧ H p = some (.ins CP dx []) ∧ Verdict K C H x r ∧
  (r = none → ∀ H' t, Kept p H H' → H' p = some (.ins CP dx (putF "pieces" (.ref t) [])) → Q .non H') ∧ ∀ i, r = some i → Raised D H i E
abbrev sProgI : Stmt := inClass (top 33) 0
section
variable {P : Program} {w : World} {K : PySem.W.Frag} {mg : Str → Option Value} {base : Heap}
theorem scProgI : FnScope ["self", "pieces"] ["self", "pieces"] (defScope sProgI) := ⟨rfl, rfl, rfl, by decide +kernel, rfl, by decide +kernel, by decide +kernel⟩
theorem ok_progI {f fC C D CP : Addr} {fd fdC : FuncData} {dvs : List V} (F : FunD K "__init__" "Program.__init__" (defArgs sProgI) (defBody sProgI) (defScope sProgI) dvs [] f fd) (T : TxtK mg) (Z : ProgC K CP)
    (GC : FnOk P w K mg base (L2.CX P w) 3 fC fdC ["value"] (spCheck K C D)) (gC : mg "check_pieces" = some (.ref fC)) (kC : PySem.W.keepIn K (.ref fC) = true) (bC : Binds K fdC ["value"] []) : FnOk P w K mg base (L2.CX P w) 4 f fd ["self", "pieces"] (spProgI K C D CP) := by
  refine F.ok scProgI (fun vs H Q E h => ?_) (fun cdv A outer s H vs Q E hr h => ?_)
  · obtain ⟨p, dx, x, r, rfl, _⟩ := h
    rfl
  · obtain ⟨p, dx, x, r, rfl, hp, h, k1, k2⟩ := h
    refine ⟨_, (pss_cons (ps_expr (pe_call (E := E) GC hr (by rfl) gC kC bC .nil (passes_call (takes_of rfl rfl rfl rfl) fun _ _ _ _ h => h) (pa_cons (pv 1) pa_nil)))
      (pss_one (ps_fld (pv 0) (pe_callTy call_tuple_of (by rfl) T.tuple (by decide +kernel) (pa_cons (pv 1) pa_nil)) rfl))), ?_⟩
    refine ⟨_, rfl, x, r, rfl, h, fun er H1 s1 => ?_, fun i er => ?_⟩
    · rcases h with ⟨_, z⟩ | ⟨a, xs, rfl, hx, hl, h⟩
      · rw [er] at z
        cases z
      have nap : a ≠ p := by
        rcases hx with hx | hx
        · exact ne_of hx hp (fun z => nomatch z)
        · exact ne_of hx hp (fun z => nomatch z)
      rcases hx with hx | hx
      · refine ⟨_, rfl, a, _, rfl, .inl ⟨SqL.of (s1 _ _ hx), fun l hl => ⟨_, rfl, p, CP, dx, _, rfl, Same.new hl _ _ (s1 _ _ hp), Z.cl, Z.pieces, few_1000 (Nat.zero_le 0) (by decide), k1 er _ l (((Kept.of_same s1).trans (Kept.new hl)).trans Kept.box) upd_same⟩⟩⟩
      · refine ⟨_, rfl, a, _, rfl, .inr ⟨SqT.of (s1 _ _ hx), _, rfl, p, CP, dx, _, rfl, s1 _ _ hp, Z.cl, Z.pieces, few_1000 (Nat.zero_le 0) (by decide), k1 er _ a ((Kept.of_same s1).trans Kept.box) upd_same⟩⟩
    · exact k2 i er
end
end Lay
set_option Elab.async false
set_option linter.all false
set_option maxRecDepth 100000
set_option maxHeartbeats 4000000
namespace Lay
open PySem PySem.Spec PyProof.Rows L2
/-! C(e, ..) where what is let out depends on the slots; isinstance of an exception that the suite holds, with a dict. -/
section
variable {X : Cx} {CX : CXT} {k : Nat} {f C : Addr} {fd : FuncData} {ps : List Str} {sp : Sp} {E : L2.St → XK} {x m : Str} {p pos : Pos} {e : Expr} {es : List Expr} {t : TA} {ds : List Value} {dvs : List V}
theorem run_makeS {pins : List (Addr × Obj)} {σ : L2.St} {H : Hp} {s : Shared} {Q : VK} {us : List Value} {vs : List V} (M : Mk X.K C f) (F : FnOk X.prog X.w X.K X.mg X.base CX k f fd ps sp) (hr : Room (k + 1) X.A) (hb : Binds X.K fd ps ds) (hd : Vals dvs ds)
    (hx : PassesAt CX X σ (E σ)) (I : Inv X pins σ H s) (r : Vals vs us)
    (h : ∀ x dx, H x = none → H dx = none → dx ≠ x → sp (.ref x :: (vs ++ dvs)) (upd (upd H dx (.own x)) x (.ins C dx [])) (fun v H2 => v = .non ∧ Q (.ref x) H2) (E σ)) :
    wpAny (model X.prog X.w) X.A (call (.ref C) us) (EP X pins σ Q) X.xe s := by
  have hq := h (s.heap.objs.size + 1) s.heap.objs.size (I.hok.fresh (Nat.le_succ _)) (I.hok.fresh (Nat.le_refl _)) (Nat.ne_of_lt (Nat.lt_succ_self _))
  have I2 := Inv.made (C := C) I
  have r2 : Vals (V.ref (s.heap.objs.size + 1) :: (vs ++ dvs)) (Value.ref (s.heap.objs.size + 1) :: (us ++ ds)) := .cons rfl (r.append hd)
  have hl : (Value.ref (s.heap.objs.size + 1) :: us ++ ds).length = ps.length := by
    have e := r2.length
    rw [F.len _ _ _ _ hq] at e
    exact e.symm
  refine wpAny_call (make_map (f := f) I.kIn M.makes M.init (beq_iff_eq.mp M.fn) (codeAny_mono (F.run _ X.stack _ _ ⟨Value.ref (s.heap.objs.size + 1) :: us, []⟩ (Value.ref (s.heap.objs.size + 1) :: (us ++ ds)) _ _ (E σ) (hr.make C us [])
    (I2.env0.make C us []) (hb _ (Value.ref (s.heap.objs.size + 1) :: us) I2.kIn hl) r2 hq) fun r s' hq' => ?_))
  cases r with
  | error e => exact hx pins _ _ e s' I2 hq'
  | ok fl =>
    cases fl with
    | ret u =>
      obtain ⟨v, H', I3, rv, ev, q3⟩ := I2.after hq'
      subst ev
      exact ⟨rv, ⟨V.ref (s.heap.objs.size + 1), H', I3, rfl, q3⟩⟩
    | next => exact False.elim hq'
    | brk => exact False.elim hq'
    | cont => exact False.elim hq'
def tMakeS (C : Addr) (sp : Sp) (dvs : List V) (E : L2.St → XK) (t : TA) : TE := fun σ H Q => t σ H fun vs H1 => ∀ x dx, H1 x = none → H1 dx = none → dx ≠ x → sp (.ref x :: (vs ++ dvs)) (upd (upd H1 dx (.own x)) x (.ins C dx [])) (fun v H2 => v = .non ∧ Q (.ref x) H2) (E σ)
theorem pe_makeS (M : Mk X.K C f) (F : FnOk X.prog X.w X.K X.mg X.base CX k f fd ps sp) (hr : Room (k + 1) X.A) (hg : Gl X x) (hm : X.mg x = some (.ref C)) (hb : Binds X.K fd ps ds) (hd : Vals dvs ds) (hx : ∀ σ, PassesAt CX X σ (E σ))
    (ha : PA X (e :: es) t) (hdb : (x == ("__debug__" : Str)) = false := by decide) (he : starEach (e :: es) X.env = (false, eval e X.env) :: starEach es X.env := by rfl) (hpl : (backTo pos (starEach es X.env)).any (·.1) = false := by rfl) :
    PE X (.Call (.Name x p) (e :: es) [] pos) (tMakeS C sp dvs E t) := by
  refine ⟨fun pins s σ H Q I h => ?_⟩
  refine wpAny_Call_Name_kw (ld_glob I hg hm ?_ hdb)
  refine PySem.W.callWith_K (h₀ := X.base) I.ok.mod.kin M.kp (thn (ha.run pos pins s σ H _ I h) fun us s1 ⟨vs, H1, I1, r, q⟩ => ⟨I1.kIn, ?_⟩) he hpl
  exact run_makeS M F hr hb hd (hx σ) I1 r q
/-- isinstance(e, c), e the exception that the suite holds, a dict with it -/
def rIsEX (K : PySem.W.Frag) (a : Addr) (cls : Value) (d : Option Addr) : List V → Hp → VK → Prop := fun xs H Q => ∃ (D dd : Addr) (fs : List (Str × V)) (c : V) (cv : Value) (b : Bool), xs = [.ref a, c] ∧ cls = .ref D ∧ d = some dd ∧ H dd = some (.xd fs) ∧ ExcC K D ∧ ClsV c cv ∧
  PySem.W.kitOne K (.ref D) cv = some b ∧ Q (.bl b) H
theorem call_isEX {a : Addr} {cls : Value} {d : Option Addr} {oe : Obj} {pn : List (Addr × Obj)} (hz : Zc cls d oe) (hf : ∃ vs, oe.data = .fields vs) : CallR (X.suite a ((a, oe) :: pn)) (.builtin "isinstance") (rIsEX X.K a cls d) := by
  intro pins s σ H xs us Q I r h
  obtain ⟨D, dd, fs, c, cv, b, rfl, ec, ed, hdd, C, k, e, q⟩ := h
  obtain ⟨u1, u2, rfl, r1, r2⟩ := vals2 r
  cases r1
  have e2 := k.eq r2
  subst e2 ec ed
  have hcl : (PySem.W.clsIn X.K D).isSome = true := by
    obtain ⟨cd, hc, _⟩ := PySem.W.any_some C.hd
    rw [hc]
    rfl
  obtain ⟨hget, _⟩ := I.pin (a, oe) (List.mem_append_left _ List.mem_cons_self)
  obtain ⟨vs, hv⟩ := hf
  have hx : ObjOk X.prog X.w H s.heap dd (.xd fs) := I.hok dd _ hdd
  obtain ⟨mA, hns, hrel⟩ := hx
  obtain ⟨od, ho, hl⟩ := lookIn_ns hns
  have J : PySem.W.InstAt s.heap a oe D (some od) := ⟨hget, hz.1, by unfold PySem.W.notCls; rw [hv] <;> rfl, by rw [hz.2]; exact ho⟩
  exact PySem.W.kia_one (PySem.W.kitx_exc hcl C.hg C.hk C.hs C.ha C.hn C.ht C.hm) I.kIn J e (fun z => nomatch z) fun tk => ⟨.bl b, H, I.kept (t' := tk) fun _ _ z => z, rfl, q⟩
end
/-- what the law hears: what Program said, or nothing -/
def heardV : Option Nat → V
  | none => .non
  | some i => .int i
def spHeard (K : PySem.W.Frag) (C : Addr) : Sp := fun vs H Q _ => ∃ x r, vs = [x] ∧ Verdict K C H x r ∧ ∀ H', Same H H' → Q (heardV r) H'
abbrev sHeard : Stmt := top 38
/-- the class D is no InvalidPiece, and a LayError -/
structure Kin (K : PySem.W.Frag) (mg : Str → Option Value) (D L DP : Addr) : Prop where
  gL : mg "LayError" = some (.ref L)
  gDP : mg "InvalidPiece" = some (.ref DP)
  kL : PySem.W.kitOne K (.ref D) (.ref L) = some true
  kP : PySem.W.kitOne K (.ref D) (.ref DP) = some false
  ex : PySem.W.exmOne K (.ref D) (.ref D) = some true
section
variable {P : Program} {w : World} {K : PySem.W.Frag} {mg : Str → Option Value} {base : Heap}
theorem scHeard : FnScope ["_law_some", "_law_found", "e"] ["_law_some"] (defScope sHeard) := ⟨rfl, rfl, rfl, by decide +kernel, rfl, by decide +kernel, by decide +kernel⟩
theorem ok_heard {f fP fI C D CP L DP : Addr} {fd fdP : FuncData} (F : Fun K "_law_heard" "_law_heard" sHeard f fd) (T : TxtK mg) (Y : XC K mg D fI "InvalidProgram" "at") (N : Kin K mg D L DP) (M : Mk K CP fP)
    (GP : FnOk P w K mg base (L2.CX P w) 4 fP fdP ["self", "pieces"] (spProgI K C D CP)) (gP : mg "Program" = some (.ref CP)) (bP : Binds K fdP ["self", "pieces"] []) : FnOk P w K mg base CX0 6 f fd ["_law_some"] (spHeard K C) := by
  refine F.ok scHeard (fun vs H Q E h => ?_) (fun cdv A outer s H vs Q E hr h => ?_)
  · obtain ⟨x, r, rfl, _⟩ := h
    rfl
  · obtain ⟨x, r, rfl, h, k⟩ := h
    refine ⟨_, (pss_cons (ps_set (i := 1) scHeard.nd rfl (.inl rfl) pe_non)
      (pss_cons (ps_try_as (i := 2) rfl rfl scHeard.nd rfl (by rfl) ⟨by rfl, by decide, .inl Y.gC⟩ takes0
        (fun W pn xe tk hp => pss_one (ps_expr (pe_makeS (E := WE W) M GP hr (by rfl) gP bP .nil (fun σ => passAt tk σ) (pa_cons (pv 0) pa_nil))))
        (fun a oe cls d pn hz hf => pss_one (ps_set (i := 1) scHeard.nd rfl (.inl rfl) (pe_ifExp (PW.pt (pw_and (pt_val (pe_callB (call_isEX hz hf) (by rfl) T.isinstance (by decide +kernel) (pa_cons (pv 2) (pa_cons (pe_glob (v := .ref L) (by rfl) N.gL rfl) pa_nil))))
          (pw_and1 (pt_not (pt_val (pe_callB (call_isEX hz hf) (by rfl) T.isinstance (by decide +kernel) (pa_cons (pv 2) (pa_cons (pe_glob (v := .ref DP) (by rfl) N.gDP rfl) pa_nil))))))))
          (pe_xf Y.xf Y.no hz hf (pv 2)) pe_str))))
      (pss_one (ps_ret (pv 1))))), ?_⟩
    refine ⟨_, rfl, fun p dx hp hd ne => ?_⟩
    have hp2 : upd H dx (.own p) p = none := by
      rw [upd_ne (Ne.symm ne)]
      exact hp
    have s1 : Same H (upd (upd H dx (.own p)) p (.ins CP dx [])) := (Same.new hd).trans (Same.new hp2)
    refine ⟨p, dx, x, r, rfl, upd_same, h.same s1, fun er H' t kp hp' => ⟨rfl, ?_⟩, fun i er G d s2 n e => ⟨true, N.ex, fun _ a ha => ?_, fun z => nomatch z⟩⟩
    · subst er
      exact ⟨_, rfl, k H' fun b o eb => kp b o (ne_of_none eb hp) (s1 _ _ eb)⟩
    · subst er
      refine ⟨_, rfl, D, d, _, _, _, _, rfl, rfl, rfl, e, Y.isC, .own _, N.kL, _, rfl, ?_⟩
      refine ⟨_, rfl, D, d, _, _, _, _, rfl, rfl, rfl, e, Y.isC, .own _, N.kP, _, rfl, ?_⟩
      exact ⟨_, rfl, rfl, rfl, d, _, _, rfl, e, rfl, _, rfl, k G (s1.trans s2)⟩
end
end Lay
set_option Elab.async false
set_option linter.all false
set_option maxRecDepth 100000
set_option maxHeartbeats 4000000
namespace Lay
open PySem L2
/-! ### what the law keeps in hand -/
theorem BoxAt.not {b a : Addr} {H : Hp} {o : HO} (x : BoxAt H b) (h : H a = some o) (n : ¬ Boxy o) : a ≠ b := fun z => by
  obtain ⟨u, e, y⟩ := x
  rw [z, e] at h
  cases h
  exact n y
theorem not_boxy_ins {C dx : Addr} {fs : List (Str × V)} : ¬ Boxy (.ins C dx fs) := fun ⟨_, _, _, z⟩ => nomatch z
theorem not_boxy_tup {xs : List V} : ¬ Boxy (.tup xs) := fun ⟨_, _, _, z⟩ => nomatch z
theorem not_boxy_two {x y : V} : ¬ Boxy (.lst [x, y]) := fun ⟨_, _, _, z⟩ => nomatch z
/-- what isinstance asks of a class -/
structure ClsI (K : PySem.W.Frag) (C : Addr) : Prop where
  cl : Cls K C
  ty : PySem.W.typeIn K (.ref C) = some (.type "type")
  ha : PySem.W.findIn K (.ref C) "__class__" = some (some (.builtin "object.__class__"))
  hn : PySem.W.specialIn K (.builtin "object.__class__") "__get__" = some (some (.builtin "getset_descriptor.__get__"))
  htk : PySem.W.takesIn K (.builtin "object.__class__") = some true
  hm : PySem.W.mroIn K C (.type "object") = some true
  nl : PySem.W.subIn K (.ref C) (.type "list") = some false
  nt : PySem.W.subIn K (.ref C) (.type "tuple") = some false
theorem kit_cls {K : PySem.W.Frag} {C : Addr} {t : Value} {b : Bool} (hd : PySem.W.hasDictIn K C = true) (ty : PySem.W.typeIn K (.ref C) = some (.type "type")) (s : PySem.W.subIn K t (.ref C) = some b) (e : t = .ref C → b = true) : PySem.W.kitOne K t (.ref C) = some b := by
  unfold PySem.W.kitOne
  by_cases h : (t == Value.ref C) = true
  · rw [if_pos h, e (beq_iff_eq.mp h)]
  · rw [if_neg h]
    obtain ⟨cd, hc, _⟩ := PySem.W.any_some hd
    unfold PySem.W.kitCls
    dsimp only
    rw [if_pos (by rw [hc, ty]; rfl)]
    exact s
theorem kit_type {K : PySem.W.Frag} {C : Addr} {n : String} {b : Bool} (hm : PySem.W.kitMeta n = true) (s : PySem.W.subIn K (.ref C) (.type n) = some b) : PySem.W.kitOne K (.ref C) (.type n) = some b := by
  unfold PySem.W.kitOne
  rw [if_neg (fun h => by have q := beq_iff_eq.mp h; cases q)]
  unfold PySem.W.kitCls
  dsimp only
  rw [if_pos hm]
  exact s
theorem ClsI.at {K : PySem.W.Frag} {C a dx : Addr} {H : Hp} {fs : List (Str × V)} (c : ClsI K C) (h : H a = some (.ins C dx fs)) : TyX K H (.ref a) (.ref C) := .base (.ins h c.cl c.ha c.hn c.htk c.hm)
theorem ClsI.noSeq {K : PySem.W.Frag} {C a dx : Addr} {H : Hp} {fs : List (Str × V)} (c : ClsI K C) (h : H a = some (.ins C dx fs)) : IsSeq K H (.ref a) false :=
  ⟨_, c.at h, kitAny_lt (b := false) (c := false) (kit_type (by decide +kernel) c.nl) (kit_type (by decide +kernel) c.nt)⟩
theorem ClsI.yes {K : PySem.W.Frag} {C a dx : Addr} {H : Hp} {fs : List (Str × V)} (c : ClsI K C) (h : H a = some (.ins C dx fs)) : IsP K C H (.ref a) true := ⟨_, c.at h, by unfold PySem.W.kitOne; rw [if_pos (by simp)]⟩
/-- the built-in types are no Piece -/
theorem no_piece {K : PySem.W.Frag} {C : Addr} {n : String} (c : ClsI K C) (h : (PySem.fastBuiltinMro n).map (·.contains (Value.ref C)) = some false) : PySem.W.kitOne K (.type n) (.ref C) = some false := kit_cls c.cl.hd c.ty h (fun z => nomatch z)
theorem np_none {C : Addr} : (PySem.fastBuiltinMro "NoneType").map (·.contains (Value.ref C)) = some false := by
  have e : PySem.fastBuiltinMro "NoneType" = some [.type "NoneType", .type "object"] := by decide +kernel
  rw [e]
  rfl
theorem np_int {C : Addr} : (PySem.fastBuiltinMro "int").map (·.contains (Value.ref C)) = some false := by
  have e : PySem.fastBuiltinMro "int" = some [.type "int", .type "object"] := by decide +kernel
  rw [e]
  rfl
theorem np_bool {C : Addr} : (PySem.fastBuiltinMro "bool").map (·.contains (Value.ref C)) = some false := by
  have e : PySem.fastBuiltinMro "bool" = some [.type "bool", .type "int", .type "object"] := by decide +kernel
  rw [e]
  rfl
theorem np_str {C : Addr} : (PySem.fastBuiltinMro "str").map (·.contains (Value.ref C)) = some false := by
  have e : PySem.fastBuiltinMro "str" = some [.type "str", .type "object"] := by decide +kernel
  rw [e]
  rfl
theorem np_list {C : Addr} : (PySem.fastBuiltinMro "list").map (·.contains (Value.ref C)) = some false := by
  have e : PySem.fastBuiltinMro "list" = some [.type "list", .type "object"] := by decide +kernel
  rw [e]
  rfl
theorem np_tuple {C : Addr} : (PySem.fastBuiltinMro "tuple").map (·.contains (Value.ref C)) = some false := by
  have e : PySem.fastBuiltinMro "tuple" = some [.type "tuple", .type "object"] := by decide +kernel
  rw [e]
  rfl
/-- a value that is no piece, stable beside b -/
def OddV (CP b : Addr) (G : Hp) (v : V) : Prop := (v = .non ∨ (∃ i, v = .int i) ∨ (∃ z, v = .str z) ∨ ∃ z, v = .bl z) ∨ ∃ a, v = .ref a ∧ a ≠ b ∧ ((∃ xs, G a = some (.lst xs)) ∨ (∃ xs, G a = some (.tup xs)) ∨ ∃ dx fs, G a = some (.ins CP dx fs))
theorem OddV.kept {CP b : Addr} {G G' : Hp} {v : V} (k : Kept b G G') (h : OddV CP b G v) : OddV CP b G' v := by
  rcases h with h | ⟨a, rfl, n, h⟩
  · exact .inl h
  · refine .inr ⟨a, rfl, n, ?_⟩
    rcases h with ⟨xs, h⟩ | ⟨xs, h⟩ | ⟨dx, fs, h⟩
    · exact .inl ⟨xs, k _ _ n h⟩
    · exact .inr (.inl ⟨xs, k _ _ n h⟩)
    · exact .inr (.inr ⟨dx, fs, k _ _ n h⟩)
theorem OddV.no {K : PySem.W.Frag} {C CP b : Addr} {G : Hp} {v : V} (c : ClsI K C) (d : ClsI K CP) (n : PySem.W.subIn K (.ref CP) (.ref C) = some false) (ne : CP ≠ C) (h : OddV CP b G v) : IsP K C G v false := by
  rcases h with (rfl | ⟨i, rfl⟩ | ⟨z, rfl⟩ | ⟨z, rfl⟩) | ⟨a, rfl, _, ⟨xs, h⟩ | ⟨xs, h⟩ | ⟨dx, fs, h⟩⟩
  · exact ⟨_, .base .non, no_piece c np_none⟩
  · exact ⟨_, .base (.int i), no_piece c np_int⟩
  · exact ⟨_, .base (.str z), no_piece c np_str⟩
  · exact ⟨_, .base (.bl z), no_piece c np_bool⟩
  · exact ⟨_, .base (.lst h), no_piece c np_list⟩
  · exact ⟨_, .base (.tup h), no_piece c np_tuple⟩
  · exact ⟨_, d.at h, kit_cls c.cl.hd c.ty n fun z => absurd (Value.ref.inj z) ne⟩
/-- a value that is no sequence, stable beside b -/
def NsV (C CP b : Addr) (G : Hp) (v : V) : Prop := (v = .non ∨ (∃ i, v = .int i) ∨ (∃ z, v = .str z) ∨ ∃ z, v = .bl z) ∨ ∃ a D dx fs, v = .ref a ∧ a ≠ b ∧ G a = some (.ins D dx fs) ∧ (D = C ∨ D = CP)
theorem NsV.kept {C CP b : Addr} {G G' : Hp} {v : V} (k : Kept b G G') (h : NsV C CP b G v) : NsV C CP b G' v := by
  rcases h with h | ⟨a, D, dx, fs, rfl, n, h, z⟩
  · exact .inl h
  · exact .inr ⟨a, D, dx, fs, rfl, n, k _ _ n h, z⟩
theorem NsV.no {K : PySem.W.Frag} {C CP b : Addr} {G : Hp} {v : V} (c : ClsI K C) (d : ClsI K CP) (h : NsV C CP b G v) : IsSeq K G v false := by
  rcases h with (rfl | ⟨i, rfl⟩ | ⟨z, rfl⟩ | ⟨z, rfl⟩) | ⟨a, D, dx, fs, rfl, _, h, rfl | rfl⟩
  · exact ⟨_, .base .non, kitAny_lt (b := false) (c := false) (kit_ty (by decide +kernel)) (kit_ty (by decide +kernel))⟩
  · exact ⟨_, .base (.int i), kitAny_lt (b := false) (c := false) (kit_ty (by decide +kernel)) (kit_ty (by decide +kernel))⟩
  · exact ⟨_, .base (.str z), kitAny_lt (b := false) (c := false) (kit_ty (by decide +kernel)) (kit_ty (by decide +kernel))⟩
  · exact ⟨_, .base (.bl z), kitAny_lt (b := false) (c := false) (kit_ty (by decide +kernel)) (kit_ty (by decide +kernel))⟩
  · exact c.noSeq h
  · exact d.noSeq h
/-- the two pieces and their list -/
structure Good (C g p1 p2 : Addr) (G : Hp) : Prop where
  g : G g = some (.lst [.ref p1, .ref p2])
  p1 : ∃ dx fs, G p1 = some (.ins C dx fs)
  p2 : ∃ dx fs, G p2 = some (.ins C dx fs)
theorem Good.same {C g p1 p2 : Addr} {G G' : Hp} (s : Same G G') (h : Good C g p1 p2 G) : Good C g p1 p2 G' := by
  obtain ⟨h1, ⟨d1, f1, h2⟩, ⟨d2, f2, h3⟩⟩ := h
  exact ⟨s _ _ h1, ⟨d1, f1, s _ _ h2⟩, ⟨d2, f2, s _ _ h3⟩⟩
theorem Good.ne {C g p1 p2 b : Addr} {G : Hp} (h : Good C g p1 p2 G) (x : BoxAt G b) : g ≠ b ∧ p1 ≠ b ∧ p2 ≠ b := by
  obtain ⟨h1, ⟨d1, f1, h2⟩, ⟨d2, f2, h3⟩⟩ := h
  exact ⟨x.not h1 not_boxy_two, x.not h2 not_boxy_ins, x.not h3 not_boxy_ins⟩
theorem Good.kept {C g p1 p2 b : Addr} {G G' : Hp} (x : BoxAt G b) (k : Kept b G G') (h : Good C g p1 p2 G) : Good C g p1 p2 G' := by
  obtain ⟨n1, n2, n3⟩ := h.ne x
  obtain ⟨h1, ⟨d1, f1, h2⟩, ⟨d2, f2, h3⟩⟩ := h
  exact ⟨k _ _ n1 h1, ⟨d1, f1, k _ _ n2 h2⟩, ⟨d2, f2, k _ _ n3 h3⟩⟩
/-- all that stands in a turn: the good ones and the box -/
def In (C g p1 p2 b : Addr) (G : Hp) : Prop := Good C g p1 p2 G ∧ BoxAt G b
theorem In.box {C g p1 p2 b : Addr} {G : Hp} {o : HO} (h : In C g p1 p2 b G) (y : Boxy o) : In C g p1 p2 b (upd G b o) := ⟨h.1.kept h.2 Kept.box, BoxAt.box y⟩
theorem BoxAt.same {b : Addr} {G G' : Hp} (s : Same G G') (h : BoxAt G b) : BoxAt G' b := by
  obtain ⟨o, e, y⟩ := h
  exact ⟨o, s _ _ e, y⟩
theorem In.same {C g p1 p2 b : Addr} {G G' : Hp} (s : Same G G') (h : In C g p1 p2 b G) : In C g p1 p2 b G' := ⟨h.1.same s, h.2.same s⟩
/-- pieces alone -/
def Pcs (p1 p2 : Addr) (xs : List V) : Prop := ∀ x ∈ xs, x = .ref p1 ∨ x = .ref p2
theorem Good.pcs {K : PySem.W.Frag} {C g p1 p2 : Addr} {G : Hp} {xs : List V} (c : ClsI K C) (h : Good C g p1 p2 G) (p : Pcs p1 p2 xs) : ∀ y ∈ xs, IsP K C G y true := fun y hy => by
  obtain ⟨_, ⟨d1, f1, h2⟩, ⟨d2, f2, h3⟩⟩ := h
  rcases p y hy with rfl | rfl
  · exact c.yes h2
  · exact c.yes h3
/-- a sequence of pieces is let -/
theorem Good.fine {K : PySem.W.Frag} {C g p1 p2 a : Addr} {G : Hp} {xs : List V} (c : ClsI K C) (h : Good C g p1 p2 G) (p : Pcs p1 p2 xs) (q : SqX K G a xs) (l : xs.length ≤ 1000) : Verdict K C G (.ref a) none :=
  .inr ⟨a, xs, rfl, q, l, .inl ⟨rfl, h.pcs c p⟩⟩
/-- one with something else behind pieces alone is not -/
theorem Good.wrong {K : PySem.W.Frag} {C g p1 p2 a : Addr} {G : Hp} {xs ys : List V} {y : V} {n : Nat} (c : ClsI K C) (h : Good C g p1 p2 G) (p : Pcs p1 p2 xs) (q : SqX K G a (xs ++ y :: ys)) (l : (xs ++ y :: ys).length ≤ 1000) (hy : IsP K C G y false) (hn : xs.length = n) :
    Verdict K C G (.ref a) (some n) := by
  subst hn
  refine .inr ⟨a, _, rfl, q, l, .inr ⟨xs.length, y, rfl, ?_, hy, fun j z hj hz => h.pcs c p z ?_⟩⟩
  · rw [List.getElem?_append_right (Nat.le_refl _), Nat.sub_self]
    rfl
  · rw [List.getElem?_append_left hj] at hz
    exact List.mem_of_getElem? hz
end Lay
set_option Elab.async false
set_option linter.all false
set_option maxRecDepth 100000
set_option maxHeartbeats 8000000
namespace Lay
open PySem L2
abbrev sLaw : Stmt := top 39
def lawN : List Str := ["_law_script", "_law_good", "_law_k", "_law_box_here", "_law_turn", "_law_more", "_law_some", "_law_at", "_law_odd", "_law_wrong", "_law_deep", "_law_value"]
def pdA : PD := ⟨"a", ["b"], false, false, "", "", 0, false⟩
def pdC : PD := ⟨"c", ["d", "e"], true, false, "x", "", 0, false⟩
theorem pdA_ok : pdA.Ok := ⟨by decide +kernel, by decide, by decide, by decide +kernel, by decide +kernel, by decide +kernel, by decide, by decide⟩
theorem pdC_ok : pdC.Ok := ⟨by decide +kernel, by decide, by decide, by decide +kernel, by decide +kernel, by decide +kernel, by decide, by decide⟩
abbrev psPiece : List Str := ["self", "word", "parts", "broken", "marked", "ahead", "behind", "blanks", "left"]
def dPiece : List V := [.bl false, .bl false, .str "", .str "", .int 0, .bl false]
def dPiece3 : List V := [.str "", .int 0, .bl false]
/-- what the law wants -/
structure TxtL (P : Program) (w : World) (K : PySem.W.Frag) (mg : Str → Option Value) (base : Heap) (C CP DI fPI fGI fB fT fK fH : Addr) (dPI dGI dB dT dK dH : FuncData) : Prop where
  range : mg "range" = none
  max : mg "max" = none
  min : mg "min" = none
  len : mg "len" = none
  tuple : mg "tuple" = none
  list : mg "list" = none
  repr : mg "repr" = none
  cC : ClsI K C
  cP : ClsI K CP
  sub : PySem.W.subIn K (.ref CP) (.ref C) = some false
  ne : CP ≠ C
  mkC : Mk K C fPI
  okPI : FnOk P w K mg base CX0 3 fPI dPI psPiece (spPieceI C K)
  gC : mg "Piece" = some (.ref C)
  b1 : ∃ ds, Vals dPiece ds ∧ Binds K dPI psPiece ds
  b2 : ∃ ds, Vals dPiece3 ds ∧ Binds K dPI psPiece ds
  mkP : Mk K CP fGI

  okGI : FnOk P w K mg base (L2.CX P w) 4 fGI dGI ["self", "pieces"] (spProgI K C DI CP)
  gP : mg "Program" = some (.ref CP)
  bP : Binds K dGI ["self", "pieces"] []
  ok_box : FnOk P w K mg base CX0 1 fB dB ["_law_script", "_law_k", "_law_own"] (spBox K)
  g_box : mg "_law_box" = some (.ref fB)
  k_box : PySem.W.keepIn K (.ref fB) = true
  b_box : Binds K dB ["_law_script", "_law_k", "_law_own"] []
  ok_take : FnOk P w K mg base CX0 1 fT dT ["_law_box_here", "_law_many"] spTake
  g_take : mg "_law_take" = some (.ref fT)
  k_take : PySem.W.keepIn K (.ref fT) = true
  b_take : Binds K dT ["_law_box_here", "_law_many"] []
  ok_pick : FnOk P w K mg base CX0 2 fK dK ["_law_box_here", "_law_items"] (spPick K)
  g_pick : mg "_law_pick" = some (.ref fK)
  k_pick : PySem.W.keepIn K (.ref fK) = true
  b_pick : Binds K dK ["_law_box_here", "_law_items"] []
  ok_heard : FnOk P w K mg base CX0 6 fH dH ["_law_some"] (spHeard K C)
  g_heard : mg "_law_heard" = some (.ref fH)
  k_heard : PySem.W.keepIn K (.ref fH) = true
  b_heard : Binds K dH ["_law_some"] []
theorem fits {n : Nat} (h : n ≤ 1000) : n ≤ sizeLine := by
  rw [sizeLine_eq]
  omega
theorem made_same {x dx : Addr} {H H' : Hp} {o : HO} (hx : H x = none) (hd : H dx = none) (k : Kept x (upd (upd H dx (.own x)) x o) H') : Same H H' := fun b u e => k b u (ne_of_none e hx) (by rw [upd_ne (ne_of_none e hx), upd_ne (ne_of_none e hd)]; exact e)
theorem same_put {H H1 : Hp} {p : Addr} {o : HO} (s : Same H H1) (n : H p = none) : Same H (upd H1 p o) := fun b u e => by
  rw [upd_ne (ne_of_none e n)]
  exact s _ _ e
theorem iteN {c : Bool} {A B : Prop} (h : c = false) (x : B) : if c = true then A else B := by
  rw [if_neg (by rw [h]; exact Bool.false_ne_true)]
  exact x
theorem cut_hi {xs : List V} {i : Int} (h0 : 0 ≤ i) (h1 : i ≤ xs.length) : cutV xs none (some i) = xs.take i.toNat := by
  obtain ⟨n, rfl⟩ := Int.eq_ofNat_of_zero_le h0
  unfold cutV
  rw [HT.sIx_none, HT.sIx_nat]
  simp only [List.drop_zero, Nat.sub_zero, Int.toNat_natCast]
  congr 1
  omega
theorem cut_lo {xs : List V} {i : Int} (h0 : 0 ≤ i) (h1 : i ≤ xs.length) : cutV xs (some i) none = xs.drop i.toNat := by
  obtain ⟨n, rfl⟩ := Int.eq_ofNat_of_zero_le h0
  unfold cutV
  rw [HT.sIx_none, HT.sIx_nat]
  have e : min n xs.length = n := by omega
  rw [e, Int.toNat_natCast]
  exact List.take_of_length_le (by rw [List.length_drop]; exact Nat.le_refl _)
def spLaw (K : PySem.W.Frag) : Sp := fun vs H Q _ => ∃ (a : Addr) (ns : List Int), vs = [.ref a] ∧ SqL K H a (ns.map V.int) ∧ ns.length ≤ 63 ∧ ∀ H', Q (.bl true) H'
theorem scLaw : FnScope lawN ["_law_script"] (defScope sLaw) := ⟨rfl, rfl, rfl, by decide +kernel, rfl, by decide +kernel, by decide +kernel⟩
section
variable {P : Program} {w : World} {K : PySem.W.Frag} {mg : Str → Option Value} {base : Heap} {C CP DI fPI fGI fB fT fK fH : Addr} {dPI dGI dB dT dK dH : FuncData}
theorem ok_law {f : Addr} {fx : FuncData} (F : Fun K "law" "law" sLaw f fx) (T : TxtL P w K mg base C CP DI fPI fGI fB fT fK fH dPI dGI dB dT dK dH) : FnOk P w K mg base CX0 7 f fx ["_law_script"] (spLaw K) := by
  refine F.ok scLaw (fun vs H Q E h => ?_) (fun cdv A outer s H vs Q E hr h => ?_)
  · obtain ⟨a, ns, rfl, _⟩ := h
    rfl
  · obtain ⟨a, ns, rfl, hs, hl, k⟩ := h
    have hr1 := hr.mono (show 1 ≤ 6 by decide)
    have hr2 := hr.mono (show 2 ≤ 6 by decide)
    have hr4 := hr.mono (show 4 ≤ 6 by decide)
    have hr5 := hr.mono (show 5 ≤ 6 by decide)
    obtain ⟨ds1, hd1, hb1⟩ := T.b1
    obtain ⟨ds2, hd2, hb2⟩ := T.b2
    refine ⟨_, (pss_cons (ps_set (i := 1) scLaw.nd rfl (.inr rfl) (pe_lst (pa_cons (pe_make T.mkC T.okPI hr4 (by rfl) T.gC hb1 hd1 pass0 (pa_cons pe_str (pa_cons (pe_lst (pa_cons pe_str pa_nil)) pa_nil))) (pa_cons (pe_make T.mkC T.okPI hr4 (by rfl) T.gC hb2 hd2 pass0 (pa_cons pe_str (pa_cons (pe_lst (pa_cons pe_str (pa_cons pe_str pa_nil))) (pa_cons pe_bl (pa_cons pe_bl (pa_cons pe_str pa_nil)))))) pa_nil))))
    (pss_cons (ps_for PassesOwn.never rfl (pi_range1 (by rfl) T.range (pa_cons (pe_callB (call_max2 rfl) (by rfl) T.max (by decide +kernel) (pa_cons pe_int (pa_cons (pe_callB (call_min2 rfl) (by rfl) T.min (by decide +kernel) (pa_cons pe_int (pa_cons (pe_callB call_len_seq (by rfl) T.len (by decide +kernel) (pa_cons (pv 0) pa_nil)) pa_nil))) pa_nil))) pa_nil)) (pg_name (i := 2) scLaw.nd rfl (.inl rfl))
      (pss_cons (ps_set (i := 3) scLaw.nd rfl (.inr rfl) (pe_call T.ok_box hr1 (by rfl) T.g_box T.k_box T.b_box .nil pass0 (pa_cons (pv 0) (pa_cons (pv 2) (pa_cons pe_int pa_nil)))))
      (pss_one (ps_for PassesOwn.never rfl (pi_range1 (by rfl) T.range (pa_cons pe_int pa_nil)) (pg_name (i := 4) scLaw.nd rfl (.inl rfl))
        (C8.pss_cut (ps_setLc (i := 6) (own := [("_law_more", 5)]) (g := gName 5) (tt := tYes) rfl scLaw.nd rfl rfl (sw_true rfl rfl rfl (by decide +kernel)) (pi_range1 (by rfl) T.range (pa_cons (pe_call T.ok_take hr1 (by rfl) T.g_take T.k_take T.b_take .nil pass0 (pa_cons (pv 3) (pa_cons pe_int pa_nil))) pa_nil)) (blkOk_by (N := lawN) (sc := defScope sLaw) (by decide +kernel)) (fun _ _ _ _ _ => pg_name (i := 5) scLaw.nd rfl (Or.inl rfl)) (fun _ _ _ _ _ => pts_nil)
            (fun _ _ _ _ _ => (pe_call T.ok_pick hr2 (by rfl) T.g_pick T.k_pick T.b_pick .nil pass0 (pa_cons (pv 3) (pa_cons (pv 1) pa_nil)))))
        (pss_cons (ps_if (PW.pt (pw_or (pt_cmpR op_notN (pe_call T.ok_heard hr (by rfl) T.g_heard T.k_heard T.b_heard .nil pass0 (pa_cons (pv 6) pa_nil)) pe_non (nomark _)) (pw_or1 (pt_cmpR op_notN (pe_call T.ok_heard hr (by rfl) T.g_heard T.k_heard T.b_heard .nil pass0 (pa_cons (pe_callTy call_tuple_of (by rfl) T.tuple (by decide +kernel) (pa_cons (pv 6) pa_nil)) pa_nil)) pe_non (nomark _)))))
          (pss_one (ps_ret pe_bl))
          pss_nil)
        (pss_cons (ps_set (i := 7) scLaw.nd rfl (.inl rfl) (pe_call T.ok_take hr1 (by rfl) T.g_take T.k_take T.b_take .nil pass0 (pa_cons (pv 3) (pa_cons (pe_op op_add (pe_callB call_len_seq (by rfl) T.len (by decide +kernel) (pa_cons (pv 6) pa_nil)) pe_int) pa_nil))))
        (pss_cons (ps_set (i := 8) scLaw.nd rfl (.inl rfl) (pe_call T.ok_pick hr2 (by rfl) T.g_pick T.k_pick T.b_pick .nil pass0 (pa_cons (pv 3) (pa_cons (pe_lst (pa_cons pe_non (pa_cons pe_int (pa_cons pe_str (pa_cons (pe_lst (pa_cons pe_str pa_nil)) (pa_cons (pv 1) (pa_cons (pe_make (E := E0) T.mkP T.okGI hr5 (by rfl) T.gP T.bP .nil passL (pa_cons (pv 1) pa_nil)) (pa_cons pe_bl (pa_cons (pe_tup (pa_cons pe_str pa_nil)) pa_nil))))))))) pa_nil))))
        (pss_cons (ps_set (i := 9) scLaw.nd rfl (.inl rfl) (pe_op op_cat (pe_op op_cat (pe_op op_cat (pe_slice sl_list (pv 6) po_none (po_some (pv 7))) (pe_lst (pa_cons (pv 8) pa_nil))) (pe_slice sl_list (pv 6) (po_some (pv 7)) po_none)) (pe_slice sl_list (pe_lst (pa_cons pe_non pa_nil)) po_none (po_some (pe_call T.ok_take hr1 (by rfl) T.g_take T.k_take T.b_take .nil pass0 (pa_cons (pv 3) (pa_cons pe_int pa_nil)))))))
        (C8.pss_cut (ps_if (PW.pt (pw_or (pt_cmpR op_ne (pe_call T.ok_heard hr (by rfl) T.g_heard T.k_heard T.b_heard .nil pass0 (pa_cons (pv 9) pa_nil)) (pv 7) (nomark _)) (pw_or1 (pt_cmpR op_ne (pe_call T.ok_heard hr (by rfl) T.g_heard T.k_heard T.b_heard .nil pass0 (pa_cons (pe_callTy call_tuple_of (by rfl) T.tuple (by decide +kernel) (pa_cons (pv 9) pa_nil)) pa_nil)) (pv 7) (nomark _)))))
          (pss_one (ps_ret pe_bl))
          pss_nil)
        (pss_cons (ps_set (i := 10) scLaw.nd rfl (.inl rfl) (pe_tup (pa_cons pe_non pa_nil)))
        (pss_cons (ps_for PassesOwn.never rfl (pi_range1 (by rfl) T.range (pa_cons pe_int pa_nil)) (pg_name (i := 5) scLaw.nd rfl (.inl rfl))
          (pss_one (ps_set (i := 10) scLaw.nd rfl (.inl rfl) (pe_tup (pa_cons (pv 10) (pa_cons pe_int pa_nil))))))
        (C8.pss_cut (ps_if (PW.pt (pw_or (pt_cmpR op_ne (pe_call T.ok_heard hr (by rfl) T.g_heard T.k_heard T.b_heard .nil pass0 (pa_cons (pv 10) pa_nil)) pe_int (nomark _)) (pw_or1 (pt_cmpR op_ne (pe_call T.ok_heard hr (by rfl) T.g_heard T.k_heard T.b_heard .nil pass0 (pa_cons (pe_op op_cat (pe_callTy call_list_of (by rfl) T.list (by decide +kernel) (pa_cons (pv 1) pa_nil)) (pe_lst (pa_cons (pv 10) pa_nil))) pa_nil)) pe_int (nomark _)))))
          (pss_one (ps_ret pe_bl))
          pss_nil)
        (pss_cons (ps_set (i := 11) scLaw.nd rfl (.inl rfl) (pe_call T.ok_pick hr2 (by rfl) T.g_pick T.k_pick T.b_pick .nil pass0 (pa_cons (pv 3) (pa_cons (pe_lst (pa_cons pe_non (pa_cons pe_int (pa_cons pe_str (pa_cons pe_int (pa_cons pe_bl (pa_cons (pe_ix ix_list (pv 1) pe_int (fun _ _ => rfl)) (pa_cons (pe_make (E := E0) T.mkP T.okGI hr5 (by rfl) T.gP T.bP .nil passL (pa_cons (pv 1) pa_nil)) (pa_cons pe_str pa_nil))))))))) pa_nil))))
        (pss_one (ps_if (pt_cmpR op_ne (pe_callB SkE.call_repr_int (by rfl) T.repr (by decide +kernel) (pa_cons (pe_call T.ok_heard hr (by rfl) T.g_heard T.k_heard T.b_heard .nil pass0 (pa_cons (pv 11) pa_nil)) pa_nil)) pe_str (nomark _))
          (pss_one (ps_ret pe_bl))
          pss_nil))))))))))))))))
    (pss_one (ps_ret (pe_cmpR op_isN (pe_call T.ok_heard hr (by rfl) T.g_heard T.k_heard T.b_heard .nil pass0 (pa_cons (pe_lst pa_nil) pa_nil)) pe_non (nomark _)))))), ?_⟩
    -- the two pieces
    refine ⟨by decide, fun q0 n0 => ?_⟩
    refine fun p1 d1 np1 nd1 ne1 => ⟨p1, q0, d1, pdA, rfl, pdA_ok, ?_, upd_same, fun G1 t1 kp1 hp1 st1 => ⟨rfl, ?_⟩⟩
    · have e : upd H q0 (.lst [.str "b"]) q0 = some (.lst [.str "b"]) := upd_same
      exact .inl (by rw [upd_ne (ne_of_none e np1), upd_ne (ne_of_none e nd1)]; exact e)
    have s1 : Same H G1 := (Same.new n0).trans (made_same np1 nd1 kp1)
    refine ⟨by decide, fun q1 n1 => ?_⟩
    refine fun p2 d2 np2 nd2 ne2 => ⟨p2, q1, d2, pdC, rfl, pdC_ok, ?_, upd_same, fun G2 t2 kp2 hp2 st2 => ⟨rfl, ?_⟩⟩
    · have e : upd G1 q1 (.lst [.str "d", .str "e"]) q1 = some (.lst [.str "d", .str "e"]) := upd_same
      exact .inl (by rw [upd_ne (ne_of_none e np2), upd_ne (ne_of_none e nd2)]; exact e)
    have s2 : Same G1 G2 := (Same.new n1).trans (made_same np2 nd2 kp2)
    refine ⟨(by show 2 ≤ sizeLine; decide), fun g ng => ?_⟩
    have sg := Same.new ng (o := .lst [.ref p1, .ref p2])
    have good : Good C g p1 p2 (upd G2 g (.lst [.ref p1, .ref p2])) := ⟨upd_same, ⟨_, _, sg _ _ (s2 _ _ hp1)⟩, ⟨_, _, sg _ _ hp2⟩⟩
    have s0 : Same H (upd G2 g (.lst [.ref p1, .ref p2])) := (s1.trans s2).trans sg
    revert good s0
    generalize (upd G2 g (.lst [.ref p1, .ref p2])) = H0
    intro good s0
    -- the turns: one to three
    have hmap : (ns.map V.int).length = ns.length := List.length_map ..
    refine ⟨_, rfl, a, _, rfl, .inl (s0.seq hs), _, _, rfl, _, _, rfl, _, rfl, ?_, ?_, for_range (lo := 0) (n := Int.toNat _) (fun i σ G => ∃ x2 x3 x4 x5 x6 x7 x8 x9 x10 x11 : Option V, σ = [some (.ref a), some (.ref g), x2, x3, x4, x5, x6, x7, x8, x9, x10, x11] ∧ Same H0 G)
      ⟨none, none, none, none, none, none, none, none, none, none, rfl, Same.refl H0⟩ ?_ ?_⟩
    · split <;> split <;> omega
    · split <;> split <;> omega
    · rintro i σ G hi ⟨x2, x3, x4, x5, x6, x7, x8, x9, x10, x11, rfl, sG⟩
      have hi3 : i ≤ 2 := by
        revert hi
        split <;> split <;> omega
      have goodG := good.same sG
      refine ⟨_, rfl, _, rfl, a, ns, 0 + (i : Int), 5, rfl, (s0.trans sG).seq hs, by omega, by omega, by decide, by decide, by omega, fun b G1 sb nb bb => ?_⟩
      refine ⟨8, rfl, by decide, by decide, for_range (lo := 0) (n := 8) (fun i' σ G' => ∃ x4 x5 x6 x7 x8 x9 x10 x11 : Option V, σ = [some (.ref a), some (.ref g), some (.int (0 + (i : Int))), some (.ref b), x4, x5, x6, x7, x8, x9, x10, x11] ∧ Same G G' ∧ BoxAt G' b)
        ⟨x4, x5, x6, x7, x8, x9, x10, x11, rfl, sb, bb⟩ ?_ ?_⟩
      · rintro j σ G2 hj ⟨x4, x5, x6, x7, x8, x9, x10, x11, rfl, s2, bb2⟩
        have good2 := goodG.same s2
        obtain ⟨ngb, npb, npb2⟩ := good2.ne bb2
        -- _law_some
        refine ⟨fun σ' G' => ∃ (D : Addr) (acc : List V) (x4 x5 x7 x8 x9 x10 x11 : Option V), σ' = [some (.ref a), some (.ref g), some (.int (0 + (i : Int))), some (.ref b), x4, x5, some (.ref D), x7, x8, x9, x10, x11] ∧ Same G G' ∧ BoxAt G' b ∧ D ≠ b ∧ G' D = some (.lst acc) ∧ Pcs p1 p2 acc ∧ acc.length ≤ 4, ?_, ?_⟩
        · refine ⟨_, rfl, b, 5, rfl, bb2, by decide, by decide, fun r o r0 r5 yo => ?_⟩
          have sT := same_put s2 nb (o := o)
          have bT : BoxAt (upd G2 b o) b := BoxAt.box yo
          refine ⟨r, rfl, ?_, ?_, fun D nD => lc_range (lo := 0) (n := r.toNat) (fun i H' => ∃ acc : List V, H' D = some (.lst acc) ∧ acc.length = i ∧ BoxAt H' b ∧ Same G H' ∧ Pcs p1 p2 acc) ?_ ?_ ?_⟩
          · omega
          · omega
          · exact ⟨[], upd_same, rfl, bT.new nD, same_put sT (sT.free nD), fun v hv => (List.not_mem_nil hv).elim⟩
          · rintro n H' hn ⟨acc, hD, len, bH, sH, pc⟩
            have Db : D ≠ b := bT.ne nD
            refine ⟨rfl, _, rfl, _, rfl, b, g, _, rfl, bH, ngb, SqL.of (goodG.same sH).g, (by show 0 < 2; decide), (by show 2 ≤ 1000; decide), fun v o' hv yo' => ?_⟩
            refine ⟨acc, by rw [upd_ne Db]; exact hD, by rw [len]; exact small1000 (by omega), acc ++ [v], upd_same, by rw [List.length_append, len]; rfl, ?_, ?_, ?_⟩
            · exact ⟨o', by rw [upd_ne (Ne.symm Db)]; exact upd_same, yo'⟩
            · exact same_put (same_put sH nb) (sT.free nD)
            · intro u hu
              rcases List.mem_append.mp hu with hu | hu
              · exact pc u hu
              · rw [List.mem_singleton] at hu
                subst hu
                simpa using hv
          · rintro H' ⟨acc, hD, len, bH, sH, pc⟩
            exact ⟨D, acc, _, _, _, _, _, _, _, rfl, sH, bH, bT.ne nD, hD, pc, by omega⟩
        · rintro σ' G3 ⟨D, acc, x4, x5, x7, x8, x9, x10, x11, rfl, s3, bb3, Db, hD, pc, len⟩
          have good3 := goodG.same s3
          have l1000 : acc.length ≤ 1000 := by omega
          -- both are let
          refine ⟨_, rfl, .ref D, none, rfl, good3.fine T.cC pc (.inl hD) l1000, fun G4 s4 => ⟨rfl, _, rfl, iteN rfl ?_⟩⟩
          refine ⟨_, rfl, D, acc, rfl, .inl ⟨SqL.of (s4 _ _ hD), fun q nq => ?_⟩⟩
          have t4 := s4.trans (Same.new nq (o := .tup acc))
          refine ⟨.ref q, none, rfl, (good3.same t4).fine T.cC pc (.inr upd_same) l1000, fun G5 s5 => ⟨rfl, _, rfl, iteN rfl ?_⟩⟩
          have s35 := t4.trans s5
          have good5 := good3.same s35
          have bb5 := bb3.same s35
          have hD5 := s35 _ _ hD
          -- the place
          refine ⟨_, rfl, _, rfl, D, acc, rfl, .inl (SqL.of hD5), _, _, rfl, rfl, b, _, rfl, bb5, by omega, by omega, fun r o r0 r1 yo => ?_⟩
          have s6 := same_put (s3.trans s35) nb (o := o)
          have bb6 : BoxAt (upd G5 b o) b := BoxAt.box yo
          have hD6 : (upd G5 b o) D = some (.lst acc) := by rw [upd_ne Db]; exact hD5
          revert s6 bb6 hD6
          generalize upd G5 b o = G6
          intro s6 bb6 hD6
          have good6 := goodG.same s6
          -- what is put in
          refine ⟨_, rfl, (by show 1 ≤ sizeLine; decide), fun q1 n1 => ⟨_, rfl, _, rfl, fun p d np nd ne => ?_⟩⟩
          have t6 := Same.new n1 (o := .lst [.str "a"])
          have hq1 : upd G6 q1 (.lst [.str "a"]) q1 = some (.lst [.str "a"]) := upd_same
          have nq1 := bb6.ne n1
          have bb7 := bb6.same t6
          have np' : upd (upd G6 q1 (.lst [.str "a"])) d (.own p) p = none := by
            rw [upd_ne (Ne.symm ne)]
            exact np
          refine ⟨p, d, .ref g, none, rfl, upd_same, ((good6.same t6).same ((Same.new nd).trans (Same.new np'))).fine T.cC (xs := [.ref p1, .ref p2]) (fun x hx => by simpa using hx) (.inl (((good6.same t6).same ((Same.new nd).trans (Same.new np'))).g)) (by show 2 ≤ 1000; decide), fun _ G7 t kp hp => ⟨rfl, ?_⟩, fun i e => nomatch e⟩
          have t7 := made_same np nd kp
          have npb := bb7.ne np
          refine ⟨(by show 1 ≤ sizeLine; decide), fun q2 n2 => ⟨(by show 8 ≤ sizeLine; decide), fun l nl => ?_⟩⟩
          have t8 := Same.new n2 (o := .tup [.str "a"])
          have hq2 : upd G7 q2 (.tup [.str "a"]) q2 = some (.tup [.str "a"]) := upd_same
          have bb8 := bb7.same t7
          have nq2 := bb8.ne n2
          have bb9 := bb8.same t8
          have nlb := bb9.ne nl
          have t9 := Same.new nl (o := .lst [.non, .int 0, .str "a(b)", .ref q1, .ref g, .ref p, .bl true, .ref q2])
          refine ⟨b, l, _, rfl, bb9.same t9, nlb, SqL.of upd_same, (by show 0 < 8; decide), (by show 8 ≤ 1000; decide), fun v o hv yo => ?_⟩
          have odd : OddV CP b (upd (upd (upd G7 q2 (.tup [.str "a"])) l (.lst [.non, .int 0, .str "a(b)", .ref q1, .ref g, .ref p, .bl true, .ref q2])) b o) v := by
            refine OddV.kept (b := b) Kept.box ?_
            simp only [List.mem_cons, List.not_mem_nil, or_false] at hv
            rcases hv with rfl | rfl | rfl | rfl | rfl | rfl | rfl | rfl
            · exact .inl (.inl rfl)
            · exact .inl (.inr (.inl ⟨_, rfl⟩))
            · exact .inl (.inr (.inr (.inl ⟨_, rfl⟩)))
            · exact .inr ⟨q1, rfl, nq1, .inl ⟨_, t9 _ _ (t8 _ _ (t7 _ _ hq1))⟩⟩
            · exact .inr ⟨g, rfl, ngb, .inl ⟨_, t9 _ _ (t8 _ _ (t7 _ _ (t6 _ _ good6.g)))⟩⟩
            · exact .inr ⟨p, rfl, npb, .inr (.inr ⟨d, _, t9 _ _ (t8 _ _ hp)⟩)⟩
            · exact .inl (.inr (.inr (.inr ⟨_, rfl⟩)))
            · exact .inr ⟨q2, rfl, nq2, .inr (.inl ⟨_, t9 _ _ hq2⟩)⟩
          have s10 := same_put (s6.trans (((t6.trans t7).trans t8).trans t9)) nb (o := o)
          have bb10 : BoxAt (upd (upd (upd G7 q2 (.tup [.str "a"])) l (.lst [.non, .int 0, .str "a(b)", .ref q1, .ref g, .ref p, .bl true, .ref q2])) b o) b := BoxAt.box yo
          have hD10 : (upd (upd (upd G7 q2 (.tup [.str "a"])) l (.lst [.non, .int 0, .str "a(b)", .ref q1, .ref g, .ref p, .bl true, .ref q2])) b o) D = some (.lst acc) := by
            rw [upd_ne Db]
            exact t9 _ _ (t8 _ _ (t7 _ _ (t6 _ _ hD6)))
          revert odd s10 bb10 hD10
          generalize upd (upd (upd G7 q2 (.tup [.str "a"])) l (.lst [.non, .int 0, .str "a(b)", .ref q1, .ref g, .ref p, .bl true, .ref q2])) b o = G8
          intro odd s10 bb10 hD10
          -- the row with it
          have rl : r ≤ acc.length := by omega
          refine ⟨_, rfl, _, rfl, r, rfl, D, acc, rfl, SqL.of hD10, fun A nA => ⟨_, rfl, (by show 1 ≤ sizeLine; decide), fun B nB => ⟨A, B, _, _, rfl, rfl, Same.new nB _ _ upd_same, upd_same, ?_, fun C1 nC => ?_⟩⟩⟩
          · have := cutV_length acc none (some r)
            exact fits (by show _ + 1 ≤ 1000; omega)
          have u1 := ((Same.new nA (o := .lst (cutV acc none (some r)))).trans (Same.new nB (o := .lst [v]))).trans (Same.new nC (o := .lst (cutV acc none (some r) ++ [v])))
          refine ⟨_, rfl, _, rfl, r, rfl, D, acc, rfl, SqL.of (u1 _ _ hD10), fun E1 nE => ⟨C1, E1, _, _, rfl, rfl, Same.new nE _ _ upd_same, upd_same, ?_, fun F1 nF => ?_⟩⟩
          · have h1 := cutV_length acc none (some r)
            have h2 := cutV_length acc (some r) none
            refine fits ?_
            rw [List.length_append]
            show _ + 1 + _ ≤ 1000
            omega
          have u2 := (Same.new nE (o := .lst (cutV acc (some r) none))).trans (Same.new nF (o := .lst ((cutV acc none (some r) ++ [v]) ++ cutV acc (some r) none)))
          refine ⟨(by show 1 ≤ sizeLine; decide), fun I1 nI => ?_⟩
          have u3 := Same.new nI (o := .lst [.non])
          have bbI := ((bb10.same u1).same u2)
          have Ib := bbI.ne nI
          have Fb := ((bb10.same u1).same (Same.new nE)).ne nF
          refine ⟨_, rfl, b, 2, rfl, bbI.same u3, by decide, by decide, fun r2 o2 r20 r21 yo2 => ?_⟩
          refine ⟨r2, rfl, I1, [.non], rfl, SqL.of (by rw [upd_ne Ib]; exact upd_same), fun J1 nJ => ⟨F1, J1, _, _, rfl, rfl, Same.new nJ _ _ (by rw [upd_ne Fb]; exact u3 _ _ upd_same), upd_same, ?_, fun W nW => ?_⟩⟩
          · have h1 := cutV_length acc none (some r)
            have h2 := cutV_length acc (some r) none
            have h3 := cutV_length [V.non] none (some r2)
            have h4 : [V.non].length = 1 := rfl
            refine fits ?_
            rw [List.length_append, List.length_append]
            show _ + 1 + _ + _ ≤ 1000
            omega
          have h1 := cutV_length acc none (some r)
          have h2 := cutV_length acc (some r) none
          have h3 := cutV_length [V.non] none (some r2)
          have h4 : [V.non].length = 1 := rfl
          have k9 : Kept b G8 (upd (upd (upd (upd (upd (upd (upd (upd (upd G8 A (.lst (cutV acc none (some r)))) B (.lst [v])) C1 (.lst (cutV acc none (some r) ++ [v]))) E1 (.lst (cutV acc (some r) none))) F1 (.lst ((cutV acc none (some r) ++ [v]) ++ cutV acc (some r) none))) I1 (.lst [.non])) b o2) J1 (.lst (cutV [.non] none (some r2)))) W (.lst (((cutV acc none (some r) ++ [v]) ++ cutV acc (some r) none) ++ cutV [.non] none (some r2)))) :=
            (((Kept.of_same ((u1.trans u2).trans u3)).trans Kept.box).trans (Kept.new nJ)).trans (Kept.new nW)
          have bb9 := (BoxAt.new (BoxAt.box (H := upd (upd (upd (upd (upd (upd G8 A (.lst (cutV acc none (some r)))) B (.lst [v])) C1 (.lst (cutV acc none (some r) ++ [v]))) E1 (.lst (cutV acc (some r) none))) F1 (.lst ((cutV acc none (some r) ++ [v]) ++ cutV acc (some r) none))) I1 (.lst [.non])) yo2) nJ (o := .lst (cutV [.non] none (some r2)))).new nW (o := .lst (((cutV acc none (some r) ++ [v]) ++ cutV acc (some r) none) ++ cutV [.non] none (some r2)))
          have hW := upd_same (H := upd (upd (upd (upd (upd (upd (upd (upd G8 A (.lst (cutV acc none (some r)))) B (.lst [v])) C1 (.lst (cutV acc none (some r) ++ [v]))) E1 (.lst (cutV acc (some r) none))) F1 (.lst ((cutV acc none (some r) ++ [v]) ++ cutV acc (some r) none))) I1 (.lst [.non])) b o2) J1 (.lst (cutV [.non] none (some r2)))) (a := W) (o := .lst (((cutV acc none (some r) ++ [v]) ++ cutV acc (some r) none) ++ cutV [.non] none (some r2)))
          revert k9 bb9 hW
          generalize (upd (upd (upd (upd (upd (upd (upd (upd (upd G8 A (.lst (cutV acc none (some r)))) B (.lst [v])) C1 (.lst (cutV acc none (some r) ++ [v]))) E1 (.lst (cutV acc (some r) none))) F1 (.lst ((cutV acc none (some r) ++ [v]) ++ cutV acc (some r) none))) I1 (.lst [.non])) b o2) J1 (.lst (cutV [.non] none (some r2)))) W (.lst (((cutV acc none (some r) ++ [v]) ++ cutV acc (some r) none) ++ cutV [.non] none (some r2)))) = G9
          intro k9 bb9 hW
          have odd9 := odd.kept k9
          have s11 : Same G G9 := fun c u e => k9 c u (fun z => by rw [z, nb] at e; cases e) (s10 _ _ e)
          have good9 := goodG.same s11
          have ew : ((cutV acc none (some r) ++ [v]) ++ cutV acc (some r) none) ++ cutV [.non] none (some r2) = acc.take r.toNat ++ v :: (acc.drop r.toNat ++ cutV [.non] none (some r2)) := by
            rw [cut_hi r0 rl, cut_lo r0 rl]
            simp
          rw [ew] at hW
          have bad : ∀ {G' : Hp} {q : Addr}, Same G9 G' → SqX K G' q (acc.take r.toNat ++ v :: (acc.drop r.toNat ++ cutV [.non] none (some r2))) → Verdict K C G' (.ref q) (some r.toNat) := fun {G' q} s hq =>
            (good9.same s).wrong T.cC (fun x hx => pc x (List.mem_of_mem_take hx)) hq (by rw [← ew]; simp only [List.length_append]; show _ + 1 + _ + _ ≤ 1000; omega) (((odd9.no T.cC T.cP T.sub T.ne)).same s) (by rw [List.length_take]; omega)
          refine ⟨fun σ' G' => ∃ x4 x5 x6 x7 x8 x9 x10 x11 : Option V, σ' = [some (.ref a), some (.ref g), some (.int (0 + (i : Int))), some (.ref b), x4, x5, x6, x7, x8, x9, x10, x11] ∧ Same G G' ∧ BoxAt G' b, ?_, ?_⟩
          · have same_at : (!decide (heardV (some r.toNat) = V.int r)) = false := by
              have e : ((r.toNat : Nat) : Int) = r := Int.toNat_of_nonneg r0
              show (!decide (V.int ((r.toNat : Nat) : Int) = V.int r)) = false
              rw [e]
              simp
            refine ⟨_, rfl, .ref W, some r.toNat, rfl, bad (Same.refl _) (.inl hW), fun G10 z10 => ⟨_, rfl, rfl, _, rfl, iteN same_at ?_⟩⟩
            refine ⟨_, rfl, W, _, rfl, .inl ⟨SqL.of (z10 _ _ hW), fun q nq => ?_⟩⟩
            have zq := z10.trans (Same.new nq (o := .tup (acc.take r.toNat ++ v :: (acc.drop r.toNat ++ cutV [V.non] none (some r2)))))
            refine ⟨.ref q, some r.toNat, rfl, bad zq (.inr upd_same), fun G11 z11 => ⟨_, rfl, rfl, _, rfl, iteN same_at ?_⟩⟩
            exact ⟨_, _, _, _, _, _, _, _, rfl, (s11.trans zq).trans z11, (bb9.same zq).same z11⟩
          · rintro σ' GA ⟨x4, x5, x6, x7, x8, x9, x10, x11, rfl, sA, bA⟩
            -- what is deep
            refine ⟨(by show 1 ≤ sizeLine; decide), fun d0 nd0 => ?_⟩
            have dA := Same.new nd0 (o := .tup [.non])
            refine ⟨6, rfl, by decide, by decide, for_range (lo := 0) (n := 6) (fun n σ G' => ∃ (d : Addr) (y : V) (ys : List V) (x4 x5 x6 x7 x8 x9 x11 : Option V), σ = [some (.ref a), some (.ref g), some (.int (0 + (i : Int))), some (.ref b), x4, x5, x6, x7, x8, x9, some (.ref d), x11] ∧ Same G G' ∧ BoxAt G' b ∧ d ≠ b ∧ G' d = some (.tup (y :: ys)) ∧ ys.length ≤ 1 ∧ OddV CP b G' y)
              ⟨d0, .non, [], x4, x5, x6, x7, x8, x9, x11, rfl, sA.trans dA, bA.same dA, bA.ne nd0, upd_same, Nat.zero_le _, .inl (.inl rfl)⟩ ?_ ?_⟩
            · rintro n σ G' hn ⟨d, y, ys, x4, x5, x6, x7, x8, x9, x11, rfl, sG', bG', ndb, hd, hys, oy⟩
              refine ⟨_, rfl, (by show 2 ≤ sizeLine; decide), fun q nq => ?_⟩
              have tq := Same.new nq (o := .tup [.ref d, .int 1])
              exact ⟨q, .ref d, [.int 1], _, _, _, _, _, _, _, rfl, sG'.trans tq, bG'.same tq, bG'.ne nq, upd_same, Nat.le_refl _, .inr ⟨d, rfl, ndb, .inr (.inl ⟨_, tq _ _ hd⟩)⟩⟩
            · rintro σ GB ⟨d, y, ys, x4, x5, x6, x7, x8, x9, x11, rfl, sB, bB, ndb, hd, hys, oy⟩
              have goodB := goodG.same sB
              refine ⟨fun σ' G' => ∃ x4 x5 x6 x7 x8 x9 x10 x11 : Option V, σ' = [some (.ref a), some (.ref g), some (.int (0 + (i : Int))), some (.ref b), x4, x5, x6, x7, x8, x9, x10, x11] ∧ Same G G' ∧ BoxAt G' b, ?_, ?_⟩
              · refine ⟨_, rfl, .ref d, some 0, rfl, goodB.wrong T.cC (xs := []) (fun x hx => (List.not_mem_nil hx).elim) (.inr hd) (by show ys.length + 1 ≤ 1000; omega) (oy.no T.cC T.cP T.sub T.ne) rfl, fun GC zC => ⟨rfl, _, rfl, iteN rfl ?_⟩⟩
                have gC := (goodB.same zC).g
                refine ⟨_, rfl, g, _, rfl, .inl (SqL.of gC), fun A nA => ⟨_, rfl, (by show 1 ≤ sizeLine; decide), fun B nB => ⟨A, B, _, _, rfl, rfl, Same.new nB _ _ upd_same, upd_same, (by show 3 ≤ sizeLine; decide), fun C1 nC => ?_⟩⟩⟩
                have zz := zC.trans (((Same.new nA (o := .lst [.ref p1, .ref p2])).trans (Same.new nB (o := .lst [.ref d]))).trans (Same.new nC (o := .lst ([.ref p1, .ref p2] ++ [.ref d]))))
                have od : OddV CP b _ (.ref d) := .inr ⟨d, rfl, ndb, .inr (.inl ⟨_, zz _ _ hd⟩)⟩
                refine ⟨.ref C1, some 2, rfl, (goodB.same zz).wrong T.cC (xs := [.ref p1, .ref p2]) (ys := []) (fun x hx => by simpa using hx) (.inl upd_same) (by show 3 ≤ 1000; decide) (od.no T.cC T.cP T.sub T.ne) rfl, fun GD zD => ⟨rfl, _, rfl, iteN rfl ?_⟩⟩
                exact ⟨_, _, _, _, _, _, _, _, rfl, (sB.trans zz).trans zD, (bB.same zz).same zD⟩
              · rintro σ' GE ⟨x4, x5, x6, x7, x8, x9, x10, x11, rfl, sE, bE⟩
                have goodE := goodG.same sE
                -- what is no sequence
                refine ⟨_, rfl, _, rfl, g, _, 0, _, rfl, rfl, SqL.of goodE.g, rfl, ?_⟩
                refine ⟨_, rfl, fun p d np nd ne => ?_⟩
                have np' : upd GE d (.own p) p = none := by
                  rw [upd_ne (Ne.symm ne)]
                  exact np
                refine ⟨p, d, .ref g, none, rfl, upd_same, (goodE.same ((Same.new nd).trans (Same.new np'))).fine T.cC (xs := [.ref p1, .ref p2]) (fun x hx => by simpa using hx) (.inl ((goodE.same ((Same.new nd).trans (Same.new np'))).g)) (by show 2 ≤ 1000; decide), fun _ GF t kp hp => ⟨rfl, ?_⟩, fun i e => nomatch e⟩
                have t7 := made_same np nd kp
                have npb := bE.ne np
                have bF := bE.same t7
                obtain ⟨dx1, fs1, hp1'⟩ := (goodE.same t7).p1
                refine ⟨(by show 8 ≤ sizeLine; decide), fun l nl => ?_⟩
                have t9 := Same.new nl (o := .lst [.non, .int 0, .str "a(b)", .int 3, .bl true, .ref p1, .ref p, .str ""])
                have nlb := bF.ne nl
                refine ⟨b, l, _, rfl, bF.same t9, nlb, SqL.of upd_same, (by show 0 < 8; decide), (by show 8 ≤ 1000; decide), fun v o hv yo => ?_⟩
                have ns : NsV C CP b (upd (upd GF l (.lst [.non, .int 0, .str "a(b)", .int 3, .bl true, .ref p1, .ref p, .str ""])) b o) v := by
                  refine NsV.kept (b := b) Kept.box ?_
                  simp only [List.mem_cons, List.not_mem_nil, or_false] at hv
                  rcases hv with rfl | rfl | rfl | rfl | rfl | rfl | rfl | rfl
                  · exact .inl (.inl rfl)
                  · exact .inl (.inr (.inl ⟨_, rfl⟩))
                  · exact .inl (.inr (.inr (.inl ⟨_, rfl⟩)))
                  · exact .inl (.inr (.inl ⟨_, rfl⟩))
                  · exact .inl (.inr (.inr (.inr ⟨_, rfl⟩)))
                  · exact .inr ⟨p1, C, _, _, rfl, (goodE.ne bE).2.1, t9 _ _ hp1', .inl rfl⟩
                  · exact .inr ⟨p, CP, _, _, rfl, npb, t9 _ _ hp, .inr rfl⟩
                  · exact .inl (.inr (.inr (.inl ⟨_, rfl⟩)))
                have sN := same_put ((sE.trans t7).trans t9) nb (o := o)
                have bN : BoxAt (upd (upd GF l (.lst [.non, .int 0, .str "a(b)", .int 3, .bl true, .ref p1, .ref p, .str ""])) b o) b := BoxAt.box yo
                refine ⟨_, rfl, v, some 0, rfl, .inl ⟨ns.no T.cC T.cP, rfl⟩, fun GZ zZ => ⟨0, rfl, by decide, rfl, _, rfl, iteN (by decide +kernel) ?_⟩⟩
                exact ⟨_, _, _, _, _, _, _, _, rfl, sN.trans zZ, bN.same zZ⟩
      · rintro σ G' ⟨x4, x5, x6, x7, x8, x9, x10, x11, rfl, sG', _⟩
        exact ⟨_, _, _, _, _, _, _, _, _, _, rfl, sG.trans sG'⟩
    · rintro σ G' ⟨x2, x3, x4, x5, x6, x7, x8, x9, x10, x11, rfl, sG⟩
      refine ⟨(by show 0 ≤ sizeLine; decide), fun q nq => ⟨.ref q, none, rfl, (good.same (sG.trans (Same.new nq (o := .lst [])))).fine T.cC (xs := []) (fun x hx => (List.not_mem_nil hx).elim) (.inl upd_same) (Nat.zero_le _), fun GZ _ => ⟨rfl, k GZ⟩⟩⟩
end
end Lay
set_option Elab.async false
set_option linter.all false
set_option maxRecDepth 100000
set_option maxHeartbeats 8000000
namespace Lay
open PySem L2
section
variable {K : PySem.W.Frag}
theorem binds_piece {f : Addr} {fd : FuncData} (F : FunD K "__init__" "Piece.__init__" (defArgs sPieceI) (defBody sPieceI) (defScope sPieceI) dPiece [] f fd) : ∃ ds, Vals dPiece ds ∧ Binds K fd psPiece ds :=
  F.binds1 (ps := psPiece) 3 0 (fun z => nomatch z) rfl fun T kV doc pm an cdv ct us its h1 h2 => match us, its, h1, h2 with
    | [_, _, _], [_, _, _, _, _, _], _, _ => ⟨_, rfl, rfl⟩
theorem binds_piece3 {f : Addr} {fd : FuncData} (F : FunD K "__init__" "Piece.__init__" (defArgs sPieceI) (defBody sPieceI) (defScope sPieceI) dPiece [] f fd) : ∃ ds, Vals dPiece3 ds ∧ Binds K fd psPiece ds :=
  F.binds1 (ps := psPiece) 6 3 (fun z => nomatch z) rfl fun T kV doc pm an cdv ct us its h1 h2 => match us, its, h1, h2 with
    | [_, _, _, _, _, _], [_, _, _, _, _, _], _, _ => ⟨_, rfl, rfl⟩
theorem binds_prog {f e : Addr} {fd : FuncData} (F : FunD K "__init__" "Program.__init__" (defArgs sProgI) (defBody sProgI) (defScope sProgI) [.ref e] [] f fd) : Binds K fd ["self", "pieces"] [] := by
  obtain ⟨ds, h1, h2⟩ := F.binds1 (ps := ["self", "pieces"]) 2 1 (fun z => nomatch z) rfl fun T kV doc pm an cdv ct us its h1 h2 => match us, its, h1, h2 with
    | [_, _], [_], _, _ => ⟨_, rfl, rfl⟩
  cases h1
  exact h2
end
end Lay
set_option Elab.async false
set_option linter.all false
set_option maxRecDepth 100000
set_option maxHeartbeats 8000000
namespace Lay
open PySem L2
theorem refs_ok (L : Addr) : PySem.HandSPX.refsVE [.ref L, .type "ValueError", .type "Exception", .type "BaseException", .type "object"] = true := by
  show PySem.HandSPX.refsVE [.type "ValueError", .type "Exception", .type "BaseException", .type "object"] = true
  decide +kernel

theorem all_mk {l : PySem.W.OpenLaw} {w : World} {K : PySem.W.Frag} {h : Heap} {mg : Str → Option Value} {fa L DP DI fI C fPI TC CP fGI TCP g_int g_num g_seq g_name g_names g_req g_rem g_check g_box g_take g_pick g_heard g_law : Addr} (X : K.In h) (G : h.Ns mainGlobals mg) (hfa : mg "law" = some (.ref fa))
    {nm qn : Str} {N0 : Addr} {bs : List Value} {sn : List Str} {sub0 : List Value} {ab : Bool} {col : Option Bool} {dd : Option Addr} {m0 m1 m2 m3 m5 : Option Value}
    {od_I an_I : Option Addr} {sl_I : Array (Option Value)} {oc_I kV_I dc_I pm_I cd_I ct_I : Value}
    {od_C an_C : Option Addr} {sl_C : Array (Option Value)} {oc_C kV_C dc_C pm_C cd_C ct_C : Value}
    {od_CP an_CP : Option Addr} {sl_CP : Array (Option Value)} {oc_CP kV_CP dc_CP pm_CP cd_CP ct_CP : Value}
    {ocT ocP : Value} {odT odP : Option Addr} {nT nP : Nat} {slT slP : Array (Option Value)} {u1 u2 u3 : Nat} {eP : Addr}
    {od_int an_int : Option Addr} {sl_int : Array (Option Value)} {oc_int kV_int dc_int pm_int cd_int ct_int : Value}
    {od_num an_num : Option Addr} {sl_num : Array (Option Value)} {oc_num kV_num dc_num pm_num cd_num ct_num : Value}
    {od_seq an_seq : Option Addr} {sl_seq : Array (Option Value)} {oc_seq kV_seq dc_seq pm_seq cd_seq ct_seq : Value}
    {od_name an_name : Option Addr} {sl_name : Array (Option Value)} {oc_name kV_name dc_name pm_name cd_name ct_name : Value}
    {od_names an_names : Option Addr} {sl_names : Array (Option Value)} {oc_names kV_names dc_names pm_names cd_names ct_names : Value}
    {od_req an_req : Option Addr} {sl_req : Array (Option Value)} {oc_req kV_req dc_req pm_req cd_req ct_req : Value}
    {od_rem an_rem : Option Addr} {sl_rem : Array (Option Value)} {oc_rem kV_rem dc_rem pm_rem cd_rem ct_rem : Value}
    {od_check an_check : Option Addr} {sl_check : Array (Option Value)} {oc_check kV_check dc_check pm_check cd_check ct_check : Value}
    {od_box an_box : Option Addr} {sl_box : Array (Option Value)} {oc_box kV_box dc_box pm_box cd_box ct_box : Value}
    {od_take an_take : Option Addr} {sl_take : Array (Option Value)} {oc_take kV_take dc_take pm_take cd_take ct_take : Value}
    {od_pick an_pick : Option Addr} {sl_pick : Array (Option Value)} {oc_pick kV_pick dc_pick pm_pick cd_pick ct_pick : Value}
    {od_heard an_heard : Option Addr} {sl_heard : Array (Option Value)} {oc_heard kV_heard dc_heard pm_heard cd_heard ct_heard : Value}
    {od_law an_law : Option Addr} {sl_law : Array (Option Value)} {oc_law kV_law dc_law pm_law cd_law ct_law : Value}
    (aL : PySem.W.nsIn K mainGlobals "LayError" = some (some (.ref L)))
    (tL : PySem.W.typeIn K (.ref L) = some (.type "type"))
    (hL : PySem.W.hasDictIn K L = true)
    (aDP : PySem.W.nsIn K mainGlobals "InvalidPiece" = some (some (.ref DP)))
    (tDP : PySem.W.typeIn K (.ref DP) = some (.type "type"))
    (hDP : PySem.W.hasDictIn K DP = true)
    (aDI : PySem.W.nsIn K mainGlobals "InvalidProgram" = some (some (.ref DI)))
    (tyI : PySem.W.typeIn K (.ref DI) = some (.type "type"))
    (kDI : PySem.W.keepIn K (.ref DI) = true)
    (exI : PySem.W.subIn K (.ref DI) (.type "BaseException") = some true)
    (sLI : PySem.W.subIn K (.ref DI) (.ref L) = some true)
    (sPI : PySem.W.subIn K (.ref DI) (.ref DP) = some false)
    (sSI : PySem.W.subIn K (.ref DI) (.ref DI) = some true)
    (gaI : PySem.W.findIn K (.ref DI) "__getattribute__" = some (some (.builtin "BaseException.__getattribute__")))
    (ggI : PySem.W.findIn K (.ref DI) "__getattr__" = some none)
    (hdI : PySem.W.hasDictIn K DI = true)
    (caI : PySem.W.findIn K (.ref DI) "__class__" = some (some (.builtin "object.__class__")))
    (moI : PySem.W.mroIn K DI (.type "object") = some true)
    (xLI : K.lookup DI = some (excClassObj nm qn DI N0 bs [.ref L, .type "ValueError", .type "Exception", .type "BaseException", .type "object"] true sn sub0 ab col dd m0 m1 m2 m3 m5 "ValueError.__new__"))
    (saI : PySem.W.findIn K (.ref DI) "__setattr__" = some (some (.builtin "object.__setattr__")))
    (iniI : PySem.W.findIn K (.ref DI) "__init__" = some (some (.ref fI)))
    (tiI : PySem.W.typeIn K (.ref fI) = some (.type "function"))
    (noI : PySem.W.findIn K (.ref DI) "at" = some none)
    (l_I : K.lookup fI = some ⟨oc_I, od_I, .func (PySem.W.fnOf "__init__" "InvalidProgram.__init__" (defArgs sIIP) (defBody sIIP) (defScope sIIP) .none kV_I dc_I pm_I an_I cd_I ct_I), sl_I⟩)
    (c_I : PySem.W.codeIn K cd_I "InvalidProgram.__init__" = true)
    (k_I : PySem.W.keepIn K (.ref fI) = true)
    (hn : PySem.W.specialIn K (.builtin "object.__class__") "__get__" = some (some (.builtin "getset_descriptor.__get__")))
    (ht : PySem.W.takesIn K (.builtin "object.__class__") = some true)
    (aC : PySem.W.nsIn K mainGlobals "Piece" = some (some (.ref C)))
    (pgC : PySem.W.plainGet K C Str.empty = true)
    (hdC : PySem.W.hasDictIn K C = true)
    (poC : PySem.W.plainOver K C = true)
    (saC : PySem.W.findIn K (.ref C) "__setattr__" = some (some (.builtin "object.__setattr__")))
    (tyC : PySem.W.typeIn K (.ref C) = some (.type "type"))
    (caC : PySem.W.findIn K (.ref C) "__class__" = some (some (.builtin "object.__class__")))
    (moC : PySem.W.mroIn K C (.type "object") = some true)
    (nlC : PySem.W.subIn K (.ref C) (.type "list") = some false)
    (ntC : PySem.W.subIn K (.ref C) (.type "tuple") = some false)
    (noC_word : PySem.W.findIn K (.ref C) "word" = some none)
    (noC_parts : PySem.W.findIn K (.ref C) "parts" = some none)
    (noC_broken : PySem.W.findIn K (.ref C) "broken" = some none)
    (noC_marked : PySem.W.findIn K (.ref C) "marked" = some none)
    (noC_ahead : PySem.W.findIn K (.ref C) "ahead" = some none)
    (noC_behind : PySem.W.findIn K (.ref C) "behind" = some none)
    (noC_blanks : PySem.W.findIn K (.ref C) "blanks" = some none)
    (noC_left : PySem.W.findIn K (.ref C) "left" = some none)
    (mkC : PySem.W.makesIn K C = true)
    (inC : PySem.W.findIn K (.ref C) "__init__" = some (some (.ref fPI)))
    (fnC : PySem.W.isFn K (.ref fPI) = true)
    (kpC : PySem.W.keepIn K (.ref C) = true)
    (l_C : K.lookup fPI = some ⟨oc_C, od_C, .func (PySem.W.fnOf "__init__" "Piece.__init__" (defArgs sPieceI) (defBody sPieceI) (defScope sPieceI) (.ref TC) kV_C dc_C pm_C an_C cd_C ct_C), sl_C⟩)
    (c_C : PySem.W.codeIn K cd_C "Piece.__init__" = true)
    (k_C : PySem.W.keepIn K (.ref fPI) = true)
    (aCP : PySem.W.nsIn K mainGlobals "Program" = some (some (.ref CP)))
    (pgCP : PySem.W.plainGet K CP Str.empty = true)
    (hdCP : PySem.W.hasDictIn K CP = true)
    (poCP : PySem.W.plainOver K CP = true)
    (saCP : PySem.W.findIn K (.ref CP) "__setattr__" = some (some (.builtin "object.__setattr__")))
    (tyCP : PySem.W.typeIn K (.ref CP) = some (.type "type"))
    (caCP : PySem.W.findIn K (.ref CP) "__class__" = some (some (.builtin "object.__class__")))
    (moCP : PySem.W.mroIn K CP (.type "object") = some true)
    (nlCP : PySem.W.subIn K (.ref CP) (.type "list") = some false)
    (ntCP : PySem.W.subIn K (.ref CP) (.type "tuple") = some false)
    (noCP_pieces : PySem.W.findIn K (.ref CP) "pieces" = some none)
    (mkCP : PySem.W.makesIn K CP = true)
    (inCP : PySem.W.findIn K (.ref CP) "__init__" = some (some (.ref fGI)))
    (fnCP : PySem.W.isFn K (.ref fGI) = true)
    (kpCP : PySem.W.keepIn K (.ref CP) = true)
    (l_CP : K.lookup fGI = some ⟨oc_CP, od_CP, .func (PySem.W.fnOf "__init__" "Program.__init__" (defArgs sProgI) (defBody sProgI) (defScope sProgI) (.ref TCP) kV_CP dc_CP pm_CP an_CP cd_CP ct_CP), sl_CP⟩)
    (c_CP : PySem.W.codeIn K cd_CP "Program.__init__" = true)
    (k_CP : PySem.W.keepIn K (.ref fGI) = true)
    (lT : K.lookup TC = some ⟨ocT, odT, .seq [.bool false, .bool false, .str "" u1, .str "" u2, .int 0 u3, .bool false].toArray nT, slT⟩)
    (lP : K.lookup TCP = some ⟨ocP, odP, .seq [.ref eP].toArray nP, slP⟩)
    (scc : PySem.W.subIn K (.ref C) (.ref C) = some true)
    (spc : PySem.W.subIn K (.ref CP) (.ref C) = some false)
    (a_int : PySem.W.nsIn K mainGlobals "is_integer" = some (some (.ref g_int)))
    (l_int : K.lookup g_int = some ⟨oc_int, od_int, .func (PySem.W.fnOf "is_integer" "is_integer" (defArgs sInt) (defBody sInt) (defScope sInt) .none kV_int dc_int pm_int an_int cd_int ct_int), sl_int⟩)
    (c_int : PySem.W.codeIn K cd_int "is_integer" = true)
    (k_int : PySem.W.keepIn K (.ref g_int) = true)
    (a_num : PySem.W.nsIn K mainGlobals "is_number" = some (some (.ref g_num)))
    (l_num : K.lookup g_num = some ⟨oc_num, od_num, .func (PySem.W.fnOf "is_number" "is_number" (defArgs sNum) (defBody sNum) (defScope sNum) .none kV_num dc_num pm_num an_num cd_num ct_num), sl_num⟩)
    (c_num : PySem.W.codeIn K cd_num "is_number" = true)
    (k_num : PySem.W.keepIn K (.ref g_num) = true)
    (a_seq : PySem.W.nsIn K mainGlobals "is_sequence" = some (some (.ref g_seq)))
    (l_seq : K.lookup g_seq = some ⟨oc_seq, od_seq, .func (PySem.W.fnOf "is_sequence" "is_sequence" (defArgs sSeq) (defBody sSeq) (defScope sSeq) .none kV_seq dc_seq pm_seq an_seq cd_seq ct_seq), sl_seq⟩)
    (c_seq : PySem.W.codeIn K cd_seq "is_sequence" = true)
    (k_seq : PySem.W.keepIn K (.ref g_seq) = true)
    (a_name : PySem.W.nsIn K mainGlobals "is_name" = some (some (.ref g_name)))
    (l_name : K.lookup g_name = some ⟨oc_name, od_name, .func (PySem.W.fnOf "is_name" "is_name" (defArgs sName) (defBody sName) (defScope sName) .none kV_name dc_name pm_name an_name cd_name ct_name), sl_name⟩)
    (c_name : PySem.W.codeIn K cd_name "is_name" = true)
    (k_name : PySem.W.keepIn K (.ref g_name) = true)
    (a_names : PySem.W.nsIn K mainGlobals "are_names" = some (some (.ref g_names)))
    (l_names : K.lookup g_names = some ⟨oc_names, od_names, .func (PySem.W.fnOf "are_names" "are_names" (defArgs sNames) (defBody sNames) (defScope sNames) .none kV_names dc_names pm_names an_names cd_names ct_names), sl_names⟩)
    (c_names : PySem.W.codeIn K cd_names "are_names" = true)
    (k_names : PySem.W.keepIn K (.ref g_names) = true)
    (a_req : PySem.W.nsIn K mainGlobals "require" = some (some (.ref g_req)))
    (l_req : K.lookup g_req = some ⟨oc_req, od_req, .func (PySem.W.fnOf "require" "require" (defArgs sReq) (defBody sReq) (defScope sReq) .none kV_req dc_req pm_req an_req cd_req ct_req), sl_req⟩)
    (c_req : PySem.W.codeIn K cd_req "require" = true)
    (k_req : PySem.W.keepIn K (.ref g_req) = true)
    (a_rem : PySem.W.nsIn K mainGlobals "is_remark" = some (some (.ref g_rem)))
    (l_rem : K.lookup g_rem = some ⟨oc_rem, od_rem, .func (PySem.W.fnOf "is_remark" "is_remark" (defArgs sRem) (defBody sRem) (defScope sRem) .none kV_rem dc_rem pm_rem an_rem cd_rem ct_rem), sl_rem⟩)
    (c_rem : PySem.W.codeIn K cd_rem "is_remark" = true)
    (k_rem : PySem.W.keepIn K (.ref g_rem) = true)
    (a_check : PySem.W.nsIn K mainGlobals "check_pieces" = some (some (.ref g_check)))
    (l_check : K.lookup g_check = some ⟨oc_check, od_check, .func (PySem.W.fnOf "check_pieces" "check_pieces" (defArgs sCheck) (defBody sCheck) (defScope sCheck) .none kV_check dc_check pm_check an_check cd_check ct_check), sl_check⟩)
    (c_check : PySem.W.codeIn K cd_check "check_pieces" = true)
    (k_check : PySem.W.keepIn K (.ref g_check) = true)
    (a_box : PySem.W.nsIn K mainGlobals "_law_box" = some (some (.ref g_box)))
    (l_box : K.lookup g_box = some ⟨oc_box, od_box, .func (PySem.W.fnOf "_law_box" "_law_box" (defArgs sBox) (defBody sBox) (defScope sBox) .none kV_box dc_box pm_box an_box cd_box ct_box), sl_box⟩)
    (c_box : PySem.W.codeIn K cd_box "_law_box" = true)
    (k_box : PySem.W.keepIn K (.ref g_box) = true)
    (a_take : PySem.W.nsIn K mainGlobals "_law_take" = some (some (.ref g_take)))
    (l_take : K.lookup g_take = some ⟨oc_take, od_take, .func (PySem.W.fnOf "_law_take" "_law_take" (defArgs sTake) (defBody sTake) (defScope sTake) .none kV_take dc_take pm_take an_take cd_take ct_take), sl_take⟩)
    (c_take : PySem.W.codeIn K cd_take "_law_take" = true)
    (k_take : PySem.W.keepIn K (.ref g_take) = true)
    (a_pick : PySem.W.nsIn K mainGlobals "_law_pick" = some (some (.ref g_pick)))
    (l_pick : K.lookup g_pick = some ⟨oc_pick, od_pick, .func (PySem.W.fnOf "_law_pick" "_law_pick" (defArgs sPick) (defBody sPick) (defScope sPick) .none kV_pick dc_pick pm_pick an_pick cd_pick ct_pick), sl_pick⟩)
    (c_pick : PySem.W.codeIn K cd_pick "_law_pick" = true)
    (k_pick : PySem.W.keepIn K (.ref g_pick) = true)
    (a_heard : PySem.W.nsIn K mainGlobals "_law_heard" = some (some (.ref g_heard)))
    (l_heard : K.lookup g_heard = some ⟨oc_heard, od_heard, .func (PySem.W.fnOf "_law_heard" "_law_heard" (defArgs sHeard) (defBody sHeard) (defScope sHeard) .none kV_heard dc_heard pm_heard an_heard cd_heard ct_heard), sl_heard⟩)
    (c_heard : PySem.W.codeIn K cd_heard "_law_heard" = true)
    (k_heard : PySem.W.keepIn K (.ref g_heard) = true)
    (a_law : PySem.W.nsIn K mainGlobals "law" = some (some (.ref g_law)))
    (l_law : K.lookup g_law = some ⟨oc_law, od_law, .func (PySem.W.fnOf "law" "law" (defArgs sLaw) (defBody sLaw) (defScope sLaw) .none kV_law dc_law pm_law an_law cd_law ct_law), sl_law⟩)
    (c_law : PySem.W.codeIn K cd_law "law" = true)
    (k_law : PySem.W.keepIn K (.ref g_law) = true)
    (z_int : PySem.W.nsIn K mainGlobals "int" = some none)
    (z_bool : PySem.W.nsIn K mainGlobals "bool" = some none)
    (z_str : PySem.W.nsIn K mainGlobals "str" = some none)
    (z_list : PySem.W.nsIn K mainGlobals "list" = some none)
    (z_tuple : PySem.W.nsIn K mainGlobals "tuple" = some none)
    (z_isinstance : PySem.W.nsIn K mainGlobals "isinstance" = some none)
    (z_len : PySem.W.nsIn K mainGlobals "len" = some none)
    (z_all : PySem.W.nsIn K mainGlobals "all" = some none)
    (z_enumerate : PySem.W.nsIn K mainGlobals "enumerate" = some none)
    (z_abs : PySem.W.nsIn K mainGlobals "abs" = some none)
    (z_range : PySem.W.nsIn K mainGlobals "range" = some none)
    (z_max : PySem.W.nsIn K mainGlobals "max" = some none)
    (z_min : PySem.W.nsIn K mainGlobals "min" = some none)
    (z_repr : PySem.W.nsIn K mainGlobals "repr" = some none)
    : ∃ fd : FuncData, (∀ (s : Shared) (v : Value), BindsTo s fd ⟨[v], []⟩ [("_law_script", v)]) ∧ ∀ base : Heap, K.In base → base.Ns mainGlobals mg → FnOk l.prog w K mg base CX0 7 fa fd ["_law_script"] (spLaw K) := by
  have e := hfa.symm.trans (PySem.W.mg_of X G a_law)
  cases e
  have M : ∀ {x : Str} {a : Addr}, PySem.W.nsIn K mainGlobals x = some (some (.ref a)) → mg x = some (.ref a) := fun h => PySem.W.mg_of X G h
  have N : ∀ {x : Str}, PySem.W.nsIn K mainGlobals x = some none → mg x = none := fun h => PySem.W.mg_none_of X G h
  have isC : ExcC K DI := ⟨gaI, ggI, exI, hdI, caI, hn, ht, moI⟩
  have XI : XC K mg DI fI "InvalidProgram" "at" := ⟨⟨⟨_, _, _, _, _, _, _, _, _, _, _, _, _, _, _, xLI, refs_ok L⟩, saI, exI, tyI, kDI⟩, iniI, tiI, M aDI, noI, isC, ⟨gaI, ggI, exI, hdI⟩⟩
  have F_I := fun_mk (st := sIIP) l_I c_I k_I
  have b_I := F_I.binds (ps := ["self", "at"]) fun _ _ _ _ _ _ us hl => match us, hl with | [_, _], _ => rfl
  have FPI : FunD K "__init__" "Piece.__init__" (defArgs sPieceI) (defBody sPieceI) (defScope sPieceI) dPiece [] fPI _ :=
    ⟨⟨_, _, _, _, _, _, _, _, _, _, rfl, l_C, c_C, .inr ⟨(fun z => nomatch z), TC, _, _, _, rfl, lT, rfl, .cons rfl (.cons rfl (.cons ⟨_, rfl⟩ (.cons ⟨_, rfl⟩ (.cons ⟨_, rfl⟩ (.cons rfl .nil)))))⟩, .inl rfl⟩, k_C⟩
  have FGI : FunD K "__init__" "Program.__init__" (defArgs sProgI) (defBody sProgI) (defScope sProgI) [.ref eP] [] fGI _ :=
    ⟨⟨_, _, _, _, _, _, _, _, _, _, rfl, l_CP, c_CP, .inr ⟨(fun z => nomatch z), TCP, _, _, _, rfl, lP, rfl, .cons rfl .nil⟩, .inl rfl⟩, k_CP⟩
  have F_int := fun_mk (st := sInt) l_int c_int k_int
  have b_int := F_int.binds (ps := ["value"]) fun _ _ _ _ _ _ us hl => match us, hl with | [_], _ => rfl
  have F_num := fun_mk (st := sNum) l_num c_num k_num
  have b_num := F_num.binds (ps := ["value", "many"]) fun _ _ _ _ _ _ us hl => match us, hl with | [_, _], _ => rfl
  have F_seq := fun_mk (st := sSeq) l_seq c_seq k_seq
  have b_seq := F_seq.binds (ps := ["value"]) fun _ _ _ _ _ _ us hl => match us, hl with | [_], _ => rfl
  have F_name := fun_mk (st := sName) l_name c_name k_name
  have b_name := F_name.binds (ps := ["value"]) fun _ _ _ _ _ _ us hl => match us, hl with | [_], _ => rfl
  have F_names := fun_mk (st := sNames) l_names c_names k_names
  have b_names := F_names.binds (ps := ["value"]) fun _ _ _ _ _ _ us hl => match us, hl with | [_], _ => rfl
  have F_req := fun_mk (st := sReq) l_req c_req k_req
  have b_req := F_req.binds (ps := ["holds", "word"]) fun _ _ _ _ _ _ us hl => match us, hl with | [_, _], _ => rfl
  have F_rem := fun_mk (st := sRem) l_rem c_rem k_rem
  have b_rem := F_rem.binds (ps := ["value"]) fun _ _ _ _ _ _ us hl => match us, hl with | [_], _ => rfl
  have F_check := fun_mk (st := sCheck) l_check c_check k_check
  have b_check := F_check.binds (ps := ["value"]) fun _ _ _ _ _ _ us hl => match us, hl with | [_], _ => rfl
  have F_box := fun_mk (st := sBox) l_box c_box k_box
  have b_box := F_box.binds (ps := ["_law_script", "_law_k", "_law_own"]) fun _ _ _ _ _ _ us hl => match us, hl with | [_, _, _], _ => rfl
  have F_take := fun_mk (st := sTake) l_take c_take k_take
  have b_take := F_take.binds (ps := ["_law_box_here", "_law_many"]) fun _ _ _ _ _ _ us hl => match us, hl with | [_, _], _ => rfl
  have F_pick := fun_mk (st := sPick) l_pick c_pick k_pick
  have b_pick := F_pick.binds (ps := ["_law_box_here", "_law_items"]) fun _ _ _ _ _ _ us hl => match us, hl with | [_, _], _ => rfl
  have F_heard := fun_mk (st := sHeard) l_heard c_heard k_heard
  have b_heard := F_heard.binds (ps := ["_law_some"]) fun _ _ _ _ _ _ us hl => match us, hl with | [_], _ => rfl
  have F_law := fun_mk (st := sLaw) l_law c_law k_law
  have b_law := F_law.binds (ps := ["_law_script"]) fun _ _ _ _ _ _ us hl => match us, hl with | [_], _ => rfl
  have D : TxtD mg := ⟨N z_int, N z_len, N z_abs, N z_range⟩
  have T : TxtK mg := ⟨N z_int, N z_bool, N z_str, N z_list, N z_tuple, N z_isinstance, N z_len, N z_all, N z_enumerate⟩
  have cC : ClsI K C := ⟨⟨pgC, hdC, poC, saC⟩, tyC, caC, hn, ht, moC, nlC, ntC⟩
  have cP : ClsI K CP := ⟨⟨pgCP, hdCP, poCP, saCP⟩, tyCP, caCP, hn, ht, moCP, nlCP, ntCP⟩
  have ne : CP ≠ C := fun z => by
    rw [z, scc] at spc
    cases spc
  have neD : DI ≠ DP := fun z => by
    rw [← z, sSI] at sPI
    cases sPI
  have Kn : Kin K mg DI L DP := ⟨M aL, M aDP, kit_cls hL tL sLI (fun _ => rfl), kit_cls hDP tDP sPI (fun z => absurd (Value.ref.inj z) neD), PySem.W.exm_ref exI hdI tyI sSI⟩
  have mkC2 : Mk K C fPI := ⟨mkC, inC, fnC, kpC⟩
  have mkP2 : Mk K CP fGI := ⟨mkCP, inCP, fnCP, kpCP⟩
  have b1 := binds_piece FPI
  have b2 := binds_piece3 FPI
  have bP := binds_prog FGI
  refine ⟨PySem.W.fnOf "law" "law" (defArgs sLaw) (defBody sLaw) (defScope sLaw) .none kV_law dc_law pm_law an_law cd_law ct_law, fun s v => .of_eq rfl, fun base _ _ => ?_⟩
  have okName : FnOk l.prog w K mg base CX0 1 g_name _ ["value"] (spName K) := ok_name F_name T
  have okSeq : FnOk l.prog w K mg base CX0 1 g_seq _ ["value"] (spSeq K) := ok_seq F_seq T
  have okInt : FnOk l.prog w K mg base CX0 1 g_int _ ["value"] (spInt K) := ok_int F_int T
  have Dp : PieceD l.prog w K mg base g_req g_name g_names g_rem g_num _ _ _ _ _ := ⟨ok_req F_req, M a_req, k_req, b_req, okName, M a_name, k_name, b_name,
    ok_names F_names T okSeq (M a_seq) k_seq b_seq okName (M a_name) k_name b_name, M a_names, k_names, b_names, ok_rem F_rem T okName (M a_name) k_name b_name, M a_rem, k_rem, b_rem,
    ok_num F_num okInt (M a_int) k_int b_int, M a_num, k_num, b_num⟩
  have okPI := ok_pieceI (C := C) FPI T ⟨cC.cl, noC_word, noC_parts, noC_broken, noC_marked, noC_ahead, noC_behind, noC_blanks, noC_left⟩ Dp
  have okCheck := ok_check (P := l.prog) (w := w) (base := base) (C := C) F_check T okSeq (M a_seq) k_seq b_seq XI (ok_iIP F_I) b_I (M aC)
  have okGI := ok_progI FGI T ⟨cP.cl, noCP_pieces⟩ okCheck (M a_check) k_check b_check
  have okHeard := ok_heard F_heard T XI Kn mkP2 okGI (M aCP) bP
  exact ok_law F_law (T := ⟨N z_range, N z_max, N z_min, N z_len, N z_tuple, N z_list, N z_repr, cC, cP, spc, ne, mkC2, okPI, M aC, b1, b2, mkP2, okGI, M aCP, bP,
    ok_box F_box D, M a_box, k_box, b_box, ok_take F_take D, M a_take, k_take, b_take, ok_pick F_pick D F_take b_take (M a_take), M a_pick, k_pick, b_pick, okHeard, M a_heard, k_heard, b_heard⟩)
end Lay
open PySem PySem.W PyProof.Rows
set_option Elab.async false
set_option maxRecDepth 100000 in
set_option maxHeartbeats 0 in
theorem PySem.Challenge.cw_laytwice_k05_programs_refused_holds : PySem.Challenge.rw_laytwice_k05_programs_refused.Holds := by
  w_on; o_law; k_head; (case hw => w_witness2)
  k_fill
  refine L2.walk_of (l := PySem.Challenge.rw_laytwice_k05_programs_refused) (n := 63) (k := 7) (x := "_law_script") (CX := fun _ => L2.CX0) (sp := fun w => Lay.spLaw _) rfl (by decide) rfl ⟨rfl, by decide, by decide⟩ (fun w h Y => PySem.W.kIn_of Y) ?F (fun _ _ a ns hl _ hS => ⟨a, ns, rfl, hS, hl, fun _ => rfl⟩) (fun _ _ _ _ _ z => z.elim)
  case F =>
    intro w mg fa h KX G hmg
    refine' Lay.all_mk KX G hmg ?aL ?tL ?hL ?aDP ?tDP ?hDP ?aDI ?tyI ?kDI ?exI ?sLI ?sPI ?sSI ?gaI ?ggI ?hdI ?caI ?moI ?xLI ?saI ?iniI ?tiI ?noI ?l_I ?c_I ?k_I ?hn ?ht ?aC ?pgC ?hdC ?poC ?saC ?tyC ?caC ?moC ?nlC ?ntC ?noC_word ?noC_parts ?noC_broken ?noC_marked ?noC_ahead ?noC_behind ?noC_blanks ?noC_left ?mkC ?inC ?fnC ?kpC ?l_C ?c_C ?k_C ?aCP ?pgCP ?hdCP ?poCP ?saCP ?tyCP ?caCP ?moCP ?nlCP ?ntCP ?noCP_pieces ?mkCP ?inCP ?fnCP ?kpCP ?l_CP ?c_CP ?k_CP ?lT ?lP ?scc ?spc ?a_int ?l_int ?c_int ?k_int ?a_num ?l_num ?c_num ?k_num ?a_seq ?l_seq ?c_seq ?k_seq ?a_name ?l_name ?c_name ?k_name ?a_names ?l_names ?c_names ?k_names ?a_req ?l_req ?c_req ?k_req ?a_rem ?l_rem ?c_rem ?k_rem ?a_check ?l_check ?c_check ?k_check ?a_box ?l_box ?c_box ?k_box ?a_take ?l_take ?c_take ?k_take ?a_pick ?l_pick ?c_pick ?k_pick ?a_heard ?l_heard ?c_heard ?k_heard ?a_law ?l_law ?c_law ?k_law ?z_int ?z_bool ?z_str ?z_list ?z_tuple ?z_isinstance ?z_len ?z_all ?z_enumerate ?z_abs ?z_range ?z_max ?z_min ?z_repr
    (case aL => k_is)
    (case tL => k_is)
    (case hL => k_is)
    (case aDP => k_is)
    (case tDP => k_is)
    (case hDP => k_is)
    (case aDI => k_is)
    (case tyI => k_is)
    (case kDI => k_is)
    (case exI => k_is)
    (case sLI => k_is)
    (case sPI => k_is)
    (case sSI => k_is)
    (case gaI => k_is)
    (case ggI => k_is)
    (case hdI => k_is)
    (case caI => k_is)
    (case moI => k_is)
    (case xLI => k_is)
    (case saI => k_is)
    (case iniI => k_is)
    (case tiI => k_is)
    (case noI => k_is)
    (case l_I => k_is)
    (case c_I => k_is)
    (case k_I => k_is)
    (case hn => k_is)
    (case ht => k_is)
    (case aC => k_is)
    (case pgC => k_is)
    (case hdC => k_is)
    (case poC => k_is)
    (case saC => k_is)
    (case tyC => k_is)
    (case caC => k_is)
    (case moC => k_is)
    (case nlC => k_is)
    (case ntC => k_is)
    (case noC_word => k_is)
    (case noC_parts => k_is)
    (case noC_broken => k_is)
    (case noC_marked => k_is)
    (case noC_ahead => k_is)
    (case noC_behind => k_is)
    (case noC_blanks => k_is)
    (case noC_left => k_is)
    (case mkC => k_is)
    (case inC => k_is)
    (case fnC => k_is)
    (case kpC => k_is)
    (case l_C => k_is)
    (case c_C => k_is)
    (case k_C => k_is)
    (case aCP => k_is)
    (case pgCP => k_is)
    (case hdCP => k_is)
    (case poCP => k_is)
    (case saCP => k_is)
    (case tyCP => k_is)
    (case caCP => k_is)
    (case moCP => k_is)
    (case nlCP => k_is)
    (case ntCP => k_is)
    (case noCP_pieces => k_is)
    (case mkCP => k_is)
    (case inCP => k_is)
    (case fnCP => k_is)
    (case kpCP => k_is)
    (case l_CP => k_is)
    (case c_CP => k_is)
    (case k_CP => k_is)
    (case lT => k_is)
    (case lP => k_is)
    (case scc => k_is)
    (case spc => k_is)
    (case a_int => k_is)
    (case l_int => k_is)
    (case c_int => k_is)
    (case k_int => k_is)
    (case a_num => k_is)
    (case l_num => k_is)
    (case c_num => k_is)
    (case k_num => k_is)
    (case a_seq => k_is)
    (case l_seq => k_is)
    (case c_seq => k_is)
    (case k_seq => k_is)
    (case a_name => k_is)
    (case l_name => k_is)
    (case c_name => k_is)
    (case k_name => k_is)
    (case a_names => k_is)
    (case l_names => k_is)
    (case c_names => k_is)
    (case k_names => k_is)
    (case a_req => k_is)
    (case l_req => k_is)
    (case c_req => k_is)
    (case k_req => k_is)
    (case a_rem => k_is)
    (case l_rem => k_is)
    (case c_rem => k_is)
    (case k_rem => k_is)
    (case a_check => k_is)
    (case l_check => k_is)
    (case c_check => k_is)
    (case k_check => k_is)
    (case a_box => k_is)
    (case l_box => k_is)
    (case c_box => k_is)
    (case k_box => k_is)
    (case a_take => k_is)
    (case l_take => k_is)
    (case c_take => k_is)
    (case k_take => k_is)
    (case a_pick => k_is)
    (case l_pick => k_is)
    (case c_pick => k_is)
    (case k_pick => k_is)
    (case a_heard => k_is)
    (case l_heard => k_is)
    (case c_heard => k_is)
    (case k_heard => k_is)
    (case a_law => k_is)
    (case l_law => k_is)
    (case c_law => k_is)
    (case k_law => k_is)
    (case z_int => k_is)
    (case z_bool => k_is)
    (case z_str => k_is)
    (case z_list => k_is)
    (case z_tuple => k_is)
    (case z_isinstance => k_is)
    (case z_len => k_is)
    (case z_all => k_is)
    (case z_enumerate => k_is)
    (case z_abs => k_is)
    (case z_range => k_is)
    (case z_max => k_is)
    (case z_min => k_is)
    (case z_repr => k_is)
