import PyProof.Rows.All
import Wide.All
import OpenK.AllK
import Wide.FinOn
import HandS.ForMost
import KE.GoesEnum
import HandS.Ends
import PyProof.ReprRoads
import HandS.RaiseMore
import HandS.Codes
import HandS.TupAny
import KE.KExcTry
import KE.KExcStr
import KE.RegKSuper
import HandS.ForExc
import HandS.ExcInit
import HandS.ExcValue
import HandS.IsInst
import KE.KExcIs
import HandS.Lambda
import HandS.ExcField
import HandS.SortKw
import KE.DatumOrd
import HandS.Zip
import HandS.Style
import PyProof.NeKinds
import PyProof.Rows.EqBoolInt
import HandS.Defaults
import HandS.ExcIs
import KE.RegKIsAll
import HandS.EndTab
import PySem.Challenge.RW_cursorhouse_k78_steps_of_scripts
set_option Elab.async false
set_option linter.all false
set_option maxRecDepth 100000
set_option maxHeartbeats 32000000
/-! enumerate over a tuple, one argument. -/
namespace Drw
open PySem PySem.Spec PyProof.Rows L2
section
open Sem (wp)
theorem new_enum {v : Value} {o : Obj} {H : Heap → Prop} (B : Begins v o H) :
    Meets (Builtin.«enumerate.__new__» ⟨[.type "enumerate", v], []⟩) (fun _ R s => H s.heap ∧
      R (.ok (.ret (.ref (s.heap.push o).objs.size)))
        { s with heap := (s.heap.push o).push { cls := .type "enumerate", data := .fields #[.none, .bool false, .ref s.heap.objs.size, rawInt 0, .none, .none] } }) := by
  refine .of_wp fun prog w A R s h => ?_
  obtain ⟨hp, g, d, tk, os⟩ := s
  obtain ⟨h1, h⟩ := h
  have se := sub_enumerate
  have it : ∀ {A' : Around} {E : Value → Shared → Prop} {Q : Value → Shared → Prop}, Q (.ref hp.objs.size) ⟨hp.push o, g, d, tk, os⟩ →
      wpAny (model prog w) A' (pyIter v) Q E ⟨hp, g, d, tk, os⟩ := fun q => B.iter prog w _ _ _ _ h1 q
  wp_walk using it
  refine wpAny_stack_any fun st => wpAny_pure ?_
  split
  · rename_i c _ _ _ _ _
    cases (c == Value.type "enumerate") <;> (wp_walk using it; exact ⟨_, rfl, h⟩)
  · wp_walk using it
    exact ⟨_, rfl, h⟩
theorem call_enum {prog : Program} {w : World} {A : Around} {E : Value → Shared → Prop} {s : Shared} {v : Value} {o : Obj} {H : Heap → Prop} {Q : Value → Shared → Prop}
    (B : Begins v o H) (h1 : H s.heap)
    (h : ∀ h', IsEnum h' (s.heap.objs.size + 1) s.heap.objs.size 0 .none → h'.get? s.heap.objs.size = some o →
      (∀ b o, s.heap.get? b = some o → h'.get? b = some o) → Q (.ref (s.heap.objs.size + 1)) { s with heap := h' }) :
    wpAny (model prog w) A (call (.type "enumerate") [v]) Q E s := by
  refine callType_new F.called_enumerate (by decide) (F.typeCall_enumerate_1 _) (F.newCall_enumerate_1 _)
    (fun obj => F.args_object_init_2 obj _) F.entry_enumerate_new (new_enum B) ⟨h1, ?_⟩
  have hz : (s.heap.push o).objs.size = s.heap.objs.size + 1 := Heap.size_push ..
  have he := Heap.get?_push_size (s.heap.push o) (o := { cls := .type "enumerate", data := .fields #[.none, .bool false, .ref s.heap.objs.size, rawInt 0, .none, .none] }) rfl
  rw [hz] at he
  show _ ∧ _
  rw [hz]
  exact ⟨⟨_, he, rfl⟩, h _ he (Heap.get?_push_of_some _ (Heap.get?_push_size _ B.free)) fun b o x => Heap.get?_push_of_some _ (Heap.get?_push_of_some _ x)⟩
end
/-- the tuple at a, each item in a new pair with its place -/
def Ipt (K : PySem.W.Frag) (a : Addr) (xs : List V) : It where
  go := fun i H => SqT K H a xs ∧ i < xs.length
  yld := fun i H v H' => ∃ T x, v = .ref T ∧ H T = none ∧ xs[i]? = some x ∧ H' = upd H T (.tup [.int (i : Nat), x])
  stop := fun i H => SqT K H a xs ∧ xs.length = i
/-- where an enumerate e over a tuple iterator it stands -/
def EnT (e it a : Addr) (its : List Value) (i : Nat) (h : Heap) : Prop :=
  (∃ old, IsEnum h e it ((i : Nat) : Int) old) ∧ h.IsTupleIter it a i ∧ h.IsTuple a its.toArray
end Drw

namespace Drw
open PySem PySem.Spec PyProof.Rows L2
/-- an enumerate e over the tuple iterator it, i items taken -/
def EnI (e it a : Addr) (i : Nat) (h : Heap) : Prop := (∃ old, IsEnum h e it ((i : Nat) : Int) old) ∧ h.IsTupleIter it a i ∧ e ≠ it
theorem two {b e it : Addr} (hb : b ∈ [e, it]) : b = e ∨ b = it := by simpa using hb
theorem enI_lt {e it a : Addr} {i : Nat} {h : Heap} (st : EnI e it a i h) : ∀ b ∈ [e, it], b < h.objs.size := fun b hb => by
  obtain ⟨⟨old, he⟩, ⟨o, ho, _⟩, _⟩ := st
  rcases two hb with rfl | rfl
  · exact Heap.lt_size he
  · exact Heap.lt_size ho
theorem apart_tup {e it a : Addr} {i : Nat} {h : Heap} {its : Array Value} (st : EnI e it a i h) (t : h.IsTuple a its) : a ≠ it := fun z => by
  obtain ⟨_, ⟨o, ho, hc, _⟩, _⟩ := st
  obtain ⟨o', ho', hc', _⟩ := t
  rw [z, ho] at ho'
  cases ho'
  rw [hc] at hc'
  exact absurd (Value.type.inj hc') (by decide)
theorem turn_ipt {P : Program} {w : World} {K : PySem.W.Frag} {elts : List Expr} {kk : Nat} {tpos : Pos} (a e it : Addr) (xs : List V) :
    Turn P w K (.Tuple elts kk tpos) (Ipt K a xs) [e, it] e (EnI e it a) where
  mem := List.mem_cons_self
  obj := fun i h st b hb => by
    obtain ⟨⟨old, he⟩, ⟨o, ho, _, hd⟩, _⟩ := st
    rcases two hb with rfl | rfl
    · exact ⟨_, he, fun v q => nomatch q⟩
    · exact ⟨o, ho, fun v q => by rw [hd] at q; cases q⟩
  keep := fun i h h' ⟨⟨old, he⟩, hi, hne⟩ k => ⟨⟨old, k e (by simp) _ he⟩, hi.at fun o q => k it (by simp) o q, hne⟩
  item := by
    intro X hP hw hK hc i pins s σ H E I hf st hg
    subst hP hw hK
    obtain ⟨hq, hi⟩ := hg
    obtain ⟨its, rv, tp, _⟩ := I.tuple hq
    have tp' : s.heap.IsTuple a its.toArray := tp
    have old_lt := enI_lt st
    have hat := apart_tup st tp'
    obtain ⟨⟨old, he⟩, hit, hne⟩ := st
    have hx : xs[i]? = some xs[i] := List.getElem?_eq_getElem hi
    have hl := rv.length
    have D : Draws X.prog X.w X.A.in1 it [it, a] its.toArray.size _ _ := Draws.tuple (A := X.A.in1) (I.ok.hd hc) it a hat its.toArray
    have hea : e ∉ [it, a] := fun z => by
      rcases two z with z | z
      · exact hne z
      · rw [z] at he
        obtain ⟨o', ho', hc', _⟩ := tp'
        have y := Option.some.inj (he.symm.trans ho')
        rw [← y] at hc'
        exact absurd (Value.type.inj hc') (by decide)
    refine wpAny_pyNext_enum_itemC D he ⟨hit, tp'⟩ (by simp; omega) hne hea fun u h' tk hu ho st' hT hsz hk => ?_
    refine ⟨_, rfl, wpAny_letOwnedTupleGo_enum (s := ⟨h', s.gens, s.drawn, tk + 1, s.os⟩) ho fun h2 he2 sb => ?_⟩
    have hel : e < s.heap.objs.size := old_lt e (by simp)
    have hT2 : h2.get? s.heap.objs.size = some { cls := .type "tuple", data := .seq #[.int i tk, u] } := (sb.2 _ (Nat.ne_of_gt hel)).trans hT
    obtain ⟨u', hu', ru⟩ := rv.get hx
    have eu : u' = u := by
      have y : its[i]? = some u := by simpa using hu
      exact Option.some.inj (hu'.symm.trans y)
    subst eu
    have new : ObjOk X.prog X.w (upd H s.heap.objs.size (.tup [.int (i : Nat), xs[i]])) h2 s.heap.objs.size (.tup [.int (i : Nat), xs[i]]) :=
      ⟨by show 2 ≤ sizeLine; decide, [.int i tk, u'], .cons ⟨_, rfl⟩ (.cons ru .nil), ⟨_, hT2, rfl, _, rfl⟩⟩
    have kk' : ∀ b ob, b ∉ [e, it] → s.heap.get? b = some ob → h2.get? b = some ob := fun b ob hb q =>
      (sb.2 b fun z => hb (by simp [z])).trans (hk b ob (fun z => hb (by simp [z])) (fun z => hb (by simp [z])) q)
    have J := I.turnedNew (t' := tk + 1) kk' hf (Nat.le_refl _) new
    refine ⟨.ref s.heap.objs.size, _, J, rfl, ⟨_, xs[i], rfl, I.hok.fresh (Nat.le_refl _), hx, rfl⟩, ⟨⟨u', ?_⟩, ?_, hne⟩, fun b hb => ?_⟩
    · have e1 : ((i + 1 : Nat) : Int) = (i : Int) + 1 := by omega
      rw [e1]
      exact he2
    · exact st'.1.at fun o q => (sb.2 it (Ne.symm hne)).trans q
    · rw [upd_ne (Nat.ne_of_lt (old_lt b hb))]
      exact (hf b hb).1
  done := by
    intro X hP hw hK hc i pins s σ H E I hf st hg
    subst hP hw hK
    obtain ⟨hq, hi⟩ := hg
    obtain ⟨its, rv, tp, _⟩ := I.tuple hq
    have tp' : s.heap.IsTuple a its.toArray := tp
    have hat := apart_tup st tp'
    obtain ⟨⟨old, he⟩, hit, hne⟩ := st
    have hl := rv.length
    have D : Draws X.prog X.w X.A.in1 it [it, a] its.toArray.size _ _ := Draws.tuple (A := X.A.in1) (I.ok.hd hc) it a hat its.toArray
    have hi' : i = its.toArray.size := by simp; omega
    subst hi'
    obtain ⟨f0, f1, f2, f3, f4, f5⟩ := hf it (by simp)
    exact wpAny_pyNext_enum_endD D he ⟨hit, tp'⟩ fun h' eb => ⟨rfl, I.turned (t' := s.toks) (fun b o hb q => eb b o hb q) f0 f1 f3 f4 f5⟩
  self := fun A i s Q E st h => by
    obtain ⟨⟨_, he⟩, _⟩ := st
    exact wpAny_pyIter_enum he h
def iEnT (K : PySem.W.Frag) (ta : TA) : TI := fun σ H R => ta σ H fun vs H1 => ∃ a xs, vs = [.ref a] ∧ SqT K H1 a xs ∧ R (Ipt K a xs) H1
theorem pi_enT {X : Cx} {e : Expr} {ta : TA} {p pos tpos : Pos} {elts : List Expr} {kk : Nat} (hg : Gl X "enumerate") (hm : X.mg "enumerate" = none) (ha : PA X [e] ta)
    (hs : starEach [e] X.env = [(false, eval e X.env)] := by rfl) : PI X (.Tuple elts kk tpos) (.Call (.Name "enumerate" p) [e] [] pos) (iEnT X.K ta) := by
  refine ⟨fun pins s σ H R I h => ?_⟩
  refine Call_ (ld_blt I hg hm boot_enumerate ?_)
  refine PyProof.Rows.callWith_type1 (thn (ha.run pos pins s σ H _ I h) fun us s1 ⟨vs, H1, I1, r1, q1⟩ => ?_) hs rfl
  obtain ⟨a, xs, rfl, hq, q⟩ := q1
  obtain ⟨u, rfl, ru⟩ : ∃ u, us = [u] ∧ RelV (.ref a) u := by
    cases r1 with
    | cons r rr =>
      cases rr
      exact ⟨_, rfl, r⟩
  obtain rfl : u = Value.ref a := ru
  obtain ⟨its, rv, tp, _⟩ := I1.tuple hq
  refine call_enum (begins_tuple a its.toArray) tp fun h' he hit hk => wpAny_pyIter_enum he ?_
  refine ⟨s1.heap.objs.size + 1, [s1.heap.objs.size + 1, s1.heap.objs.size], _, _, H1, rfl, I1.kept (t' := s1.toks) hk,
    turn_ipt a (s1.heap.objs.size + 1) s1.heap.objs.size xs, ⟨⟨.none, he⟩, ⟨_, hit, rfl, rfl⟩, Nat.succ_ne_self _⟩, fun b hb => ?_, q⟩
  have hle : s1.heap.objs.size ≤ b := by
    rcases two hb with rfl | rfl
    · exact Nat.le_succ _
    · exact Nat.le_refl _
  exact I1.fpOk hle (I1.hok.fresh hle)
end Drw

namespace Drw
open PySem PySem.Spec PyProof.Rows L2
def topS (i : Nat) : Stmt := PySem.Challenge.pw_cursorhouse_k78_steps_of_scripts.main.body.getD i (.Pass ⟨0, 0, 0, 0⟩)
abbrev sErr0 : Stmt := topS 1
abbrev sErr1 : Stmt := topS 2
abbrev sErr2 : Stmt := topS 3
abbrev sShRef : Stmt := topS 10
abbrev sReRef : Stmt := topS 11
abbrev sExRef : Stmt := topS 12
abbrev sIdle : Stmt := topS 13
abbrev sChecked : Stmt := topS 20
abbrev sCheckedOne : Stmt := topS 21
abbrev sMay : Stmt := topS 22
abbrev sOpenB : Stmt := topS 23
abbrev sReadB : Stmt := topS 24
abbrev sIsRef : Stmt := topS 25
abbrev sLockRef : Stmt := topS 26
abbrev sLockB : Stmt := topS 27
abbrev sTaken : Stmt := topS 28
abbrev sPlain : Stmt := topS 30
abbrev sFirstState : Stmt := topS 32
abbrev sNextState : Stmt := topS 33
abbrev sFirst : Stmt := topS 34
abbrev sCan : Stmt := topS 35
abbrev sTried : Stmt := topS 36
abbrev sFresh : Stmt := topS 38
abbrev sFill : Stmt := topS 39
abbrev sTake : Stmt := topS 40
abbrev sOne : Stmt := topS 41
abbrev sSame : Stmt := topS 42
abbrev sScript : Stmt := topS 43
abbrev sScripts : Stmt := topS 44
abbrev sRefused : Stmt := topS 45
abbrev sBehind : Stmt := topS 46
abbrev sAfter : Stmt := topS 47
abbrev sBegun : Stmt := topS 48
abbrev sLeft : Stmt := topS 49
abbrev sHanded : Stmt := topS 50
abbrev sMisused : Stmt := topS 51
abbrev sOdd : Stmt := topS 52
abbrev sLaw : Stmt := topS 53
end Drw

namespace Drw
open PySem PySem.Spec PyProof.Rows L2
theorem scFresh : FnScope ["_law_script_here"] ["_law_script_here"] (defScope sFresh) := ⟨rfl, rfl, rfl, by decide +kernel, rfl, by decide +kernel, by decide +kernel⟩
theorem scFill : FnScope ["_law_state", "_law_cells", "_law_nth", "_law_seed", "_law_k", "_law_prime", "_law_far"] ["_law_state"] (defScope sFill) := ⟨rfl, rfl, rfl, by decide +kernel, rfl, by decide +kernel, by decide +kernel⟩
theorem scTake : FnScope ["_law_state", "_law_many", "_law_turns", "_law_digit"] ["_law_state", "_law_many"] (defScope sTake) := ⟨rfl, rfl, rfl, by decide +kernel, rfl, by decide +kernel, by decide +kernel⟩
theorem scOne : FnScope ["_law_state", "_law_things"] ["_law_state", "_law_things"] (defScope sOne) := ⟨rfl, rfl, rfl, by decide +kernel, rfl, by decide +kernel, by decide +kernel⟩
/-- a list of a state for draws stands at l, its cells at c -/
structure Stt (H : Hp) (l c : Addr) (ns : List Int) : Prop where
  ex : ∃ (nth left : Int) (mix : Bool), H l = some (.lst [.ref c, .int nth, .int left, .bl mix])
  cs : H c = some (.lst (ns.map V.int))
  ne : l ≠ c
  few : ns.length ≤ 63
/-- what was tracked stands, but at l -/
def Kp (l : Addr) (H H' : Hp) : Prop := ∀ b o, b ≠ l → H b = some o → H' b = some o
theorem Kp.refl {l : Addr} {H : Hp} : Kp l H H := fun _ _ _ e => e
theorem Kp.trans {l : Addr} {H H' H'' : Hp} (h : Kp l H H') (k : Kp l H' H'') : Kp l H H'' := fun b o n e => k b o n (h b o n e)
theorem Kp.put {l : Addr} {H H' : Hp} {o : HO} (h : Kp l H H') : Kp l H (upd H' l o) := fun b u n e => by
  rw [upd_ne n]
  exact h b u n e
theorem Kp.new {l p : Addr} {H H' : Hp} {o : HO} (h : Kp l H H') (hp : H' p = none) : Kp l H (upd H' p o) := fun b u n e => by
  have z := h b u n e
  rw [upd_ne (ne_of_none z hp)]
  exact z
def spFill : Sp := fun vs H Q _ => ∃ (l c : Addr) (ns : List Int), vs = [.ref l] ∧ Stt H l c ns ∧ ∀ H', Kp l H H' → Stt H' l c ns → Q .non H'
section
variable {P : Program} {w : World} {K : PySem.W.Frag} {mg : Str → Option Value} {base : Heap}
theorem sq {H : Hp} {p : Addr} {xs : List V} (h : H p = some (.lst xs)) : SqL K H p xs := .inl (.inl h)
theorem sqt {H : Hp} {p : Addr} {xs : List V} (h : H p = some (.tup xs)) : SqT K H p xs := .inl (.inl h)
/-- item i of the state's list, and its store -/
theorem at3 {a b c d : V} (i : Nat) (v : V) (h : [a, b, c, d][i]? = some v) : atI [a, b, c, d] (i : Int) = some v := atI_nat h
def primes : List Int := [2147483647, 2147483629, 2147483587, 2147483579, 2147483563]
theorem prime_at {i : Nat} {x : V} (h : (primes.map V.int)[i]? = some x) : ∃ p : Int, x = .int p ∧ 0 < p ∧ p < 2 ^ 32 := by
  rw [List.getElem?_map] at h
  cases e : primes[i]? with
  | none => rw [e] at h; cases h
  | some p =>
    rw [e] at h
    have hm := List.mem_of_getElem? e
    have all : ∀ q ∈ primes, 0 < q ∧ q < 2 ^ 32 := by decide
    exact ⟨p, (Option.some.inj h).symm, all p hm⟩
theorem ok_fill {f : Addr} {fd : FuncData} (F : Fun K "_law_fill" "_law_fill" sFill f fd) (ml : mg "len" = none) (mi : mg "int" = none) (me : mg "enumerate" = none) :
    FnOk P w K mg base CX0 1 f fd ["_law_state"] spFill := by
  refine F.ok scFill (fun vs H Q E h => ?_) (fun cdv A outer s H vs Q E hr h => ?_)
  · obtain ⟨l, c, ns, rfl, _⟩ := h
    rfl
  · obtain ⟨l, c, ns, rfl, ⟨⟨nth, left, mix, hl⟩, hc, hlc, hn⟩, q⟩ := h
    refine ⟨_, pss_cons (ps_par (i := 1) (j := 2) rfl scFill.nd rfl rfl (by decide) rfl rfl (pa_cons (pe_ix ix_list (pv 0) pe_int (fun _ _ => rfl)) (pa_cons (pe_ix ix_list (pv 0) pe_int (fun _ _ => rfl)) pa_nil)) rfl)
      (pss_cons (ps_set (i := 3) scFill.nd rfl (.inl rfl) (pe_op op_add (pe_op op_mul pe_int (pv 2)) pe_int))
      (pss_cons (ps_if (pt_cmpR op_gt (pe_callB call_len_seq (by rfl) ml PySem.boot_len (pa_cons (pv 1) pa_nil)) pe_int (nomark _))
        (pss_one (ps_set (i := 3) scFill.nd rfl (.inl rfl) (pe_op op_add
          (pe_op op_mul pe_int (pe_op op_fdiv (pv 2) (pe_callB call_len_seq (by rfl) ml PySem.boot_len (pa_cons (pv 1) pa_nil))))
          (pe_ix ix_list (pv 1) (pe_op op_mod (pe_callTy call_int1 (by rfl) mi PySem.Pv.boot_int (pa_cons (pv 2) pa_nil)) (pe_callB call_len_seq (by rfl) ml PySem.boot_len (pa_cons (pv 1) pa_nil))) (fun _ _ => rfl))))) pss_nil)
      (pss_cons (ps_asg (pe_op op_add (pv 2) pe_int) (pg_sub (pv 0) pe_int set_list))
      (pss_cons (ps_asg (pe_or (pe_cmpR op_ge (pv 2) (pe_callB call_len_seq (by rfl) ml PySem.boot_len (pa_cons (pv 1) pa_nil)) (nomark _))
          (pe_one (pe_cmpR op_lt (pv 3) (pe_op op_pow pe_int pe_int) (nomark _)))) (pg_sub (pv 0) pe_int set_list))
      (pss_cons (ps_asg (pe_op op_sub (pv 3) (pe_op op_pow pe_int pe_int)) (pg_sub (pv 0) pe_int set_list))
      (pss_one (ps_if (pt_truth (pe_ix ix_list (pv 0) pe_int (fun _ _ => rfl)) (fun _ => rfl))
        (pss_cons (ps_asg pe_int (pg_sub (pv 0) pe_int set_list))
        (pss_one (ps_for PassesOwn.never rfl (pi_enT (by rfl) me (pa_cons (pe_tup (pa_cons pe_int (pa_cons pe_int (pa_cons pe_int (pa_cons pe_int (pa_cons pe_int pa_nil)))))) pa_nil))
            (pg_tup rfl (pgs_cons (pg_name (i := 4) scFill.nd rfl (.inl rfl)) (pgs_cons (pg_name (i := 5) scFill.nd rfl (.inl rfl)) pgs_nil)))
          (pss_cons (ps_set (i := 6) scFill.nd rfl (.inl rfl) (pe_op op_mod (pe_callTy call_int1 (by rfl) mi PySem.Pv.boot_int (pa_cons
              (pe_op op_mul (pe_op op_add (pe_op op_add (pv 3) (pe_op op_mul (pe_op op_mul pe_int (pv 4)) (pv 4))) (pe_op op_mul pe_int (pv 4))) (pe_op op_add pe_int (pe_op op_mul pe_int (pv 4)))) pa_nil)) (pv 5)))
          (pss_one (ps_asg (pe_op op_add (pe_op op_mul (pe_ix ix_list (pv 0) pe_int (fun _ _ => rfl)) (pv 5))
              (pe_op op_mod (pe_callTy call_int1 (by rfl) mi PySem.Pv.boot_int (pa_cons (pe_op op_pow (pv 6) pe_int) pa_nil)) (pv 5))) (pg_sub (pv 0) pe_int set_list)))))))
        pss_nil))))))), ?_⟩
    have hlen : (ns.map V.int).length = ns.length := List.length_map ..
    -- the two names
    refine ⟨.ref l, rfl, l, _, 0, .ref c, rfl, rfl, sq hl, atI_nat (j := 0) rfl, .ref l, rfl, l, _, 1, .int nth, rfl, rfl, sq hl, atI_nat (j := 1) rfl, _, _, rfl, ?_⟩
    -- the seed
    refine ⟨.int nth, rfl, 31, nth, rfl, rfl, .inl ⟨by decide, by decide⟩, _, 7, rfl, rfl, ?_⟩
    refine ⟨.ref c, rfl, c, _, rfl, .inl (sq hc), _, 0, rfl, rfl, _, rfl, ite2 (fun e => ?ga) (fun e => ?gb)⟩
    case' ga =>
      have h0 : (0 : Int) < ((ns.map V.int).length : Int) := of_decide_eq_true e
      have hpos : 0 < ns.length := by omega
      have hsm : ((ns.map V.int).length : Int) < 1073741824 := by omega
      obtain ⟨j, hj⟩ : ∃ j : Nat, nth % ((ns.map V.int).length : Int) = j := Int.eq_ofNat_of_zero_le (Int.emod_nonneg _ (by omega))
      have hjl : j < ns.length := by
        have z := Int.emod_lt_of_pos nth h0
        omega
      have hat : atI (ns.map V.int) (nth % ((ns.map V.int).length : Int)) = some (.int ns[j]) := by
        rw [hj]
        refine atI_nat ?_
        rw [List.getElem?_map, List.getElem?_eq_getElem hjl]
        rfl
      refine ⟨.int nth, rfl, .ref c, rfl, c, _, rfl, .inl (sq hc), nth, _, rfl, rfl, ⟨h0, hsm⟩, 104729, _, rfl, rfl, .inl ⟨by decide, by decide⟩, ?_⟩
      refine ⟨.ref c, rfl, .int nth, rfl, .inl ⟨nth, rfl, .ref c, rfl, c, _, rfl, .inl (sq hc), nth, _, rfl, rfl, h0, c, _, _, .int ns[j], rfl, rfl, sq hc, hat, _, _, rfl, rfl, ?_⟩⟩
    all_goals
      -- the state: one draw more
      refine ⟨.int nth, rfl, nth, 1, rfl, rfl, .ref l, rfl, l, _, 1, 1, rfl, rfl, hl, rfl, ?_⟩
      have k1 : Kp l H (upd H l (.lst [.ref c, .int (nth + 1), .int left, .bl mix])) := Kp.refl.put
      have c1 := k1 c _ (Ne.symm hlc) hc
      refine ⟨.int nth, rfl, .ref c, rfl, c, _, rfl, .inl (sq c1), nth, _, rfl, rfl, _, rfl, ite2 (fun e2 => ?_) (fun e2 => ?_)⟩
      · refine ⟨.ref l, rfl, l, _, 3, 3, rfl, rfl, upd_same, rfl, ?_⟩
        refine ⟨_, rfl, 10, 18, rfl, rfl, ⟨by decide, by decide, by decide⟩, _, _, rfl, rfl, .ref l, rfl, l, _, 2, 2, rfl, rfl, upd_same, rfl, ?_⟩
        refine ⟨.ref l, rfl, l, _, 3, .bl _, rfl, rfl, sq upd_same, atI_nat (j := 3) rfl, _, rfl, ite2 (fun e3 => ?_) (fun e3 => ?_)⟩
        · refine ⟨.ref l, rfl, l, _, 2, 2, rfl, rfl, upd_same, rfl, ?_⟩
          refine ⟨by show 5 ≤ sizeLine; decide, fun t nt => ⟨t, _, rfl, sqt upd_same, ?_⟩⟩
          have k3 := Kp.new (l := l) (H := H) (o := .tup (primes.map V.int)) (by exact k1.put.put.put) nt
          have tl : t ≠ l := fun z => by
            rw [z, upd_same] at nt
            cases nt
          refine ⟨fun i m σ H' => ∃ (y3 : Int) (y4 y5 y6 : Option V) (left' : Int) (mix' : Bool), σ = [some (.ref l), some (.ref c), some (.int nth), some (.int y3), y4, y5, y6] ∧ i + m = 5 ∧ Kp l H H' ∧
              H' t = some (.tup (primes.map V.int)) ∧ H' l = some (.lst [.ref c, .int (nth + 1), .int left', .bl mix']),
            ⟨5, _, none, none, none, 0, _, rfl, rfl, k3, upd_same, (upd_ne tl.symm).trans upd_same⟩, fun i m σ H' hW => ?_⟩
          obtain ⟨y3, y4, y5, y6, left', mix', rfl, em, kW, tW, lW⟩ := hW
          by_cases hi : i < 5
          · refine .inr ⟨⟨sqt tW, hi⟩, fun σ' H'' => ∃ (y4 y5 y6 : Option V) (left' : Int), σ' = [some (.ref l), some (.ref c), some (.int nth), some (.int y3), y4, y5, y6] ∧ Kp l H H'' ∧
                H'' t = some (.tup (primes.map V.int)) ∧ H'' l = some (.lst [.ref c, .int (nth + 1), .int left', .bl mix']), fun σ' H'' hN => ?_, fun x H'' hy => ?_⟩
            · obtain ⟨z4, z5, z6, z, e, k', t', l'⟩ := hN
              exact ⟨m - 1, by omega, y3, z4, z5, z6, z, mix', e, by omega, k', t', l'⟩
            · obtain ⟨T, x, rfl, nT, hx, rfl⟩ := hy
              obtain ⟨p, rfl, p0, p1⟩ := prime_at hx
              have lT : l ≠ T := ne_of_none lW nT
              have tT : t ≠ T := ne_of_none tW nT
              refine ⟨T, _, rfl, sqt upd_same, rfl, _, _, rfl, _, _, rfl, rfl, ?_⟩
              have b4 : -(2 ^ 64) < (i : Int) ∧ (i : Int) < 2 ^ 64 := ⟨by omega, by omega⟩
              have b5 : -(2 ^ 64) < (48271 + 2 * (i : Int)) ∧ (48271 + 2 * (i : Int)) < 2 ^ 64 := ⟨by omega, by omega⟩
              have b6 : -(2 ^ 64) < p ∧ p < 2 ^ 64 := ⟨by omega, by omega⟩
              refine ⟨.int y3, rfl, .int i, rfl, 10007, i, rfl, rfl, .inl ⟨by decide, by decide⟩, .int i, rfl, _, i, rfl, rfl, .inr b4, y3, _, rfl, rfl, .int i, rfl, 101, i, rfl, rfl, .inl ⟨by decide, by decide⟩, _, _, rfl, rfl,
                .int i, rfl, 2, i, rfl, rfl, .inl ⟨by decide, by decide⟩, 48271, _, rfl, rfl, _, _, rfl, rfl, .inr b5, .inl ⟨_, rfl, .int p, rfl, _, p, rfl, rfl, p0, ?_⟩⟩
              have far0 : ∀ z : Int, (z % p).natAbs < 2 ^ 64 := fun z => by
                have h1 := Int.emod_nonneg z (by omega : p ≠ 0)
                have h2 := Int.emod_lt_of_pos z p0
                omega
              refine ⟨.ref l, rfl, l, _, 2, .int left', rfl, rfl, sq ((upd_ne lT).trans lW), atI_nat (j := 2) rfl, .int p, rfl, left', p, rfl, rfl, .inr b6, _, rfl, _, 5, rfl, rfl, ⟨by decide, by decide, far0 _⟩, .inl ⟨_, rfl, .int p, rfl, _, p, rfl, rfl, p0, _, _, rfl, rfl,
                .ref l, rfl, l, _, 2, 2, rfl, rfl, (upd_ne lT).trans lW, rfl, ?_⟩⟩
              exact ⟨some (.int i), some (.int p), _, _, rfl, (kW.new nT).put, (upd_ne tl).trans ((upd_ne tT).trans tW), upd_same⟩
          · refine .inl ⟨⟨sqt tW, by show 5 = i; omega⟩, ?_⟩
            exact q _ kW ⟨⟨_, _, _, lW⟩, kW c _ (Ne.symm hlc) hc, hlc, hn⟩
        · exact q _ k1.put.put ⟨⟨_, _, _, upd_same⟩, k1.put.put c _ (Ne.symm hlc) hc, hlc, hn⟩
      · refine ⟨_, rfl, 10, 18, rfl, rfl, ⟨by decide, by decide, by decide⟩, _, _, rfl, rfl, .ref l, rfl, l, _, 3, 3, rfl, rfl, upd_same, rfl, ?_⟩
        refine ⟨_, rfl, 10, 18, rfl, rfl, ⟨by decide, by decide, by decide⟩, _, _, rfl, rfl, .ref l, rfl, l, _, 2, 2, rfl, rfl, upd_same, rfl, ?_⟩
        refine ⟨.ref l, rfl, l, _, 3, .bl _, rfl, rfl, sq upd_same, atI_nat (j := 3) rfl, _, rfl, ite2 (fun e3 => ?_) (fun e3 => ?_)⟩
        · refine ⟨.ref l, rfl, l, _, 2, 2, rfl, rfl, upd_same, rfl, ?_⟩
          refine ⟨by show 5 ≤ sizeLine; decide, fun t nt => ⟨t, _, rfl, sqt upd_same, ?_⟩⟩
          have k3 := Kp.new (l := l) (H := H) (o := .tup (primes.map V.int)) (by exact k1.put.put.put) nt
          have tl : t ≠ l := fun z => by
            rw [z, upd_same] at nt
            cases nt
          refine ⟨fun i m σ H' => ∃ (y3 : Int) (y4 y5 y6 : Option V) (left' : Int) (mix' : Bool), σ = [some (.ref l), some (.ref c), some (.int nth), some (.int y3), y4, y5, y6] ∧ i + m = 5 ∧ Kp l H H' ∧
              H' t = some (.tup (primes.map V.int)) ∧ H' l = some (.lst [.ref c, .int (nth + 1), .int left', .bl mix']),
            ⟨5, _, none, none, none, 0, _, rfl, rfl, k3, upd_same, (upd_ne tl.symm).trans upd_same⟩, fun i m σ H' hW => ?_⟩
          obtain ⟨y3, y4, y5, y6, left', mix', rfl, em, kW, tW, lW⟩ := hW
          by_cases hi : i < 5
          · refine .inr ⟨⟨sqt tW, hi⟩, fun σ' H'' => ∃ (y4 y5 y6 : Option V) (left' : Int), σ' = [some (.ref l), some (.ref c), some (.int nth), some (.int y3), y4, y5, y6] ∧ Kp l H H'' ∧
                H'' t = some (.tup (primes.map V.int)) ∧ H'' l = some (.lst [.ref c, .int (nth + 1), .int left', .bl mix']), fun σ' H'' hN => ?_, fun x H'' hy => ?_⟩
            · obtain ⟨z4, z5, z6, z, e, k', t', l'⟩ := hN
              exact ⟨m - 1, by omega, y3, z4, z5, z6, z, mix', e, by omega, k', t', l'⟩
            · obtain ⟨T, x, rfl, nT, hx, rfl⟩ := hy
              obtain ⟨p, rfl, p0, p1⟩ := prime_at hx
              have lT : l ≠ T := ne_of_none lW nT
              have tT : t ≠ T := ne_of_none tW nT
              refine ⟨T, _, rfl, sqt upd_same, rfl, _, _, rfl, _, _, rfl, rfl, ?_⟩
              have b4 : -(2 ^ 64) < (i : Int) ∧ (i : Int) < 2 ^ 64 := ⟨by omega, by omega⟩
              have b5 : -(2 ^ 64) < (48271 + 2 * (i : Int)) ∧ (48271 + 2 * (i : Int)) < 2 ^ 64 := ⟨by omega, by omega⟩
              have b6 : -(2 ^ 64) < p ∧ p < 2 ^ 64 := ⟨by omega, by omega⟩
              refine ⟨.int y3, rfl, .int i, rfl, 10007, i, rfl, rfl, .inl ⟨by decide, by decide⟩, .int i, rfl, _, i, rfl, rfl, .inr b4, y3, _, rfl, rfl, .int i, rfl, 101, i, rfl, rfl, .inl ⟨by decide, by decide⟩, _, _, rfl, rfl,
                .int i, rfl, 2, i, rfl, rfl, .inl ⟨by decide, by decide⟩, 48271, _, rfl, rfl, _, _, rfl, rfl, .inr b5, .inl ⟨_, rfl, .int p, rfl, _, p, rfl, rfl, p0, ?_⟩⟩
              have far0 : ∀ z : Int, (z % p).natAbs < 2 ^ 64 := fun z => by
                have h1 := Int.emod_nonneg z (by omega : p ≠ 0)
                have h2 := Int.emod_lt_of_pos z p0
                omega
              refine ⟨.ref l, rfl, l, _, 2, .int left', rfl, rfl, sq ((upd_ne lT).trans lW), atI_nat (j := 2) rfl, .int p, rfl, left', p, rfl, rfl, .inr b6, _, rfl, _, 5, rfl, rfl, ⟨by decide, by decide, far0 _⟩, .inl ⟨_, rfl, .int p, rfl, _, p, rfl, rfl, p0, _, _, rfl, rfl,
                .ref l, rfl, l, _, 2, 2, rfl, rfl, (upd_ne lT).trans lW, rfl, ?_⟩⟩
              exact ⟨some (.int i), some (.int p), _, _, rfl, (kW.new nT).put, (upd_ne tl).trans ((upd_ne tT).trans tW), upd_same⟩
          · refine .inl ⟨⟨sqt tW, by show 5 = i; omega⟩, ?_⟩
            exact q _ kW ⟨⟨_, _, _, lW⟩, kW c _ (Ne.symm hlc) hc, hlc, hn⟩
        · exact q _ k1.put.put ⟨⟨_, _, _, upd_same⟩, k1.put.put c _ (Ne.symm hlc) hc, hlc, hn⟩
end
end Drw

namespace Drw
open PySem PySem.Spec PyProof.Rows L2
def spTake : Sp := fun vs H Q _ => ∃ (l c : Addr) (ns : List Int) (many : Int), vs = [.ref l, .int many] ∧ 0 < many ∧ many < 536870912 ∧ Stt H l c ns ∧
  ∀ H' d, Kp l H H' → Stt H' l c ns → 0 ≤ d → d < many → Q (.int d) H'
section
variable {P : Program} {w : World} {K : PySem.W.Frag} {mg : Str → Option Value} {base : Heap}
theorem ok_take {f fF : Addr} {fd fdF : FuncData} (F : Fun K "_law_take" "_law_take" sTake f fd) (FF : Fun K "_law_fill" "_law_fill" sFill fF fdF) (bF : Binds K fdF ["_law_state"] []) (gF : mg "_law_fill" = some (.ref fF))
    (ml : mg "len" = none) (mi : mg "int" = none) (me : mg "enumerate" = none) : FnOk P w K mg base CX0 2 f fd ["_law_state", "_law_many"] spTake := by
  have GF : FnOk P w K mg base CX0 1 fF fdF ["_law_state"] spFill := ok_fill FF ml mi me
  refine F.ok scTake (fun vs H Q E h => ?_) (fun cdv A outer s H vs Q E hr h => ?_)
  · obtain ⟨l, c, ns, many, rfl, _⟩ := h
    rfl
  · obtain ⟨l, c, ns, many, rfl, m0, m1, st, q⟩ := h
    have mb : -(2 ^ 64) < many ∧ many < 2 ^ 64 := ⟨by omega, by omega⟩
    have mb2 : -(2 ^ 64) < many * 4096 ∧ many * 4096 < 2 ^ 64 := ⟨by omega, by omega⟩
    refine ⟨_, pss_cons (ps_set (i := 2) scTake.nd rfl (.inl rfl) pe_int)
      (pss_cons (ps_while PassesOwn.never (PW.pt (pw_and (pt_cmpR op_lt (pv 2) pe_int (nomark _)) (pw_and1 (PW.pt (pw_or (pt_cmpR op_eq (pe_ix ix_list (pv 0) pe_int (fun _ _ => rfl)) pe_int (nomark _))
          (pw_or1 (PW.pt (pw_and (pt_truth (pe_ix ix_list (pv 0) pe_int (fun _ _ => rfl)) (fun _ => rfl)) (pw_and1 (pt_cmpR op_lt (pe_ix ix_list (pv 0) pe_int (fun _ _ => rfl)) (pe_op op_mul (pv 1) pe_int) (nomark _)))))))))))
        (pss_cons (ps_expr (pe_call GF hr (by rfl) gF FF.kp bF .nil pass0 (pa_cons (pv 0) pa_nil)))
        (pss_cons (ps_aug (i := 2) scTake.nd rfl (.inl rfl) pe_int ip_add)
        (pss_one (ps_if (PW.pt (pw_and (pt_truth (pe_ix ix_list (pv 0) pe_int (fun _ _ => rfl)) (fun _ => rfl)) (pw_and1 (pt_cmpR op_lt (pe_ix ix_list (pv 0) pe_int (fun _ _ => rfl)) (pe_op op_mul (pv 1) pe_int) (nomark _)))))
          (pss_one (ps_asg (pe_op op_add (pe_ix ix_list (pv 0) pe_int (fun _ _ => rfl)) (pe_op op_mul (pe_op op_mul (pv 1) pe_int) (pe_op op_add pe_int (pe_op op_mod (pe_callTy call_int1 (by rfl) mi PySem.Pv.boot_int (pa_cons (pe_ix ix_list (pv 0) pe_int (fun _ _ => rfl)) pa_nil)) pe_int)))) (pg_sub (pv 0) pe_int set_list)))
          pss_nil)))))
      (pss_cons (ps_set (i := 3) scTake.nd rfl (.inl rfl) (pe_op op_mod (pe_callTy call_int1 (by rfl) mi PySem.Pv.boot_int (pa_cons (pe_ix ix_list (pv 0) pe_int (fun _ _ => rfl)) pa_nil)) (pv 1)))
      (pss_cons (ps_asg (pe_op op_fdiv (pe_ix ix_list (pv 0) pe_int (fun _ _ => rfl)) (pv 1)) (pg_sub (pv 0) pe_int set_list))
      (pss_one (ps_ret (pv 3)))))), ?_⟩
    refine ⟨fun m σ H' => ∃ tn : Nat, σ = [some (.ref l), some (.int many), some (.int tn), none] ∧ tn + m = 64 ∧ Kp l H H' ∧ Stt H' l c ns, ⟨64, 0, rfl, rfl, Kp.refl, st⟩, fun m σ H1 hW => ?_⟩
    obtain ⟨tn, rfl, em, k1, ⟨⟨nth, left, mix, hl⟩, hc, hlc, hn⟩⟩ := hW
    refine ⟨.int tn, rfl, _, _, rfl, rfl, _, rfl, ite2 (fun e1 => ?g1) (fun e1 => iteF ?exit1)⟩
    case' g1 => refine ⟨.ref l, rfl, l, _, 2, .int left, rfl, rfl, sq hl, atI_nat (j := 2) rfl, rfl, _, rfl, ite2 (fun e2 => iteT ?body1) (fun e2 => ?g2)⟩
    case' g2 => refine ⟨.ref l, rfl, l, _, 3, .bl mix, rfl, rfl, sq hl, atI_nat (j := 3) rfl, mix, rfl, ite2 (fun e3 => ?g3) (fun e3 => iteF ?exit2)⟩
    case' g3 => refine ⟨.ref l, rfl, l, _, 2, .int left, rfl, rfl, sq hl, atI_nat (j := 2) rfl, .int many, rfl, many, 4096, rfl, rfl, .inl mb, left, _, rfl, rfl, _, rfl, ite2 (fun e4 => ?body2) (fun e4 => ?exit3)⟩
    case exit1 | exit2 | exit3 =>
      refine ⟨.ref l, rfl, l, _, 2, .int left, rfl, rfl, sq hl, atI_nat (j := 2) rfl, .inl ⟨left, rfl, .int many, rfl, left, many, rfl, rfl, m0, ?_⟩⟩
      refine ⟨.ref l, rfl, l, _, 2, .int left, rfl, rfl, sq hl, atI_nat (j := 2) rfl, .int many, rfl, left, many, rfl, rfl, ⟨m0, by omega⟩, .ref l, rfl, l, _, 2, 2, rfl, rfl, hl, rfl, ?_⟩
      refine ⟨_, rfl, q _ _ k1.put ⟨⟨_, _, _, upd_same⟩, (upd_ne (Ne.symm hlc)).trans hc, hlc, hn⟩ (Int.emod_nonneg _ (by omega)) (Int.emod_lt_of_pos _ m0)⟩
    case body1 | body2 =>
      have tl : tn < 64 := by
        have z : (tn : Int) < 64 := of_decide_eq_true e1
        omega
      refine ⟨fun σ H' => σ = [some (.ref l), some (.int many), some (.int (tn + 1 : Nat)), none] ∧ Kp l H H' ∧ Stt H' l c ns, fun σ' H' hN => ⟨m - 1, by omega, tn + 1, hN.1, by omega, hN.2⟩, ?_⟩
      refine ⟨.ref l, rfl, l, c, ns, rfl, ⟨⟨_, _, _, hl⟩, hc, hlc, hn⟩, fun H2 k2 st2 => ?_⟩
      have k3 := k1.trans k2
      refine ⟨.int tn, rfl, tn, 1, rfl, rfl, ?_⟩
      obtain ⟨⟨nth2, left2, mix2, hl2⟩, hc2, _, _⟩ := st2
      refine ⟨.ref l, rfl, l, _, 3, .bl mix2, rfl, rfl, sq hl2, atI_nat (j := 3) rfl, mix2, rfl, ite2 (fun e5 => ?_) (fun e5 => ?_)⟩
      · refine ⟨.ref l, rfl, l, _, 2, .int left2, rfl, rfl, sq hl2, atI_nat (j := 2) rfl, .int many, rfl, many, 4096, rfl, rfl, .inl mb, left2, _, rfl, rfl, _, rfl, ite2 (fun e6 => ?_) (fun e6 => ?_)⟩
        · refine ⟨.ref l, rfl, l, _, 2, .int left2, rfl, rfl, sq hl2, atI_nat (j := 2) rfl, .int many, rfl, many, 4096, rfl, rfl, .inl mb, .ref l, rfl, l, _, 2, .int left2, rfl, rfl, sq hl2, atI_nat (j := 2) rfl,
            .inl ⟨left2, rfl, left2, 4093, rfl, rfl, (by show (0 : Int) < 4093; decide), 1, _, rfl, rfl, _, _, rfl, rfl, .inl mb2, left2, _, rfl, rfl, .ref l, rfl, l, _, 2, 2, rfl, rfl, hl2, rfl, ?_⟩⟩
          exact ⟨rfl, k3.put, ⟨⟨_, _, _, upd_same⟩, (upd_ne (Ne.symm hlc)).trans hc2, hlc, hn⟩⟩
        · exact ⟨rfl, k3, ⟨⟨_, _, _, hl2⟩, hc2, hlc, hn⟩⟩
      · exact iteF ⟨rfl, k3, ⟨⟨_, _, _, hl2⟩, hc2, hlc, hn⟩⟩
end
end Drw

namespace Drw
open PySem PySem.Spec PyProof.Rows L2
def spOne : Sp := fun vs H Q _ => ∃ (l c : Addr) (ns : List Int) (t : Addr) (xs : List V), vs = [.ref l, .ref t] ∧ H t = some (.lst xs) ∧ t ≠ l ∧ 0 < xs.length ∧ xs.length < 1000 ∧ Stt H l c ns ∧
  ∀ H' (d : Nat) x, Kp l H H' → Stt H' l c ns → xs[d]? = some x → Q x H'
/-- what was tracked stands -/
def Al (H H' : Hp) : Prop := ∀ b o, H b = some o → H' b = some o
def spFresh (K : PySem.W.Frag) : Sp := fun vs H Q _ => ∃ (a : Addr) (ns : List Int), vs = [.ref a] ∧ SqL K H a (ns.map V.int) ∧ ns.length ≤ 63 ∧
  ∀ H' l c ns', Al H H' → Stt H' l c ns' → H l = none → Q (.ref l) H'
section
variable {P : Program} {w : World} {K : PySem.W.Frag} {mg : Str → Option Value} {base : Heap}
theorem ok_one {f fT : Addr} {fd fdT : FuncData} (F : Fun K "_law_one" "_law_one" sOne f fd) (FT : Fun K "_law_take" "_law_take" sTake fT fdT) (bT : Binds K fdT ["_law_state", "_law_many"] []) (gT : mg "_law_take" = some (.ref fT))
    (ml : mg "len" = none) (GT : FnOk P w K mg base CX0 2 fT fdT ["_law_state", "_law_many"] spTake) : FnOk P w K mg base CX0 3 f fd ["_law_state", "_law_things"] spOne := by
  refine F.ok scOne (fun vs H Q E h => ?_) (fun cdv A outer s H vs Q E hr h => ?_)
  · obtain ⟨l, c, ns, t, xs, rfl, _⟩ := h
    rfl
  · obtain ⟨l, c, ns, t, xs, rfl, ht, tl, x0, x1, st, q⟩ := h
    refine ⟨_, pss_one (ps_ret (pe_ix ix_list (pv 1) (pe_call GT hr (by rfl) gT FT.kp bT .nil pass0 (pa_cons (pv 0) (pa_cons (pe_callB call_len_seq (by rfl) ml PySem.boot_len (pa_cons (pv 1) pa_nil)) pa_nil))) (fun _ _ => rfl))), ?_⟩
    refine ⟨.ref t, rfl, .ref l, rfl, .ref t, rfl, t, xs, rfl, .inl (sq ht), l, c, ns, _, rfl, by omega, by omega, st, fun H' d k st' d0 d1 => ?_⟩
    obtain ⟨j, rfl⟩ := Int.eq_ofNat_of_zero_le d0
    have hj : j < xs.length := by omega
    refine ⟨t, xs, j, xs[j], rfl, rfl, sq (k t _ tl ht), atI_nat (List.getElem?_eq_getElem hj), ?_⟩
    exact q _ j _ k st' (List.getElem?_eq_getElem hj)
theorem cut_ints (ns : List Int) (lo hi : Option Int) : ∃ ns' : List Int, cutV (ns.map V.int) lo hi = ns'.map V.int ∧ ns'.length ≤ ns.length := by
  refine ⟨(ns.drop (HT.sIx (ns.map V.int).length 0 lo)).take (HT.sIx (ns.map V.int).length (ns.map V.int).length hi - HT.sIx (ns.map V.int).length 0 lo), ?_, ?_⟩
  · unfold cutV
    rw [List.map_take, List.map_drop]
  · rw [List.length_take, List.length_drop]
    omega
theorem ok_fresh {f : Addr} {fd : FuncData} (F : Fun K "_law_fresh" "_law_fresh" sFresh f fd) : FnOk P w K mg base CX0 1 f fd ["_law_script_here"] (spFresh K) := by
  refine F.ok scFresh (fun vs H Q E h => ?_) (fun cdv A outer s H vs Q E hr h => ?_)
  · obtain ⟨a, ns, rfl, _⟩ := h
    rfl
  · obtain ⟨a, ns, rfl, hS, hn, q⟩ := h
    refine ⟨_, pss_one (ps_ret (pe_lst (pa_cons (pe_slice sl_list (pv 0) po_none (po_some pe_int)) (pa_cons pe_int (pa_cons pe_int (pa_cons pe_bl pa_nil)))))), ?_⟩
    obtain ⟨ns', e, hn'⟩ := cut_ints ns none (some 63)
    refine ⟨.ref a, rfl, 63, rfl, a, _, rfl, hS, fun c nc => ?_⟩
    refine ⟨by show 4 ≤ sizeLine; decide, fun l nl => ?_⟩
    have cl : c ≠ l := fun z => by
      rw [z, upd_same] at nl
      cases nl
    refine q _ l c ns' (fun b o z => ?_) ⟨⟨_, _, _, upd_same⟩, ?_, cl.symm, by omega⟩ ?_
    · have z1 := upd_ne (H := H) (o := .lst (cutV (ns.map V.int) none (some 63))) (ne_of_none z nc)
      rw [upd_ne (ne_of_none (z1.trans z) nl), z1]
      exact z
    · rw [upd_ne cl, upd_same, e]
    · rw [upd_ne cl.symm] at nl
      exact nl
end
end Drw

/-! A def that is called from the outside: what stands around it is known. -/
namespace Grd
open PySem PySem.Spec PyProof.Rows L2 Att
/-- the promise of a def where it is called under nothing but the caller -/
structure TopOk (P : Program) (w : World) (K : PySem.W.Frag) (mg : Str → Option Value) (base : Heap) (f : Addr) (fd : FuncData) (ps : List Str) (sp : Sp) : Prop where
  go : ∀ (s : Shared) (H : Hp) (ar : Args) (us : List Value) (vs : List V) (Q : VK), Env0 P w K mg base callerA [] s H → BindsTo s fd ar (ps.zip us) → Vals vs us → vs.length = ps.length → sp vs H Q E0 →
    codeAny (model P w) callerA (.call (.ref f) ar) (CR CX0 [] P w H s Q E0) s
section
variable {P : Program} {w : World} {K : PySem.W.Frag} {mg : Str → Option Value} {base : Heap}
theorem top_of {k : Nat} {x q : Str} {st : Stmt} {f : Addr} {fd : FuncData} {N ps : List Str} {sp : Sp} (F : Fun K x q st f fd) (S : FnScope N ps (defScope st)) (hr : Room (k + 1) callerA)
    (walk : ∀ (cdv : Value) (s : Shared) (H : Hp) (vs : List V) (Q : VK), Room k (callerA.deeper (envOfC q (defScope st) s.heap.objs.size f cdv)) → sp vs H Q E0 →
      ∃ t, PSs (cxOf CX0 P w K mg base N q (defScope st) f cdv callerA [] s H E0).nox (defBody st) t ∧ t { nx := fun _ H' => Q .non H', rt := Q } (start N vs) H) : TopOk P w K mg base f fd ps sp := by
  obtain ⟨oc, od, kV, doc, pm, an, cdv, ct, osl, rfl, found, coded⟩ := F.ex
  constructor
  intro s H ar us vs Q env bound rel many told
  have inK : K.In s.heap := env.mod.kin.keeps fun b o z => (env.bs b o z).1
  have free : s.heap.NoLimit := env.mod.nolimit.keeps fun b o z => (env.bs b o z).1
  have kinds : ∀ y ∈ ps.zip us, (defScope st).names.lookup y.1 = some .local ∨ ((defScope st).names.lookup y.1 = some .cell ∧ ((cellsFrom (s.heap.objs.size + 1) (defScope st).names []).lookup y.1).isSome = true) := by
    rintro ⟨n, v⟩ hy
    rcases S.par n (List.of_mem_zip hy).1 with z | z
    · exact Or.inl z
    · exact Or.inr ⟨z, PySem.W.cellsFrom_some _ _ _ (Or.inl z)⟩
  refine codeAny_call_function hr.depth (inK _ _ found) rfl S.co S.gen rfl (PySem.W.codeRec_of inK coded) (bound _ _ _ _ (wpAny_newFunctionEnv_cells S.kind kinds fun e he s1 laid => ?_))
  subst he
  refine ⟨free.keeps laid.toInCall.keep, codeAny_func ?_⟩
  obtain ⟨t, term, read⟩ := walk cdv s H vs Q (hr.deeper _) told
  have inv : Inv (cxOf CX0 P w K mg base N q (defScope st) f cdv callerA [] s H E0) [] (start N vs) H s1 := inv_start S hr.hd env many rel laid
  refine wpAny_mono (term.nox.run [] s1 (start N vs) H _ inv read) ?_ fun e s' z => z
  have ends : ∀ {σ' : L2.St} {H' : Hp} {v : V} {u : Value} {s' : Shared}, Inv (cxOf CX0 P w K mg base N q (defScope st) f cdv callerA [] s H E0) [] σ' H' s' → RelV v u → Q v H' → CE [] P w H s Q u s' := by
    intro σ' H' v u s' J rv z
    exact ⟨v, H', J.os, J.bare, J.base, J.hok, rv, z⟩
  intro fl s' z
  cases fl with
  | ret u =>
    obtain ⟨v, σ', H', J, rv, z⟩ := z
    exact ends J rv z
  | next =>
    obtain ⟨σ', H', J, z⟩ := z
    exact ends (v := V.non) (u := Value.none) J rfl z
  | brk => exact absurd z fun ⟨_, _, _, y⟩ => y
  | cont => exact absurd z fun ⟨_, _, _, y⟩ => y
end
end Grd

namespace Grd
open PySem PySem.Spec PySem.W PyProof.Rows L2 Att
/-- the list that is handed in -/
def given (vs : List Value) : Obj := { cls := .type "list", data := .seq vs.toArray }
/-- only that list is tracked, and not if the module holds it -/
def just (K : Frag) (a : Addr) (vs : List Value) (ns : List Int) : Hp := fun b => if b = a ∧ K.lookup a = none then some (.frz (given vs) (.lst (ns.map V.int))) else none
section
variable {P : Program} {w : World} {K : Frag} {mg mb : Str → Option Value} {fa a : Addr} {fd : FuncData} {x : Str} {sp : Sp} {s : Shared} {vs : List Value} {ns : List Int}
theorem just_some {b : Addr} {o : HO} (h : just K a vs ns b = some o) : b = a ∧ K.lookup a = none ∧ o = .frz (given vs) (.lst (ns.map V.int)) := by
  unfold just at h
  split at h
  · rename_i c
    exact ⟨c.1, c.2, (Option.some.inj h).symm⟩
  · cases h
theorem just_none {b : Addr} (h : b ≠ a ∨ K.lookup a ≠ none) : just K a vs ns b = none := by
  refine if_neg fun c => ?_
  rcases h with h | h
  · exact h c.1
  · exact h c.2
theorem law_g (KX : K.In s.heap) (hns : s.heap.Ns mainGlobals mg) (hb : s.heap.Ns builtinsNs mb) (hbb : ∀ y : Str, y ≠ "__name__" → mb y = bootBuiltins y) (hlim : s.heap.NoLimit) (hg : s.gens = #[])
    (ha : s.heap.get? a = some (given vs)) (hi : IntsAre vs ns) (hl : ns.length ≤ sizeLine) (F : ∀ base : Heap, K.In base → base.Ns mainGlobals mg → TopOk P w K mg base fa fd [x] sp)
    (bound : ∀ (s : Shared) (u : Value), BindsTo s fd ⟨[u], []⟩ [(x, u)]) (told : ∀ H : Hp, SqL K H a (ns.map V.int) → sp [.ref a] H (fun v _ => v = .bl true) E0) :
    codeAny (model P w) callerA (.call (.ref fa) ⟨[.ref a], []⟩) (fun r s' => r = .ok (.ret (.bool true)) ∧ OldK s.heap s'.heap ∧ s'.os = s.os ∧ AllBare s'.gens) s := by
  have rel := vals_ints hi
  generalize eH : just K a vs ns = H
  have some_ : ∀ {b : Addr} {o : HO}, H b = some o → b = a ∧ K.lookup a = none ∧ o = .frz (given vs) (.lst (ns.map V.int)) := fun {b o} z => just_some (eH ▸ z)
  have gone : ∀ {b : Addr}, b ≠ a ∨ K.lookup a ≠ none → H b = none := fun {b} z => eH ▸ just_none z
  have plain : ∀ {b : Addr} {m : Str → Option Value}, s.heap.Ns b m → (hidT s.heap H).Ns b m := by
    rintro b m ⟨o, es, ep, e, d, r⟩
    refine ⟨o, es, ep, hidT_get e (gone (.inl fun z => ?_)), d, r⟩
    rw [z, ha] at e
    cases e
    cases d
  have kept : K.In (hidT s.heap H) := fun b o e => hidT_get (KX b o e) (gone (by
    by_cases z : b = a
    · exact .inr (by rw [← z, e]; exact fun y => nomatch y)
    · exact .inl z))
  have sound : HOk P w H s.heap := by
    intro b u z
    obtain ⟨rfl, _, rfl⟩ := some_ z
    exact ⟨ha, by rw [List.length_map]; exact hl, vs, _, rel, ha⟩
  have seen : SqL K H a (ns.map V.int) := by
    cases hk : K.lookup a with
    | some o =>
      have e := KX a o hk
      rw [ha] at e
      cases e
      exact .inr ⟨_, vs.toArray, _, hk, rfl, rfl, rfl, by rw [List.size_toArray, hi.length]; exact hl, by simpa using rel⟩
    | none =>
      refine .inl (.inr ⟨given vs, ?_⟩)
      rw [← eH]
      exact if_pos ⟨rfl, hk⟩
  have mod : Mod K mg (hidT s.heap H) := ⟨kept, plain hns, ⟨mb, plain hb, hbb⟩, hlim.elim fun mc y => ⟨mc, plain y.1, y.2⟩⟩
  have env : Env0 P w K mg (hidT s.heap H) callerA [] s H :=
    { frames := rfl, mod := mod, bs := fun b o e => of_hidT e, bsz := Nat.le_of_eq (hidT_size _ _), funs := trivial, frf := fun b y => (by cases (show b ∈ ([] : List Addr) from y)), hok := sound, bare := .of_eq hg }
  refine codeAny_mono ((F _ kept (plain hns)).go s H ⟨[.ref a], []⟩ [.ref a] [.ref a] _ env (bound s (.ref a)) (.cons rfl .nil) rfl (told H seen)) fun r s' z => ?_
  match r, z with
  | .error e, z => exact False.elim z
  | .ok .next, z => exact False.elim z
  | .ok .brk, z => exact False.elim z
  | .ok .cont, z => exact False.elim z
  | .ok (.ret u), z =>
    obtain ⟨v, H', os, bare, un, sound', rv, is⟩ := z
    have is' : v = .bl true := is
    subst is'
    obtain rfl : u = Value.bool true := rv
    refine ⟨rfl, OldK.of_keep fun b o e => ?_, os, bare⟩
    cases hH : H b with
    | none => exact un.keep b o e hH (fun y => by cases (show b ∈ ([] : List Addr) from y)) (fun y => by cases y)
    | some u =>
      obtain ⟨rfl, _, rfl⟩ := some_ hH
      have still := (sound' b _ (un.frzs b _ _ hH)).1
      rw [ha] at e
      cases e
      exact still
end
theorem walk_g {l : OpenLaw} {n : Nat} {q : Program} {loose : List Str} {XP : (Str → Option Value) → Heap → Prop} {YP : World → Heap → Prop} {d : DefRec} {K : Params → Frag} {sp : World → Sp} {x : Str} (hn : l.most = some n) (hn2 : n ≤ sizeLine)
    (hdf : d.params.defaults = []) (hY : ∀ (w : World) (h : Heap), YP w h → (K w.params).In h)
    (F : ∀ (w : World) (mg : Str → Option Value) (fa : Addr) (h : Heap), (K w.params).In h → h.Ns mainGlobals mg → mg d.name = some (.ref fa) →
      ∃ fd : FuncData, (∀ (s : Shared) (u : Value), BindsTo s fd ⟨[u], []⟩ [(x, u)]) ∧ ∀ base : Heap, (K w.params).In base → base.Ns mainGlobals mg → TopOk l.prog w (K w.params) mg base fa fd [x] (sp w))
    (told : ∀ (w : World) (H : Hp) (a : Addr) (ns : List Int), ns.length ≤ n → SqL (K w.params) H a (ns.map V.int) → sp w [.ref a] H (fun v _ => v = .bl true) E0) :
    WalkO q loose XP YP l.row.toRowW d [] (fun f vs => PySem.call f vs) := by
  refine Att.attach_call hn hdf fun w s₀ s₁ mg mb fa o pm cd doc a vs ns G Y _ _ _ named obj inn few gens => ?_
  obtain ⟨fd, bound, all⟩ := F w mg fa _ (hY w _ Y) G.T.g named
  exact law_g (hY w _ Y) G.T.g G.T.b G.T.builtins G.T.nolimit gens obj inn (Nat.le_trans few hn2) all bound fun H z => told w H a ns few z
end Grd

namespace Grd
open PySem PySem.Spec PySem.W PyProof.Rows L2
/-- repr of nested lists and tuples of numbers, truths, texts, None -/
theorem call_repr_data {X : Cx} (hg : X.A.guards = some []) (hu : X.A.units + 70 < cLine) : CallR X (.builtin "repr") (fun xs H Q => ∃ (a : Addr) (d : PyData), xs = [.ref a] ∧ Dp X.K H (.ref a) d ∧ d.showable = true ∧ d.hasDict = false ∧ d.depth ≤ 60 ∧ d.shown.length ≤ sizeLine ∧ Q (.str d.shown) H) := by
  intro pins s σ H xs us Q I r h
  obtain ⟨a, d, rfl, hd, hs, hn, hp, hz, q⟩ := h
  cases r with
  | cons r1 r2 =>
    cases r2
    obtain ⟨as, rd⟩ := Dp.reads I d _ _ hd r1
    cases r1
    exact repr_of_reads' rd hs (fun e => by rw [hn] at e; cases e) hg (by omega) (fun _ _ e => e) (fun h' u tk hk => ⟨.str _, H, I.kept (t' := tk) hk, ⟨u, rfl⟩, q⟩) hz
end Grd

/-! The law's own look at locks. -/
namespace Lk
open PySem PySem.Spec PyProof.Rows L2 Drw
theorem _root_.Drw.Al.refl {H : Hp} : Al H H := fun _ _ e => e
theorem _root_.Drw.Al.new {H H' : Hp} {p : Addr} {o : HO} (k : Al H H') (h : H' p = none) : Al H (upd H' p o) := fun b u e => by
  have z := k b u e
  rw [upd_ne (ne_of_none z h)]
  exact z
theorem _root_.Drw.Al.trans {H H' H'' : Hp} (k : Al H H') (k' : Al H' H'') : Al H H'' := fun b o e => k' b o (k b o e)
theorem _root_.Drw.Al.gone {H H' : Hp} {p : Addr} (k : Al H H') (h : H' p = none) : H p = none := by
  cases e : H p with
  | none => rfl
  | some o =>
    rw [k p o e] at h
    cases h
def inW (w : Str) (l : List Str) : Bool := inV (.str w) (l.map V.str)
/-- whether a step is refused -/
def refB (w : Str) (o : Bool) (lock top : Int) : Bool :=
  if inW w ["read", "start"] then decide (lock = 0) && decide (top > 2)
  else if decide (w = "write") && o then decide (lock < 2) && decide (top > 1)
  else if w = "immediate" then decide (top > 1)
  else if w = "commit" then decide (lock > 1) && decide (top > 0)
  else inW w ["write", "exclusive"] && decide (top > 0)
theorem scRefused : FnScope ["_law_word", "_law_opened", "_law_lock", "_law_top"] ["_law_word", "_law_opened", "_law_lock", "_law_top"] (defScope sRefused) := ⟨rfl, rfl, rfl, by decide +kernel, rfl, by decide +kernel, by decide +kernel⟩
def spRefused : Sp := fun vs H Q _ => ∃ (w : Str) (o : Bool) (lock top : Int), vs = [.str w, .bl o, .int lock, .int top] ∧ ∀ H', Al H H' → Q (.bl (refB w o lock top)) H'
theorem eq_str {a b : Str} : decide (V.str a = V.str b) = decide (a = b) := decide_eq_decide.mpr ⟨fun z => V.str.inj z, fun z => by rw [z]⟩
theorem eq_int {a b : Int} : decide (V.int a = V.int b) = decide (a = b) := decide_eq_decide.mpr ⟨fun z => V.int.inj z, fun z => by rw [z]⟩
section
variable {P : Program} {w : World} {K : PySem.W.Frag} {mg : Str → Option Value} {base : Heap}
theorem ok_refused {f : Addr} {fd : FuncData} (F : Fun K "_law_refused" "_law_refused" sRefused f fd) : FnOk P w K mg base CX0 1 f fd ["_law_word", "_law_opened", "_law_lock", "_law_top"] spRefused := by
  refine F.ok scRefused (fun vs H Q E h => ?_) (fun cdv A outer s H vs Q E hr h => ?_)
  · obtain ⟨w, o, lock, top, rfl, _⟩ := h
    rfl
  · obtain ⟨w, o, lock, top, rfl, q⟩ := h
    refine ⟨_, pss_cons (ps_if (pt_cmpR op_in_seq (pv 0) (pe_tup (pa_cons pe_str (pa_cons pe_str pa_nil))) rfl)
        (pss_one (ps_ret (pe_and (pe_cmpR op_eq (pv 2) pe_int (nomark _)) (pe_one (pe_cmpR op_gt (pv 3) pe_int (nomark _)))))) pss_nil)
      (pss_cons (ps_if (PW.pt (pw_and (pt_cmpR op_eq (pv 0) pe_str (nomark _)) (pw_and1 (pt_val (pv 1)))))
        (pss_one (ps_ret (pe_and (pe_cmpR op_lt (pv 2) pe_int (nomark _)) (pe_one (pe_cmpR op_gt (pv 3) pe_int (nomark _)))))) pss_nil)
      (pss_cons (ps_if (pt_cmpR op_eq (pv 0) pe_str (nomark _)) (pss_one (ps_ret (pe_cmpR op_gt (pv 3) pe_int (nomark _)))) pss_nil)
      (pss_cons (ps_if (pt_cmpR op_eq (pv 0) pe_str (nomark _)) (pss_one (ps_ret (pe_and (pe_cmpR op_gt (pv 2) pe_int (nomark _)) (pe_one (pe_cmpR op_gt (pv 3) pe_int (nomark _)))))) pss_nil)
      (pss_one (ps_ret (pe_and (pe_cmpR op_in_seq (pv 0) (pe_tup (pa_cons pe_str (pa_cons pe_str pa_nil))) rfl) (pe_one (pe_cmpR op_gt (pv 3) pe_int (nomark _))))))))), ?_⟩
    refine ⟨.str w, rfl, by show 2 ≤ sizeLine; decide, fun t1 n1 => ?_⟩
    have k1 := (Al.refl (H := H)).new (o := .tup [.str "read", .str "start"]) n1
    have e1 : ∀ b, inV (.str w) [.str "read", .str "start"] = b → inW w ["read", "start"] = b := fun b e => e
    have e2 : ∀ {a : Str}, decide (V.str w = V.str a) = decide (w = a) := eq_str
    refine ⟨t1, _, rfl, .inr (sqt upd_same), rfl, rfl, _, rfl, ite2 (fun e => ?_) (fun e => ?_)⟩
    · have ew := e1 true e
      refine ⟨.int lock, rfl, rfl, _, rfl, ite2 (fun c => ?_) (fun c => ?_)⟩
      · refine ⟨.int top, rfl, _, _, rfl, rfl, ?_⟩
        have z := q _ k1
        rw [refB, if_pos ew, ← eq_int, c] at z
        exact z
      · have z := q _ k1
        rw [refB, if_pos ew, ← eq_int, Bool.eq_false_iff.mpr c] at z
        exact z
    · have ew := e1 false (Bool.eq_false_iff.mpr e)
      have q1 : ∀ H', Al H H' → Q (.bl (if decide (w = "write") && o then decide (lock < 2) && decide (top > 1) else if w = "immediate" then decide (top > 1) else if w = "commit" then decide (lock > 1) && decide (top > 0) else inW w ["write", "exclusive"] && decide (top > 0))) H' := fun H' k => by
        have z := q H' k
        rw [refB, ew, if_neg Bool.false_ne_true] at z
        exact z
      refine ⟨.str w, rfl, rfl, _, rfl, ite2 (fun e3 => ?yes) (fun e3 => iteF ?no1)⟩
      case' yes => refine ⟨.bl o, rfl, o, rfl, ite2 (fun e4 => ?both) (fun e4 => ?no2)⟩
      case both =>
        have hw : (decide (w = "write") && o) = true := by rw [← e2, e3, e4]; rfl
        refine ⟨.int lock, rfl, _, _, rfl, rfl, _, rfl, ite2 (fun c => ?_) (fun c => ?_)⟩
        · have z := q1 _ k1
          rw [if_pos hw, c] at z
          exact ⟨.int top, rfl, _, _, rfl, rfl, z⟩
        · have z := q1 _ k1
          rw [if_pos hw, Bool.eq_false_iff.mpr c] at z
          exact z
      case no1 | no2 =>
        have hw : (decide (w = "write") && o) = false := by
          first
            | (rw [← e2, Bool.eq_false_iff.mpr e3]; rfl)
            | (rw [← e2, e3, Bool.eq_false_iff.mpr e4]; rfl)
        have q2 : ∀ H', Al H H' → Q (.bl (if w = "immediate" then decide (top > 1) else if w = "commit" then decide (lock > 1) && decide (top > 0) else inW w ["write", "exclusive"] && decide (top > 0))) H' := fun H' k => by
          have z := q1 H' k
          rw [hw, if_neg Bool.false_ne_true] at z
          exact z
        refine ⟨.str w, rfl, rfl, _, rfl, ite2 (fun e5 => ?_) (fun e5 => ?_)⟩
        · have h5 : w = "immediate" := of_decide_eq_true (e2.symm.trans e5)
          have z := q2 _ k1
          rw [if_pos h5] at z
          exact ⟨.int top, rfl, _, _, rfl, rfl, z⟩
        · have h5 : ¬ w = "immediate" := fun z => e5 (e2.trans (decide_eq_true z))
          refine ⟨.str w, rfl, rfl, _, rfl, ite2 (fun e6 => ?_) (fun e6 => ?_)⟩
          · have h6 : w = "commit" := of_decide_eq_true (e2.symm.trans e6)
            refine ⟨.int lock, rfl, _, _, rfl, rfl, _, rfl, ite2 (fun c => ?_) (fun c => ?_)⟩
            · have z := q2 _ k1
              rw [if_neg h5, if_pos h6, c] at z
              exact ⟨.int top, rfl, _, _, rfl, rfl, z⟩
            · have z := q2 _ k1
              rw [if_neg h5, if_pos h6, Bool.eq_false_iff.mpr c] at z
              exact z
          · have h6 : ¬ w = "commit" := fun z => e6 (e2.trans (decide_eq_true z))
            refine ⟨.str w, rfl, by show 2 ≤ sizeLine; decide, fun t2 n2 => ?_⟩
            have z := q2 _ (k1.new (o := .tup [.str "write", .str "exclusive"]) n2)
            rw [if_neg h5, if_neg h6] at z
            refine ⟨t2, _, rfl, .inr (sqt upd_same), rfl, rfl, _, rfl, ite2 (fun c => ?_) (fun c => ?_)⟩
            · rw [show inW w ["write", "exclusive"] = true from c] at z
              exact ⟨.int top, rfl, _, _, rfl, rfl, z⟩
            · rw [show inW w ["write", "exclusive"] = false from Bool.eq_false_iff.mpr c] at z
              exact z
end
end Lk

namespace Lk
open PySem PySem.Spec PyProof.Rows L2 Drw
def opnB (w : Str) (o : Bool) : Bool := !inW w ["commit", "rollback"] && (o || inW w ["begin", "immediate", "exclusive"])
def rdsB (w : Str) (r : Bool) : Bool := !decide (w = "stop") && (r || decide (w = "start"))
def least : List (Key × V) := [(.inr "read", .int 1), (.inr "start", .int 1), (.inr "write", .int 2), (.inr "immediate", .int 2), (.inr "exclusive", .int 4)]
def leastI (w : Str) : Int := if w = "read" ∨ w = "start" then 1 else if w = "write" ∨ w = "immediate" then 2 else if w = "exclusive" then 4 else 0
def lockB (w : Str) (o r : Bool) (lock : Int) : Int := if opnB w o = true then (if leastI w > lock then leastI w else lock) else (if rdsB w r = true then 1 else 0)
theorem scBehind : FnScope ["_law_word", "_law_opened", "_law_reads", "_law_lock", "_law_least"] ["_law_word", "_law_opened", "_law_reads", "_law_lock"] (defScope sBehind) := ⟨rfl, rfl, rfl, by decide +kernel, rfl, by decide +kernel, by decide +kernel⟩
def spBehind : Sp := fun vs H Q _ => ∃ (w : Str) (o r : Bool) (lock : Int), vs = [.str w, .bl o, .bl r, .int lock] ∧ ∀ H' t, Al H H' → H t = none → H' t = some (.tup [.bl (opnB w o), .bl (rdsB w r), .int (lockB w o r lock)]) → Q (.ref t) H'
theorem key_ne {a w : Str} (h : ¬ w = a) : ¬ (Sum.inr a : Key) = Sum.inr w := fun z => h (Sum.inr.inj z).symm
theorem least_is (w : Str) : (valV (mergeK [] least) (.inr w)).getD (.int 0) = .int (leastI w) := by
  have e : mergeK [] least = least := by decide +kernel
  rw [e]
  unfold leastI least
  by_cases h1 : w = "read"
  · subst h1
    rw [valV_pos rfl, if_pos (.inl rfl)]
    rfl
  by_cases h2 : w = "start"
  · subst h2
    rw [valV_neg (key_ne h1), valV_pos rfl, if_pos (.inr rfl)]
    rfl
  by_cases h3 : w = "write"
  · subst h3
    rw [valV_neg (key_ne h1), valV_neg (key_ne h2), valV_pos rfl, if_neg (by simp only [h1, h2, or_self, not_false_eq_true]), if_pos (.inl rfl)]
    rfl
  by_cases h4 : w = "immediate"
  · subst h4
    rw [valV_neg (key_ne h1), valV_neg (key_ne h2), valV_neg (key_ne h3), valV_pos rfl, if_neg (by simp only [h1, h2, or_self, not_false_eq_true]), if_pos (.inr rfl)]
    rfl
  by_cases h5 : w = "exclusive"
  · subst h5
    rw [valV_neg (key_ne h1), valV_neg (key_ne h2), valV_neg (key_ne h3), valV_neg (key_ne h4), valV_pos rfl, if_neg (by simp only [h1, h2, or_self, not_false_eq_true]), if_neg (by simp only [h3, h4, or_self, not_false_eq_true]), if_pos rfl]
    rfl
  rw [valV_neg (key_ne h1), valV_neg (key_ne h2), valV_neg (key_ne h3), valV_neg (key_ne h4), valV_neg (key_ne h5), valV_nil, if_neg (by simp only [h1, h2, or_self, not_false_eq_true]), if_neg (by simp only [h3, h4, or_self, not_false_eq_true]), if_neg h5]
  rfl
section
variable {P : Program} {w : World} {K : PySem.W.Frag} {mg : Str → Option Value} {base : Heap}
theorem ok_behind {f : Addr} {fd : FuncData} (F : Fun K "_law_behind" "_law_behind" sBehind f fd) (mi : mg "int" = none) (mm : mg "max" = none) : FnOk P w K mg base CX0 1 f fd ["_law_word", "_law_opened", "_law_reads", "_law_lock"] spBehind := by
  refine F.ok scBehind (fun vs H Q E h => ?_) (fun cdv A outer s H vs Q E hr h => ?_)
  · obtain ⟨w, o, r, lock, rfl, _⟩ := h
    rfl
  · obtain ⟨w, o, r, lock, rfl, q⟩ := h
    have hu := hu_of hr
    refine ⟨_, C8.pss_cut (ps_set (i := 1) scBehind.nd rfl (.inl rfl) (pe_and (pe_cmpR op_notIn_seq (pv 0) (pe_tup (pa_cons pe_str (pa_cons pe_str pa_nil))) rfl)
          (pe_one (pe_or (pv 1) (pe_one (pe_cmpR op_in_seq (pv 0) (pe_tup (pa_cons pe_str (pa_cons pe_str (pa_cons pe_str pa_nil)))) rfl))))))
      (C8.pss_cut (ps_set (i := 2) scBehind.nd rfl (.inl rfl) (pe_and (pe_cmpR op_ne (pv 0) pe_str (nomark _)) (pe_one (pe_or (pv 2) (pe_one (pe_cmpR op_eq (pv 0) pe_str (nomark _)))))))
      (pss_cons (ps_if (pt_not (pt_val (pv 1))) (pss_one (ps_ret (pe_tup (pa_cons (pv 1) (pa_cons (pv 2) (pa_cons (pe_callTy call_int1 (by rfl) mi PySem.Pv.boot_int (pa_cons (pv 2) pa_nil)) pa_nil)))))) pss_nil)
      (pss_cons (ps_set (i := 4) scBehind.nd rfl (.inl rfl) (pe_disp (pps_cons pe_str pe_int (pps_cons pe_str pe_int (pps_cons pe_str pe_int (pps_cons pe_str pe_int (pps_cons pe_str pe_int pps_nil))))) (by rfl) (by rfl) (fun z => by cases z) (by decide)))
      (pss_one (ps_ret (pe_tup (pa_cons (pv 1) (pa_cons (pv 2) (pa_cons (pe_callB (call_max2 rfl) (by rfl) mm (by decide +kernel) (pa_cons (pv 3) (pa_cons (pe_dget2 hu (pv 4) (pv 0) pe_int ⟨rfl, rfl, rfl, rfl⟩) pa_nil))) pa_nil)))))))))  , ?_⟩
    -- opened
    refine ⟨fun σ H1 => σ = [some (.str w), some (.bl (opnB w o)), some (.bl r), some (.int lock), none] ∧ Al H H1, ?_, ?_⟩
    · refine ⟨.str w, rfl, by show 2 ≤ sizeLine; decide, fun t1 n1 => ?_⟩
      have k1 := (Al.refl (H := H)).new (o := .tup [.str "commit", .str "rollback"]) n1
      refine ⟨t1, _, rfl, .inr (sqt upd_same), rfl, rfl, _, rfl, ite2 (fun e1 => ?_) (fun e1 => ?_)⟩
      · have f1 : (!inW w ["commit", "rollback"]) = true := e1
        refine ⟨.bl o, rfl, o, rfl, ite2 (fun e2 => ?_) (fun e2 => ?_)⟩
        · refine ⟨?_, k1⟩
          unfold opnB
          rw [f1, e2]
          rfl
        · refine ⟨.str w, rfl, by show 3 ≤ sizeLine; decide, fun t2 n2 => ?_⟩
          have k2 := k1.new (o := .tup [.str "begin", .str "immediate", .str "exclusive"]) n2
          refine ⟨t2, _, rfl, .inr (sqt upd_same), rfl, rfl, ?_, k2⟩
          unfold opnB
          rw [f1, Bool.eq_false_iff.mpr e2]
          rfl
      · refine ⟨?_, k1⟩
        have f1 : (!inW w ["commit", "rollback"]) = false := Bool.eq_false_iff.mpr e1
        unfold opnB
        rw [f1]
        rfl
    · rintro σ H1 ⟨rfl, k1⟩
      refine ⟨fun σ H2 => σ = [some (.str w), some (.bl (opnB w o)), some (.bl (rdsB w r)), some (.int lock), none] ∧ Al H H2, ?_, ?_⟩
      · refine ⟨.str w, rfl, rfl, _, rfl, ite2 (fun e1 => ?_) (fun e1 => ?_)⟩
        · have f1 : (!decide (w = "stop")) = true := by
            rw [← eq_str]
            exact e1
          refine ⟨.bl r, rfl, r, rfl, ite2 (fun e2 => ?_) (fun e2 => ?_)⟩
          · refine ⟨?_, k1⟩
            unfold rdsB
            rw [f1, e2]
            rfl
          · refine ⟨.str w, rfl, rfl, ?_, k1⟩
            unfold rdsB
            rw [f1, Bool.eq_false_iff.mpr e2, eq_str]
            rfl
        · refine ⟨?_, k1⟩
          have f1 : (!decide (w = "stop")) = false := by
            rw [← eq_str]
            exact Bool.eq_false_iff.mpr e1
          unfold rdsB
          rw [f1]
          rfl
      · rintro σ H2 ⟨rfl, k2⟩
        refine ⟨.bl (opnB w o), rfl, opnB w o, rfl, ?_⟩
        cases ho : opnB w o with
        | false =>
          refine iteT ⟨.bl false, rfl, .bl (rdsB w r), rfl, .bl (rdsB w r), rfl, .inr ⟨_, rfl, by show 3 ≤ sizeLine; decide, fun t nt => ?_⟩⟩
          refine q _ t (k2.new nt) (k2.gone nt) ?_
          rw [upd_same, lockB, ho, if_neg Bool.false_ne_true]
        | true =>
          refine iteF fun p np => ⟨upd_same, least, rfl, by decide, ?_⟩
          have k3 : Al H (upd (upd H2 p (.dK [])) p (.dK (mergeK [] least))) := fun b u z => by
            have y := k2 b u z
            have n : b ≠ p := ne_of_none y np
            rw [upd_ne n, upd_ne n]
            exact y
          refine ⟨.bl true, rfl, .bl (rdsB w r), rfl, .int lock, rfl, .ref p, rfl, p, rfl, .inl ⟨_, .inl upd_same⟩, .str w, rfl, _, DGet.k (k := Sum.inr w) upd_same, lock, leastI w, ?_, by show 3 ≤ sizeLine; decide, fun t nt => ?_⟩
          · rw [least_is]
          · refine q _ t (k3.new nt) (k3.gone nt) ?_
            rw [upd_same, lockB, ho, if_pos rfl]
end
end Lk

namespace Lk
open PySem PySem.Spec PyProof.Rows L2 Drw
/-- a tuple of tuples -/
def Kids (H : Hp) (p : Addr) (ks : List (List V)) : Prop := ∃ xs : List V, H p = some (.tup xs) ∧ xs.length = ks.length ∧ ∀ (i : Nat) (k : List V), ks[i]? = some k → ∃ a, xs[i]? = some (.ref a) ∧ H a = some (.tup k)
theorem Kids.al {H H' : Hp} {p : Addr} {ks : List (List V)} (h : Kids H p ks) (k : Al H H') : Kids H' p ks := by
  obtain ⟨xs, h1, h2, h3⟩ := h
  refine ⟨xs, k _ _ h1, h2, fun i c e => ?_⟩
  obtain ⟨a, e1, e2⟩ := h3 i c e
  exact ⟨a, e1, k _ _ e2⟩
def row0 : List V := [.int 0, .bl false, .bl false, .int 0]
theorem scBegun : FnScope ["_law_scripts_here", "_law_one_here"] ["_law_scripts_here"] (defScope sBegun) := ⟨rfl, rfl, rfl, by decide +kernel, rfl, by decide +kernel, by decide +kernel⟩
def spBegun : Sp := fun vs H Q _ => ∃ (p : Addr) (ks : List (List V)), vs = [.ref p] ∧ Kids H p ks ∧ ks.length ≤ 1000 ∧ ∀ H' t, Al H H' → H t = none → Kids H' t (List.replicate ks.length row0) → Q (.ref t) H'
section
variable {P : Program} {w : World} {K : PySem.W.Frag} {mg : Str → Option Value} {base : Heap}
theorem ok_begun {f : Addr} {fd : FuncData} (F : Fun K "_law_begun" "_law_begun" sBegun f fd) (mt : mg "tuple" = none) : FnOk P w K mg base CX0 1 f fd ["_law_scripts_here"] spBegun := by
  refine F.ok scBegun (fun vs H Q E h => ?_) (fun cdv A outer s H vs Q E hr h => ?_)
  · obtain ⟨p, ks, rfl, _⟩ := h
    rfl
  · obtain ⟨p, ks, rfl, ⟨xs, hp, hlen, hks⟩, h1000, q⟩ := h
    refine ⟨_, pss_one (ps_ret (pe_callTy call_tuple_of (by rfl) mt (by decide +kernel) (pa_cons (pe_lc (own := [("_law_one_here", 1)]) (g := gName 1) (tt := tYes) rfl scBegun.nd (pi_tup (pv 0))
      (blkOk_by (N := ["_law_scripts_here", "_law_one_here"]) (sc := defScope sBegun) (by decide +kernel)) (fun _ _ _ _ _ => pg_name (i := 1) scBegun.nd rfl (Or.inl rfl)) (fun _ _ _ _ _ => pts_nil)
      (fun _ _ _ _ _ => pe_tup (pa_cons pe_int (pa_cons pe_bl (pa_cons pe_bl (pa_cons pe_int pa_nil)))))) pa_nil))), ?_⟩
    refine ⟨.ref p, rfl, p, rfl, ⟨xs, sqt hp⟩, fun D nD => ?_⟩
    have pD : p ≠ D := ne_of_none hp nD
    refine lc_tup (K := K) (a := p) (xs := xs) (fun i H' => (∀ b o, b ≠ D → H b = some o → H' b = some o) ∧ ∃ ys : List V, H' D = some (.lst ys) ∧ ys.length = i ∧ ∀ j, j < i → ∃ a, ys[j]? = some (.ref a) ∧ H' a = some (.tup row0))
      ⟨fun b o n e => (upd_ne n).trans e, [], upd_same, rfl, fun j h => by omega⟩ (fun i H' hi hP => ?_) (fun i x H' hx hP => ?_) (fun H' hP => ?_)
    · obtain ⟨k, _⟩ := hP
      exact sqt (k p _ pD hp)
    · obtain ⟨k, ys, hy, hl, hr⟩ := hP
      refine ⟨rfl, by show 4 ≤ sizeLine; decide, fun t nt => ?_⟩
      have Dt : D ≠ t := ne_of_none hy nt
      refine ⟨ys, (upd_ne Dt).trans hy, by rw [hl]; exact small1000 (by have := (List.getElem?_eq_some_iff.mp hx).1; omega), fun b o n e => ?_, ys ++ [.ref t], upd_same, by simp [hl], fun j hj => ?_⟩
      · have z := k b o n e
        rw [upd_ne n, upd_ne (ne_of_none z nt)]
        exact z
      · rcases Nat.lt_or_ge j i with h | h
        · obtain ⟨a, e1, e2⟩ := hr j h
          have aD : a ≠ D := fun z => by
            rw [z, hy] at e2
            cases e2
          refine ⟨a, by rw [List.getElem?_append_left (by omega)]; exact e1, ?_⟩
          rw [upd_ne aD, upd_ne (ne_of_none e2 nt)]
          exact e2
        · have : j = i := by omega
          subst this
          refine ⟨t, by rw [List.getElem?_append_right (by omega), hl, Nat.sub_self]; rfl, ?_⟩
          rw [upd_ne Dt.symm, upd_same]
          rfl
    · obtain ⟨k, ys, hy, hl, hr⟩ := hP
      refine ⟨D, ys, rfl, .inl ⟨sq hy, fun t nt => ?_⟩⟩
      have kA : Al H H' := fun b o e => k b o (ne_of_none e nD) e
      refine q _ t (kA.new nt) (kA.gone nt) ⟨ys, upd_same, by rw [hl, List.length_replicate, hlen], fun i c e => ?_⟩
      obtain ⟨h1, h2⟩ := List.getElem?_eq_some_iff.mp e
      rw [List.getElem_replicate] at h2
      rw [List.length_replicate] at h1
      obtain ⟨a, e1, e2⟩ := hr i (by omega)
      refine ⟨a, e1, ?_⟩
      rw [upd_ne (ne_of_none e2 nt), e2, h2]
end
end Lk

namespace Lk
open PySem PySem.Spec PyProof.Rows L2 Drw
/-- a row of a state: its place comes first -/
structure Row where
  pl : Nat
  op : Bool
  rd : Bool
  lk : Int
def rowV (r : Row) : List V := [.int r.pl, .bl r.op, .bl r.rd, .int r.lk]
def wordsV (ws : List Str) : List V := ws.map V.str
theorem Kids.at {H : Hp} {p : Addr} {ks : List (List V)} (h : Kids H p ks) {i : Nat} {k : List V} (e : ks[i]? = some k) : ∃ xs a, H p = some (.tup xs) ∧ xs[i]? = some (.ref a) ∧ H a = some (.tup k) := by
  obtain ⟨xs, h1, _, h3⟩ := h
  obtain ⟨a, e1, e2⟩ := h3 i k e
  exact ⟨xs, a, h1, e1, e2⟩
/-- whether script i has a step left -/
def leftB (ss : List (List Str)) (rows : List Row) (i : Nat) : Bool := decide (((rows[i]?.map (·.pl)).getD 0) < ((ss[i]?.map (·.length)).getD 0))
def leftL (ss : List (List Str)) (rows : List Row) (n : Nat) : List Nat := (List.range n).filter (leftB ss rows)
theorem scLeft : FnScope ["_law_scripts_here", "_law_here", "_law_k"] ["_law_scripts_here", "_law_here"] (defScope sLeft) := ⟨rfl, rfl, rfl, by decide +kernel, rfl, by decide +kernel, by decide +kernel⟩
def spLeft : Sp := fun vs H Q _ => ∃ (p s : Addr) (ss : List (List Str)) (rows : List Row), vs = [.ref p, .ref s] ∧ Kids H p (ss.map wordsV) ∧ Kids H s (rows.map rowV) ∧ rows.length = ss.length ∧ ss.length ≤ 1000 ∧
  ∀ H' l, Al H H' → H l = none → H' l = some (.lst ((leftL ss rows ss.length).map fun k => V.int (k : Nat))) → Q (.ref l) H'
section
variable {P : Program} {w : World} {K : PySem.W.Frag} {mg : Str → Option Value} {base : Heap}
theorem ok_left {f : Addr} {fd : FuncData} (F : Fun K "_law_left" "_law_left" sLeft f fd) (ml : mg "len" = none) (mr : mg "range" = none) : FnOk P w K mg base CX0 1 f fd ["_law_scripts_here", "_law_here"] spLeft := by
  refine F.ok scLeft (fun vs H Q E h => ?_) (fun cdv A outer s H vs Q E hr h => ?_)
  · obtain ⟨p, s, ss, rows, rfl, _⟩ := h
    rfl
  · obtain ⟨p, s, ss, rows, rfl, hP, hS, hn, h1000, q⟩ := h
    obtain ⟨xs, hp, hlen, _⟩ := id hP
    rw [List.length_map] at hlen
    refine ⟨_, pss_one (ps_ret (pe_lc (own := [("_law_k", 2)]) (g := gName 2) (tt := tTest (tOp (rI0 fun i j => .bl (decide (i < j))) (tOp (rIxT K) (tOp (rIxT K) (tVar 1) (tVar 2)) (tC (.int 0))) (tCB (fun xs H Q => ∃ p ys, xs = [.ref p] ∧ (SqL K H p ys ∨ SqT K H p ys) ∧ Q (.int ys.length) H) (tCons (tOp (rIxT K) (tVar 0) (tVar 2)) tNil)))) rfl scLeft.nd (pi_range1 (by rfl) mr (pa_cons (pe_callB call_len_seq (by rfl) ml PySem.boot_len (pa_cons (pv 0) pa_nil)) pa_nil))
      (blkOk_by (N := ["_law_scripts_here", "_law_here", "_law_k"]) (sc := defScope sLeft) (by decide +kernel)) (fun _ _ _ _ _ => pg_name (i := 2) scLeft.nd rfl (Or.inl rfl))
      (fun _ _ _ _ _ => pts_one (pt_cmpR op_lt (pe_ix ix_tup (pe_ix ix_tup (pv 1) (pv 2) (fun _ _ => rfl)) pe_int (fun _ _ => rfl)) (pe_callB call_len_seq (by rfl) ml PySem.boot_len (pa_cons (pe_ix ix_tup (pv 0) (pv 2) (fun _ _ => rfl)) pa_nil)) (nomark _)))
      (fun _ _ _ _ _ => pv 2))), ?_⟩
    refine ⟨.ref p, rfl, p, xs, rfl, .inr (sqt hp), _, rfl, by omega, by omega, fun D nD => ?_⟩
    have nDm : H D = none := nD
    rw [hlen]
    refine lc_range (n := ss.length) (fun i H' => Al H H' ∧ H' D = some (.lst ((leftL ss rows i).map fun k => V.int (k : Nat)))) ⟨Al.refl.new nD, upd_same⟩ (fun i H' hi hI => ?_) (fun H' hI => ?_)
    · obtain ⟨k, hD⟩ := hI
      have hir : i < rows.length := by omega
      obtain ⟨ys, b, s1, s2, s3⟩ := (hS.al k).at (i := i) (k := rowV rows[i]) (by rw [List.getElem?_map, List.getElem?_eq_getElem hir]; rfl)
      obtain ⟨zs, c, p1, p2, p3⟩ := (hP.al k).at (i := i) (k := wordsV ss[i]) (by rw [List.getElem?_map, List.getElem?_eq_getElem hi]; rfl)
      have val : leftB ss rows i = decide (((rows[i].pl : Nat) : Int) < ((wordsV ss[i]).length : Int)) := by
        unfold leftB wordsV
        rw [List.getElem?_eq_getElem hir, List.getElem?_eq_getElem hi, List.length_map]
        show decide (rows[i].pl < ss[i].length) = _
        exact decide_eq_decide.mpr (by omega)
      have step : leftL ss rows (i + 1) = leftL ss rows i ++ (if leftB ss rows i = true then [i] else []) := by
        unfold leftL
        rw [List.range_succ, List.filter_append]
        congr 1
        rw [List.filter_cons]
        split <;> simp_all
      refine ⟨rfl, ?_⟩
      refine ⟨.ref s, rfl, _, rfl, s, ys, i, .ref b, rfl, by rw [Int.zero_add], sqt s1, atI_nat s2, b, _, 0, _, rfl, rfl, sqt s3, atI_nat (j := 0) rfl, .ref p, rfl, _, rfl, p, zs, i, .ref c, rfl, by rw [Int.zero_add], sqt p1, atI_nat p2, c, _, rfl, .inr (sqt p3), _, _, rfl, rfl, _, rfl, ?_⟩
      rw [← val]
      cases hb : leftB ss rows i with
      | true =>
        refine iteT ⟨_, rfl, _, hD, ?_, fun y o z => ?_, ?_⟩
        · rw [List.length_map]
          have z : (leftL ss rows i).length ≤ i := by
            have z1 := List.length_filter_le (leftB ss rows) (List.range i)
            rw [List.length_range] at z1
            exact z1
          exact small1000 (by omega)
        · rw [upd_ne (ne_of_none z nDm)]
          exact k _ _ z
        · rw [upd_same, step, hb, if_pos rfl, List.map_append, Int.zero_add]
          rfl
      | false =>
        refine iteF ⟨k, ?_⟩
        rw [hD, step, hb, if_neg Bool.false_ne_true, List.append_nil]
    · exact q _ D hI.1 nDm hI.2
end
end Lk

namespace Lk
open PySem PySem.Spec PyProof.Rows L2 Drw
theorem cat_any {K : PySem.W.Frag} {H : Hp} {a b : Addr} {xs ys : List V} {Q : VK} (ha : H a = some (.tup xs)) (hb : H b = some (.tup ys)) (hz : xs.length + ys.length ≤ sizeLine) (q : ∀ H' t, Al H H' → H' t = some (.tup (xs ++ ys)) → Q (.ref t) H') : rCatA K (.ref a) (.ref b) H Q := by
  refine ⟨a, b, xs, ys, rfl, rfl, sqt ha, sqt hb, hz, fun e => ?_, fun _ e => ?_, fun _ _ p np => q _ p (Al.refl.new np) upd_same⟩
  · subst e
    exact q H b Al.refl hb
  · subst e
    exact q H a Al.refl (by rw [List.append_nil]; exact ha)
theorem sl_any {K : PySem.W.Frag} {H : Hp} {a : Addr} {xs : List V} {lo hi : Option Int} {Q : VK} (ha : H a = some (.tup xs)) (q : ∀ H' t, Al H H' → H' t = some (.tup (cutV xs lo hi)) → Q (.ref t) H') : rSlA K (.ref a) lo hi H Q := by
  refine ⟨a, xs, rfl, sqt ha, fun e => ?_, fun _ p np => q _ p (Al.refl.new np) upd_same⟩
  refine q H a Al.refl ?_
  unfold cutV
  rw [e.1, e.2, List.drop_zero, Nat.sub_zero, List.take_length]
  exact ha
theorem cut_take (xs : List V) (a : Nat) : cutV xs none (some (a : Int)) = xs.take a := by
  unfold cutV
  rw [HT.sIx_none, HT.sIx_nat, List.drop_zero, Nat.sub_zero]
  rcases Nat.le_total a xs.length with h | h
  · rw [Nat.min_eq_left h]
  · rw [Nat.min_eq_right h, List.take_length, List.take_of_length_le h]
theorem cut_drop (xs : List V) (a : Nat) : cutV xs (some (a : Int)) none = xs.drop a := by
  unfold cutV
  rw [HT.sIx_none, HT.sIx_nat]
  rcases Nat.le_total a xs.length with h | h
  · rw [Nat.min_eq_left h, List.take_of_length_le]
    rw [List.length_drop]
    exact Nat.le_refl _
  · rw [Nat.min_eq_right h, Nat.sub_self, List.take_zero, List.drop_eq_nil_of_le h]
/-- a row put in a tuple of rows -/
theorem kids_set {H : Hp} {t u : Addr} {xs : List V} {ks : List (List V)} {a : Nat} {k : List V} (hx : xs.length = ks.length) (hk : ∀ (i : Nat) (k : List V), ks[i]? = some k → ∃ a, xs[i]? = some (.ref a) ∧ H a = some (.tup k)) (ha : a < ks.length)
    (ht : H t = some (.tup (xs.take a ++ [.ref u] ++ xs.drop (a + 1)))) (hu : H u = some (.tup k)) : Kids H t (ks.set a k) := by
  have e : xs.take a ++ [.ref u] ++ xs.drop (a + 1) = xs.set a (.ref u) := by
    rw [List.set_eq_take_append_cons_drop, if_pos (by omega), List.append_assoc]
    rfl
  refine ⟨_, ht, by rw [e, List.length_set, List.length_set, hx], fun i c hc => ?_⟩
  rw [e]
  rw [List.getElem?_set] at hc ⊢
  by_cases h : a = i
  · subst h
    rw [if_pos rfl, if_pos (by omega)] at hc ⊢
    exact ⟨u, rfl, by rw [hu]; exact congrArg _ (congrArg _ (Option.some.inj hc))⟩
  · rw [if_neg h] at hc ⊢
    exact hk i c hc
/-- m is the greatest lock of the others -/
def IsTop (rows : List Row) (at' : Nat) (m : Int) : Prop := (m = 0 ∨ ∃ k r, rows[k]? = some r ∧ k ≠ at' ∧ m = r.lk) ∧ 0 ≤ m ∧ ∀ k r, rows[k]? = some r → k ≠ at' → r.lk ≤ m
/-- the row behind a try, and whether it was refused -/
def nextRow (w : Str) (r : Row) (m : Int) : Row × Bool :=
  if refB w r.op r.lk m = true then (⟨r.pl, r.op, r.rd, if w = "commit" then (if 3 > r.lk then 3 else r.lk) else r.lk⟩, true)
  else (⟨r.pl + 1, opnB w r.op, rdsB w r.rd, lockB w r.op r.rd r.lk⟩, false)
theorem scAfter : FnScope ["_law_scripts_here", "_law_here", "_law_at", "_law_place", "_law_opened", "_law_reads", "_law_lock", "_law_word", "_law_top", "_law_held", "_law_k", "_law_row"] ["_law_scripts_here", "_law_here", "_law_at"] (defScope sAfter) := ⟨rfl, rfl, rfl, by decide +kernel, rfl, by decide +kernel, by decide +kernel⟩
def spAfter : Sp := fun vs H Q _ => ∃ (p s : Addr) (ss : List (List Str)) (rows : List Row) (a : Nat) (r : Row) (ws : List Str) (w : Str), vs = [.ref p, .ref s, .int a] ∧ Kids H p (ss.map wordsV) ∧ Kids H s (rows.map rowV) ∧ rows.length ≤ 100 ∧ rows[a]? = some r ∧ ss[a]? = some ws ∧ ws[r.pl]? = some w ∧
  ∀ H' t u m, Al H H' → H t = none → IsTop rows a m → H' t = some (.tup [.ref u, .bl (nextRow w r m).2]) → Kids H' u ((rows.set a (nextRow w r m).1).map rowV) → Q (.ref t) H'
section
variable {P : Program} {w : World} {K : PySem.W.Frag} {mg : Str → Option Value} {base : Heap}
theorem ok_after {f fR fB : Addr} {fd dR dB : FuncData} (F : Fun K "_law_after" "_law_after" sAfter f fd) (FR : Fun K "_law_refused" "_law_refused" sRefused fR dR) (FB : Fun K "_law_behind" "_law_behind" sBehind fB dB)
    (bR : Binds K dR ["_law_word", "_law_opened", "_law_lock", "_law_top"] []) (bB : Binds K dB ["_law_word", "_law_opened", "_law_reads", "_law_lock"] []) (gR : mg "_law_refused" = some (.ref fR)) (gB : mg "_law_behind" = some (.ref fB))
    (mi : mg "int" = none) (mm : mg "max" = none) (me : mg "enumerate" = none) : FnOk P w K mg base CX0 2 f fd ["_law_scripts_here", "_law_here", "_law_at"] spAfter := by
  have GR : FnOk P w K mg base CX0 1 fR dR _ spRefused := ok_refused FR
  have GB : FnOk P w K mg base CX0 1 fB dB _ spBehind := ok_behind FB mi mm
  refine F.ok scAfter (fun vs H Q E h => ?_) (fun cdv A outer s H vs Q E hr h => ?_)
  · obtain ⟨p, s, ss, rows, a, r, ws, w, rfl, _⟩ := h
    rfl
  · obtain ⟨p, s, ss, rows, a, r, ws, w, rfl, hP, hS, h100, hra, hsa, hwa, q⟩ := h
    refine ⟨_, pss_cons (ps_asg (pe_ix ix_tup (pv 1) (pv 2) (fun _ _ => rfl)) (pg_tup rfl (pgs_cons (pg_name (i := 3) scAfter.nd rfl (.inl rfl)) (pgs_cons (pg_name (i := 4) scAfter.nd rfl (.inl rfl)) (pgs_cons (pg_name (i := 5) scAfter.nd rfl (.inl rfl)) (pgs_cons (pg_name (i := 6) scAfter.nd rfl (.inl rfl)) pgs_nil))))))
      (pss_cons (ps_set (i := 7) scAfter.nd rfl (.inl rfl) (pe_ix ix_tup (pe_ix ix_tup (pv 0) (pv 2) (fun _ _ => rfl)) (pv 3) (fun _ _ => rfl)))
      (pss_cons (ps_set (i := 8) scAfter.nd rfl (.inl rfl) (pe_callB (cr_max rfl) (by rfl) mm (by decide +kernel) (pa_cons (pe_op op_cat (pe_lst (pa_cons pe_int pa_nil))
          (pe_lc (own := [("_law_k", 10), ("_law_row", 11)]) (g := gTup K 2 (gCons (gName 10) (gCons (gName 11) gNil))) (tt := tTest (tOp rNe (tVar 10) (tVar 2))) (te := tOp (rIxT K) (tVar 11) (tC (.int 3))) rfl scAfter.nd (pi_enT (by rfl) me (pa_cons (pv 1) pa_nil))
            (blkOk_by (N := ["_law_scripts_here", "_law_here", "_law_at", "_law_place", "_law_opened", "_law_reads", "_law_lock", "_law_word", "_law_top", "_law_held", "_law_k", "_law_row"]) (sc := defScope sAfter) (by decide +kernel))
            (fun _ _ _ _ _ => pg_tup rfl (pgs_cons (pg_name (i := 10) scAfter.nd rfl (Or.inl rfl)) (pgs_cons (pg_name (i := 11) scAfter.nd rfl (Or.inl rfl)) pgs_nil)))
            (fun _ _ _ _ _ => pts_one (pt_cmpR op_ne (pv 10) (pv 2) (nomark _))) (fun _ _ _ _ _ => pe_ix ix_tup (pv 11) pe_int (fun _ _ => rfl)))) pa_nil)))
      (pss_cons (ps_if (pt_val (pe_call GR hr (by rfl) gR FR.kp bR .nil pass0 (pa_cons (pv 7) (pa_cons (pv 4) (pa_cons (pv 6) (pa_cons (pv 8) pa_nil))))))
        (C8.pss_cut (ps_set (i := 9) scAfter.nd rfl (.inl rfl) (pe_ifExp (pt_cmpR op_eq (pv 7) pe_str (nomark _)) (pe_callB (call_max2 rfl) (by rfl) mm (by decide +kernel) (pa_cons (pv 6) (pa_cons pe_int pa_nil))) (pv 6)))
        (pss_one (ps_ret (pe_tup (pa_cons (pe_op op_catA (pe_op op_catA (pe_slice sl_tupA (pv 1) po_none (po_some (pv 2))) (pe_tup (pa_cons (pe_tup (pa_cons (pv 3) (pa_cons (pv 4) (pa_cons (pv 5) (pa_cons (pv 9) pa_nil))))) pa_nil)))
          (pe_slice sl_tupA (pv 1) (po_some (pe_op op_add (pv 2) pe_int)) po_none)) (pa_cons pe_bl pa_nil)))))) pss_nil)
      (pss_one (ps_ret (pe_tup (pa_cons (pe_op op_catA (pe_op op_catA (pe_slice sl_tupA (pv 1) po_none (po_some (pv 2))) (pe_tup (pa_cons (pe_op op_catA (pe_tup (pa_cons (pe_op op_add (pv 3) pe_int) pa_nil)) (pe_call GB hr (by rfl) gB FB.kp bB .nil pass0 (pa_cons (pv 7) (pa_cons (pv 4) (pa_cons (pv 5) (pa_cons (pv 6) pa_nil)))))) pa_nil)))
          (pe_slice sl_tupA (pv 1) (po_some (pe_op op_add (pv 2) pe_int)) po_none)) (pa_cons pe_bl pa_nil))))))))  , ?_⟩
    obtain ⟨xs, b, s1, s2, s3⟩ := hS.at (i := a) (k := rowV r) (by rw [List.getElem?_map, hra]; rfl)
    obtain ⟨zs, c, p1, p2, p3⟩ := hP.at (i := a) (k := wordsV ws) (by rw [List.getElem?_map, hsa]; rfl)
    have hw2 : (wordsV ws)[r.pl]? = some (.str w) := by
      unfold wordsV
      rw [List.getElem?_map, hwa]
      rfl
    refine ⟨.ref s, rfl, .int a, rfl, s, xs, a, .ref b, rfl, rfl, sqt s1, atI_nat s2, b, _, rfl, sqt s3, rfl, _, _, rfl, _, _, rfl, _, _, rfl, _, _, rfl, rfl, ?_⟩
    refine ⟨.ref p, rfl, .int a, rfl, p, zs, a, .ref c, rfl, rfl, sqt p1, atI_nat p2, .int r.pl, rfl, c, _, r.pl, .str w, rfl, rfl, sqt p3, atI_nat hw2, ?_⟩
    -- the greatest lock of the others
    have hlen : xs.length = rows.length := by
      obtain ⟨xs', e1, e2, _⟩ := hS
      obtain rfl : xs' = xs := by
        have z := e1.symm.trans s1
        injection z with z
        injection z
      rw [e2, List.length_map]
    have har : a < rows.length := (List.getElem?_eq_some_iff.mp hra).1
    have hkids : ∀ (i : Nat) (k : List V), (rows.map rowV)[i]? = some k → ∃ a, xs[i]? = some (.ref a) ∧ H a = some (.tup k) := by
      obtain ⟨xs', e1, e2, e3⟩ := hS
      obtain rfl : xs' = xs := by
        have z := e1.symm.trans s1
        injection z with z
        injection z
      exact e3
    refine ⟨by show 1 ≤ sizeLine; decide, fun L nL => ?_⟩
    have k1 := (Al.refl (H := H)).new (o := .lst [.int 0]) nL
    refine ⟨.ref s, rfl, s, xs, rfl, sqt (k1 _ _ s1), fun D nD => ?_⟩
    refine ⟨fun i m H' => i + m = xs.length ∧ Al H H' ∧ H' L = some (.lst [.int 0]) ∧ ∃ ns : List Int, H' D = some (.lst (ns.map V.int)) ∧ ns.length ≤ i ∧ (∀ y ∈ ns, ∃ (k : Nat) (r : Row), rows[k]? = some r ∧ k ≠ a ∧ y = r.lk) ∧ (∀ (k : Nat) (r : Row), k < i → rows[k]? = some r → k ≠ a → r.lk ∈ ns),
      ⟨xs.length, by omega, k1.new nD, (upd_ne (ne_of_none upd_same nD)).trans upd_same, [], upd_same, Nat.zero_le _, fun y hy => (by cases hy), fun k r h => by omega⟩, fun i m H' hW => ?_⟩
    obtain ⟨em, kW, eL, ns, eD, hns, n1, n2⟩ := hW
    have sW := kW _ _ s1
    by_cases hi : i < xs.length
    · have gi : xs[i]? = some xs[i] := List.getElem?_eq_getElem hi
      have hir : i < rows.length := by omega
      obtain ⟨ci, ei, hci⟩ := hkids i (rowV rows[i]) (by rw [List.getElem?_map, List.getElem?_eq_getElem hir]; rfl)
      refine .inr ⟨⟨sqt sW, hi⟩, fun H'' => Al H H'' ∧ H'' L = some (.lst [.int 0]) ∧ ∃ ns : List Int, H'' D = some (.lst (ns.map V.int)) ∧ ns.length ≤ i + 1 ∧ (∀ y ∈ ns, ∃ (k : Nat) (r : Row), rows[k]? = some r ∧ k ≠ a ∧ y = r.lk) ∧ (∀ (k : Nat) (r : Row), k < i + 1 → rows[k]? = some r → k ≠ a → r.lk ∈ ns),
        fun H'' hN => ⟨m - 1, by omega, by omega, hN⟩, fun v H'' hy => ?_⟩
      obtain ⟨T, x, rfl, nT, hx, rfl⟩ := hy
      obtain rfl : x = .ref ci := by
        rw [ei] at hx
        exact (Option.some.inj hx).symm
      have nTm : H' T = none := nT
      have LT : L ≠ T := ne_of_none eL nTm
      have DT : D ≠ T := ne_of_none eD nTm
      refine ⟨T, _, rfl, sqt upd_same, rfl, _, _, rfl, _, _, rfl, rfl, rfl, ?_⟩
      refine ⟨_, rfl, .int a, rfl, rfl, _, rfl, ?_⟩
      rw [eq_int]
      have kT := kW.new (o := .tup [.int (i : Nat), .ref ci]) nTm
      by_cases hia : i = a
      · rw [decide_eq_true (by rw [hia]), Bool.not_true]
        refine iteF ⟨kT, (upd_ne LT).trans eL, ns, (upd_ne DT).trans eD, by omega, n1, fun k r hk e n => n2 k r (by omega) e n⟩
      · rw [decide_eq_false (by omega), Bool.not_false]
        have hc3 := kT ci _ hci
        refine iteT ⟨_, rfl, ci, _, 3, .int rows[i].lk, rfl, rfl, sqt hc3, atI_nat (j := 3) rfl, _, (upd_ne DT).trans eD, by rw [List.length_map]; exact small1000 (by omega), fun b o z => ?_, ?_, ns ++ [rows[i].lk], ?_, by simp; omega, fun y hy => ?_, fun k r hk e n => ?_⟩
        · have bD : b ≠ D := ne_of_none ((Al.refl.new nL) b o z) nD
          rw [upd_ne bD]
          exact kT b o z
        · have LD : L ≠ D := ne_of_none upd_same nD
          rw [upd_ne LD, upd_ne LT]
          exact eL
        · rw [upd_same, List.map_append]
          rfl
        · rcases List.mem_append.mp hy with hy | hy
          · exact n1 y hy
          · exact ⟨i, rows[i], List.getElem?_eq_getElem hir, hia, by simpa using hy⟩
        · rcases Nat.lt_or_ge k i with hki | hki
          · exact List.mem_append_left _ (n2 k r hki e n)
          · have : k = i := by omega
            subst this
            rw [List.getElem?_eq_getElem hir] at e
            rw [← Option.some.inj e]
            exact List.mem_append_right _ (List.mem_singleton.mpr rfl)
    · refine .inl ⟨⟨sqt sW, by omega⟩, ?_⟩
      have LD : L ≠ D := ne_of_none upd_same nD
      refine ⟨L, D, _, _, rfl, rfl, eL, eD, ?_, fun M nM => ?_⟩
      · rw [List.length_map]
        exact Nat.le_of_lt (small1000 (by show 1 + ns.length ≤ 1000; omega))
      have kM := kW.new (o := .lst ([V.int 0] ++ ns.map V.int)) nM
      refine ⟨M, 0 :: ns, rfl, sq upd_same, by simp, fun m hm hle => ?_⟩
      have htop : IsTop rows a m := by
        refine ⟨?_, hle 0 (List.mem_cons_self ..), fun k r e n => ?_⟩
        · rcases List.mem_cons.mp hm with h | h
          · exact .inl h
          · exact .inr (n1 m h)
        · have hk : k < rows.length := (List.getElem?_eq_some_iff.mp e).1
          exact hle _ (List.mem_cons_of_mem _ (n2 k r (by omega) e n))
      have room : ∀ {us : List V}, us.length ≤ 200 → us.length ≤ sizeLine := fun h => Nat.le_of_lt (small1000 (by omega))
      have xl : xs.length ≤ 100 := by omega
      have c1 : cutV xs none (some (a : Int)) = xs.take a := cut_take xs a
      have c2 : cutV xs (some ((a : Int) + 1)) none = xs.drop (a + 1) := by
        rw [show ((a : Int) + 1) = ((a + 1 : Nat) : Int) by omega, cut_drop]
      have l1 : (xs.take a).length ≤ 100 := by
        rw [List.length_take]
        omega
      have l2 : (xs.drop (a + 1)).length ≤ 100 := by
        rw [List.length_drop]
        omega
      have fin : ∀ (H9 : Hp) (t9 row t10 : Addr) (rr : Row × Bool), rr = nextRow w r m → Al H H9 → H9 row = some (.tup (rowV rr.1)) → H9 t9 = some (.tup (xs.take a ++ [.ref row] ++ xs.drop (a + 1))) → H9 t10 = none → Q (.ref t10) (upd H9 t10 (.tup [.ref t9, .bl rr.2])) := by
        intro H9 t9 row t10 rr er kk hrow e9 n10
        have k10 := kk.new (o := .tup [.ref t9, .bl rr.2]) n10
        refine q _ t10 t9 m k10 (kk.gone n10) htop (by rw [upd_same, er]) ?_
        have z := kids_set (H := upd H9 t10 (.tup [.ref t9, .bl rr.2])) (t := t9) (u := row) (ks := rows.map rowV) (a := a) (k := rowV rr.1) (by rw [List.length_map]; exact hlen) (fun j kk' e => by
          obtain ⟨c', y1, y2⟩ := hkids j kk' e
          exact ⟨c', y1, k10 _ _ y2⟩) (by rw [List.length_map]; exact har) ((Al.refl.new n10) _ _ e9) ((Al.refl.new n10) _ _ hrow)
        rw [List.map_set, ← er]
        exact z
      refine ⟨.str w, rfl, .bl r.op, rfl, .int r.lk, rfl, .int m, rfl, w, r.op, r.lk, m, rfl, fun H2 k2 => ?_⟩
      have kk := kM.trans k2
      refine ⟨refB w r.op r.lk m, rfl, ite2 (fun e => ?_) (fun e => ?_)⟩
      · refine ⟨fun σ H3 => ∃ (held : Int) (y10 y11 : Option V), σ = [some (.ref p), some (.ref s), some (.int a), some (.int r.pl), some (.bl r.op), some (.bl r.rd), some (.int r.lk), some (.str w), some (.int m), some (.int held), y10, y11] ∧ Al H H3 ∧ ((⟨r.pl, r.op, r.rd, held⟩ : Row), true) = nextRow w r m, ?_, ?_⟩
        · refine ⟨.str w, rfl, rfl, _, rfl, ite2 (fun e1 => ?_) (fun e1 => ?_)⟩
          · refine ⟨.int r.lk, rfl, _, _, rfl, _, _, _, rfl, kk, ?_⟩
            have hw : w = "commit" := of_decide_eq_true (eq_str.symm.trans e1)
            rw [nextRow, if_pos e, if_pos hw]
          · refine ⟨.int r.lk, rfl, _, _, _, rfl, kk, ?_⟩
            have hw : ¬ w = "commit" := fun z => e1 (eq_str.trans (decide_eq_true z))
            rw [nextRow, if_pos e, if_neg hw]
        · rintro σ H3 ⟨held, y10, y11, rfl, k3, er⟩
          refine ⟨.ref s, rfl, .int a, rfl, a, rfl, sl_any (k3 _ _ s1) fun H4 t4 k4 e4 => ?_⟩
          refine ⟨.int r.pl, rfl, .bl r.op, rfl, .bl r.rd, rfl, .int held, rfl, by show 4 ≤ sizeLine; decide, fun t5 n5 => ⟨by show 1 ≤ sizeLine; decide, fun t6 n6 => ?_⟩⟩
          have k5 := (Al.refl (H := H4)).new (o := .tup (rowV ⟨r.pl, r.op, r.rd, held⟩)) n5
          have k6 := k5.new (o := .tup [.ref t5]) n6
          have e5 := ((Al.refl).new (o := .tup [.ref t5]) n6) t5 _ (upd_same (o := .tup (rowV ⟨r.pl, r.op, r.rd, held⟩)))
          have kB := (k3.trans k4).trans k6
          refine cat_any (k6 _ _ e4) upd_same (by rw [c1]; exact Nat.le_of_lt (small1000 (by show (xs.take a).length + 1 ≤ 1000; omega))) fun H7 t7 k7 e7 => ?_
          refine ⟨.ref s, rfl, .int a, rfl, a, 1, rfl, rfl, _, rfl, ?_⟩
          delta tNoPart
          refine sl_any (K := K) (lo := some ((a : Int) + 1)) (hi := none) ((kB.trans k7) _ _ s1) fun H8 t8 k8 e8 => ?_
          refine cat_any (k8 _ _ e7) e8 (by rw [c1, c2]; exact Nat.le_of_lt (small1000 (by rw [List.length_append]; show (xs.take a).length + 1 + _ ≤ 1000; omega))) fun H9 t9 k9 e9 => ?_
          refine ⟨by show 2 ≤ sizeLine; decide, fun t10 n10 => ?_⟩
          rw [c1, c2] at e9
          exact fin H9 t9 t5 t10 _ er (((kB.trans k7).trans k8).trans k9) (k9 _ _ (k8 _ _ (k7 _ _ e5))) e9 n10
      · have er : ((⟨r.pl + 1, opnB w r.op, rdsB w r.rd, lockB w r.op r.rd r.lk⟩ : Row), false) = nextRow w r m := by rw [nextRow, if_neg e]
        refine ⟨.ref s, rfl, .int a, rfl, a, rfl, sl_any (kk _ _ s1) fun H4 t4 k4 e4 => ?_⟩
        refine ⟨.int r.pl, rfl, r.pl, 1, rfl, rfl, by show 1 ≤ sizeLine; decide, fun t5 n5 => ?_⟩
        have k5 := (Al.refl (H := H4)).new (o := .tup [.int ((r.pl : Int) + 1)]) n5
        refine ⟨.str w, rfl, .bl r.op, rfl, .bl r.rd, rfl, .int r.lk, rfl, w, r.op, r.rd, r.lk, rfl, fun H6 t6 k6 n6 e6 => ?_⟩
        refine cat_any (k6 _ _ (upd_same (o := .tup [.int ((r.pl : Int) + 1)]))) e6 (by show 1 + 3 ≤ sizeLine; decide) fun H7 t7 k7 e7 => ?_
        refine ⟨by show 1 ≤ sizeLine; decide, fun t8 n8 => ?_⟩
        have k8 := (Al.refl (H := H7)).new (o := .tup [.ref t7]) n8
        have kB := (k5.trans k6).trans (k7.trans k8)
        have kC := (kk.trans k4).trans kB
        have hrow : upd H7 t8 (.tup [.ref t7]) t7 = some (.tup (rowV ⟨r.pl + 1, opnB w r.op, rdsB w r.rd, lockB w r.op r.rd r.lk⟩)) := by
          rw [k8 _ _ e7]
          rfl
        refine cat_any (kB _ _ e4) upd_same (by rw [c1]; exact Nat.le_of_lt (small1000 (by show (xs.take a).length + 1 ≤ 1000; omega))) fun H9 t9 k9 e9 => ?_
        refine ⟨.ref s, rfl, .int a, rfl, a, 1, rfl, rfl, _, rfl, ?_⟩
        delta tNoPart
        refine sl_any (K := K) (lo := some ((a : Int) + 1)) (hi := none) ((kC.trans k9) _ _ s1) fun H10 t10 k10 e10 => ?_
        refine cat_any (k10 _ _ e9) e10 (by rw [c1, c2]; exact Nat.le_of_lt (small1000 (by rw [List.length_append]; show (xs.take a).length + 1 + _ ≤ 1000; omega))) fun H11 t11 k11 e11 => ?_
        refine ⟨by show 2 ≤ sizeLine; decide, fun t12 n12 => ?_⟩
        rw [c1, c2] at e11
        exact fin H11 t11 t7 t12 _ er (((kC.trans k9).trans k10).trans k11) (k11 _ _ (k10 _ _ (k9 _ _ hrow))) e11 n12
end
end Lk

namespace Lk
open PySem PySem.Spec PyProof.Rows L2 Drw
/-- what is the number of none of so many scripts -/
inductive OddAt (H : Hp) (many : Int) : V → Prop
  | int (i : Int) (h : i < 0 ∨ many ≤ i) : OddAt H many (.int i)
  | non : OddAt H many .non
  | bl (b : Bool) : OddAt H many (.bl b)
  | str (s : Str) : OddAt H many (.str s)
  | tup {a : Addr} (h : H a = some (.tup [.int 0])) : OddAt H many (.ref a)
  | lst {a : Addr} (h : H a = some (.lst [.int 0])) : OddAt H many (.ref a)
  | dct {a : Addr} (h : H a = some (.dK [])) : OddAt H many (.ref a)
  | emp {a : Addr} (h : H a = some (.tup [])) : OddAt H many (.ref a)
theorem _root_.Drw.Stt.up {H H' : Hp} {l c : Addr} {ns : List Int} (h : Stt H l c ns) (k : Al H H') : Stt H' l c ns := by
  obtain ⟨⟨a, b, d, e⟩, f, g, i⟩ := h
  exact ⟨⟨a, b, d, k _ _ e⟩, k _ _ f, g, i⟩
theorem scOdd : FnScope ["_law_state", "_law_many", "_law_odd"] ["_law_state", "_law_many"] (defScope sOdd) := ⟨rfl, rfl, rfl, by decide +kernel, rfl, by decide +kernel, by decide +kernel⟩
def spOdd : Sp := fun vs H Q _ => ∃ (l c : Addr) (ns : List Int) (many : Int), vs = [.ref l, .int many] ∧ 0 < many ∧ many < 1000 ∧ Stt H l c ns ∧ ∀ H' v, (∀ b o, b ≠ l → H b = some o → H' b = some o) → Stt H' l c ns → OddAt H' many v → Q v H'
section
variable {P : Program} {w : World} {K : PySem.W.Frag} {mg : Str → Option Value} {base : Heap}
theorem ok_odd {f fO : Addr} {fd dO : FuncData} (F : Fun K "_law_odd_number" "_law_odd_number" sOdd f fd) (GO : FnOk P w K mg base CX0 3 fO dO ["_law_state", "_law_things"] spOne) (gO : mg "_law_one" = some (.ref fO)) (kO : PySem.W.keepIn K (.ref fO) = true) (bO : Binds K dO ["_law_state", "_law_things"] []) :
    FnOk P w K mg base CX0 4 f fd ["_law_state", "_law_many"] spOdd := by
  refine F.ok scOdd (fun vs H Q E h => ?_) (fun cdv A outer s H vs Q E hr h => ?_)
  · obtain ⟨l, c, ns, many, rfl, _⟩ := h
    rfl
  · obtain ⟨l, c, ns, many, rfl, m0, m1, st, q⟩ := h
    refine ⟨_, pss_cons (ps_set (i := 2) scOdd.nd rfl (.inl rfl) (pe_lst (pa_cons (pe_un un_neg pe_int) (pa_cons (pv 1) (pa_cons (pe_op op_sub pe_int (pv 1)) (pa_cons (pe_op op_add (pv 1) pe_int) (pa_cons (pe_op op_pow pe_int pe_int) (pa_cons (pe_un un_neg (pe_op op_pow pe_int pe_int))
        (pa_cons pe_non (pa_cons pe_bl (pa_cons pe_bl (pa_cons pe_str (pa_cons pe_str (pa_cons (pe_tup (pa_cons pe_int pa_nil)) (pa_cons (pe_lst (pa_cons pe_int pa_nil)) (pa_cons pe_dnewK (pa_cons (pe_tup pa_nil) pa_nil)))))))))))))))))
      (pss_one (ps_ret (pe_call GO hr (by rfl) gO kO bO .nil pass0 (pa_cons (pv 0) (pa_cons (pv 2) pa_nil))))), ?_⟩
    refine ⟨1, rfl, .int many, rfl, .int many, rfl, 0, many, rfl, rfl, .int many, rfl, many, 1, rfl, rfl, 10, 20, rfl, rfl, ⟨by decide, by decide, by decide⟩, 10, 20, rfl, rfl, ⟨by decide, by decide, by decide⟩, _, rfl, ?_⟩
    refine ⟨by show 1 ≤ sizeLine; decide, fun t1 n1 => ⟨by show 1 ≤ sizeLine; decide, fun l1 n2 => ?_⟩⟩
    intro d n3
    refine ⟨Nat.zero_le _, fun t2 n4 => ⟨by show 15 ≤ sizeLine; decide, fun L nL => ?_⟩⟩
    have k1 := (Al.refl (H := H)).new (o := .tup [.int 0]) n1
    have k2 := (Al.refl).new (o := .lst [.int 0]) n2
    have k3 := (Al.refl).new (o := .dK []) n3
    have k4 := (Al.refl).new (o := .tup []) n4
    have k5 := (Al.refl).new (o := .lst [.int (-1), .int many, .int (0 - many), .int (many + 1), .int (10 ^ 20), .int (-(10 ^ 20)), .non, .bl true, .bl false, .str "0", .str "", .ref t1, .ref l1, .ref d, .ref t2]) nL
    have kA := (((k1.trans k2).trans k3).trans k4).trans k5
    have ll : ∀ {y : Addr}, H y = none → y ≠ l := fun {y} e z => by
      obtain ⟨⟨_, _, _, hl⟩, _⟩ := st
      rw [z, hl] at e
      cases e
    have g1 : H t1 = none := n1
    have g2 : H l1 = none := k1.gone n2
    have g3 : H d = none := (k1.trans k2).gone n3
    have g4 : H t2 = none := ((k1.trans k2).trans k3).gone n4
    have g5 : H L = none := (((k1.trans k2).trans k3).trans k4).gone nL
    have e1 := k5 _ _ (k4 _ _ (k3 _ _ (k2 t1 _ (upd_same (o := .tup [.int 0])))))
    have e2 := k5 _ _ (k4 _ _ (k3 l1 _ (upd_same (o := .lst [.int 0]))))
    have e3 := k5 _ _ (k4 d _ (upd_same (o := .dK [])))
    have e4 := k5 t2 _ (upd_same (o := .tup []))
    refine ⟨.ref l, rfl, .ref L, rfl, l, c, ns, L, _, rfl, upd_same, ll g5, by show 0 < 15; decide, by show 15 < 1000; decide, st.up kA, fun H' dd x kx stx hx => ?_⟩
    refine q H' x (fun b o n e => kx b o n (kA b o e)) stx ?_
    have hm := List.mem_of_getElem? hx
    simp only [List.mem_cons, List.not_mem_nil, or_false] at hm
    rcases hm with rfl | rfl | rfl | rfl | rfl | rfl | rfl | rfl | rfl | rfl | rfl | rfl | rfl | rfl | rfl
    · exact .int _ (.inl (by decide))
    · exact .int _ (.inr (Int.le_refl _))
    · exact .int _ (.inl (by omega))
    · exact .int _ (.inr (by omega))
    · exact .int _ (.inr (by have : (1000 : Int) ≤ 10 ^ 20 := by decide
                             exact Int.le_of_lt (Int.lt_of_lt_of_le m1 this)))
    · exact .int _ (.inl (by decide))
    · exact .non
    · exact .bl _
    · exact .bl _
    · exact .str _
    · exact .str _
    · exact .tup (kx _ _ (ll g1) e1)
    · exact .lst (kx _ _ (ll g2) e2)
    · exact .dct (kx _ _ (ll g3) e3)
    · exact .emp (kx _ _ (ll g4) e4)
end
end Lk

/-! Errors whose __init__ stores one field, or hands it on by super().__init__: made, at the level of the machine. -/
namespace Err
open PySem PySem.W PySem.Calls PyProof.Rows
abbrev exB : List Value := [.type "Exception", .type "BaseException", .type "object"]
abbrev fld : Str := PySem.Str.ofString "sqlite_errorname"
abbrev exc0 (C t : Addr) : Obj := { cls := .ref C, data := .fields #[.ref t, .none, .none, .none, .bool false, .none] }
/-- a fresh error at x has got its dict, at dx, with the one field -/
structure Laid (h h' : Heap) (x C dx t1 : Addr) (v : Value) : Prop where
  old : ∀ b o, b ≠ x → h.get? b = some o → h'.get? b = some o
  here : h'.get? x = some { cls := .ref C, dict := some dx, data := .fields #[.ref t1, .none, .none, .none, .bool false, .none] }
  big : h.objs.size ≤ dx
  off : dx ≠ x
  cell : h'.Ns1 dx (fun y => if y = fld then some v else none)
theorem Laid.up {h g h' : Heap} {x C dx t1 : Addr} {v : Value} (k : ∀ b o, h.get? b = some o → g.get? b = some o) (z : h.objs.size ≤ g.objs.size) (l : Laid g h' x C dx t1 v) : Laid h h' x C dx t1 v :=
  ⟨fun b o n e => l.old b o n (k b o e), l.here, Nat.le_trans z l.big, l.off, l.cell⟩
/-- what stands of the machine while errors are made -/
structure Stands (K : Frag) (h : Heap) : Prop where
  kin : K.In h
  lim : h.NoLimit
  top : ∃ mg mb, h.Ns mainGlobals mg ∧ mg "super" = none ∧ h.Ns builtinsNs mb ∧ mb "super" = some (.type "super")
theorem Stands.up {K : Frag} {h g : Heap} (S : Stands K h) (k : ∀ b o, h.get? b = some o → g.get? b = some o) : Stands K g := by
  obtain ⟨x, l, mg, mb, a, b, c, d⟩ := S
  exact ⟨x.keeps k, l.keeps k, mg, mb, a.keeps k, b, c.keeps k, d⟩
def InitOk (prog : Program) (w : World) (K : Frag) (C f : Addr) (fd : FuncData) (n : Nat) : Prop :=
  ∀ (A : Around) (R : Result → Shared → Prop) (s : Shared) (args : Args) (x t0 : Addr) (v : Value), Stands K s.heap → s.heap.get? x = some (exc0 C t0) → A.depth + n < recursionLimit →
    BindsTo s fd args [(PySem.Str.ofString "self", .ref x), (fld, v)] → (∀ h' tk dx, Laid s.heap h' x C dx t0 v → R (.ok (.ret .none)) { s with heap := h', toks := tk }) →
    codeAny (model prog w) A (.call (.ref f) args) R s
/-- what the class says, for a store to its fresh instance -/
structure Cl (K : Frag) (C : Addr) : Prop where
  cls : excInitIn K C exB "Exception.__new__" = true
  over : excOver K C exB = true
  tk : takerIn K C fld = some none
  hd : hasDictIn K C = true
  sa : findIn K (.ref C) "__setattr__" = some (some (.builtin "object.__setattr__"))
section
variable {prog : Program} {w : World} {A : Around} {E : Value → Shared → Prop} {R : Result → Shared → Prop} {K : Frag} {C f : Addr}
theorem store_first {hp : Heap} {g : Array GenState} {d : Drawn} {t : Nat} {os : OsState} {x t0 : Addr} {v : Value} {tk : Tok} (T : Cl K C) (X : K.In hp) (hx : hp.get? x = some (exc0 C t0))
    (hq : ∀ h' tk' dx, Laid hp h' x C dx t0 v → R (.ok (.ret .none)) ⟨h', g, d, tk', os⟩) :
    codeAny (model prog w) A (.call (.builtin "object.__setattr__") ⟨[.ref x, .str fld tk, v], []⟩) R ⟨hp, g, d, t, os⟩ := by
  have hxs : x ≠ hp.objs.size := Nat.ne_of_lt (Heap.lt_size hx)
  refine osa_openX (od := none) F.store_Exception X ⟨hx, rfl, rfl, trivial⟩ T.over T.tk fun b => ?_
  obtain ⟨cd, hc, hd'⟩ := any_some T.hd
  refine wpAny_bind (wpAny_pure (wpAny_bind (instanceDict_exc hx (looks_clsIn X hc) hd' ?_)))
  refine PySem.PX.store_in_new ?_ ?_
  · exact ⟨_, #[], _, (Heap.get?_update_ne _ _ _ _ hxs.symm).trans (Heap.get?_push_at rfl rfl), rfl, fun e he => absurd he (by simp), fun _ => rfl⟩
  · intro h' tk' hn sb
    have hx1 : (hp.push (dictOf [] 0)).get? x = some (exc0 C t0) := Heap.get?_push_of_some _ hx
    refine hq h' tk' hp.objs.size ⟨fun b o hb ho => ?_, ?_, Nat.le_refl _, hxs.symm, hn⟩
    · exact (sb.2 b (Nat.ne_of_lt (Heap.lt_size ho))).trans ((Heap.get?_update_ne _ _ _ _ hb).trans (Heap.get?_push_of_some _ ho))
    · exact (sb.2 x hxs).trans (Heap.get?_update_self _ hx1 rfl)
end
end Err

namespace Err
open PySem PySem.W PySem.Calls PyProof.Rows
abbrev me : Str := PySem.Str.ofString "self"
def iA (p1 p2 pd : Pos) : Arguments := { posonlyargs := [], args := [{ arg := me, annotation := none, pos := p1 }, { arg := fld, annotation := none, pos := p2 }], vararg := none, kwonlyargs := [], kw_defaults := [], kwarg := none, defaults := [.Constant .none 0 pd] }
def iB (q1 q2 q3 q4 : Pos) : List Stmt := [.Assign [.Attribute (.Name me q1) fld q2] (.Name fld q3) q4]
def iS : Scope := { kind := .function, names := [(me, .local), (fld, .local)], isGenerator := false, isCoroutine := false, more := [] }
def jB (q1 q2 q3 q4 q5 q6 : Pos) : List Stmt := [.Expr (.Call (.Attribute (.Call (.Name "super" q1) [] [] q2) "__init__" q3) [.Name fld q4] [] q5) q6]
def jS : Scope := { kind := .function, names := [(me, .local), (fld, .local), ("__class__", .free), ("super", .globalImplicit)], isGenerator := false, isCoroutine := false, more := [] }
section
variable {prog : Program} {w : World} {K : Frag} {C f : Addr}
theorem ld {M : Model} {A : Around} {E : Value → Shared → Prop} {s : Shared} {env : Env} {m : Str → Option Value} {x : Str} {pos : Pos} {v : Value} {Q : Value → Shared → Prop} (hn : s.heap.Ns env.locals m) (hv : m x = some v) (h : Q v s)
    (hk : env.scope.kind = .function := by rfl) (hl : env.kindOf x = some .local := by rfl) (hd : (x == ("__debug__" : Str)) = false := by decide) : wpAny M A (eval (.Name x pos) env) Q E s :=
  wpAny_Name (wpAny_loadName_local hk hl hn hv h) hd
theorem init_first {qual : Str} {dV kV doc pm cdv ct oc : Value} {od an : Option Addr} {osl : Array (Option Value)} {p1 p2 pd q1 q2 q3 q4 : Pos} (T : Cl K C)
    (ho : K.lookup f = some ⟨oc, od, .func (fnOf "__init__" qual (iA p1 p2 pd) (iB q1 q2 q3 q4) iS dV kV doc pm an cdv ct), osl⟩) (hcd : codeIn K cdv qual = true) :
    InitOk prog w K C f (fnOf "__init__" qual (iA p1 p2 pd) (iB q1 q2 q3 q4) iS dV kV doc pm an cdv ct) 1 := by
  intro A R s args x t0 v S hx hroom hb hq
  refine Att.call_fn (binds := [(me, .ref x), (fld, v)]) S.kin S.lim ho hcd (by omega) hb (by first | rfl | decide) (fun s₁ IC => ?_) rfl rfl rfl
  obtain ⟨h₁, tk₁, rfl⟩ := IC.toInCall.same
  have k : ∀ b o, s.heap.get? b = some o → h₁.get? b = some o := IC.toInCall.keep
  have hn := IC.toInCall.ns
  have z : s.heap.objs.size < h₁.objs.size := hn.lt
  have S1 := S.up k
  refine wpAny_execs_cons (plainObj_wpAny_Assign_Attribute ?_)
  refine ld (v := v) hn (by first | rfl | with_unfolding_all rfl | kernel_rfl) (ld (v := .ref x) hn (by first | rfl | with_unfolding_all rfl | kernel_rfl) ?_)
  refine set_plain S1.kin (ox := exc0 C t0) (od := none) ⟨k _ _ hx, rfl, rfl, trivial⟩ T.sa ?_
  refine store_first T S1.kin (k _ _ hx) fun h' tk' dx L => ?_
  exact wpAny_execs_nil (hq h' tk' dx (L.up k (Nat.le_of_lt z)))
theorem init_next {qual : Str} {dV kV doc pm ct oc ccl cl : Value} {od an cdd cld : Option Addr} {osl ccs csl : Array (Option Value)} {p1 p2 pd q1 q2 q3 q4 q5 q6 : Pos} {cda cc D f2 : Addr} {vs : Array Value} {file : Str} {tf : Tok} {cdD : ClassData} {fd2 : FuncData} {n : Nat}
    (ho : K.lookup f = some ⟨oc, od, .func (ksFn "__init__" qual (iA p1 p2 pd) (jB q1 q2 q3 q4 q5 q6) jS dV kV doc pm an (.ref cda) ct cc), osl⟩) (hcd : codeIn K (.ref cda) qual = true)
    (hcode : K.lookup cda = some ⟨ccl, cdd, .fields vs, ccs⟩) (hvs : vs[2]? = some (.str file tf)) (hfile : ((prog.main.file : Str) == file) = true) (htop : (prog.main.scope.names.lookup ("super" : Str)).isSome = false)
    (hcell : K.lookup cc = some ⟨cl, cld, .cell (some (.ref D)), csl⟩) (hD : clsIn K D = some cdD) (hsub : mroIn K C (.ref D) = some true) (hop : nsIn K cStatics "thirdparty.any" = some none)
    (hm : ks_superIn K C D "__init__" = some (some (.ref f2))) (hf2 : fnIn K f2 = true) (ht2 : typeIn K (.ref f2) = some (.type "function"))
    {pl : Sem Bool} (hE : ∀ env : Env, eval (.Call (.Attribute (.Call (.Name "super" q1) [] [] q2) "__init__" q3) [.Name fld q4] [] q5) env = (do
      let ov ← attributeBase (.Call (.Name "super" q1) [] [] q2) "__init__" env (eval (.Call (.Name "super" q1) [] [] q2) env)
      standAt q3.atName
      let (g, first) ← holding [ov] (getMethod ov "__init__" pl)
      callWith q5 g first (backTo q5 (starEach [.Name fld q4] env)) []))
    (b2 : ∀ (s : Shared) (x : Addr) (v : Value), K.In s.heap → BindsTo s fd2 ⟨[.ref x, v], []⟩ [(me, .ref x), (fld, v)]) (G : InitOk prog w K C f2 fd2 n) :
    InitOk prog w K C f (ksFn "__init__" qual (iA p1 p2 pd) (jB q1 q2 q3 q4 q5 q6) jS dV kV doc pm an (.ref cda) ct cc) (n + 1) := by
  intro A R s args x t0 v S hx hroom hb hq
  have X := S.kin
  refine ks_codeAny_call_defAt (fd := ksFn "__init__" qual (iA p1 p2 pd) (jB q1 q2 q3 q4 q5 q6) jS dV kV doc pm an (.ref cda) ct cc) (body := jB q1 q2 q3 q4 q5 q6) (binds := [(me, .ref x), (fld, v)])
    (by omega) (X _ _ ho) rfl S.lim (codeRec_of X hcd) rfl hb
    (show ∀ y ∈ jS.names, y.2 ≠ .cell by decide) (fun y hy => by
      have e : y = (me, .ref x) ∨ y = (fld, v) := by simpa using hy
      rcases e with rfl | rfl <;> rfl) (fun h₀ hns hk => ?_)
  have S0 := S.up hk
  obtain ⟨X0, lim0, mg, mb, g1, g2, g3, g4⟩ := id S0
  have hx0 := hk _ _ hx
  refine ks_wpAt_execs_cons (ks_wpAt_Expr_any (ks_wpAt_MethodCall ?_ (hE _)))
  obtain ⟨oD, hD1, hD2⟩ : ∃ oD, h₀.get? D = some oD ∧ oD.data = .cls cdD := by
    unfold clsIn at hD
    split at hD
    · rename_i c d cd' sl e
      cases hD
      exact ⟨_, X0 _ _ e, rfl⟩
    · cases hD
  refine ks_wpAt_super_base (ar := { arg := me, annotation := none, pos := p1 }) rfl rfl rfl rfl (X0 _ _ ho) rfl rfl rfl (X0 _ _ hcode) rfl hvs hfile htop ?_
  refine ks_loadName_global rfl rfl (loadGlobal_builtin g1 g2 g3 g4 ⟨rfl, ?_⟩)
  refine wpAny_loadName_free rfl rfl rfl ⟨_, X0 _ _ hcell, rfl⟩ ?_
  refine wpAny_loadName_local rfl rfl hns (by first | rfl | with_unfolding_all rfl | kernel_rfl) ?_
  refine ks_wpAny_isType_cls hD1 hD2 ⟨rfl, ?_⟩
  refine ks_wpAny_call_super hD1 hD2 hx0 rfl (fun c e => nomatch e) (looks_mroIn X0 hsub) (fun h1 e1 k1 => ?_)
  have X1 := X0.keeps k1
  cases hc : clsIn K C with
  | none =>
    unfold ks_superIn at hm
    rw [hc] at hm
    cases hm
  | some cd =>
    unfold ks_superIn at hm
    rw [hc] at hm
    obtain ⟨of, hof, hofc⟩ : ∃ of, h1.get? f2 = some of ∧ of.cls = .type "function" := by
      have y : (K.lookup f2).map (·.cls) = some (.type "function") := ht2
      cases z : K.lookup f2 with
      | none =>
        rw [z] at y
        cases y
      | some of =>
        rw [z] at y
        exact ⟨of, X1 _ _ z, Option.some.inj y⟩
    have I1 : InstAt h1 x (exc0 C t0) C none := ⟨k1 _ _ hx0, rfl, rfl, trivial⟩
    refine ks_wpAny_getMethod_super e1 (looks_opaque X1 hop) (l₀ := cd.mro) (fun A Q E s k q => wpAny_bind ((looks_clsIn X1 hc) A _ E s k (wpAny_pure q))) rfl X1 hm hof hofc (ks_ne X1 I1 hc) rfl ?_
    have k2 : ∀ b o, h1.get? b = some o → (h1.push (methodObj (.ref f2) (.ref x))).get? b = some o := fun b o e => Heap.get?_push_of_some _ e
    have hq2 : (h1.push (methodObj (.ref f2) (.ref x))).get? h1.objs.size = some (methodObj (.ref f2) (.ref x)) := Heap.get?_push_at rfl rfl
    have nw : News h1 (h1.objs.size + 1) (h1.push (methodObj (.ref f2) (.ref x))) [(h1.objs.size, methodObj (.ref f2) (.ref x))] := fun p hp => by
      obtain rfl : p = (h1.objs.size, methodObj (.ref f2) (.ref x)) := by simpa using hp
      refine ⟨hq2, Nat.ne_of_lt (Nat.lt_succ_self _), ?_⟩
      cases z : h1.get? h1.objs.size with
      | none => rfl
      | some o => exact absurd (Heap.lt_size z) (Nat.lt_irrefl _)
    refine callWith_M X1 nw List.mem_cons_self hf2 ?_
    have S2 := (S0.up k1).up k2
    refine Calls.spliced_cons (ld (v := v) ((hns.keeps k1).keeps k2) (by first | rfl | with_unfolding_all rfl | kernel_rfl) ?_)
    refine Calls.spliced_nil ⟨⟨hq2, S2.kin⟩, ?_⟩
    refine wpAny_call (ks_codeAny_call_bound hq2 ?_)
    refine G _ _ _ _ x t0 v S2 (k2 _ _ (k1 _ _ hx0)) ?_ (b2 _ x v S2.kin) fun h' tk dx L => ?_
    · show A.depth + 1 + n < recursionLimit
      omega
    · have z0 : s.heap.objs.size < h₀.objs.size := hns.lt
      have z1 : h₀.objs.size < h1.objs.size := Heap.lt_size e1
      have z2 : (h1.push (methodObj (.ref f2) (.ref x))).objs.size = h1.objs.size + 1 := Heap.size_push ..
      have L' : Laid s.heap h' x C dx t0 v := L.up (fun b o e => k2 _ _ (k1 _ _ (hk b o e))) (by
        show s.heap.objs.size ≤ (h1.push (methodObj (.ref f2) (.ref x))).objs.size
        omega)
      exact wpAt_of_wpAny (wpAny_execs_nil (hq h' tk dx L'))
end
end Err

namespace Err
open PySem PySem.W PySem.Calls PyProof.Rows PySem.Spec L2
theorem InitOk.mono {prog : Program} {w : World} {K : Frag} {C f : Addr} {fd : FuncData} {n m : Nat} (G : InitOk prog w K C f fd n) (h : n ≤ m) : InitOk prog w K C f fd m :=
  fun A R s args x t0 v S hx hr hb hq => G A R s args x t0 v S hx (by omega) hb hq
/-- what the written part says of one of the classes of errors -/
structure EC (P : Program) (w : World) (K : Frag) (mg : Str → Option Value) (nm : Str) (C : Addr) : Prop where
  g : mg nm = some (.ref C)
  kC : keepIn K (.ref C) = true
  cl : Cl K C
  ini : ∃ fI fd, findIn K (.ref C) "__init__" = some (some (.ref fI)) ∧ typeIn K (.ref fI) = some (.type "function") ∧ InitOk P w K C fI fd 4 ∧
    (∀ s e v, K.In s.heap → BindsTo s fd ⟨[.ref e, v], []⟩ [(me, .ref e), (fld, v)]) ∧ (∀ s e, K.In s.heap → BindsTo s fd ⟨[.ref e], []⟩ [(me, .ref e), (fld, .none)])
  iso : (clsIn K C).isSome = true
  ga : findIn K (.ref C) "__getattribute__" = some (some (.builtin "BaseException.__getattribute__"))
  gg : findIn K (.ref C) "__getattr__" = some none
  ex : subIn K (.ref C) (.type "BaseException") = some true
  ty : typeIn K (.ref C) = some (.type "type")
  ha : findIn K (.ref C) "__class__" = some (some (.builtin "object.__class__"))
  hn : specialIn K (.builtin "object.__class__") "__get__" = some (some (.builtin "getset_descriptor.__get__"))
  ht : takesIn K (.builtin "object.__class__") = some true
  hm : mroIn K C (.type "object") = some true
  no : findIn K (.ref C) fld = some none
  su : mg "super" = none
section
variable {prog : Program} {w : World} {A : Around} {E : Value → Shared → Prop} {R : Result → Shared → Prop} {K : Frag} {mg : Str → Option Value} {C : Addr} {nm : Str}
/-- a made error -/
structure Made (h h' : Heap) (e C dx t1 : Addr) (v : Value) : Prop where
  old : ∀ b o, h.get? b = some o → h'.get? b = some o
  new : h.objs.size ≤ e
  here : h'.get? e = some { cls := .ref C, dict := some dx, data := .fields #[.ref t1, .none, .none, .none, .bool false, .none] }
  big : h.objs.size ≤ dx
  off : dx ≠ e
  cell : h'.Ns1 dx (fun y => if y = fld then some v else none)
theorem made (T : EC prog w K mg nm C) {s : Shared} (S : Stands K s.heap) {us : List Value} {v : Value} (hus : us = [v] ∨ us = [] ∧ v = .none) (hroom : A.depth + 5 < recursionLimit)
    (hq : ∀ h' tk e dx t1, Made s.heap h' e C dx t1 v → R (.ok (.ret (.ref e))) { s with heap := h', toks := tk }) :
    codeAny (model prog w) A (.call (.ref C) ⟨us, []⟩) R s := by
  obtain ⟨fI, fd, hi, tI, G, b1, b0⟩ := T.ini
  obtain ⟨nm', N', qn, bs, bm, hdct, sn, sub, ab, col, dd, k0, k1, k2, k3, k5, hC, hT⟩ := excInit_of S.kin T.cl.cls
  obtain ⟨hp, g, d, tk, os⟩ := s
  have hlen : us.length ≤ sizeLine := by
    rcases hus with rfl | ⟨rfl, _⟩
    · show 1 ≤ sizeLine
      rw [sizeLine_eq]
      omega
    · exact Nat.zero_le _
  refine PySem.PX.call_own F.excBase_Exception hT hC (looks_findIn S.kin hi) (fun self => bind_fn S.kin self tI) hlen ?_
  have k : ∀ b o, hp.get? b = some o → ((hp.push (kdv_tup us)).push (exc0 C hp.objs.size)).get? b = some o := fun b o e => Heap.get?_push_of_some _ (Heap.get?_push_of_some _ e)
  have z1 : (hp.push (kdv_tup us)).objs.size = hp.objs.size + 1 := Heap.size_push ..
  have z2 : ((hp.push (kdv_tup us)).push (exc0 C hp.objs.size)).objs.size = hp.objs.size + 1 + 1 := by rw [Heap.size_push, z1]
  have hget : ((hp.push (kdv_tup us)).push (exc0 C hp.objs.size)).get? (hp.objs.size + 1) = some (exc0 C hp.objs.size) := by
    have y := Heap.get?_push_size (hp.push (kdv_tup us)) (o := exc0 C hp.objs.size) rfl
    rw [z1] at y
    exact y
  have S2 : Stands K ((hp.push (kdv_tup us)).push (exc0 C hp.objs.size)) := S.up k
  refine G _ _ ⟨(hp.push (kdv_tup us)).push (exc0 C hp.objs.size), g, d, tk, os⟩ _ (hp.objs.size + 1) hp.objs.size v S2 hget (by show A.depth + 1 + 4 < recursionLimit; exact hroom) ?_ fun h' tk' dx L => ?_
  · rcases hus with rfl | ⟨rfl, rfl⟩
    · exact b1 _ _ v S2.kin
    · exact b0 _ _ S2.kin
  · have big : hp.objs.size + 1 + 1 ≤ dx := by
      have q := L.big
      rw [z2] at q
      exact q
    refine ⟨rfl, hq h' tk' (hp.objs.size + 1) dx hp.objs.size ⟨fun b o e => L.old b o (Nat.ne_of_lt (Nat.lt_succ_of_lt (Heap.lt_size e))) (k b o e), Nat.le_succ _, L.here, Nat.le_trans (Nat.le_trans (Nat.le_succ _) (Nat.le_succ _)) big, L.off, L.cell⟩⟩
end
section
variable {X : Cx} {C : Addr} {nm : Str}
theorem stands {pins : List (Addr × Obj)} {σ : L2.St} {H : Hp} {s : Shared} (I : Inv X pins σ H s) (su : X.mg "super" = none) : Stands X.K s.heap := by
  obtain ⟨mb, h1, h2⟩ := I.mod.blt
  exact ⟨I.kIn, I.nolimit, X.mg, mb, I.mod.glob.keeps I.bk, su, h1.keeps I.bk, (h2 "super" (by decide)).trans (by decide +kernel)⟩
theorem room4 {k : Nat} (hr : Room k X.A) : X.A.depth + 5 < recursionLimit := by
  have := hr.dp
  omega
/-- an error stands at e, its dict at dx, with the one field v -/
structure ErrAt (H : Hp) (e C dx : Addr) (v : V) : Prop where
  obj : H e = some (exo e C (some dx))
  own : H dx = some (exd dx [(fld, v)])
theorem ErrAt.up {H H' : Hp} {e C dx : Addr} {v : V} (h : ErrAt H e C dx v) (k : ∀ b o, H b = some o → H' b = some o) : ErrAt H' e C dx v := ⟨k _ _ h.obj, k _ _ h.own⟩
/-- the inner end of C(..): the new error is tracked -/
theorem track {pins : List (Addr × Obj)} {σ : L2.St} {H : Hp} {s : Shared} {h' : Heap} {tk : Nat} {e dx t1 : Addr} {v : V} {u : Value} (I : Inv X pins σ H s) (r : RelV v u) (M : Made s.heap h' e C dx t1 u) :
    H e = none ∧ H dx = none ∧ Inv X pins σ (upd (upd H dx (exd dx [(fld, v)])) e (exo e C (some dx))) { s with heap := h', toks := tk } := by
  have ne := I.hok.fresh M.new
  have nd := I.hok.fresh M.big
  refine ⟨ne, nd, ?_⟩
  obtain ⟨G, g1, g2⟩ := restrict h' fun b => decide (b ≠ e)
  have gk : ∀ b, b ≠ e → G.get? b = h'.get? b := fun b hb => g1 b (decide_eq_true hb)
  have ge : G.get? e = none := g2 e (by simp)
  have old : ∀ b o, s.heap.get? b = some o → G.get? b = some o := fun b o q => (gk b (Nat.ne_of_lt (Nat.lt_of_lt_of_le (Heap.lt_size q) M.new))).trans (M.old b o q)
  have sub : ∀ b o, G.get? b = some o → h'.get? b = some o := fun b o q => by
    by_cases hb : b = e
    · rw [hb, ge] at q
      cases q
    · rw [← gk b hb]
      exact q
  have nsG : G.Ns1 dx (fun y => if y = fld then some u else none) := M.cell.at fun o q => (gk dx M.off).trans q
  have J1 := I.laid (t' := tk) (a := dx) (o := exd dx [(fld, v)]) (h' := G) old M.big (exd_ok nsG (relO_put (fs := []) r fun g => True.intro))
  exact J1.laidN (t' := tk) (a := e) (o := exo e C (some dx)) (h' := h') sub ge (by rw [upd_ne (Ne.symm M.off)]; exact ne) (exo_ok M.here)
def tMkE (C : Addr) (ta : TA) : TE := fun σ H Q => ta σ H fun vs H1 => ∃ v, (vs = [v] ∨ vs = [] ∧ v = .non) ∧ ∀ e dx, H1 e = none → H1 dx = none → dx ≠ e → Q (.ref e) (upd (upd H1 dx (exd dx [(fld, v)])) e (exo e C (some dx)))
theorem call_err {pins : List (Addr × Obj)} {σ : L2.St} {H1 : Hp} {s1 : Shared} {us : List Value} {vs : List V} {Q : VK} {E : Value → Shared → Prop} (T : EC X.prog X.w X.K X.mg nm C) (hd : X.A.depth + 5 < recursionLimit) (I1 : Inv X pins σ H1 s1) (r1 : Vals vs us)
    (q : ∃ v, (vs = [v] ∨ vs = [] ∧ v = .non) ∧ ∀ e dx, H1 e = none → H1 dx = none → dx ≠ e → Q (.ref e) (upd (upd H1 dx (exd dx [(fld, v)])) e (exo e C (some dx)))) :
    wpAny (model X.prog X.w) X.A (call (.ref C) us) (EP X pins σ Q) E s1 := by
  obtain ⟨v, hv, q⟩ := q
  obtain ⟨u, hu, ru⟩ : ∃ u, (us = [u] ∨ us = [] ∧ u = .none) ∧ RelV v u := by
    rcases hv with rfl | ⟨rfl, rfl⟩
    · cases r1 with
      | cons r rr =>
        cases rr
        exact ⟨_, .inl rfl, r⟩
    · cases r1
      exact ⟨.none, .inr ⟨rfl, rfl⟩, rfl⟩
  refine wpAny_call (made T (stands I1 T.su) hu hd fun h' tk e dx t1 M => ?_)
  obtain ⟨ne, nd, J⟩ := track (tk := tk) I1 ru M
  exact ⟨.ref e, _, J, rfl, q e dx ne nd M.off⟩
theorem pe_mkE {e : Expr} {es : List Expr} {ta : TA} {p pos : Pos} {k : Nat} (T : EC X.prog X.w X.K X.mg nm C) (hr : Room k X.A) (hg : Gl X nm) (ha : PA X (e :: es) ta) (hdb : (nm == ("__debug__" : Str)) = false := by decide)
    (he : starEach (e :: es) X.env = (false, eval e X.env) :: starEach es X.env := by rfl) (hpl : (backTo pos (starEach es X.env)).any (·.1) = false := by rfl) :
    PE X (.Call (.Name nm p) (e :: es) [] pos) (tMkE C ta) := by
  refine ⟨fun pins s σ H Q I h => ?_⟩
  refine wpAny_Call_Name_kw (ld_glob I hg T.g ?_ hdb)
  refine callWith_K (h₀ := X.base) I.ok.mod.kin T.kC (thn (ha.run pos pins s σ H _ I h) fun us s1 ⟨vs, H1, I1, r1, q⟩ => ⟨I1.kIn, ?_⟩) he hpl
  exact call_err T (room4 hr) I1 r1 q
theorem pe_mkE0 {p pos : Pos} {k : Nat} (T : EC X.prog X.w X.K X.mg nm C) (hr : Room k X.A) (hg : Gl X nm) (hdb : (nm == ("__debug__" : Str)) = false := by decide) :
    PE X (.Call (.Name nm p) [] [] pos) (tMkE C tNil) := by
  refine ⟨fun pins s σ H Q I h => ?_⟩
  refine wpAny_Call_Name_kw (ld_glob I hg T.g ?_ hdb)
  refine callWith_K0 I.kIn T.kC ?_
  exact call_err T (room4 hr) I .nil h
end
end Err

namespace Err
open PySem PySem.W PySem.Calls PyProof.Rows PySem.Spec L2
section
variable {X : Cx} {C : Addr} {nm : Str}
/-- the error as an instance -/
theorem inst {pins : List (Addr × Obj)} {σ : L2.St} {H : Hp} {s : Shared} {e dx : Addr} {v : V} (I : Inv X pins σ H s) (h : ErrAt H e C dx v) :
    ∃ (t1 : Addr) (od : Obj) (u : Value), RelV v u ∧ InstAt s.heap e { cls := .ref C, dict := some dx, data := .fields #[.ref t1, .none, .none, .none, .bool false, .none] } C (some od) ∧ lookIn fld od = some (some u) := by
  obtain ⟨t1, ho⟩ := exo_at I.hok h.obj
  obtain ⟨mA, hns, rel⟩ := exd_at I.hok h.own
  obtain ⟨od, hod, hl⟩ := lookIn_ns hns
  obtain ⟨u, hu, ru⟩ := RelO.some_of (v := v) (o := mA fld) (by
    have q := rel fld
    have y : List.lookup fld [(fld, v)] = some v := by simp [List.lookup]
    rw [y] at q
    exact q)
  exact ⟨t1, od, u, ru, ⟨ho, rfl, rfl, hod⟩, by rw [hl, hu]⟩
theorem kit {T : EC X.prog X.w X.K X.mg nm C} {x : Addr} {ox : Obj} {od : Option Obj} : KitX X.K (.ref x) (.ref C) (fun h => InstAt h x ox C od) :=
  kitx_exc T.iso T.ga T.gg T.ex T.ha T.hn T.ht T.hm
/-- isinstance(e, D), e a tracked error of the class at C -/
def rIsV (K : Frag) (C : Addr) : List V → Hp → VK → Prop := fun xs H Q => ∃ (a dx : Addr) (v c : V) (cv : Value) (b : Bool), xs = [.ref a, c] ∧ ErrAt H a C dx v ∧ ClsV c cv ∧ kitOne K (.ref C) cv = some b ∧ Q (.bl b) H
theorem call_isV (T : EC X.prog X.w X.K X.mg nm C) : CallR X (.builtin "isinstance") (rIsV X.K C) := by
  intro pins s σ H xs us Q I r h
  obtain ⟨a, dx, v, c, cv, b, rfl, he, k, e, q⟩ := h
  obtain ⟨u1, u2, rfl, r1, r2⟩ := vals2 r
  obtain rfl : u2 = cv := k.eq r2
  obtain rfl : u1 = Value.ref a := r1
  obtain ⟨t1, od, u, ru, J, _⟩ := inst I he
  exact kia_one (kit (T := T)) I.kIn J e (fun z => nomatch z) fun tk => ⟨.bl b, H, I.tok tk, rfl, q⟩
/-- isinstance(e, (c1, c2, ..)), the tuple just laid -/
def rIsVT (K : Frag) (C : Addr) : List V → Hp → VK → Prop := fun xs H Q => ∃ (a dx tp : Addr) (v : V) (cs : List V) (us : List Value) (b : Bool), xs = [.ref a, .ref tp] ∧ ErrAt H a C dx v ∧ H tp = some (.tup cs) ∧ Paired ClsV cs us ∧ kitAny K (.ref C) us = some b ∧ Q (.bl b) H
theorem call_isVT (T : EC X.prog X.w X.K X.mg nm C) : CallR X (.builtin "isinstance") (rIsVT X.K C) := by
  intro pins s σ H xs us Q I r h
  obtain ⟨a, dx, tp, v, cs, ws, b, rfl, he, hT, k, e, q⟩ := h
  obtain ⟨u1, u2, rfl, r1, r2⟩ := vals2 r
  obtain rfl : u1 = Value.ref a := r1
  obtain rfl : u2 = Value.ref tp := r2
  obtain ⟨t1, od, u, ru, J, _⟩ := inst I he
  have z : ObjOk X.prog X.w H s.heap tp (.tup cs) := I.hok tp _ hT
  obtain ⟨_, its, rv, ⟨oc, od', dt, sl⟩, g1, g2, n, g3⟩ := z
  obtain rfl : its = ws := ClsV.all k rv
  dsimp only at g2 g3
  subst g2 g3
  exact kia_tup (kit (T := T)) I.kIn J g1 e (fun z => nomatch z) fun tk => ⟨.bl b, H, I.tok tk, rfl, q⟩
/-- e.sqlite_errorname -/
def tFldE (C : Addr) (te : TE) : TE := fun σ H Q => te σ H fun x H1 => ∃ (a dx : Addr) (v : V), x = .ref a ∧ ErrAt H1 a C dx v ∧ Q v H1
theorem pe_fldE {e : Expr} {te : TE} {pos : Pos} (T : EC X.prog X.w X.K X.mg nm C) (he : PE X e te) (hb : attributeBase e fld X.env (eval e X.env) = eval e X.env := by rfl) : PE X (.Attribute e fld pos) (tFldE C te) := by
  refine ⟨fun pins s σ H Q I h => ?_⟩
  refine attr_of hb (thn (he.run pins s σ H _ I h) fun u s1 ⟨x, H1, I1, rx, a, dx, v, ex, hE, q⟩ => ?_)
  subst ex
  obtain rfl : u = Value.ref a := rx
  obtain ⟨t1, od, u, ru, J, hl⟩ := inst I1 hE
  exact PySem.PX.exc_get I1.kIn J T.ga T.gg T.ex (findObj_own T.cl.hd T.no rfl hl) (handed_of ru) ⟨v, H1, I1.tok _, ru, q⟩
/-- raise C(e) -/
def tMkR (C : Addr) (ta : TA) : L2.St → Hp → XK → Prop := fun σ H Q => ta σ H fun vs H1 => ∃ v, (vs = [v] ∨ vs = [] ∧ v = .non) ∧ ∀ d, H1 d = none → Q (.ref C) (some d) (upd H1 d (.xd [(fld, v)]))
theorem pmk_err {e : Expr} {es : List Expr} {ta : TA} {p pos : Pos} {k : Nat} (T : EC X.prog X.w X.K X.mg nm C) (hr : Room k X.A) (hg : Gl X nm) (ha : PA X (e :: es) ta) (hdb : (nm == ("__debug__" : Str)) = false := by decide)
    (he : starEach (e :: es) X.env = (false, eval e X.env) :: starEach es X.env := by rfl) (hpl : (backTo pos (starEach es X.env)).any (·.1) = false := by rfl) : PMk X (.Call (.Name nm p) (e :: es) [] pos) (tMkR C ta) := by
  intro pins s σ H Q I h
  refine wpAny_Call_Name_kw (ld_glob I hg T.g ?_ hdb)
  refine callWith_K (h₀ := X.base) I.ok.mod.kin T.kC (thn (ha.run pos pins s σ H _ I h) fun us s1 ⟨vs, H1, I1, r1, v, hv, q⟩ => ⟨I1.kIn, ?_⟩) he hpl
  obtain ⟨u, hu, ru⟩ : ∃ u, (us = [u] ∨ us = [] ∧ u = .none) ∧ RelV v u := by
    rcases hv with rfl | ⟨rfl, rfl⟩
    · cases r1 with
      | cons r rr =>
        cases rr
        exact ⟨_, .inl rfl, r⟩
    · cases r1
      exact ⟨.none, .inr ⟨rfl, rfl⟩, rfl⟩
  refine wpAny_call (made T (stands I1 T.su) hu (room4 hr) fun h' tk e dx t1 M => ?_)
  obtain ⟨G, g1, g2⟩ := restrict h' fun b => decide (b ≠ e)
  have gk : ∀ b, b ≠ e → G.get? b = h'.get? b := fun b hb => g1 b (decide_eq_true hb)
  have ge : G.get? e = none := g2 e (by simp)
  have old : ∀ b o, s1.heap.get? b = some o → G.get? b = some o := fun b o q => (gk b (Nat.ne_of_lt (Nat.lt_of_lt_of_le (Heap.lt_size q) M.new))).trans (M.old b o q)
  have nsG : G.Ns1 dx (fun y => if y = fld then some u else none) := M.cell.at fun o q => (gk dx M.off).trans q
  have new : ObjOk X.prog X.w (upd H1 dx (.xd [(fld, v)])) G dx (.xd [(fld, v)]) := ⟨_, nsG, relO_put (fs := []) ru fun g => True.intro⟩
  have J := I1.laid (t' := tk) (a := dx) (o := .xd [(fld, v)]) (h' := G) old M.big new
  refine ⟨e, _, _, { s1 with heap := G, toks := tk }, _, .ref C, some dx, rfl, J, fun b o q => ?_, ge, M.here, ⟨rfl, rfl⟩, rfl, rfl, ?_, rfl, I1.bare, raises_own T.ex T.ty, q dx (I1.hok.fresh M.big)⟩
  · by_cases hb : b = e
    · have q' : G.get? b = some o := q
      rw [hb, ge] at q'
      cases q'
    · exact (gk b hb).symm.trans q
  · rw [upd_ne (Ne.symm M.off)]
    exact I1.hok.fresh M.new
end
end Err

/-! try with two clauses, each «except X as n». -/
namespace Err
open PySem PySem.Calls PyProof.Rows PySem.Spec L2
/-- behind a suite the name is gone -/
def lessSlot (i : Nat) (D : Ends) : Ends := { nx := fun τ G => D.nx (τ.set i none) G, rt := D.rt, bk := fun τ G => D.bk (τ.set i none) G, ct := fun τ G => D.ct (τ.set i none) G }
abbrev Suite := Addr → Value → Option Addr → TS
def wTwo (K : PySem.W.Frag) (i : Nat) (Wout : WX) (D : Ends) : List (Value × Suite) → WX
  | [] => Wout
  | (c, ts) :: r => fun cls d τ G => ∃ b, PySem.W.exmOne K cls c = some b ∧ (b = true → ∀ z, G z = none → ts z cls d (lessSlot i D) (τ.set i (some (.ref z))) G) ∧ (b = false → wTwo K i Wout D r cls d τ G)
inductive Clauses (X : Cx) (n : Str) : List ExceptHandler → List (Value × Suite) → Prop
  | none : Clauses X n [] []
  | more {x : Str} {c : Value} {ts : Suite} {st : Stmt} {sts : List Stmt} {p1 p2 : Pos} {hs : List ExceptHandler} {l : List (Value × Suite)} (nm : Names X x c)
      (ok : ∀ (z : Addr) (oz : Obj) (cls : Value) (d : Option Addr) (pn : List (Addr × Obj)), Zc cls d oz → (∃ fs, oz.data = .fields fs) → PSs (X.suite z ((z, oz) :: pn)) (st :: sts) (ts z cls d)) (r : Clauses X n hs l) :
      Clauses X n (.ExceptHandler (some (.Name x p1)) (some n) (st :: sts) p2 :: hs) ((c, ts) :: l)
section
variable {X : Cx} {n : Str} {i : Nat} {body : List Stmt} {h₁ : ExceptHandler} {hs : List ExceptHandler} {l : List (Value × Suite)} {pos : Pos} {tb : WX → TS} {Wout : WX}
theorem ps_try_twoAs (st : X.stack = X.env :: X.outer) (fr : X.env.frame = some X.env.locals) (nd : X.N.Nodup) (at_ : X.N[i]? = some n) (lo : X.env.kindOf n = some .local) (tk : Takes X Wout)
    (hb : ∀ (W : WX) (pn : List (Addr × Obj)) (xe : Value → Shared → Prop), Takes (X.tr pn xe) W → PassesOwn (model X.prog X.w) X.A X.env xe → PSs (X.tr pn xe) body (tb W)) (cl : Clauses X n (h₁ :: hs) l) :
    PS X (.Try body (h₁ :: hs) [] [] pos) (fun D τ G => tb (wTwo X.K i Wout D l) D τ G) := by
  refine ⟨fun pins s₀ τ G D I want => ?_⟩
  have fine := I.ok
  have frames : X.A.frames = some (X.env :: X.outer) := fine.frames.trans (congrArg some st)
  refine wpAny_Try_except ?_
  let thrown : Value → Shared → Prop := fun e s₁ => wpAny (model X.prog X.w) X.A (noteFrame e X.env)
    (fun _ s₂ => wpAny (model X.prog X.w) X.A (setFlight e none) (fun _ s₃ => wpAny (model X.prog X.w) X.A (handleBy e X.env (h₁ :: hs)) (SP X pins D) X.xe s₃) X.xe s₂) X.xe s₁
  have ran := (hb (wTwo X.K i Wout D l) (X.pn ++ pins) thrown (fun u sx got => ?_) PassesOwn.looking).run [] s₀ τ G D (I.toTry _) want
  · refine wpAny_mono ran (fun fl sy went => ?_) fun _ _ q => q
    cases fl with
    | ret v =>
      obtain ⟨y, τ', G', J, r, q⟩ := went
      exact ⟨y, τ', G', J.ofTry fine, r, q⟩
    | next =>
      obtain ⟨τ', G', J, q⟩ := went
      exact wpAny_execs_nil ⟨τ', G', J.ofTry fine, q⟩
    | brk =>
      obtain ⟨τ', G', J, q⟩ := went
      exact ⟨τ', G', J.ofTry fine, q⟩
    | cont =>
      obtain ⟨τ', G', J, q⟩ := went
      exact ⟨τ', G', J.ofTry fine, q⟩
  · obtain ⟨z, ground, sI, pins', τ', G', cls, d, rfl, Jt, nb, up, sky, nz, os, ag, wish⟩ := got
    have J : Inv X pins τ' G' sI := Jt.ofTry fine
    show wpAny (model X.prog X.w) X.A (noteFrame (.ref z) X.env) _ _ _
    refine Sky.land Zc.steady frames fr (st ▸ sky) fun g3 fl3 up3 => ?_
    have J3 : Inv X pins τ' G' { sx with heap := g3 } := J.landed nb fl3.1 (up.trans up3) os ag
    obtain ⟨oz, fs, he3, hz3, hd3⟩ := fl3.there
    have far : z ∉ frs (X.env :: X.outer) := fun m => by
      obtain ⟨_, o', e', no⟩ := fl3.2.2.1.mem m
      obtain rfl := Option.some.inj (he3.symm.trans e')
      exact no _ hd3
    have farL : z ≠ X.env.locals := fun q => far (List.mem_filterMap.mpr ⟨X.env, .head _, fr.trans (congrArg some q.symm)⟩)
    have farF : z ∉ X.fs := fun m => by
      obtain ⟨v, hv, q⟩ := List.mem_filterMap.mp m
      exact far (List.mem_filterMap.mpr ⟨v, .tail _ hv, q⟩)
    have S3 := J3.suite he3 hd3 nz farL farF
    have ask : ∀ {hs' : List ExceptHandler} {l' : List (Value × Suite)}, Clauses X n hs' l' → wTwo X.K i Wout D l' cls d τ' G' →
        wpAny (model X.prog X.w) X.A (handleBy (.ref z) X.env hs') (SP X pins D) X.xe { sx with heap := g3 } := fun {hs' l'} k => by
      induction k with
      | none =>
        intro wish
        refine wpAny_handleBy_nil ?_
        obtain ⟨_, _, _, oe, vs, T, oT, ts', he, hz, hd, h1, hr⟩ := id fl3
        unfold PySem.passOn
        refine wpAny_bind (wpAny_field he hd h1 ?_)
        have out : wpAny (model X.prog X.w) X.A (setFlight (.ref z) X.env.frame) (fun _ s4 => wpAny (model X.prog X.w) X.A (throw (.ref z) : Sem Flow) (SP X pins D) X.xe s4) X.xe { sx with heap := g3 } := by
          rw [fr]
          refine HandSPX.setFlight_upZ fl3 fun g4 up4' up4 => wpAny_throw (tk _ _ ?_)
          exact ⟨z, ground, sI, pins, τ', G', cls, d, rfl, J, nb, (up.trans up3).trans up4, .inr (.inr (st ▸ up4')), nz, os, ag, wish⟩
        have isRef : ¬ ((Value.ref T == Value.none) = true) := by simp
        rw [if_neg isRef]
        first
          | exact wpAny_bind (wpAny_pure (wpAny_bind out))
          | exact wpAny_bind out
      | @more x c ts b0 bs p1 p2 hs2 l2 nm ok r ih =>
        intro wish
        obtain ⟨hit, is, yes, no⟩ := wish
        refine wpAny_handleBy_cons (codeAny_handlers_test ?_) (fun q => by cases q)
        have ty : PySem.W.Looks (model X.prog X.w) g3 (typeOf (.ref z)) cls := fun _ _ _ _ k q => wpAny_typeOf_ref (k _ _ he3) (hz3.1 ▸ q)
        have match_ := PySem.W.exm_one (M := model X.prog X.w) J3.kIn ty is
        have named : ∀ {Q E : Value → Shared → Prop}, Q c { sx with heap := g3 } → wpAny (model X.prog X.w) (X.A.mark (some (.ref z))) (eval (.Name x p1) X.env) Q E { sx with heap := g3 } := fun {Q E} q => by
          obtain ⟨hg, hdbg, hm | ⟨hm, hv, hnn⟩⟩ := nm
          · exact ld_glob (X := X.suite z ((z, oz) :: (X.pn ++ pins))) S3 hg hm q hdbg
          · exact ld_blt (X := X.suite z ((z, oz) :: (X.pn ++ pins))) S3 hg hm hv q hnn hdbg
        refine named (match_.here ?_)
        cases hit with
        | false => exact ih (no rfl)
        | true =>
          refine codeAny_handlers_suite_as (HandSPX.lands_againZ fl3 fun g4 fl4 up4 => ?_)
          have J4 : Inv X pins τ' G' { sx with heap := g4 } := J.landed nb fl4.1 ((up.trans up3).trans up4) os ag
          obtain ⟨o4, fs4, he4, hz4, hd4⟩ := fl4.there
          have S4 := J4.suite he4 hd4 nz farL farF
          refine store_ok (X := X.suite z ((z, o4) :: (X.pn ++ pins))) (v := .ref z) S4 nd at_ (.inl lo) rfl (fun s5 S5 => ?_) (.inr lo)
          refine wpAny_mono ((ok z o4 cls d (X.pn ++ pins) hz4 ⟨_, hd4⟩).run [] s5 _ G' _ S5 (yes rfl z nz)) (fun fl s6 went => ?_) fun _ _ q => q.elim
          have off : ∀ {τ6 : L2.St} {G6 : Hp} {Q : Shared → Prop}, Inv (X.suite z ((z, o4) :: (X.pn ++ pins))) [] τ6 G6 s6 → (∀ s7, Inv X pins (τ6.set i none) G6 s7 → Q s7) →
              wpAny (model X.prog X.w) X.A (do bindName X.env n .none; unbindBehindTheSuite X.env n p2) (fun _ s7 => Q s7) X.xe s6 := fun S6 q => gone_ok (S6.unsuite fine) nd at_ lo q
          cases fl with
          | ret u =>
            obtain ⟨v6, τ6, G6, S6, r6, q6⟩ := went
            exact off S6 fun s7 J7 => ⟨_, _, _, J7, r6, q6⟩
          | next =>
            obtain ⟨τ6, G6, S6, q6⟩ := went
            exact off S6 fun s7 J7 => ⟨_, _, J7, q6⟩
          | brk =>
            obtain ⟨τ6, G6, S6, q6⟩ := went
            exact off S6 fun s7 J7 => ⟨_, _, J7, q6⟩
          | cont =>
            obtain ⟨τ6, G6, S6, q6⟩ := went
            exact off S6 fun s7 J7 => ⟨_, _, J7, q6⟩
    exact ask cl wish
end
end Err

/-! The end of a law that makes lambdas, with the guards known: one table of code objects may grow. -/
namespace Grd
open PySem PySem.Spec PySem.W PyProof.Rows L2 Att LamX
/-- the list that is handed in, and the table -/
def pair (K : Frag) (a tab : Addr) (vs : List Value) (ns : List Int) : Hp := fun b => if b = tab then some (.tbl #[]) else just K a vs ns b
section
variable {P : Program} {w : World} {K : Frag} {mg mb : Str → Option Value} {fa a tab co : Addr} {fd : FuncData} {x : Str} {sp : Sp} {s : Shared} {vs : List Value} {ns : List Int}
theorem pair_some {b : Addr} {o : HO} (h : pair K a tab vs ns b = some o) : (b = tab ∧ o = .tbl #[]) ∨ (b ≠ tab ∧ b = a ∧ K.lookup a = none ∧ o = .frz (given vs) (.lst (ns.map V.int))) := by
  unfold pair at h
  split at h
  · rename_i c
    exact .inl ⟨c, (Option.some.inj h).symm⟩
  · rename_i c
    exact .inr ⟨c, just_some h⟩
theorem law_gT (KX : K.In s.heap) (hns : s.heap.Ns mainGlobals mg) (hb : s.heap.Ns builtinsNs mb) (hbb : ∀ y : Str, y ≠ "__name__" → mb y = bootBuiltins y) (hlim : s.heap.NoLimit) (hg : s.gens = #[])
    (main : ∃ bm ob, mg "__builtins__" = some (.ref bm) ∧ bm ≠ builtinsNs ∧ s.heap.get? bm = some ob ∧ ob.cls = .type "module" ∧ ob.dict = some builtinsNs ∧ ob.data = .plain)
    (ht : s.heap.get? tab = some (tabObj #[])) (kt : K.lookup tab = none) (hco : codeHdIn K co tab = true)
    (ha : s.heap.get? a = some (given vs)) (hi : IntsAre vs ns) (hl : ns.length ≤ sizeLine) (F : ∀ base : Heap, K.In base → base.Ns mainGlobals mg → TabB base mg co tab → TopOk P w K mg base fa fd [x] sp)
    (bound : ∀ (s : Shared) (u : Value), BindsTo s fd ⟨[u], []⟩ [(x, u)]) (told : ∀ H : Hp, H tab = some (.tbl #[]) → SqL K H a (ns.map V.int) → sp [.ref a] H (fun v _ => v = .bl true) E0) :
    codeAny (model P w) callerA (.call (.ref fa) ⟨[.ref a], []⟩) (fun r s' => r = .ok (.ret (.bool true)) ∧ OldK s.heap s'.heap ∧ s'.os = s.os ∧ AllBare s'.gens) s := by
  have rel := vals_ints hi
  have at' : a ≠ tab := fun z => by
    rw [z, ht] at ha
    have y : Data.fields #[] = Data.seq vs.toArray _ := congrArg Obj.data (Option.some.inj ha)
    cases y
  generalize eH : pair K a tab vs ns = H
  have is_ : ∀ {b : Addr} {o : HO}, H b = some o → (b = tab ∧ o = .tbl #[]) ∨ (b ≠ tab ∧ b = a ∧ K.lookup a = none ∧ o = .frz (given vs) (.lst (ns.map V.int))) := fun {b o} z => pair_some (eH ▸ z)
  have gone : ∀ {b : Addr}, b ≠ tab → (b ≠ a ∨ K.lookup a ≠ none) → H b = none := fun {b} n z => by
    rw [← eH]
    exact (if_neg n).trans (just_none z)
  have hT : H tab = some (.tbl #[]) := by
    rw [← eH]
    exact if_pos rfl
  -- an object of another kind is hidden by nothing
  have other : ∀ {b : Addr} {o : Obj}, s.heap.get? b = some o → o.data ≠ (given vs).data → o.data ≠ (tabObj #[]).data → (hidT s.heap H).get? b = some o := fun {b o} e n1 n2 => by
    refine hidT_get e (gone (fun z => ?_) (.inl fun z => ?_))
    · rw [z, ht] at e
      exact n2 (congrArg Obj.data (Option.some.inj e).symm)
    · rw [z, ha] at e
      exact n1 (congrArg Obj.data (Option.some.inj e).symm)
  have plain : ∀ {b : Addr} {m : Str → Option Value}, s.heap.Ns b m → (hidT s.heap H).Ns b m := by
    rintro b m ⟨o, es, ep, e, d, r⟩
    refine ⟨o, es, ep, other e ?_ ?_, d, r⟩
    · rw [d]
      intro z
      cases z
    · rw [d]
      intro z
      cases z
  have kept : K.In (hidT s.heap H) := fun b o e => hidT_get (KX b o e) (gone (fun z => by
    rw [z, kt] at e
    cases e) (by
    by_cases z : b = a
    · exact .inr (by rw [← z, e]; exact fun y => nomatch y)
    · exact .inl z))
  have sound : HOk P w H s.heap := by
    intro b u z
    rcases is_ z with ⟨rfl, rfl⟩ | ⟨_, rfl, _, rfl⟩
    · exact ht
    · exact ⟨ha, by rw [List.length_map]; exact hl, vs, _, rel, ha⟩
  have seen : SqL K H a (ns.map V.int) := by
    cases hk : K.lookup a with
    | some o =>
      have e := KX a o hk
      rw [ha] at e
      cases e
      exact .inr ⟨_, vs.toArray, _, hk, rfl, rfl, rfl, by rw [List.size_toArray, hi.length]; exact hl, by simpa using rel⟩
    | none =>
      refine .inl (.inr ⟨given vs, ?_⟩)
      rw [← eH]
      exact (if_neg at').trans (if_pos ⟨rfl, hk⟩)
  have mod : Mod K mg (hidT s.heap H) := ⟨kept, plain hns, ⟨mb, plain hb, hbb⟩, hlim.elim fun mc y => ⟨mc, plain y.1, y.2⟩⟩
  have env : Env0 P w K mg (hidT s.heap H) callerA [] s H :=
    { frames := rfl, mod := mod, bs := fun b o e => of_hidT e, bsz := Nat.le_of_eq (hidT_size _ _), funs := trivial, frf := fun b y => (by cases (show b ∈ ([] : List Addr) from y)), hok := sound, bare := .of_eq hg }
  have tb : TabB (hidT s.heap H) mg co tab := by
    refine ⟨codeHd_of_K kept hco, ?_, fun z => ?_⟩
    · obtain ⟨bm, ob, named, n1, here, cls, dct, plain'⟩ := main
      refine ⟨bm, ob, named, n1, fun z => ?_, fun z => ?_, other here ?_ ?_, cls, dct, plain'⟩
      · obtain ⟨o, es, ep, e, d, _⟩ := hns
        rw [z, e] at here
        rw [← Option.some.inj here, d] at plain'
        cases plain'
      · rw [z, ht] at here
        rw [← Option.some.inj here] at plain'
        cases plain'
      · rw [plain']
        intro z
        cases z
      · rw [plain']
        intro z
        cases z
    · obtain ⟨o, es, ep, e, d, _⟩ := hns
      rw [z, ht] at e
      rw [← Option.some.inj e] at d
      cases d
  refine codeAny_mono ((F _ kept (plain hns) tb).go s H ⟨[.ref a], []⟩ [.ref a] [.ref a] _ env (bound s (.ref a)) (.cons rfl .nil) rfl (told H hT seen)) fun r s' z => ?_
  match r, z with
  | .error e, z => exact False.elim z
  | .ok .next, z => exact False.elim z
  | .ok .brk, z => exact False.elim z
  | .ok .cont, z => exact False.elim z
  | .ok (.ret u), z =>
    obtain ⟨v, H', os, bare, un, sound', rv, is⟩ := z
    have is' : v = .bl true := is
    subst is'
    obtain rfl : u = Value.bool true := rv
    obtain ⟨more, hm⟩ := un.tbls tab _ hT
    have hm' : s'.heap.get? tab = some (tabObj (#[] ++ more)) := sound' tab _ hm
    have still : ∀ b o, b ≠ tab → s.heap.get? b = some o → s'.heap.get? b = some o := fun b o n e => by
      cases hH : H b with
      | none => exact un.keep b o e hH (fun y => by cases (show b ∈ ([] : List Addr) from y)) (fun y => by cases y)
      | some u =>
        rcases is_ hH with ⟨y, _⟩ | ⟨_, rfl, _, rfl⟩
        · exact (n y).elim
        · have y := (sound' b _ (un.frzs b _ _ hH)).1
          rw [ha] at e
          cases e
          exact y
    refine ⟨rfl, ⟨fun b o e => ?_, fun b o e => ?_⟩, os, bare⟩
    · by_cases hb : b = tab
      · subst hb
        rw [ht] at e
        obtain rfl := Option.some.inj e
        exact .inr (.inl ⟨((codeHd_of_K KX hco).tab ht).isCodeTable, rfl, #[], more, rfl, hm'⟩)
      · exact .inl (still b o hb e)
    · by_cases hb : b = tab
      · subst hb
        exact ⟨_, hm'⟩
      · exact ⟨o, still b o hb e⟩
end
theorem walk_gT {l : OpenLaw} {n : Nat} {q : Program} {loose : List Str} {XP : (Str → Option Value) → Heap → Prop} {d : DefRec} {K : Params → Frag} {as : List Addr} {en : ∀ P, as = (K P).map (·.1)} {co tab : Addr} {sp : Frag → Sp} {x : Str} (hn : l.most = some n) (hn2 : n ≤ sizeLine)
    (hdf : d.params.defaults = []) (kt : ∀ w : World, (K w.params).lookup tab = none) (hco : ∀ w : World, codeHdIn (K w.params) co tab = true)
    (F : ∀ (w : World) (mg : Str → Option Value) (fa : Addr) (h : Heap), (K w.params).In h → h.Ns mainGlobals mg → mg d.name = some (.ref fa) →
      ∃ fd : FuncData, (∀ (s : Shared) (u : Value), BindsTo s fd ⟨[u], []⟩ [(x, u)]) ∧ ∀ base : Heap, (K w.params).In base → base.Ns mainGlobals mg → TabB base mg co tab → TopOk l.prog w (K w.params) mg base fa fd [x] (sp (K w.params)))
    (told : ∀ (w : World) (H : Hp) (a : Addr) (ns : List Int), ns.length ≤ n → H tab = some (.tbl #[]) → SqL (K w.params) H a (ns.map V.int) → sp (K w.params) [.ref a] H (fun v _ => v = .bl true) E0) :
    WalkO q loose XP (kmHook K as en [tab]).says l.row.toRowW d [] (fun f vs => PySem.call f vs) := by
  refine Att.attach_call hn hdf fun w s₀ s₁ mg mb fa o pm cd doc a vs ns G Y _ _ _ named obj inn few gens => ?_
  have KX := km_in_of Y
  obtain ⟨fd, bound, all⟩ := F w mg fa _ KX G.T.g named
  exact law_gT KX G.T.g G.T.b G.T.builtins G.T.nolimit gens G.T.bmain (km_tabs_of Y tab (List.mem_singleton.mpr rfl)) (kt w) (hco w) obj inn (Nat.le_trans few hn2) all bound fun H z y => told w H a ns few z y
end Grd

/-! A deed that is refused: caught, asked for its class, its field read. -/
namespace Err
open PySem PySem.W PySem.Calls PyProof.Rows PySem.Spec L2 Drw LamX
section
variable {X : Cx} {C : Addr} {nm : Str}
/-- isinstance(e, c), e the own error that the suite holds, with its dict -/
def rIsD (K : Frag) (C a : Addr) (cls : Value) (d : Option Addr) : List V → Hp → VK → Prop := fun xs H Q => ∃ (c : V) (cv : Value) (b : Bool) (dd : Addr) (fs : List (Str × V)), xs = [.ref a, c] ∧ cls = .ref C ∧ d = some dd ∧ H dd = some (.xd fs) ∧ ClsV c cv ∧ kitOne K (.ref C) cv = some b ∧ Q (.bl b) H
theorem call_isD {a : Addr} {oe : Obj} {cls : Value} {d : Option Addr} {pn : List (Addr × Obj)} (T : EC X.prog X.w X.K X.mg nm C) (hz : Zc cls d oe) (hf : ∃ vs, oe.data = .fields vs) : CallR (X.suite a ((a, oe) :: pn)) (.builtin "isinstance") (rIsD X.K C a cls d) := by
  intro pins s σ H xs us Q I r h
  obtain ⟨c, cv, b, dd, fs, rfl, rfl, rfl, hdd, k, e, q⟩ := h
  obtain ⟨u1, u2, rfl, r1, r2⟩ := vals2 r
  obtain rfl : u2 = cv := k.eq r2
  obtain rfl : u1 = Value.ref a := r1
  have pinned := (I.pin (a, oe) (List.mem_append.mpr (.inl List.mem_cons_self))).1
  have hx : ObjOk X.prog X.w H s.heap dd (.xd fs) := I.hok dd _ hdd
  obtain ⟨mA, hns, _⟩ := hx
  obtain ⟨od, hod, _⟩ := lookIn_ns hns
  have J : InstAt s.heap a oe C (some od) := by
    obtain ⟨c0, d0, da, sl⟩ := oe
    obtain ⟨h1, h2⟩ := hz
    obtain ⟨vs, hv⟩ := hf
    dsimp only at h1 h2 hv
    subst h1 h2 hv
    exact ⟨pinned, rfl, rfl, hod⟩
  exact kia_one (kitx_exc T.iso T.ga T.gg T.ex T.ha T.hn T.ht T.hm) I.kIn J e (fun z => nomatch z) fun tk => ⟨.bl b, H, I.tok tk, rfl, q⟩
end
theorem scMisused : FnScope ["_law_deed", "_law_found", "e"] ["_law_deed"] (defScope sMisused) := ⟨rfl, rfl, rfl, by decide +kernel, rfl, by decide +kernel, by decide +kernel⟩
/-- the deed raises the error of the class at CP, which says nothing -/
def TMis (CP : Addr) : (XK → Hp → VK → Prop) → Hp → VK → Prop := fun tl H Q =>
  tl (fun cls d H' => cls = .ref CP ∧ ∃ (dd : Addr) (fs : List (Str × V)), d = some dd ∧ H' dd = some (.xd fs) ∧ fs.lookup fld = some .non ∧ Q (.bl true) H') H fun _ H' => Q (.bl false) H'
section
variable {X : Cx} {CP CD CE : Addr}
theorem takes_len {X : Cx} {W : WX} (tk : Takes X W) : Takes X fun cls d σ H => σ.length = X.N.length → W cls d σ H := fun u s' ⟨a, B, sI, pins, σ, H, cls, d, e, I, nb, up, sky, na, os, ag, w⟩ => tk u s' ⟨a, B, sI, pins, σ, H, cls, d, e, I, nb, up, sky, na, os, ag, w I.len⟩
theorem misused_gives {g : Addr} {cdg : Value} {q : Str} (TP : EC X.prog X.w X.K X.mg "ProgrammingError" CP) (gD : X.mg "DatabaseError" = some (.ref CD)) (gE : X.mg "Error" = some (.ref CE)) (mi : X.mg "isinstance" = none)
    (exP : exmOne X.K (.ref CP) (.ref CP) = some true) (kiD : kitOne X.K (.ref CP) (.ref CD) = some true) : GivesTo X ["_law_deed", "_law_found", "e"] "_law_misused" (defScope sMisused) g cdg (defBody sMisused) "_law_deed" q (TMis CP) := by
  intro f c' s H Q tl act hc h
  refine ⟨_, pss_cons (ps_set (i := 1) scMisused.nd rfl (.inl rfl) pe_bl)
    (pss_cons (ps_try_twoAs (X := (cxOf C8.CX0 X.prog X.w X.K X.mg X.base ["_law_deed", "_law_found", "e"] "_law_misused" (defScope sMisused) g cdg X.A X.stack s H C8.E0).nox) (i := 2) (Wout := fun _ _ _ _ => False)
      (tb := fun W D σ H => ∃ Ech : XK, (∀ cls d σ' H', Ech cls d H' → List.length σ' = 3 → W cls d σ' H') ∧ σ[0]? = some (some (.ref f)) ∧ H c' = some (CodeO c' q) ∧ tl Ech H fun _ H' => D.nx σ H') rfl rfl scMisused.nd rfl rfl L2.takes0 (fun W pn xe tk _ => ?body)
      (.more (c := .ref CP) ⟨rfl, by decide, .inl TP.g⟩ (fun z oz cls d pn hz hf => pss_one (ps_set (i := 1) scMisused.nd rfl (.inl rfl)
          (pe_and (pe_callB (call_isD TP hz hf) (by rfl) mi boot_isinstance (pa_cons (pv 2) (pa_cons (pe_glob (v := .ref CD) (by rfl) gD rfl) pa_nil))) (pe_one (pe_cmpR op_isN (pe_xf ⟨TP.ga, TP.gg, TP.ex, TP.cl.hd⟩ TP.no hz hf (pv 2)) pe_non (nomark _))))))
        (.more (c := .ref CE) ⟨rfl, by decide, .inl gE⟩ (fun z oz cls d pn hz hf => pss_one (ps_set (i := 1) scMisused.nd rfl (.inl rfl) pe_bl)) .none)))
    (pss_one (ps_ret (pv 1)))), ?read⟩
  case body =>
    refine ⟨fun pins s' σ H' D I h' => ?_⟩
    obtain ⟨Ech, hW, h1, h2, h3⟩ := h'
    exact (pss_one (ps_expr (act _ pn xe Ech _ _ (takes_len tk) hW))).run pins s' σ H' D I ⟨h1, h2, h3⟩
  case read =>
    refine ⟨fun cls d H' => cls = .ref CP ∧ ∃ (dd : Addr) (fs : List (Str × V)), d = some dd ∧ H' dd = some (.xd fs) ∧ fs.lookup fld = some .non ∧ Q (.bl true) H', fun cls d σ' H' hw hl3 => ?_, rfl, hc, ?_⟩
    · match σ', hl3 with
      | [s0, s1, s2], _ => ?_
      obtain ⟨rfl, dd, fs, rfl, hdd, hl, hq⟩ := hw
      refine ⟨true, exP, fun _ z nz => ?_, fun e => Bool.noConfusion e⟩
      exact ⟨.ref z, rfl, .ref CD, .ref CD, true, dd, fs, rfl, rfl, rfl, hdd, .own CD, kiD, true, rfl, iteT ⟨.ref z, rfl, rfl, rfl, dd, fs, .non, rfl, hdd, hl, rfl, .bl true, rfl, hq⟩⟩
    · have e : (fun (_ : V) (H' : Hp) => ∃ v : V, (some (some (V.bl false)) : Option (Option V)) = some (some v) ∧ Q v H') = fun _ H' => Q (.bl false) H' := funext fun _ => funext fun H' => propext ⟨fun ⟨v, e1, e2⟩ => by
        obtain rfl := Option.some.inj (Option.some.inj e1)
        exact e2, fun z => ⟨_, rfl, z⟩⟩
      have h2 := h
      unfold TMis at h2
      rw [← e] at h2
      exact h2
end
end Err

/-! max(xs, default=d); one expression under two rules. -/
namespace Lk
open PySem PySem.Spec PyProof.Rows L2 Drw
def rMaxD (K : PySem.W.Frag) : List V → List V → Hp → VK → Prop := fun vs zs H Q => ∃ (a : Addr) (ns : List Int) (d : Int), vs = [.ref a] ∧ zs = [.int d] ∧ SqL K H a (ns.map V.int) ∧ (ns = [] → Q (.int d) H) ∧ ∀ m ∈ ns, (∀ y ∈ ns, y ≤ m) → Q (.int m) H
section
variable {X : Cx}
theorem maxOf_spec : ∀ (y : Int) (ys : List Int), PySem.W.maxOf y ys ∈ y :: ys ∧ ∀ z ∈ y :: ys, z ≤ PySem.W.maxOf y ys := by
  intro y ys
  have key : ∀ (l : List Int) (x : Int), (l.foldl (fun a z => if PySem.W.DatumOrd.lt a z = true then z else a) x) ∈ x :: l ∧ ∀ z ∈ x :: l, z ≤ l.foldl (fun a z => if PySem.W.DatumOrd.lt a z = true then z else a) x := by
    intro l
    induction l with
    | nil => exact fun x => ⟨List.mem_singleton.mpr rfl, fun z hz => by
        rw [List.mem_singleton.mp hz]
        exact Int.le_refl _⟩
    | cons b l ih =>
      intro x
      rw [List.foldl_cons]
      by_cases h : PySem.W.DatumOrd.lt x b = true
      · rw [if_pos h]
        have hb : x < b := of_decide_eq_true h
        obtain ⟨h1, h2⟩ := ih b
        refine ⟨List.mem_cons_of_mem _ h1, fun z hz => ?_⟩
        rcases List.mem_cons.mp hz with rfl | hz
        · exact Int.le_trans (Int.le_of_lt hb) (h2 b (List.mem_cons_self ..))
        · exact h2 z hz
      · rw [if_neg h]
        have hb : ¬ x < b := fun z => h (decide_eq_true z)
        obtain ⟨h1, h2⟩ := ih x
        refine ⟨?_, fun z hz => ?_⟩
        · rcases List.mem_cons.mp h1 with h | h
          · rw [h]
            exact List.mem_cons_self ..
          · exact List.mem_cons_of_mem _ (List.mem_cons_of_mem _ h)
        · rcases List.mem_cons.mp hz with rfl | hz
          · exact h2 z (List.mem_cons_self ..)
          · rcases List.mem_cons.mp hz with rfl | hz
            · exact Int.le_trans (by omega) (h2 x (List.mem_cons_self ..))
            · exact h2 z (List.mem_cons_of_mem _ hz)
  exact key ys y
theorem cr_maxD (hc : X.calm = true) (hu : X.A.units + 1 < cLine) : CallRK X (.builtin "max") [Str.ofString "default"] (rMaxD X.K) := by
  intro pins s σ H vs zs us ws Q I r rz h
  obtain ⟨a, ns, d, rfl, rfl, hs, q0, q1⟩ := h
  obtain rfl := Vals.ref1 r
  obtain ⟨w1, rfl, e1⟩ := vals1 rz
  obtain ⟨its, rv, hl, _⟩ := I.list hs
  refine PySem.W.max_list_datum_default (xs := ns) (I.ok.hd hc) hl.isList (PySem.W.HoldAll.of_ints rv.ints) (by show X.A.units + 1 + 0 < cLine; omega) (fun e h' tk k => ⟨.int d, H, I.kept k, e1, q0 e⟩) fun y ys i v h' tk e hv hh k => ?_
  subst e
  obtain ⟨m1, m2⟩ := maxOf_spec y ys
  obtain ⟨as, rd⟩ := hh
  refine ⟨.int (PySem.W.maxOf y ys), H, I.kept k, ?_, q1 _ m1 m2⟩
  cases rd
  exact ⟨_, rfl⟩
/-- under either rule -/
theorem pe_two {e : Expr} {t u : TE} (h1 : PE X e t) (h2 : PE X e u) : PE X e fun σ H Q => t σ H Q ∨ u σ H Q := ⟨fun pins s σ H Q I h => h.elim (h1.run pins s σ H Q I) (h2.run pins s σ H Q I)⟩
theorem pi_two {tg l : Expr} {t u : TI} (h1 : PI X tg l t) (h2 : PI X tg l u) : PI X tg l fun σ H R => t σ H R ∨ u σ H R := ⟨fun pins s σ H R I h => h.elim (h1.run pins s σ H R I) (h2.run pins s σ H R I)⟩
theorem pg_two {tg : Expr} {t u : TG} (h1 : PG X tg t) (h2 : PG X tg u) : PG X tg fun v σ H Q => t v σ H Q ∨ u v σ H Q := ⟨fun pins s σ H v w Q I r h => h.elim (h1.run pins s σ H v w Q I r) (h2.run pins s σ H v w Q I r)⟩
end
structure Can (P : Program) (w : World) (K : PySem.W.Frag) (mg : Str → Option Value) (base : Heap) (CX : CXT) (k : Nat) (name : Str) (ps : List Str) (sp : Sp) (f : Addr) (fd : FuncData) : Prop where
  G : FnOk P w K mg base CX k f fd ps sp
  g : mg name = some (.ref f)
  kp : PySem.W.keepIn K (.ref f) = true
  b : Binds K fd ps []
end Lk

/-! The program's small defs about locks and steps. -/
namespace Lk
open PySem PySem.Spec PyProof.Rows L2 Drw
theorem scShRef : FnScope ["held", "other"] ["held", "other"] (defScope sShRef) := ⟨rfl, rfl, rfl, by decide +kernel, rfl, by decide +kernel, by decide +kernel⟩
theorem scReRef : FnScope ["other"] ["other"] (defScope sReRef) := ⟨rfl, rfl, rfl, by decide +kernel, rfl, by decide +kernel, by decide +kernel⟩
theorem scExRef : FnScope ["other"] ["other"] (defScope sExRef) := ⟨rfl, rfl, rfl, by decide +kernel, rfl, by decide +kernel, by decide +kernel⟩
theorem scIdle : FnScope ["is_reading"] ["is_reading"] (defScope sIdle) := ⟨rfl, rfl, rfl, by decide +kernel, rfl, by decide +kernel, by decide +kernel⟩
theorem scOpenB : FnScope ["step", "opened"] ["step", "opened"] (defScope sOpenB) := ⟨rfl, rfl, rfl, by decide +kernel, rfl, by decide +kernel, by decide +kernel⟩
theorem scReadB : FnScope ["step", "reads"] ["step", "reads"] (defScope sReadB) := ⟨rfl, rfl, rfl, by decide +kernel, rfl, by decide +kernel, by decide +kernel⟩
theorem scMay : FnScope ["step", "opened", "reads"] ["step", "opened", "reads"] (defScope sMay) := ⟨rfl, rfl, rfl, by decide +kernel, rfl, by decide +kernel, by decide +kernel⟩
theorem scIsRef : FnScope ["step", "opened", "held", "other"] ["step", "opened", "held", "other"] (defScope sIsRef) := ⟨rfl, rfl, rfl, by decide +kernel, rfl, by decide +kernel, by decide +kernel⟩
theorem scLockRef : FnScope ["step", "held"] ["step", "held"] (defScope sLockRef) := ⟨rfl, rfl, rfl, by decide +kernel, rfl, by decide +kernel, by decide +kernel⟩
theorem scLockB : FnScope ["step", "opened", "reads", "held"] ["step", "opened", "reads", "held"] (defScope sLockB) := ⟨rfl, rfl, rfl, by decide +kernel, rfl, by decide +kernel, by decide +kernel⟩
theorem scTaken : FnScope ["step"] ["step"] (defScope sTaken) := ⟨rfl, rfl, rfl, by decide +kernel, rfl, by decide +kernel, by decide +kernel⟩
def sp2I (g : Int → Int → V) : Sp := fun vs H Q _ => ∃ a b : Int, vs = [.int a, .int b] ∧ ∀ H', Al H H' → Q (g a b) H'
def sp1I (g : Int → V) : Sp := fun vs H Q _ => ∃ a : Int, vs = [.int a] ∧ ∀ H', Al H H' → Q (g a) H'
def shR (held other : Int) : Bool := decide (held < 1) && decide (other ≥ 3)
def spIdle : Sp := fun vs H Q _ => ∃ b : Bool, vs = [.bl b] ∧ ∀ H', Al H H' → Q (.int (if b = true then 1 else 0)) H'
def spWB (g : Str → Bool → Bool) : Sp := fun vs H Q _ => ∃ (w : Str) (b : Bool), vs = [.str w, .bl b] ∧ ∀ H', Al H H' → Q (.bl (g w b)) H'
def opening : List Str := ["begin", "immediate", "exclusive"]
def ending : List Str := ["commit", "rollback"]
def anywhere : List Str := ["read", "write"]
theorem inW_mem {w : Str} {l : List Str} : inW w l = true ↔ w ∈ l := by
  unfold inW inV
  rw [List.any_map, List.any_eq_true]
  constructor
  · rintro ⟨x, hx, e⟩
    have e2 : eqV (.str x) (.str w) = true := e
    have e3 : (x == w) = true := e2
    rwa [← beq_iff_eq.mp e3]
  · intro h
    exact ⟨w, h, (beq_self_eq_true w : (w == w) = true)⟩
theorem not_inW {w : Str} {l : List Str} (h : ¬ w ∈ l) : inW w l = false := Bool.eq_false_iff.mpr fun z => h (inW_mem.mp z)
/-- as the program says it -/
theorem opnP (w : Str) (o : Bool) : (inW w opening || (o && !inW w ending)) = opnB w o := by
  unfold opnB
  by_cases h : w ∈ opening
  · have h2 : ¬ w ∈ ending := by
      have z := h
      simp only [opening, List.mem_cons, List.not_mem_nil, or_false] at z
      rcases z with rfl | rfl | rfl <;> decide +kernel
    rw [inW_mem.mpr h, show inW w ["commit", "rollback"] = false from not_inW h2, show inW w ["begin", "immediate", "exclusive"] = true from inW_mem.mpr h, Bool.or_true]
    rfl
  · rw [not_inW h, show inW w ["begin", "immediate", "exclusive"] = false from not_inW h, Bool.or_false, Bool.false_or, Bool.and_comm]
    rfl
theorem rdsP (w : Str) (r : Bool) : (decide (w = "start") || (r && !decide (w = "stop"))) = rdsB w r := by
  unfold rdsB
  by_cases h : w = "start"
  · subst h
    rw [decide_eq_true rfl, show decide ((Str.ofString "start") = (Str.ofString "stop")) = false by decide +kernel, Bool.or_true]
    rfl
  · rw [decide_eq_false h, Bool.or_false, Bool.false_or, Bool.and_comm]
section
variable {P : Program} {w : World} {K : PySem.W.Frag} {mg : Str → Option Value} {base : Heap} {t0 t1 t2 t3 t4 : Nat}
theorem ok_shRef {f : Addr} {fd : FuncData} (F : Fun K "is_shared_refused" "is_shared_refused" sShRef f fd) (c1 : mg "SHARED" = some (.int 1 t1)) (c3 : mg "PENDING" = some (.int 3 t3)) : FnOk P w K mg base CX0 1 f fd ["held", "other"] (sp2I fun a b => .bl (shR a b)) := by
  refine F.ok scShRef (fun vs H Q E h => ?_) (fun cdv A outer s H vs Q E hr h => ?_)
  · obtain ⟨a, b, rfl, _⟩ := h
    rfl
  · obtain ⟨a, b, rfl, q⟩ := h
    refine ⟨_, pss_one (ps_ret (pe_and (pe_cmpR op_lt (pv 0) (pe_glob (v := .int 1) (by rfl) c1 ⟨t1, rfl⟩) (nomark _)) (pe_one (pe_cmpR op_ge (pv 1) (pe_glob (v := .int 3) (by rfl) c3 ⟨t3, rfl⟩) (nomark _))))), ?_⟩
    have z : Q (.bl (decide (a < 1) && decide (b ≥ 3))) H := q H Al.refl
    refine ⟨.int a, rfl, _, _, rfl, rfl, _, rfl, ite2 (fun e => ?_) (fun e => ?_)⟩
    · rw [e] at z
      exact ⟨.int b, rfl, _, _, rfl, rfl, z⟩
    · rw [Bool.eq_false_iff.mpr e] at z
      exact z
theorem ok_reRef {f : Addr} {fd : FuncData} (F : Fun K "is_reserved_refused" "is_reserved_refused" sReRef f fd) (c2 : mg "RESERVED" = some (.int 2 t2)) : FnOk P w K mg base CX0 1 f fd ["other"] (sp1I fun b => .bl (decide (b ≥ 2))) := by
  refine F.ok scReRef (fun vs H Q E h => ?_) (fun cdv A outer s H vs Q E hr h => ?_)
  · obtain ⟨b, rfl, _⟩ := h
    rfl
  · obtain ⟨b, rfl, q⟩ := h
    exact ⟨_, pss_one (ps_ret (pe_cmpR op_ge (pv 0) (pe_glob (v := .int 2) (by rfl) c2 ⟨t2, rfl⟩) (nomark _))), .int b, rfl, _, _, rfl, rfl, q H Al.refl⟩
theorem ok_exRef {f : Addr} {fd : FuncData} (F : Fun K "is_exclusive_refused" "is_exclusive_refused" sExRef f fd) (c1 : mg "SHARED" = some (.int 1 t1)) : FnOk P w K mg base CX0 1 f fd ["other"] (sp1I fun b => .bl (decide (b ≥ 1))) := by
  refine F.ok scExRef (fun vs H Q E h => ?_) (fun cdv A outer s H vs Q E hr h => ?_)
  · obtain ⟨b, rfl, _⟩ := h
    rfl
  · obtain ⟨b, rfl, q⟩ := h
    exact ⟨_, pss_one (ps_ret (pe_cmpR op_ge (pv 0) (pe_glob (v := .int 1) (by rfl) c1 ⟨t1, rfl⟩) (nomark _))), .int b, rfl, _, _, rfl, rfl, q H Al.refl⟩
theorem ok_idle {f : Addr} {fd : FuncData} (F : Fun K "idle_lock" "idle_lock" sIdle f fd) (c0 : mg "NO_LOCK" = some (.int 0 t0)) (c1 : mg "SHARED" = some (.int 1 t1)) : FnOk P w K mg base CX0 1 f fd ["is_reading"] spIdle := by
  refine F.ok scIdle (fun vs H Q E h => ?_) (fun cdv A outer s H vs Q E hr h => ?_)
  · obtain ⟨b, rfl, _⟩ := h
    rfl
  · obtain ⟨b, rfl, q⟩ := h
    refine ⟨_, pss_one (ps_ret (pe_ifExp (pt_val (pv 0)) (pe_glob (v := .int 1) (by rfl) c1 ⟨t1, rfl⟩) (pe_glob (v := .int 0) (by rfl) c0 ⟨t0, rfl⟩))), .bl b, rfl, b, rfl, ?_⟩
    have z := q H Al.refl
    cases b with
    | true => exact iteT z
    | false => exact iteF z
theorem ok_openB {f aO aE : Addr} {fd : FuncData} (F : Fun K "is_open_behind" "is_open_behind" sOpenB f fd) (gO : mg "OPENING" = some (.ref aO)) (lO : ∀ H, SqT K H aO (opening.map V.str)) (gE : mg "ENDING" = some (.ref aE)) (lE : ∀ H, SqT K H aE (ending.map V.str)) : FnOk P w K mg base CX0 1 f fd ["step", "opened"] (spWB opnB) := by
  refine F.ok scOpenB (fun vs H Q E h => ?_) (fun cdv A outer s H vs Q E hr h => ?_)
  · obtain ⟨x, b, rfl, _⟩ := h
    rfl
  · obtain ⟨x, b, rfl, q⟩ := h
    refine ⟨_, pss_one (ps_ret (pe_or (pe_cmpR op_in_seq (pv 0) (pe_glob (v := .ref aO) (by rfl) gO rfl) rfl) (pe_one (pe_and (pv 1) (pe_one (pe_cmpR op_notIn_seq (pv 0) (pe_glob (v := .ref aE) (by rfl) gE rfl) rfl)))))), ?_⟩
    have z := q H Al.refl
    rw [← opnP] at z
    refine ⟨.str x, rfl, aO, _, rfl, .inr (lO H), rfl, rfl, inW x opening, rfl, ite2 (fun e => ?_) (fun e => ?_)⟩
    · rw [e] at z
      exact z
    · rw [Bool.eq_false_iff.mpr e, Bool.false_or] at z
      refine ⟨.bl b, rfl, b, rfl, ?_⟩
      cases b with
      | false => exact iteF z
      | true => exact iteT ⟨.str x, rfl, aE, _, rfl, .inr (lE H), rfl, rfl, z⟩
theorem ok_readB {f : Addr} {fd : FuncData} (F : Fun K "is_reading_behind" "is_reading_behind" sReadB f fd) : FnOk P w K mg base CX0 1 f fd ["step", "reads"] (spWB rdsB) := by
  refine F.ok scReadB (fun vs H Q E h => ?_) (fun cdv A outer s H vs Q E hr h => ?_)
  · obtain ⟨x, b, rfl, _⟩ := h
    rfl
  · obtain ⟨x, b, rfl, q⟩ := h
    refine ⟨_, pss_one (ps_ret (pe_or (pe_cmpR op_eq (pv 0) pe_str (nomark _)) (pe_one (pe_and (pv 1) (pe_one (pe_cmpR op_ne (pv 0) pe_str (nomark _))))))), ?_⟩
    have z := q H Al.refl
    rw [← rdsP, ← eq_str, ← eq_str] at z
    refine ⟨.str x, rfl, rfl, _, rfl, ite2 (fun e => ?_) (fun e => ?_)⟩
    · rw [e] at z
      exact z
    · rw [Bool.eq_false_iff.mpr e, Bool.false_or] at z
      refine ⟨.bl b, rfl, b, rfl, ?_⟩
      cases b with
      | false => exact iteF z
      | true => exact iteT ⟨.str x, rfl, rfl, z⟩
end
end Lk

namespace Lk
open PySem PySem.Spec PyProof.Rows L2 Drw
/-- whether a step may stand there -/
def mayB (w : Str) (o r : Bool) : Bool :=
  if inW w opening = true then !o else if inW w ending = true then o else if decide (w = "start") = true then !r else if decide (w = "stop") = true then r else inW w anywhere
def spMay : Sp := fun vs H Q _ => ∃ (w : Str) (o r : Bool), vs = [.str w, .bl o, .bl r] ∧ ∀ H', Al H H' → Q (.bl (mayB w o r)) H'
/-- whether a step is refused, as the program says it -/
def refP (w : Str) (o : Bool) (held other : Int) : Bool :=
  if decide (w = "commit") = true then decide (held ≥ 2) && decide (other ≥ 1)
  else if inW w ["read", "start"] = true then shR held other
  else if (decide (w = "exclusive") || (decide (w = "write") && !o)) = true then decide (other ≥ 1)
  else inW w ["immediate", "write"] && decide (other ≥ 2)
def spIsRef : Sp := fun vs H Q _ => ∃ (w : Str) (o : Bool) (held other : Int), vs = [.str w, .bl o, .int held, .int other] ∧ ∀ H', Al H H' → Q (.bl (refP w o held other)) H'
def spLockRef : Sp := fun vs H Q _ => ∃ (w : Str) (held : Int), vs = [.str w, .int held] ∧ ∀ H', Al H H' → Q (.int (if w = "commit" then (if 3 > held then 3 else held) else held)) H'
def spTaken : Sp := fun vs H Q _ => ∃ w : Str, vs = [.str w] ∧ ∀ H', Al H H' → Q (.int (leastI w)) H'
def spLockB : Sp := fun vs H Q _ => ∃ (w : Str) (o r : Bool) (held : Int), vs = [.str w, .bl o, .bl r, .int held] ∧ ∀ H', Al H H' → Q (.int (if o = true then (if leastI w > held then leastI w else held) else if r = true then 1 else 0)) H'
section
variable {P : Program} {w : World} {K : PySem.W.Frag} {mg : Str → Option Value} {base : Heap} {t0 t1 t2 t3 t4 : Nat}
theorem ok_may {f aO aE aA : Addr} {fd : FuncData} (F : Fun K "_may_stand" "_may_stand" sMay f fd) (gO : mg "OPENING" = some (.ref aO)) (lO : ∀ H, SqT K H aO (opening.map V.str)) (gE : mg "ENDING" = some (.ref aE)) (lE : ∀ H, SqT K H aE (ending.map V.str))
    (gA : mg "ANYWHERE" = some (.ref aA)) (lA : ∀ H, SqT K H aA (anywhere.map V.str)) : FnOk P w K mg base CX0 1 f fd ["step", "opened", "reads"] spMay := by
  refine F.ok scMay (fun vs H Q E h => ?_) (fun cdv A outer s H vs Q E hr h => ?_)
  · obtain ⟨x, o, r, rfl, _⟩ := h
    rfl
  · obtain ⟨x, o, r, rfl, q⟩ := h
    refine ⟨_, pss_cons (ps_if (pt_cmpR op_in_seq (pv 0) (pe_glob (v := .ref aO) (by rfl) gO rfl) rfl) (pss_one (ps_ret (pe_not (pv 1)))) pss_nil)
      (pss_cons (ps_if (pt_cmpR op_in_seq (pv 0) (pe_glob (v := .ref aE) (by rfl) gE rfl) rfl) (pss_one (ps_ret (pv 1))) pss_nil)
      (pss_cons (ps_if (pt_cmpR op_eq (pv 0) pe_str (nomark _)) (pss_one (ps_ret (pe_not (pv 2)))) pss_nil)
      (pss_one (ps_ret (pe_ifExp (pt_cmpR op_eq (pv 0) pe_str (nomark _)) (pv 2) (pe_cmpR op_in_seq (pv 0) (pe_glob (v := .ref aA) (by rfl) gA rfl) rfl)))))), ?_⟩
    have z : Q (.bl (mayB x o r)) H := q H Al.refl
    unfold mayB at z
    refine ⟨.str x, rfl, aO, _, rfl, .inr (lO H), rfl, rfl, inW x opening, rfl, ite2 (fun e => ?_) (fun e => ?_)⟩
    · rw [if_pos e] at z
      exact ⟨.bl o, rfl, o, rfl, z⟩
    · rw [if_neg e] at z
      refine ⟨.str x, rfl, aE, _, rfl, .inr (lE H), rfl, rfl, inW x ending, rfl, ite2 (fun e2 => ?_) (fun e2 => ?_)⟩
      · rw [if_pos e2] at z
        exact ⟨.bl o, rfl, z⟩
      · rw [if_neg e2] at z
        refine ⟨.str x, rfl, rfl, _, rfl, ite2 (fun e3 => ?_) (fun e3 => ?_)⟩
        · rw [if_pos (eq_str.symm.trans e3)] at z
          exact ⟨.bl r, rfl, r, rfl, z⟩
        · rw [if_neg fun y => e3 (eq_str.trans y)] at z
          refine ⟨.str x, rfl, rfl, _, rfl, ite2 (fun e4 => ?_) (fun e4 => ?_)⟩
          · rw [if_pos (eq_str.symm.trans e4)] at z
            exact ⟨.bl r, rfl, z⟩
          · rw [if_neg fun y => e4 (eq_str.trans y)] at z
            exact ⟨.str x, rfl, aA, _, rfl, .inr (lA H), rfl, rfl, z⟩
theorem ok_lockRef {f : Addr} {fd : FuncData} (F : Fun K "lock_of_refused" "lock_of_refused" sLockRef f fd) (c3 : mg "PENDING" = some (.int 3 t3)) (mm : mg "max" = none) : FnOk P w K mg base CX0 1 f fd ["step", "held"] spLockRef := by
  refine F.ok scLockRef (fun vs H Q E h => ?_) (fun cdv A outer s H vs Q E hr h => ?_)
  · obtain ⟨x, a, rfl, _⟩ := h
    rfl
  · obtain ⟨x, a, rfl, q⟩ := h
    refine ⟨_, pss_one (ps_ret (pe_ifExp (pt_cmpR op_eq (pv 0) pe_str (nomark _)) (pe_callB (call_max2 rfl) (by rfl) mm (by decide +kernel) (pa_cons (pv 1) (pa_cons (pe_glob (v := .int 3) (by rfl) c3 ⟨t3, rfl⟩) pa_nil))) (pv 1))), ?_⟩
    have z := q H Al.refl
    refine ⟨.str x, rfl, rfl, _, rfl, ite2 (fun e => ?_) (fun e => ?_)⟩
    · rw [if_pos (of_decide_eq_true (eq_str.symm.trans e))] at z
      exact ⟨.int a, rfl, a, 3, rfl, z⟩
    · rw [if_neg fun y => e (eq_str.trans (decide_eq_true y))] at z
      exact ⟨.int a, rfl, z⟩
theorem ok_taken {f : Addr} {fd : FuncData} (F : Fun K "_lock_taken" "_lock_taken" sTaken f fd) (c0 : mg "NO_LOCK" = some (.int 0 t0)) (c1 : mg "SHARED" = some (.int 1 t1)) (c2 : mg "RESERVED" = some (.int 2 t2)) (c4 : mg "EXCLUSIVE" = some (.int 4 t4)) : FnOk P w K mg base CX0 1 f fd ["step"] spTaken := by
  refine F.ok scTaken (fun vs H Q E h => ?_) (fun cdv A outer s H vs Q E hr h => ?_)
  · obtain ⟨x, rfl, _⟩ := h
    rfl
  · obtain ⟨x, rfl, q⟩ := h
    refine ⟨_, pss_cons (ps_if (pt_cmpR op_eq (pv 0) pe_str (nomark _)) (pss_one (ps_ret (pe_glob (v := .int 4) (by rfl) c4 ⟨t4, rfl⟩))) pss_nil)
      (pss_cons (ps_if (pt_cmpR op_in_seq (pv 0) (pe_tup (pa_cons pe_str (pa_cons pe_str pa_nil))) rfl) (pss_one (ps_ret (pe_glob (v := .int 2) (by rfl) c2 ⟨t2, rfl⟩))) pss_nil)
      (pss_one (ps_ret (pe_ifExp (pt_cmpR op_in_seq (pv 0) (pe_tup (pa_cons pe_str (pa_cons pe_str pa_nil))) rfl) (pe_glob (v := .int 1) (by rfl) c1 ⟨t1, rfl⟩) (pe_glob (v := .int 0) (by rfl) c0 ⟨t0, rfl⟩))))), ?_⟩
    refine ⟨.str x, rfl, rfl, _, rfl, ite2 (fun e => ?_) (fun e => ?_)⟩
    · obtain rfl := of_decide_eq_true (eq_str.symm.trans e)
      have z := q H Al.refl
      rw [show leastI "exclusive" = 4 by decide +kernel] at z
      exact z
    · have n1 : ¬ x = "exclusive" := fun y => e (eq_str.trans (decide_eq_true y))
      refine ⟨.str x, rfl, by show 2 ≤ sizeLine; decide, fun u1 m1 => ?_⟩
      have k1 := (Al.refl (H := H)).new (o := .tup [.str "immediate", .str "write"]) m1
      refine ⟨u1, _, rfl, .inr (sqt upd_same), rfl, rfl, inW x ["immediate", "write"], rfl, ite2 (fun e2 => ?_) (fun e2 => ?_)⟩
      · have z := q _ k1
        have y := inW_mem.mp e2
        simp only [List.mem_cons, List.not_mem_nil, or_false] at y
        rcases y with rfl | rfl
        · rw [show leastI "immediate" = 2 by decide +kernel] at z
          exact z
        · rw [show leastI "write" = 2 by decide +kernel] at z
          exact z
      · have n2 : ¬ (x = "write" ∨ x = "immediate") := fun y => e2 (inW_mem.mpr (by simp only [List.mem_cons, List.not_mem_nil, or_false]; exact y.symm))
        refine ⟨.str x, rfl, by show 2 ≤ sizeLine; decide, fun u2 m2 => ?_⟩
        have z := q _ (k1.new (o := .tup [.str "read", .str "start"]) m2)
        refine ⟨u2, _, rfl, .inr (sqt upd_same), rfl, rfl, inW x ["read", "start"], rfl, ite2 (fun e3 => ?_) (fun e3 => ?_)⟩
        · have y := inW_mem.mp e3
          simp only [List.mem_cons, List.not_mem_nil, or_false] at y
          rw [leastI, if_pos y] at z
          exact z
        · have n3 : ¬ (x = "read" ∨ x = "start") := fun y => e3 (inW_mem.mpr (by simp only [List.mem_cons, List.not_mem_nil, or_false]; exact y))
          rw [leastI, if_neg n3, if_neg n2, if_neg n1] at z
          exact z
end
end Lk

namespace Lk
open PySem PySem.Spec PyProof.Rows L2 Drw
theorem refP_refB {w : Str} {o : Bool} {held other : Int} (h0 : 0 ≤ held) (h1 : 2 ≤ held → other ≤ 1) : refP w o held other = refB w o held other := by
  have d : ∀ {a b : Prop} [Decidable a] [Decidable b], (a ↔ b) → decide a = decide b := fun h => decide_eq_decide.mpr h
  unfold refP refB
  by_cases c1 : w = "commit"
  · subst c1
    rw [if_pos (by decide +kernel), if_neg (by decide +kernel : ¬ inW "commit" ["read", "start"] = true), if_neg (by rw [show decide ((Str.ofString "commit") = (Str.ofString "write")) = false by decide +kernel]; exact Bool.false_ne_true), if_neg (by decide +kernel), if_pos rfl, d (by omega : held ≥ 2 ↔ held > 1), d (by omega : other ≥ 1 ↔ other > 0)]
  · rw [if_neg (by rw [decide_eq_true_eq]; exact c1)]
    by_cases c2 : inW w ["read", "start"] = true
    · rw [if_pos c2, if_pos c2]
      unfold shR
      rw [d (by omega : held < 1 ↔ held = 0), d (by omega : other ≥ 3 ↔ other > 2)]
    · rw [if_neg c2, if_neg c2, if_neg c1]
      by_cases c3 : w = "write"
      · subst c3
        cases o with
        | true =>
          rw [if_neg (by decide +kernel), if_pos (by decide +kernel), show inW "write" ["immediate", "write"] = true by decide +kernel, Bool.true_and]
          by_cases y : held < 2
          · rw [decide_eq_true y, Bool.true_and]
            exact d (by omega)
          · rw [decide_eq_false y, Bool.false_and]
            exact decide_eq_false (by omega)
        | false =>
          rw [if_pos (by decide +kernel), if_neg (by decide +kernel), if_neg (by decide +kernel), show inW "write" ["write", "exclusive"] = true by decide +kernel, Bool.true_and]
          exact d (by omega)
      · have nw : (decide (w = "write") && o) = false := by rw [decide_eq_false c3]; rfl
        have nw2 : (decide (w = "write") && !o) = false := by rw [decide_eq_false c3]; rfl
        rw [nw, nw2, Bool.or_false, if_neg Bool.false_ne_true]
        by_cases c4 : w = "immediate"
        · subst c4
          rw [if_neg (by decide +kernel), if_pos rfl, show inW "immediate" ["immediate", "write"] = true by decide +kernel, Bool.true_and]
          exact d (by omega)
        · rw [if_neg c4]
          have e1 : inW w ["immediate", "write"] = false := not_inW (by simp only [List.mem_cons, List.not_mem_nil, or_false]; exact fun y => y.elim c4 c3)
          by_cases c5 : w = "exclusive"
          · subst c5
            rw [if_pos (by decide +kernel), show inW "exclusive" ["write", "exclusive"] = true by decide +kernel, Bool.true_and]
            exact d (by omega)
          · rw [if_neg (by rw [decide_eq_true_eq]; exact c5), e1, show inW w ["write", "exclusive"] = false from not_inW (by simp only [List.mem_cons, List.not_mem_nil, or_false]; exact fun y => y.elim c3 c5)]
            rfl
section
variable {P : Program} {w : World} {K : PySem.W.Frag} {mg : Str → Option Value} {base : Heap} {t0 t1 t2 t3 t4 : Nat}
theorem ok_lockB {f fT fI : Addr} {fd dT dI : FuncData} (F : Fun K "lock_behind" "lock_behind" sLockB f fd) (T : Can P w K mg base CX0 1 "_lock_taken" ["step"] spTaken fT dT) (I : Can P w K mg base CX0 1 "idle_lock" ["is_reading"] spIdle fI dI) (mm : mg "max" = none) : FnOk P w K mg base CX0 2 f fd ["step", "opened", "reads", "held"] spLockB := by
  refine F.ok scLockB (fun vs H Q E h => ?_) (fun cdv A outer s H vs Q E hr h => ?_)
  · obtain ⟨x, o, r, a, rfl, _⟩ := h
    rfl
  · obtain ⟨x, o, r, a, rfl, q⟩ := h
    refine ⟨_, pss_one (ps_ret (pe_ifExp (pt_val (pv 1)) (pe_callB (call_max2 rfl) (by rfl) mm (by decide +kernel) (pa_cons (pv 3) (pa_cons (pe_call T.G hr (by rfl) T.g T.kp T.b .nil pass0 (pa_cons (pv 0) pa_nil)) pa_nil))) (pe_call I.G hr (by rfl) I.g I.kp I.b .nil pass0 (pa_cons (pv 2) pa_nil)))), ?_⟩
    refine ⟨.bl o, rfl, o, rfl, ?_⟩
    cases o with
    | true => exact iteT ⟨.int a, rfl, .str x, rfl, x, rfl, fun H' k => ⟨a, leastI x, rfl, q H' k⟩⟩
    | false => exact iteF ⟨.bl r, rfl, r, rfl, fun H' k => q H' k⟩
theorem ok_isRef {f fS fR fX : Addr} {fd dS dR dX : FuncData} (F : Fun K "is_refused" "is_refused" sIsRef f fd) (c2 : mg "RESERVED" = some (.int 2 t2)) (S : Can P w K mg base CX0 1 "is_shared_refused" ["held", "other"] (sp2I fun a b => .bl (shR a b)) fS dS)
    (R : Can P w K mg base CX0 1 "is_reserved_refused" ["other"] (sp1I fun b => .bl (decide (b ≥ 2))) fR dR) (X : Can P w K mg base CX0 1 "is_exclusive_refused" ["other"] (sp1I fun b => .bl (decide (b ≥ 1))) fX dX) : FnOk P w K mg base CX0 2 f fd ["step", "opened", "held", "other"] spIsRef := by
  refine F.ok scIsRef (fun vs H Q E h => ?_) (fun cdv A outer s H vs Q E hr h => ?_)
  · obtain ⟨x, o, a, b, rfl, _⟩ := h
    rfl
  · obtain ⟨x, o, a, b, rfl, q⟩ := h
    refine ⟨_, pss_cons (ps_if (pt_cmpR op_eq (pv 0) pe_str (nomark _)) (pss_one (ps_ret (pe_and (pe_cmpR op_ge (pv 2) (pe_glob (v := .int 2) (by rfl) c2 ⟨t2, rfl⟩) (nomark _)) (pe_one (pe_call X.G hr (by rfl) X.g X.kp X.b .nil pass0 (pa_cons (pv 3) pa_nil)))))) pss_nil)
      (pss_cons (ps_if (pt_cmpR op_in_seq (pv 0) (pe_tup (pa_cons pe_str (pa_cons pe_str pa_nil))) rfl) (pss_one (ps_ret (pe_call S.G hr (by rfl) S.g S.kp S.b .nil pass0 (pa_cons (pv 2) (pa_cons (pv 3) pa_nil))))) pss_nil)
      (pss_cons (ps_if (PW.pt (pw_or (pt_cmpR op_eq (pv 0) pe_str (nomark _)) (pw_or1 (PW.pt (pw_and (pt_cmpR op_eq (pv 0) pe_str (nomark _)) (pw_and1 (pt_not (pt_val (pv 1))))))))) (pss_one (ps_ret (pe_call X.G hr (by rfl) X.g X.kp X.b .nil pass0 (pa_cons (pv 3) pa_nil)))) pss_nil)
      (pss_one (ps_ret (pe_and (pe_cmpR op_in_seq (pv 0) (pe_tup (pa_cons pe_str (pa_cons pe_str pa_nil))) rfl) (pe_one (pe_call R.G hr (by rfl) R.g R.kp R.b .nil pass0 (pa_cons (pv 3) pa_nil)))))))), ?_⟩
    have z : ∀ H', Al H H' → Q (.bl (refP x o a b)) H' := q
    unfold refP at z
    refine ⟨.str x, rfl, rfl, _, rfl, ite2 (fun e => ?_) (fun e => ?_)⟩
    · rw [if_pos (eq_str.symm.trans e)] at z
      refine ⟨.int a, rfl, _, _, rfl, rfl, _, rfl, ite2 (fun e2 => ?_) (fun e2 => ?_)⟩
      · rw [e2] at z
        exact ⟨.int b, rfl, b, rfl, z⟩
      · rw [Bool.eq_false_iff.mpr e2] at z
        exact z H Al.refl
    · rw [if_neg fun y => e (eq_str.trans y)] at z
      refine ⟨.str x, rfl, by show 2 ≤ sizeLine; decide, fun u1 m1 => ?_⟩
      have k1 := (Al.refl (H := H)).new (o := .tup [.str "read", .str "start"]) m1
      refine ⟨u1, _, rfl, .inr (sqt upd_same), rfl, rfl, inW x ["read", "start"], rfl, ite2 (fun e2 => ?_) (fun e2 => ?_)⟩
      · rw [if_pos e2] at z
        exact ⟨.int a, rfl, .int b, rfl, a, b, rfl, fun H' k => z H' (k1.trans k)⟩
      · rw [if_neg e2] at z
        have yes : (decide (x = "exclusive") || (decide (x = "write") && !o)) = true → ∀ H', Al H H' → Q (.bl (decide (b ≥ 1))) H' := fun y H' k => by
          have z2 := z H' k
          rwa [if_pos y] at z2
        have no : ¬ (decide (x = "exclusive") || (decide (x = "write") && !o)) = true → ∀ H', Al H H' → Q (.bl (inW x ["immediate", "write"] && decide (b ≥ 2))) H' := fun y H' k => by
          have z2 := z H' k
          rwa [if_neg y] at z2
        refine ⟨.str x, rfl, rfl, _, rfl, ite2 (fun e3 => iteT ?yes1) (fun e3 => ?more)⟩
        case' more => refine ⟨.str x, rfl, rfl, _, rfl, ite2 (fun e4 => ?more2) (fun e4 => iteF ?no1)⟩
        case' more2 => refine ⟨.bl o, rfl, o, rfl, ite2 (fun e5 => ?yes2) (fun e5 => ?no2)⟩
        case yes1 => exact ⟨.int b, rfl, b, rfl, fun H' k => yes (by rw [← eq_str, e3]; rfl) H' (k1.trans k)⟩
        case yes2 => exact ⟨.int b, rfl, b, rfl, fun H' k => yes (by rw [← eq_str, ← eq_str, e4, Bool.eq_false_iff.mpr e3]; exact e5) H' (k1.trans k)⟩
        case no1 | no2 =>
          have y : ¬ (decide (x = "exclusive") || (decide (x = "write") && !o)) = true := by
            first
              | (rw [← eq_str, ← eq_str, Bool.eq_false_iff.mpr e3, Bool.eq_false_iff.mpr e4]; exact Bool.false_ne_true)
              | (rw [← eq_str, ← eq_str, Bool.eq_false_iff.mpr e3, e4]; exact e5)
          have z2 := no y
          refine ⟨.str x, rfl, by show 2 ≤ sizeLine; decide, fun u2 m2 => ?_⟩
          have k2 := k1.new (o := .tup [.str "immediate", .str "write"]) m2
          refine ⟨u2, _, rfl, .inr (sqt upd_same), rfl, rfl, inW x ["immediate", "write"], rfl, ite2 (fun e6 => ?_) (fun e6 => ?_)⟩
          · rw [e6] at z2
            exact ⟨.int b, rfl, b, rfl, fun H' k => z2 H' (k2.trans k)⟩
          · rw [Bool.eq_false_iff.mpr e6] at z2
            exact z2 _ k2
end
end Lk

/-! Scripts and states as they are handed in: lists or tuples of lists or tuples. -/
namespace Lk
open PySem PySem.Spec PyProof.Rows L2 Drw Err
/-- a list or a tuple -/
def Sq (K : PySem.W.Frag) (H : Hp) (a : Addr) (xs : List V) : Prop := SqL K H a xs ∨ SqT K H a xs
theorem sqL_al {K : PySem.W.Frag} {H H' : Hp} {a : Addr} {xs : List V} (h : SqL K H a xs) (k : Al H H') : SqL K H' a xs := by
  rcases h with (h | ⟨o, h⟩) | h
  · exact .inl (.inl (k _ _ h))
  · exact .inl (.inr ⟨o, k _ _ h⟩)
  · exact .inr h
theorem sqT_al {K : PySem.W.Frag} {H H' : Hp} {a : Addr} {xs : List V} (h : SqT K H a xs) (k : Al H H') : SqT K H' a xs := by
  rcases h with (h | ⟨o, h⟩) | h
  · exact .inl (.inl (k _ _ h))
  · exact .inl (.inr ⟨o, k _ _ h⟩)
  · exact .inr h
theorem Sq.al {K : PySem.W.Frag} {H H' : Hp} {a : Addr} {xs : List V} (h : Sq K H a xs) (k : Al H H') : Sq K H' a xs := h.imp (fun h => sqL_al h k) fun h => sqT_al h k
/-- a list or tuple of such -/
def Deep (K : PySem.W.Frag) (H : Hp) (a : Addr) (ks : List (List V)) : Prop := ∃ xs, Sq K H a xs ∧ xs.length = ks.length ∧ ∀ (i : Nat) (k : List V), ks[i]? = some k → ∃ b, xs[i]? = some (.ref b) ∧ Sq K H b k
theorem Deep.al {K : PySem.W.Frag} {H H' : Hp} {a : Addr} {ks : List (List V)} (h : Deep K H a ks) (k : Al H H') : Deep K H' a ks := by
  obtain ⟨xs, h1, h2, h3⟩ := h
  refine ⟨xs, h1.al k, h2, fun i c e => ?_⟩
  obtain ⟨b, e1, e2⟩ := h3 i c e
  exact ⟨b, e1, e2.al k⟩
theorem Kids.deep {K : PySem.W.Frag} {H : Hp} {a : Addr} {ks : List (List V)} (h : Kids H a ks) : Deep K H a ks := by
  obtain ⟨xs, h1, h2, h3⟩ := h
  refine ⟨xs, .inr (sqt h1), h2, fun i c e => ?_⟩
  obtain ⟨b, e1, e2⟩ := h3 i c e
  exact ⟨b, e1, .inr (sqt e2)⟩
/-- a list of tuples -/
def Chk (K : PySem.W.Frag) (H : Hp) (a : Addr) (ks : List (List V)) : Prop := ∃ xs, H a = some (.lst xs) ∧ xs.length = ks.length ∧ ∀ (i : Nat) (k : List V), ks[i]? = some k → ∃ b, xs[i]? = some (.ref b) ∧ SqT K H b k
theorem Chk.al {K : PySem.W.Frag} {H H' : Hp} {a : Addr} {ks : List (List V)} (h : Chk K H a ks) (k : Al H H') : Chk K H' a ks := by
  obtain ⟨xs, h1, h2, h3⟩ := h
  refine ⟨xs, k _ _ h1, h2, fun i c e => ?_⟩
  obtain ⟨b, e1, e2⟩ := h3 i c e
  exact ⟨b, e1, sqT_al e2 k⟩
/-- whether steps may follow one another -/
def okS : List Str → Bool → Bool → Bool
  | [], _, _ => true
  | w :: ws, o, r => mayB w o r && okS ws (opnB w o) (rdsB w r)
theorem scPlain : FnScope ["value"] ["value"] (defScope sPlain) := ⟨rfl, rfl, rfl, by decide +kernel, rfl, by decide +kernel, by decide +kernel⟩
theorem scCheckedOne : FnScope ["script", "opened", "reads", "step"] ["script"] (defScope sCheckedOne) := ⟨rfl, rfl, rfl, by decide +kernel, rfl, by decide +kernel, by decide +kernel⟩
theorem scChecked : FnScope ["scripts", "script"] ["scripts"] (defScope sChecked) := ⟨rfl, rfl, rfl, by decide +kernel, rfl, by decide +kernel, by decide +kernel⟩
def isInt : V → Bool
  | .int _ => true
  | _ => false
/-- a value whose kind is known, no own instance -/
inductive Kind (H : Hp) : V → String → Prop
  | non : Kind H .non "NoneType"
  | bl (b : Bool) : Kind H (.bl b) "bool"
  | int (i : Int) : Kind H (.int i) "int"
  | str (s : Str) : Kind H (.str s) "str"
  | lst {a : Addr} {xs : List V} (e : H a = some (.lst xs)) : Kind H (.ref a) "list"
  | tup {a : Addr} {xs : List V} (e : H a = some (.tup xs)) : Kind H (.ref a) "tuple"
  | dct {a : Addr} {kvs : List (Key × V)} (e : H a = some (.dK kvs)) : Kind H (.ref a) "dict"
theorem Kind.ty {K : PySem.W.Frag} {H : Hp} {x : V} {t : String} (l : Kind H x t) : TyX K H x (.type t) := by
  cases l with
  | non => exact .base .non
  | bl b => exact .base (.bl b)
  | int i => exact .base (.int i)
  | str s => exact .base (.str s)
  | lst e => exact .base (.lst e)
  | tup e => exact .base (.tup e)
  | dct e => exact .base (.dK e)
def spPlain : Sp := fun vs H Q _ => ∃ (x : V) (t : String), vs = [x] ∧ Kind H x t ∧ ∀ H', Al H H' → Q (.bl (isInt x)) H'
section
variable {P : Program} {w : World} {K : PySem.W.Frag} {mg : Str → Option Value} {base : Heap} {t0 t1 t2 t3 t4 : Nat}
theorem ok_plain {f : Addr} {fd : FuncData} (F : Fun K "is_plain_int" "is_plain_int" sPlain f fd) (mi : mg "isinstance" = none) (m_int : mg "int" = none) (m_bool : mg "bool" = none) : FnOk P w K mg base CX0 1 f fd ["value"] spPlain := by
  refine F.ok scPlain (fun vs H Q E h => ?_) (fun cdv A outer s H vs Q E hr h => ?_)
  · obtain ⟨x, t, rfl, _⟩ := h
    rfl
  · obtain ⟨x, t, rfl, kd, q⟩ := h
    refine ⟨_, pss_one (ps_ret (pe_and (pe_callB call_isi (by rfl) mi boot_isinstance (pa_cons (pv 0) (pa_cons (pe_bltn (v := .ty "int") (by rfl) m_int (by decide +kernel) rfl) pa_nil))) (pe_one (pe_not (pe_callB call_isi (by rfl) mi boot_isinstance (pa_cons (pv 0) (pa_cons (pe_bltn (v := .ty "bool") (by rfl) m_bool (by decide +kernel) rfl) pa_nil))))))), ?_⟩
    have z := q H Al.refl
    have ty := kd.ty (K := K)
    cases kd with
    | int i => exact ⟨_, rfl, _, _, _, .type "int", true, rfl, .ty _, ty, kit_ty (by decide +kernel), true, rfl, iteT ⟨_, rfl, _, _, _, .type "bool", false, rfl, .ty _, ty, kit_ty (by decide +kernel), false, rfl, z⟩⟩
    | bl b => exact ⟨_, rfl, _, _, _, .type "int", true, rfl, .ty _, ty, kit_ty (by decide +kernel), true, rfl, iteT ⟨_, rfl, _, _, _, .type "bool", true, rfl, .ty _, ty, kit_ty (by decide +kernel), true, rfl, z⟩⟩
    | non => exact ⟨_, rfl, _, _, _, .type "int", false, rfl, .ty _, ty, kit_ty (by decide +kernel), false, rfl, iteF z⟩
    | str s => exact ⟨_, rfl, _, _, _, .type "int", false, rfl, .ty _, ty, kit_ty (by decide +kernel), false, rfl, iteF z⟩
    | lst e => exact ⟨_, rfl, _, _, _, .type "int", false, rfl, .ty _, ty, kit_ty (by decide +kernel), false, rfl, iteF z⟩
    | tup e => exact ⟨_, rfl, _, _, _, .type "int", false, rfl, .ty _, ty, kit_ty (by decide +kernel), false, rfl, iteF z⟩
    | dct e => exact ⟨_, rfl, _, _, _, .type "int", false, rfl, .ty _, ty, kit_ty (by decide +kernel), false, rfl, iteF z⟩
end
end Lk

namespace Err
open PySem PySem.W PySem.Calls PyProof.Rows PySem.Spec L2
/-- raise C(): nothing handed in -/
theorem pmk_err0 {X : Cx} {C : Addr} {nm : Str} {p pos : Pos} {k : Nat} (T : EC X.prog X.w X.K X.mg nm C) (hr : Room k X.A) (hg : Gl X nm) (hdb : (nm == ("__debug__" : Str)) = false := by decide) : PMk X (.Call (.Name nm p) [] [] pos) (tMkR C tNil) := by
  intro pins s1 σ H1 Q I1 h
  obtain ⟨v, hv, q⟩ := h
  obtain rfl : v = .non := by
    rcases hv with h | ⟨_, h⟩
    · cases h
    · exact h
  refine wpAny_Call_Name_kw (ld_glob I1 hg T.g ?_ hdb)
  refine callWith_K0 I1.kIn T.kC ?_
  refine wpAny_call (made T (us := []) (v := .none) (stands I1 T.su) (.inr ⟨rfl, rfl⟩) (room4 hr) fun h' tk e dx t1 M => ?_)
  have ru : RelV .non Value.none := rfl
  obtain ⟨G, g1, g2⟩ := restrict h' fun b => decide (b ≠ e)
  have gk : ∀ b, b ≠ e → G.get? b = h'.get? b := fun b hb => g1 b (decide_eq_true hb)
  have ge : G.get? e = none := g2 e (by simp)
  have old : ∀ b o, s1.heap.get? b = some o → G.get? b = some o := fun b o q => (gk b (Nat.ne_of_lt (Nat.lt_of_lt_of_le (Heap.lt_size q) M.new))).trans (M.old b o q)
  have nsG : G.Ns1 dx (fun y => if y = fld then some Value.none else none) := M.cell.at fun o q => (gk dx M.off).trans q
  have new : ObjOk X.prog X.w (upd H1 dx (.xd [(fld, .non)])) G dx (.xd [(fld, .non)]) := ⟨_, nsG, relO_put (fs := []) ru fun g => True.intro⟩
  have J := I1.laid (t' := tk) (a := dx) (o := .xd [(fld, .non)]) (h' := G) old M.big new
  refine ⟨e, _, _, { s1 with heap := G, toks := tk }, _, .ref C, some dx, rfl, J, fun b o q => ?_, ge, M.here, ⟨rfl, rfl⟩, rfl, rfl, ?_, rfl, I1.bare, raises_own T.ex T.ty, q dx (I1.hok.fresh M.big)⟩
  · by_cases hb : b = e
    · have q' : G.get? b = some o := q
      rw [hb, ge] at q'
      cases q'
    · exact (gk b hb).symm.trans q
  · rw [upd_ne (Ne.symm M.off)]
    exact I1.hok.fresh M.new
end Err
namespace Lk
open PySem PySem.Spec PyProof.Rows L2 Drw Err
theorem Sq.ty {K : PySem.W.Frag} {H : Hp} {a : Addr} {xs : List V} (h : Sq K H a xs) : ∃ t : String, (t = "list" ∨ t = "tuple") ∧ TyX K H (.ref a) (.type t) := by
  rcases h with ((h | ⟨o, h⟩) | ⟨o, its, n, h, c, _⟩) | ((h | ⟨o, h⟩) | ⟨o, its, n, h, c, _⟩)
  · exact ⟨_, .inl rfl, .base (.lst h)⟩
  · exact ⟨_, .inl rfl, .base (.frz h)⟩
  · exact ⟨_, .inl rfl, .kList h c⟩
  · exact ⟨_, .inr rfl, .base (.tup h)⟩
  · exact ⟨_, .inr rfl, .fTuple h⟩
  · exact ⟨_, .inr rfl, .kTuple h c⟩
theorem no1 {K : PySem.W.Frag} {t c : Value} {cs : List Value} {r : Bool} (h : PySem.W.kitOne K t c = some false) (hr : PySem.W.kitAny K t cs = some r) : PySem.W.kitAny K t (c :: cs) = some r :=
  kitAny_cons h (fun _ => hr) (fun z => Bool.noConfusion z)
theorem yes1 {K : PySem.W.Frag} {t c : Value} {cs : List Value} (h : PySem.W.kitOne K t c = some true) : PySem.W.kitAny K t (c :: cs) = some true :=
  kitAny_cons h (fun z => Bool.noConfusion z) (fun _ => rfl)
theorem lt2 {K : PySem.W.Frag} {t : String} (h : t = "list" ∨ t = "tuple") : PySem.W.kitAny K (.type t) [.type "list", .type "tuple"] = some true := by
  rcases h with rfl | rfl
  · exact yes1 (kit_ty (by decide +kernel))
  · exact no1 (kit_ty (by decide +kernel)) (yes1 (kit_ty (by decide +kernel)))
def spOneOk (K : PySem.W.Frag) : Sp := fun vs H Q _ => ∃ (a : Addr) (ws : List Str), vs = [.ref a] ∧ Sq K H a (wordsV ws) ∧ ws.length ≤ 8 ∧ okS ws false false = true ∧ ∀ H' b, Al H H' → SqT K H' b (wordsV ws) → Q (.ref b) H'
section
variable {P : Program} {w : World} {K : PySem.W.Frag} {mg : Str → Option Value} {base : Heap} {t0 t1 t2 t3 t4 : Nat} {CP : Addr}
theorem ok_checkedOne {f fM fO fR : Addr} {fd dM dO dR : FuncData} (F : Fun K "_checked_script" "_checked_script" sCheckedOne f fd) (T : EC P w K mg "ProgrammingError" CP) (M : Can P w K mg base CX0 1 "_may_stand" ["step", "opened", "reads"] spMay fM dM)
    (O : Can P w K mg base CX0 1 "is_open_behind" ["step", "opened"] (spWB opnB) fO dO) (R : Can P w K mg base CX0 1 "is_reading_behind" ["step", "reads"] (spWB rdsB) fR dR) (c8 : mg "MOST_STEPS" = some (.int 8 t0))
    (mi : mg "isinstance" = none) (ml : mg "len" = none) (m_list : mg "list" = none) (m_tuple : mg "tuple" = none) : FnOk P w K mg base CX0 2 f fd ["script"] (spOneOk K) := by
  refine F.ok scCheckedOne (fun vs H Q E h => ?_) (fun cdv A outer s H vs Q E hr h => ?_)
  · obtain ⟨a, ws, rfl, _⟩ := h
    rfl
  · obtain ⟨a, ws, rfl, hq, h8, ok, q⟩ := h
    refine ⟨_, pss_cons (ps_if (PW.pt (pw_or (pt_not (pt_val (pe_callB call_isiT (by rfl) mi boot_isinstance (pa_cons (pv 0) (pa_cons (pe_tup (pa_cons (pe_bltn (v := .ty "list") (by rfl) m_list (by decide +kernel) rfl) (pa_cons (pe_bltn (v := .ty "tuple") (by rfl) m_tuple (by decide +kernel) rfl) pa_nil))) pa_nil)))))
          (pw_or1 (pt_cmpR op_gt (pe_callB call_len_seq (by rfl) ml PySem.boot_len (pa_cons (pv 0) pa_nil)) (pe_glob (v := .int 8) (by rfl) c8 ⟨t0, rfl⟩) (nomark _))))) (pss_one (ps_raise rfl L2.takes0 (pmk_err0 T hr (by rfl)))) pss_nil)
      (pss_cons (ps_set (i := 1) scCheckedOne.nd rfl (.inl rfl) pe_bl)
      (pss_cons (ps_set (i := 2) scCheckedOne.nd rfl (.inl rfl) pe_bl)
      (pss_cons (ps_for PassesOwn.never rfl (pi_two (pi_list (pv 0)) (pi_tup (pv 0))) (pg_name (i := 3) scCheckedOne.nd rfl (Or.inl rfl))
        (pss_cons (ps_if (pt_not (pt_val (pe_call M.G hr (by rfl) M.g M.kp M.b .nil pass0 (pa_cons (pv 3) (pa_cons (pv 1) (pa_cons (pv 2) pa_nil)))))) (pss_one (ps_raise rfl L2.takes0 (pmk_err0 T hr (by rfl)))) pss_nil)
        (pss_cons (ps_set (i := 1) scCheckedOne.nd rfl (.inl rfl) (pe_call O.G hr (by rfl) O.g O.kp O.b .nil pass0 (pa_cons (pv 3) (pa_cons (pv 1) pa_nil))))
        (pss_one (ps_set (i := 2) scCheckedOne.nd rfl (.inl rfl) (pe_call R.G hr (by rfl) R.g R.kp R.b .nil pass0 (pa_cons (pv 3) (pa_cons (pv 2) pa_nil))))))))
      (pss_one (ps_ret (pe_callTy call_tuple_of (by rfl) m_tuple (by decide +kernel) (pa_cons (pv 0) pa_nil))))))), ?_⟩
    have wl : (wordsV ws).length = ws.length := List.length_map _
    refine ⟨.ref a, rfl, by show 2 ≤ sizeLine; decide, fun tp ntp => ?_⟩
    have k1 := (Al.refl (H := H)).new (o := .tup [.ty "list", .ty "tuple"]) ntp
    have q1 := hq.al k1
    obtain ⟨t, ht, ty⟩ := q1.ty
    refine ⟨.ref a, tp, _, .type t, _, true, rfl, upd_same, .cons (.ty _) (.cons (.ty _) .nil), ty, lt2 ht, true, rfl, iteF ?_⟩
    refine ⟨.ref a, rfl, a, _, rfl, q1, _, _, rfl, rfl, _, rfl, ?_⟩
    rw [decide_eq_false (by rw [wl]; omega)]
    refine iteF ?_
    generalize eK : upd H tp (.tup [.ty "list", .ty "tuple"]) = H1 at k1 q1
    have start : ∃ (o r : Bool) (y : Option V), [some (.ref a), some (.bl false), some (.bl false), none] = [some (.ref a), some (.bl o), some (.bl r), y] ∧ okS (ws.drop 0) o r = true ∧ Al H1 H1 := ⟨false, false, none, rfl, ok, Al.refl⟩
    refine q1.elim (fun hL => .inl ⟨.ref a, rfl, a, rfl, ⟨_, hL⟩, for_list (xs := wordsV ws) (fun i σ H2 => ∃ (o r : Bool) (y : Option V), σ = [some (.ref a), some (.bl o), some (.bl r), y] ∧ okS (ws.drop i) o r = true ∧ Al H1 H2) start (fun i σ H2 _ ⟨_, _, _, _, _, k⟩ => sqL_al hL k) ?turn ?after⟩)
      (fun hT => .inr ⟨.ref a, rfl, a, rfl, ⟨_, hT⟩, for_tup (xs := wordsV ws) (fun i σ H2 => ∃ (o r : Bool) (y : Option V), σ = [some (.ref a), some (.bl o), some (.bl r), y] ∧ okS (ws.drop i) o r = true ∧ Al H1 H2) start (fun i σ H2 _ ⟨_, _, _, _, _, k⟩ => sqT_al hT k) ?turn2 ?after2⟩)
    case turn | turn2 =>
      rintro i x σ H2 hx ⟨o, r, y, rfl, okd, k2⟩
      have hi : i < ws.length := by
        have z := (List.getElem?_eq_some_iff.mp hx).1
        rwa [wl] at z
      obtain rfl : x = .str ws[i] := by
        unfold wordsV at hx
        rw [List.getElem?_map, List.getElem?_eq_getElem hi] at hx
        exact (Option.some.inj hx).symm
      rw [List.drop_eq_getElem_cons hi] at okd
      obtain ⟨ok1, ok2⟩ := Bool.and_eq_true_iff.mp okd
      refine ⟨_, rfl, .bl o, rfl, .bl r, rfl, ws[i], o, r, rfl, fun H3 k3 => ⟨mayB ws[i] o r, rfl, ?_⟩⟩
      rw [ok1]
      refine iteF ⟨_, rfl, .bl o, rfl, ws[i], o, rfl, fun H4 k4 => ⟨_, rfl, .bl r, rfl, ws[i], r, rfl, fun H5 k5 => ?_⟩⟩
      exact ⟨_, _, _, rfl, ok2, ((k2.trans k3).trans k4).trans k5⟩
    case after | after2 =>
      rintro σ H2 ⟨o, r, y, rfl, _, k2⟩
      refine ⟨.ref a, rfl, a, wordsV ws, rfl, ?_⟩
      first
        | exact .inl ⟨sqL_al hL k2, fun l nl => q _ l ((k1.trans k2).new nl) (sqt upd_same)⟩
        | exact .inr ⟨sqT_al hT k2, q _ a (k1.trans k2) (sqT_al hT k2)⟩
end
end Lk

namespace Lk
open PySem PySem.Spec PyProof.Rows L2 Drw Err
def okAll (ss : List (List Str)) : Prop := 1 ≤ ss.length ∧ ss.length ≤ 4 ∧ ∀ ws ∈ ss, ws.length ≤ 8 ∧ okS ws false false = true
def spChecked (K : PySem.W.Frag) : Sp := fun vs H Q _ => ∃ (a : Addr) (ss : List (List Str)), vs = [.ref a] ∧ Deep K H a (ss.map wordsV) ∧ okAll ss ∧ ∀ H' D, Al H H' → H D = none → Chk K H' D (ss.map wordsV) → Q (.ref D) H'
theorem scFirst : FnScope ["scripts", "_"] ["scripts"] (defScope sFirst) := ⟨rfl, rfl, rfl, by decide +kernel, rfl, by decide +kernel, by decide +kernel⟩
theorem scFirstState : FnScope ["scripts"] ["scripts"] (defScope sFirstState) := ⟨rfl, rfl, rfl, by decide +kernel, rfl, by decide +kernel, by decide +kernel⟩
def spFirst (K : PySem.W.Frag) : Sp := fun vs H Q _ => ∃ (p : Addr) (ks : List (List V)), vs = [.ref p] ∧ Chk K H p ks ∧ ks.length ≤ 1000 ∧ ∀ H' t, Al H H' → H t = none → Kids H' t (List.replicate ks.length row0) → Q (.ref t) H'
def spFirstState (K : PySem.W.Frag) : Sp := fun vs H Q _ => ∃ (a : Addr) (ss : List (List Str)), vs = [.ref a] ∧ Deep K H a (ss.map wordsV) ∧ okAll ss ∧ ∀ H' t, Al H H' → H t = none → Kids H' t (List.replicate ss.length row0) → Q (.ref t) H'
section
variable {P : Program} {w : World} {K : PySem.W.Frag} {mg : Str → Option Value} {base : Heap} {t0 t1 t2 t3 t4 : Nat} {CP : Addr}
theorem ok_checked {f fC : Addr} {fd dC : FuncData} (F : Fun K "checked_scripts" "checked_scripts" sChecked f fd) (T : EC P w K mg "ProgrammingError" CP) (C : Can P w K mg base CX0 2 "_checked_script" ["script"] (spOneOk K) fC dC) (c4 : mg "MOST_SCRIPTS" = some (.int 4 t0))
    (mi : mg "isinstance" = none) (ml : mg "len" = none) (m_list : mg "list" = none) (m_tuple : mg "tuple" = none) : FnOk P w K mg base CX0 3 f fd ["scripts"] (spChecked K) := by
  refine F.ok scChecked (fun vs H Q E h => ?_) (fun cdv A outer s H vs Q E hr h => ?_)
  · obtain ⟨a, ws, rfl, _⟩ := h
    rfl
  · obtain ⟨a, ss, rfl, hq, ⟨n1, n4, hok⟩, q⟩ := h
    refine ⟨_, pss_cons (ps_if (PW.pt (pw_or (pt_not (pt_val (pe_callB call_isiT (by rfl) mi boot_isinstance (pa_cons (pv 0) (pa_cons (pe_tup (pa_cons (pe_bltn (v := .ty "list") (by rfl) m_list (by decide +kernel) rfl) (pa_cons (pe_bltn (v := .ty "tuple") (by rfl) m_tuple (by decide +kernel) rfl) pa_nil))) pa_nil)))))
          (pw_or1 (pt_not (pt_chain op_le op_le pe_int (pe_callB call_len_seq (by rfl) ml PySem.boot_len (pa_cons (pv 0) pa_nil)) (pe_glob (v := .int 4) (by rfl) c4 ⟨t0, rfl⟩)))))) (pss_one (ps_raise rfl L2.takes0 (pmk_err0 T hr (by rfl)))) pss_nil)
      (pss_one (ps_ret (pe_lc (own := [("script", 1)]) (g := gName 1) (tt := tYes) rfl scChecked.nd (pi_two (pi_list (pv 0)) (pi_tup (pv 0)))
        (blkOk_by (N := ["scripts", "script"]) (sc := defScope sChecked) (by decide +kernel)) (fun _ _ _ _ _ => pg_name (i := 1) scChecked.nd rfl (Or.inl rfl)) (fun _ _ _ _ _ => pts_nil)
        (fun _ _ _ _ _ => pe_call C.G hr (by rfl) C.g C.kp C.b .nil pass0 (pa_cons (pv 1) pa_nil))))), ?_⟩
    obtain ⟨xs, hx, hlen, hk⟩ := hq
    rw [List.length_map] at hlen
    refine ⟨.ref a, rfl, by show 2 ≤ sizeLine; decide, fun tp ntp => ?_⟩
    have k1 := (Al.refl (H := H)).new (o := .tup [.ty "list", .ty "tuple"]) ntp
    have q1 := hx.al k1
    obtain ⟨t, ht, ty⟩ := q1.ty
    refine ⟨.ref a, tp, _, .type t, _, true, rfl, upd_same, .cons (.ty _) (.cons (.ty _) .nil), ty, lt2 ht, true, rfl, iteF ?_⟩
    refine ⟨.ref a, rfl, a, _, rfl, q1, _, _, rfl, rfl, _, rfl, ?_⟩
    rw [decide_eq_true (by omega)]
    refine iteT ⟨_, _, rfl, rfl, _, rfl, ?_⟩
    rw [decide_eq_true (by omega)]
    refine iteF ?_
    generalize eK : upd H tp (.tup [.ty "list", .ty "tuple"]) = H1 at k1 q1
    have hk1 : ∀ (i : Nat) (ws : List Str), ss[i]? = some ws → ∃ b, xs[i]? = some (.ref b) ∧ Sq K H1 b (wordsV ws) := fun i ws e => by
      obtain ⟨b, e1, e2⟩ := hk i (wordsV ws) (by rw [List.getElem?_map, e]; rfl)
      exact ⟨b, e1, e2.al k1⟩
    have fin : ∀ D H3, H1 D = none → Al H1 H3 → (∃ ys, H3 D = some (.lst ys) ∧ ys.length = xs.length ∧ ∀ j ws, j < xs.length → ss[j]? = some ws → ∃ b, ys[j]? = some (.ref b) ∧ SqT K H3 b (wordsV ws)) → Q (.ref D) H3 := fun D H3 nD k3 ⟨ys, y1, y2, y3⟩ => by
      refine q H3 D (k1.trans k3) (k1.gone nD) ⟨ys, y1, by rw [List.length_map]; omega, fun i c e => ?_⟩
      rw [List.getElem?_map] at e
      cases e1 : ss[i]? with
      | none =>
        rw [e1] at e
        cases e
      | some ws =>
        rw [e1] at e
        obtain rfl : wordsV ws = c := Option.some.inj e
        exact y3 i ws (by have z := (List.getElem?_eq_some_iff.mp e1).1; omega) e1
    have start : ∀ D, H1 D = none → Al H1 (upd H1 D (.lst [])) ∧ ∃ ys : List V, upd H1 D (.lst []) D = some (.lst ys) ∧ ys.length = 0 ∧ ∀ (j : Nat) (ws : List Str), j < 0 → ss[j]? = some ws → ∃ b, ys[j]? = some (.ref b) ∧ SqT K (upd H1 D (.lst [])) b (wordsV ws) :=
      fun D nD => ⟨Al.refl.new nD, [], upd_same, rfl, fun j ws h => by omega⟩
    refine q1.elim (fun hL => .inl ⟨.ref a, rfl, a, rfl, ⟨_, hL⟩, fun D nD => lc_list (xs := xs) (fun i H2 => Al H1 H2 ∧ ∃ ys : List V, H2 D = some (.lst ys) ∧ ys.length = i ∧ ∀ (j : Nat) (ws : List Str), j < i → ss[j]? = some ws → ∃ b, ys[j]? = some (.ref b) ∧ SqT K H2 b (wordsV ws)) (start D nD) (fun i H2 _ ⟨k, _⟩ => sqL_al hL k) ?turn ?after⟩)
      (fun hT => .inr ⟨.ref a, rfl, a, rfl, ⟨_, hT⟩, fun D nD => lc_tup (xs := xs) (fun i H2 => Al H1 H2 ∧ ∃ ys : List V, H2 D = some (.lst ys) ∧ ys.length = i ∧ ∀ (j : Nat) (ws : List Str), j < i → ss[j]? = some ws → ∃ b, ys[j]? = some (.ref b) ∧ SqT K H2 b (wordsV ws)) (start D nD) (fun i H2 _ ⟨k, _⟩ => sqT_al hT k) ?turn2 ?after2⟩)
    case turn | turn2 =>
      rintro i x H2 hx ⟨k2, ys, y1, y2, y3⟩
      have hi : i < ss.length := by
        have z := (List.getElem?_eq_some_iff.mp hx).1
        omega
      obtain ⟨b, e1, e2⟩ := hk1 i ss[i] (List.getElem?_eq_getElem hi)
      obtain rfl : x = .ref b := Option.some.inj (hx.symm.trans e1)
      obtain ⟨o8, okk⟩ := hok ss[i] (List.getElem_mem hi)
      refine ⟨rfl, .ref b, rfl, b, ss[i], rfl, e2.al k2, o8, okk, fun H3 c k3 hc => ?_⟩
      have yD := k3 _ _ y1
      refine ⟨ys, yD, by rw [y2]; exact small1000 (by omega), fun b' o z => ?_, ys ++ [.ref c], upd_same, by simp [y2], fun j ws hj hw => ?_⟩
      · have z1 := k3 _ _ (k2 _ _ z)
        rwa [upd_ne (ne_of_none z nD)]
      · have up : ∀ {c' : Addr} {u : List V}, SqT K H3 c' u → SqT K (upd H3 D (.lst (ys ++ [.ref c]))) c' u := fun {c' u} h => by
          rcases h with (h | ⟨o, h⟩) | h
          · exact .inl (.inl ((upd_ne (fun z => by rw [z, yD] at h; cases h)).trans h))
          · exact .inl (.inr ⟨o, (upd_ne (fun z => by rw [z, yD] at h; cases h)).trans h⟩)
          · exact .inr h
        rcases Nat.lt_or_ge j i with h | h
        · obtain ⟨c', z1, z2⟩ := y3 j ws h hw
          exact ⟨c', by rw [List.getElem?_append_left (by omega)]; exact z1, up (sqT_al z2 k3)⟩
        · obtain rfl : j = i := by omega
          rw [List.getElem?_eq_getElem hi] at hw
          obtain rfl := Option.some.inj hw
          exact ⟨c, by rw [List.getElem?_append_right (by omega), y2, Nat.sub_self]; rfl, up hc⟩
    case after | after2 =>
      rintro H2 ⟨k2, ys, y1, y2, y3⟩
      exact fin D H2 nD k2 ⟨ys, y1, y2, y3⟩
end
end Lk

namespace Lk
open PySem PySem.Spec PyProof.Rows L2 Drw Err
section
variable {P : Program} {w : World} {K : PySem.W.Frag} {mg : Str → Option Value} {base : Heap} {t0 t1 t2 t3 t4 : Nat} {CP : Addr}
theorem ok_first {f : Addr} {fd : FuncData} (F : Fun K "_first" "_first" sFirst f fd) (c0 : mg "NO_LOCK" = some (.int 0 t0)) (mt : mg "tuple" = none) : FnOk P w K mg base CX0 1 f fd ["scripts"] (spFirst K) := by
  refine F.ok scFirst (fun vs H Q E h => ?_) (fun cdv A outer s H vs Q E hr h => ?_)
  · obtain ⟨p, ks, rfl, _⟩ := h
    rfl
  · obtain ⟨p, ks, rfl, ⟨xs, hp, hlen, hks⟩, h1000, q⟩ := h
    refine ⟨_, pss_one (ps_ret (pe_callTy call_tuple_of (by rfl) mt (by decide +kernel) (pa_cons (pe_lc (own := [("_", 1)]) (g := gName 1) (tt := tYes) rfl scFirst.nd (pi_list (pv 0))
      (blkOk_by (N := ["scripts", "_"]) (sc := defScope sFirst) (by decide +kernel)) (fun _ _ _ _ _ => pg_name (i := 1) scFirst.nd rfl (Or.inl rfl)) (fun _ _ _ _ _ => pts_nil)
      (fun _ _ _ _ _ => pe_tup (pa_cons pe_int (pa_cons pe_bl (pa_cons pe_bl (pa_cons (pe_glob (v := .int 0) (by rfl) c0 ⟨t0, rfl⟩) pa_nil)))))) pa_nil))), ?_⟩
    refine ⟨.ref p, rfl, p, rfl, ⟨xs, sq hp⟩, fun D nD => ?_⟩
    have pD : p ≠ D := ne_of_none hp nD
    refine lc_list (K := K) (a := p) (xs := xs) (fun i H' => (∀ b o, b ≠ D → H b = some o → H' b = some o) ∧ ∃ ys : List V, H' D = some (.lst ys) ∧ ys.length = i ∧ ∀ j, j < i → ∃ a, ys[j]? = some (.ref a) ∧ H' a = some (.tup row0))
      ⟨fun b o n e => (upd_ne n).trans e, [], upd_same, rfl, fun j h => by omega⟩ (fun i H' hi hP => ?_) (fun i x H' hx hP => ?_) (fun H' hP => ?_)
    · obtain ⟨k, _⟩ := hP
      exact sq (k p _ pD hp)
    · obtain ⟨k, ys, hy, hl, hr⟩ := hP
      refine ⟨rfl, by show 4 ≤ sizeLine; decide, fun t nt => ?_⟩
      have Dt : D ≠ t := ne_of_none hy nt
      refine ⟨ys, (upd_ne Dt).trans hy, by rw [hl]; exact small1000 (by have := (List.getElem?_eq_some_iff.mp hx).1; omega), fun b o n e => ?_, ys ++ [.ref t], upd_same, by simp [hl], fun j hj => ?_⟩
      · have z := k b o n e
        rw [upd_ne n, upd_ne (ne_of_none z nt)]
        exact z
      · rcases Nat.lt_or_ge j i with h | h
        · obtain ⟨a, e1, e2⟩ := hr j h
          have aD : a ≠ D := fun z => by
            rw [z, hy] at e2
            cases e2
          refine ⟨a, by rw [List.getElem?_append_left (by omega)]; exact e1, ?_⟩
          rw [upd_ne aD, upd_ne (ne_of_none e2 nt)]
          exact e2
        · have : j = i := by omega
          subst this
          refine ⟨t, by rw [List.getElem?_append_right (by omega), hl, Nat.sub_self]; rfl, ?_⟩
          rw [upd_ne Dt.symm, upd_same]
          rfl
    · obtain ⟨k, ys, hy, hl, hr⟩ := hP
      refine ⟨D, ys, rfl, .inl ⟨sq hy, fun t nt => ?_⟩⟩
      have kA : Al H H' := fun b o e => k b o (ne_of_none e nD) e
      refine q _ t (kA.new nt) (kA.gone nt) ⟨ys, upd_same, by rw [hl, List.length_replicate, hlen], fun i c e => ?_⟩
      obtain ⟨h1, h2⟩ := List.getElem?_eq_some_iff.mp e
      rw [List.getElem_replicate] at h2
      rw [List.length_replicate] at h1
      obtain ⟨a, e1, e2⟩ := hr i (by omega)
      refine ⟨a, e1, ?_⟩
      rw [upd_ne (ne_of_none e2 nt), e2, h2]
theorem ok_firstState {f fC fF : Addr} {fd dC dF : FuncData} (F : Fun K "first_state" "first_state" sFirstState f fd) (C : Can P w K mg base CX0 3 "checked_scripts" ["scripts"] (spChecked K) fC dC) (G : Can P w K mg base CX0 1 "_first" ["scripts"] (spFirst K) fF dF) : FnOk P w K mg base CX0 4 f fd ["scripts"] (spFirstState K) := by
  refine F.ok scFirstState (fun vs H Q E h => ?_) (fun cdv A outer s H vs Q E hr h => ?_)
  · obtain ⟨p, ss, rfl, _⟩ := h
    rfl
  · obtain ⟨p, ss, rfl, hd, ok, q⟩ := h
    refine ⟨_, pss_one (ps_ret (pe_call G.G (hr.mono (by decide)) (by rfl) G.g G.kp G.b .nil pass0 (pa_cons (pe_call C.G hr (by rfl) C.g C.kp C.b .nil pass0 (pa_cons (pv 0) pa_nil)) pa_nil))), ?_⟩
    refine ⟨.ref p, rfl, p, ss, rfl, hd, ok, fun H1 D k1 nD c => ⟨D, _, rfl, c, ?_, fun H2 t k2 nt kd => ?_⟩⟩
    · rw [List.length_map]
      have z := ok.2.1
      omega
    · rw [List.length_map] at kd
      exact q H2 t (k1.trans k2) (k1.gone nt) kd
end
theorem scCan : FnScope ["scripts", "state", "at"] ["scripts", "state", "at"] (defScope sCan) := ⟨rfl, rfl, rfl, by decide +kernel, rfl, by decide +kernel, by decide +kernel⟩
theorem OddAt.kind {H : Hp} {many : Int} {x : V} (h : OddAt H many x) : ∃ t, Kind H x t := by
  cases h with
  | int i h => exact ⟨_, .int i⟩
  | non => exact ⟨_, .non⟩
  | bl b => exact ⟨_, .bl b⟩
  | str s => exact ⟨_, .str s⟩
  | tup h => exact ⟨_, .tup h⟩
  | lst h => exact ⟨_, .lst h⟩
  | dct h => exact ⟨_, .dct h⟩
  | emp h => exact ⟨_, .tup h⟩
/-- at is the number of a script that can try, of one that has ended, or of none -/
def spCan (K : PySem.W.Frag) : Sp := fun vs H Q _ => ∃ (c p : Addr) (ss : List (List Str)) (rows : List Row) (x : V), vs = [.ref c, .ref p, x] ∧ Chk K H c (ss.map wordsV) ∧ Deep K H p (rows.map rowV) ∧ ss.length ≤ 1000 ∧ rows.length = ss.length ∧
  ((∃ a : Nat, a < ss.length ∧ x = .int a ∧ ∀ H', Al H H' → Q (.bl (leftB ss rows a)) H') ∨ (OddAt H ss.length x ∧ ∀ H', Al H H' → Q (.bl false) H'))
section
variable {P : Program} {w : World} {K : PySem.W.Frag} {mg : Str → Option Value} {base : Heap} {t0 t1 t2 t3 t4 : Nat} {CP : Addr}
theorem ok_can {f fP : Addr} {fd dP : FuncData} (F : Fun K "_can_try" "_can_try" sCan f fd) (N : Can P w K mg base CX0 1 "is_plain_int" ["value"] spPlain fP dP) (ml : mg "len" = none) : FnOk P w K mg base CX0 2 f fd ["scripts", "state", "at"] (spCan K) := by
  refine F.ok scCan (fun vs H Q E h => ?_) (fun cdv A outer s H vs Q E hr h => ?_)
  · obtain ⟨c, p, ss, rows, x, rfl, _⟩ := h
    rfl
  · obtain ⟨c, p, ss, rows, x, rfl, hC, hD, h1000, hn, h⟩ := h
    refine ⟨_, pss_one (ps_ret (pe_and (pe_call N.G hr (by rfl) N.g N.kp N.b .nil pass0 (pa_cons (pv 2) pa_nil)) (pe_and (pe_chain op_le op_lt pe_int (pv 2) (pe_callB call_len_seq (by rfl) ml PySem.boot_len (pa_cons (pv 0) pa_nil)))
      (pe_one (pe_cmpR op_lt (pe_two (pe_two (pe_ix ix_list (pe_ix ix_list (pv 1) (pv 2) (fun _ _ => rfl)) pe_int (fun _ _ => rfl)) (pe_ix ix_list (pe_ix ix_tup (pv 1) (pv 2) (fun _ _ => rfl)) pe_int (fun _ _ => rfl)))
          (pe_two (pe_ix ix_tup (pe_ix ix_list (pv 1) (pv 2) (fun _ _ => rfl)) pe_int (fun _ _ => rfl)) (pe_ix ix_tup (pe_ix ix_tup (pv 1) (pv 2) (fun _ _ => rfl)) pe_int (fun _ _ => rfl))))
        (pe_callB call_len_seq (by rfl) ml PySem.boot_len (pa_cons (pe_ix ix_list (pv 0) (pv 2) (fun _ _ => rfl)) pa_nil)) (nomark _)))))), ?_⟩
    have kd : ∃ t, Kind H x t := by
      rcases h with ⟨a, _, rfl, _⟩ | ⟨h, _⟩
      · exact ⟨_, .int _⟩
      · exact h.kind
    obtain ⟨t, kd⟩ := kd
    obtain ⟨xs, hx, hlen, hk⟩ := hC
    rw [List.length_map] at hlen
    refine ⟨x, rfl, x, t, rfl, kd, fun H1 k1 => ⟨isInt x, rfl, ?_⟩⟩
    have c1 := k1 _ _ hx
    obtain ⟨ys, hy, hyl, hyk⟩ := hD.al k1
    rcases h with ⟨a, ha, rfl, q⟩ | ⟨od, q⟩
    · refine iteT ⟨.int a, rfl, _, _, rfl, rfl, _, rfl, ?_⟩
      rw [decide_eq_true (by omega)]
      refine iteT ⟨.ref c, rfl, c, xs, rfl, .inl (sq c1), _, _, rfl, rfl, _, rfl, ?_⟩
      rw [decide_eq_true (by omega)]
      have hr' : a < rows.length := by omega
      obtain ⟨b, e1, e2⟩ := hyk a (rowV rows[a]) (by rw [List.getElem?_map, List.getElem?_eq_getElem hr']; rfl)
      obtain ⟨d, d1, d2⟩ := hk a (wordsV ss[a]) (by rw [List.getElem?_map, List.getElem?_eq_getElem ha]; rfl)
      have val : leftB ss rows a = decide (((rows[a].pl : Nat) : Int) < ((wordsV ss[a]).length : Int)) := by
        unfold leftB wordsV
        rw [List.getElem?_eq_getElem hr', List.getElem?_eq_getElem ha, List.length_map]
        show decide (rows[a].pl < ss[a].length) = _
        exact decide_eq_decide.mpr (by omega)
      have z := q H1 k1
      rw [val] at z
      have tail : ∃ v, (some (some (V.ref c)) : Option (Option V)) = some (some v) ∧ True := ⟨_, rfl, True.intro⟩
      refine iteT ?_
      rcases hy with hy | hy <;> rcases e2 with e2 | e2
      · exact .inl (.inl ⟨.ref p, rfl, .int a, rfl, p, ys, a, .ref b, rfl, rfl, hy, atI_nat e1, b, _, 0, .int rows[a].pl, rfl, rfl, e2, rfl, .ref c, rfl, .int a, rfl, c, xs, a, .ref d, rfl, rfl, sq c1, atI_nat d1, d, _, rfl, .inr (sqT_al d2 k1), _, _, rfl, rfl, z⟩)
      · exact .inr (.inl ⟨.ref p, rfl, .int a, rfl, p, ys, a, .ref b, rfl, rfl, hy, atI_nat e1, b, _, 0, .int rows[a].pl, rfl, rfl, e2, rfl, .ref c, rfl, .int a, rfl, c, xs, a, .ref d, rfl, rfl, sq c1, atI_nat d1, d, _, rfl, .inr (sqT_al d2 k1), _, _, rfl, rfl, z⟩)
      · exact .inl (.inr ⟨.ref p, rfl, .int a, rfl, p, ys, a, .ref b, rfl, rfl, hy, atI_nat e1, b, _, 0, .int rows[a].pl, rfl, rfl, e2, rfl, .ref c, rfl, .int a, rfl, c, xs, a, .ref d, rfl, rfl, sq c1, atI_nat d1, d, _, rfl, .inr (sqT_al d2 k1), _, _, rfl, rfl, z⟩)
      · exact .inr (.inr ⟨.ref p, rfl, .int a, rfl, p, ys, a, .ref b, rfl, rfl, hy, atI_nat e1, b, _, 0, .int rows[a].pl, rfl, rfl, e2, rfl, .ref c, rfl, .int a, rfl, c, xs, a, .ref d, rfl, rfl, sq c1, atI_nat d1, d, _, rfl, .inr (sqT_al d2 k1), _, _, rfl, rfl, z⟩)
    · have z := q H1 k1
      cases od with
      | int i hi =>
        refine iteT ⟨.int i, rfl, _, _, rfl, rfl, _, rfl, ?_⟩
        by_cases i0 : 0 ≤ i
        · rw [decide_eq_true i0]
          refine iteT ⟨.ref c, rfl, c, xs, rfl, .inl (sq c1), _, _, rfl, rfl, _, rfl, ?_⟩
          rw [decide_eq_false (by omega)]
          exact iteF z
        · rw [decide_eq_false i0]
          exact iteF ⟨_, rfl, iteF z⟩
      | non => exact iteF z
      | bl b => exact iteF z
      | str s => exact iteF z
      | tup h => exact iteF z
      | lst h => exact iteF z
      | dct h => exact iteF z
      | emp h => exact iteF z
end
end Lk

namespace Lk
open PySem PySem.Spec PyProof.Rows L2 Drw Err
/-- plainly a list or a tuple -/
def Sp' (H : Hp) (a : Addr) (xs : List V) : Prop := H a = some (.lst xs) ∨ H a = some (.tup xs)
def DeepP (H : Hp) (a : Addr) (ks : List (List V)) : Prop := ∃ xs, Sp' H a xs ∧ xs.length = ks.length ∧ ∀ (i : Nat) (k : List V), ks[i]? = some k → ∃ b, xs[i]? = some (.ref b) ∧ Sp' H b k
theorem DeepP.deep {K : PySem.W.Frag} {H : Hp} {a : Addr} {ks : List (List V)} (h : DeepP H a ks) : Deep K H a ks := by
  obtain ⟨xs, h1, h2, h3⟩ := h
  refine ⟨xs, h1.imp (fun z => sq z) fun z => sqt z, h2, fun i c e => ?_⟩
  obtain ⟨b, e1, e2⟩ := h3 i c e
  exact ⟨b, e1, e2.imp (fun z => sq z) fun z => sqt z⟩
theorem DeepP.al {H H' : Hp} {a : Addr} {ks : List (List V)} (h : DeepP H a ks) (k : Al H H') : DeepP H' a ks := by
  obtain ⟨xs, h1, h2, h3⟩ := h
  refine ⟨xs, h1.imp (fun z => k _ _ z) fun z => k _ _ z, h2, fun i c e => ?_⟩
  obtain ⟨b, e1, e2⟩ := h3 i c e
  exact ⟨b, e1, e2.imp (fun z => k _ _ z) fun z => k _ _ z⟩
theorem Kids.deepP {H : Hp} {a : Addr} {ks : List (List V)} (h : Kids H a ks) : DeepP H a ks := by
  obtain ⟨xs, h1, h2, h3⟩ := h
  refine ⟨xs, .inr h1, h2, fun i c e => ?_⟩
  obtain ⟨b, e1, e2⟩ := h3 i c e
  exact ⟨b, e1, .inr e2⟩
/-- the locks are right: none below 0, no two of 2 or more -/
def Good (rows : List Row) : Prop := (∀ (i : Nat) r, rows[i]? = some r → 0 ≤ r.lk) ∧ ∀ (i j : Nat) r s, rows[i]? = some r → rows[j]? = some s → i ≠ j → 2 ≤ r.lk → s.lk ≤ 1
theorem Good.top {rows : List Row} (g : Good rows) {a : Nat} {r : Row} {m : Int} (hr : rows[a]? = some r) (t : IsTop rows a m) : 0 ≤ r.lk ∧ (2 ≤ r.lk → m ≤ 1) := by
  refine ⟨g.1 a r hr, fun h => ?_⟩
  rcases t.1 with h0 | ⟨k, s, hs, n, e⟩
  · omega
  · have z := g.2 a k r s hr hs (Ne.symm n) h
    omega
theorem scTried : FnScope ["scripts", "state", "at", "place", "opened", "reads", "held", "step", "other", "refused", "changed", "told", "k"] ["scripts", "state", "at"] (defScope sTried) := ⟨rfl, rfl, rfl, by decide +kernel, rfl, by decide +kernel, by decide +kernel⟩
def spTried (K : PySem.W.Frag) : Sp := fun vs H Q _ => ∃ (c p : Addr) (ss : List (List Str)) (rows : List Row) (a : Nat) (r : Row) (ws : List Str) (w : Str), vs = [.ref c, .ref p, .int a] ∧ Chk K H c (ss.map wordsV) ∧ DeepP H p (rows.map rowV) ∧ rows.length ≤ 100 ∧ Good rows ∧ rows[a]? = some r ∧ ss[a]? = some ws ∧ ws[r.pl]? = some w ∧
  ∀ H' t u m, Al H H' → H t = none → IsTop rows a m → H' t = some (.tup [.ref u, .bl (nextRow w r m).2]) → Kids H' u ((rows.set a (nextRow w r m).1).map rowV) → Q (.ref t) H'
section
variable {P : Program} {w : World} {K : PySem.W.Frag} {mg : Str → Option Value} {base : Heap} {t0 t1 t2 t3 t4 : Nat} {CP : Addr}
theorem ok_tried {f fS fL fO fR fB : Addr} {fd dS dL dO dR dB : FuncData} (F : Fun K "_tried" "_tried" sTried f fd) (c0 : mg "NO_LOCK" = some (.int 0 t0)) (S : Can P w K mg base CX0 2 "is_refused" ["step", "opened", "held", "other"] spIsRef fS dS)
    (L : Can P w K mg base CX0 1 "lock_of_refused" ["step", "held"] spLockRef fL dL) (O : Can P w K mg base CX0 1 "is_open_behind" ["step", "opened"] (spWB opnB) fO dO) (R : Can P w K mg base CX0 1 "is_reading_behind" ["step", "reads"] (spWB rdsB) fR dR)
    (B : Can P w K mg base CX0 2 "lock_behind" ["step", "opened", "reads", "held"] spLockB fB dB) (mm : mg "max" = none) (me : mg "enumerate" = none) (mt : mg "tuple" = none) : FnOk P w K mg base CX0 3 f fd ["scripts", "state", "at"] (spTried K) := by
  refine F.ok scTried (fun vs H Q E h => ?_) (fun cdv A outer s H vs Q E hr h => ?_)
  · obtain ⟨c, p, ss, rows, a, r, ws, w, rfl, _⟩ := h
    rfl
  · obtain ⟨c, p, ss, rows, a, r, ws, w, rfl, hC, hD, h100, good, hra, hsa, hwa, q⟩ := h
    have hu := hu_of hr
    refine ⟨_, C8.pss_cut (ps_asg (pe_ix ix_seq (pv 1) (pv 2) (fun _ _ => rfl)) (pg_two (pg_tup rfl (pgs_cons (pg_name (i := 3) scTried.nd rfl (.inl rfl)) (pgs_cons (pg_name (i := 4) scTried.nd rfl (.inl rfl)) (pgs_cons (pg_name (i := 5) scTried.nd rfl (.inl rfl)) (pgs_cons (pg_name (i := 6) scTried.nd rfl (.inl rfl)) pgs_nil)))))
        (pg_lst rfl (pgs_cons (pg_name (i := 3) scTried.nd rfl (.inl rfl)) (pgs_cons (pg_name (i := 4) scTried.nd rfl (.inl rfl)) (pgs_cons (pg_name (i := 5) scTried.nd rfl (.inl rfl)) (pgs_cons (pg_name (i := 6) scTried.nd rfl (.inl rfl)) pgs_nil)))))))
      (pss_cons (ps_set (i := 7) scTried.nd rfl (.inl rfl) (pe_ix ix_tup (pe_ix ix_list (pv 0) (pv 2) (fun _ _ => rfl)) (pv 3) (fun _ _ => rfl)))
      (C8.pss_cut (ps_set (i := 8) scTried.nd rfl (.inl rfl) (pe_callBK (cr_maxD rfl hu) (by rfl) mm (by decide +kernel)
          (pa_cons (pe_lc (own := [("k", 12), ("told", 11)]) (g := gTup K 2 (gCons (gName 12) (gCons (gName 11) gNil))) (tt := tTest (tOp rNe (tVar 12) (tVar 2))) (te := tOp (rIx K) (tVar 11) (tC (.int 3))) rfl scTried.nd
            (pi_two (pi_enum (by rfl) me (pa_cons (pv 1) pa_nil)) (pi_enT (by rfl) me (pa_cons (pv 1) pa_nil)))
            (blkOk_by (N := ["scripts", "state", "at", "place", "opened", "reads", "held", "step", "other", "refused", "changed", "told", "k"]) (sc := defScope sTried) (by decide +kernel))
            (fun _ _ _ _ _ => pg_tup rfl (pgs_cons (pg_name (i := 12) scTried.nd rfl (Or.inl rfl)) (pgs_cons (pg_name (i := 11) scTried.nd rfl (Or.inl rfl)) pgs_nil)))
            (fun _ _ _ _ _ => pts_one (pt_cmpR op_ne (pv 12) (pv 2) (nomark _))) (fun _ _ _ _ _ => pe_ix ix_seq (pv 11) pe_int (fun _ _ => rfl))) pa_nil)
          (pk_cons (pe_glob (v := .int 0) (by rfl) c0 ⟨t0, rfl⟩) pk_nil)))
      (pss_cons (ps_set (i := 9) scTried.nd rfl (.inl rfl) (pe_call S.G hr (by rfl) S.g S.kp S.b .nil pass0 (pa_cons (pv 7) (pa_cons (pv 4) (pa_cons (pv 6) (pa_cons (pv 8) pa_nil))))))
      (C8.pss_cut (ps_if (pt_val (pv 9))
          (pss_one (ps_set (i := 6) scTried.nd rfl (.inl rfl) (pe_call L.G (hr.mono (by decide)) (by rfl) L.g L.kp L.b .nil pass0 (pa_cons (pv 7) (pa_cons (pv 6) pa_nil)))))
          (pss_cons (ps_aug (i := 3) scTried.nd rfl (.inl rfl) pe_int ip_add)
          (pss_cons (ps_set (i := 4) scTried.nd rfl (.inl rfl) (pe_call O.G (hr.mono (by decide)) (by rfl) O.g O.kp O.b .nil pass0 (pa_cons (pv 7) (pa_cons (pv 4) pa_nil))))
          (pss_cons (ps_set (i := 5) scTried.nd rfl (.inl rfl) (pe_call R.G (hr.mono (by decide)) (by rfl) R.g R.kp R.b .nil pass0 (pa_cons (pv 7) (pa_cons (pv 5) pa_nil))))
          (pss_one (ps_set (i := 6) scTried.nd rfl (.inl rfl) (pe_call B.G hr (by rfl) B.g B.kp B.b .nil pass0 (pa_cons (pv 7) (pa_cons (pv 4) (pa_cons (pv 5) (pa_cons (pv 6) pa_nil)))))))))))
      (C8.pss_cut (ps_setLc (i := 10) (own := [("told", 11)]) (g := gName 11) (tt := tYes) (te := tCB (fun xs H Q => ∃ p ys, xs = [V.ref p] ∧ ((SqL K H p ys ∧ ∀ l, H l = none → Q (.ref l) (upd H l (.tup ys))) ∨ (SqT K H p ys ∧ Q (.ref p) H))) (tCons (tVar 11) tNil)) (by rfl) scTried.nd rfl rfl (sw_true rfl rfl rfl (by decide +kernel)) (pi_two (pi_list (pv 1)) (pi_tup (pv 1)))
          (blkOk_by (N := ["scripts", "state", "at", "place", "opened", "reads", "held", "step", "other", "refused", "changed", "told", "k"]) (sc := defScope sTried) (by decide +kernel))
          (fun _ _ _ _ _ => pg_name (i := 11) scTried.nd rfl (Or.inl rfl)) (fun _ _ _ _ _ => pts_nil) (fun _ _ _ _ _ => pe_callTy call_tuple_of (by rfl) mt (by decide +kernel) (pa_cons (pv 11) pa_nil)))
      (pss_cons (ps_asg (pe_tup (pa_cons (pv 3) (pa_cons (pv 4) (pa_cons (pv 5) (pa_cons (pv 6) pa_nil))))) (pg_sub (pv 10) (pv 2) set_list))
      (pss_one (ps_ret (pe_tup (pa_cons (pe_callTy call_tuple_of (by rfl) mt (by decide +kernel) (pa_cons (pv 10) pa_nil)) (pa_cons (pv 9) pa_nil)))))))))))  , ?_⟩
    obtain ⟨xs, hp, hlen, hks⟩ := hD
    obtain ⟨zs, hc, _, hcs⟩ := hC
    have har : a < rows.length := (List.getElem?_eq_some_iff.mp hra).1
    rw [List.length_map] at hlen
    obtain ⟨b, s2, s3⟩ := hks a (rowV r) (by rw [List.getElem?_map, hra]; rfl)
    obtain ⟨d, p2, p3⟩ := hcs a (wordsV ws) (by rw [List.getElem?_map, hsa]; rfl)
    have hw2 : (wordsV ws)[r.pl]? = some (.str w) := by
      unfold wordsV
      rw [List.getElem?_map, hwa]
      rfl
    have seqP : ∀ {H' : Hp} {y : Addr} {us : List V}, Sp' H' y us → SqL K H' y us ∨ SqT K H' y us := fun h => h.imp (fun z => sq z) fun z => sqt z
    have ixP : ∀ {H' : Hp} {y : Addr} {us : List V} {i : Nat} {v : V} {Q' : VK}, Sp' H' y us → us[i]? = some v → Q' v H' → rIx K (.ref y) (.int i) H' Q' := fun h e z => h.elim (fun h => .inl ⟨_, _, _, _, rfl, rfl, sq h, atI_nat e, z⟩) fun h => .inr (.inl ⟨_, _, _, _, rfl, rfl, sqt h, atI_nat e, z⟩)
    -- the row
    refine ⟨fun σ H1 => σ = [some (.ref c), some (.ref p), some (.int a), some (.int r.pl), some (.bl r.op), some (.bl r.rd), some (.int r.lk), none, none, none, none, none, none] ∧ H1 = H, ?_, ?_⟩
    · refine ⟨.ref p, rfl, .int a, rfl, ixP hp s2 ?_⟩
      rcases s3 with s3 | s3
      · exact .inr ⟨b, _, rfl, sq s3, rfl, _, _, rfl, _, _, rfl, _, _, rfl, _, _, rfl, rfl, rfl, rfl⟩
      · exact .inl ⟨b, _, rfl, sqt s3, rfl, _, _, rfl, _, _, rfl, _, _, rfl, _, _, rfl, rfl, rfl, rfl⟩
    rintro σ H1 ⟨rfl, rfl⟩
    refine ⟨.ref c, rfl, .int a, rfl, c, zs, a, .ref d, rfl, rfl, sq hc, atI_nat p2, .int r.pl, rfl, d, _, r.pl, .str w, rfl, rfl, p3, atI_nat hw2, ?_⟩
    -- the greatest lock of the others
    refine ⟨fun σ H2 => ∃ m : Int, IsTop rows a m ∧ σ = [some (.ref c), some (.ref p), some (.int a), some (.int r.pl), some (.bl r.op), some (.bl r.rd), some (.int r.lk), some (.str w), some (.int m), none, none, none, none] ∧ Al H1 H2, ?_, ?_⟩
    · have hkids : ∀ (i : Nat) (hi : i < rows.length), ∃ b, xs[i]? = some (.ref b) ∧ Sp' H1 b (rowV rows[i]) := fun i hi => hks i (rowV rows[i]) (by rw [List.getElem?_map, List.getElem?_eq_getElem hi]; rfl)
      have good0 : ∀ (k : Nat) r, rows[k]? = some r → 0 ≤ r.lk := good.1
      have hp0 := hp
      rcases hp with hp | hp
      case' inl => refine .inl ⟨.ref p, rfl, p, xs, rfl, sq hp, ?walk⟩
      case' inr => refine .inr ⟨.ref p, rfl, p, xs, rfl, sqt hp, ?walk⟩
      case inl | inr =>
        intro D nD
        refine ⟨fun i m H' => i + m = xs.length ∧ Al H1 H' ∧ ∃ ns : List Int, H' D = some (.lst (ns.map V.int)) ∧ ns.length ≤ i ∧ (∀ y ∈ ns, ∃ (k : Nat) (r : Row), rows[k]? = some r ∧ k ≠ a ∧ y = r.lk) ∧ (∀ (k : Nat) (r : Row), k < i → rows[k]? = some r → k ≠ a → r.lk ∈ ns),
          ⟨xs.length, by omega, Al.refl.new nD, [], upd_same, Nat.zero_le _, fun y hy => (by cases hy), fun k r h => by omega⟩, fun i m H' hW => ?_⟩
        obtain ⟨em, kW, ns, eD, hns, n1, n2⟩ := hW
        have sW := kW _ _ hp
        by_cases hi : i < xs.length
        · have gi : xs[i]? = some xs[i] := List.getElem?_eq_getElem hi
          have hir : i < rows.length := by omega
          obtain ⟨ci, ei, hci⟩ := hkids i hir
          refine .inr ⟨(by first | exact ⟨xs, xs[i], sq sW, gi⟩ | exact ⟨sqt sW, hi⟩), fun H'' => Al H1 H'' ∧ ∃ ns : List Int, H'' D = some (.lst (ns.map V.int)) ∧ ns.length ≤ i + 1 ∧ (∀ y ∈ ns, ∃ (k : Nat) (r : Row), rows[k]? = some r ∧ k ≠ a ∧ y = r.lk) ∧ (∀ (k : Nat) (r : Row), k < i + 1 → rows[k]? = some r → k ≠ a → r.lk ∈ ns),
            fun H'' hN => ⟨m - 1, by omega, by omega, hN⟩, fun v H'' hy => ?_⟩
          obtain ⟨T, x, rfl, nT, hx, rfl⟩ : ∃ T x, v = .ref T ∧ H' T = none ∧ xs[i]? = some x ∧ H'' = upd H' T (.tup [.int (i : Nat), x]) := by
            first
              | (obtain ⟨T, x, z1, z2, z3, z4⟩ := hy; exact ⟨T, x, z1, z2, z4 _ (sq sW), z3⟩)
              | exact hy
          obtain rfl : x = .ref ci := by
            rw [ei] at hx
            exact (Option.some.inj hx).symm
          have DT : D ≠ T := ne_of_none eD nT
          refine ⟨T, _, rfl, sqt upd_same, rfl, _, _, rfl, _, _, rfl, rfl, rfl, ?_⟩
          refine ⟨_, rfl, .int a, rfl, rfl, _, rfl, ?_⟩
          rw [eq_int]
          have kT := kW.new (o := .tup [.int (i : Nat), .ref ci]) nT
          by_cases hia : i = a
          · rw [decide_eq_true (by rw [hia]), Bool.not_true]
            refine iteF ⟨kT, ns, (upd_ne DT).trans eD, by omega, n1, fun k r hk e n => n2 k r (by omega) e n⟩
          · rw [decide_eq_false (by omega), Bool.not_false]
            have hc3 : Sp' (upd H' T (.tup [.int (i : Nat), .ref ci])) ci (rowV rows[i]) := hci.imp (fun z => kT _ _ z) fun z => kT _ _ z
            refine iteT ⟨_, rfl, ixP (i := 3) (v := .int rows[i].lk) hc3 rfl ⟨_, (upd_ne DT).trans eD, by rw [List.length_map]; exact small1000 (by omega), fun b o z => ?_, ns ++ [rows[i].lk], ?_, by simp; omega, fun y hy => ?_, fun k r hk e n => ?_⟩⟩
            · have bD : b ≠ D := ne_of_none z nD
              rw [upd_ne bD]
              exact kT b o z
            · rw [upd_same, List.map_append]
              rfl
            · rcases List.mem_append.mp hy with hy | hy
              · exact n1 y hy
              · exact ⟨i, rows[i], List.getElem?_eq_getElem hir, hia, by simpa using hy⟩
            · rcases Nat.lt_or_ge k i with hki | hki
              · exact List.mem_append_left _ (n2 k r hki e n)
              · have : k = i := by omega
                subst this
                rw [List.getElem?_eq_getElem hir] at e
                rw [← Option.some.inj e]
                exact List.mem_append_right _ (List.mem_singleton.mpr rfl)
        · refine .inl ⟨(by first | exact ⟨xs, sq sW, by omega⟩ | exact ⟨sqt sW, by omega⟩), ?_⟩
          have out : ∀ m : Int, IsTop rows a m → ∃ m' : Int, IsTop rows a m' ∧ m = m' := fun m h => ⟨m, h, rfl⟩
          refine ⟨D, ns, 0, rfl, rfl, sq eD, fun e0 => ⟨0, ⟨.inl rfl, Int.le_refl _, fun k r e n => ?_⟩, rfl, kW⟩, fun m hm hle => ⟨m, ⟨.inr (n1 m hm), ?_, fun k r e n => hle _ (n2 k r (by have z := (List.getElem?_eq_some_iff.mp e).1; omega) e n)⟩, rfl, kW⟩⟩
          · have z := n2 k r (by have z := (List.getElem?_eq_some_iff.mp e).1; omega) e n
            rw [e0] at z
            cases z
          · obtain ⟨k, r, e, _, rfl⟩ := n1 m hm
            exact good0 k r e
    rintro σ H2 ⟨m, top, rfl, k2⟩
    obtain ⟨h0, hx1⟩ := good.top hra top
    refine ⟨.str w, rfl, .bl r.op, rfl, .int r.lk, rfl, .int m, rfl, w, r.op, r.lk, m, rfl, fun H3 k3 => ?_⟩
    rw [refP_refB h0 hx1]
    -- the row behind the try
    refine ⟨fun σ H4 => ∃ rr : Row × Bool, rr = nextRow w r m ∧ σ = [some (.ref c), some (.ref p), some (.int a), some (.int rr.1.pl), some (.bl rr.1.op), some (.bl rr.1.rd), some (.int rr.1.lk), some (.str w), some (.int m), some (.bl rr.2), none, none, none] ∧ Al H1 H4, ?_, ?_⟩
    · refine ⟨.bl (refB w r.op r.lk m), rfl, _, rfl, ite2 (fun e => ?_) (fun e => ?_)⟩
      · refine ⟨.str w, rfl, .int r.lk, rfl, w, r.lk, rfl, fun H4 k4 => ?_⟩
        refine ⟨nextRow w r m, rfl, ?_, (k2.trans k3).trans k4⟩
        rw [nextRow, if_pos e, e]
        rfl
      · refine ⟨.int r.pl, rfl, r.pl, 1, rfl, rfl, .str w, rfl, .bl r.op, rfl, w, r.op, rfl, fun H4 k4 => ⟨.str w, rfl, .bl r.rd, rfl, w, r.rd, rfl, fun H5 k5 => ⟨.str w, rfl, _, rfl, _, rfl, .int r.lk, rfl, w, _, _, r.lk, rfl, fun H6 k6 => ?_⟩⟩⟩
        refine ⟨nextRow w r m, rfl, ?_, (((k2.trans k3).trans k4).trans k5).trans k6⟩
        rw [nextRow, if_neg e, Bool.eq_false_iff.mpr e]
        rfl
    rintro σ H4 ⟨rr, er, rfl, k4⟩
    -- the rows as tuples
    refine ⟨fun σ H5 => ∃ (D : Addr) (ys : List V), σ = [some (.ref c), some (.ref p), some (.int a), some (.int rr.1.pl), some (.bl rr.1.op), some (.bl rr.1.rd), some (.int rr.1.lk), some (.str w), some (.int m), some (.bl rr.2), some (.ref D), none, none] ∧ Al H1 H5 ∧ H1 D = none ∧ H5 D = some (.lst ys) ∧ ys.length = rows.length ∧
      ∀ (j : Nat) (rj : Row), rows[j]? = some rj → ∃ b, ys[j]? = some (.ref b) ∧ H5 b = some (.tup (rowV rj)), ?_, ?_⟩
    · have hp4 : Sp' H4 p xs := hp.imp (fun z => k4 _ _ z) fun z => k4 _ _ z
      have hk4 : ∀ (i : Nat) (hi : i < rows.length), ∃ b, xs[i]? = some (.ref b) ∧ Sp' H4 b (rowV rows[i]) := fun i hi => by
        obtain ⟨b, z1, z2⟩ := hks i (rowV rows[i]) (by rw [List.getElem?_map, List.getElem?_eq_getElem hi]; rfl)
        exact ⟨b, z1, z2.imp (fun z => k4 _ _ z) fun z => k4 _ _ z⟩
      rcases hp4 with hq | hq
      case' inl => refine .inl ⟨.ref p, rfl, p, rfl, ⟨xs, sq hq⟩, fun D nD => lc_list (xs := xs) (fun i H' => Al H4 H' ∧ ∃ ys : List V, H' D = some (.lst ys) ∧ ys.length = i ∧ ∀ (j : Nat) (rj : Row), j < i → rows[j]? = some rj → ∃ b, ys[j]? = some (.ref b) ∧ H' b = some (.tup (rowV rj)))
          ⟨Al.refl.new nD, [], upd_same, rfl, fun j rj h => by omega⟩ (fun i H' _ ⟨k, _⟩ => sqL_al (sq hq) k) ?turn ?after⟩
      case' inr => refine .inr ⟨.ref p, rfl, p, rfl, ⟨xs, sqt hq⟩, fun D nD => lc_tup (xs := xs) (fun i H' => Al H4 H' ∧ ∃ ys : List V, H' D = some (.lst ys) ∧ ys.length = i ∧ ∀ (j : Nat) (rj : Row), j < i → rows[j]? = some rj → ∃ b, ys[j]? = some (.ref b) ∧ H' b = some (.tup (rowV rj)))
          ⟨Al.refl.new nD, [], upd_same, rfl, fun j rj h => by omega⟩ (fun i H' _ ⟨k, _⟩ => sqT_al (sqt hq) k) ?turn2 ?after2⟩
      case turn | turn2 =>
        rintro i x H' hx ⟨kW, ys, y1, y2, y3⟩
        have hir : i < rows.length := by
          have z := (List.getElem?_eq_some_iff.mp hx).1
          omega
        obtain ⟨ci, ei, hci⟩ := hk4 i hir
        obtain rfl : x = .ref ci := Option.some.inj (hx.symm.trans ei)
        have step : ∀ (H'' : Hp) (t : Addr), Al H' H'' → H'' t = some (.tup (rowV rows[i])) → ∃ acc, H'' D = some (.lst acc) ∧ acc.length < sizeLine ∧ (Al H4 (upd H'' D (.lst (acc ++ [.ref t]))) ∧ ∃ ys : List V, upd H'' D (.lst (acc ++ [.ref t])) D = some (.lst ys) ∧ ys.length = i + 1 ∧
            ∀ (j : Nat) (rj : Row), j < i + 1 → rows[j]? = some rj → ∃ b, ys[j]? = some (.ref b) ∧ upd H'' D (.lst (acc ++ [.ref t])) b = some (.tup (rowV rj))) := fun H'' t kk ht => by
          have yD := kk _ _ y1
          have off : ∀ {b : Addr} {us : List V}, H'' b = some (.tup us) → upd H'' D (.lst (ys ++ [.ref t])) b = some (.tup us) := fun {b us} h => (upd_ne (fun z => by rw [z, yD] at h; cases h)).trans h
          refine ⟨ys, yD, by rw [y2]; exact small1000 (by omega), fun b o z => ?_, ys ++ [.ref t], upd_same, by simp [y2], fun j rj hj e => ?_⟩
          · rw [upd_ne (ne_of_none z nD)]
            exact kk _ _ (kW _ _ z)
          · rcases Nat.lt_or_ge j i with h | h
            · obtain ⟨b, z1, z2⟩ := y3 j rj h e
              exact ⟨b, by rw [List.getElem?_append_left (by omega)]; exact z1, off (kk _ _ z2)⟩
            · obtain rfl : j = i := by omega
              rw [List.getElem?_eq_getElem hir] at e
              obtain rfl := Option.some.inj e
              exact ⟨t, by rw [List.getElem?_append_right (by omega), y2, Nat.sub_self]; rfl, off ht⟩
        refine ⟨rfl, .ref ci, rfl, ci, rowV rows[i], rfl, ?_⟩
        rcases hci with z | z
        · exact .inl ⟨sq (kW _ _ z), fun t nt => step _ t (Al.refl.new nt) upd_same⟩
        · exact .inr ⟨sqt (kW _ _ z), step _ ci Al.refl (kW _ _ z)⟩
      case after | after2 =>
        rintro H' ⟨kW, ys, y1, y2, y3⟩
        exact ⟨D, ys, rfl, k4.trans kW, k4.gone nD, y1, by omega, fun j rj e => y3 j rj (by have z := (List.getElem?_eq_some_iff.mp e).1; omega) e⟩
    rintro σ H5 ⟨D, ys, rfl, k5, nD, hD, yl, hys⟩
    refine ⟨.int rr.1.pl, rfl, .bl rr.1.op, rfl, .bl rr.1.rd, rfl, .int rr.1.lk, rfl, by show 4 ≤ sizeLine; decide, fun u nu => ?_⟩
    have k6 := k5.new (o := .tup (rowV rr.1)) nu
    have Du : D ≠ u := ne_of_none hD nu
    refine ⟨.ref D, rfl, .int a, rfl, D, ys, a, a, rfl, rfl, (upd_ne Du).trans hD, ?_, ?_⟩
    · unfold ixN
      rw [if_pos (by omega), if_pos (by omega)]
      rfl
    have k7 : Al H1 (upd (upd H5 u (.tup (rowV rr.1))) D (.lst (ys.set a (.ref u)))) := fun b o z => by
      rw [upd_ne (ne_of_none z nD)]
      exact k6 _ _ z
    refine ⟨.ref D, rfl, D, _, rfl, .inl ⟨sq upd_same, fun t nt => ?_⟩⟩
    have k8 := k7.new (o := .tup (ys.set a (.ref u))) nt
    refine ⟨.bl rr.2, rfl, by show 2 ≤ sizeLine; decide, fun t2 nt2 => ?_⟩
    have k9 := k8.new (o := .tup [.ref t, .bl rr.2]) nt2
    have tt : t ≠ t2 := ne_of_none upd_same nt2
    refine q _ t2 t m k9 (k8.gone nt2) top (by rw [← er]; exact upd_same) ⟨ys.set a (.ref u), (upd_ne tt).trans upd_same, by rw [List.length_set, List.length_map, List.length_set, yl], fun i k e => ?_⟩
    have up : ∀ {y : Addr} {us : List V}, upd (upd H5 u (.tup (rowV rr.1))) D (.lst (ys.set a (.ref u))) y = some (.tup us) → upd (upd (upd (upd H5 u (.tup (rowV rr.1))) D (.lst (ys.set a (.ref u)))) t (.tup (ys.set a (.ref u)))) t2 (.tup [.ref t, .bl rr.2]) y = some (.tup us) := fun {y us} h => by
      have n1 : y ≠ t := ne_of_none h nt
      have z := (upd_ne (o := .tup (ys.set a (.ref u))) n1).trans h
      exact (upd_ne (ne_of_none z nt2)).trans z
    rw [List.map_set, List.getElem?_set] at e
    by_cases hia : a = i
    · subst hia
      rw [if_pos rfl, if_pos (by rw [List.length_map]; exact har)] at e
      obtain rfl := Option.some.inj e
      refine ⟨u, by rw [List.getElem?_set, if_pos rfl, if_pos (by omega)], up ?_⟩
      rw [upd_ne Du.symm, upd_same, ← er]
    · rw [if_neg hia, List.getElem?_map] at e
      cases e1 : rows[i]? with
      | none =>
        rw [e1] at e
        cases e
      | some ri =>
        rw [e1] at e
        obtain rfl : rowV ri = k := Option.some.inj e
        obtain ⟨b', z1, z2⟩ := hys i ri e1
        refine ⟨b', by rw [List.getElem?_set, if_neg hia]; exact z1, up ?_⟩
        rw [upd_ne (fun z => by rw [z, hD] at z2; cases z2), upd_ne (ne_of_none z2 nu)]
        exact z2
end
end Lk

namespace Lk
open PySem PySem.Spec PyProof.Rows L2 Drw Err
theorem scNextState : FnScope ["scripts", "state", "at", "checked"] ["scripts", "state", "at"] (defScope sNextState) := ⟨rfl, rfl, rfl, by decide +kernel, rfl, by decide +kernel, by decide +kernel⟩
def spNext (K : PySem.W.Frag) (CP : Addr) : Sp := fun vs H Q E => ∃ (h p : Addr) (x : V) (ss : List (List Str)) (rows : List Row), vs = [.ref h, .ref p, x] ∧ Deep K H h (ss.map wordsV) ∧ okAll ss ∧ DeepP H p (rows.map rowV) ∧ rows.length = ss.length ∧
  ((∃ (a : Nat) (r : Row) (ws : List Str) (w : Str), x = .int a ∧ Good rows ∧ rows[a]? = some r ∧ ss[a]? = some ws ∧ ws[r.pl]? = some w ∧
      ∀ H' t u m, Al H H' → H t = none → IsTop rows a m → H' t = some (.tup [.ref u, .bl (nextRow w r m).2]) → Kids H' u ((rows.set a (nextRow w r m).1).map rowV) → Q (.ref t) H') ∨
    (((∃ a : Nat, a < ss.length ∧ x = .int a ∧ leftB ss rows a = false) ∨ OddAt H ss.length x) ∧ ∀ H' d, Al H H' → H' d = some (.xd [(fld, .non)]) → E (.ref CP) (some d) H'))
theorem OddAt.al {H H' : Hp} {many : Int} {x : V} (h : OddAt H many x) (k : Al H H') : OddAt H' many x := by
  cases h with
  | int i h => exact .int i h
  | non => exact .non
  | bl b => exact .bl b
  | str s => exact .str s
  | tup h => exact .tup (k _ _ h)
  | lst h => exact .lst (k _ _ h)
  | dct h => exact .dct (k _ _ h)
  | emp h => exact .emp (k _ _ h)
section
variable {P : Program} {w : World} {K : PySem.W.Frag} {mg : Str → Option Value} {base : Heap} {t0 t1 t2 t3 t4 : Nat} {CP : Addr}
theorem ok_nextState {f fC fN fT : Addr} {fd dC dN dT : FuncData} (F : Fun K "next_state" "next_state" sNextState f fd) (T : EC P w K mg "ProgrammingError" CP) (C : Can P w K mg base CX0 3 "checked_scripts" ["scripts"] (spChecked K) fC dC)
    (N : Can P w K mg base CX0 2 "_can_try" ["scripts", "state", "at"] (spCan K) fN dN) (Y : Can P w K mg base CX0 3 "_tried" ["scripts", "state", "at"] (spTried K) fT dT) : FnOk P w K mg base (L2.CX P w) 4 f fd ["scripts", "state", "at"] (spNext K CP) := by
  refine F.okX scNextState (fun vs H Q E h => ?_) (fun cdv A outer s H vs Q E hr h => ?_)
  · obtain ⟨h', p, x, ss, rows, rfl, _⟩ := h
    rfl
  · obtain ⟨h', p, x, ss, rows, rfl, hS, ok, hP, hn, hh⟩ := h
    refine ⟨_, pss_cons (ps_set (i := 3) scNextState.nd rfl (.inl rfl) (pe_call C.G hr (by rfl) C.g C.kp C.b .nil pass0 (pa_cons (pv 0) pa_nil)))
      (pss_cons (ps_if (pt_not (pt_val (pe_call N.G (hr.mono (by decide)) (by rfl) N.g N.kp N.b .nil pass0 (pa_cons (pv 3) (pa_cons (pv 1) (pa_cons (pv 2) pa_nil)))))) (pss_one (ps_raise rfl (takes_of rfl rfl rfl rfl) (pmk_err0 T hr (by rfl)))) pss_nil)
      (pss_one (ps_ret (pe_call Y.G hr (by rfl) Y.g Y.kp Y.b .nil pass0 (pa_cons (pv 3) (pa_cons (pv 1) (pa_cons (pv 2) pa_nil))))))), ?_⟩
    refine ⟨.ref h', rfl, h', ss, rfl, hS, ok, fun H1 D k1 nD hC => ?_⟩
    have hP1 := hP.al k1
    have n4 := ok.2.1
    refine ⟨.ref D, rfl, .ref p, rfl, x, rfl, D, p, ss, rows, x, rfl, hC, hP1.deep, by omega, hn, ?_⟩
    rcases hh with ⟨a, r, ws, w', rfl, good, e1, e2, e3, q⟩ | ⟨bad, q⟩
    · have ha : a < ss.length := (List.getElem?_eq_some_iff.mp e2).1
      refine .inl ⟨a, ha, rfl, fun H2 k2 => ⟨_, rfl, ?_⟩⟩
      have lb : leftB ss rows a = true := by
        unfold leftB
        rw [e1, e2]
        exact decide_eq_true (List.getElem?_eq_some_iff.mp e3).1
      rw [lb]
      refine iteF ⟨.ref D, rfl, .ref p, rfl, .int a, rfl, D, p, ss, rows, a, r, ws, w', rfl, hC.al k2, hP1.al k2, by omega, good, e1, e2, e3, fun H3 t u m k3 nt top et kd => ?_⟩
      exact q H3 t u m ((k1.trans k2).trans k3) ((k1.trans k2).gone nt) top et kd
    · have raised : ∀ H2, Al H1 H2 → ∃ c : Bool, V.bl false = .bl c ∧ (c = false) := fun H2 _ => ⟨false, rfl, rfl⟩
      have fin : ∀ H2, Al H1 H2 → ∀ d, H2 d = none → E (.ref CP) (some d) (upd H2 d (.xd [(fld, .non)])) := fun H2 k2 d nd => q _ d ((k1.trans k2).new nd) upd_same
      rcases bad with ⟨a, ha, rfl, lb⟩ | od
      · refine .inl ⟨a, ha, rfl, fun H2 k2 => ⟨_, rfl, ?_⟩⟩
        rw [lb]
        exact iteT ⟨.non, .inr ⟨rfl, rfl⟩, fin H2 k2⟩
      · exact .inr ⟨od.al k1, fun H2 k2 => ⟨_, rfl, iteT ⟨.non, .inr ⟨rfl, rfl⟩, fin H2 k2⟩⟩⟩
end
end Lk

/-! The law's comparison, on numbers, truths and tuples of such. -/
namespace Lk
open PySem PySem.Calls PyProof.Rows PySem.Spec L2 Drw Err
theorem iT {c : Bool} {A B : Prop} (h : c = true) (a : A) : if c = true then A else B := by
  rw [if_pos h]
  exact a
theorem iF {c : Bool} {A B : Prop} (h : c = false) (b : B) : if c = true then A else B := by
  rw [h]
  exact iteF b
theorem scSame : FnScope ["_law_found", "_law_due", "_law_a", "_law_b"] ["_law_found", "_law_due"] (defScope sSame) := ⟨rfl, rfl, rfl, by decide +kernel, rfl, by decide +kernel, by decide +kernel⟩
/-- the same: numbers and truths, or tuples of the same -/
inductive Tw (H : Hp) : Nat → V → V → Prop
  | int (n : Nat) (i : Int) : Tw H n (.int i) (.int i)
  | bl (n : Nat) (b : Bool) : Tw H n (.bl b) (.bl b)
  | tup {n : Nat} {a b : Addr} {xs ys : List V} : H a = some (.tup xs) → H b = some (.tup ys) → xs.length = ys.length → xs.length ≤ 1000 → (∀ (i : Nat) x y, xs[i]? = some x → ys[i]? = some y → Tw H n x y) → Tw H (n + 1) (.ref a) (.ref b)
theorem Tw.al {H H' : Hp} (k : Al H H') : ∀ {n : Nat} {x y : V}, Tw H n x y → Tw H' n x y := by
  intro n x y h
  induction h with
  | int n i => exact .int n i
  | bl n b => exact .bl n b
  | tup h1 h2 h3 h4 _ ih => exact .tup (k _ _ h1) (k _ _ h2) h3 h4 ih
def spTw (n : Nat) : Sp := fun vs H Q _ => ∃ x y : V, vs = [x, y] ∧ Tw H n x y ∧ ∀ H', Al H H' → Q (.bl true) H'
section
variable {P : Program} {w : World} {K : PySem.W.Frag} {mg : Str → Option Value} {base : Heap}
theorem ok_same {f : Addr} {fd : FuncData} (F : Fun K "_law_same" "_law_same" sSame f fd) (bS : Binds K fd ["_law_found", "_law_due"] []) (gS : mg "_law_same" = some (.ref f)) (mi : mg "isinstance" = none) (ml : mg "len" = none) (mz : mg "zip" = none) (m_all : mg "all" = none)
    (m_list : mg "list" = none) (m_tuple : mg "tuple" = none) (m_int : mg "int" = none) (m_bool : mg "bool" = none) : ∀ n : Nat, FnOk P w K mg base CX0 (n + 2) f fd ["_law_found", "_law_due"] (spTw n) := by
  have step : ∀ (k n : Nat) (G : FnOk P w K mg base CX0 k f fd ["_law_found", "_law_due"] fun vs H Q E => 0 < n ∧ spTw (n - 1) vs H Q E), FnOk P w K mg base CX0 (k + 1) f fd ["_law_found", "_law_due"] (spTw n) := by
    intro k n G
    refine F.ok scSame (fun vs H Q E h => ?_) (fun cdv A outer s H vs Q E hr h => ?_)
    · obtain ⟨x, y, rfl, _⟩ := h
      rfl
    obtain ⟨x, y, rfl, tw, q⟩ := h
    refine ⟨_, pss_cons (ps_if (pt_val (pe_callB call_isiT (by rfl) mi boot_isinstance (pa_cons (pv 1) (pa_cons (pe_tup (pa_cons (pe_bltn (v := .ty "list") (by rfl) m_list (by decide +kernel) rfl) (pa_cons (pe_bltn (v := .ty "tuple") (by rfl) m_tuple (by decide +kernel) rfl) pa_nil))) pa_nil))))
        (pss_cons (ps_if (PW.pt (pw_or (pt_cmpR op_ne (pe_callB call_isi (by rfl) mi boot_isinstance (pa_cons (pv 0) (pa_cons (pe_bltn (v := .ty "list") (by rfl) m_list (by decide +kernel) rfl) pa_nil))) (pe_callB call_isi (by rfl) mi boot_isinstance (pa_cons (pv 1) (pa_cons (pe_bltn (v := .ty "list") (by rfl) m_list (by decide +kernel) rfl) pa_nil))) (nomark _)) (pw_or1 (pt_cmpR op_ne (pe_callB call_isi (by rfl) mi boot_isinstance (pa_cons (pv 0) (pa_cons (pe_bltn (v := .ty "tuple") (by rfl) m_tuple (by decide +kernel) rfl) pa_nil))) (pe_callB call_isi (by rfl) mi boot_isinstance (pa_cons (pv 1) (pa_cons (pe_bltn (v := .ty "tuple") (by rfl) m_tuple (by decide +kernel) rfl) pa_nil))) (nomark _))))) (pss_one (ps_ret pe_bl)) pss_nil)
        (pss_one (ps_ret (pe_and (pe_cmpR op_eq (pe_callB call_len_seq (by rfl) ml PySem.boot_len (pa_cons (pv 0) pa_nil)) (pe_callB call_len_seq (by rfl) ml PySem.boot_len (pa_cons (pv 1) pa_nil)) (nomark _)) (pe_one (pe_callB (cr_all rfl) (by rfl) m_all boot_all (pa_cons (pe_lc (own := [("_law_a", 2), ("_law_b", 3)]) (g := gTup K 2 (gCons (gName 2) (gCons (gName 3) gNil))) (tt := tYes) rfl scSame.nd (RZ.pi_zipA (by rfl) mz (pa_cons (pv 0) (pa_cons (pv 1) pa_nil))) (blkOk_by (N := ["_law_found", "_law_due", "_law_a", "_law_b"]) (sc := defScope sSame) (by decide +kernel)) (fun _ _ _ _ _ => pg_tup rfl (pgs_cons (pg_name (i := 2) scSame.nd rfl (Or.inl rfl)) (pgs_cons (pg_name (i := 3) scSame.nd rfl (Or.inl rfl)) pgs_nil))) (fun _ _ _ _ _ => pts_nil) (fun _ _ _ _ _ => pe_call G hr (by rfl) gS F.kp bS .nil pass0 (pa_cons (pv 2) (pa_cons (pv 3) pa_nil)))) pa_nil))))))) pss_nil)
      (pss_cons (ps_if (pt_val (pe_callB call_isi (by rfl) mi boot_isinstance (pa_cons (pv 1) (pa_cons (pe_bltn (v := .ty "int") (by rfl) m_int (by decide +kernel) rfl) pa_nil))))
        (pss_one (ps_ret (pe_and (pe_callB call_isi (by rfl) mi boot_isinstance (pa_cons (pv 0) (pa_cons (pe_bltn (v := .ty "int") (by rfl) m_int (by decide +kernel) rfl) pa_nil))) (pe_and (pe_cmpR op_eq (pe_callB call_isi (by rfl) mi boot_isinstance (pa_cons (pv 0) (pa_cons (pe_bltn (v := .ty "bool") (by rfl) m_bool (by decide +kernel) rfl) pa_nil))) (pe_callB call_isi (by rfl) mi boot_isinstance (pa_cons (pv 1) (pa_cons (pe_bltn (v := .ty "bool") (by rfl) m_bool (by decide +kernel) rfl) pa_nil))) (nomark _)) (pe_one (pe_cmpR op_eq (pv 0) (pv 1) (nomark _))))))) pss_nil)
      (pss_one (ps_ret (pe_and (pe_cmpR op_isBl (pe_callB call_isiT (by rfl) mi boot_isinstance (pa_cons (pv 0) (pa_cons (pe_tup (pa_cons (pe_bltn (v := .ty "bool") (by rfl) m_bool (by decide +kernel) rfl) (pa_cons (pe_bltn (v := .ty "int") (by rfl) m_int (by decide +kernel) rfl) (pa_cons (pe_bltn (v := .ty "list") (by rfl) m_list (by decide +kernel) rfl) (pa_cons (pe_bltn (v := .ty "tuple") (by rfl) m_tuple (by decide +kernel) rfl) pa_nil))))) pa_nil))) pe_bl (nomark _)) (pe_one (pe_cmpR op_eq (pv 0) (pv 1) (nomark _))))))), ?_⟩
    cases tw with
    | tup ha hb hlen hz hxy =>
      rename_i n a b xs ys
      refine ⟨.ref b, rfl, by show 2 ≤ sizeLine; decide, fun tp ntp => ?_⟩
      have k1 := (Drw.Al.refl (H := H)).new (o := .tup [.ty "list", .ty "tuple"]) ntp
      have ha1 := k1 _ _ ha
      have hb1 := k1 _ _ hb
      refine ⟨.ref b, tp, _, .type "tuple", _, true, rfl, upd_same, .cons (.ty _) (.cons (.ty _) .nil), .base (.tup hb1), lt2 (.inr rfl), true, rfl, iteT ?_⟩
      refine ⟨.ref a, rfl, _, _, .type "tuple", .type "list", false, rfl, .ty _, .base (.tup ha1), kit_ty (by decide +kernel), .ref b, rfl, _, _, .type "tuple", .type "list", false, rfl, .ty _, .base (.tup hb1), kit_ty (by decide +kernel), rfl, _, rfl, iF (by decide) ?_⟩
      refine ⟨.ref a, rfl, _, _, .type "tuple", .type "tuple", true, rfl, .ty _, .base (.tup ha1), kit_ty (by decide +kernel), .ref b, rfl, _, _, .type "tuple", .type "tuple", true, rfl, .ty _, .base (.tup hb1), kit_ty (by decide +kernel), rfl, _, rfl, iF (by decide) ?_⟩
      refine ⟨.ref a, rfl, a, xs, rfl, .inr (sqt ha1), .ref b, rfl, b, ys, rfl, .inr (sqt hb1), rfl, _, rfl, iT (by rw [hlen]; exact decide_eq_true rfl) ?_⟩
      refine ⟨.ref a, rfl, .ref b, rfl, a, b, xs, ys, rfl, .inr ⟨sqt ha1, sqt hb1, fun D nD => ?_⟩⟩
      refine ⟨fun i m H' => i + m = xs.length ∧ Al H H' ∧ H' D = some (.lst ((List.replicate i true).map V.bl)), ⟨xs.length, by omega, k1.new nD, upd_same⟩, fun i m H' hW => ?_⟩
      obtain ⟨em, kW, eD⟩ := hW
      have haW := kW _ _ ha
      have hbW := kW _ _ hb
      by_cases hi : i < xs.length
      · have gi : xs[i]? = some xs[i] := List.getElem?_eq_getElem hi
        have hi2 : i < ys.length := by omega
        have gi2 : ys[i]? = some ys[i] := List.getElem?_eq_getElem hi2
        refine .inr ⟨⟨xs, ys, xs[i], ys[i], sqt haW, sqt hbW, gi, gi2⟩, fun H'' => Al H H'' ∧ H'' D = some (.lst ((List.replicate (i + 1) true).map V.bl)), fun H'' hN => ⟨m - 1, by omega, by omega, hN⟩, fun v H'' hy => ?_⟩
        obtain ⟨T, x1, x2, rfl, nT, rfl, f1, f2⟩ := hy
        obtain rfl : x1 = xs[i] := Option.some.inj ((f1 _ (sqt haW)).symm.trans gi)
        obtain rfl : x2 = ys[i] := Option.some.inj ((f2 _ (sqt hbW)).symm.trans gi2)
        have lf := (hxy i _ _ gi gi2).al (kW.new (o := .tup [xs[i], ys[i]]) nT)
        have DT : D ≠ T := ne_of_none eD nT
        refine ⟨T, _, rfl, sqt upd_same, rfl, _, _, rfl, _, _, rfl, rfl, rfl, ?_⟩
        refine ⟨_, rfl, _, rfl, Nat.succ_pos _, _, _, rfl, lf, fun H2 k2 => ?_⟩
        refine ⟨_, k2 _ _ ((upd_ne DT).trans eD), ?_, fun b o z => ?_, ?_⟩
        · rw [List.length_map, List.length_replicate]
          exact Nat.lt_of_le_of_lt (Nat.le_trans (Nat.le_of_lt hi) hz) (by decide)
        · have nb : b ≠ D := fun e => by
            subst e
            have y := kW _ _ z
            have y0 := k1 _ _ z
            rw [nD] at y0
            cases y0
          rw [upd_ne nb]
          exact k2 _ _ ((kW.new nT) _ _ z)
        · rw [upd_same, List.replicate_succ', List.map_append]
          rfl
      · refine .inl ⟨⟨xs, ys, sqt haW, sqt hbW, .inl (by omega)⟩, ?_⟩
        refine ⟨D, List.replicate i true, rfl, sq eD, ?_⟩
        have e : (List.replicate i true).all id = true := by simp
        rw [e]
        exact q _ kW
    | bl n c =>
      refine ⟨.bl c, rfl, by show 2 ≤ sizeLine; decide, fun tp ntp => ⟨.bl c, tp, _, .type "bool", _, false, rfl, upd_same, .cons (.ty _) (.cons (.ty _) .nil), .base (.bl c), no1 (kit_ty (by decide +kernel)) (no1 (kit_ty (by decide +kernel)) kitAny_nil), false, rfl, iteF ?_⟩⟩
      have k1 := (Drw.Al.refl (H := H)).new (o := .tup [.ty "list", .ty "tuple"]) ntp
      refine ⟨_, rfl, _, _, _, .type "int", true, rfl, .ty _, .base (.bl c), kit_ty (by decide +kernel), true, rfl, iteT ?_⟩
      refine ⟨_, rfl, _, _, _, .type "int", true, rfl, .ty _, .base (.bl c), kit_ty (by decide +kernel), true, rfl, iteT ?_⟩
      refine ⟨_, rfl, _, _, _, .type "bool", true, rfl, .ty _, .base (.bl c), kit_ty (by decide +kernel), _, rfl, _, _, _, .type "bool", true, rfl, .ty _, .base (.bl c), kit_ty (by decide +kernel), rfl, _, rfl, iT (by decide) ⟨_, rfl, _, rfl, rfl, ?_⟩⟩
      rw [decide_eq_true rfl]
      exact q _ k1
    | int n c =>
      refine ⟨.int c, rfl, by show 2 ≤ sizeLine; decide, fun tp ntp => ⟨.int c, tp, _, .type "int", _, false, rfl, upd_same, .cons (.ty _) (.cons (.ty _) .nil), .base (.int c), no1 (kit_ty (by decide +kernel)) (no1 (kit_ty (by decide +kernel)) kitAny_nil), false, rfl, iteF ?_⟩⟩
      have k1 := (Drw.Al.refl (H := H)).new (o := .tup [.ty "list", .ty "tuple"]) ntp
      refine ⟨_, rfl, _, _, _, .type "int", true, rfl, .ty _, .base (.int c), kit_ty (by decide +kernel), true, rfl, iteT ?_⟩
      refine ⟨_, rfl, _, _, _, .type "int", true, rfl, .ty _, .base (.int c), kit_ty (by decide +kernel), true, rfl, iteT ?_⟩
      refine ⟨_, rfl, _, _, _, .type "bool", false, rfl, .ty _, .base (.int c), kit_ty (by decide +kernel), _, rfl, _, _, _, .type "bool", false, rfl, .ty _, .base (.int c), kit_ty (by decide +kernel), rfl, _, rfl, iT (by decide) ⟨_, rfl, _, rfl, rfl, ?_⟩⟩
      rw [decide_eq_true rfl]
      exact q _ k1
  intro n
  induction n with
  | zero => exact step 1 0 ⟨fun vs H Q E h => absurd h.1 (Nat.lt_irrefl _), fun A outer s H args us vs Q E _ _ _ _ h => absurd h.1 (Nat.lt_irrefl _)⟩
  | succ n ih => exact step (n + 2) (n + 1) (ih.imp fun vs H Q E h => h.2)
end
end Lk

/-! The law's scripts: each may stand. -/
namespace Lk
open PySem PySem.Calls PyProof.Rows PySem.Spec L2 Drw Err
theorem scScript : FnScope ["_law_state", "_law_many", "_law_found", "_law_opened", "_law_reads", "_law_usual", "_law_upto", "_law_k", "_law_some", "_law_word"] ["_law_state", "_law_many"] (defScope sScript) := ⟨rfl, rfl, rfl, by decide +kernel, rfl, by decide +kernel, by decide +kernel⟩
def oA : List Str → Bool → Bool
  | [], o => o
  | w :: ws, o => oA ws (opnB w o)
def rA : List Str → Bool → Bool
  | [], r => r
  | w :: ws, r => rA ws (rdsB w r)
theorem oA_snoc (w : Str) : ∀ (ws : List Str) (o : Bool), oA (ws ++ [w]) o = opnB w (oA ws o)
  | [], _ => rfl
  | _ :: ws, _ => oA_snoc w ws _
theorem rA_snoc (w : Str) : ∀ (ws : List Str) (o : Bool), rA (ws ++ [w]) o = rdsB w (rA ws o)
  | [], _ => rfl
  | _ :: ws, _ => rA_snoc w ws _
theorem okS_snoc (w : Str) : ∀ (ws : List Str) (o r : Bool), okS ws o r = true → mayB w (oA ws o) (rA ws r) = true → okS (ws ++ [w]) o r = true
  | [], o, r, _, h => by
    show (mayB w o r && true) = true
    rw [Bool.and_true]
    exact h
  | v :: ws, o, r, h, h2 => by
    obtain ⟨h3, h4⟩ := Bool.and_eq_true_iff.mp h
    exact Bool.and_eq_true_iff.mpr ⟨h3, okS_snoc w ws _ _ h4 h2⟩
def usuals : List (List Str) := [["begin", "read", "write", "commit"], ["immediate", "write", "commit"], ["write", "read"], ["start", "begin", "write"], ["begin", "read", "commit"], ["exclusive", "read", "commit"]]
def some3 (r : Bool) : List Str := ["read", "write", if r = true then "stop" else "start"]
def someL (o r : Bool) : List Str := some3 r ++ (if o = true then (["commit", "rollback", "read", "write", "commit"] : List Str) else ["begin", "begin", "immediate", "exclusive"])
theorem someL_may : ∀ (o r : Bool) (w : Str), w ∈ someL o r → mayB w o r = true := by
  intro o r
  cases o <;> cases r <;> decide +kernel
theorem someL_len (o r : Bool) : 0 < (someL o r).length ∧ (someL o r).length ≤ 8 := by
  cases o <;> cases r <;> decide +kernel
def spScript : Sp := fun vs H Q _ => ∃ (l c : Addr) (ns : List Int) (many : Int), vs = [.ref l, .int many] ∧ 0 ≤ many ∧ many ≤ 8 ∧ Stt H l c ns ∧
  ∀ H' t ws, Kp l H H' → Stt H' l c ns → H t = none → H' t = some (.tup (wordsV ws)) → okS ws false false = true → ws.length ≤ 8 → Q (.ref t) H'
section
variable {P : Program} {w : World} {K : PySem.W.Frag} {mg : Str → Option Value} {base : Heap}
theorem ok_script {f fO fT : Addr} {fd dO dT : FuncData} (F : Fun K "_law_script" "_law_script" sScript f fd) (O : Can P w K mg base CX0 3 "_law_one" ["_law_state", "_law_things"] spOne fO dO) (T : Can P w K mg base CX0 2 "_law_take" ["_law_state", "_law_many"] spTake fT dT)
    (ml : mg "len" = none) (mi : mg "int" = none) (mr : mg "range" = none) (mmi : mg "min" = none) (mt : mg "tuple" = none) : FnOk P w K mg base CX0 4 f fd ["_law_state", "_law_many"] spScript := by
  refine F.ok scScript (fun vs H Q E h => ?_) (fun cdv A outer s H vs Q E hr h => ?_)
  · obtain ⟨l, c, ns, many, rfl, _⟩ := h
    rfl
  · obtain ⟨l, c, ns, many, rfl, m0, m8, st, q⟩ := h
    refine ⟨_, pss_cons (ps_par3 (by rfl) scScript.nd (i := 2) (j := 3) (l := 4) rfl rfl rfl (by decide) (by decide) (by decide) rfl rfl rfl (pa_cons (pe_lst pa_nil) (pa_cons pe_bl (pa_cons pe_bl pa_nil))) (by rfl))
          (C8.pss_cut (ps_set (i := 5) scScript.nd rfl (.inl rfl) (pe_call O.G hr (by rfl) O.g O.kp O.b .nil pass0 (pa_cons (pv 0) (pa_cons (pe_lst (pa_cons (pe_tup (pa_cons pe_str (pa_cons pe_str (pa_cons pe_str (pa_cons pe_str pa_nil))))) (pa_cons (pe_tup (pa_cons pe_str (pa_cons pe_str (pa_cons pe_str pa_nil)))) (pa_cons (pe_tup (pa_cons pe_str (pa_cons pe_str pa_nil))) (pa_cons (pe_tup (pa_cons pe_str (pa_cons pe_str (pa_cons pe_str pa_nil)))) (pa_cons (pe_tup (pa_cons pe_str (pa_cons pe_str (pa_cons pe_str pa_nil)))) (pa_cons (pe_tup (pa_cons pe_str (pa_cons pe_str (pa_cons pe_str pa_nil)))) pa_nil))))))) pa_nil))))
          (pss_cons (ps_set (i := 6) scScript.nd rfl (.inl rfl) (pe_call T.G (hr.mono (by decide)) (by rfl) T.g T.kp T.b .nil pass0 (pa_cons (pv 0) (pa_cons (pe_op op_mul pe_int (pe_callB call_len_seq (by rfl) ml PySem.boot_len (pa_cons (pv 5) pa_nil))) pa_nil))))
          (pss_cons (ps_for PassesOwn.never rfl (pi_range1 (by rfl) mr (pa_cons (pe_op op_sub (pv 1) (pe_op op_mul (pe_call T.G (hr.mono (by decide)) (by rfl) T.g T.kp T.b .nil pass0 (pa_cons (pv 0) (pa_cons pe_int pa_nil))) (pe_callTy call_int1 (by rfl) mi PySem.Pv.boot_int (pa_cons (pe_cmpR op_gt (pv 1) pe_int (nomark _)) pa_nil)))) pa_nil)) (pg_name (i := 7) scScript.nd rfl (Or.inl rfl))
        (pss_cons (ps_set (i := 8) scScript.nd rfl (.inl rfl) (pe_lst (pa_cons pe_str (pa_cons pe_str (pa_cons (pe_ix ix_tup (pe_tup (pa_cons pe_str (pa_cons pe_str pa_nil))) (pe_callTy call_int1 (by rfl) mi PySem.Pv.boot_int (pa_cons (pv 4) pa_nil)) (fun _ _ => rfl)) pa_nil)))))
          (C8.pss_cut (ps_if (pt_val (pv 3)) (pss_one (ps_set (i := 8) scScript.nd rfl (.inl rfl) (pe_op op_cat (pv 8) (pe_lst (pa_cons pe_str (pa_cons pe_str (pa_cons pe_str (pa_cons pe_str (pa_cons pe_str pa_nil))))))))) (pss_one (ps_set (i := 8) scScript.nd rfl (.inl rfl) (pe_op op_cat (pv 8) (pe_lst (pa_cons pe_str (pa_cons pe_str (pa_cons pe_str (pa_cons pe_str pa_nil)))))))))
          (pss_cons (ps_set (i := 9) scScript.nd rfl (.inl rfl) (pe_call O.G hr (by rfl) O.g O.kp O.b .nil pass0 (pa_cons (pv 0) (pa_cons (pv 8) pa_nil))))
          (C8.pss_cut (ps_if (PW.pt (pw_and (pt_cmpR op_lt (pv 7) (pe_callB (call_min2 rfl) (by rfl) mmi (by decide +kernel) (pa_cons (pv 6) (pa_cons (pe_callB call_len_seq (by rfl) ml PySem.boot_len (pa_cons (pv 5) pa_nil)) pa_nil))) (nomark _)) (pw_and1 (pt_cmpR op_in_seq (pe_ix ix_tup (pv 5) (pv 7) (fun _ _ => rfl)) (pv 8) rfl)))) (pss_one (ps_set (i := 9) scScript.nd rfl (.inl rfl) (pe_ix ix_tup (pv 5) (pv 7) (fun _ _ => rfl)))) pss_nil)
          (pss_cons (ps_expr (pe_bm PySem.F.plainAttrs_list PySem.F.slot_list_append PySem.F.type_list_append mt_append (pv 2) (pa_cons (pv 9) pa_nil)))
          (C8.pss_cut (ps_set (i := 3) scScript.nd rfl (.inl rfl) (pe_and (pe_cmpR op_notIn_seq (pv 9) (pe_tup (pa_cons pe_str (pa_cons pe_str pa_nil))) rfl) (pe_one (pe_or (pv 3) (pe_one (pe_cmpR op_in_seq (pv 9) (pe_tup (pa_cons pe_str (pa_cons pe_str (pa_cons pe_str pa_nil)))) rfl))))))
          (pss_one (ps_set (i := 4) scScript.nd rfl (.inl rfl) (pe_and (pe_cmpR op_ne (pv 9) pe_str (nomark _)) (pe_one (pe_or (pv 4) (pe_one (pe_cmpR op_eq (pv 9) pe_str (nomark _)))))))))))))))
          (pss_one (ps_ret (pe_callTy call_tuple_of (by rfl) mt (by decide +kernel) (pa_cons (pv 2) pa_nil))))))), ?_⟩
    have ll : ∀ {y : Addr}, H y = none → y ≠ l := fun {y} e z => by
      obtain ⟨⟨_, _, _, hl⟩, _⟩ := st
      rw [z, hl] at e
      cases e
    refine ⟨Nat.zero_le _, fun f nf => ?_⟩
    have kt := (Al.refl (H := H)).new (o := .lst []) nf
    have nfH : H f = none := nf
    have ef : upd H f (.lst []) f = some (.lst []) := upd_same
    refine ⟨_, _, _, rfl, ?_⟩
    generalize eH0 : upd H f (.lst []) = H0 at kt ef
    have fl : f ≠ l := ll nfH
    refine ⟨fun σ H1 => ∃ (u : Addr) (us : List Str), σ = [some (.ref l), some (.int many), some (.ref f), some (.bl false), some (.bl false), some (.ref u), none, none, none, none] ∧ Kp l H H1 ∧ Stt H1 l c ns ∧ H1 f = some (.lst []) ∧ H1 u = some (.tup (wordsV us)) ∧ u ≠ l ∧ 0 < us.length ∧ us.length ≤ 4, ?_, ?_⟩
    · refine ⟨.ref l, rfl, by show 4 ≤ sizeLine; decide, fun t1 n1 => ⟨by show 3 ≤ sizeLine; decide, fun t2 n2 => ⟨by show 2 ≤ sizeLine; decide, fun t3 n3 => ⟨by show 3 ≤ sizeLine; decide, fun t4 n4 => ⟨by show 3 ≤ sizeLine; decide, fun t5 n5 => ⟨by show 3 ≤ sizeLine; decide, fun t6 n6 => ⟨by show 6 ≤ sizeLine; decide, fun L nL => ?_⟩⟩⟩⟩⟩⟩⟩
      have k1 := (Al.refl (H := H0)).new (o := .tup (wordsV ["begin", "read", "write", "commit"])) n1
      have k2 := (Al.refl).new (o := .tup (wordsV ["immediate", "write", "commit"])) n2
      have k3 := (Al.refl).new (o := .tup (wordsV ["write", "read"])) n3
      have k4 := (Al.refl).new (o := .tup (wordsV ["start", "begin", "write"])) n4
      have k5 := (Al.refl).new (o := .tup (wordsV ["begin", "read", "commit"])) n5
      have k6 := (Al.refl).new (o := .tup (wordsV ["exclusive", "read", "commit"])) n6
      have kL := (Al.refl).new (o := .lst [.ref t1, .ref t2, .ref t3, .ref t4, .ref t5, .ref t6]) nL
      have kA := (((((k1.trans k2).trans k3).trans k4).trans k5).trans k6).trans kL
      have g1 : H0 t1 = none := n1
      have g2 : H0 t2 = none := k1.gone n2
      have g3 : H0 t3 = none := (k1.trans k2).gone n3
      have g4 : H0 t4 = none := ((k1.trans k2).trans k3).gone n4
      have g5 : H0 t5 = none := (((k1.trans k2).trans k3).trans k4).gone n5
      have g6 : H0 t6 = none := ((((k1.trans k2).trans k3).trans k4).trans k5).gone n6
      have gL : H0 L = none := (((((k1.trans k2).trans k3).trans k4).trans k5).trans k6).gone nL
      have e1 := kL _ _ (k6 _ _ (k5 _ _ (k4 _ _ (k3 _ _ (k2 t1 _ upd_same)))))
      have e2 := kL _ _ (k6 _ _ (k5 _ _ (k4 _ _ (k3 t2 _ upd_same))))
      have e3 := kL _ _ (k6 _ _ (k5 _ _ (k4 t3 _ upd_same)))
      have e4 := kL _ _ (k6 _ _ (k5 t4 _ upd_same))
      have e5 := kL _ _ (k6 t5 _ upd_same)
      have e6 := kL t6 _ upd_same
      have l0 : ∀ {y : Addr}, H0 y = none → y ≠ l := fun {y} e => ll (kt.gone e)
      refine ⟨l, c, ns, L, _, rfl, upd_same, l0 gL, by show 0 < 6; decide, by show 6 < 1000; decide, (st.up kt).up kA, fun H' dd x kx stx hx => ?_⟩
      have kp : Kp l H H' := fun b o n e => kx b o n (kA b o (kt b o e))
      have fin : ∀ (t : Addr) (us : List Str), x = .ref t → H0 t = none → H' t = some (.tup (wordsV us)) → 0 < us.length → us.length ≤ 4 → ∃ (u : Addr) (us : List Str), [some (V.ref l), some (.int many), some (.ref f), some (.bl false), some (.bl false), some x, none, none, none, none] = [some (.ref l), some (.int many), some (.ref f), some (.bl false), some (.bl false), some (.ref u), none, none, none, none] ∧ Kp l H H' ∧ Stt H' l c ns ∧ H' f = some (.lst []) ∧ H' u = some (.tup (wordsV us)) ∧ u ≠ l ∧ 0 < us.length ∧ us.length ≤ 4 :=
        fun t us ex g e p1 p2 => ⟨t, us, by rw [ex], kp, stx, kx _ _ fl (kA _ _ ef), e, l0 g, p1, p2⟩
      have hm := List.mem_of_getElem? hx
      simp only [List.mem_cons, List.not_mem_nil, or_false] at hm
      rcases hm with hm | hm | hm | hm | hm | hm
      · exact fin t1 ["begin", "read", "write", "commit"] hm g1 (kx _ _ (l0 g1) e1) (by decide) (by decide)
      · exact fin t2 ["immediate", "write", "commit"] hm g2 (kx _ _ (l0 g2) e2) (by decide) (by decide)
      · exact fin t3 ["write", "read"] hm g3 (kx _ _ (l0 g3) e3) (by decide) (by decide)
      · exact fin t4 ["start", "begin", "write"] hm g4 (kx _ _ (l0 g4) e4) (by decide) (by decide)
      · exact fin t5 ["begin", "read", "commit"] hm g5 (kx _ _ (l0 g5) e5) (by decide) (by decide)
      · exact fin t6 ["exclusive", "read", "commit"] hm g6 (kx _ _ (l0 g6) e6) (by decide) (by decide)
    rintro σ H1 ⟨u, us, rfl, kp1, st1, f1, u1, ul, up, u4⟩
    have wl : (wordsV us).length = us.length := List.length_map _
    refine ⟨.ref l, rfl, .ref u, rfl, u, _, rfl, .inr (sqt u1), 2, _, rfl, rfl, .inl ⟨by decide, by decide⟩, l, c, ns, _, rfl, by rw [wl]; omega, by rw [wl]; omega, st1, fun H2 upto kk2 st2 u0 u9 => ?_⟩
    have f2 := kk2 _ _ fl f1
    have u2 := kk2 _ _ ul u1
    refine ⟨.int many, rfl, .ref l, rfl, l, c, ns, 3, rfl, by decide, by decide, st2, fun H3 d kk3 st3 d0 d3 => ?_⟩
    have f3 := kk3 _ _ fl f2
    have u3 := kk3 _ _ ul u2
    have kp3 : Kp l H H3 := (kp1.trans kk2).trans kk3
    refine ⟨.int many, rfl, _, _, rfl, rfl, .inr ⟨_, rfl, _, _, rfl, rfl, ?_, _, _, rfl, rfl, _, rfl, ?_, ?_, ?_⟩⟩
    · exact .inl ⟨by omega, by omega⟩
    · split <;> omega
    · split <;> omega
    generalize eJ : (many - d * if decide (many > 2) = true then 1 else 0) = j
    have j8 : j.toNat ≤ 8 := by
      rw [← eJ]
      split <;> omega
    refine for_range (n := j.toNat) (fun i σ H' => ∃ (ws : List Str) (y7 y8 y9 : Option V), σ = [some (.ref l), some (.int many), some (.ref f), some (.bl (oA ws false)), some (.bl (rA ws false)), some (.ref u), some (.int upto), y7, y8, y9] ∧ ws.length = i ∧ okS ws false false = true ∧ Kp l H H' ∧ Stt H' l c ns ∧ H' f = some (.lst (wordsV ws)) ∧ H' u = some (.tup (wordsV us)))
      ⟨[], none, none, none, rfl, rfl, rfl, kp3, st3, f3, u3⟩ ?turn ?after
    case after =>
      rintro σ H4 ⟨ws, y7, y8, y9, rfl, hlen, ok, kp4, st4, f4, _⟩
      refine ⟨.ref f, rfl, f, _, rfl, .inl ⟨sq f4, fun t nt => ?_⟩⟩
      have n0 : H t = none := by
        cases e : H t with
        | none => rfl
        | some o =>
          by_cases h : t = l
          · obtain ⟨⟨_, _, _, hl⟩, _⟩ := st4
            rw [h, hl] at nt
            cases nt
          · rw [kp4 t o h e] at nt
            cases nt
      refine q _ t ws (fun b o n e => ?_) (st4.up (Al.refl.new nt)) n0 upd_same ok (by omega)
      exact (Al.refl.new nt) _ _ (kp4 b o n e)
    case turn =>
      rintro i σ H4 hi ⟨ws, y7, y8, y9, rfl, hlen, ok, kp4, st4, f4, u4'⟩
      generalize eo : oA ws false = o at *
      generalize er : rA ws false = r at *
      have l4 : ∀ {y : Addr}, H4 y = none → y ≠ l := fun {y} e z => by
        obtain ⟨⟨_, _, _, hl⟩, _⟩ := st4
        rw [z, hl] at e
        cases e
      -- the words to choose from
      have two : ∀ r : Bool, atI [V.str "start", V.str "stop"] (if r = true then 1 else 0) = some (.str (if r = true then "stop" else "start")) := fun r => by cases r <;> rfl
      refine ⟨by show 2 ≤ sizeLine; decide, fun t1 n1 => ⟨.bl r, rfl, .inr ⟨_, rfl, t1, _, _, _, rfl, rfl, sqt upd_same, two r, by show 3 ≤ sizeLine; decide, fun s1 ns1 => ?_⟩⟩⟩
      have k1 := (Al.refl (H := H4)).new (o := .tup [.str "start", .str "stop"]) n1
      have k2 := k1.new (o := .lst ((some3 r).map V.str)) ns1
      refine ⟨fun σ H5 => ∃ (s2 : Addr) (y7 y9 : Option V), σ = [some (.ref l), some (.int many), some (.ref f), some (.bl o), some (.bl r), some (.ref u), some (.int upto), some (.int (0 + (i : Nat))), some (.ref s2), y9] ∧ Al H4 H5 ∧ H4 s2 = none ∧ H5 s2 = some (.lst ((someL o r).map V.str)), ?_, ?_⟩
      · refine ⟨.bl o, rfl, o, rfl, ?_⟩
        cases o with
        | true =>
          refine iteT ⟨.ref s1, rfl, by show 5 ≤ sizeLine; decide, fun p np => ⟨s1, p, _, _, rfl, rfl, (upd_ne (ne_of_none upd_same np)).trans upd_same, upd_same, by show 3 + 5 ≤ sizeLine; decide, fun s2 ns2 => ?_⟩⟩
          have k3 := (k2.new (o := .lst [.str "commit", .str "rollback", .str "read", .str "write", .str "commit"]) np)
          exact ⟨s2, none, y9, rfl, k3.new ns2, k3.gone ns2, upd_same⟩
        | false =>
          refine iteF ⟨.ref s1, rfl, by show 4 ≤ sizeLine; decide, fun p np => ⟨s1, p, _, _, rfl, rfl, (upd_ne (ne_of_none upd_same np)).trans upd_same, upd_same, by show 3 + 4 ≤ sizeLine; decide, fun s2 ns2 => ?_⟩⟩
          have k3 := (k2.new (o := .lst [.str "begin", .str "begin", .str "immediate", .str "exclusive"]) np)
          exact ⟨s2, none, y9, rfl, k3.new ns2, k3.gone ns2, upd_same⟩
      rintro σ H5 ⟨s2, _, y9', rfl, k5, ns2, hs2⟩
      obtain ⟨sp, s8⟩ := someL_len o r
      have sl : s2 ≠ l := l4 ns2
      refine ⟨.ref l, rfl, .ref s2, rfl, l, c, ns, s2, _, rfl, hs2, sl, by rw [List.length_map]; exact sp, by rw [List.length_map]; omega, st4.up k5, fun H6 dd x kx st6 hx => ?_⟩
      obtain ⟨w0, hw0, rfl⟩ : ∃ w ∈ someL o r, x = .str w := by
        obtain ⟨w, hw, e⟩ := List.mem_map.mp (List.mem_of_getElem? hx)
        exact ⟨w, hw, e.symm⟩
      have kp6 : Kp l H H6 := fun b o n e => kx b o n (k5 _ _ (kp4 b o n e))
      have f6 : H6 f = some (.lst (wordsV ws)) := kx _ _ fl (k5 _ _ f4)
      have u6 : H6 u = some (.tup (wordsV us)) := kx _ _ ul (k5 _ _ u4')
      have s6 : H6 s2 = some (.lst ((someL o r).map V.str)) := kx _ _ sl hs2
      refine ⟨fun σ H7 => H7 = H6 ∧ ∃ w ∈ someL o r, σ = [some (.ref l), some (.int many), some (.ref f), some (.bl o), some (.bl r), some (.ref u), some (.int upto), some (.int (0 + (i : Nat))), some (.ref s2), some (.str w)], ?_, ?_⟩
      · refine ⟨.int (0 + (i : Nat)), rfl, .int upto, rfl, .ref u, rfl, u, _, rfl, .inr (sqt u6), _, _, rfl, _, _, rfl, rfl, _, rfl, ite2 (fun e => ?_) (fun e => iteF ⟨rfl, w0, hw0, rfl⟩)⟩
        have hiu : i < us.length := by
          have z := of_decide_eq_true e
          rw [wl] at z
          split at z <;> omega
        have at1 : atI (wordsV us) (0 + (i : Nat)) = some (.str us[i]) := by
          rw [Int.zero_add]
          refine atI_nat ?_
          unfold wordsV
          rw [List.getElem?_map, List.getElem?_eq_getElem hiu]
          rfl
        refine ⟨.ref u, rfl, .int (0 + (i : Nat)), rfl, u, _, _, _, rfl, rfl, sqt u6, at1, .ref s2, rfl, s2, _, rfl, .inl (sq s6), rfl, ?_, inW us[i] (someL o r), rfl, ite2 (fun e2 => ?_) (fun _ => ⟨rfl, w0, hw0, rfl⟩)⟩
        · have flat : ∀ l : List Str, (l.map V.str).all flatV = true := fun l => by
            rw [List.all_map, List.all_eq_true]
            exact fun _ _ => rfl
          exact flat _
        · exact ⟨.ref u, rfl, .int (0 + (i : Nat)), rfl, u, _, _, _, rfl, rfl, sqt u6, at1, rfl, us[i], inW_mem.mp e2, rfl⟩
      rintro σ H7 ⟨rfl, v, hv, rfl⟩
      -- it is put behind
      refine ⟨.ref f, rfl, .inl ⟨rfl, _, sq f6⟩, .str v, rfl, f, _, _, rfl, rfl, f6, ?_, ?_⟩
      · unfold wordsV
        rw [List.length_map]
        exact small1000 (by omega)
      have f8 : upd H7 f (.lst (wordsV ws ++ [.str v])) f = some (.lst (wordsV (ws ++ [v]))) := by
        rw [upd_same]
        unfold wordsV
        rw [List.map_append]
        rfl
      have kp8 : Kp l H (upd H7 f (.lst (wordsV ws ++ [.str v]))) := fun b o n e => by
        rw [upd_ne (ne_of_none e nfH)]
        exact kp6 b o n e
      have cf : c ≠ f := fun z => by
        obtain ⟨_, hc, _, _⟩ := st
        rw [z, nfH] at hc
        cases hc
      have st8 : Stt (upd H7 f (.lst (wordsV ws ++ [.str v]))) l c ns := by
        obtain ⟨⟨a1, a2, a3, a4⟩, b1, b2, b3⟩ := st6
        exact ⟨⟨a1, a2, a3, (upd_ne (Ne.symm fl)).trans a4⟩, (upd_ne cf).trans b1, b2, b3⟩
      have uf : u ≠ f := fun z => by
        rw [z, f6] at u6
        cases u6
      have u8 : upd H7 f (.lst (wordsV ws ++ [.str v])) u = some (.tup (wordsV us)) := (upd_ne uf).trans u6
      generalize eH8 : upd H7 f (.lst (wordsV ws ++ [.str v])) = H8 at f8 kp8 st8 u8
      have ok8 : okS (ws ++ [v]) false false = true := okS_snoc v ws false false ok (by rw [eo, er]; exact someL_may o r v hv)
      refine ⟨fun σ H9 => σ = [some (.ref l), some (.int many), some (.ref f), some (.bl (opnB v o)), some (.bl r), some (.ref u), some (.int upto), some (.int (0 + (i : Nat))), some (.ref s2), some (.str v)] ∧ Al H8 H9, ?_, ?_⟩
      · refine ⟨.str v, rfl, by show 2 ≤ sizeLine; decide, fun t1 n1 => ?_⟩
        have k1 := (Al.refl (H := H8)).new (o := .tup [.str "commit", .str "rollback"]) n1
        refine ⟨t1, _, rfl, .inr (sqt upd_same), rfl, rfl, _, rfl, ite2 (fun e1 => ?_) (fun e1 => ?_)⟩
        · have f1 : (!inW v ["commit", "rollback"]) = true := e1
          refine ⟨.bl o, rfl, o, rfl, ite2 (fun e2 => ?_) (fun e2 => ?_)⟩
          · refine ⟨?_, k1⟩
            unfold opnB
            rw [f1, e2]
            rfl
          · refine ⟨.str v, rfl, by show 3 ≤ sizeLine; decide, fun t2 n2 => ?_⟩
            have k2 := k1.new (o := .tup [.str "begin", .str "immediate", .str "exclusive"]) n2
            refine ⟨t2, _, rfl, .inr (sqt upd_same), rfl, rfl, ?_, k2⟩
            unfold opnB
            rw [f1, Bool.eq_false_iff.mpr e2]
            rfl
        · refine ⟨?_, k1⟩
          have f1 : (!inW v ["commit", "rollback"]) = false := Bool.eq_false_iff.mpr e1
          unfold opnB
          rw [f1]
          rfl
      rintro σ H9 ⟨rfl, k9⟩
      have fin : ∀ b : Bool, b = rdsB v r → ∃ (ws : List Str) (y7 y8 y9 : Option V), [some (V.ref l), some (.int many), some (.ref f), some (.bl (opnB v o)), some (.bl b), some (.ref u), some (.int upto), some (.int (0 + (i : Nat))), some (.ref s2), some (.str v)] = [some (.ref l), some (.int many), some (.ref f), some (.bl (oA ws false)), some (.bl (rA ws false)), some (.ref u), some (.int upto), y7, y8, y9] ∧ ws.length = i + 1 ∧ okS ws false false = true ∧ Kp l H H9 ∧ Stt H9 l c ns ∧ H9 f = some (.lst (wordsV ws)) ∧ H9 u = some (.tup (wordsV us)) := fun b eb =>
        ⟨ws ++ [v], some (.int (0 + (i : Nat))), some (.ref s2), some (.str v), by rw [oA_snoc, rA_snoc, eo, er, eb], by simp [hlen], ok8, fun b o n e => k9 _ _ (kp8 b o n e), st8.up k9, k9 _ _ f8, k9 _ _ u8⟩
      refine ⟨.str v, rfl, rfl, _, rfl, ite2 (fun e1 => ?_) (fun e1 => ?_)⟩
      · have f1 : (!decide (v = "stop")) = true := by
          rw [← eq_str]
          exact e1
        refine ⟨.bl r, rfl, r, rfl, ite2 (fun e2 => ?_) (fun e2 => ?_)⟩
        · refine fin _ ?_
          unfold rdsB
          rw [f1, e2]
          rfl
        · refine ⟨.str v, rfl, rfl, fin _ ?_⟩
          unfold rdsB
          rw [f1, Bool.eq_false_iff.mpr e2, eq_str]
          rfl
      · refine fin _ ?_
        have f1 : (!decide (v = "stop")) = false := by
          rw [← eq_str]
          exact Bool.eq_false_iff.mpr e1
        unfold rdsB
        rw [f1]
        rfl
end
end Lk

namespace Lk
open PySem PySem.Calls PyProof.Rows PySem.Spec L2 Drw Err
theorem scScripts : FnScope ["_law_state", "_law_most", "_law_many", "_law_k"] ["_law_state", "_law_most", "_law_many"] (defScope sScripts) := ⟨rfl, rfl, rfl, by decide +kernel, rfl, by decide +kernel, by decide +kernel⟩
theorem gone_kp {l c : Addr} {ns : List Int} {H H' : Hp} {t : Addr} (k : Kp l H H') (st : Stt H' l c ns) (h : H' t = none) : H t = none := by
  cases e : H t with
  | none => rfl
  | some o =>
    by_cases z : t = l
    · obtain ⟨⟨_, _, _, hl⟩, _⟩ := st
      rw [z, hl] at h
      cases h
    · rw [k t o z e] at h
      cases h
def spScripts : Sp := fun vs H Q _ => ∃ (l c : Addr) (ns : List Int) (most many : Int), vs = [.ref l, .int most, .int many] ∧ 0 < most ∧ most ≤ 4 ∧ 0 ≤ many ∧ many ≤ 8 ∧ Stt H l c ns ∧
  ∀ H' t ss, Kp l H H' → Stt H' l c ns → H t = none → Kids H' t (ss.map wordsV) → okAll ss → Q (.ref t) H'
section
variable {P : Program} {w : World} {K : PySem.W.Frag} {mg : Str → Option Value} {base : Heap}
theorem ok_scripts {f fS fT : Addr} {fd dS dT : FuncData} (F : Fun K "_law_scripts" "_law_scripts" sScripts f fd) (S : Can P w K mg base CX0 4 "_law_script" ["_law_state", "_law_many"] spScript fS dS) (T : Can P w K mg base CX0 2 "_law_take" ["_law_state", "_law_many"] spTake fT dT)
    (mr : mg "range" = none) (mt : mg "tuple" = none) : FnOk P w K mg base CX0 5 f fd ["_law_state", "_law_most", "_law_many"] spScripts := by
  refine F.ok scScripts (fun vs H Q E h => ?_) (fun cdv A outer s H vs Q E hr h => ?_)
  · obtain ⟨l, c, ns, most, many, rfl, _⟩ := h
    rfl
  · obtain ⟨l, c, ns, most, many, rfl, p0, p4, m0, m8, st, q⟩ := h
    refine ⟨_, pss_one (ps_ret (pe_callTy call_tuple_of (by rfl) mt (by decide +kernel) (pa_cons (pe_lc (own := [("_law_k", 3)]) (g := gName 3) (tt := tYes) rfl scScripts.nd (pi_range1 (by rfl) mr (pa_cons (pe_op op_add pe_int (pe_call T.G (hr.mono (by decide)) (by rfl) T.g T.kp T.b .nil pass0 (pa_cons (pv 0) (pa_cons (pv 1) pa_nil)))) pa_nil))
      (blkOk_by (N := ["_law_state", "_law_most", "_law_many", "_law_k"]) (sc := defScope sScripts) (by decide +kernel)) (fun _ _ _ _ _ => pg_name (i := 3) scScripts.nd rfl (Or.inl rfl)) (fun _ _ _ _ _ => pts_nil)
      (fun _ _ _ _ _ => pe_call S.G hr (by rfl) S.g S.kp S.b .nil pass0 (pa_cons (pv 0) (pa_cons (pv 2) pa_nil)))) pa_nil))), ?_⟩
    refine ⟨.ref l, rfl, .int most, rfl, l, c, ns, most, rfl, p0, by omega, st, fun H1 d k1 st1 d0 d1 => ?_⟩
    refine ⟨_, _, rfl, rfl, _, rfl, by omega, by omega, fun D nD => ?_⟩
    have nDm : H1 D = none := nD
    have Dl : D ≠ l := fun z => by
      obtain ⟨⟨_, _, _, hl⟩, _⟩ := st1
      rw [z, hl] at nDm
      cases nDm
    have Dc : D ≠ c := fun z => by
      obtain ⟨_, hc, _⟩ := st1
      rw [z, hc] at nDm
      cases nDm
    have stUp : ∀ {H' : Hp} {o : HO}, Stt H' l c ns → Stt (upd H' D o) l c ns := fun {H' o} ⟨⟨a1, a2, a3, a4⟩, b1, b2, b3⟩ => ⟨⟨a1, a2, a3, (upd_ne (Ne.symm Dl)).trans a4⟩, (upd_ne (Ne.symm Dc)).trans b1, b2, b3⟩
    have n4 : (1 + d).toNat ≤ 4 := by omega
    have n1 : 1 ≤ (1 + d).toNat := by omega
    generalize (1 + d).toNat = n at n4 n1
    refine lc_range (n := n) (fun i H' => Kp l H1 H' ∧ Stt H' l c ns ∧ ∃ (ys : List V) (ss : List (List Str)), H' D = some (.lst ys) ∧ ys.length = i ∧ ss.length = i ∧ (∀ ws ∈ ss, ws.length ≤ 8 ∧ okS ws false false = true) ∧ ∀ (j : Nat) ws, ss[j]? = some ws → ∃ a, ys[j]? = some (.ref a) ∧ H' a = some (.tup (wordsV ws)))
      ⟨fun b o n e => (upd_ne (ne_of_none e nDm)).trans e, stUp st1, [], [], upd_same, rfl, rfl, fun ws h => (by cases h), fun j ws h => (by cases h)⟩ (fun i H' hi hI => ?_) (fun H' hI => ?_)
    · obtain ⟨k2, st2, ys, ss, hy, yl, sl, ok, hs⟩ := hI
      refine ⟨rfl, .ref l, rfl, .int many, rfl, l, c, ns, many, rfl, m0, m8, st2, fun H3 t ws k3 st3 nt ht okw w8 => ?_⟩
      have y3 := k3 _ _ Dl hy
      have tD : t ≠ D := fun z => by
        rw [z, hy] at nt
        cases nt
      refine ⟨ys, y3, by rw [yl]; exact small1000 (by omega), fun b o n e => ?_, stUp st3, ys ++ [.ref t], ss ++ [ws], upd_same, by simp [yl], by simp [sl], fun v hv => ?_, fun j v e => ?_⟩
      · rw [upd_ne (ne_of_none e nDm)]
        exact k3 b o n (k2 b o n e)
      · rcases List.mem_append.mp hv with h | h
        · exact ok v h
        · rw [List.mem_singleton.mp h]
          exact ⟨w8, okw⟩
      · rcases Nat.lt_or_ge j i with h | h
        · rw [List.getElem?_append_left (by omega)] at e
          obtain ⟨a, e1, e2⟩ := hs j v e
          have aD : a ≠ D := fun z => by
            rw [z, hy] at e2
            cases e2
          have al : a ≠ l := fun z => by
            obtain ⟨⟨_, _, _, hl⟩, _⟩ := st2
            rw [z, hl] at e2
            cases e2
          refine ⟨a, by rw [List.getElem?_append_left (by omega)]; exact e1, ?_⟩
          rw [upd_ne aD]
          exact k3 _ _ al e2
        · rw [List.getElem?_append_right (by omega)] at e
          have j0 : j = i := by
            have z := (List.getElem?_eq_some_iff.mp e).1
            rw [List.length_singleton] at z
            omega
          subst j0
          rw [sl, Nat.sub_self] at e
          obtain rfl := Option.some.inj e
          refine ⟨t, by rw [List.getElem?_append_right (by omega), yl, Nat.sub_self]; rfl, ?_⟩
          rw [upd_ne tD]
          exact ht
    · obtain ⟨k2, st2, ys, ss, hy, yl, sl, ok, hs⟩ := hI
      refine ⟨D, ys, rfl, .inl ⟨sq hy, fun t nt => ?_⟩⟩
      have k9 : Kp l H (upd H' t (.tup ys)) := fun b o n e => by
        have z := k2 b o n (k1 b o n e)
        rw [upd_ne (ne_of_none z nt)]
        exact z
      refine q _ t ss k9 (st2.up (Al.refl.new nt)) (gone_kp (k1.trans k2) st2 nt) ⟨ys, upd_same, by rw [List.length_map, yl, sl], fun j k e => ?_⟩ ⟨by omega, by omega, ok⟩
      rw [List.getElem?_map] at e
      cases e1 : ss[j]? with
      | none =>
        rw [e1] at e
        cases e
      | some ws =>
        rw [e1] at e
        obtain rfl : wordsV ws = k := Option.some.inj e
        obtain ⟨a, z1, z2⟩ := hs j ws e1
        refine ⟨a, z1, ?_⟩
        rw [upd_ne (ne_of_none z2 nt)]
        exact z2
end
end Lk

/-! Data as it is handed on: lists or tuples at each level. -/
namespace Lk
open PySem PySem.Calls PyProof.Rows PySem.Spec L2 Drw Err
/-- numbers, truths, texts that are told shortly -/
inductive Lf : V → PyData → Prop
  | int (i : Int) (h : (PyData.int i).shown.length ≤ 40) (h2 : (PyData.int i).showable = true) : Lf (.int i) (.int i)
  | bl (b : Bool) : Lf (.bl b) (.bool b)
  | str (s : Str) (h : (PyData.str s).shown.length ≤ 40) : Lf (.str s) (.str s)
inductive Mx (H : Hp) : Nat → V → PyData → Prop
  | leaf (n : Nat) {x : V} {d : PyData} (h : Lf x d) : Mx H n x d
  | lst {n : Nat} {a : Addr} {xs : List V} {ds : List PyData} : H a = some (.lst xs) → xs.length = ds.length → xs.length ≤ 100 → (∀ (i : Nat) x d, xs[i]? = some x → ds[i]? = some d → Mx H n x d) → Mx H (n + 1) (.ref a) (.list ds)
  | tup {n : Nat} {a : Addr} {xs : List V} {ds : List PyData} : H a = some (.tup xs) → xs.length = ds.length → xs.length ≤ 100 → (∀ (i : Nat) x d, xs[i]? = some x → ds[i]? = some d → Mx H n x d) → Mx H (n + 1) (.ref a) (.tuple ds)
theorem Mx.al {H H' : Hp} (k : Al H H') : ∀ {n : Nat} {x : V} {d : PyData}, Mx H n x d → Mx H' n x d := by
  intro n x d h
  induction h with
  | leaf n h => exact .leaf n h
  | lst h1 h2 h3 _ ih => exact .lst (k _ _ h1) h2 h3 ih
  | tup h1 h2 h3 _ ih => exact .tup (k _ _ h1) h2 h3 ih
/-- the same but for lists and tuples -/
inductive Shp : Nat → PyData → PyData → Prop
  | same (n : Nat) (d : PyData) : Shp n d d
  | ll {n : Nat} {ds es : List PyData} : ds.length = es.length → (∀ (i : Nat) d e, ds[i]? = some d → es[i]? = some e → Shp n d e) → Shp (n + 1) (.list ds) (.list es)
  | lt {n : Nat} {ds es : List PyData} : ds.length = es.length → (∀ (i : Nat) d e, ds[i]? = some d → es[i]? = some e → Shp n d e) → Shp (n + 1) (.list ds) (.tuple es)
  | tl {n : Nat} {ds es : List PyData} : ds.length = es.length → (∀ (i : Nat) d e, ds[i]? = some d → es[i]? = some e → Shp n d e) → Shp (n + 1) (.tuple ds) (.list es)
  | tt {n : Nat} {ds es : List PyData} : ds.length = es.length → (∀ (i : Nat) d e, ds[i]? = some d → es[i]? = some e → Shp n d e) → Shp (n + 1) (.tuple ds) (.tuple es)
/-! ### what repr tells of it -/
theorem textFrom_le : ∀ (ts : List Str) (k : Nat) (acc : Str), (textFrom k acc ts).length ≤ acc.length + (ts.map fun t => t.length + 2).sum
  | [], k, acc => Nat.le_refl _
  | t :: r, k, acc => by
    have h := textFrom_le r (k + 1) (acc ++ (if k > 0 then ", " else "" : String) ++ t)
    have e : (acc ++ (if k > 0 then ", " else "" : String) ++ t).length ≤ acc.length + 2 + t.length := by
      rw [strLen_append, strLen_append]
      split
      · have z : ((", " : String) : Str).length = 2 := rfl
        omega
      · have z : (("" : String) : Str).length = 0 := rfl
        omega
    have h2 : (textFrom k acc (t :: r)).length ≤ (acc ++ (if k > 0 then ", " else "" : String) ++ t).length + (r.map fun t => t.length + 2).sum := h
    rw [List.map_cons, List.sum_cons]
    omega
theorem listText_le (ts : List Str) : (listText ts).length ≤ (ts.map fun t => t.length + 2).sum + 2 := by
  have h := textFrom_le ts 0 "["
  have e : (listText ts).length = (textFrom 0 "[" ts).length + 1 := by
    unfold listText
    rw [strLen_append]
    rfl
  have z : (("[" : String) : Str).length = 1 := rfl
  omega
theorem join_le : ∀ ts : List Str, (Str.join ", " ts).length ≤ (ts.map fun t => t.length + 2).sum
  | [] => Nat.le_refl _
  | [x] => by
    show x.length ≤ _
    simp
  | x :: y :: r => by
    have ih := join_le (y :: r)
    show (x ++ ", " ++ Str.join ", " (y :: r)).length ≤ _
    rw [strLen_append, strLen_append, List.map_cons, List.sum_cons]
    have z : ((", " : String) : Str).length = 2 := rfl
    omega
theorem tupleText_le (ts : List Str) : (tupleText ts).length ≤ (ts.map fun t => t.length + 2).sum + 3 := by
  have h := join_le ts
  unfold tupleText
  rw [strLen_append, strLen_append]
  have z : (("(" : String) : Str).length = 1 := rfl
  split
  · have y : ((",)" : String) : Str).length = 2 := rfl
    omega
  · have y : ((")" : String) : Str).length = 1 := rfl
    omega
theorem sum_bound {B : Nat} : ∀ ts : List Str, (∀ t ∈ ts, t.length ≤ B) → (ts.map fun t => t.length + 2).sum ≤ ts.length * (B + 2)
  | [], _ => Nat.zero_le _
  | t :: r, h => by
    have h1 := h t (List.mem_cons_self ..)
    have h2 := sum_bound r fun u hu => h u (List.mem_cons_of_mem _ hu)
    rw [List.map_cons, List.sum_cons, List.length_cons, Nat.succ_mul]
    omega
theorem shownAll_eq : ∀ ds : List PyData, PyData.shownAll ds = ds.map PyData.shown
  | [] => by rw [PyData.shownAll]; rfl
  | d :: ds => by rw [PyData.shownAll, shownAll_eq ds, List.map_cons]
theorem showableAll_eq : ∀ ds : List PyData, PyData.showableAll ds = ds.all PyData.showable
  | [] => by rw [PyData.showableAll]; rfl
  | d :: ds => by rw [PyData.showableAll, showableAll_eq ds, List.all_cons]
theorem hasDictAll_eq : ∀ ds : List PyData, PyData.hasDictAll ds = ds.any PyData.hasDict
  | [] => by rw [PyData.hasDictAll]; rfl
  | d :: ds => by rw [PyData.hasDictAll, hasDictAll_eq ds, List.any_cons]
theorem depthAll_le {n : Nat} : ∀ ds : List PyData, (∀ d ∈ ds, d.depth ≤ n) → PyData.depthAll ds ≤ n
  | [], _ => by rw [PyData.depthAll]; exact Nat.zero_le _
  | d :: ds, h => by
    rw [PyData.depthAll]
    exact Nat.max_le.mpr ⟨h d (List.mem_cons_self ..), depthAll_le ds fun e he => h e (List.mem_cons_of_mem _ he)⟩
def most : Nat → Nat
  | 0 => 40
  | n + 1 => 100 * (most n + 2) + 3
theorem most_ge : ∀ n, 40 ≤ most n
  | 0 => Nat.le_refl _
  | n + 1 => by
    have h := most_ge n
    show 40 ≤ 100 * (most n + 2) + 3
    omega
/-- what repr asks -/
def Tell (n : Nat) (d : PyData) : Prop := d.showable = true ∧ d.hasDict = false ∧ d.depth ≤ n ∧ d.shown.length ≤ most n
theorem Lf.tell {x : V} {d : PyData} (h : Lf x d) (n : Nat) : Tell n d := by
  have m := most_ge n
  cases h with
  | int i h h2 => exact ⟨h2, by rw [PyData.hasDict], by rw [PyData.depth]; exact Nat.zero_le _, by omega⟩
  | bl b =>
    refine ⟨by rw [PyData.showable], by rw [PyData.hasDict], by rw [PyData.depth]; exact Nat.zero_le _, Nat.le_trans ?_ m⟩
    cases b <;> decide +kernel
  | str s h => exact ⟨by rw [PyData.showable], by rw [PyData.hasDict], by rw [PyData.depth]; exact Nat.zero_le _, by omega⟩
theorem tell_seq {n : Nat} {ds : List PyData} (hl : ds.length ≤ 100) (h : ∀ d ∈ ds, Tell n d) : Tell (n + 1) (.list ds) ∧ Tell (n + 1) (.tuple ds) := by
  have s1 : PyData.showableAll ds = true := by
    rw [showableAll_eq, List.all_eq_true]
    exact fun d hd => (h d hd).1
  have s2 : PyData.hasDictAll ds = false := by
    rw [hasDictAll_eq, List.any_eq_false]
    exact fun d hd => by rw [(h d hd).2.1]; exact Bool.false_ne_true
  have s3 := depthAll_le ds fun d hd => (h d hd).2.2.1
  have s4 : ((PyData.shownAll ds).map fun t => t.length + 2).sum ≤ 100 * (most n + 2) := by
    have z := sum_bound (B := most n) (PyData.shownAll ds) fun t ht => by
      rw [shownAll_eq] at ht
      obtain ⟨d, hd, rfl⟩ := List.mem_map.mp ht
      exact (h d hd).2.2.2
    have l : (PyData.shownAll ds).length = ds.length := by rw [shownAll_eq, List.length_map]
    rw [l] at z
    exact Nat.le_trans z (Nat.mul_le_mul_right _ hl)
  have m : most (n + 1) = 100 * (most n + 2) + 3 := rfl
  refine ⟨⟨by rw [PyData.showable]; exact s1, by rw [PyData.hasDict]; exact s2, by rw [PyData.depth]; omega, ?_⟩, ⟨by rw [PyData.showable]; exact s1, by rw [PyData.hasDict]; exact s2, by rw [PyData.depth]; omega, ?_⟩⟩
  · rw [PyData.shown]
    have z := listText_le (PyData.shownAll ds)
    omega
  · rw [PyData.shown]
    have z := tupleText_le (PyData.shownAll ds)
    omega
theorem pair_at {α β : Type} {xs : List α} {ds : List β} {d : β} (hl : xs.length = ds.length) (h : d ∈ ds) : ∃ (i : Nat) (x : α), xs[i]? = some x ∧ ds[i]? = some d := by
  obtain ⟨i, hi⟩ := List.mem_iff_getElem?.mp h
  have z := (List.getElem?_eq_some_iff.mp hi).1
  exact ⟨i, xs[i], List.getElem?_eq_getElem (by omega), hi⟩
theorem Mx.tell {H : Hp} : ∀ {n : Nat} {x : V} {d : PyData}, Mx H n x d → Tell n d := by
  intro n x d h
  induction h with
  | leaf n h => exact h.tell n
  | lst _ h2 h3 _ ih =>
    exact (tell_seq (by omega) fun d hd => by
      obtain ⟨i, x, e1, e2⟩ := pair_at h2 hd
      exact ih i x d e1 e2).1
  | tup _ h2 h3 _ ih =>
    exact (tell_seq (by omega) fun d hd => by
      obtain ⟨i, x, e1, e2⟩ := pair_at h2 hd
      exact ih i x d e1 e2).2
theorem dpAll {K : PySem.W.Frag} {H : Hp} : ∀ (xs : List V) (ds : List PyData), xs.length = ds.length → (∀ (i : Nat) x d, xs[i]? = some x → ds[i]? = some d → Dp K H x d) → DpAll K H xs ds
  | [], [], _, _ => .nil
  | x :: xs, d :: ds, hl, h => .cons (h 0 x d rfl rfl) (dpAll xs ds (by simpa using hl) fun i y e h1 h2 => h (i + 1) y e h1 h2)
theorem Mx.dp {K : PySem.W.Frag} {H : Hp} : ∀ {n : Nat} {x : V} {d : PyData}, Mx H n x d → Dp K H x d := by
  intro n x d h
  induction h with
  | leaf n h =>
    cases h with
    | int i _ _ => exact .int i
    | bl b => exact .bl b
    | str s _ => exact .str s
  | lst h1 h2 _ _ ih => exact .lst (sq h1) (dpAll _ _ h2 ih)
  | tup h1 h2 _ _ ih => exact .tup (sqt h1) (dpAll _ _ h2 ih)
end Lk

namespace Lk
open PySem PySem.Calls PyProof.Rows PySem.Spec L2 Drw Err
theorem scHanded : FnScope ["_law_state", "_law_thing", "_law_parts", "_law_part"] ["_law_state", "_law_thing"] (defScope sHanded) := ⟨rfl, rfl, rfl, by decide +kernel, rfl, by decide +kernel, by decide +kernel⟩
def spHand (n : Nat) : Sp := fun vs H Q _ => ∃ (l c : Addr) (ns : List Int) (x : V) (d : PyData) (G : Hp), vs = [.ref l, x] ∧ Stt H l c ns ∧ Al G H ∧ G l = none ∧ Mx G n x d ∧
  ∀ H' y e G', Kp l H H' → Stt H' l c ns → Al G G' → Al G' H' → (∀ b o, G' b = some o → G b = some o ∨ H b = none) → Mx G' n y e → Shp n d e → Q y H'
theorem Lf.ty {K : PySem.W.Frag} {H : Hp} {x : V} {d : PyData} (l : Lf x d) : ∃ t : String, TyX K H x (.type t) ∧ PySem.W.kitAny K (.type t) [.type "list", .type "tuple"] = some false := by
  cases l with
  | int i _ _ => exact ⟨_, .base (.int i), no1 (kit_ty (by decide +kernel)) (no1 (kit_ty (by decide +kernel)) kitAny_nil)⟩
  | bl b => exact ⟨_, .base (.bl b), no1 (kit_ty (by decide +kernel)) (no1 (kit_ty (by decide +kernel)) kitAny_nil)⟩
  | str s _ => exact ⟨_, .base (.str s), no1 (kit_ty (by decide +kernel)) (no1 (kit_ty (by decide +kernel)) kitAny_nil)⟩
theorem Mx.split {G : Hp} {n : Nat} {x : V} {d : PyData} (h : Mx G n x d) : Lf x d ∨ ∃ (m : Nat) (a : Addr) (xs : List V) (ds : List PyData), n = m + 1 ∧ x = .ref a ∧ Sp' G a xs ∧ (d = .list ds ∨ d = .tuple ds) ∧ xs.length = ds.length ∧ xs.length ≤ 100 ∧ ∀ (i : Nat) x d, xs[i]? = some x → ds[i]? = some d → Mx G m x d := by
  cases h with
  | leaf n lf => exact .inl lf
  | lst ga hl h100 hx => exact .inr ⟨_, _, _, _, rfl, rfl, .inl ga, .inl rfl, hl, h100, hx⟩
  | tup ga hl h100 hx => exact .inr ⟨_, _, _, _, rfl, rfl, .inr ga, .inr rfl, hl, h100, hx⟩
theorem shp_to {n : Nat} {ds es : List PyData} {d : PyData} (h : d = .list ds ∨ d = .tuple ds) (hl : ds.length = es.length) (hx : ∀ (i : Nat) d e, ds[i]? = some d → es[i]? = some e → Shp n d e) : Shp (n + 1) d (.list es) ∧ Shp (n + 1) d (.tuple es) := by
  rcases h with rfl | rfl
  · exact ⟨.ll hl hx, .lt hl hx⟩
  · exact ⟨.tl hl hx, .tt hl hx⟩
section
variable {P : Program} {w : World} {K : PySem.W.Frag} {mg : Str → Option Value} {base : Heap}
theorem ok_handed {f fT : Addr} {fd dT : FuncData} (F : Fun K "_law_handed" "_law_handed" sHanded f fd) (bS : Binds K fd ["_law_state", "_law_thing"] []) (gS : mg "_law_handed" = some (.ref f)) (T : Can P w K mg base CX0 2 "_law_take" ["_law_state", "_law_many"] spTake fT dT)
    (mi : mg "isinstance" = none) (m_list : mg "list" = none) (m_tuple : mg "tuple" = none) : ∀ n : Nat, FnOk P w K mg base CX0 (n + 3) f fd ["_law_state", "_law_thing"] (spHand n) := by
  have step : ∀ (k n : Nat) (G : FnOk P w K mg base CX0 (k + 2) f fd ["_law_state", "_law_thing"] fun vs H Q E => 0 < n ∧ spHand (n - 1) vs H Q E), FnOk P w K mg base CX0 (k + 3) f fd ["_law_state", "_law_thing"] (spHand n) := by
    intro k n GR
    refine F.ok scHanded (fun vs H Q E h => ?_) (fun cdv A outer s H vs Q E hr h => ?_)
    · obtain ⟨l, c, ns, x, d, G, rfl, _⟩ := h
      rfl
    obtain ⟨l, c, ns, x, d, G, rfl, st, kG, Gl', mx, q⟩ := h
    refine ⟨_, pss_cons (ps_if (pt_not (pt_val (pe_callB call_isiT (by rfl) mi boot_isinstance (pa_cons (pv 1) (pa_cons (pe_tup (pa_cons (pe_bltn (v := .ty "list") (by rfl) m_list (by decide +kernel) rfl) (pa_cons (pe_bltn (v := .ty "tuple") (by rfl) m_tuple (by decide +kernel) rfl) pa_nil))) pa_nil))))) (pss_one (ps_ret (pv 1))) pss_nil)
      (C8.pss_cut (ps_setLc (i := 2) (own := [("_law_part", 3)]) (g := gName 3) (tt := tYes) (te := tCall (fun vs H Q E => 0 < n ∧ spHand (n - 1) vs H Q E) [] E0 (tCons (tVar 0) (tCons (tVar 3) tNil))) (by rfl) scHanded.nd rfl rfl (sw_true rfl rfl rfl (by decide +kernel)) (pi_two (pi_list (pv 1)) (pi_tup (pv 1)))
          (blkOk_by (N := ["_law_state", "_law_thing", "_law_parts", "_law_part"]) (sc := defScope sHanded) (by decide +kernel))
          (fun _ _ _ _ _ => pg_name (i := 3) scHanded.nd rfl (Or.inl rfl)) (fun _ _ _ _ _ => pts_nil) (fun _ _ _ _ _ => pe_call GR hr (by rfl) gS F.kp bS .nil pass0 (pa_cons (pv 0) (pa_cons (pv 3) pa_nil))))
      (pss_one (ps_ret (pe_ix ix_list (pe_lst (pa_cons (pv 2) (pa_cons (pe_callTy call_tuple_of (by rfl) m_tuple (by decide +kernel) (pa_cons (pv 2) pa_nil)) pa_nil))) (pe_call T.G (hr.mono (by omega)) (by rfl) T.g T.kp T.b .nil pass0 (pa_cons (pv 0) (pa_cons pe_int pa_nil))) (fun _ _ => rfl))))), ?_⟩
    rcases mx.split with lf | ⟨m, a, xs, ds, rfl, rfl, ga, hd, hl, h100, hx⟩
    · refine ⟨x, rfl, by show 2 ≤ sizeLine; decide, fun tp ntp => ?_⟩
      have k1 := (Drw.Al.refl (H := H)).new (o := .tup [.ty "list", .ty "tuple"]) ntp
      obtain ⟨t, ty, kn⟩ := lf.ty (K := K) (H := upd H tp (.tup [.ty "list", .ty "tuple"]))
      refine ⟨x, tp, _, .type t, _, false, rfl, upd_same, .cons (.ty _) (.cons (.ty _) .nil), ty, kn, false, rfl, iteT ⟨x, rfl, ?_⟩⟩
      exact q _ x d G (fun b o n e => k1 b o e) (st.up k1) Al.refl (fun b o e => k1 b o (kG b o e)) (fun b o e => .inl e) (.leaf _ lf) (.same _ _)
    refine ⟨.ref a, rfl, by show 2 ≤ sizeLine; decide, fun tp ntp => ?_⟩
    have k1 := (Drw.Al.refl (H := H)).new (o := .tup [.ty "list", .ty "tuple"]) ntp
    have ha1 : Sp' (upd H tp (.tup [.ty "list", .ty "tuple"])) a xs := ga.imp (fun z => k1 _ _ (kG _ _ z)) fun z => k1 _ _ (kG _ _ z)
    have ty : ∃ t : String, (t = "list" ∨ t = "tuple") ∧ TyX K (upd H tp (.tup [.ty "list", .ty "tuple"])) (.ref a) (.type t) := by
      rcases ha1 with z | z
      · exact ⟨_, .inl rfl, .base (.lst z)⟩
      · exact ⟨_, .inr rfl, .base (.tup z)⟩
    obtain ⟨t, ht, ty⟩ := ty
    refine ⟨.ref a, tp, _, .type t, _, true, rfl, upd_same, .cons (.ty _) (.cons (.ty _) .nil), ty, lt2 ht, true, rfl, iteF ?_⟩
    have st1 := st.up k1
    generalize eH1 : upd H tp (.tup [.ty "list", .ty "tuple"]) = H1 at k1 ha1 st1
    -- the parts
    refine ⟨fun σ H2 => ∃ (D : Addr) (ys : List V) (es : List PyData) (G2 : Hp), σ = [some (.ref l), some (.ref a), some (.ref D), none] ∧ Kp l H H2 ∧ Stt H2 l c ns ∧ H D = none ∧ H2 D = some (.lst ys) ∧ Al G G2 ∧ Al G2 H2 ∧ G2 D = none ∧ (∀ b o, G2 b = some o → G b = some o ∨ H b = none) ∧ ys.length = es.length ∧ ds.length = es.length ∧
      (∀ (i : Nat) y e, ys[i]? = some y → es[i]? = some e → Mx G2 m y e) ∧ ∀ (i : Nat) d e, ds[i]? = some d → es[i]? = some e → Shp m d e, ?_, ?_⟩
    · have nl : ∀ {b : Addr}, H1 b = none → b ≠ l := fun {b} e z => by
        obtain ⟨⟨_, _, _, hl⟩, _⟩ := st1
        rw [z, hl] at e
        cases e
      have nc : ∀ {b : Addr}, H1 b = none → b ≠ c := fun {b} e z => by
        obtain ⟨_, hc, _⟩ := st1
        rw [z, hc] at e
        cases e
      have Inv : Addr → Nat → Hp → Prop := fun D i H2 => True
      rcases ha1 with hq | hq
      case' inl => refine .inl ⟨.ref a, rfl, a, rfl, ⟨xs, sq hq⟩, fun D nD => lc_list (xs := xs) (fun i H2 => ∃ (ys : List V) (es : List PyData) (G2 : Hp), Kp l H1 H2 ∧ Stt H2 l c ns ∧ H2 D = some (.lst ys) ∧ Al G G2 ∧ Al G2 H2 ∧ G2 D = none ∧ (∀ b o, G2 b = some o → G b = some o ∨ H b = none) ∧ ys.length = i ∧ es.length = i ∧
          (∀ (j : Nat) y e, ys[j]? = some y → es[j]? = some e → Mx G2 m y e) ∧ ∀ (j : Nat) d e, ds[j]? = some d → es[j]? = some e → Shp m d e) ?start (fun i H2 _ ⟨_, _, _, k, _⟩ => sq (k a _ ?ne hq)) ?turn ?after⟩
      case' inr => refine .inr ⟨.ref a, rfl, a, rfl, ⟨xs, sqt hq⟩, fun D nD => lc_tup (xs := xs) (fun i H2 => ∃ (ys : List V) (es : List PyData) (G2 : Hp), Kp l H1 H2 ∧ Stt H2 l c ns ∧ H2 D = some (.lst ys) ∧ Al G G2 ∧ Al G2 H2 ∧ G2 D = none ∧ (∀ b o, G2 b = some o → G b = some o ∨ H b = none) ∧ ys.length = i ∧ es.length = i ∧
          (∀ (j : Nat) y e, ys[j]? = some y → es[j]? = some e → Mx G2 m y e) ∧ ∀ (j : Nat) d e, ds[j]? = some d → es[j]? = some e → Shp m d e) ?start2 (fun i H2 _ ⟨_, _, _, k, _⟩ => sqt (k a _ ?ne2 hq)) ?turn2 ?after2⟩
      case ne | ne2 =>
        intro z
        rcases ga with g | g <;> · rw [z, Gl'] at g; cases g
      case start | start2 =>
        have gD : G D = none := by
          cases e : G D with
          | none => rfl
          | some o =>
            have z := k1 _ _ (kG _ _ e)
            rw [show H1 D = none from nD] at z
            cases z
        have Dl := nl (show H1 D = none from nD)
        have Dc := nc (show H1 D = none from nD)
        refine ⟨[], [], G, fun b o n e => (upd_ne (ne_of_none e nD)).trans e, ?_, upd_same, Al.refl, fun b o e => (Al.refl.new nD) _ _ (k1 _ _ (kG _ _ e)), gD, fun b o e => .inl e, rfl, rfl, fun j y e h => (by cases h), fun j d e _ h => (by cases h)⟩
        exact st1.up (Al.refl.new nD)
      case turn | turn2 =>
        rintro i x H2 hxi ⟨ys, es, G2, k2, st2, hy, kG2, kH2, gD, new, yl, el, my, sh⟩
        have hi : i < xs.length := (List.getElem?_eq_some_iff.mp hxi).1
        have hi2 : i < ds.length := by omega
        have hdi : ds[i]? = some ds[i] := List.getElem?_eq_getElem hi2
        have nDm : H1 D = none := nD
        have Dl := nl nDm
        have Dc := nc nDm
        have gl2 : G2 l = none := by
          cases e : G2 l with
          | none => rfl
          | some o =>
            rcases new l o e with z | z
            · rw [Gl'] at z
              cases z
            · obtain ⟨⟨_, _, _, hl⟩, _⟩ := st
              rw [hl] at z
              cases z
        refine ⟨rfl, .ref l, rfl, x, rfl, Nat.succ_pos _, l, c, ns, x, ds[i], G2, rfl, st2, kH2, gl2, (hx i x _ hxi hdi).al kG2, fun H3 y e G3 k3 st3 a1 a2 new3 my3 sh3 => ?_⟩
        have y3 := k3 _ _ Dl hy
        have g3D : G3 D = none := by
          cases z : G3 D with
          | none => rfl
          | some o =>
            rcases new3 D o z with w | w
            · rw [gD] at w
              cases w
            · rw [hy] at w
              cases w
        have st4 : Stt (upd H3 D (.lst (ys ++ [y]))) l c ns := by
          obtain ⟨⟨b1, b2, b3, b4⟩, c1, c2, c3⟩ := st3
          exact ⟨⟨b1, b2, b3, (upd_ne (Ne.symm Dl)).trans b4⟩, (upd_ne (Ne.symm Dc)).trans c1, c2, c3⟩
        refine ⟨ys, y3, by rw [yl]; exact small1000 (by omega), ys ++ [y], es ++ [e], G3, fun b o n z => ?_, st4, upd_same, kG2.trans a1, fun b o z => ?_, g3D, fun b o z => ?_, by simp [yl], by simp [el], fun j v u e1 e2 => ?_, fun j v u e1 e2 => ?_⟩
        · rw [upd_ne (ne_of_none z nDm)]
          exact k3 b o n (k2 b o n z)
        · rw [upd_ne (fun w => by rw [w, g3D] at z; cases z)]
          exact a2 _ _ z
        · rcases new3 b o z with w | w
          · exact new b o w
          · refine .inr (k1.gone ?_)
            exact gone_kp k2 st2 w
        · rcases Nat.lt_or_ge j i with h | h
          · rw [List.getElem?_append_left (by omega)] at e1 e2
            exact (my j v u e1 e2).al a1
          · rw [List.getElem?_append_right (by omega)] at e1 e2
            have j0 : j - es.length = 0 := by
              have z := (List.getElem?_eq_some_iff.mp e2).1
              rw [List.length_singleton] at z
              omega
            rw [yl, ← el, j0] at e1
            rw [j0] at e2
            obtain rfl := Option.some.inj e1
            obtain rfl := Option.some.inj e2
            exact my3
        · rcases Nat.lt_or_ge j i with h | h
          · rw [List.getElem?_append_left (by omega)] at e2
            exact sh j v u e1 e2
          · rw [List.getElem?_append_right (by omega)] at e2
            have j0 : j - es.length = 0 := by
              have z := (List.getElem?_eq_some_iff.mp e2).1
              rw [List.length_singleton] at z
              omega
            have ji : j = i := by omega
            subst ji
            rw [j0] at e2
            obtain rfl := Option.some.inj e2
            rw [hdi] at e1
            obtain rfl := Option.some.inj e1
            exact sh3
      case after | after2 =>
        rintro H2 ⟨ys, es, G2, k2, st2, hy, kG2, kH2, gD, new, yl, el, my, sh⟩
        exact ⟨D, ys, es, G2, rfl, fun b o n e => k2 b o n (k1 b o e), st2, k1.gone nD, hy, kG2, kH2, gD, new, by omega, by omega, my, sh⟩
    rintro σ H2 ⟨D, ys, es, G2, rfl, k2, st2, nD, hy, kG2, kH2, gD, new, yl, el, my, sh⟩
    refine ⟨.ref D, rfl, .ref D, rfl, D, ys, rfl, .inl ⟨sq hy, fun t nt => ⟨by show 2 ≤ sizeLine; decide, fun p np => ?_⟩⟩⟩
    have kt := (Al.refl (H := H2)).new (o := .tup ys) nt
    have kp := kt.new (o := .lst [.ref D, .ref t]) np
    have nl2 : ∀ {b : Addr}, H2 b = none → b ≠ l := fun {b} e z => by
      obtain ⟨⟨_, _, _, hl⟩, _⟩ := st2
      rw [z, hl] at e
      cases e
    refine ⟨.ref l, rfl, l, c, ns, 2, rfl, by decide, by decide, st2.up kp, fun H3 d' k3 st3 d0 d2 => ?_⟩
    have p3 := k3 p _ (nl2 (kt.gone np)) upd_same
    have Dl : D ≠ l := fun z => by
      obtain ⟨⟨_, _, _, hl⟩, _⟩ := st
      rw [z, hl] at nD
      cases nD
    have tl := nl2 nt
    have D3 : H3 D = some (.lst ys) := k3 _ _ Dl (kp _ _ hy)
    have t3 : H3 t = some (.tup ys) := k3 _ _ tl (by
      rw [upd_ne (ne_of_none upd_same np)]
      exact upd_same)
    have kp3 : Kp l H H3 := fun b o n e => k3 b o n (kp _ _ (k2 b o n e))
    have g2l : ∀ {b o}, G2 b = some o → b ≠ l := fun {b o} e z => by
      rcases new b o e with w | w
      · rw [z, Gl'] at w
        cases w
      · obtain ⟨⟨_, _, _, hl⟩, _⟩ := st
        rw [z, hl] at w
        cases w
    have kG3 : Al G2 H3 := fun b o e => k3 b o (g2l e) (kp _ _ (kH2 b o e))
    have ntH : H t = none := gone_kp k2 st2 nt
    have gt : G2 t = none := by
      cases e : G2 t with
      | none => rfl
      | some o =>
        have z := kH2 _ _ e
        rw [show H2 t = none from nt] at z
        cases z
    have put : ∀ (b : Addr) (o : HO), G2 b = none → H b = none → H3 b = some o → Al G2 (upd G2 b o) ∧ Al (upd G2 b o) H3 ∧ ∀ b' o', upd G2 b o b' = some o' → G b' = some o' ∨ H b' = none := fun b o g n e => by
      refine ⟨Al.refl.new g, fun b' o' z => ?_, fun b' o' z => ?_⟩
      · by_cases h : b' = b
        · rw [h, upd_same] at z
          rw [h, ← Option.some.inj z]
          exact e
        · rw [upd_ne h] at z
          exact kG3 _ _ z
      · by_cases h : b' = b
        · exact .inr (by rw [h]; exact n)
        · rw [upd_ne h] at z
          exact new _ _ z
    obtain ⟨sl, stu⟩ := shp_to hd el sh
    have y100 : ys.length ≤ 100 := by omega
    rcases (show d' = 0 ∨ d' = 1 by omega) with rfl | rfl
    · obtain ⟨a1, a2, a3⟩ := put D (.lst ys) gD nD D3
      refine ⟨p, _, 0, .ref D, rfl, rfl, sq p3, rfl, ?_⟩
      exact q H3 (.ref D) (.list es) _ kp3 st3 (kG2.trans a1) a2 a3 (.lst upd_same yl y100 fun i y e e1 e2 => (my i y e e1 e2).al a1) sl
    · obtain ⟨a1, a2, a3⟩ := put t (.tup ys) gt ntH t3
      refine ⟨p, _, 1, .ref t, rfl, rfl, sq p3, rfl, ?_⟩
      exact q H3 (.ref t) (.tuple es) _ kp3 st3 (kG2.trans a1) a2 a3 (.tup upd_same yl y100 fun i y e e1 e2 => (my i y e e1 e2).al a1) stu
  intro n
  induction n with
  | zero => exact step 0 0 ⟨fun vs H Q E h => absurd h.1 (Nat.lt_irrefl _), fun A outer s H args us vs Q E _ _ _ _ h => absurd h.1 (Nat.lt_irrefl _)⟩
  | succ n ih => exact step (n + 1) (n + 1) (ih.imp fun vs H Q E h => h.2)
end
end Lk

/-! What the law keeps while it runs. -/
namespace Lk
open PySem PySem.Calls PyProof.Rows PySem.Spec L2 Drw Err LamX
/-- all but the draws' state and the tables -/
def wo (l : Addr) (H : Hp) : Hp := fun b => match H b with
  | some (.tbl _) => none
  | x => if b = l then none else x
theorem wo_some {l b : Addr} {H : Hp} {o : HO} : wo l H b = some o ↔ H b = some o ∧ b ≠ l ∧ ∀ ps, o ≠ .tbl ps := by
  unfold wo
  constructor
  · intro e
    split at e
    · cases e
    · rename_i x hx
      by_cases h : b = l
      · rw [if_pos h] at e
        cases e
      · rw [if_neg h] at e
        exact ⟨e, h, fun ps z => hx ps (by rw [e, z])⟩
  · rintro ⟨e, n, t⟩
    split
    · rename_i ps hp
      rw [hp] at e
      exact absurd (Option.some.inj e).symm (t ps)
    · rw [if_neg n]
      exact e
theorem wo_al (l : Addr) (H : Hp) : Al (wo l H) H := fun b o e => (wo_some.mp e).1
theorem wo_l (l : Addr) (H : Hp) : wo l H l = none := by
  cases e : wo l H l with
  | none => rfl
  | some o => exact absurd rfl (wo_some.mp e).2.1
theorem wo_at {l b : Addr} {H : Hp} {o : HO} (h1 : b ≠ l) (h2 : ∀ ps, o ≠ .tbl ps) (e : H b = some o) : wo l H b = some o := wo_some.mpr ⟨e, h1, h2⟩
theorem wo_up {l : Addr} {H H' : Hp} (k : ∀ b o, b ≠ l → (∀ ps, o ≠ .tbl ps) → H b = some o → H' b = some o) : Al (wo l H) (wo l H') := fun b o e => by
  obtain ⟨e1, n, t⟩ := wo_some.mp e
  exact wo_at n t (k b o n t e1)
/-- the draws' state stands, the table tells code objects of one name -/
structure LI (H : Hp) (l c tab : Addr) (ns : List Int) (q : Str) : Prop where
  st : Stt H l c ns
  tb : TabS H tab q
  ne : tab ≠ l
theorem LI.at {H : Hp} {l c tab : Addr} {ns : List Int} {q : Str} (I : LI H l c tab ns q) : (∃ vs, H l = some (.lst vs) ∧ vs.length = 4) ∧ ∃ ps, H tab = some (.tbl ps) := by
  obtain ⟨⟨⟨a1, a2, a3, a4⟩, _⟩, ⟨ps, h, _⟩, _⟩ := I
  exact ⟨⟨_, a4, rfl⟩, ps, h⟩
theorem LI.al {H H' : Hp} {l c tab : Addr} {ns : List Int} {q : Str} (I : LI H l c tab ns q) (k : Al H H') : LI H' l c tab ns q := ⟨I.st.up k, I.tb.ext k, I.ne⟩
theorem LI.kp {H H' : Hp} {l c tab : Addr} {ns : List Int} {q : Str} (I : LI H l c tab ns q) (k : Kp l H H') (s : Stt H' l c ns) : LI H' l c tab ns q := by
  refine ⟨s, ?_, I.ne⟩
  obtain ⟨⟨⟨a1, a2, a3, a4⟩, _⟩, ⟨ps, h, h2, h3⟩, n⟩ := I
  refine ⟨ps, k _ _ n h, h2, fun pos cv e => ?_⟩
  obtain ⟨c', e1, e2⟩ := h3 pos cv e
  refine ⟨c', e1, k _ _ (fun z => ?_) e2⟩
  rw [z, a4] at e2
  have y := Option.some.inj e2
  unfold CodeO at y
  cases y
theorem LI.ext {H H' : Hp} {l c tab : Addr} {ns : List Int} {q : Str} (I : LI H l c tab ns q) (k : ExtN H H') (t : TabS H' tab q) : LI H' l c tab ns q := by
  refine ⟨?_, t, I.ne⟩
  obtain ⟨⟨⟨a1, a2, a3, a4⟩, b1, b2, b3⟩, _⟩ := I
  exact ⟨⟨a1, a2, a3, k _ _ a4 fun _ z => by cases z⟩, k _ _ b1 fun _ z => (by cases z), b2, b3⟩
theorem LI.off {H : Hp} {l c tab : Addr} {ns : List Int} {q : Str} (I : LI H l c tab ns q) {b : Addr} {xs : List V} (h : H b = some (.tup xs)) : wo l H b = some (.tup xs) := by
  obtain ⟨⟨vs, h1, _⟩, _⟩ := I.at
  refine wo_at (fun z => ?_) (fun _ z => by cases z) h
  rw [z, h1] at h
  cases h
theorem LI.new {H H' : Hp} {l c tab : Addr} {ns : List Int} {q : Str} (I : LI H l c tab ns q) {b : Addr} {o : HO} (n : H b = none) (t : ∀ ps, o ≠ .tbl ps) (h : H' b = some o) : wo l H' b = some o := by
  obtain ⟨⟨vs, h1, _⟩, _⟩ := I.at
  refine wo_at (fun z => ?_) t h
  rw [z, h1] at n
  cases n
theorem LI.kids {H : Hp} {l c tab : Addr} {ns : List Int} {q : Str} (I : LI H l c tab ns q) {t : Addr} {ks : List (List V)} (h : Kids H t ks) : Kids (wo l H) t ks := by
  obtain ⟨xs, h1, h2, h3⟩ := h
  refine ⟨xs, I.off h1, h2, fun i k e => ?_⟩
  obtain ⟨a, e1, e2⟩ := h3 i k e
  exact ⟨a, e1, I.off e2⟩
theorem LI.odd {H : Hp} {l c tab : Addr} {ns : List Int} {q : Str} (I : LI H l c tab ns q) {many : Int} {x : V} (h : OddAt H many x) : OddAt (wo l H) many x := by
  obtain ⟨⟨vs, h1, hl⟩, _⟩ := I.at
  have off : ∀ {b : Addr} {o : HO}, H b = some o → (∀ vs, o = .lst vs → vs.length ≠ 4) → (∀ ps, o ≠ .tbl ps) → wo l H b = some o := fun {b o} e n1 n2 => wo_at (fun z => by
    rw [z, h1] at e
    exact n1 vs (Option.some.inj e).symm hl) n2 e
  cases h with
  | int i h => exact .int i h
  | non => exact .non
  | bl b => exact .bl b
  | str s => exact .str s
  | tup h => exact .tup (off h (fun _ z => by cases z) fun _ z => by cases z)
  | lst h => exact .lst (off h (fun vs z => by cases z; decide) fun _ z => by cases z)
  | dct h => exact .dct (off h (fun _ z => by cases z) fun _ z => by cases z)
  | emp h => exact .emp (off h (fun _ z => by cases z) fun _ z => by cases z)
/-- from one heap of the law's to a later one -/
structure Go (l c tab : Addr) (ns : List Int) (q : Str) (H H' : Hp) : Prop where
  al : Al (wo l H) (wo l H')
  li : LI H' l c tab ns q
theorem LI.goA {H H' : Hp} {l c tab : Addr} {ns : List Int} {q : Str} (I : LI H l c tab ns q) (k : Al H H') : Go l c tab ns q H H' := ⟨wo_up fun b o _ _ e => k b o e, I.al k⟩
theorem LI.goK {H H' : Hp} {l c tab : Addr} {ns : List Int} {q : Str} (I : LI H l c tab ns q) (k : Kp l H H') (s : Stt H' l c ns) : Go l c tab ns q H H' := ⟨wo_up fun b o n _ e => k b o n e, I.kp k s⟩
theorem LI.goE {H H' : Hp} {l c tab : Addr} {ns : List Int} {q : Str} (I : LI H l c tab ns q) (k : ExtN H H') (t : TabS H' tab q) : Go l c tab ns q H H' := ⟨wo_up fun b o _ t e => k b o e t, I.ext k t⟩
theorem Go.trans {l c tab : Addr} {ns : List Int} {q : Str} {H H' H'' : Hp} (g : Go l c tab ns q H H') (h : Go l c tab ns q H' H'') : Go l c tab ns q H H'' := ⟨g.al.trans h.al, h.li⟩
/-- what was handed on stands off the state -/
theorem LI.hand {H H' G : Hp} {l c tab : Addr} {ns : List Int} {q : Str} (I : LI H l c tab ns q) (a2 : Al G H') (new : ∀ b o, G b = some o → wo l H b = some o ∨ H b = none) {n : Nat} {y : V} {e : PyData} (m : Mx G n y e) : Mx (wo l H') n y e := by
  obtain ⟨⟨vs, h1, _⟩, _⟩ := I.at
  have ne : ∀ {b o}, G b = some o → b ≠ l := fun {b o} e z => by
    rcases new b o e with w | w
    · exact (wo_some.mp w).2.1 z
    · rw [z, h1] at w
      cases w
  induction m with
  | leaf n h => exact .leaf n h
  | lst g h2 h3 _ ih => exact .lst (wo_at (ne g) (fun _ z => by cases z) (a2 _ _ g)) h2 h3 ih
  | tup g h2 h3 _ ih => exact .tup (wo_at (ne g) (fun _ z => by cases z) (a2 _ _ g)) h2 h3 ih
/-! ### rows and scripts as data -/
def pd : V → PyData
  | .int i => .int i
  | .bl b => .bool b
  | .str s => .str s
  | _ => .none
def ksD (ks : List (List V)) : PyData := .tuple (ks.map fun k => .tuple (k.map pd))
theorem kids_mx {G : Hp} {t : Addr} {ks : List (List V)} (h : Kids G t ks) (n : ks.length ≤ 100) (hk : ∀ k ∈ ks, k.length ≤ 100 ∧ ∀ x ∈ k, Lf x (pd x)) : Mx G 2 (.ref t) (ksD ks) := by
  obtain ⟨xs, h1, h2, h3⟩ := h
  refine .tup h1 (by rw [List.length_map, h2]) (by omega) fun i x d e1 e2 => ?_
  rw [List.getElem?_map] at e2
  cases e : ks[i]? with
  | none =>
    rw [e] at e2
    cases e2
  | some k =>
    rw [e] at e2
    obtain rfl := Option.some.inj e2
    obtain ⟨a, z1, z2⟩ := h3 i k e
    obtain rfl : x = .ref a := Option.some.inj (e1.symm.trans z1)
    obtain ⟨k1, k2⟩ := hk k (List.mem_of_getElem? e)
    refine .tup z2 (by rw [List.length_map]) k1 fun j y u e3 e4 => ?_
    rw [List.getElem?_map, e3] at e4
    obtain rfl := Option.some.inj e4
    exact .leaf _ (k2 y (List.mem_of_getElem? e3))
theorem mx_leaf {G : Hp} {n : Nat} {y x : V} {d e : PyData} (lf : Lf x d) (sh : Shp n d e) (m : Mx G n y e) : y = x := by
  have he : e = d := by
    cases lf <;> cases sh <;> rfl
  subst he
  cases lf <;> (cases m with | leaf _ h => cases h; rfl)
/-- the same but for lists and tuples, told of what stands there -/
theorem mx_deep {G : Hp} {ks : List (List V)} {y : V} {e : PyData} (hk : ∀ k ∈ ks, ∀ x ∈ k, Lf x (pd x)) (m : Mx G 2 y e) (sh : Shp 2 (ksD ks) e) : ∃ p, y = .ref p ∧ DeepP G p ks := by
  -- one level
  have one : ∀ {n : Nat} {ds : List PyData} {y : V} {e : PyData}, Mx G (n + 1) y e → Shp (n + 1) (.tuple ds) e → ∃ (p : Addr) (xs : List V) (es : List PyData), y = .ref p ∧ Sp' G p xs ∧ xs.length = ds.length ∧ ∀ (i : Nat) d, ds[i]? = some d → ∃ x e, xs[i]? = some x ∧ Mx G n x e ∧ Shp n d e := by
    intro n ds y e m sh
    have go : ∀ (es : List PyData), (e = .list es ∨ e = .tuple es) → ds.length = es.length → (∀ (i : Nat) d e, ds[i]? = some d → es[i]? = some e → Shp n d e) → ∃ (p : Addr) (xs : List V) (es : List PyData), y = .ref p ∧ Sp' G p xs ∧ xs.length = ds.length ∧ ∀ (i : Nat) d, ds[i]? = some d → ∃ x e, xs[i]? = some x ∧ Mx G n x e ∧ Shp n d e := by
      intro es he hl hx
      have fin : ∀ (a : Addr) (xs : List V), Sp' G a xs → xs.length = es.length → (∀ (i : Nat) x d, xs[i]? = some x → es[i]? = some d → Mx G n x d) → ∃ (p : Addr) (xs : List V) (es : List PyData), V.ref a = .ref p ∧ Sp' G p xs ∧ xs.length = ds.length ∧ ∀ (i : Nat) d, ds[i]? = some d → ∃ x e, xs[i]? = some x ∧ Mx G n x e ∧ Shp n d e :=
        fun a xs ha hl2 hm => ⟨a, xs, es, rfl, ha, by omega, fun i d hd => by
          have hi := (List.getElem?_eq_some_iff.mp hd).1
          have hi1 : i < es.length := by omega
          have hi2 : i < xs.length := by omega
          exact ⟨xs[i], es[i], List.getElem?_eq_getElem hi2, hm i _ _ (List.getElem?_eq_getElem hi2) (List.getElem?_eq_getElem hi1), hx i d _ hd (List.getElem?_eq_getElem hi1)⟩⟩
      rcases he with rfl | rfl
      · cases m with
        | leaf _ h => cases h
        | lst ha hl2 _ hm => exact fin _ _ (.inl ha) hl2 hm
      · cases m with
        | leaf _ h => cases h
        | tup ha hl2 _ hm => exact fin _ _ (.inr ha) hl2 hm
    cases sh with
    | same _ _ => exact go ds (.inr rfl) rfl fun i d e h1 h2 => by rw [h1] at h2; rw [Option.some.inj h2]; exact .same _ _
    | tl hl hx => exact go _ (.inl rfl) hl hx
    | tt hl hx => exact go _ (.inr rfl) hl hx
  obtain ⟨p, xs, _, rfl, hp, hl, hx⟩ := one m sh
  rw [List.length_map] at hl
  refine ⟨p, rfl, xs, hp, hl, fun i k hk' => ?_⟩
  obtain ⟨x, e1, z1, z2, z3⟩ := hx i (.tuple (k.map pd)) (by rw [List.getElem?_map, hk']; rfl)
  obtain ⟨b, ys, _, rfl, hb, hl2, hy⟩ := one z2 z3
  rw [List.length_map] at hl2
  refine ⟨b, z1, ?_⟩
  have ey : ys = k := by
    refine List.ext_getElem? fun j => ?_
    rcases Nat.lt_or_ge j k.length with h | h
    · obtain ⟨x, e, w1, w2, w3⟩ := hy j (pd k[j]) (by rw [List.getElem?_map, List.getElem?_eq_getElem h]; rfl)
      rw [w1, List.getElem?_eq_getElem h, mx_leaf (hk k (List.mem_of_getElem? hk') k[j] (List.getElem_mem h)) w3 w2]
    · rw [List.getElem?_eq_none (by omega), List.getElem?_eq_none h]
  rw [ey] at hb
  exact hb
end Lk

namespace Ew
open PySem PySem.Spec PyProof.Rows L2 Drw TL
/-- xs != [] -/
theorem op_ne_nil {X : Cx} (hu : X.A.units + 1 < cLine) : OpR X (compareOp .NotEq) (fun x y H Q => ∃ (a b : Addr) (xs : List V), x = .ref a ∧ y = .ref b ∧ H a = some (.lst xs) ∧ H b = some (.lst []) ∧ Q (.bl (!xs.isEmpty)) H) := by
  intro pins s σ H x y v u Q I rx ry h
  obtain ⟨a, b, xs, rfl, rfl, ha, hb, q⟩ := h
  cases rx
  cases ry
  obtain ⟨its, r1, p1, z1⟩ := I.list (.inl (.inl ha) : SqL X.K H a xs)
  obtain ⟨its2, r2, p2, z2⟩ := I.list (.inl (.inl hb) : SqL X.K H b [])
  have l1 := r1.length
  have l2 := r2.length
  have h2 : its2.toArray.size = 0 := by
    rw [List.size_toArray, ← l2]
    rfl
  have h1 : its.toArray.size = xs.length := by
    rw [List.size_toArray, ← l1]
  refine PySem.EqBoolInt.of_rcne (k := !xs.isEmpty) ?_ ⟨.bl _, H, I, rfl, q⟩
  cases xs with
  | nil =>
    have z : its.toArray.size = 0 := h1
    have w := SeqAt.RcNeAt.lists (A := X.A) (e := fun _ => true) p1.isList p2.isList (by rw [z, h2]) (by omega) (fun j hj => by omega)
    rw [z] at w
    exact w
  | cons y ys =>
    have z : its.toArray.size = ys.length + 1 := h1
    exact SeqAt.RcNeAt.lists_lengths p1.isList p2.isList (by rw [z, h2]; simp) (by omega)
end Ew

namespace Lk
open PySem PySem.Calls PyProof.Rows PySem.Spec L2 Drw Err LamX
def words9 : List Str := ["begin", "immediate", "exclusive", "commit", "rollback", "start", "stop", "read", "write"]
theorem may_word {w : Str} {o r : Bool} (h : mayB w o r = true) : w ∈ words9 := by
  have key : w ∈ opening ∨ w ∈ ending ∨ w = "start" ∨ w = "stop" ∨ w ∈ anywhere := by
    unfold mayB at h
    by_cases h1 : inW w opening = true
    · exact .inl (inW_mem.mp h1)
    rw [if_neg h1] at h
    by_cases h2 : inW w ending = true
    · exact .inr (.inl (inW_mem.mp h2))
    rw [if_neg h2] at h
    by_cases h3 : w = "start"
    · exact .inr (.inr (.inl h3))
    rw [if_neg (by rw [decide_eq_true_eq]; exact h3)] at h
    by_cases h4 : w = "stop"
    · exact .inr (.inr (.inr (.inl h4)))
    rw [if_neg (by rw [decide_eq_true_eq]; exact h4)] at h
    exact .inr (.inr (.inr (.inr (inW_mem.mp h))))
  simp only [opening, ending, anywhere, List.mem_cons, List.not_mem_nil, or_false] at key
  simp only [words9, List.mem_cons, List.not_mem_nil, or_false]
  rcases key with (h | h | h) | (h | h) | h | h | (h | h) <;> simp only [h, true_or, or_true]
theorem ok_words : ∀ (ws : List Str) (o r : Bool), okS ws o r = true → ∀ w ∈ ws, w ∈ words9
  | [], _, _, _, w, h => by cases h
  | v :: ws, o, r, h, w, hw => by
    obtain ⟨h1, h2⟩ := Bool.and_eq_true_iff.mp h
    rcases List.mem_cons.mp hw with rfl | hw
    · exact may_word h1
    · exact ok_words ws _ _ h2 w hw
theorem word_short : ∀ w ∈ words9, (PyData.str w).shown.length ≤ 40 := by decide +kernel
theorem int_short : ∀ n : Nat, n < 10 → (PyData.int (n : Nat)).shown.length ≤ 40 ∧ (PyData.int (n : Nat)).showable = true := by decide +kernel
theorem lf_int {i : Int} (h0 : 0 ≤ i) (h1 : i < 10) : Lf (.int i) (pd (.int i)) := by
  obtain ⟨n, rfl⟩ := Int.eq_ofNat_of_zero_le h0
  obtain ⟨a, b⟩ := int_short n (by omega)
  exact .int _ a b
theorem lf_words {ss : List (List Str)} (ok : okAll ss) : ∀ k ∈ ss.map wordsV, k.length ≤ 100 ∧ ∀ x ∈ k, Lf x (pd x) := fun k hk => by
  obtain ⟨ws, hw, rfl⟩ := List.mem_map.mp hk
  obtain ⟨h8, h9⟩ := ok.2.2 ws hw
  refine ⟨by unfold wordsV; rw [List.length_map]; omega, fun x hx => ?_⟩
  obtain ⟨v, hv, rfl⟩ := List.mem_map.mp hx
  exact .str v (word_short v (ok_words ws _ _ h9 v hv))
/-- a state that can be reached, as far as needed -/
structure StOk (rows : List Row) (ss : List (List Str)) : Prop where
  good : Good rows
  len : rows.length = ss.length
  ok : ∀ (i : Nat) r ws, rows[i]? = some r → ss[i]? = some ws → r.pl ≤ ws.length ∧ r.lk ≤ 4
theorem StOk.rows {rows : List Row} {ss : List (List Str)} (h : StOk rows ss) (ok : okAll ss) : ∀ k ∈ rows.map rowV, k.length ≤ 100 ∧ ∀ x ∈ k, Lf x (pd x) := fun k hk => by
  obtain ⟨r, hr, rfl⟩ := List.mem_map.mp hk
  obtain ⟨i, hi⟩ := List.mem_iff_getElem?.mp hr
  have hl := (List.getElem?_eq_some_iff.mp hi).1
  have hs : i < ss.length := by rw [← h.len]; exact hl
  obtain ⟨p, q⟩ := h.ok i r _ hi (List.getElem?_eq_getElem hs)
  have g := h.good.1 i r hi
  have w := (ok.2.2 ss[i] (List.getElem_mem hs)).1
  refine ⟨by show 4 ≤ 100; decide, fun x hx => ?_⟩
  have hx : x = .int r.pl ∨ x = .bl r.op ∨ x = .bl r.rd ∨ x = .int r.lk := by simpa [rowV] using hx
  rcases hx with rfl | rfl | rfl | rfl
  · exact lf_int (by omega) (by omega)
  · exact .bl _
  · exact .bl _
  · exact lf_int g (by omega)
theorem IsTop.one {rows : List Row} {a : Nat} {m n : Int} (h : IsTop rows a m) (k : IsTop rows a n) : m = n := by
  have le : ∀ {m n : Int}, IsTop rows a m → IsTop rows a n → m ≤ n := fun {m n} h k => by
    rcases h.1 with h0 | ⟨i, r, e, ne, rfl⟩
    · rw [h0]
      exact k.2.1
    · exact k.2.2 i r e ne
  exact Int.le_antisymm (le h k) (le k h)
def rows0 (n : Nat) : List Row := List.replicate n ⟨0, false, false, 0⟩
theorem rows0_at {n i : Nat} {r : Row} (h : (rows0 n)[i]? = some r) : r = ⟨0, false, false, 0⟩ := by
  exact List.eq_of_mem_replicate (List.mem_of_getElem? (show (List.replicate n (⟨0, false, false, 0⟩ : Row))[i]? = some r from h))
theorem st0 (ss : List (List Str)) : StOk (rows0 ss.length) ss := by
  refine ⟨⟨fun i r h => ?_, fun i j r s h _ _ h2 => ?_⟩, List.length_replicate, fun i r ws h _ => ?_⟩
  · rw [rows0_at h]
    decide
  · rw [rows0_at h] at h2
    exact absurd h2 (by decide)
  · rw [rows0_at h]
    exact ⟨Nat.zero_le _, by decide⟩
theorem leastI_le (w : Str) : leastI w ≤ 4 ∧ 0 ≤ leastI w := by
  unfold leastI
  split
  · decide
  · split
    · decide
    · split <;> decide
/-- the lock behind a try: high ones are given only beside low ones -/
theorem next_lock {w : Str} {r : Row} {m : Int} (h0 : 0 ≤ r.lk) (h4 : r.lk ≤ 4) (h1 : 2 ≤ r.lk → m ≤ 1) : 0 ≤ (nextRow w r m).1.lk ∧ (nextRow w r m).1.lk ≤ 4 ∧ (2 ≤ (nextRow w r m).1.lk → m ≤ 1) ∧ (2 ≤ m → (nextRow w r m).1.lk ≤ 1) := by
  obtain ⟨l4, l0⟩ := leastI_le w
  unfold nextRow
  by_cases e : refB w r.op r.lk m = true
  · rw [if_pos e]
    show 0 ≤ (if w = "commit" then (if 3 > r.lk then 3 else r.lk) else r.lk) ∧ (if w = "commit" then (if 3 > r.lk then 3 else r.lk) else r.lk) ≤ 4 ∧ (2 ≤ (if w = "commit" then (if 3 > r.lk then 3 else r.lk) else r.lk) → m ≤ 1) ∧ (2 ≤ m → (if w = "commit" then (if 3 > r.lk then 3 else r.lk) else r.lk) ≤ 1)
    by_cases c : w = "commit"
    · subst c
      rw [if_pos rfl]
      have lk2 : 1 < r.lk := by
        unfold refB at e
        rw [if_neg (by decide +kernel : ¬ inW "commit" ["read", "start"] = true), if_neg (by rw [show decide ((Str.ofString "commit") = (Str.ofString "write")) = false by decide +kernel]; exact Bool.false_ne_true), if_neg (by decide +kernel), if_pos rfl] at e
        exact of_decide_eq_true (Bool.and_eq_true_iff.mp e).1
      have z := h1 (by omega)
      split <;> omega
    · rw [if_neg c]
      omega
  · rw [if_neg e]
    have e' : refB w r.op r.lk m = false := Bool.eq_false_iff.mpr e
    show 0 ≤ lockB w r.op r.rd r.lk ∧ lockB w r.op r.rd r.lk ≤ 4 ∧ (2 ≤ lockB w r.op r.rd r.lk → m ≤ 1) ∧ (2 ≤ m → lockB w r.op r.rd r.lk ≤ 1)
    have key : 2 ≤ leastI w → opnB w r.op = true → r.lk < 2 → m ≤ 1 := by
      intro h2 ho hl
      have hw : w = "write" ∨ w = "immediate" ∨ w = "exclusive" := by
        unfold leastI at h2
        by_cases a : w = "read" ∨ w = "start"
        · rw [if_pos a] at h2
          exact absurd h2 (by decide)
        rw [if_neg a] at h2
        by_cases b : w = "write" ∨ w = "immediate"
        · exact b.imp_right .inl
        rw [if_neg b] at h2
        by_cases c : w = "exclusive"
        · exact .inr (.inr c)
        rw [if_neg c] at h2
        exact absurd h2 (by decide)
      unfold refB at e'
      rcases hw with rfl | rfl | rfl
      · have hop : r.op = true := by
          have z : opnB "write" r.op = r.op := by cases r.op <;> decide +kernel
          rw [← z]
          exact ho
        rw [if_neg (by decide +kernel : ¬ inW "write" ["read", "start"] = true), hop, if_pos (by decide +kernel), decide_eq_true hl, Bool.true_and] at e'
        have z := of_decide_eq_false e'
        omega
      · rw [if_neg (by decide +kernel : ¬ inW "immediate" ["read", "start"] = true), if_neg (by rw [show decide ((Str.ofString "immediate") = (Str.ofString "write")) = false by decide +kernel]; exact Bool.false_ne_true), if_pos rfl] at e'
        have z := of_decide_eq_false e'
        omega
      · rw [if_neg (by decide +kernel : ¬ inW "exclusive" ["read", "start"] = true), if_neg (by rw [show decide ((Str.ofString "exclusive") = (Str.ofString "write")) = false by decide +kernel]; exact Bool.false_ne_true), if_neg (by decide +kernel), if_neg (by decide +kernel), show inW "exclusive" ["write", "exclusive"] = true by decide +kernel, Bool.true_and] at e'
        have z := of_decide_eq_false e'
        omega
    unfold lockB
    by_cases ho : opnB w r.op = true
    · rw [if_pos ho]
      by_cases g : leastI w > r.lk
      · rw [if_pos g]
        refine ⟨l0, l4, fun h2 => ?_, fun h2 => ?_⟩
        · by_cases hl : r.lk < 2
          · exact key h2 ho hl
          · exact h1 (by omega)
        · rcases (show 1 < leastI w ∨ leastI w ≤ 1 by omega) with h3 | h3
          · by_cases hl : r.lk < 2
            · have z := key (by omega) ho hl
              omega
            · have z := h1 (by omega)
              omega
          · exact h3
      · rw [if_neg g]
        omega
    · rw [if_neg ho]
      split <;> omega
theorem StOk.next {rows : List Row} {ss : List (List Str)} (h : StOk rows ss) {a : Nat} {r : Row} {ws : List Str} {w : Str} {m : Int} (hr : rows[a]? = some r) (hs : ss[a]? = some ws) (hw : ws[r.pl]? = some w) (top : IsTop rows a m) : StOk (rows.set a (nextRow w r m).1) ss := by
  obtain ⟨h0, h1⟩ := h.good.top hr top
  obtain ⟨n0, n4, nm, mn⟩ := next_lock h0 (h.ok a r ws hr hs).2 h1
  have ha : a < rows.length := (List.getElem?_eq_some_iff.mp hr).1
  have at' : ∀ {i : Nat} {s : Row}, (rows.set a (nextRow w r m).1)[i]? = some s → (i = a ∧ s = (nextRow w r m).1) ∨ (i ≠ a ∧ rows[i]? = some s) := fun {i s} e => by
    rw [List.getElem?_set] at e
    by_cases z : a = i
    · rw [if_pos z, if_pos ha] at e
      exact .inl ⟨z.symm, (Option.some.inj e).symm⟩
    · rw [if_neg z] at e
      exact .inr ⟨fun y => z y.symm, e⟩
  have lt := (List.getElem?_eq_some_iff.mp hw).1
  refine ⟨⟨fun i s e => ?_, fun i j s u e1 e2 n h2 => ?_⟩, by rw [List.length_set]; exact h.len, fun i s vs e hv => ?_⟩
  · rcases at' e with ⟨_, rfl⟩ | ⟨_, e⟩
    · exact n0
    · exact h.good.1 i s e
  · rcases at' e1 with ⟨x1, x2⟩ | ⟨n1, f1⟩
    · rcases at' e2 with ⟨y1, _⟩ | ⟨n2, f2⟩
      · exact absurd (x1.trans y1.symm) n
      · rw [x2] at h2
        exact Int.le_trans (top.2.2 j u f2 n2) (nm h2)
    · rcases at' e2 with ⟨y1, y2⟩ | ⟨n2, f2⟩
      · rw [y2]
        exact mn (Int.le_trans h2 (top.2.2 i s f1 n1))
      · exact h.good.2 i j s u f1 f2 n h2
  · rcases at' e with ⟨rfl, rfl⟩ | ⟨_, e⟩
    · obtain rfl : ws = vs := Option.some.inj (hs.symm.trans hv)
      refine ⟨?_, n4⟩
      have z := (h.ok i r ws hr hs).1
      unfold nextRow
      split
      · exact z
      · show r.pl + 1 ≤ _
        omega
    · exact h.ok i s vs e hv
/-- two tuples of the same rows -/
theorem kids_tw {H : Hp} {t u : Addr} {ks : List (List V)} (h : Kids H t ks) (k : Kids H u ks) (n : ks.length ≤ 1000) (hk : ∀ k ∈ ks, k.length ≤ 1000 ∧ ∀ x ∈ k, Tw H 0 x x) : Tw H 2 (.ref t) (.ref u) := by
  obtain ⟨xs, h1, h2, h3⟩ := h
  obtain ⟨ys, k1, k2, k3⟩ := k
  refine .tup h1 k1 (by omega) (by omega) fun i x y e1 e2 => ?_
  have hi : i < ks.length := by
    have z := (List.getElem?_eq_some_iff.mp e1).1
    omega
  obtain ⟨a, a1, a2⟩ := h3 i _ (List.getElem?_eq_getElem hi)
  obtain ⟨b, b1, b2⟩ := k3 i _ (List.getElem?_eq_getElem hi)
  obtain rfl : x = .ref a := Option.some.inj (e1.symm.trans a1)
  obtain rfl : y = .ref b := Option.some.inj (e2.symm.trans b1)
  obtain ⟨l, f⟩ := hk _ (List.getElem_mem hi)
  refine .tup a2 b2 rfl l fun j x y e3 e4 => ?_
  obtain rfl := Option.some.inj (e3.symm.trans e4)
  exact f x (List.mem_of_getElem? e3)
theorem row_tw {H : Hp} (rows : List Row) : ∀ k ∈ rows.map rowV, k.length ≤ 1000 ∧ ∀ x ∈ k, Tw H 0 x x := fun k hk => by
  obtain ⟨r, _, rfl⟩ := List.mem_map.mp hk
  refine ⟨by show 4 ≤ 1000; decide, fun x hx => ?_⟩
  have hx : x = .int r.pl ∨ x = .bl r.op ∨ x = .bl r.rd ∨ x = .int r.lk := by simpa [rowV] using hx
  rcases hx with rfl | rfl | rfl | rfl
  · exact .int _ _
  · exact .bl _ _
  · exact .bl _ _
  · exact .int _ _
/-- the results of two tries -/
theorem pair_tw {H : Hp} {t u a b : Addr} {c : Bool} (h : H t = some (.tup [.ref a, .bl c])) (k : H u = some (.tup [.ref b, .bl c])) (tw : Tw H 2 (.ref a) (.ref b)) : Tw H 3 (.ref t) (.ref u) := by
  refine .tup h k rfl (by show 2 ≤ 1000; decide) fun i x y e1 e2 => ?_
  match i, e1, e2 with
  | 0, e1, e2 =>
    obtain rfl : V.ref a = x := Option.some.inj e1
    obtain rfl : V.ref b = y := Option.some.inj e2
    exact tw
  | 1, e1, e2 =>
    obtain rfl : V.bl c = x := Option.some.inj e1
    obtain rfl : V.bl c = y := Option.some.inj e2
    exact .bl _ _
  | i + 2, e1, e2 => cases e1
end Lk

namespace Lk
open PySem PySem.Calls PyProof.Rows PySem.Spec L2 Drw Err LamX Grd
/-- as top_of, the code object named -/
theorem top_ofC {P : Program} {w : World} {K : PySem.W.Frag} {mg : Str → Option Value} {base : Heap} {k : Nat} {x q : Str} {st : Stmt} {f co : Addr} {oc kV doc pm ct : Value} {od an : Option Addr} {osl : Array (Option Value)} {N ps : List Str} {sp : Sp}
    (found : K.lookup f = some ⟨oc, od, .func (PySem.W.fnOf x q (defArgs st) (defBody st) (defScope st) .none kV doc pm an (.ref co) ct), osl⟩) (coded : PySem.W.codeIn K (.ref co) q = true) (S : FnScope N ps (defScope st)) (hr : Room (k + 1) callerA)
    (walk : ∀ (s : Shared) (H : Hp) (vs : List V) (Q : VK), Room k (callerA.deeper (envOfC q (defScope st) s.heap.objs.size f (.ref co))) → sp vs H Q L2.E0 →
      ∃ t, PSs (cxOf CX0 P w K mg base N q (defScope st) f (.ref co) callerA [] s H L2.E0).nox (defBody st) t ∧ t { nx := fun _ H' => Q .non H', rt := Q } (start N vs) H) : TopOk P w K mg base f (PySem.W.fnOf x q (defArgs st) (defBody st) (defScope st) .none kV doc pm an (.ref co) ct) ps sp := by
  constructor
  intro s H ar us vs Q env bound rel many told
  have inK : K.In s.heap := env.mod.kin.keeps fun b o z => (env.bs b o z).1
  have free : s.heap.NoLimit := env.mod.nolimit.keeps fun b o z => (env.bs b o z).1
  have kinds : ∀ y ∈ ps.zip us, (defScope st).names.lookup y.1 = some .local ∨ ((defScope st).names.lookup y.1 = some .cell ∧ ((cellsFrom (s.heap.objs.size + 1) (defScope st).names []).lookup y.1).isSome = true) := by
    rintro ⟨n, v⟩ hy
    rcases S.par n (List.of_mem_zip hy).1 with z | z
    · exact Or.inl z
    · exact Or.inr ⟨z, PySem.W.cellsFrom_some _ _ _ (Or.inl z)⟩
  refine codeAny_call_function hr.depth (inK _ _ found) rfl S.co S.gen rfl (PySem.W.codeRec_of inK coded) (bound _ _ _ _ (wpAny_newFunctionEnv_cells S.kind kinds fun e he s1 laid => ?_))
  subst he
  refine ⟨free.keeps laid.toInCall.keep, codeAny_func ?_⟩
  obtain ⟨t, term, read⟩ := walk s H vs Q (hr.deeper _) told
  have inv : Inv (cxOf CX0 P w K mg base N q (defScope st) f (.ref co) callerA [] s H L2.E0) [] (start N vs) H s1 := inv_start S hr.hd env many rel laid
  refine wpAny_mono (term.nox.run [] s1 (start N vs) H _ inv read) ?_ fun e s' z => z
  have ends : ∀ {σ' : L2.St} {H' : Hp} {v : V} {u : Value} {s' : Shared}, Inv (cxOf CX0 P w K mg base N q (defScope st) f (.ref co) callerA [] s H L2.E0) [] σ' H' s' → RelV v u → Q v H' → CE [] P w H s Q u s' := by
    intro σ' H' v u s' J rv z
    exact ⟨v, H', J.os, J.bare, J.base, J.hok, rv, z⟩
  intro fl s' z
  cases fl with
  | ret u =>
    obtain ⟨v, σ', H', J, rv, z⟩ := z
    exact ends J rv z
  | next =>
    obtain ⟨σ', H', J, z⟩ := z
    exact ends (v := V.non) (u := Value.none) J rfl z
  | brk => exact absurd z fun ⟨_, _, _, y⟩ => y
  | cont => exact absurd z fun ⟨_, _, _, y⟩ => y
theorem scLaw : FnScope ["_law_script_here", "_law_state", "_law_turn", "_law_some", "_law_handed_here", "_law_kept", "_law_here", "_law_odd", "_law_k", "_law_left_here", "_law_ended", "_law_one_here", "_law_there", "_law_spot", "_law_seen", "_law_again"] ["_law_script_here"] (defScope sLaw) := ⟨rfl, rfl, rfl, by decide +kernel, rfl, by decide +kernel, by decide +kernel⟩
def spLaw (K : PySem.W.Frag) (tab : Addr) : Sp := fun vs H Q _ => ∃ (a : Addr) (ns : List Int), vs = [.ref a] ∧ SqL K H a (ns.map V.int) ∧ ns.length ≤ 63 ∧ H tab = some (.tbl #[]) ∧ ∀ H', Q (.bl true) H'
abbrev lamQ : Str := (("law" : Str) ++ ".<locals>.") ++ "<lambda>"
theorem passE {P : Program} {w : World} {X : Cx} : Passes (L2.CX P w) X L2.E0 := fun _ _ _ _ _ _ _ ⟨_, _, _, _, _, _, _, _, _, _, _, _, h⟩ => h.elim
theorem flat_nats (l : List Nat) : (l.map fun k => V.int (k : Nat)).all flatV = true := by
  rw [List.all_map, List.all_eq_true]
  exact fun _ _ => rfl
theorem left_in {ss : List (List Str)} {rows : List Row} {n i : Nat} (h : i < n) : inV (.int (0 + (i : Nat))) ((leftL ss rows n).map fun k => V.int (k : Nat)) = leftB ss rows i := by
  unfold inV
  rw [List.any_map]
  cases hb : leftB ss rows i with
  | true =>
    refine List.any_eq_true.mpr ⟨i, List.mem_filter.mpr ⟨List.mem_range.mpr h, hb⟩, ?_⟩
    show (((i : Nat) : Int) == 0 + (i : Nat)) = true
    rw [Int.zero_add]
    exact beq_self_eq_true _
  | false =>
    refine List.any_eq_false.mpr fun k hk => ?_
    show ¬ (((k : Nat) : Int) == 0 + (i : Nat)) = true
    rw [Int.zero_add, beq_iff_eq]
    intro z
    have z2 : k = i := by omega
    rw [z2] at hk
    have y := (List.mem_filter.mp hk).2
    rw [hb] at y
    cases y
theorem cut_mem {xs : List V} {lo hi : Option Int} {x : V} (h : x ∈ cutV xs lo hi) : x ∈ xs := by
  unfold cutV at h
  exact List.mem_of_mem_drop (List.mem_of_mem_take h)
/-- what is known within a turn: the scripts, the same as they are handed, and the state -/
structure DS (l c tab : Addr) (ns : List Int) (t hp : Addr) (ss : List (List Str)) (e : PyData) (t0 : Addr) (rows : List Row) (H : Hp) : Prop where
  li : LI H l c tab ns lamQ
  kt : Kids (wo l H) t (ss.map wordsV)
  mh : Mx (wo l H) 2 (.ref hp) e
  dh : DeepP (wo l H) hp (ss.map wordsV)
  kr : Kids (wo l H) t0 (rows.map rowV)
theorem DS.go {l c tab : Addr} {ns : List Int} {t hp : Addr} {ss : List (List Str)} {e : PyData} {t0 : Addr} {rows : List Row} {H H' : Hp} (D : DS l c tab ns t hp ss e t0 rows H) (g : Go l c tab ns lamQ H H') : DS l c tab ns t hp ss e t0 rows H' := ⟨g.li, D.kt.al g.al, D.mh.al g.al, D.dh.al g.al, D.kr.al g.al⟩
section
variable {P : Program} {w : World} {K : PySem.W.Frag} {mg : Str → Option Value} {base : Heap}
theorem ok_law {fL co tab gm CP CD CE : Addr} {oc kV doc pm ct oc' kV' doc' pm' cd' ct' : Value} {od an od' an' : Option Addr} {osl osl' : Array (Option Value)} {fFr fSc fHa fBe fS2 fFs fOd fLe fAf fNx fT : Addr} {dFr dSc dHa dBe dS2 dFs dOd dLe dAf dNx dT : FuncData}
    (found : K.lookup fL = some ⟨oc, od, .func (PySem.W.fnOf "law" "law" (defArgs sLaw) (defBody sLaw) (defScope sLaw) .none kV doc pm an (.ref co) ct), osl⟩) (coded : PySem.W.codeIn K (.ref co) "law" = true) (TB : TabB base mg co tab)
    (gM : mg "_law_misused" = some (.ref gm)) (kM : PySem.W.keepIn K (.ref gm) = true) (lM : K.lookup gm = some ⟨oc', od', .func (PySem.W.fnOf "_law_misused" "_law_misused" (defArgs sMisused) (defBody sMisused) (defScope sMisused) .none kV' doc' pm' an' cd' ct'), osl'⟩) (cM : PySem.W.codeIn K cd' "_law_misused" = true)
    (bM : Binds K (PySem.W.fnOf "_law_misused" "_law_misused" (defArgs sMisused) (defBody sMisused) (defScope sMisused) .none kV' doc' pm' an' cd' ct') ["_law_deed"] [])
    (TP : EC P w K mg "ProgrammingError" CP) (gD : mg "DatabaseError" = some (.ref CD)) (gE : mg "Error" = some (.ref CE)) (mis : mg "isinstance" = none) (exP : PySem.W.exmOne K (.ref CP) (.ref CP) = some true) (kiD : PySem.W.kitOne K (.ref CP) (.ref CD) = some true)
    (Fr : Can P w K mg base CX0 1 "_law_fresh" ["_law_script_here"] (spFresh K) fFr dFr) (Sc : Can P w K mg base CX0 5 "_law_scripts" ["_law_state", "_law_most", "_law_many"] spScripts fSc dSc) (Ha : Can P w K mg base CX0 5 "_law_handed" ["_law_state", "_law_thing"] (spHand 2) fHa dHa)
    (Be : Can P w K mg base CX0 1 "_law_begun" ["_law_scripts_here"] spBegun fBe dBe) (S2 : Can P w K mg base CX0 4 "_law_same" ["_law_found", "_law_due"] (spTw 2) fS2 dS2) (S3 : Can P w K mg base CX0 5 "_law_same" ["_law_found", "_law_due"] (spTw 3) fS2 dS2)
    (Fs : Can P w K mg base CX0 4 "first_state" ["scripts"] (spFirstState K) fFs dFs) (Od : Can P w K mg base CX0 4 "_law_odd_number" ["_law_state", "_law_many"] spOdd fOd dOd) (Le : Can P w K mg base CX0 1 "_law_left" ["_law_scripts_here", "_law_here"] spLeft fLe dLe)
    (Af : Can P w K mg base CX0 2 "_law_after" ["_law_scripts_here", "_law_here", "_law_at"] spAfter fAf dAf) (Nx : Can P w K mg base (L2.CX P w) 4 "next_state" ["scripts", "state", "at"] (spNext K CP) fNx dNx) (T : Can P w K mg base CX0 2 "_law_take" ["_law_state", "_law_many"] spTake fT dT)
    (ml : mg "len" = none) (mi : mg "int" = none) (mr : mg "range" = none) (mrp : mg "repr" = none) :
    TopOk P w K mg base fL (PySem.W.fnOf "law" "law" (defArgs sLaw) (defBody sLaw) (defScope sLaw) .none kV doc pm an (.ref co) ct) ["_law_script_here"] (spLaw K tab) := by
  refine top_ofC (k := 6) found coded scLaw ⟨rfl, by decide, by decide⟩ fun s H vs Q hr h => ?_
  have hu : (callerA.deeper (envOfC "law" (defScope sLaw) s.heap.objs.size fL (.ref co))).units + 70 < cLine := by
    have z := hr.un
    omega
  have hu1 := hu_of hr
  obtain ⟨a, ns0, rfl, hS, hn, hTab, q⟩ := h
  refine ⟨_, pss_cons (ps_set (i := 1) scLaw.nd rfl (.inl rfl) (pe_call Fr.G (hr.mono (by decide)) (by rfl) Fr.g Fr.kp Fr.b .nil pass0 (pa_cons (pv 0) pa_nil)))
          (pss_cons (ps_for PassesOwn.never rfl (pi_range1 (by rfl) mr (pa_cons pe_int pa_nil)) (pg_name (i := 2) scLaw.nd rfl (Or.inl rfl)) (pss_cons (ps_set (i := 3) scLaw.nd rfl (.inl rfl) (pe_call Sc.G (hr.mono (by decide)) (by rfl) Sc.g Sc.kp Sc.b .nil pass0 (pa_cons (pv 1) (pa_cons pe_int (pa_cons pe_int pa_nil)))))
          (pss_cons (ps_set (i := 4) scLaw.nd rfl (.inr rfl) (pe_call Ha.G (hr.mono (by decide)) (by rfl) Ha.g Ha.kp Ha.b .nil pass0 (pa_cons (pv 1) (pa_cons (pv 3) pa_nil))))
          (pss_cons (ps_asg (pe_tup (pa_cons (pe_callB (Grd.call_repr_data rfl hu) (by rfl) mrp (by decide +kernel) (pa_cons (pv 4) pa_nil)) (pa_cons (pe_call Be.G (hr.mono (by decide)) (by rfl) Be.g Be.kp Be.b .nil pass0 (pa_cons (pv 3) pa_nil)) pa_nil))) (pg_tup rfl (pgs_cons (pg_name (i := 5) scLaw.nd rfl (Or.inl rfl)) (pgs_cons (pg_name (i := 6) scLaw.nd rfl (Or.inr rfl)) pgs_nil))))
          (pss_cons (ps_if (pt_not (pt_val (pe_call S2.G (hr.mono (by decide)) (by rfl) S2.g S2.kp S2.b .nil pass0 (pa_cons (pe_call Fs.G (hr.mono (by decide)) (by rfl) Fs.g Fs.kp Fs.b .nil pass0 (pa_cons (pv 4) pa_nil)) (pa_cons (pv 6) pa_nil))))) (pss_one (ps_ret pe_bl)) pss_nil)
          (pss_cons (ps_set (i := 7) scLaw.nd rfl (.inr rfl) (pe_call Od.G (hr.mono (by decide)) (by rfl) Od.g Od.kp Od.b .nil pass0 (pa_cons (pv 1) (pa_cons (pe_callB call_len_seq (by rfl) ml PySem.boot_len (pa_cons (pv 3) pa_nil)) pa_nil))))
          (C8.pss_cut (ps_if (pt_not (pt_val (pe_lamcall (k := 4) (T := [(tab, lamQ)]) (by rfl) gM kM lM cM bM scMisused rfl (.inl rfl) (misused_gives TP gD gE mis exP kiD) TB rfl (List.mem_singleton.mpr rfl) (fun p hp _ => by rw [List.mem_singleton.mp hp]; rfl) hr (lamS_by (sc := defScope sLaw) (by decide +kernel)) rfl (fun _ _ _ _ _ => rfl)
            (t := fun E => tCall (spNext K CP) [] E (tCons (tVar 4) (tCons (tVar 6) (tCons (tVar 7) tNil))))
            (fun A outer s H E f c' hr' => pe_call Nx.G hr' (by rfl) Nx.g Nx.kp Nx.b .nil (passes_call (takes_of rfl rfl rfl rfl) fun _ _ _ _ h => h) (pa_cons (pv 4) (pa_cons (pv 6) (pa_cons (pv 7) pa_nil))))))) (pss_one (ps_ret pe_bl)) pss_nil)
          (C8.pss_cut (ps_for PassesOwn.never rfl (pi_range1 (by rfl) mr (pa_cons (pe_call T.G (hr.mono (by decide)) (by rfl) T.g T.kp T.b .nil pass0 (pa_cons (pv 1) (pa_cons pe_int pa_nil))) pa_nil)) (pg_name (i := 8) scLaw.nd rfl (Or.inl rfl)) (pss_cons (ps_set (i := 9) scLaw.nd rfl (.inr rfl) (pe_call Le.G (hr.mono (by decide)) (by rfl) Le.g Le.kp Le.b .nil pass0 (pa_cons (pv 3) (pa_cons (pv 6) pa_nil))))
          (C8.pss_cut (ps_setLc (i := 10) (own := [("_law_one_here", 11)]) (g := gName 11) (tt := tTest (tOp (rIn K true) (tVar 11) (tVar 9))) (te := tVar 11) (by rfl) scLaw.nd rfl rfl (sw_true rfl rfl rfl (by decide +kernel)) (pi_range1 (by rfl) mr (pa_cons (pe_callB call_len_seq (by rfl) ml PySem.boot_len (pa_cons (pv 3) pa_nil)) pa_nil))
            (blkOk_by (N := ["_law_script_here", "_law_state", "_law_turn", "_law_some", "_law_handed_here", "_law_kept", "_law_here", "_law_odd", "_law_k", "_law_left_here", "_law_ended", "_law_one_here", "_law_there", "_law_spot", "_law_seen", "_law_again"]) (sc := defScope sLaw) (by decide +kernel)) (fun _ _ _ _ _ => pg_name (i := 11) scLaw.nd rfl (Or.inl rfl)) (fun _ _ _ _ _ => pts_one (pt_cmpR op_notIn_seq (pv 11) (pv 9) rfl)) (fun _ _ _ _ _ => pv 11))
          (pss_cons (ps_set (i := 7) scLaw.nd rfl (.inr rfl) (pe_call Od.G (hr.mono (by decide)) (by rfl) Od.g Od.kp Od.b .nil pass0 (pa_cons (pv 1) (pa_cons (pe_callB call_len_seq (by rfl) ml PySem.boot_len (pa_cons (pv 3) pa_nil)) pa_nil))))
          (C8.pss_cut (ps_for PassesOwn.never rfl (pi_list (pe_op op_cat (pe_slice sl_list (pv 10) po_none (po_some pe_int)) (pe_op op_rep (pe_lst (pa_cons (pv 7) pa_nil)) (pe_callTy call_int1 (by rfl) mi PySem.Pv.boot_int (pa_cons (pe_cmpR op_eq (pe_call T.G (hr.mono (by decide)) (by rfl) T.g T.kp T.b .nil pass0 (pa_cons (pv 1) (pa_cons pe_int pa_nil))) pe_int (nomark _)) pa_nil))))) (pg_name (i := 11) scLaw.nd rfl (Or.inr rfl)) (pss_one (ps_if (pt_not (pt_val (pe_lamcall (k := 4) (T := [(tab, lamQ)]) (by rfl) gM kM lM cM bM scMisused rfl (.inl rfl) (misused_gives TP gD gE mis exP kiD) TB rfl (List.mem_singleton.mpr rfl) (fun p hp _ => by rw [List.mem_singleton.mp hp]; rfl) hr (lamS_by (sc := defScope sLaw) (by decide +kernel)) rfl (fun _ _ _ _ _ => rfl)
            (t := fun E => tCall (spNext K CP) [] E (tCons (tVar 4) (tCons (tVar 6) (tCons (tVar 11) tNil))))
            (fun A outer s H E f c' hr' => pe_call Nx.G hr' (by rfl) Nx.g Nx.kp Nx.b .nil (passes_call (takes_of rfl rfl rfl rfl) fun _ _ _ _ h => h) (pa_cons (pv 4) (pa_cons (pv 6) (pa_cons (pv 11) pa_nil))))))) (pss_one (ps_ret pe_bl)) pss_nil)))
          (pss_one (ps_if (pt_cmpR (Ew.op_ne_nil hu1) (pv 9) (pe_lst pa_nil) (nomark _)) (pss_cons (ps_set (i := 11) scLaw.nd rfl (.inr rfl) (pe_ix ix_list (pv 9) (pe_call T.G (hr.mono (by decide)) (by rfl) T.g T.kp T.b .nil pass0 (pa_cons (pv 1) (pa_cons (pe_callB call_len_seq (by rfl) ml PySem.boot_len (pa_cons (pv 9) pa_nil)) pa_nil))) (fun _ _ => rfl)))
          (pss_cons (ps_set (i := 12) scLaw.nd rfl (.inl rfl) (pe_call Af.G (hr.mono (by decide)) (by rfl) Af.g Af.kp Af.b .nil pass0 (pa_cons (pv 3) (pa_cons (pv 6) (pa_cons (pv 11) pa_nil)))))
          (pss_cons (ps_set (i := 13) scLaw.nd rfl (.inl rfl) (pe_call Ha.G (hr.mono (by decide)) (by rfl) Ha.g Ha.kp Ha.b .nil pass0 (pa_cons (pv 1) (pa_cons (pv 6) pa_nil))))
          (pss_cons (ps_set (i := 14) scLaw.nd rfl (.inl rfl) (pe_callB (Grd.call_repr_data rfl hu) (by rfl) mrp (by decide +kernel) (pa_cons (pv 13) pa_nil)))
          (C8.pss_cut (ps_for PassesOwn.never rfl (pi_range1 (by rfl) mr (pa_cons pe_int pa_nil)) (pg_name (i := 15) scLaw.nd rfl (Or.inl rfl)) (pss_one (ps_if (pt_not (pt_val (pe_call S3.G (hr.mono (by decide)) (by rfl) S3.g S3.kp S3.b .nil pass0 (pa_cons (pe_call Nx.G (hr.mono (by decide)) (by rfl) Nx.g Nx.kp Nx.b .nil passE (pa_cons (pv 4) (pa_cons (pv 13) (pa_cons (pv 11) pa_nil)))) (pa_cons (pv 12) pa_nil))))) (pss_one (ps_ret pe_bl)) pss_nil)))
          (pss_cons (ps_if (pt_cmpR op_ne (pe_callB (Grd.call_repr_data rfl hu) (by rfl) mrp (by decide +kernel) (pa_cons (pv 13) pa_nil)) (pv 14) (nomark _)) (pss_one (ps_ret pe_bl)) pss_nil)
          (pss_one (ps_set (i := 6) scLaw.nd rfl (.inr rfl) (pe_ix ix_tup (pv 12) pe_int (fun _ _ => rfl)))))))))) pss_nil)))))))
          (pss_one (ps_if (pt_cmpR op_ne (pe_callB (Grd.call_repr_data rfl hu) (by rfl) mrp (by decide +kernel) (pa_cons (pv 4) pa_nil)) (pv 5) (nomark _)) (pss_one (ps_ret pe_bl)) pss_nil))))))))))
          (pss_one (ps_ret pe_bl))), ?_⟩
  refine ⟨.ref a, rfl, a, ns0, rfl, hS, hn, fun H1 l c ns kA stt nl => ?_⟩
  have tl : tab ≠ l := fun z => by
    rw [z, nl] at hTab
    cases hTab
  have I1 : LI H1 l c tab ns lamQ := ⟨stt, .nil (kA _ _ hTab), tl⟩
  refine ⟨3, rfl, by decide, by decide, for_range (n := 3) (fun i σ H' => ∃ y2 y3 y4 y5 y6 y7 y8 y9 y10 y11 y12 y13 y14 y15 : Option V, σ = [some (.ref a), some (.ref l), y2, y3, y4, y5, y6, y7, y8, y9, y10, y11, y12, y13, y14, y15] ∧ LI H' l c tab ns lamQ)
    ⟨none, none, none, none, none, none, none, none, none, none, none, none, none, none, rfl, I1⟩ ?turn ?after⟩
  case after =>
    rintro σ H' ⟨y2, y3, y4, y5, y6, y7, y8, y9, y10, y11, y12, y13, y14, y15, rfl, _⟩
    exact q H'
  rintro i σ H2 hi ⟨y2, y3, y4, y5, y6, y7, y8, y9, y10, y11, y12, y13, y14, y15, rfl, I2⟩
  -- the scripts
  refine ⟨.ref l, rfl, l, c, ns, 4, 8, rfl, by decide, by decide, by decide, by decide, I2.st, fun H3 t ss k3 st3 nt kids ok => ?_⟩
  have I3 := I2.kp k3 st3
  have K3 := I3.kids kids
  have lfw := lf_words ok
  have n4 := ok.2.1
  have n1 := ok.1
  -- as they are handed
  refine ⟨.ref l, rfl, .ref t, rfl, l, c, ns, .ref t, _, wo l H3, rfl, I3.st, wo_al _ _, wo_l _ _, kids_mx K3 (by rw [List.length_map]; omega) lfw, fun H4 y e G4 k4 st4 a1 a2 new4 mx4 sh4 => ?_⟩
  have g34 := I3.goK k4 st4
  have I4 := g34.li
  have M4 := I3.hand a2 new4 mx4
  obtain ⟨hp, rfl, D4⟩ := mx_deep (fun k hk => (lfw k hk).2) M4 sh4
  have K4 := K3.al g34.al
  obtain ⟨q1, q2, q3, q4⟩ := M4.tell
  -- its text, and the state in which nothing was done
  refine ⟨.ref hp, rfl, hp, e, rfl, (M4.al (wo_al _ _)).dp, q1, q2, by omega, Nat.le_trans q4 (by decide), .ref t, rfl, t, _, rfl, K4.al (wo_al _ _), by rw [List.length_map]; omega, fun H5 t0 k5 nt0 kids0 => ⟨by show 2 ≤ sizeLine; decide, fun tp ntp => ?_⟩⟩
  have k6 := k5.new (o := .tup [.str e.shown, .ref t0]) ntp
  refine ⟨tp, _, rfl, sqt upd_same, rfl, _, _, rfl, _, _, rfl, rfl, ?_⟩
  have g46 := I4.goA k6
  have er0 : List.replicate (ss.map wordsV).length row0 = (rows0 ss.length).map rowV := by
    unfold rows0
    rw [List.map_replicate, List.length_map]
    rfl
  rw [er0] at kids0
  have DS6 : DS l c tab ns t hp ss e t0 (rows0 ss.length) (upd H5 tp (.tup [.str e.shown, .ref t0])) := ⟨g46.li, K4.al g46.al, M4.al g46.al, D4.al g46.al, g46.li.kids (kids0.al (Al.refl.new ntp))⟩
  generalize eH6 : upd H5 tp (.tup [.str e.shown, .ref t0]) = H6 at DS6
  have so0 := st0 ss
  -- the first state
  refine ⟨.ref hp, rfl, hp, ss, rfl, (DS6.dh.al (wo_al _ _)).deep, ok, fun H7 t1 k7 nt1 kids1 => ?_⟩
  have g67 := DS6.li.goA k7
  have DS7 := DS6.go g67
  have er1 : List.replicate ss.length row0 = (rows0 ss.length).map rowV := by
    unfold rows0
    rw [List.map_replicate]
    rfl
  rw [er1] at kids1
  refine ⟨.ref t0, rfl, .ref t1, .ref t0, rfl, kids_tw kids1 (DS7.kr.al (wo_al _ _)) (by rw [List.length_map]; unfold rows0; rw [List.length_replicate]; omega) (row_tw _), fun H8 k8 => ⟨true, rfl, iteF ?_⟩⟩
  have DS8 := DS7.go (DS7.li.goA k8)
  -- a number of none
  obtain ⟨xs8, hx8, hl8, _⟩ := DS8.kt.al (wo_al _ _)
  rw [List.length_map] at hl8
  refine ⟨.ref l, rfl, .ref t, rfl, t, xs8, rfl, .inr (sqt hx8), l, c, ns, xs8.length, rfl, by omega, by omega, DS8.li.st, fun H9 v k9 st9 odd9 => ?_⟩
  have DS9 := DS8.go (DS8.li.goK k9 st9)
  have od9 := DS9.li.odd odd9
  rw [hl8] at od9
  refine ⟨fun σ H' => σ = [some (.ref a), some (.ref l), some (.int (0 + (i : Nat))), some (.ref t), some (.ref hp), some (.str e.shown), some (.ref t0), some v, y8, y9, y10, y11, y12, y13, y14, y15] ∧ DS l c tab ns t hp ss e t0 (rows0 ss.length) H', ?_, ?_⟩
  · refine ⟨fun p hp => by rw [List.mem_singleton.mp hp]; exact DS9.li.tb, fun Hx ex tb => ?_⟩
    have DSx := DS9.go (DS9.li.goE ex (tb _ (List.mem_singleton.mpr rfl)))
    refine ⟨.ref hp, rfl, .ref t0, rfl, v, rfl, hp, t0, v, ss, rows0 ss.length, rfl, (DSx.dh.al (wo_al _ _)).deep, ok, (DSx.kr.al (wo_al _ _)).deepP, so0.len, .inr ⟨.inr ((od9.al (DS9.li.goE ex (tb _ (List.mem_singleton.mpr rfl))).al).al (wo_al _ _)), fun H' d k hd => ⟨rfl, d, _, rfl, hd, rfl, true, rfl, iteF ?_⟩⟩⟩
    exact ⟨rfl, DSx.go (DSx.li.goA k)⟩
  rintro σ H10 ⟨rfl, DS10⟩
  refine ⟨fun σ H' => ∃ (t0 : Addr) (rows : List Row) (y7 y8 y9 y10 y11 y12 y13 y14 y15 : Option V), σ = [some (.ref a), some (.ref l), some (.int (0 + (i : Nat))), some (.ref t), some (.ref hp), some (.str e.shown), some (.ref t0), y7, y8, y9, y10, y11, y12, y13, y14, y15] ∧ StOk rows ss ∧ DS l c tab ns t hp ss e t0 rows H', ?_, ?_⟩
  case _ =>
    refine ⟨.ref l, rfl, l, c, ns, 41, rfl, by decide, by decide, DS10.li.st, fun H11 d k11 st11 d0 d1 => ?_⟩
    have DS11 := DS10.go (DS10.li.goK k11 st11)
    refine ⟨_, rfl, by omega, by omega, for_range (n := d.toNat) (fun i' σ H' => ∃ (t0 : Addr) (rows : List Row) (y7 y8 y9 y10 y11 y12 y13 y14 y15 : Option V), σ = [some (.ref a), some (.ref l), some (.int (0 + (i : Nat))), some (.ref t), some (.ref hp), some (.str e.shown), some (.ref t0), y7, y8, y9, y10, y11, y12, y13, y14, y15] ∧ StOk rows ss ∧ DS l c tab ns t hp ss e t0 rows H')
      ⟨t0, _, some v, y8, y9, y10, y11, y12, y13, y14, y15, rfl, so0, DS11⟩ ?step (fun σ H' h => h)⟩
    clear DS6 DS7 DS8 DS9 DS10 DS11 od9 odd9
    rintro j σ H12 hj ⟨t0, rows, y7, y8, y9, y10, y11, y12, y13, y14, y15, rfl, so, D12⟩
    have lr := so.len
    have lfr := so.rows ok
    -- who has a step left
    refine ⟨.ref t, rfl, .ref t0, rfl, t, t0, ss, rows, rfl, D12.kt.al (wo_al _ _), D12.kr.al (wo_al _ _), lr, by omega, fun H13 L k13 nL hL => ?_⟩
    have g13 := D12.li.goA k13
    have D13 := D12.go g13
    have L13 : wo l H13 L = some (.lst ((leftL ss rows ss.length).map fun k => V.int (k : Nat))) := D12.li.new nL (fun _ z => by cases z) hL
    -- who has ended
    refine ⟨fun σ H' => ∃ E : Addr, σ = [some (.ref a), some (.ref l), some (.int (0 + (i : Nat))), some (.ref t), some (.ref hp), some (.str e.shown), some (.ref t0), y7, some (.int (0 + (j : Nat))), some (.ref L), some (.ref E), y11, y12, y13, y14, y15] ∧ DS l c tab ns t hp ss e t0 rows H' ∧
      wo l H' L = some (.lst ((leftL ss rows ss.length).map fun k => V.int (k : Nat))) ∧ wo l H' E = some (.lst (((List.range ss.length).filter fun k => !leftB ss rows k).map fun k => V.int (k : Nat))), ?_, ?_⟩
    · obtain ⟨xs13, hx13, hl13, _⟩ := D13.kt.al (wo_al _ _)
      rw [List.length_map] at hl13
      have L13' := wo_al _ _ _ _ L13
      refine ⟨.ref t, rfl, t, xs13, rfl, .inr (sqt hx13), _, rfl, by omega, by omega, fun D nD => ?_⟩
      have nDm : H13 D = none := nD
      rw [hl13]
      refine lc_range (n := ss.length) (fun k H' => Al H13 H' ∧ H' D = some (.lst (((List.range k).filter fun k => !leftB ss rows k).map fun k => V.int (k : Nat)))) ⟨Al.refl.new nD, upd_same⟩ (fun k H' hk hI => ?_) (fun H' hI => ?_)
      · obtain ⟨kk, hD⟩ := hI
        have hL' := kk _ _ L13'
        have stepE : (List.range (k + 1)).filter (fun k => !leftB ss rows k) = (List.range k).filter (fun k => !leftB ss rows k) ++ (if (!leftB ss rows k) = true then [k] else []) := by
          rw [List.range_succ, List.filter_append]
          congr 1
          rw [List.filter_cons]
          split <;> simp_all
        refine ⟨rfl, ?_⟩
        refine ⟨_, rfl, .ref L, rfl, L, _, rfl, .inl (sq hL'), rfl, flat_nats _, _, rfl, ?_⟩
        have val : (if true = true then !inV (.int (0 + (k : Nat))) ((leftL ss rows ss.length).map fun k => V.int (k : Nat)) else inV (.int (0 + (k : Nat))) ((leftL ss rows ss.length).map fun k => V.int (k : Nat))) = !leftB ss rows k := by
          rw [if_pos rfl, left_in hk]
        refine (congrArg (fun b : Bool => if b = true then _ else _) val).mpr ?_
        cases hb : leftB ss rows k with
        | false =>
          refine iteT ⟨_, rfl, _, hD, ?_, fun b o z => ?_, ?_⟩
          · rw [List.length_map]
            have z := List.length_filter_le (fun k => !leftB ss rows k) (List.range k)
            rw [List.length_range] at z
            exact small1000 (by omega)
          · rw [upd_ne (ne_of_none z nDm)]
            exact kk _ _ z
          · rw [upd_same, stepE, hb, if_pos (show (!false) = true from rfl), List.map_append, Int.zero_add]
            rfl
        | true =>
          refine iteF ⟨kk, ?_⟩
          rw [hD, stepE, hb, if_neg (by decide), List.append_nil]
      · obtain ⟨kk, hD⟩ := hI
        have g := D13.li.goA kk
        exact ⟨D, rfl, D13.go g, g.al _ _ L13, D13.li.new nDm (fun _ z => by cases z) hD⟩
    rintro σ H14 ⟨E, rfl, D14, L14, E14⟩
    -- a number of none
    obtain ⟨xs14, hx14, hl14, _⟩ := D14.kt.al (wo_al _ _)
    rw [List.length_map] at hl14
    refine ⟨.ref l, rfl, .ref t, rfl, t, xs14, rfl, .inr (sqt hx14), l, c, ns, xs14.length, rfl, by omega, by omega, D14.li.st, fun H15 v k15 st15 odd15 => ?_⟩
    have g15 := D14.li.goK k15 st15
    have D15 := D14.go g15
    have L15 := g15.al _ _ L14
    have E15 := g15.al _ _ E14
    have od15 := D15.li.odd odd15
    rw [hl14] at od15
    refine ⟨fun σ H' => ∃ y11, σ = [some (.ref a), some (.ref l), some (.int (0 + (i : Nat))), some (.ref t), some (.ref hp), some (.str e.shown), some (.ref t0), some v, some (.int (0 + (j : Nat))), some (.ref L), some (.ref E), y11, y12, y13, y14, y15] ∧ DS l c tab ns t hp ss e t0 rows H' ∧
      wo l H' L = some (.lst ((leftL ss rows ss.length).map fun k => V.int (k : Nat))), ?_, ?_⟩
    · have st15' := D15.li.st
      refine ⟨.ref E, rfl, 1, rfl, E, _, rfl, sq (wo_al _ _ _ _ E15), fun p1 np1 => ?_⟩
      have k1 := (Al.refl (H := H15)).new (o := .lst (cutV (((List.range ss.length).filter fun k => !leftB ss rows k).map fun k => V.int (k : Nat)) none (some 1))) np1
      refine ⟨v, rfl, by show 1 ≤ sizeLine; decide, fun p2 np2 => ?_⟩
      have k2 := k1.new (o := .lst [v]) np2
      have g2 := D15.li.goA k2
      have e1 := (Al.refl.new (o := .lst [v]) np2) p1 _ (upd_same (H := H15) (o := .lst (cutV (((List.range ss.length).filter fun k => !leftB ss rows k).map fun k => V.int (k : Nat)) none (some 1))))
      have n1 : H15 p1 = none := np1
      have n2 : H15 p2 = none := k1.gone np2
      have w1 := D15.li.new n1 (fun _ z => by cases z) e1
      have w2 := D15.li.new n2 (fun _ z => by cases z) (upd_same (H := upd H15 p1 (.lst (cutV (((List.range ss.length).filter fun k => !leftB ss rows k).map fun k => V.int (k : Nat)) none (some 1)))) (o := .lst [v]))
      refine ⟨.ref l, rfl, l, c, ns, 4, rfl, by decide, by decide, g2.li.st, fun H18 d18 k18 st18 d0 d4 => ?_⟩
      have g18 := g2.li.goK k18 st18
      have D18 := (D15.go g2).go g18
      have w1' := wo_al _ _ _ _ (g18.al _ _ w1)
      have w2' := wo_al _ _ _ _ (g18.al _ _ w2)
      have E3 : (((List.range ss.length).filter fun k => !leftB ss rows k).map fun k => V.int (k : Nat)).length ≤ 4 := by
        rw [List.length_map]
        have z := List.length_filter_le (fun k => !leftB ss rows k) (List.range ss.length)
        rw [List.length_range] at z
        omega
      refine ⟨rfl, .inr ⟨_, rfl, p2, _, _, rfl, rfl, w2', ?_, ?_, ?_, fun p3 np3 => ?_⟩⟩
      · split <;> decide
      · split <;> decide
      · split
        · show 1 * 1 ≤ sizeLine
          decide
        · show 1 * 0 ≤ sizeLine
          decide
      have k3 := (Al.refl (H := H18)).new (o := .lst (List.replicate (if decide (V.int d18 = V.int 0) = true then (1 : Int) else 0).toNat [v]).flatten) np3
      have rl : (List.replicate (if decide (V.int d18 = V.int 0) = true then (1 : Int) else 0).toNat [v]).flatten.length ≤ 1 := by
        split <;> simp
      refine ⟨p1, p3, _, _, rfl, rfl, k3 _ _ w1', upd_same, ?_, fun p4 np4 => ?_⟩
      · have z := cutV_length (((List.range ss.length).filter fun k => !leftB ss rows k).map fun k => V.int (k : Nat)) none (some 1)
        exact Nat.le_of_lt (small1000 (by omega))
      have k4 := k3.new (o := .lst (cutV (((List.range ss.length).filter fun k => !leftB ss rows k).map fun k => V.int (k : Nat)) none (some 1) ++ (List.replicate (if decide (V.int d18 = V.int 0) = true then (1 : Int) else 0).toNat [v]).flatten)) np4
      have g4 := D18.li.goA k4
      have P4 := D18.li.new (k3.gone np4) (fun _ z => by cases z) (upd_same (H := upd H18 p3 (.lst (List.replicate (if decide (V.int d18 = V.int 0) = true then (1 : Int) else 0).toNat [v]).flatten)) (o := .lst (cutV (((List.range ss.length).filter fun k => !leftB ss rows k).map fun k => V.int (k : Nat)) none (some 1) ++ (List.replicate (if decide (V.int d18 = V.int 0) = true then (1 : Int) else 0).toNat [v]).flatten)))
      have mem : ∀ x ∈ cutV (((List.range ss.length).filter fun k => !leftB ss rows k).map fun k => V.int (k : Nat)) none (some 1) ++ (List.replicate (if decide (V.int d18 = V.int 0) = true then (1 : Int) else 0).toNat [v]).flatten, (∃ k : Nat, k < ss.length ∧ x = .int k ∧ leftB ss rows k = false) ∨ x = v := fun x hx => by
        rcases List.mem_append.mp hx with h | h
        · obtain ⟨k, hk, rfl⟩ := List.mem_map.mp (cut_mem h)
          obtain ⟨h1, h2⟩ := List.mem_filter.mp hk
          exact .inl ⟨k, List.mem_range.mp h1, rfl, by simpa using h2⟩
        · obtain ⟨l', h1, h2⟩ := List.mem_flatten.mp h
          rw [List.eq_of_mem_replicate h1] at h2
          exact .inr (List.mem_singleton.mp h2)
      have D19 := D18.go g4
      have L19 := g4.al _ _ (g18.al _ _ (g2.al _ _ L15))
      have od19 := od15.al ((g2.al.trans g18.al).trans g4.al)
      generalize (cutV (((List.range ss.length).filter fun k => !leftB ss rows k).map fun k => V.int (k : Nat)) none (some 1) ++ (List.replicate (if decide (V.int d18 = V.int 0) = true then (1 : Int) else 0).toNat [v]).flatten) = xs at P4 mem D19 L19 od19
      refine ⟨p4, rfl, ⟨_, sq upd_same⟩, for_list (xs := xs) (fun _ σ H' => ∃ y11, σ = [some (.ref a), some (.ref l), some (.int (0 + (i : Nat))), some (.ref t), some (.ref hp), some (.str e.shown), some (.ref t0), some v, some (.int (0 + (j : Nat))), some (.ref L), some (.ref E), y11, y12, y13, y14, y15] ∧ DS l c tab ns t hp ss e t0 rows H' ∧
        wo l H' L = some (.lst ((leftL ss rows ss.length).map fun k => V.int (k : Nat))) ∧ wo l H' p4 = some (.lst xs) ∧ OddAt (wo l H') ss.length v) ⟨_, rfl, D19, L19, P4, od19⟩ (fun _ σ H' _ ⟨_, _, _, _, h, _⟩ => sq (wo_al _ _ _ _ h)) ?each (fun σ H' ⟨y, h1, h2, h3, _⟩ => ⟨y, h1, h2, h3⟩)⟩
      rintro z x σ H20 hx ⟨y11', rfl, D20, L20, P20, od20⟩
      refine ⟨fun p hp => by rw [List.mem_singleton.mp hp]; exact D20.li.tb, fun Hx ex tb => ?_⟩
      have gx := D20.li.goE ex (tb _ (List.mem_singleton.mpr rfl))
      have Dx := D20.go gx
      have odx := od20.al gx.al
      refine ⟨.ref hp, rfl, .ref t0, rfl, x, rfl, hp, t0, x, ss, rows, rfl, (Dx.dh.al (wo_al _ _)).deep, ok, (Dx.kr.al (wo_al _ _)).deepP, lr, .inr ⟨?_, fun H' d k hd => ⟨rfl, d, _, rfl, hd, rfl, true, rfl, iteF ?_⟩⟩⟩
      · rcases mem x (List.mem_of_getElem? hx) with h | h
        · exact .inl h
        · rw [h]
          exact .inr (odx.al (wo_al _ _))
      · have gk := Dx.li.goA k
        exact ⟨_, rfl, Dx.go gk, gk.al _ _ (gx.al _ _ L20), gk.al _ _ (gx.al _ _ P20), odx.al gk.al⟩
    rintro σ H16 ⟨y11', rfl, D16, L16⟩
    have L16' := wo_al _ _ _ _ L16
    refine ⟨.ref L, rfl, Nat.zero_le _, fun p np => ⟨L, p, _, rfl, rfl, (upd_ne (ne_of_none L16' np)).trans L16', upd_same, _, rfl, ite2 (fun en => ?_) (fun en => ?_)⟩⟩
    all_goals
      have g17 := D16.li.goA ((Al.refl (H := H16)).new (o := .lst []) np)
      have D17 := D16.go g17
      have L17 := g17.al _ _ L16
      generalize eH17 : upd H16 p (.lst []) = H17 at D17 L17
    · have L17' := wo_al _ _ _ _ L17
      have ln : ((leftL ss rows ss.length).map fun k => V.int (k : Nat)).length = (leftL ss rows ss.length).length := List.length_map _
      have lpos : 0 < (leftL ss rows ss.length).length := by
        cases hq : leftL ss rows ss.length with
        | nil =>
          rw [hq] at en
          cases en
        | cons _ _ => exact Nat.succ_pos _
      have lle : (leftL ss rows ss.length).length ≤ 4 := by
        have z := List.length_filter_le (leftB ss rows) (List.range ss.length)
        rw [List.length_range] at z
        unfold leftL
        omega
      -- one of those that have a step left
      refine ⟨.ref L, rfl, .ref l, rfl, .ref L, rfl, L, _, rfl, .inl (sq L17'), l, c, ns, _, rfl, by rw [ln]; omega, by rw [ln]; omega, D17.li.st, fun H18 d18 k18 st18 d0 d1 => ?_⟩
      have g18 := D17.li.goK k18 st18
      have D18 := D17.go g18
      have L18 := wo_al _ _ _ _ (g18.al _ _ L17)
      obtain ⟨dn, rfl⟩ := Int.eq_ofNat_of_zero_le d0
      have dl : dn < (leftL ss rows ss.length).length := by omega
      obtain ⟨aa, eaa⟩ : ∃ aa, (leftL ss rows ss.length)[dn]? = some aa := ⟨_, List.getElem?_eq_getElem dl⟩
      obtain ⟨m1, m2⟩ := List.mem_filter.mp (List.mem_of_getElem? eaa)
      have an := List.mem_range.mp m1
      have ar : aa < rows.length := by omega
      obtain ⟨r, e1⟩ : ∃ r, rows[aa]? = some r := ⟨_, List.getElem?_eq_getElem ar⟩
      obtain ⟨ws, e2⟩ : ∃ ws, ss[aa]? = some ws := ⟨_, List.getElem?_eq_getElem an⟩
      have pl : r.pl < ws.length := by
        unfold leftB at m2
        rw [e1, e2] at m2
        exact of_decide_eq_true m2
      obtain ⟨word, e3⟩ : ∃ v, ws[r.pl]? = some v := ⟨_, List.getElem?_eq_getElem pl⟩
      refine ⟨L, _, (dn : Int), .int (aa : Nat), rfl, rfl, sq L18, atI_nat (by rw [List.getElem?_map, eaa]; rfl), ?_⟩
      -- what is due
      refine ⟨.ref t, rfl, .ref t0, rfl, .int (aa : Nat), rfl, t, t0, ss, rows, aa, r, ws, word, rfl, D18.kt.al (wo_al _ _), D18.kr.al (wo_al _ _), by omega, e1, e2, e3, fun H19 th u m k19 nth top hth kidsU => ?_⟩
      have g19 := D18.li.goA k19
      have D19 := D18.go g19
      have th19 := D19.li.off hth
      have u19 := D19.li.kids kidsU
      -- the state as it is handed
      refine ⟨.ref l, rfl, .ref t0, rfl, l, c, ns, .ref t0, _, wo l H19, rfl, D19.li.st, wo_al _ _, wo_l _ _, kids_mx D19.kr (by rw [List.length_map]; omega) lfr, fun H20 y e2' G20 k20 st20 a1' a2' new20 mx20 sh20 => ?_⟩
      have g20 := D19.li.goK k20 st20
      have D20 := D19.go g20
      have M20 := D19.li.hand a2' new20 mx20
      obtain ⟨sp, rfl, S20⟩ := mx_deep (fun k hk => (lfr k hk).2) M20 sh20
      have th20 := g20.al _ _ th19
      have u20 := u19.al g20.al
      obtain ⟨z1, z2, z3, z4⟩ := M20.tell
      refine ⟨.ref sp, rfl, sp, e2', rfl, (M20.al (wo_al _ _)).dp, z1, z2, by omega, Nat.le_trans z4 (by decide), ?_⟩
      -- twice the same
      refine ⟨fun σ H' => ∃ y15, σ = [some (.ref a), some (.ref l), some (.int (0 + (i : Nat))), some (.ref t), some (.ref hp), some (.str e.shown), some (.ref t0), some v, some (.int (0 + (j : Nat))), some (.ref L), some (.ref E), some (.int (aa : Nat)), some (.ref th), some (.ref sp), some (.str e2'.shown), y15] ∧ DS l c tab ns t hp ss e t0 rows H' ∧
        wo l H' th = some (.tup [.ref u, .bl (nextRow word r m).2]) ∧ Kids (wo l H') u ((rows.set aa (nextRow word r m).1).map rowV) ∧ Mx (wo l H') 2 (.ref sp) e2' ∧ DeepP (wo l H') sp (rows.map rowV), ?_, ?_⟩
      · refine ⟨2, rfl, by decide, by decide, for_range (n := 2) (fun _ σ H' => ∃ y15, σ = [some (.ref a), some (.ref l), some (.int (0 + (i : Nat))), some (.ref t), some (.ref hp), some (.str e.shown), some (.ref t0), some v, some (.int (0 + (j : Nat))), some (.ref L), some (.ref E), some (.int (aa : Nat)), some (.ref th), some (.ref sp), some (.str e2'.shown), y15] ∧ DS l c tab ns t hp ss e t0 rows H' ∧
          wo l H' th = some (.tup [.ref u, .bl (nextRow word r m).2]) ∧ Kids (wo l H') u ((rows.set aa (nextRow word r m).1).map rowV) ∧ Mx (wo l H') 2 (.ref sp) e2' ∧ DeepP (wo l H') sp (rows.map rowV)) ⟨_, rfl, D20, th20, u20, M20, S20⟩ ?again (fun σ H' h => h)⟩
        rintro z σ H21 hz ⟨y15, rfl, D21, th21, u21, M21, S21⟩
        refine ⟨.ref hp, rfl, .ref sp, rfl, .int (aa : Nat), rfl, hp, sp, .int (aa : Nat), ss, rows, rfl, (D21.dh.al (wo_al _ _)).deep, ok, S21.al (wo_al _ _), lr, .inl ⟨aa, r, ws, word, rfl, so.good, e1, e2, e3, fun H22 t2 u2 m2 k22 nt2 top2 ht2 kids2 => ?_⟩⟩
        have g22 := D21.li.goA k22
        obtain rfl : m2 = m := top2.one top
        refine ⟨.ref th, rfl, .ref t2, .ref th, rfl, pair_tw ht2 ((wo_al _ _) _ _ (g22.al _ _ th21)) (kids_tw kids2 ((u21.al g22.al).al (wo_al _ _)) (by rw [List.length_map, List.length_set]; omega) (row_tw _)), fun H23 k23 => ⟨true, rfl, iteF ?_⟩⟩
        have g23 := g22.li.goA k23
        have g := g22.trans g23
        exact ⟨_, rfl, D21.go g, g.al _ _ th21, u21.al g.al, M21.al g.al, S21.al g.al⟩
      rintro σ H21 ⟨y15', rfl, D21, th21, u21, M21, S21⟩
      refine ⟨.ref sp, rfl, sp, e2', rfl, (M21.al (wo_al _ _)).dp, z1, z2, by omega, Nat.le_trans z4 (by decide), .str e2'.shown, rfl, rfl, _, rfl, ?_⟩
      rw [decide_eq_true rfl]
      refine iteF ⟨.ref th, rfl, th, _, 0, .ref u, rfl, rfl, sqt (wo_al _ _ _ _ th21), rfl, ?_⟩
      exact ⟨u, _, _, _, _, _, _, _, _, _, _, rfl, so.next e1 e2 e3 top, D21.li, D21.kt, D21.mh, D21.dh, u21⟩
    · exact ⟨t0, rows, _, _, _, _, _, _, _, _, _, rfl, so, D17⟩
  case _ =>
    rintro σ H12 ⟨t0, rows, y7, y8, y9, y10, y11, y12, y13, y14, y15, rfl, so, D12⟩
    obtain ⟨p1, p2, p3, p4⟩ := D12.mh.tell
    refine ⟨.ref hp, rfl, hp, e, rfl, (D12.mh.al (wo_al _ _)).dp, p1, p2, by omega, Nat.le_trans p4 (by decide), .str e.shown, rfl, rfl, _, rfl, ?_⟩
    rw [decide_eq_true rfl]
    exact iteF ⟨_, _, _, _, _, _, _, _, _, _, _, _, _, _, rfl, D12.li⟩
end
end Lk

namespace Err
open PySem PySem.W PySem.Calls PyProof.Rows PySem.Spec L2 Drw
def B2 (K : Frag) (fd : FuncData) : Prop := ∀ (s : Shared) (x : Addr) (v : Value), K.In s.heap → BindsTo s fd ⟨[.ref x, v], []⟩ [(me, .ref x), (fld, v)]
def B1 (K : Frag) (fd : FuncData) : Prop := ∀ (s : Shared) (x : Addr), K.In s.heap → BindsTo s fd ⟨[.ref x], []⟩ [(me, .ref x), (fld, .none)]
/-- the init at f (its class at D) hands on to the next one -/
def Hands (prog : Program) (w : World) (K : Frag) (f D : Addr) (fd : FuncData) : Prop := ∀ (C f2 : Addr) (fd2 : FuncData) (n : Nat), mroIn K C (.ref D) = some true → ks_superIn K C D "__init__" = some (some (.ref f2)) → fnIn K f2 = true → typeIn K (.ref f2) = some (.type "function") →
  B2 K fd2 → InitOk prog w K C f2 fd2 n → InitOk prog w K C f fd (n + 1)
theorem hands_mk {prog : Program} {w : World} {K : Frag} {f : Addr} {qual : Str} {kV doc pm ct oc ccl cl tc : Value} {od an cdd cld td : Option Addr} {osl ccs csl tsl : Array (Option Value)} {p1 p2 pd q1 q2 q3 q4 q5 q6 : Pos} {cda cc D T : Addr} {vs : Array Value} {file : Str} {tf : Tok} {tn : Nat}
    (ho : K.lookup f = some ⟨oc, od, .func (ksFn "__init__" qual (iA p1 p2 pd) (jB q1 q2 q3 q4 q5 q6) jS (.ref T) kV doc pm an (.ref cda) ct cc), osl⟩) (hT : K.lookup T = some ⟨tc, td, .seq #[.none] tn, tsl⟩) (hcd : codeIn K (.ref cda) qual = true)
    (hcode : K.lookup cda = some ⟨ccl, cdd, .fields vs, ccs⟩) (hvs : vs[2]? = some (.str file tf)) (hfile : ((prog.main.file : Str) == file) = true) (htop : (prog.main.scope.names.lookup ("super" : Str)).isSome = false)
    (hcell : K.lookup cc = some ⟨cl, cld, .cell (some (.ref D)), csl⟩) (hD : (clsIn K D).isSome = true) (hop : nsIn K cStatics "thirdparty.any" = some none)
    {pl : Sem Bool} (hE : ∀ env : Env, eval (.Call (.Attribute (.Call (.Name "super" q1) [] [] q2) "__init__" q3) [.Name fld q4] [] q5) env = (do
      let ov ← attributeBase (.Call (.Name "super" q1) [] [] q2) "__init__" env (eval (.Call (.Name "super" q1) [] [] q2) env)
      standAt q3.atName
      let (g, first) ← holding [ov] (getMethod ov "__init__" pl)
      callWith q5 g first (backTo q5 (starEach [.Name fld q4] env)) [])) :
    ∃ fd, Hands prog w K f D fd ∧ B2 K fd ∧ B1 K fd := by
  refine ⟨ksFn "__init__" qual (iA p1 p2 pd) (jB q1 q2 q3 q4 q5 q6) jS (.ref T) kV doc pm an (.ref cda) ct cc, fun C f2 fd2 n hs hm h2 t2 b2 G => ?_, fun s x v X => BindsTo.of_looks fun M => ?_, fun s x X => BindsTo.of_looks fun M => ?_⟩
  · obtain ⟨cdD, hD⟩ := Option.isSome_iff_exists.mp hD
    exact init_next ho hcd hcode hvs hfile htop hcell hD hs hop hm h2 t2 hE b2 G
  · exact looks_items (its := #[.none]) X hT rfl (.of_pure rfl)
  · exact looks_items (its := #[.none]) X hT rfl (.of_pure rfl)
theorem first_mk {prog : Program} {w : World} {K : Frag} {f : Addr} {qual : Str} {kV doc pm cdv ct oc tc : Value} {od an td : Option Addr} {osl tsl : Array (Option Value)} {p1 p2 pd q1 q2 q3 q4 : Pos} {T : Addr} {tn : Nat}
    (ho : K.lookup f = some ⟨oc, od, .func (fnOf "__init__" qual (iA p1 p2 pd) (iB q1 q2 q3 q4) iS (.ref T) kV doc pm an cdv ct), osl⟩) (hT : K.lookup T = some ⟨tc, td, .seq #[.none] tn, tsl⟩) (hcd : codeIn K cdv qual = true) :
    ∃ fd, (∀ C, Cl K C → InitOk prog w K C f fd 1) ∧ B2 K fd ∧ B1 K fd := by
  refine ⟨fnOf "__init__" qual (iA p1 p2 pd) (iB q1 q2 q3 q4) iS (.ref T) kV doc pm an cdv ct, fun C T => init_first T ho hcd, fun s x v X => BindsTo.of_looks fun M => ?_, fun s x X => BindsTo.of_looks fun M => ?_⟩
  · exact looks_items (its := #[.none]) X hT rfl (.of_pure rfl)
  · exact looks_items (its := #[.none]) X hT rfl (.of_pure rfl)
/-- one look at a class -/
def okC (K : Frag) (C : Addr) : Bool :=
  excInitIn K C exB "Exception.__new__" && (excOver K C exB && (decide (takerIn K C fld = some none) && (hasDictIn K C && (decide (findIn K (.ref C) "__setattr__" = some (some (.builtin "object.__setattr__"))) && (keepIn K (.ref C) && ((clsIn K C).isSome &&
  (decide (findIn K (.ref C) "__getattribute__" = some (some (.builtin "BaseException.__getattribute__"))) && (decide (findIn K (.ref C) "__getattr__" = some none) && (decide (subIn K (.ref C) (.type "BaseException") = some true) && (decide (typeIn K (.ref C) = some (.type "type")) &&
  (decide (findIn K (.ref C) "__class__" = some (some (.builtin "object.__class__"))) && (decide (specialIn K (.builtin "object.__class__") "__get__" = some (some (.builtin "getset_descriptor.__get__"))) && (decide (takesIn K (.builtin "object.__class__") = some true) &&
  (decide (mroIn K C (.type "object") = some true) && decide (findIn K (.ref C) fld = some none)))))))))))))))
structure CF (K : Frag) (C : Addr) : Prop where
  cl : Cl K C
  kC : keepIn K (.ref C) = true
  iso : (clsIn K C).isSome = true
  ga : findIn K (.ref C) "__getattribute__" = some (some (.builtin "BaseException.__getattribute__"))
  gg : findIn K (.ref C) "__getattr__" = some none
  ex : subIn K (.ref C) (.type "BaseException") = some true
  ty : typeIn K (.ref C) = some (.type "type")
  ha : findIn K (.ref C) "__class__" = some (some (.builtin "object.__class__"))
  hn : specialIn K (.builtin "object.__class__") "__get__" = some (some (.builtin "getset_descriptor.__get__"))
  ht : takesIn K (.builtin "object.__class__") = some true
  hm : mroIn K C (.type "object") = some true
  no : findIn K (.ref C) fld = some none
theorem okC_ok {K : Frag} {C : Addr} (h : okC K C = true) : CF K C := by
  unfold okC at h
  simp only [Bool.and_eq_true, decide_eq_true_eq] at h
  obtain ⟨a1, a2, a3, a4, a5, a6, a7, a8, a9, a10, a11, a12, a13, a14, a15, a16⟩ := h
  exact ⟨⟨a1, a2, a3, a4, a5⟩, a6, a7, a8, a9, a10, a11, a12, a13, a14, a15, a16⟩
theorem ec_mk {prog : Program} {w : World} {K : Frag} {mg : Str → Option Value} {nm : Str} {C fI : Addr} {fd : FuncData} (c : CF K C) (g : mg nm = some (.ref C)) (su : mg "super" = none) (hi : findIn K (.ref C) "__init__" = some (some (.ref fI))) (tI : typeIn K (.ref fI) = some (.type "function"))
    (G : InitOk prog w K C fI fd 4) (b2 : B2 K fd) (b1 : B1 K fd) : EC prog w K mg nm C :=
  { g := g, kC := c.kC, cl := c.cl, ini := ⟨fI, fd, hi, tI, G, b2, b1⟩, iso := c.iso, ga := c.ga, gg := c.gg, ex := c.ex, ty := c.ty, ha := c.ha, hn := c.hn, ht := c.ht, hm := c.hm, no := c.no, su := su }
/-- all that is looked up of the three classes -/
def look3 (K : Frag) (cP cD cE fP fD fE : Addr) : Bool :=
  okC K cP && (decide (findIn K (.ref cP) "__init__" = some (some (.ref fP))) && (decide (typeIn K (.ref fP) = some (.type "function")) && (decide (typeIn K (.ref fD) = some (.type "function")) && (decide (typeIn K (.ref fE) = some (.type "function")) && (fnIn K fD && (fnIn K fE &&
  (decide (mroIn K cP (.ref cP) = some true) && (decide (ks_superIn K cP cP "__init__" = some (some (.ref fD))) && (decide (mroIn K cP (.ref cD) = some true) && (decide (ks_superIn K cP cD "__init__" = some (some (.ref fE))) && (decide (subIn K (.ref cP) (.ref cP) = some true) && decide (kitOne K (.ref cP) (.ref cD) = some true))))))))))))
theorem three_end {P : Program} {w : World} {K : Frag} {h : Heap} {mg : Str → Option Value} {cP cD cE fP fD fE : Addr} (X : K.In h) (G : h.Ns mainGlobals mg) (AP : nsIn K mainGlobals "ProgrammingError" = some (some (.ref cP))) (AD : nsIn K mainGlobals "DatabaseError" = some (some (.ref cD))) (AE : nsIn K mainGlobals "Error" = some (some (.ref cE)))
    (iP : findIn K (.ref cP) "__init__" = some (some (.ref fP))) (iD : findIn K (.ref cD) "__init__" = some (some (.ref fD))) (iE : findIn K (.ref cE) "__init__" = some (some (.ref fE))) (S : nsIn K mainGlobals "super" = some none) (L : look3 K cP cD cE fP fD fE = true) (E0 : ∃ fd, (∀ C, Cl K C → InitOk P w K C fE fd 1) ∧ B2 K fd ∧ B1 K fd) (E1 : ∃ fd, Hands P w K fD cD fd ∧ B2 K fd ∧ B1 K fd) (E2 : ∃ fd, Hands P w K fP cP fd ∧ B2 K fd ∧ B1 K fd) :
    EC P w K mg "ProgrammingError" cP ∧ mg "DatabaseError" = some (.ref cD) ∧ mg "Error" = some (.ref cE) ∧ exmOne K (.ref cP) (.ref cP) = some true ∧ kitOne K (.ref cP) (.ref cD) = some true := by
  unfold look3 at L
  simp only [Bool.and_eq_true, decide_eq_true_eq] at L
  obtain ⟨a1, a2, a3, a4, a5, a6, a7, a8, a9, a10, a11, a12, a13⟩ := L
  have c := okC_ok a1
  obtain ⟨d0, i0, b20, _⟩ := E0
  obtain ⟨d1, h1, b21, _⟩ := E1
  obtain ⟨d2, h2, b22, b12⟩ := E2
  have i1 : InitOk P w K cP fD d1 2 := h1 cP fE d0 1 a10 a11 a7 a5 b20 (i0 _ c.cl)
  have i2 : InitOk P w K cP fP d2 3 := h2 cP fD d1 2 a8 a9 a6 a4 b21 i1
  exact ⟨ec_mk c (mg_of X G AP) (mg_none_of X G S) a2 a3 (i2.mono (by decide)) b22 b12, mg_of X G AD, mg_of X G AE, exm_ref c.ex c.cl.hd c.ty a12, a13⟩
end Err

namespace Lk
open PySem PySem.W PySem.Calls PyProof.Rows PySem.Spec L2 Drw Err LamX Grd
/-- a written tuple of texts -/
theorem tup_strs {K : Frag} {a : Addr} {c : Value} {od : Option Addr} {its : Array Value} {n : Nat} {sl : Array (Option Value)} {xs : List Str} (h : K.lookup a = some ⟨.type "tuple", od, .seq its n, sl⟩) (hz : its.size ≤ sizeLine) (hx : (its.toList.map fun v => match v with | .str x _ => x | _ => Str.empty) = xs)
    (hs : (its.toList.all fun v => match v with | .str _ _ => true | _ => false) = true) (H : Hp) : SqT K H a (xs.map V.str) := by
  refine .inr ⟨_, its, n, h, rfl, rfl, hz, ?_⟩
  subst hx
  have key : ∀ l : List Value, (l.all fun v => match v with | .str _ _ => true | _ => false) = true → Vals ((l.map fun v => match v with | .str x _ => x | _ => Str.empty).map V.str) l := by
    intro l
    induction l with
    | nil => exact fun _ => .nil
    | cons v l ih =>
      intro h
      rw [List.all_cons, Bool.and_eq_true] at h
      cases v with
      | str x t => exact .cons ⟨t, rfl⟩ (ih h.2)
      | _ => cases h.1
  exact key _ hs
theorem all_end {l : OpenLaw} {w : World} {K : Frag} {h : Heap} {mg : Str → Option Value} {fa : Addr} (X : K.In h) (G : h.Ns mainGlobals mg) (hfa : mg "law" = some (.ref fa))
    {f0 : Addr} {od0 an0 : Option Addr} {sl0 : Array (Option Value)} {oc0 kV0 dc0 pm0 cd0 ct0 : Value}
    {f1 : Addr} {od1 an1 : Option Addr} {sl1 : Array (Option Value)} {oc1 kV1 dc1 pm1 cd1 ct1 : Value}
    {f2 : Addr} {od2 an2 : Option Addr} {sl2 : Array (Option Value)} {oc2 kV2 dc2 pm2 cd2 ct2 : Value}
    {f3 : Addr} {od3 an3 : Option Addr} {sl3 : Array (Option Value)} {oc3 kV3 dc3 pm3 cd3 ct3 : Value}
    {f4 : Addr} {od4 an4 : Option Addr} {sl4 : Array (Option Value)} {oc4 kV4 dc4 pm4 cd4 ct4 : Value}
    {f5 : Addr} {od5 an5 : Option Addr} {sl5 : Array (Option Value)} {oc5 kV5 dc5 pm5 cd5 ct5 : Value}
    {f6 : Addr} {od6 an6 : Option Addr} {sl6 : Array (Option Value)} {oc6 kV6 dc6 pm6 cd6 ct6 : Value}
    {f7 : Addr} {od7 an7 : Option Addr} {sl7 : Array (Option Value)} {oc7 kV7 dc7 pm7 cd7 ct7 : Value}
    {f8 : Addr} {od8 an8 : Option Addr} {sl8 : Array (Option Value)} {oc8 kV8 dc8 pm8 cd8 ct8 : Value}
    {f9 : Addr} {od9 an9 : Option Addr} {sl9 : Array (Option Value)} {oc9 kV9 dc9 pm9 cd9 ct9 : Value}
    {f10 : Addr} {od10 an10 : Option Addr} {sl10 : Array (Option Value)} {oc10 kV10 dc10 pm10 cd10 ct10 : Value}
    {f11 : Addr} {od11 an11 : Option Addr} {sl11 : Array (Option Value)} {oc11 kV11 dc11 pm11 cd11 ct11 : Value}
    {f12 : Addr} {od12 an12 : Option Addr} {sl12 : Array (Option Value)} {oc12 kV12 dc12 pm12 cd12 ct12 : Value}
    {f13 : Addr} {od13 an13 : Option Addr} {sl13 : Array (Option Value)} {oc13 kV13 dc13 pm13 cd13 ct13 : Value}
    {f14 : Addr} {od14 an14 : Option Addr} {sl14 : Array (Option Value)} {oc14 kV14 dc14 pm14 cd14 ct14 : Value}
    {f15 : Addr} {od15 an15 : Option Addr} {sl15 : Array (Option Value)} {oc15 kV15 dc15 pm15 cd15 ct15 : Value}
    {f16 : Addr} {od16 an16 : Option Addr} {sl16 : Array (Option Value)} {oc16 kV16 dc16 pm16 cd16 ct16 : Value}
    {f17 : Addr} {od17 an17 : Option Addr} {sl17 : Array (Option Value)} {oc17 kV17 dc17 pm17 cd17 ct17 : Value}
    {f18 : Addr} {od18 an18 : Option Addr} {sl18 : Array (Option Value)} {oc18 kV18 dc18 pm18 cd18 ct18 : Value}
    {f19 : Addr} {od19 an19 : Option Addr} {sl19 : Array (Option Value)} {oc19 kV19 dc19 pm19 cd19 ct19 : Value}
    {f20 : Addr} {od20 an20 : Option Addr} {sl20 : Array (Option Value)} {oc20 kV20 dc20 pm20 cd20 ct20 : Value}
    {f21 : Addr} {od21 an21 : Option Addr} {sl21 : Array (Option Value)} {oc21 kV21 dc21 pm21 cd21 ct21 : Value}
    {f22 : Addr} {od22 an22 : Option Addr} {sl22 : Array (Option Value)} {oc22 kV22 dc22 pm22 cd22 ct22 : Value}
    {f23 : Addr} {od23 an23 : Option Addr} {sl23 : Array (Option Value)} {oc23 kV23 dc23 pm23 cd23 ct23 : Value}
    {f24 : Addr} {od24 an24 : Option Addr} {sl24 : Array (Option Value)} {oc24 kV24 dc24 pm24 cd24 ct24 : Value}
    {f25 : Addr} {od25 an25 : Option Addr} {sl25 : Array (Option Value)} {oc25 kV25 dc25 pm25 cd25 ct25 : Value}
    {f26 : Addr} {od26 an26 : Option Addr} {sl26 : Array (Option Value)} {oc26 kV26 dc26 pm26 cd26 ct26 : Value}
    {f27 : Addr} {od27 an27 : Option Addr} {sl27 : Array (Option Value)} {oc27 kV27 dc27 pm27 cd27 ct27 : Value}
    {f28 : Addr} {od28 an28 : Option Addr} {sl28 : Array (Option Value)} {oc28 kV28 dc28 pm28 cd28 ct28 : Value}
    {f29 : Addr} {od29 an29 : Option Addr} {sl29 : Array (Option Value)} {oc29 kV29 dc29 pm29 cd29 ct29 : Value}
    {f30 : Addr} {od30 an30 : Option Addr} {sl30 : Array (Option Value)} {oc30 kV30 dc30 pm30 cd30 ct30 : Value}
    {f31 : Addr} {od31 an31 : Option Addr} {sl31 : Array (Option Value)} {oc31 kV31 dc31 pm31 cd31 ct31 : Value}
    {f32 : Addr} {od32 an32 : Option Addr} {sl32 : Array (Option Value)} {oc32 kV32 dc32 pm32 cd32 ct32 : Value}
    {f33 : Addr} {od33 an33 : Option Addr} {sl33 : Array (Option Value)} {oc33 kV33 dc33 pm33 cd33 ct33 : Value}
    {fL co tab : Addr} {odL anL : Option Addr} {slL : Array (Option Value)} {ocL kVL dcL pmL ctL : Value}
    {t0 : Nat}
    {t1 : Nat}
    {t2 : Nat}
    {t3 : Nat}
    {t4 : Nat}
    {t5 : Nat}
    {t6 : Nat}
    {w0 : Addr} {odw0 : Option Addr} {itw0 : Array Value} {nw0 : Nat} {slw0 : Array (Option Value)}
    {w1 : Addr} {odw1 : Option Addr} {itw1 : Array Value} {nw1 : Nat} {slw1 : Array (Option Value)}
    {w2 : Addr} {odw2 : Option Addr} {itw2 : Array Value} {nw2 : Nat} {slw2 : Array (Option Value)}
    {cP cD cE : Addr}
    (a0 : nsIn K mainGlobals "is_shared_refused" = some (some (.ref f0)))
    (l0 : K.lookup f0 = some ⟨oc0, od0, .func (fnOf "is_shared_refused" "is_shared_refused" (defArgs sShRef) (defBody sShRef) (defScope sShRef) .none kV0 dc0 pm0 an0 cd0 ct0), sl0⟩)
    (c0 : codeIn K cd0 "is_shared_refused" = true) (k0 : keepIn K (.ref f0) = true)
    (a1 : nsIn K mainGlobals "is_reserved_refused" = some (some (.ref f1)))
    (l1 : K.lookup f1 = some ⟨oc1, od1, .func (fnOf "is_reserved_refused" "is_reserved_refused" (defArgs sReRef) (defBody sReRef) (defScope sReRef) .none kV1 dc1 pm1 an1 cd1 ct1), sl1⟩)
    (c1 : codeIn K cd1 "is_reserved_refused" = true) (k1 : keepIn K (.ref f1) = true)
    (a2 : nsIn K mainGlobals "is_exclusive_refused" = some (some (.ref f2)))
    (l2 : K.lookup f2 = some ⟨oc2, od2, .func (fnOf "is_exclusive_refused" "is_exclusive_refused" (defArgs sExRef) (defBody sExRef) (defScope sExRef) .none kV2 dc2 pm2 an2 cd2 ct2), sl2⟩)
    (c2 : codeIn K cd2 "is_exclusive_refused" = true) (k2 : keepIn K (.ref f2) = true)
    (a3 : nsIn K mainGlobals "idle_lock" = some (some (.ref f3)))
    (l3 : K.lookup f3 = some ⟨oc3, od3, .func (fnOf "idle_lock" "idle_lock" (defArgs sIdle) (defBody sIdle) (defScope sIdle) .none kV3 dc3 pm3 an3 cd3 ct3), sl3⟩)
    (c3 : codeIn K cd3 "idle_lock" = true) (k3 : keepIn K (.ref f3) = true)
    (a4 : nsIn K mainGlobals "checked_scripts" = some (some (.ref f4)))
    (l4 : K.lookup f4 = some ⟨oc4, od4, .func (fnOf "checked_scripts" "checked_scripts" (defArgs sChecked) (defBody sChecked) (defScope sChecked) .none kV4 dc4 pm4 an4 cd4 ct4), sl4⟩)
    (c4 : codeIn K cd4 "checked_scripts" = true) (k4 : keepIn K (.ref f4) = true)
    (a5 : nsIn K mainGlobals "_checked_script" = some (some (.ref f5)))
    (l5 : K.lookup f5 = some ⟨oc5, od5, .func (fnOf "_checked_script" "_checked_script" (defArgs sCheckedOne) (defBody sCheckedOne) (defScope sCheckedOne) .none kV5 dc5 pm5 an5 cd5 ct5), sl5⟩)
    (c5 : codeIn K cd5 "_checked_script" = true) (k5 : keepIn K (.ref f5) = true)
    (a6 : nsIn K mainGlobals "_may_stand" = some (some (.ref f6)))
    (l6 : K.lookup f6 = some ⟨oc6, od6, .func (fnOf "_may_stand" "_may_stand" (defArgs sMay) (defBody sMay) (defScope sMay) .none kV6 dc6 pm6 an6 cd6 ct6), sl6⟩)
    (c6 : codeIn K cd6 "_may_stand" = true) (k6 : keepIn K (.ref f6) = true)
    (a7 : nsIn K mainGlobals "is_open_behind" = some (some (.ref f7)))
    (l7 : K.lookup f7 = some ⟨oc7, od7, .func (fnOf "is_open_behind" "is_open_behind" (defArgs sOpenB) (defBody sOpenB) (defScope sOpenB) .none kV7 dc7 pm7 an7 cd7 ct7), sl7⟩)
    (c7 : codeIn K cd7 "is_open_behind" = true) (k7 : keepIn K (.ref f7) = true)
    (a8 : nsIn K mainGlobals "is_reading_behind" = some (some (.ref f8)))
    (l8 : K.lookup f8 = some ⟨oc8, od8, .func (fnOf "is_reading_behind" "is_reading_behind" (defArgs sReadB) (defBody sReadB) (defScope sReadB) .none kV8 dc8 pm8 an8 cd8 ct8), sl8⟩)
    (c8 : codeIn K cd8 "is_reading_behind" = true) (k8 : keepIn K (.ref f8) = true)
    (a9 : nsIn K mainGlobals "is_refused" = some (some (.ref f9)))
    (l9 : K.lookup f9 = some ⟨oc9, od9, .func (fnOf "is_refused" "is_refused" (defArgs sIsRef) (defBody sIsRef) (defScope sIsRef) .none kV9 dc9 pm9 an9 cd9 ct9), sl9⟩)
    (c9 : codeIn K cd9 "is_refused" = true) (k9 : keepIn K (.ref f9) = true)
    (a10 : nsIn K mainGlobals "lock_of_refused" = some (some (.ref f10)))
    (l10 : K.lookup f10 = some ⟨oc10, od10, .func (fnOf "lock_of_refused" "lock_of_refused" (defArgs sLockRef) (defBody sLockRef) (defScope sLockRef) .none kV10 dc10 pm10 an10 cd10 ct10), sl10⟩)
    (c10 : codeIn K cd10 "lock_of_refused" = true) (k10 : keepIn K (.ref f10) = true)
    (a11 : nsIn K mainGlobals "lock_behind" = some (some (.ref f11)))
    (l11 : K.lookup f11 = some ⟨oc11, od11, .func (fnOf "lock_behind" "lock_behind" (defArgs sLockB) (defBody sLockB) (defScope sLockB) .none kV11 dc11 pm11 an11 cd11 ct11), sl11⟩)
    (c11 : codeIn K cd11 "lock_behind" = true) (k11 : keepIn K (.ref f11) = true)
    (a12 : nsIn K mainGlobals "_lock_taken" = some (some (.ref f12)))
    (l12 : K.lookup f12 = some ⟨oc12, od12, .func (fnOf "_lock_taken" "_lock_taken" (defArgs sTaken) (defBody sTaken) (defScope sTaken) .none kV12 dc12 pm12 an12 cd12 ct12), sl12⟩)
    (c12 : codeIn K cd12 "_lock_taken" = true) (k12 : keepIn K (.ref f12) = true)
    (a13 : nsIn K mainGlobals "is_plain_int" = some (some (.ref f13)))
    (l13 : K.lookup f13 = some ⟨oc13, od13, .func (fnOf "is_plain_int" "is_plain_int" (defArgs sPlain) (defBody sPlain) (defScope sPlain) .none kV13 dc13 pm13 an13 cd13 ct13), sl13⟩)
    (c13 : codeIn K cd13 "is_plain_int" = true) (k13 : keepIn K (.ref f13) = true)
    (a14 : nsIn K mainGlobals "first_state" = some (some (.ref f14)))
    (l14 : K.lookup f14 = some ⟨oc14, od14, .func (fnOf "first_state" "first_state" (defArgs sFirstState) (defBody sFirstState) (defScope sFirstState) .none kV14 dc14 pm14 an14 cd14 ct14), sl14⟩)
    (c14 : codeIn K cd14 "first_state" = true) (k14 : keepIn K (.ref f14) = true)
    (a15 : nsIn K mainGlobals "next_state" = some (some (.ref f15)))
    (l15 : K.lookup f15 = some ⟨oc15, od15, .func (fnOf "next_state" "next_state" (defArgs sNextState) (defBody sNextState) (defScope sNextState) .none kV15 dc15 pm15 an15 cd15 ct15), sl15⟩)
    (c15 : codeIn K cd15 "next_state" = true) (k15 : keepIn K (.ref f15) = true)
    (a16 : nsIn K mainGlobals "_first" = some (some (.ref f16)))
    (l16 : K.lookup f16 = some ⟨oc16, od16, .func (fnOf "_first" "_first" (defArgs sFirst) (defBody sFirst) (defScope sFirst) .none kV16 dc16 pm16 an16 cd16 ct16), sl16⟩)
    (c16 : codeIn K cd16 "_first" = true) (k16 : keepIn K (.ref f16) = true)
    (a17 : nsIn K mainGlobals "_can_try" = some (some (.ref f17)))
    (l17 : K.lookup f17 = some ⟨oc17, od17, .func (fnOf "_can_try" "_can_try" (defArgs sCan) (defBody sCan) (defScope sCan) .none kV17 dc17 pm17 an17 cd17 ct17), sl17⟩)
    (c17 : codeIn K cd17 "_can_try" = true) (k17 : keepIn K (.ref f17) = true)
    (a18 : nsIn K mainGlobals "_tried" = some (some (.ref f18)))
    (l18 : K.lookup f18 = some ⟨oc18, od18, .func (fnOf "_tried" "_tried" (defArgs sTried) (defBody sTried) (defScope sTried) .none kV18 dc18 pm18 an18 cd18 ct18), sl18⟩)
    (c18 : codeIn K cd18 "_tried" = true) (k18 : keepIn K (.ref f18) = true)
    (a19 : nsIn K mainGlobals "_law_fresh" = some (some (.ref f19)))
    (l19 : K.lookup f19 = some ⟨oc19, od19, .func (fnOf "_law_fresh" "_law_fresh" (defArgs sFresh) (defBody sFresh) (defScope sFresh) .none kV19 dc19 pm19 an19 cd19 ct19), sl19⟩)
    (c19 : codeIn K cd19 "_law_fresh" = true) (k19 : keepIn K (.ref f19) = true)
    (a20 : nsIn K mainGlobals "_law_fill" = some (some (.ref f20)))
    (l20 : K.lookup f20 = some ⟨oc20, od20, .func (fnOf "_law_fill" "_law_fill" (defArgs sFill) (defBody sFill) (defScope sFill) .none kV20 dc20 pm20 an20 cd20 ct20), sl20⟩)
    (c20 : codeIn K cd20 "_law_fill" = true) (k20 : keepIn K (.ref f20) = true)
    (a21 : nsIn K mainGlobals "_law_take" = some (some (.ref f21)))
    (l21 : K.lookup f21 = some ⟨oc21, od21, .func (fnOf "_law_take" "_law_take" (defArgs sTake) (defBody sTake) (defScope sTake) .none kV21 dc21 pm21 an21 cd21 ct21), sl21⟩)
    (c21 : codeIn K cd21 "_law_take" = true) (k21 : keepIn K (.ref f21) = true)
    (a22 : nsIn K mainGlobals "_law_one" = some (some (.ref f22)))
    (l22 : K.lookup f22 = some ⟨oc22, od22, .func (fnOf "_law_one" "_law_one" (defArgs sOne) (defBody sOne) (defScope sOne) .none kV22 dc22 pm22 an22 cd22 ct22), sl22⟩)
    (c22 : codeIn K cd22 "_law_one" = true) (k22 : keepIn K (.ref f22) = true)
    (a23 : nsIn K mainGlobals "_law_same" = some (some (.ref f23)))
    (l23 : K.lookup f23 = some ⟨oc23, od23, .func (fnOf "_law_same" "_law_same" (defArgs sSame) (defBody sSame) (defScope sSame) .none kV23 dc23 pm23 an23 cd23 ct23), sl23⟩)
    (c23 : codeIn K cd23 "_law_same" = true) (k23 : keepIn K (.ref f23) = true)
    (a24 : nsIn K mainGlobals "_law_script" = some (some (.ref f24)))
    (l24 : K.lookup f24 = some ⟨oc24, od24, .func (fnOf "_law_script" "_law_script" (defArgs sScript) (defBody sScript) (defScope sScript) .none kV24 dc24 pm24 an24 cd24 ct24), sl24⟩)
    (c24 : codeIn K cd24 "_law_script" = true) (k24 : keepIn K (.ref f24) = true)
    (a25 : nsIn K mainGlobals "_law_scripts" = some (some (.ref f25)))
    (l25 : K.lookup f25 = some ⟨oc25, od25, .func (fnOf "_law_scripts" "_law_scripts" (defArgs sScripts) (defBody sScripts) (defScope sScripts) .none kV25 dc25 pm25 an25 cd25 ct25), sl25⟩)
    (c25 : codeIn K cd25 "_law_scripts" = true) (k25 : keepIn K (.ref f25) = true)
    (a26 : nsIn K mainGlobals "_law_refused" = some (some (.ref f26)))
    (l26 : K.lookup f26 = some ⟨oc26, od26, .func (fnOf "_law_refused" "_law_refused" (defArgs sRefused) (defBody sRefused) (defScope sRefused) .none kV26 dc26 pm26 an26 cd26 ct26), sl26⟩)
    (c26 : codeIn K cd26 "_law_refused" = true) (k26 : keepIn K (.ref f26) = true)
    (a27 : nsIn K mainGlobals "_law_behind" = some (some (.ref f27)))
    (l27 : K.lookup f27 = some ⟨oc27, od27, .func (fnOf "_law_behind" "_law_behind" (defArgs sBehind) (defBody sBehind) (defScope sBehind) .none kV27 dc27 pm27 an27 cd27 ct27), sl27⟩)
    (c27 : codeIn K cd27 "_law_behind" = true) (k27 : keepIn K (.ref f27) = true)
    (a28 : nsIn K mainGlobals "_law_after" = some (some (.ref f28)))
    (l28 : K.lookup f28 = some ⟨oc28, od28, .func (fnOf "_law_after" "_law_after" (defArgs sAfter) (defBody sAfter) (defScope sAfter) .none kV28 dc28 pm28 an28 cd28 ct28), sl28⟩)
    (c28 : codeIn K cd28 "_law_after" = true) (k28 : keepIn K (.ref f28) = true)
    (a29 : nsIn K mainGlobals "_law_begun" = some (some (.ref f29)))
    (l29 : K.lookup f29 = some ⟨oc29, od29, .func (fnOf "_law_begun" "_law_begun" (defArgs sBegun) (defBody sBegun) (defScope sBegun) .none kV29 dc29 pm29 an29 cd29 ct29), sl29⟩)
    (c29 : codeIn K cd29 "_law_begun" = true) (k29 : keepIn K (.ref f29) = true)
    (a30 : nsIn K mainGlobals "_law_left" = some (some (.ref f30)))
    (l30 : K.lookup f30 = some ⟨oc30, od30, .func (fnOf "_law_left" "_law_left" (defArgs sLeft) (defBody sLeft) (defScope sLeft) .none kV30 dc30 pm30 an30 cd30 ct30), sl30⟩)
    (c30 : codeIn K cd30 "_law_left" = true) (k30 : keepIn K (.ref f30) = true)
    (a31 : nsIn K mainGlobals "_law_handed" = some (some (.ref f31)))
    (l31 : K.lookup f31 = some ⟨oc31, od31, .func (fnOf "_law_handed" "_law_handed" (defArgs sHanded) (defBody sHanded) (defScope sHanded) .none kV31 dc31 pm31 an31 cd31 ct31), sl31⟩)
    (c31 : codeIn K cd31 "_law_handed" = true) (k31 : keepIn K (.ref f31) = true)
    (a32 : nsIn K mainGlobals "_law_misused" = some (some (.ref f32)))
    (l32 : K.lookup f32 = some ⟨oc32, od32, .func (fnOf "_law_misused" "_law_misused" (defArgs sMisused) (defBody sMisused) (defScope sMisused) .none kV32 dc32 pm32 an32 cd32 ct32), sl32⟩)
    (c32 : codeIn K cd32 "_law_misused" = true) (k32 : keepIn K (.ref f32) = true)
    (a33 : nsIn K mainGlobals "_law_odd_number" = some (some (.ref f33)))
    (l33 : K.lookup f33 = some ⟨oc33, od33, .func (fnOf "_law_odd_number" "_law_odd_number" (defArgs sOdd) (defBody sOdd) (defScope sOdd) .none kV33 dc33 pm33 an33 cd33 ct33), sl33⟩)
    (c33 : codeIn K cd33 "_law_odd_number" = true) (k33 : keepIn K (.ref f33) = true)
    (aL : nsIn K mainGlobals "law" = some (some (.ref fL))) (lL : K.lookup fL = some ⟨ocL, odL, .func (fnOf "law" "law" (defArgs sLaw) (defBody sLaw) (defScope sLaw) .none kVL dcL pmL anL (.ref co) ctL), slL⟩) (cL : codeIn K (.ref co) "law" = true)
    (z0 : nsIn K mainGlobals "len" = some none)
    (z1 : nsIn K mainGlobals "int" = some none)
    (z2 : nsIn K mainGlobals "enumerate" = some none)
    (z3 : nsIn K mainGlobals "isinstance" = some none)
    (z4 : nsIn K mainGlobals "zip" = some none)
    (z5 : nsIn K mainGlobals "all" = some none)
    (z6 : nsIn K mainGlobals "list" = some none)
    (z7 : nsIn K mainGlobals "tuple" = some none)
    (z8 : nsIn K mainGlobals "bool" = some none)
    (z9 : nsIn K mainGlobals "range" = some none)
    (z10 : nsIn K mainGlobals "min" = some none)
    (z11 : nsIn K mainGlobals "max" = some none)
    (z12 : nsIn K mainGlobals "repr" = some none)
    (s0 : nsIn K mainGlobals "NO_LOCK" = some (some (.int 0 t0)))
    (s1 : nsIn K mainGlobals "SHARED" = some (some (.int 1 t1)))
    (s2 : nsIn K mainGlobals "RESERVED" = some (some (.int 2 t2)))
    (s3 : nsIn K mainGlobals "PENDING" = some (some (.int 3 t3)))
    (s4 : nsIn K mainGlobals "EXCLUSIVE" = some (some (.int 4 t4)))
    (s5 : nsIn K mainGlobals "MOST_SCRIPTS" = some (some (.int 4 t5)))
    (s6 : nsIn K mainGlobals "MOST_STEPS" = some (some (.int 8 t6)))
    (u0 : nsIn K mainGlobals "OPENING" = some (some (.ref w0))) (lu0 : K.lookup w0 = some ⟨.type "tuple", odw0, .seq itw0 nw0, slw0⟩) (yu0 : itw0.size ≤ sizeLine) (xu0 : (itw0.toList.map fun v => match v with | .str x _ => x | _ => Str.empty) = opening) (hu0 : (itw0.toList.all fun v => match v with | .str _ _ => true | _ => false) = true)
    (u1 : nsIn K mainGlobals "ENDING" = some (some (.ref w1))) (lu1 : K.lookup w1 = some ⟨.type "tuple", odw1, .seq itw1 nw1, slw1⟩) (yu1 : itw1.size ≤ sizeLine) (xu1 : (itw1.toList.map fun v => match v with | .str x _ => x | _ => Str.empty) = ending) (hu1 : (itw1.toList.all fun v => match v with | .str _ _ => true | _ => false) = true)
    (u2 : nsIn K mainGlobals "ANYWHERE" = some (some (.ref w2))) (lu2 : K.lookup w2 = some ⟨.type "tuple", odw2, .seq itw2 nw2, slw2⟩) (yu2 : itw2.size ≤ sizeLine) (xu2 : (itw2.toList.map fun v => match v with | .str x _ => x | _ => Str.empty) = anywhere) (hu2 : (itw2.toList.all fun v => match v with | .str _ _ => true | _ => false) = true)
    (TT : EC l.prog w K mg "ProgrammingError" cP ∧ mg "DatabaseError" = some (.ref cD) ∧ mg "Error" = some (.ref cE) ∧ exmOne K (.ref cP) (.ref cP) = some true ∧ kitOne K (.ref cP) (.ref cD) = some true) :
    ∃ fd : FuncData, (∀ (s : Shared) (v : Value), BindsTo s fd ⟨[v], []⟩ [("_law_script_here", v)]) ∧ ∀ base : Heap, K.In base → base.Ns mainGlobals mg → TabB base mg co tab → TopOk l.prog w K mg base fa fd ["_law_script_here"] (spLaw K tab) := by
  have e := hfa.symm.trans (mg_of X G aL)
  cases e
  obtain ⟨TP, gD, gE, exP, kiD⟩ := TT
  have F0 := fun_mk (st := sShRef) l0 c0 k0
  have b0 := F0.binds (ps := ["held", "other"]) fun _ _ _ _ _ _ us hl => match us, hl with | [_, _], _ => rfl
  have g0 := mg_of X G a0
  have F1 := fun_mk (st := sReRef) l1 c1 k1
  have b1 := F1.binds (ps := ["other"]) fun _ _ _ _ _ _ us hl => match us, hl with | [_], _ => rfl
  have g1 := mg_of X G a1
  have F2 := fun_mk (st := sExRef) l2 c2 k2
  have b2 := F2.binds (ps := ["other"]) fun _ _ _ _ _ _ us hl => match us, hl with | [_], _ => rfl
  have g2 := mg_of X G a2
  have F3 := fun_mk (st := sIdle) l3 c3 k3
  have b3 := F3.binds (ps := ["is_reading"]) fun _ _ _ _ _ _ us hl => match us, hl with | [_], _ => rfl
  have g3 := mg_of X G a3
  have F4 := fun_mk (st := sChecked) l4 c4 k4
  have b4 := F4.binds (ps := ["scripts"]) fun _ _ _ _ _ _ us hl => match us, hl with | [_], _ => rfl
  have g4 := mg_of X G a4
  have F5 := fun_mk (st := sCheckedOne) l5 c5 k5
  have b5 := F5.binds (ps := ["script"]) fun _ _ _ _ _ _ us hl => match us, hl with | [_], _ => rfl
  have g5 := mg_of X G a5
  have F6 := fun_mk (st := sMay) l6 c6 k6
  have b6 := F6.binds (ps := ["step", "opened", "reads"]) fun _ _ _ _ _ _ us hl => match us, hl with | [_, _, _], _ => rfl
  have g6 := mg_of X G a6
  have F7 := fun_mk (st := sOpenB) l7 c7 k7
  have b7 := F7.binds (ps := ["step", "opened"]) fun _ _ _ _ _ _ us hl => match us, hl with | [_, _], _ => rfl
  have g7 := mg_of X G a7
  have F8 := fun_mk (st := sReadB) l8 c8 k8
  have b8 := F8.binds (ps := ["step", "reads"]) fun _ _ _ _ _ _ us hl => match us, hl with | [_, _], _ => rfl
  have g8 := mg_of X G a8
  have F9 := fun_mk (st := sIsRef) l9 c9 k9
  have b9 := F9.binds (ps := ["step", "opened", "held", "other"]) fun _ _ _ _ _ _ us hl => match us, hl with | [_, _, _, _], _ => rfl
  have g9 := mg_of X G a9
  have F10 := fun_mk (st := sLockRef) l10 c10 k10
  have b10 := F10.binds (ps := ["step", "held"]) fun _ _ _ _ _ _ us hl => match us, hl with | [_, _], _ => rfl
  have g10 := mg_of X G a10
  have F11 := fun_mk (st := sLockB) l11 c11 k11
  have b11 := F11.binds (ps := ["step", "opened", "reads", "held"]) fun _ _ _ _ _ _ us hl => match us, hl with | [_, _, _, _], _ => rfl
  have g11 := mg_of X G a11
  have F12 := fun_mk (st := sTaken) l12 c12 k12
  have b12 := F12.binds (ps := ["step"]) fun _ _ _ _ _ _ us hl => match us, hl with | [_], _ => rfl
  have g12 := mg_of X G a12
  have F13 := fun_mk (st := sPlain) l13 c13 k13
  have b13 := F13.binds (ps := ["value"]) fun _ _ _ _ _ _ us hl => match us, hl with | [_], _ => rfl
  have g13 := mg_of X G a13
  have F14 := fun_mk (st := sFirstState) l14 c14 k14
  have b14 := F14.binds (ps := ["scripts"]) fun _ _ _ _ _ _ us hl => match us, hl with | [_], _ => rfl
  have g14 := mg_of X G a14
  have F15 := fun_mk (st := sNextState) l15 c15 k15
  have b15 := F15.binds (ps := ["scripts", "state", "at"]) fun _ _ _ _ _ _ us hl => match us, hl with | [_, _, _], _ => rfl
  have g15 := mg_of X G a15
  have F16 := fun_mk (st := sFirst) l16 c16 k16
  have b16 := F16.binds (ps := ["scripts"]) fun _ _ _ _ _ _ us hl => match us, hl with | [_], _ => rfl
  have g16 := mg_of X G a16
  have F17 := fun_mk (st := sCan) l17 c17 k17
  have b17 := F17.binds (ps := ["scripts", "state", "at"]) fun _ _ _ _ _ _ us hl => match us, hl with | [_, _, _], _ => rfl
  have g17 := mg_of X G a17
  have F18 := fun_mk (st := sTried) l18 c18 k18
  have b18 := F18.binds (ps := ["scripts", "state", "at"]) fun _ _ _ _ _ _ us hl => match us, hl with | [_, _, _], _ => rfl
  have g18 := mg_of X G a18
  have F19 := fun_mk (st := sFresh) l19 c19 k19
  have b19 := F19.binds (ps := ["_law_script_here"]) fun _ _ _ _ _ _ us hl => match us, hl with | [_], _ => rfl
  have g19 := mg_of X G a19
  have F20 := fun_mk (st := sFill) l20 c20 k20
  have b20 := F20.binds (ps := ["_law_state"]) fun _ _ _ _ _ _ us hl => match us, hl with | [_], _ => rfl
  have g20 := mg_of X G a20
  have F21 := fun_mk (st := sTake) l21 c21 k21
  have b21 := F21.binds (ps := ["_law_state", "_law_many"]) fun _ _ _ _ _ _ us hl => match us, hl with | [_, _], _ => rfl
  have g21 := mg_of X G a21
  have F22 := fun_mk (st := sOne) l22 c22 k22
  have b22 := F22.binds (ps := ["_law_state", "_law_things"]) fun _ _ _ _ _ _ us hl => match us, hl with | [_, _], _ => rfl
  have g22 := mg_of X G a22
  have F23 := fun_mk (st := sSame) l23 c23 k23
  have b23 := F23.binds (ps := ["_law_found", "_law_due"]) fun _ _ _ _ _ _ us hl => match us, hl with | [_, _], _ => rfl
  have g23 := mg_of X G a23
  have F24 := fun_mk (st := sScript) l24 c24 k24
  have b24 := F24.binds (ps := ["_law_state", "_law_many"]) fun _ _ _ _ _ _ us hl => match us, hl with | [_, _], _ => rfl
  have g24 := mg_of X G a24
  have F25 := fun_mk (st := sScripts) l25 c25 k25
  have b25 := F25.binds (ps := ["_law_state", "_law_most", "_law_many"]) fun _ _ _ _ _ _ us hl => match us, hl with | [_, _, _], _ => rfl
  have g25 := mg_of X G a25
  have F26 := fun_mk (st := sRefused) l26 c26 k26
  have b26 := F26.binds (ps := ["_law_word", "_law_opened", "_law_lock", "_law_top"]) fun _ _ _ _ _ _ us hl => match us, hl with | [_, _, _, _], _ => rfl
  have g26 := mg_of X G a26
  have F27 := fun_mk (st := sBehind) l27 c27 k27
  have b27 := F27.binds (ps := ["_law_word", "_law_opened", "_law_reads", "_law_lock"]) fun _ _ _ _ _ _ us hl => match us, hl with | [_, _, _, _], _ => rfl
  have g27 := mg_of X G a27
  have F28 := fun_mk (st := sAfter) l28 c28 k28
  have b28 := F28.binds (ps := ["_law_scripts_here", "_law_here", "_law_at"]) fun _ _ _ _ _ _ us hl => match us, hl with | [_, _, _], _ => rfl
  have g28 := mg_of X G a28
  have F29 := fun_mk (st := sBegun) l29 c29 k29
  have b29 := F29.binds (ps := ["_law_scripts_here"]) fun _ _ _ _ _ _ us hl => match us, hl with | [_], _ => rfl
  have g29 := mg_of X G a29
  have F30 := fun_mk (st := sLeft) l30 c30 k30
  have b30 := F30.binds (ps := ["_law_scripts_here", "_law_here"]) fun _ _ _ _ _ _ us hl => match us, hl with | [_, _], _ => rfl
  have g30 := mg_of X G a30
  have F31 := fun_mk (st := sHanded) l31 c31 k31
  have b31 := F31.binds (ps := ["_law_state", "_law_thing"]) fun _ _ _ _ _ _ us hl => match us, hl with | [_, _], _ => rfl
  have g31 := mg_of X G a31
  have F32 := fun_mk (st := sMisused) l32 c32 k32
  have b32 := F32.binds (ps := ["_law_deed"]) fun _ _ _ _ _ _ us hl => match us, hl with | [_], _ => rfl
  have g32 := mg_of X G a32
  have F33 := fun_mk (st := sOdd) l33 c33 k33
  have b33 := F33.binds (ps := ["_law_state", "_law_many"]) fun _ _ _ _ _ _ us hl => match us, hl with | [_, _], _ => rfl
  have g33 := mg_of X G a33
  have m0 := mg_none_of X G z0
  have m1 := mg_none_of X G z1
  have m2 := mg_none_of X G z2
  have m3 := mg_none_of X G z3
  have m4 := mg_none_of X G z4
  have m5 := mg_none_of X G z5
  have m6 := mg_none_of X G z6
  have m7 := mg_none_of X G z7
  have m8 := mg_none_of X G z8
  have m9 := mg_none_of X G z9
  have m10 := mg_none_of X G z10
  have m11 := mg_none_of X G z11
  have m12 := mg_none_of X G z12
  have q0 := mg_of X G s0
  have q1 := mg_of X G s1
  have q2 := mg_of X G s2
  have q3 := mg_of X G s3
  have q4 := mg_of X G s4
  have q5 := mg_of X G s5
  have q6 := mg_of X G s6
  have v0 := mg_of X G u0
  have y0 := tup_strs (c := .none) lu0 yu0 xu0 hu0
  have v1 := mg_of X G u1
  have y1 := tup_strs (c := .none) lu1 yu1 xu1 hu1
  have v2 := mg_of X G u2
  have y2 := tup_strs (c := .none) lu2 yu2 xu2 hu2
  refine ⟨fnOf "law" "law" (defArgs sLaw) (defBody sLaw) (defScope sLaw) .none kVL dcL pmL anL (.ref co) ctL, fun s v => .of_eq rfl, fun base _ _ TB => ?_⟩
  have nSh : Can l.prog w K mg base CX0 1 "is_shared_refused" ["held", "other"] (sp2I fun a b => .bl (shR a b)) _ _ := ⟨ok_shRef F0 q1 q3, g0, F0.kp, b0⟩
  have nRe : Can l.prog w K mg base CX0 1 "is_reserved_refused" ["other"] (sp1I fun b => .bl (decide (b ≥ 2))) _ _ := ⟨ok_reRef F1 q2, g1, F1.kp, b1⟩
  have nEx : Can l.prog w K mg base CX0 1 "is_exclusive_refused" ["other"] (sp1I fun b => .bl (decide (b ≥ 1))) _ _ := ⟨ok_exRef F2 q1, g2, F2.kp, b2⟩
  have nId : Can l.prog w K mg base CX0 1 "idle_lock" ["is_reading"] spIdle _ _ := ⟨ok_idle F3 q0 q1, g3, F3.kp, b3⟩
  have nOp : Can l.prog w K mg base CX0 1 "is_open_behind" ["step", "opened"] (spWB opnB) _ _ := ⟨ok_openB F7 v0 y0 v1 y1, g7, F7.kp, b7⟩
  have nRd : Can l.prog w K mg base CX0 1 "is_reading_behind" ["step", "reads"] (spWB rdsB) _ _ := ⟨ok_readB F8, g8, F8.kp, b8⟩
  have nMa : Can l.prog w K mg base CX0 1 "_may_stand" ["step", "opened", "reads"] spMay _ _ := ⟨ok_may F6 v0 y0 v1 y1 v2 y2, g6, F6.kp, b6⟩
  have nLr : Can l.prog w K mg base CX0 1 "lock_of_refused" ["step", "held"] spLockRef _ _ := ⟨ok_lockRef F10 q3 m11, g10, F10.kp, b10⟩
  have nTa : Can l.prog w K mg base CX0 1 "_lock_taken" ["step"] spTaken _ _ := ⟨ok_taken F12 q0 q1 q2 q4, g12, F12.kp, b12⟩
  have nLb : Can l.prog w K mg base CX0 2 "lock_behind" ["step", "opened", "reads", "held"] spLockB _ _ := ⟨ok_lockB F11 nTa nId m11, g11, F11.kp, b11⟩
  have nIr : Can l.prog w K mg base CX0 2 "is_refused" ["step", "opened", "held", "other"] spIsRef _ _ := ⟨ok_isRef F9 q2 nSh nRe nEx, g9, F9.kp, b9⟩
  have nCo : Can l.prog w K mg base CX0 2 "_checked_script" ["script"] (spOneOk K) _ _ := ⟨ok_checkedOne F5 TP nMa nOp nRd q6 m3 m0 m6 m7, g5, F5.kp, b5⟩
  have nCh : Can l.prog w K mg base CX0 3 "checked_scripts" ["scripts"] (spChecked K) _ _ := ⟨ok_checked F4 TP nCo q5 m3 m0 m6 m7, g4, F4.kp, b4⟩
  have nPl : Can l.prog w K mg base CX0 1 "is_plain_int" ["value"] spPlain _ _ := ⟨ok_plain F13 m3 m1 m8, g13, F13.kp, b13⟩
  have nFi : Can l.prog w K mg base CX0 1 "_first" ["scripts"] (spFirst K) _ _ := ⟨ok_first F16 q0 m7, g16, F16.kp, b16⟩
  have nFs : Can l.prog w K mg base CX0 4 "first_state" ["scripts"] (spFirstState K) _ _ := ⟨ok_firstState F14 nCh nFi, g14, F14.kp, b14⟩
  have nCa : Can l.prog w K mg base CX0 2 "_can_try" ["scripts", "state", "at"] (spCan K) _ _ := ⟨ok_can F17 nPl m0, g17, F17.kp, b17⟩
  have nTr : Can l.prog w K mg base CX0 3 "_tried" ["scripts", "state", "at"] (spTried K) _ _ := ⟨ok_tried F18 q0 nIr nLr nOp nRd nLb m11 m2 m7, g18, F18.kp, b18⟩
  have nNx : Can l.prog w K mg base (L2.CX l.prog w) 4 "next_state" ["scripts", "state", "at"] (spNext K cP) _ _ := ⟨ok_nextState F15 TP nCh nCa nTr, g15, F15.kp, b15⟩
  have GT : FnOk l.prog w K mg base CX0 2 f21 _ ["_law_state", "_law_many"] spTake := ok_take F21 F20 b20 g20 m0 m1 m2
  have nT : Can l.prog w K mg base CX0 2 "_law_take" ["_law_state", "_law_many"] spTake _ _ := ⟨GT, g21, F21.kp, b21⟩
  have nFr : Can l.prog w K mg base CX0 1 "_law_fresh" ["_law_script_here"] (spFresh K) _ _ := ⟨ok_fresh F19, g19, F19.kp, b19⟩
  have nO : Can l.prog w K mg base CX0 3 "_law_one" ["_law_state", "_law_things"] spOne _ _ := ⟨ok_one F22 F21 b21 g21 m0 GT, g22, F22.kp, b22⟩
  have nS2 : Can l.prog w K mg base CX0 4 "_law_same" ["_law_found", "_law_due"] (spTw 2) _ _ := ⟨ok_same F23 b23 g23 m3 m0 m4 m5 m6 m7 m1 m8 2, g23, F23.kp, b23⟩
  have nS3 : Can l.prog w K mg base CX0 5 "_law_same" ["_law_found", "_law_due"] (spTw 3) _ _ := ⟨ok_same F23 b23 g23 m3 m0 m4 m5 m6 m7 m1 m8 3, g23, F23.kp, b23⟩
  have nSc1 : Can l.prog w K mg base CX0 4 "_law_script" ["_law_state", "_law_many"] spScript _ _ := ⟨ok_script F24 nO nT m0 m1 m9 m10 m7, g24, F24.kp, b24⟩
  have nSc : Can l.prog w K mg base CX0 5 "_law_scripts" ["_law_state", "_law_most", "_law_many"] spScripts _ _ := ⟨ok_scripts F25 nSc1 nT m9 m7, g25, F25.kp, b25⟩
  have nBe : Can l.prog w K mg base CX0 1 "_law_begun" ["_law_scripts_here"] spBegun _ _ := ⟨ok_begun F29 m7, g29, F29.kp, b29⟩
  have nLe : Can l.prog w K mg base CX0 1 "_law_left" ["_law_scripts_here", "_law_here"] spLeft _ _ := ⟨ok_left F30 m0 m9, g30, F30.kp, b30⟩
  have nAf : Can l.prog w K mg base CX0 2 "_law_after" ["_law_scripts_here", "_law_here", "_law_at"] spAfter _ _ := ⟨ok_after F28 F26 F27 b26 b27 g26 g27 m1 m11 m2, g28, F28.kp, b28⟩
  have nHa : Can l.prog w K mg base CX0 5 "_law_handed" ["_law_state", "_law_thing"] (spHand 2) _ _ := ⟨ok_handed F31 b31 g31 nT m3 m6 m7 2, g31, F31.kp, b31⟩
  have nOd : Can l.prog w K mg base CX0 4 "_law_odd_number" ["_law_state", "_law_many"] spOdd _ _ := ⟨ok_odd F33 nO.G nO.g nO.kp nO.b, g33, F33.kp, b33⟩
  exact ok_law lL cL TB g32 k32 l32 c32 b32 TP gD gE m3 exP kiD nFr nSc nHa nBe nS2 nS3 nFs nOd nLe nAf nNx nT m0 m1 m9 m12
end Lk

open PySem PySem.W PyProof.Rows
set_option maxRecDepth 100000 in
set_option maxHeartbeats 0 in
theorem PySem.Challenge.cw_cursorhouse_k78_steps_of_scripts_holds : PySem.Challenge.rw_cursorhouse_k78_steps_of_scripts.Holds := by
  w_on; o_law; k_head; (case hw => w_witness2)
  k_fill
  refine' Grd.walk_gT (l := PySem.Challenge.rw_cursorhouse_k78_steps_of_scripts) (n := 63) (x := "_law_script_here") (co := ?co) (tab := 304) (sp := fun K => Lk.spLaw K 304) rfl (by decide) rfl ?kt ?hco ?F (fun _ _ a ns hl hT hS => ⟨a, ns, rfl, hS, hl, hT, fun _ => rfl⟩)
  case kt => intro w; kernel_rfl
  case F =>
    intro w mg fa h KX G hmg
    refine' Lk.all_end KX G hmg ?a0 ?l0 ?c0 ?k0 ?a1 ?l1 ?c1 ?k1 ?a2 ?l2 ?c2 ?k2 ?a3 ?l3 ?c3 ?k3 ?a4 ?l4 ?c4 ?k4 ?a5 ?l5 ?c5 ?k5 ?a6 ?l6 ?c6 ?k6 ?a7 ?l7 ?c7 ?k7 ?a8 ?l8 ?c8 ?k8 ?a9 ?l9 ?c9 ?k9 ?a10 ?l10 ?c10 ?k10 ?a11 ?l11 ?c11 ?k11 ?a12 ?l12 ?c12 ?k12 ?a13 ?l13 ?c13 ?k13 ?a14 ?l14 ?c14 ?k14 ?a15 ?l15 ?c15 ?k15 ?a16 ?l16 ?c16 ?k16 ?a17 ?l17 ?c17 ?k17 ?a18 ?l18 ?c18 ?k18 ?a19 ?l19 ?c19 ?k19 ?a20 ?l20 ?c20 ?k20 ?a21 ?l21 ?c21 ?k21 ?a22 ?l22 ?c22 ?k22 ?a23 ?l23 ?c23 ?k23 ?a24 ?l24 ?c24 ?k24 ?a25 ?l25 ?c25 ?k25 ?a26 ?l26 ?c26 ?k26 ?a27 ?l27 ?c27 ?k27 ?a28 ?l28 ?c28 ?k28 ?a29 ?l29 ?c29 ?k29 ?a30 ?l30 ?c30 ?k30 ?a31 ?l31 ?c31 ?k31 ?a32 ?l32 ?c32 ?k32 ?a33 ?l33 ?c33 ?k33 ?aL ?lL ?cL ?z0 ?z1 ?z2 ?z3 ?z4 ?z5 ?z6 ?z7 ?z8 ?z9 ?z10 ?z11 ?z12 ?s0 ?s1 ?s2 ?s3 ?s4 ?s5 ?s6 ?u0 ?lu0 ?yu0 ?xu0 ?hu0 ?u1 ?lu1 ?yu1 ?xu1 ?hu1 ?u2 ?lu2 ?yu2 ?xu2 ?hu2 ?TT
    (case a0 => k_is)
    (case l0 => k_is)
    (case c0 => k_is)
    (case k0 => k_is)
    (case a1 => k_is)
    (case l1 => k_is)
    (case c1 => k_is)
    (case k1 => k_is)
    (case a2 => k_is)
    (case l2 => k_is)
    (case c2 => k_is)
    (case k2 => k_is)
    (case a3 => k_is)
    (case l3 => k_is)
    (case c3 => k_is)
    (case k3 => k_is)
    (case a4 => k_is)
    (case l4 => k_is)
    (case c4 => k_is)
    (case k4 => k_is)
    (case a5 => k_is)
    (case l5 => k_is)
    (case c5 => k_is)
    (case k5 => k_is)
    (case a6 => k_is)
    (case l6 => k_is)
    (case c6 => k_is)
    (case k6 => k_is)
    (case a7 => k_is)
    (case l7 => k_is)
    (case c7 => k_is)
    (case k7 => k_is)
    (case a8 => k_is)
    (case l8 => k_is)
    (case c8 => k_is)
    (case k8 => k_is)
    (case a9 => k_is)
    (case l9 => k_is)
    (case c9 => k_is)
    (case k9 => k_is)
    (case a10 => k_is)
    (case l10 => k_is)
    (case c10 => k_is)
    (case k10 => k_is)
    (case a11 => k_is)
    (case l11 => k_is)
    (case c11 => k_is)
    (case k11 => k_is)
    (case a12 => k_is)
    (case l12 => k_is)
    (case c12 => k_is)
    (case k12 => k_is)
    (case a13 => k_is)
    (case l13 => k_is)
    (case c13 => k_is)
    (case k13 => k_is)
    (case a14 => k_is)
    (case l14 => k_is)
    (case c14 => k_is)
    (case k14 => k_is)
    (case a15 => k_is)
    (case l15 => k_is)
    (case c15 => k_is)
    (case k15 => k_is)
    (case a16 => k_is)
    (case l16 => k_is)
    (case c16 => k_is)
    (case k16 => k_is)
    (case a17 => k_is)
    (case l17 => k_is)
    (case c17 => k_is)
    (case k17 => k_is)
    (case a18 => k_is)
    (case l18 => k_is)
    (case c18 => k_is)
    (case k18 => k_is)
    (case a19 => k_is)
    (case l19 => k_is)
    (case c19 => k_is)
    (case k19 => k_is)
    (case a20 => k_is)
    (case l20 => k_is)
    (case c20 => k_is)
    (case k20 => k_is)
    (case a21 => k_is)
    (case l21 => k_is)
    (case c21 => k_is)
    (case k21 => k_is)
    (case a22 => k_is)
    (case l22 => k_is)
    (case c22 => k_is)
    (case k22 => k_is)
    (case a23 => k_is)
    (case l23 => k_is)
    (case c23 => k_is)
    (case k23 => k_is)
    (case a24 => k_is)
    (case l24 => k_is)
    (case c24 => k_is)
    (case k24 => k_is)
    (case a25 => k_is)
    (case l25 => k_is)
    (case c25 => k_is)
    (case k25 => k_is)
    (case a26 => k_is)
    (case l26 => k_is)
    (case c26 => k_is)
    (case k26 => k_is)
    (case a27 => k_is)
    (case l27 => k_is)
    (case c27 => k_is)
    (case k27 => k_is)
    (case a28 => k_is)
    (case l28 => k_is)
    (case c28 => k_is)
    (case k28 => k_is)
    (case a29 => k_is)
    (case l29 => k_is)
    (case c29 => k_is)
    (case k29 => k_is)
    (case a30 => k_is)
    (case l30 => k_is)
    (case c30 => k_is)
    (case k30 => k_is)
    (case a31 => k_is)
    (case l31 => k_is)
    (case c31 => k_is)
    (case k31 => k_is)
    (case a32 => k_is)
    (case l32 => k_is)
    (case c32 => k_is)
    (case k32 => k_is)
    (case a33 => k_is)
    (case l33 => k_is)
    (case c33 => k_is)
    (case k33 => k_is)
    (case aL => k_is)
    (case lL => k_is)
    (case cL => k_is)
    (case z0 => k_is)
    (case z1 => k_is)
    (case z2 => k_is)
    (case z3 => k_is)
    (case z4 => k_is)
    (case z5 => k_is)
    (case z6 => k_is)
    (case z7 => k_is)
    (case z8 => k_is)
    (case z9 => k_is)
    (case z10 => k_is)
    (case z11 => k_is)
    (case z12 => k_is)
    (case s0 => k_is)
    (case s1 => k_is)
    (case s2 => k_is)
    (case s3 => k_is)
    (case s4 => k_is)
    (case s5 => k_is)
    (case s6 => k_is)
    (case u0 => k_is)
    (case lu0 => k_is)
    (case yu0 => decide +kernel)
    (case xu0 => decide +kernel)
    (case hu0 => decide +kernel)
    (case u1 => k_is)
    (case lu1 => k_is)
    (case yu1 => decide +kernel)
    (case xu1 => decide +kernel)
    (case hu1 => decide +kernel)
    (case u2 => k_is)
    (case lu2 => k_is)
    (case yu2 => decide +kernel)
    (case xu2 => decide +kernel)
    (case hu2 => decide +kernel)
    case TT =>
      refine' Err.three_end KX G ?AP ?AD ?AE ?iP ?iD ?iE ?S ?L ?E0 ?E1 ?E2
      (case AP => k_is)
      (case AD => k_is)
      (case AE => k_is)
      (case iP => k_is)
      (case iD => k_is)
      (case iE => k_is)
      (case S => k_is)
      (case L => kernel_rfl)
      case E0 => refine' Err.first_mk ?ho ?hT ?hcd; (case ho => k_is); (case hT => k_is); (case hcd => k_is)
      case E1 => refine' Err.hands_mk ?ho ?hT ?hcd ?hcode ?hvs ?hfile ?htop ?hcell ?hD ?hop ?hE; (case ho => k_is); (case hT => k_is); (case hcd => k_is); (case hcode => k_is); (case hcell => k_is); (case hop => k_is); (case hD => kernel_rfl); (case hvs => rfl); (case hfile => decide +kernel); (case htop => decide +kernel); (case hE => exact fun _ => rfl)
      case E2 => refine' Err.hands_mk ?ho ?hT ?hcd ?hcode ?hvs ?hfile ?htop ?hcell ?hD ?hop ?hE; (case ho => k_is); (case hT => k_is); (case hcd => k_is); (case hcode => k_is); (case hcell => k_is); (case hop => k_is); (case hD => kernel_rfl); (case hvs => rfl); (case hfile => decide +kernel); (case htop => decide +kernel); (case hE => exact fun _ => rfl)
  case hco => intro w; kernel_rfl

