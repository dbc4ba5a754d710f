import PyProof.Rows.All
import Wide.All
import OpenK.AllK
import Wide.FinOn
import HandS.ForMost
import KE.GoesEnum
import HandS.Ends
import PyProof.ReprRoads
import HandS.RaiseMore
import HandS.Codes
import HandS.TupAny
import KE.KExcTry
import KE.KExcStr
import KE.RegKSuper
import HandS.ForExc
import HandS.ExcInit
import HandS.ExcValue
import HandS.IsInst
import KE.KExcIs
import HandS.Lambda
import HandS.ExcField
import HandS.SortKw
import KE.DatumOrd
import HandS.Zip
import HandS.Style
import PyProof.NeKinds
import PyProof.Rows.EqBoolInt
import HandS.Exc
import HandS.CallLocal
import HandS.Defaults
import HandS.ExcIs
import KE.RegKIsAll
import HandS.EndTab
import PySem.Challenge.RW_cursorhouse_k79_scripts_refused
set_option Elab.async false
set_option linter.all false
set_option maxRecDepth 100000
set_option maxHeartbeats 32000000
/-! enumerate over a tuple, one argument. -/
namespace Drw
open PySem PySem.Spec PyProof.Rows L2
section
open Sem (wp)
theorem new_enum {v : Value} {o : Obj} {H : Heap → Prop} (B : Begins v o H) :
    Meets (Builtin.«enumerate.__new__» ⟨[.type "enumerate", v], []⟩) (fun _ R s => H s.heap ∧
      R (.ok (.ret (.ref (s.heap.push o).objs.size)))
        { s with heap := (s.heap.push o).push { cls := .type "enumerate", data := .fields #[.none, .bool false, .ref s.heap.objs.size, rawInt 0, .none, .none] } }) := by
  refine .of_wp fun prog w A R s h => ?_
  obtain ⟨hp, g, d, tk, os⟩ := s
  obtain ⟨h1, h⟩ := h
  have se := sub_enumerate
  have it : ∀ {A' : Around} {E : Value → Shared → Prop} {Q : Value → Shared → Prop}, Q (.ref hp.objs.size) ⟨hp.push o, g, d, tk, os⟩ →
      wpAny (model prog w) A' (pyIter v) Q E ⟨hp, g, d, tk, os⟩ := fun q => B.iter prog w _ _ _ _ h1 q
  wp_walk using it
  refine wpAny_stack_any fun st => wpAny_pure ?_
  split
  · rename_i c _ _ _ _ _
    cases (c == Value.type "enumerate") <;> (wp_walk using it; exact ⟨_, rfl, h⟩)
  · wp_walk using it
    exact ⟨_, rfl, h⟩
theorem call_enum {prog : Program} {w : World} {A : Around} {E : Value → Shared → Prop} {s : Shared} {v : Value} {o : Obj} {H : Heap → Prop} {Q : Value → Shared → Prop}
    (B : Begins v o H) (h1 : H s.heap)
    (h : ∀ h', IsEnum h' (s.heap.objs.size + 1) s.heap.objs.size 0 .none → h'.get? s.heap.objs.size = some o →
      (∀ b o, s.heap.get? b = some o → h'.get? b = some o) → Q (.ref (s.heap.objs.size + 1)) { s with heap := h' }) :
    wpAny (model prog w) A (call (.type "enumerate") [v]) Q E s := by
  refine callType_new F.called_enumerate (by decide) (F.typeCall_enumerate_1 _) (F.newCall_enumerate_1 _)
    (fun obj => F.args_object_init_2 obj _) F.entry_enumerate_new (new_enum B) ⟨h1, ?_⟩
  have hz : (s.heap.push o).objs.size = s.heap.objs.size + 1 := Heap.size_push ..
  have he := Heap.get?_push_size (s.heap.push o) (o := { cls := .type "enumerate", data := .fields #[.none, .bool false, .ref s.heap.objs.size, rawInt 0, .none, .none] }) rfl
  rw [hz] at he
  show _ ∧ _
  rw [hz]
  exact ⟨⟨_, he, rfl⟩, h _ he (Heap.get?_push_of_some _ (Heap.get?_push_size _ B.free)) fun b o x => Heap.get?_push_of_some _ (Heap.get?_push_of_some _ x)⟩
end
/-- the tuple at a, each item in a new pair with its place -/
def Ipt (K : PySem.W.Frag) (a : Addr) (xs : List V) : It where
  go := fun i H => SqT K H a xs ∧ i < xs.length
  yld := fun i H v H' => ∃ T x, v = .ref T ∧ H T = none ∧ xs[i]? = some x ∧ H' = upd H T (.tup [.int (i : Nat), x])
  stop := fun i H => SqT K H a xs ∧ xs.length = i
/-- where an enumerate e over a tuple iterator it stands -/
def EnT (e it a : Addr) (its : List Value) (i : Nat) (h : Heap) : Prop :=
  (∃ old, IsEnum h e it ((i : Nat) : Int) old) ∧ h.IsTupleIter it a i ∧ h.IsTuple a its.toArray
end Drw

namespace Drw
open PySem PySem.Spec PyProof.Rows L2
/-- an enumerate e over the tuple iterator it, i items taken -/
def EnI (e it a : Addr) (i : Nat) (h : Heap) : Prop := (∃ old, IsEnum h e it ((i : Nat) : Int) old) ∧ h.IsTupleIter it a i ∧ e ≠ it
theorem two {b e it : Addr} (hb : b ∈ [e, it]) : b = e ∨ b = it := by simpa using hb
theorem enI_lt {e it a : Addr} {i : Nat} {h : Heap} (st : EnI e it a i h) : ∀ b ∈ [e, it], b < h.objs.size := fun b hb => by
  obtain ⟨⟨old, he⟩, ⟨o, ho, _⟩, _⟩ := st
  rcases two hb with rfl | rfl
  · exact Heap.lt_size he
  · exact Heap.lt_size ho
theorem apart_tup {e it a : Addr} {i : Nat} {h : Heap} {its : Array Value} (st : EnI e it a i h) (t : h.IsTuple a its) : a ≠ it := fun z => by
  obtain ⟨_, ⟨o, ho, hc, _⟩, _⟩ := st
  obtain ⟨o', ho', hc', _⟩ := t
  rw [z, ho] at ho'
  cases ho'
  rw [hc] at hc'
  exact absurd (Value.type.inj hc') (by decide)
theorem turn_ipt {P : Program} {w : World} {K : PySem.W.Frag} {elts : List Expr} {kk : Nat} {tpos : Pos} (a e it : Addr) (xs : List V) :
    Turn P w K (.Tuple elts kk tpos) (Ipt K a xs) [e, it] e (EnI e it a) where
  mem := List.mem_cons_self
  obj := fun i h st b hb => by
    obtain ⟨⟨old, he⟩, ⟨o, ho, _, hd⟩, _⟩ := st
    rcases two hb with rfl | rfl
    · exact ⟨_, he, fun v q => nomatch q⟩
    · exact ⟨o, ho, fun v q => by rw [hd] at q; cases q⟩
  keep := fun i h h' ⟨⟨old, he⟩, hi, hne⟩ k => ⟨⟨old, k e (by simp) _ he⟩, hi.at fun o q => k it (by simp) o q, hne⟩
  item := by
    intro X hP hw hK hc i pins s σ H E I hf st hg
    subst hP hw hK
    obtain ⟨hq, hi⟩ := hg
    obtain ⟨its, rv, tp, _⟩ := I.tuple hq
    have tp' : s.heap.IsTuple a its.toArray := tp
    have old_lt := enI_lt st
    have hat := apart_tup st tp'
    obtain ⟨⟨old, he⟩, hit, hne⟩ := st
    have hx : xs[i]? = some xs[i] := List.getElem?_eq_getElem hi
    have hl := rv.length
    have D : Draws X.prog X.w X.A.in1 it [it, a] its.toArray.size _ _ := Draws.tuple (A := X.A.in1) (I.ok.hd hc) it a hat its.toArray
    have hea : e ∉ [it, a] := fun z => by
      rcases two z with z | z
      · exact hne z
      · rw [z] at he
        obtain ⟨o', ho', hc', _⟩ := tp'
        have y := Option.some.inj (he.symm.trans ho')
        rw [← y] at hc'
        exact absurd (Value.type.inj hc') (by decide)
    refine wpAny_pyNext_enum_itemC D he ⟨hit, tp'⟩ (by simp; omega) hne hea fun u h' tk hu ho st' hT hsz hk => ?_
    refine ⟨_, rfl, wpAny_letOwnedTupleGo_enum (s := ⟨h', s.gens, s.drawn, tk + 1, s.os⟩) ho fun h2 he2 sb => ?_⟩
    have hel : e < s.heap.objs.size := old_lt e (by simp)
    have hT2 : h2.get? s.heap.objs.size = some { cls := .type "tuple", data := .seq #[.int i tk, u] } := (sb.2 _ (Nat.ne_of_gt hel)).trans hT
    obtain ⟨u', hu', ru⟩ := rv.get hx
    have eu : u' = u := by
      have y : its[i]? = some u := by simpa using hu
      exact Option.some.inj (hu'.symm.trans y)
    subst eu
    have new : ObjOk X.prog X.w (upd H s.heap.objs.size (.tup [.int (i : Nat), xs[i]])) h2 s.heap.objs.size (.tup [.int (i : Nat), xs[i]]) :=
      ⟨by show 2 ≤ sizeLine; decide, [.int i tk, u'], .cons ⟨_, rfl⟩ (.cons ru .nil), ⟨_, hT2, rfl, _, rfl⟩⟩
    have kk' : ∀ b ob, b ∉ [e, it] → s.heap.get? b = some ob → h2.get? b = some ob := fun b ob hb q =>
      (sb.2 b fun z => hb (by simp [z])).trans (hk b ob (fun z => hb (by simp [z])) (fun z => hb (by simp [z])) q)
    have J := I.turnedNew (t' := tk + 1) kk' hf (Nat.le_refl _) new
    refine ⟨.ref s.heap.objs.size, _, J, rfl, ⟨_, xs[i], rfl, I.hok.fresh (Nat.le_refl _), hx, rfl⟩, ⟨⟨u', ?_⟩, ?_, hne⟩, fun b hb => ?_⟩
    · have e1 : ((i + 1 : Nat) : Int) = (i : Int) + 1 := by omega
      rw [e1]
      exact he2
    · exact st'.1.at fun o q => (sb.2 it (Ne.symm hne)).trans q
    · rw [upd_ne (Nat.ne_of_lt (old_lt b hb))]
      exact (hf b hb).1
  done := by
    intro X hP hw hK hc i pins s σ H E I hf st hg
    subst hP hw hK
    obtain ⟨hq, hi⟩ := hg
    obtain ⟨its, rv, tp, _⟩ := I.tuple hq
    have tp' : s.heap.IsTuple a its.toArray := tp
    have hat := apart_tup st tp'
    obtain ⟨⟨old, he⟩, hit, hne⟩ := st
    have hl := rv.length
    have D : Draws X.prog X.w X.A.in1 it [it, a] its.toArray.size _ _ := Draws.tuple (A := X.A.in1) (I.ok.hd hc) it a hat its.toArray
    have hi' : i = its.toArray.size := by simp; omega
    subst hi'
    obtain ⟨f0, f1, f2, f3, f4, f5⟩ := hf it (by simp)
    exact wpAny_pyNext_enum_endD D he ⟨hit, tp'⟩ fun h' eb => ⟨rfl, I.turned (t' := s.toks) (fun b o hb q => eb b o hb q) f0 f1 f3 f4 f5⟩
  self := fun A i s Q E st h => by
    obtain ⟨⟨_, he⟩, _⟩ := st
    exact wpAny_pyIter_enum he h
def iEnT (K : PySem.W.Frag) (ta : TA) : TI := fun σ H R => ta σ H fun vs H1 => ∃ a xs, vs = [.ref a] ∧ SqT K H1 a xs ∧ R (Ipt K a xs) H1
theorem pi_enT {X : Cx} {e : Expr} {ta : TA} {p pos tpos : Pos} {elts : List Expr} {kk : Nat} (hg : Gl X "enumerate") (hm : X.mg "enumerate" = none) (ha : PA X [e] ta)
    (hs : starEach [e] X.env = [(false, eval e X.env)] := by rfl) : PI X (.Tuple elts kk tpos) (.Call (.Name "enumerate" p) [e] [] pos) (iEnT X.K ta) := by
  refine ⟨fun pins s σ H R I h => ?_⟩
  refine Call_ (ld_blt I hg hm boot_enumerate ?_)
  refine PyProof.Rows.callWith_type1 (thn (ha.run pos pins s σ H _ I h) fun us s1 ⟨vs, H1, I1, r1, q1⟩ => ?_) hs rfl
  obtain ⟨a, xs, rfl, hq, q⟩ := q1
  obtain ⟨u, rfl, ru⟩ : ∃ u, us = [u] ∧ RelV (.ref a) u := by
    cases r1 with
    | cons r rr =>
      cases rr
      exact ⟨_, rfl, r⟩
  obtain rfl : u = Value.ref a := ru
  obtain ⟨its, rv, tp, _⟩ := I1.tuple hq
  refine call_enum (begins_tuple a its.toArray) tp fun h' he hit hk => wpAny_pyIter_enum he ?_
  refine ⟨s1.heap.objs.size + 1, [s1.heap.objs.size + 1, s1.heap.objs.size], _, _, H1, rfl, I1.kept (t' := s1.toks) hk,
    turn_ipt a (s1.heap.objs.size + 1) s1.heap.objs.size xs, ⟨⟨.none, he⟩, ⟨_, hit, rfl, rfl⟩, Nat.succ_ne_self _⟩, fun b hb => ?_, q⟩
  have hle : s1.heap.objs.size ≤ b := by
    rcases two hb with rfl | rfl
    · exact Nat.le_succ _
    · exact Nat.le_refl _
  exact I1.fpOk hle (I1.hok.fresh hle)
end Drw

namespace Drw
open PySem PySem.Spec PyProof.Rows L2
def topS (i : Nat) : Stmt := PySem.Challenge.pw_cursorhouse_k79_scripts_refused.main.body.getD i (.Pass ⟨0, 0, 0, 0⟩)
abbrev sErr0 : Stmt := topS 1
abbrev sErr1 : Stmt := topS 2
abbrev sErr2 : Stmt := topS 3
abbrev sChecked : Stmt := topS 20
abbrev sCheckedOne : Stmt := topS 21
abbrev sMay : Stmt := topS 22
abbrev sOpenB : Stmt := topS 23
abbrev sReadB : Stmt := topS 24
abbrev sFirstState : Stmt := topS 34
abbrev sNextState : Stmt := topS 35
abbrev sRefusal : Stmt := topS 36
abbrev sIsOrder : Stmt := topS 37
abbrev sIsNever : Stmt := topS 38
abbrev sStuck : Stmt := topS 39
abbrev sIsStuck : Stmt := topS 40
abbrev sIsFree : Stmt := topS 41
abbrev sCalmed : Stmt := topS 42
abbrev sFirst : Stmt := topS 44
abbrev sFresh : Stmt := topS 58
abbrev sFill : Stmt := topS 59
abbrev sTake : Stmt := topS 60
abbrev sOne : Stmt := topS 61
abbrev sSame : Stmt := topS 62
abbrev sScript : Stmt := topS 63
abbrev sScripts : Stmt := topS 64
abbrev sBegun : Stmt := topS 65
abbrev sHanded : Stmt := topS 66
abbrev sOdd : Stmt := topS 67
abbrev sMisused : Stmt := topS 68
abbrev sIsScript : Stmt := topS 69
abbrev sAreScripts : Stmt := topS 70
abbrev sWord : Stmt := topS 71
abbrev sBent : Stmt := topS 72
abbrev sRowOf : Stmt := topS 73
abbrev sLaw : Stmt := topS 74
end Drw

namespace Drw
open PySem PySem.Spec PyProof.Rows L2
theorem scFresh : FnScope ["_law_script_here"] ["_law_script_here"] (defScope sFresh) := ⟨rfl, rfl, rfl, by decide +kernel, rfl, by decide +kernel, by decide +kernel⟩
theorem scFill : FnScope ["_law_state", "_law_cells", "_law_nth", "_law_seed", "_law_k", "_law_prime", "_law_far"] ["_law_state"] (defScope sFill) := ⟨rfl, rfl, rfl, by decide +kernel, rfl, by decide +kernel, by decide +kernel⟩
theorem scTake : FnScope ["_law_state", "_law_many", "_law_turns", "_law_digit"] ["_law_state", "_law_many"] (defScope sTake) := ⟨rfl, rfl, rfl, by decide +kernel, rfl, by decide +kernel, by decide +kernel⟩
theorem scOne : FnScope ["_law_state", "_law_things"] ["_law_state", "_law_things"] (defScope sOne) := ⟨rfl, rfl, rfl, by decide +kernel, rfl, by decide +kernel, by decide +kernel⟩
/-- a list of a state for draws stands at l, its cells at c -/
structure Stt (H : Hp) (l c : Addr) (ns : List Int) : Prop where
  ex : ∃ (nth left : Int) (mix : Bool), H l = some (.lst [.ref c, .int nth, .int left, .bl mix])
  cs : H c = some (.lst (ns.map V.int))
  ne : l ≠ c
  few : ns.length ≤ 63
/-- what was tracked stands, but at l -/
def Kp (l : Addr) (H H' : Hp) : Prop := ∀ b o, b ≠ l → H b = some o → H' b = some o
theorem Kp.refl {l : Addr} {H : Hp} : Kp l H H := fun _ _ _ e => e
theorem Kp.trans {l : Addr} {H H' H'' : Hp} (h : Kp l H H') (k : Kp l H' H'') : Kp l H H'' := fun b o n e => k b o n (h b o n e)
theorem Kp.put {l : Addr} {H H' : Hp} {o : HO} (h : Kp l H H') : Kp l H (upd H' l o) := fun b u n e => by
  rw [upd_ne n]
  exact h b u n e
theorem Kp.new {l p : Addr} {H H' : Hp} {o : HO} (h : Kp l H H') (hp : H' p = none) : Kp l H (upd H' p o) := fun b u n e => by
  have z := h b u n e
  rw [upd_ne (ne_of_none z hp)]
  exact z
def spFill : Sp := fun vs H Q _ => ∃ (l c : Addr) (ns : List Int), vs = [.ref l] ∧ Stt H l c ns ∧ ∀ H', Kp l H H' → Stt H' l c ns → Q .non H'
section
variable {P : Program} {w : World} {K : PySem.W.Frag} {mg : Str → Option Value} {base : Heap}
theorem sq {H : Hp} {p : Addr} {xs : List V} (h : H p = some (.lst xs)) : SqL K H p xs := .inl (.inl h)
theorem sqt {H : Hp} {p : Addr} {xs : List V} (h : H p = some (.tup xs)) : SqT K H p xs := .inl (.inl h)
/-- item i of the state's list, and its store -/
theorem at3 {a b c d : V} (i : Nat) (v : V) (h : [a, b, c, d][i]? = some v) : atI [a, b, c, d] (i : Int) = some v := atI_nat h
def primes : List Int := [2147483647, 2147483629, 2147483587, 2147483579, 2147483563]
theorem prime_at {i : Nat} {x : V} (h : (primes.map V.int)[i]? = some x) : ∃ p : Int, x = .int p ∧ 0 < p ∧ p < 2 ^ 32 := by
  rw [List.getElem?_map] at h
  cases e : primes[i]? with
  | none => rw [e] at h; cases h
  | some p =>
    rw [e] at h
    have hm := List.mem_of_getElem? e
    have all : ∀ q ∈ primes, 0 < q ∧ q < 2 ^ 32 := by decide
    exact ⟨p, (Option.some.inj h).symm, all p hm⟩
theorem ok_fill {f : Addr} {fd : FuncData} (F : Fun K "_law_fill" "_law_fill" sFill f fd) (ml : mg "len" = none) (mi : mg "int" = none) (me : mg "enumerate" = none) :
    FnOk P w K mg base CX0 1 f fd ["_law_state"] spFill := by
  refine F.ok scFill (fun vs H Q E h => ?_) (fun cdv A outer s H vs Q E hr h => ?_)
  · obtain ⟨l, c, ns, rfl, _⟩ := h
    rfl
  · obtain ⟨l, c, ns, rfl, ⟨⟨nth, left, mix, hl⟩, hc, hlc, hn⟩, q⟩ := h
    refine ⟨_, pss_cons (ps_par (i := 1) (j := 2) rfl scFill.nd rfl rfl (by decide) rfl rfl (pa_cons (pe_ix ix_list (pv 0) pe_int (fun _ _ => rfl)) (pa_cons (pe_ix ix_list (pv 0) pe_int (fun _ _ => rfl)) pa_nil)) rfl)
      (pss_cons (ps_set (i := 3) scFill.nd rfl (.inl rfl) (pe_op op_add (pe_op op_mul pe_int (pv 2)) pe_int))
      (pss_cons (ps_if (pt_cmpR op_gt (pe_callB call_len_seq (by rfl) ml PySem.boot_len (pa_cons (pv 1) pa_nil)) pe_int (nomark _))
        (pss_one (ps_set (i := 3) scFill.nd rfl (.inl rfl) (pe_op op_add
          (pe_op op_mul pe_int (pe_op op_fdiv (pv 2) (pe_callB call_len_seq (by rfl) ml PySem.boot_len (pa_cons (pv 1) pa_nil))))
          (pe_ix ix_list (pv 1) (pe_op op_mod (pe_callTy call_int1 (by rfl) mi PySem.Pv.boot_int (pa_cons (pv 2) pa_nil)) (pe_callB call_len_seq (by rfl) ml PySem.boot_len (pa_cons (pv 1) pa_nil))) (fun _ _ => rfl))))) pss_nil)
      (pss_cons (ps_asg (pe_op op_add (pv 2) pe_int) (pg_sub (pv 0) pe_int set_list))
      (pss_cons (ps_asg (pe_or (pe_cmpR op_ge (pv 2) (pe_callB call_len_seq (by rfl) ml PySem.boot_len (pa_cons (pv 1) pa_nil)) (nomark _))
          (pe_one (pe_cmpR op_lt (pv 3) (pe_op op_pow pe_int pe_int) (nomark _)))) (pg_sub (pv 0) pe_int set_list))
      (pss_cons (ps_asg (pe_op op_sub (pv 3) (pe_op op_pow pe_int pe_int)) (pg_sub (pv 0) pe_int set_list))
      (pss_one (ps_if (pt_truth (pe_ix ix_list (pv 0) pe_int (fun _ _ => rfl)) (fun _ => rfl))
        (pss_cons (ps_asg pe_int (pg_sub (pv 0) pe_int set_list))
        (pss_one (ps_for PassesOwn.never rfl (pi_enT (by rfl) me (pa_cons (pe_tup (pa_cons pe_int (pa_cons pe_int (pa_cons pe_int (pa_cons pe_int (pa_cons pe_int pa_nil)))))) pa_nil))
            (pg_tup rfl (pgs_cons (pg_name (i := 4) scFill.nd rfl (.inl rfl)) (pgs_cons (pg_name (i := 5) scFill.nd rfl (.inl rfl)) pgs_nil)))
          (pss_cons (ps_set (i := 6) scFill.nd rfl (.inl rfl) (pe_op op_mod (pe_callTy call_int1 (by rfl) mi PySem.Pv.boot_int (pa_cons
              (pe_op op_mul (pe_op op_add (pe_op op_add (pv 3) (pe_op op_mul (pe_op op_mul pe_int (pv 4)) (pv 4))) (pe_op op_mul pe_int (pv 4))) (pe_op op_add pe_int (pe_op op_mul pe_int (pv 4)))) pa_nil)) (pv 5)))
          (pss_one (ps_asg (pe_op op_add (pe_op op_mul (pe_ix ix_list (pv 0) pe_int (fun _ _ => rfl)) (pv 5))
              (pe_op op_mod (pe_callTy call_int1 (by rfl) mi PySem.Pv.boot_int (pa_cons (pe_op op_pow (pv 6) pe_int) pa_nil)) (pv 5))) (pg_sub (pv 0) pe_int set_list)))))))
        pss_nil))))))), ?_⟩
    have hlen : (ns.map V.int).length = ns.length := List.length_map ..
    -- the two names
    refine ⟨.ref l, rfl, l, _, 0, .ref c, rfl, rfl, sq hl, atI_nat (j := 0) rfl, .ref l, rfl, l, _, 1, .int nth, rfl, rfl, sq hl, atI_nat (j := 1) rfl, _, _, rfl, ?_⟩
    -- the seed
    refine ⟨.int nth, rfl, 31, nth, rfl, rfl, .inl ⟨by decide, by decide⟩, _, 7, rfl, rfl, ?_⟩
    refine ⟨.ref c, rfl, c, _, rfl, .inl (sq hc), _, 0, rfl, rfl, _, rfl, ite2 (fun e => ?ga) (fun e => ?gb)⟩
    case' ga =>
      have h0 : (0 : Int) < ((ns.map V.int).length : Int) := of_decide_eq_true e
      have hpos : 0 < ns.length := by omega
      have hsm : ((ns.map V.int).length : Int) < 1073741824 := by omega
      obtain ⟨j, hj⟩ : ∃ j : Nat, nth % ((ns.map V.int).length : Int) = j := Int.eq_ofNat_of_zero_le (Int.emod_nonneg _ (by omega))
      have hjl : j < ns.length := by
        have z := Int.emod_lt_of_pos nth h0
        omega
      have hat : atI (ns.map V.int) (nth % ((ns.map V.int).length : Int)) = some (.int ns[j]) := by
        rw [hj]
        refine atI_nat ?_
        rw [List.getElem?_map, List.getElem?_eq_getElem hjl]
        rfl
      refine ⟨.int nth, rfl, .ref c, rfl, c, _, rfl, .inl (sq hc), nth, _, rfl, rfl, ⟨h0, hsm⟩, 104729, _, rfl, rfl, .inl ⟨by decide, by decide⟩, ?_⟩
      refine ⟨.ref c, rfl, .int nth, rfl, .inl ⟨nth, rfl, .ref c, rfl, c, _, rfl, .inl (sq hc), nth, _, rfl, rfl, h0, c, _, _, .int ns[j], rfl, rfl, sq hc, hat, _, _, rfl, rfl, ?_⟩⟩
    all_goals
      -- the state: one draw more
      refine ⟨.int nth, rfl, nth, 1, rfl, rfl, .ref l, rfl, l, _, 1, 1, rfl, rfl, hl, rfl, ?_⟩
      have k1 : Kp l H (upd H l (.lst [.ref c, .int (nth + 1), .int left, .bl mix])) := Kp.refl.put
      have c1 := k1 c _ (Ne.symm hlc) hc
      refine ⟨.int nth, rfl, .ref c, rfl, c, _, rfl, .inl (sq c1), nth, _, rfl, rfl, _, rfl, ite2 (fun e2 => ?_) (fun e2 => ?_)⟩
      · refine ⟨.ref l, rfl, l, _, 3, 3, rfl, rfl, upd_same, rfl, ?_⟩
        refine ⟨_, rfl, 10, 18, rfl, rfl, ⟨by decide, by decide, by decide⟩, _, _, rfl, rfl, .ref l, rfl, l, _, 2, 2, rfl, rfl, upd_same, rfl, ?_⟩
        refine ⟨.ref l, rfl, l, _, 3, .bl _, rfl, rfl, sq upd_same, atI_nat (j := 3) rfl, _, rfl, ite2 (fun e3 => ?_) (fun e3 => ?_)⟩
        · refine ⟨.ref l, rfl, l, _, 2, 2, rfl, rfl, upd_same, rfl, ?_⟩
          refine ⟨by show 5 ≤ sizeLine; decide, fun t nt => ⟨t, _, rfl, sqt upd_same, ?_⟩⟩
          have k3 := Kp.new (l := l) (H := H) (o := .tup (primes.map V.int)) (by exact k1.put.put.put) nt
          have tl : t ≠ l := fun z => by
            rw [z, upd_same] at nt
            cases nt
          refine ⟨fun i m σ H' => ∃ (y3 : Int) (y4 y5 y6 : Option V) (left' : Int) (mix' : Bool), σ = [some (.ref l), some (.ref c), some (.int nth), some (.int y3), y4, y5, y6] ∧ i + m = 5 ∧ Kp l H H' ∧
              H' t = some (.tup (primes.map V.int)) ∧ H' l = some (.lst [.ref c, .int (nth + 1), .int left', .bl mix']),
            ⟨5, _, none, none, none, 0, _, rfl, rfl, k3, upd_same, (upd_ne tl.symm).trans upd_same⟩, fun i m σ H' hW => ?_⟩
          obtain ⟨y3, y4, y5, y6, left', mix', rfl, em, kW, tW, lW⟩ := hW
          by_cases hi : i < 5
          · refine .inr ⟨⟨sqt tW, hi⟩, fun σ' H'' => ∃ (y4 y5 y6 : Option V) (left' : Int), σ' = [some (.ref l), some (.ref c), some (.int nth), some (.int y3), y4, y5, y6] ∧ Kp l H H'' ∧
                H'' t = some (.tup (primes.map V.int)) ∧ H'' l = some (.lst [.ref c, .int (nth + 1), .int left', .bl mix']), fun σ' H'' hN => ?_, fun x H'' hy => ?_⟩
            · obtain ⟨z4, z5, z6, z, e, k', t', l'⟩ := hN
              exact ⟨m - 1, by omega, y3, z4, z5, z6, z, mix', e, by omega, k', t', l'⟩
            · obtain ⟨T, x, rfl, nT, hx, rfl⟩ := hy
              obtain ⟨p, rfl, p0, p1⟩ := prime_at hx
              have lT : l ≠ T := ne_of_none lW nT
              have tT : t ≠ T := ne_of_none tW nT
              refine ⟨T, _, rfl, sqt upd_same, rfl, _, _, rfl, _, _, rfl, rfl, ?_⟩
              have b4 : -(2 ^ 64) < (i : Int) ∧ (i : Int) < 2 ^ 64 := ⟨by omega, by omega⟩
              have b5 : -(2 ^ 64) < (48271 + 2 * (i : Int)) ∧ (48271 + 2 * (i : Int)) < 2 ^ 64 := ⟨by omega, by omega⟩
              have b6 : -(2 ^ 64) < p ∧ p < 2 ^ 64 := ⟨by omega, by omega⟩
              refine ⟨.int y3, rfl, .int i, rfl, 10007, i, rfl, rfl, .inl ⟨by decide, by decide⟩, .int i, rfl, _, i, rfl, rfl, .inr b4, y3, _, rfl, rfl, .int i, rfl, 101, i, rfl, rfl, .inl ⟨by decide, by decide⟩, _, _, rfl, rfl,
                .int i, rfl, 2, i, rfl, rfl, .inl ⟨by decide, by decide⟩, 48271, _, rfl, rfl, _, _, rfl, rfl, .inr b5, .inl ⟨_, rfl, .int p, rfl, _, p, rfl, rfl, p0, ?_⟩⟩
              have far0 : ∀ z : Int, (z % p).natAbs < 2 ^ 64 := fun z => by
                have h1 := Int.emod_nonneg z (by omega : p ≠ 0)
                have h2 := Int.emod_lt_of_pos z p0
                omega
              refine ⟨.ref l, rfl, l, _, 2, .int left', rfl, rfl, sq ((upd_ne lT).trans lW), atI_nat (j := 2) rfl, .int p, rfl, left', p, rfl, rfl, .inr b6, _, rfl, _, 5, rfl, rfl, ⟨by decide, by decide, far0 _⟩, .inl ⟨_, rfl, .int p, rfl, _, p, rfl, rfl, p0, _, _, rfl, rfl,
                .ref l, rfl, l, _, 2, 2, rfl, rfl, (upd_ne lT).trans lW, rfl, ?_⟩⟩
              exact ⟨some (.int i), some (.int p), _, _, rfl, (kW.new nT).put, (upd_ne tl).trans ((upd_ne tT).trans tW), upd_same⟩
          · refine .inl ⟨⟨sqt tW, by show 5 = i; omega⟩, ?_⟩
            exact q _ kW ⟨⟨_, _, _, lW⟩, kW c _ (Ne.symm hlc) hc, hlc, hn⟩
        · exact q _ k1.put.put ⟨⟨_, _, _, upd_same⟩, k1.put.put c _ (Ne.symm hlc) hc, hlc, hn⟩
      · refine ⟨_, rfl, 10, 18, rfl, rfl, ⟨by decide, by decide, by decide⟩, _, _, rfl, rfl, .ref l, rfl, l, _, 3, 3, rfl, rfl, upd_same, rfl, ?_⟩
        refine ⟨_, rfl, 10, 18, rfl, rfl, ⟨by decide, by decide, by decide⟩, _, _, rfl, rfl, .ref l, rfl, l, _, 2, 2, rfl, rfl, upd_same, rfl, ?_⟩
        refine ⟨.ref l, rfl, l, _, 3, .bl _, rfl, rfl, sq upd_same, atI_nat (j := 3) rfl, _, rfl, ite2 (fun e3 => ?_) (fun e3 => ?_)⟩
        · refine ⟨.ref l, rfl, l, _, 2, 2, rfl, rfl, upd_same, rfl, ?_⟩
          refine ⟨by show 5 ≤ sizeLine; decide, fun t nt => ⟨t, _, rfl, sqt upd_same, ?_⟩⟩
          have k3 := Kp.new (l := l) (H := H) (o := .tup (primes.map V.int)) (by exact k1.put.put.put) nt
          have tl : t ≠ l := fun z => by
            rw [z, upd_same] at nt
            cases nt
          refine ⟨fun i m σ H' => ∃ (y3 : Int) (y4 y5 y6 : Option V) (left' : Int) (mix' : Bool), σ = [some (.ref l), some (.ref c), some (.int nth), some (.int y3), y4, y5, y6] ∧ i + m = 5 ∧ Kp l H H' ∧
              H' t = some (.tup (primes.map V.int)) ∧ H' l = some (.lst [.ref c, .int (nth + 1), .int left', .bl mix']),
            ⟨5, _, none, none, none, 0, _, rfl, rfl, k3, upd_same, (upd_ne tl.symm).trans upd_same⟩, fun i m σ H' hW => ?_⟩
          obtain ⟨y3, y4, y5, y6, left', mix', rfl, em, kW, tW, lW⟩ := hW
          by_cases hi : i < 5
          · refine .inr ⟨⟨sqt tW, hi⟩, fun σ' H'' => ∃ (y4 y5 y6 : Option V) (left' : Int), σ' = [some (.ref l), some (.ref c), some (.int nth), some (.int y3), y4, y5, y6] ∧ Kp l H H'' ∧
                H'' t = some (.tup (primes.map V.int)) ∧ H'' l = some (.lst [.ref c, .int (nth + 1), .int left', .bl mix']), fun σ' H'' hN => ?_, fun x H'' hy => ?_⟩
            · obtain ⟨z4, z5, z6, z, e, k', t', l'⟩ := hN
              exact ⟨m - 1, by omega, y3, z4, z5, z6, z, mix', e, by omega, k', t', l'⟩
            · obtain ⟨T, x, rfl, nT, hx, rfl⟩ := hy
              obtain ⟨p, rfl, p0, p1⟩ := prime_at hx
              have lT : l ≠ T := ne_of_none lW nT
              have tT : t ≠ T := ne_of_none tW nT
              refine ⟨T, _, rfl, sqt upd_same, rfl, _, _, rfl, _, _, rfl, rfl, ?_⟩
              have b4 : -(2 ^ 64) < (i : Int) ∧ (i : Int) < 2 ^ 64 := ⟨by omega, by omega⟩
              have b5 : -(2 ^ 64) < (48271 + 2 * (i : Int)) ∧ (48271 + 2 * (i : Int)) < 2 ^ 64 := ⟨by omega, by omega⟩
              have b6 : -(2 ^ 64) < p ∧ p < 2 ^ 64 := ⟨by omega, by omega⟩
              refine ⟨.int y3, rfl, .int i, rfl, 10007, i, rfl, rfl, .inl ⟨by decide, by decide⟩, .int i, rfl, _, i, rfl, rfl, .inr b4, y3, _, rfl, rfl, .int i, rfl, 101, i, rfl, rfl, .inl ⟨by decide, by decide⟩, _, _, rfl, rfl,
                .int i, rfl, 2, i, rfl, rfl, .inl ⟨by decide, by decide⟩, 48271, _, rfl, rfl, _, _, rfl, rfl, .inr b5, .inl ⟨_, rfl, .int p, rfl, _, p, rfl, rfl, p0, ?_⟩⟩
              have far0 : ∀ z : Int, (z % p).natAbs < 2 ^ 64 := fun z => by
                have h1 := Int.emod_nonneg z (by omega : p ≠ 0)
                have h2 := Int.emod_lt_of_pos z p0
                omega
              refine ⟨.ref l, rfl, l, _, 2, .int left', rfl, rfl, sq ((upd_ne lT).trans lW), atI_nat (j := 2) rfl, .int p, rfl, left', p, rfl, rfl, .inr b6, _, rfl, _, 5, rfl, rfl, ⟨by decide, by decide, far0 _⟩, .inl ⟨_, rfl, .int p, rfl, _, p, rfl, rfl, p0, _, _, rfl, rfl,
                .ref l, rfl, l, _, 2, 2, rfl, rfl, (upd_ne lT).trans lW, rfl, ?_⟩⟩
              exact ⟨some (.int i), some (.int p), _, _, rfl, (kW.new nT).put, (upd_ne tl).trans ((upd_ne tT).trans tW), upd_same⟩
          · refine .inl ⟨⟨sqt tW, by show 5 = i; omega⟩, ?_⟩
            exact q _ kW ⟨⟨_, _, _, lW⟩, kW c _ (Ne.symm hlc) hc, hlc, hn⟩
        · exact q _ k1.put.put ⟨⟨_, _, _, upd_same⟩, k1.put.put c _ (Ne.symm hlc) hc, hlc, hn⟩
end
end Drw

namespace Drw
open PySem PySem.Spec PyProof.Rows L2
def spTake : Sp := fun vs H Q _ => ∃ (l c : Addr) (ns : List Int) (many : Int), vs = [.ref l, .int many] ∧ 0 < many ∧ many < 536870912 ∧ Stt H l c ns ∧
  ∀ H' d, Kp l H H' → Stt H' l c ns → 0 ≤ d → d < many → Q (.int d) H'
section
variable {P : Program} {w : World} {K : PySem.W.Frag} {mg : Str → Option Value} {base : Heap}
theorem ok_take {f fF : Addr} {fd fdF : FuncData} (F : Fun K "_law_take" "_law_take" sTake f fd) (FF : Fun K "_law_fill" "_law_fill" sFill fF fdF) (bF : Binds K fdF ["_law_state"] []) (gF : mg "_law_fill" = some (.ref fF))
    (ml : mg "len" = none) (mi : mg "int" = none) (me : mg "enumerate" = none) : FnOk P w K mg base CX0 2 f fd ["_law_state", "_law_many"] spTake := by
  have GF : FnOk P w K mg base CX0 1 fF fdF ["_law_state"] spFill := ok_fill FF ml mi me
  refine F.ok scTake (fun vs H Q E h => ?_) (fun cdv A outer s H vs Q E hr h => ?_)
  · obtain ⟨l, c, ns, many, rfl, _⟩ := h
    rfl
  · obtain ⟨l, c, ns, many, rfl, m0, m1, st, q⟩ := h
    have mb : -(2 ^ 64) < many ∧ many < 2 ^ 64 := ⟨by omega, by omega⟩
    have mb2 : -(2 ^ 64) < many * 4096 ∧ many * 4096 < 2 ^ 64 := ⟨by omega, by omega⟩
    refine ⟨_, pss_cons (ps_set (i := 2) scTake.nd rfl (.inl rfl) pe_int)
      (pss_cons (ps_while PassesOwn.never (PW.pt (pw_and (pt_cmpR op_lt (pv 2) pe_int (nomark _)) (pw_and1 (PW.pt (pw_or (pt_cmpR op_eq (pe_ix ix_list (pv 0) pe_int (fun _ _ => rfl)) pe_int (nomark _))
          (pw_or1 (PW.pt (pw_and (pt_truth (pe_ix ix_list (pv 0) pe_int (fun _ _ => rfl)) (fun _ => rfl)) (pw_and1 (pt_cmpR op_lt (pe_ix ix_list (pv 0) pe_int (fun _ _ => rfl)) (pe_op op_mul (pv 1) pe_int) (nomark _)))))))))))
        (pss_cons (ps_expr (pe_call GF hr (by rfl) gF FF.kp bF .nil pass0 (pa_cons (pv 0) pa_nil)))
        (pss_cons (ps_aug (i := 2) scTake.nd rfl (.inl rfl) pe_int ip_add)
        (pss_one (ps_if (PW.pt (pw_and (pt_truth (pe_ix ix_list (pv 0) pe_int (fun _ _ => rfl)) (fun _ => rfl)) (pw_and1 (pt_cmpR op_lt (pe_ix ix_list (pv 0) pe_int (fun _ _ => rfl)) (pe_op op_mul (pv 1) pe_int) (nomark _)))))
          (pss_one (ps_asg (pe_op op_add (pe_ix ix_list (pv 0) pe_int (fun _ _ => rfl)) (pe_op op_mul (pe_op op_mul (pv 1) pe_int) (pe_op op_add pe_int (pe_op op_mod (pe_callTy call_int1 (by rfl) mi PySem.Pv.boot_int (pa_cons (pe_ix ix_list (pv 0) pe_int (fun _ _ => rfl)) pa_nil)) pe_int)))) (pg_sub (pv 0) pe_int set_list)))
          pss_nil)))))
      (pss_cons (ps_set (i := 3) scTake.nd rfl (.inl rfl) (pe_op op_mod (pe_callTy call_int1 (by rfl) mi PySem.Pv.boot_int (pa_cons (pe_ix ix_list (pv 0) pe_int (fun _ _ => rfl)) pa_nil)) (pv 1)))
      (pss_cons (ps_asg (pe_op op_fdiv (pe_ix ix_list (pv 0) pe_int (fun _ _ => rfl)) (pv 1)) (pg_sub (pv 0) pe_int set_list))
      (pss_one (ps_ret (pv 3)))))), ?_⟩
    refine ⟨fun m σ H' => ∃ tn : Nat, σ = [some (.ref l), some (.int many), some (.int tn), none] ∧ tn + m = 64 ∧ Kp l H H' ∧ Stt H' l c ns, ⟨64, 0, rfl, rfl, Kp.refl, st⟩, fun m σ H1 hW => ?_⟩
    obtain ⟨tn, rfl, em, k1, ⟨⟨nth, left, mix, hl⟩, hc, hlc, hn⟩⟩ := hW
    refine ⟨.int tn, rfl, _, _, rfl, rfl, _, rfl, ite2 (fun e1 => ?g1) (fun e1 => iteF ?exit1)⟩
    case' g1 => refine ⟨.ref l, rfl, l, _, 2, .int left, rfl, rfl, sq hl, atI_nat (j := 2) rfl, rfl, _, rfl, ite2 (fun e2 => iteT ?body1) (fun e2 => ?g2)⟩
    case' g2 => refine ⟨.ref l, rfl, l, _, 3, .bl mix, rfl, rfl, sq hl, atI_nat (j := 3) rfl, mix, rfl, ite2 (fun e3 => ?g3) (fun e3 => iteF ?exit2)⟩
    case' g3 => refine ⟨.ref l, rfl, l, _, 2, .int left, rfl, rfl, sq hl, atI_nat (j := 2) rfl, .int many, rfl, many, 4096, rfl, rfl, .inl mb, left, _, rfl, rfl, _, rfl, ite2 (fun e4 => ?body2) (fun e4 => ?exit3)⟩
    case exit1 | exit2 | exit3 =>
      refine ⟨.ref l, rfl, l, _, 2, .int left, rfl, rfl, sq hl, atI_nat (j := 2) rfl, .inl ⟨left, rfl, .int many, rfl, left, many, rfl, rfl, m0, ?_⟩⟩
      refine ⟨.ref l, rfl, l, _, 2, .int left, rfl, rfl, sq hl, atI_nat (j := 2) rfl, .int many, rfl, left, many, rfl, rfl, ⟨m0, by omega⟩, .ref l, rfl, l, _, 2, 2, rfl, rfl, hl, rfl, ?_⟩
      refine ⟨_, rfl, q _ _ k1.put ⟨⟨_, _, _, upd_same⟩, (upd_ne (Ne.symm hlc)).trans hc, hlc, hn⟩ (Int.emod_nonneg _ (by omega)) (Int.emod_lt_of_pos _ m0)⟩
    case body1 | body2 =>
      have tl : tn < 64 := by
        have z : (tn : Int) < 64 := of_decide_eq_true e1
        omega
      refine ⟨fun σ H' => σ = [some (.ref l), some (.int many), some (.int (tn + 1 : Nat)), none] ∧ Kp l H H' ∧ Stt H' l c ns, fun σ' H' hN => ⟨m - 1, by omega, tn + 1, hN.1, by omega, hN.2⟩, ?_⟩
      refine ⟨.ref l, rfl, l, c, ns, rfl, ⟨⟨_, _, _, hl⟩, hc, hlc, hn⟩, fun H2 k2 st2 => ?_⟩
      have k3 := k1.trans k2
      refine ⟨.int tn, rfl, tn, 1, rfl, rfl, ?_⟩
      obtain ⟨⟨nth2, left2, mix2, hl2⟩, hc2, _, _⟩ := st2
      refine ⟨.ref l, rfl, l, _, 3, .bl mix2, rfl, rfl, sq hl2, atI_nat (j := 3) rfl, mix2, rfl, ite2 (fun e5 => ?_) (fun e5 => ?_)⟩
      · refine ⟨.ref l, rfl, l, _, 2, .int left2, rfl, rfl, sq hl2, atI_nat (j := 2) rfl, .int many, rfl, many, 4096, rfl, rfl, .inl mb, left2, _, rfl, rfl, _, rfl, ite2 (fun e6 => ?_) (fun e6 => ?_)⟩
        · refine ⟨.ref l, rfl, l, _, 2, .int left2, rfl, rfl, sq hl2, atI_nat (j := 2) rfl, .int many, rfl, many, 4096, rfl, rfl, .inl mb, .ref l, rfl, l, _, 2, .int left2, rfl, rfl, sq hl2, atI_nat (j := 2) rfl,
            .inl ⟨left2, rfl, left2, 4093, rfl, rfl, (by show (0 : Int) < 4093; decide), 1, _, rfl, rfl, _, _, rfl, rfl, .inl mb2, left2, _, rfl, rfl, .ref l, rfl, l, _, 2, 2, rfl, rfl, hl2, rfl, ?_⟩⟩
          exact ⟨rfl, k3.put, ⟨⟨_, _, _, upd_same⟩, (upd_ne (Ne.symm hlc)).trans hc2, hlc, hn⟩⟩
        · exact ⟨rfl, k3, ⟨⟨_, _, _, hl2⟩, hc2, hlc, hn⟩⟩
      · exact iteF ⟨rfl, k3, ⟨⟨_, _, _, hl2⟩, hc2, hlc, hn⟩⟩
end
end Drw

namespace Drw
open PySem PySem.Spec PyProof.Rows L2
def spOne : Sp := fun vs H Q _ => ∃ (l c : Addr) (ns : List Int) (t : Addr) (xs : List V), vs = [.ref l, .ref t] ∧ H t = some (.lst xs) ∧ t ≠ l ∧ 0 < xs.length ∧ xs.length < 1000 ∧ Stt H l c ns ∧
  ∀ H' (d : Nat) x, Kp l H H' → Stt H' l c ns → xs[d]? = some x → Q x H'
/-- what was tracked stands -/
def Al (H H' : Hp) : Prop := ∀ b o, H b = some o → H' b = some o
def spFresh (K : PySem.W.Frag) : Sp := fun vs H Q _ => ∃ (a : Addr) (ns : List Int), vs = [.ref a] ∧ SqL K H a (ns.map V.int) ∧ ns.length ≤ 63 ∧
  ∀ H' l c ns', Al H H' → Stt H' l c ns' → H l = none → Q (.ref l) H'
section
variable {P : Program} {w : World} {K : PySem.W.Frag} {mg : Str → Option Value} {base : Heap}
theorem ok_one {f fT : Addr} {fd fdT : FuncData} (F : Fun K "_law_one" "_law_one" sOne f fd) (FT : Fun K "_law_take" "_law_take" sTake fT fdT) (bT : Binds K fdT ["_law_state", "_law_many"] []) (gT : mg "_law_take" = some (.ref fT))
    (ml : mg "len" = none) (GT : FnOk P w K mg base CX0 2 fT fdT ["_law_state", "_law_many"] spTake) : FnOk P w K mg base CX0 3 f fd ["_law_state", "_law_things"] spOne := by
  refine F.ok scOne (fun vs H Q E h => ?_) (fun cdv A outer s H vs Q E hr h => ?_)
  · obtain ⟨l, c, ns, t, xs, rfl, _⟩ := h
    rfl
  · obtain ⟨l, c, ns, t, xs, rfl, ht, tl, x0, x1, st, q⟩ := h
    refine ⟨_, pss_one (ps_ret (pe_ix ix_list (pv 1) (pe_call GT hr (by rfl) gT FT.kp bT .nil pass0 (pa_cons (pv 0) (pa_cons (pe_callB call_len_seq (by rfl) ml PySem.boot_len (pa_cons (pv 1) pa_nil)) pa_nil))) (fun _ _ => rfl))), ?_⟩
    refine ⟨.ref t, rfl, .ref l, rfl, .ref t, rfl, t, xs, rfl, .inl (sq ht), l, c, ns, _, rfl, by omega, by omega, st, fun H' d k st' d0 d1 => ?_⟩
    obtain ⟨j, rfl⟩ := Int.eq_ofNat_of_zero_le d0
    have hj : j < xs.length := by omega
    refine ⟨t, xs, j, xs[j], rfl, rfl, sq (k t _ tl ht), atI_nat (List.getElem?_eq_getElem hj), ?_⟩
    exact q _ j _ k st' (List.getElem?_eq_getElem hj)
theorem cut_ints (ns : List Int) (lo hi : Option Int) : ∃ ns' : List Int, cutV (ns.map V.int) lo hi = ns'.map V.int ∧ ns'.length ≤ ns.length := by
  refine ⟨(ns.drop (HT.sIx (ns.map V.int).length 0 lo)).take (HT.sIx (ns.map V.int).length (ns.map V.int).length hi - HT.sIx (ns.map V.int).length 0 lo), ?_, ?_⟩
  · unfold cutV
    rw [List.map_take, List.map_drop]
  · rw [List.length_take, List.length_drop]
    omega
theorem ok_fresh {f : Addr} {fd : FuncData} (F : Fun K "_law_fresh" "_law_fresh" sFresh f fd) : FnOk P w K mg base CX0 1 f fd ["_law_script_here"] (spFresh K) := by
  refine F.ok scFresh (fun vs H Q E h => ?_) (fun cdv A outer s H vs Q E hr h => ?_)
  · obtain ⟨a, ns, rfl, _⟩ := h
    rfl
  · obtain ⟨a, ns, rfl, hS, hn, q⟩ := h
    refine ⟨_, pss_one (ps_ret (pe_lst (pa_cons (pe_slice sl_list (pv 0) po_none (po_some pe_int)) (pa_cons pe_int (pa_cons pe_int (pa_cons pe_bl pa_nil)))))), ?_⟩
    obtain ⟨ns', e, hn'⟩ := cut_ints ns none (some 63)
    refine ⟨.ref a, rfl, 63, rfl, a, _, rfl, hS, fun c nc => ?_⟩
    refine ⟨by show 4 ≤ sizeLine; decide, fun l nl => ?_⟩
    have cl : c ≠ l := fun z => by
      rw [z, upd_same] at nl
      cases nl
    refine q _ l c ns' (fun b o z => ?_) ⟨⟨_, _, _, upd_same⟩, ?_, cl.symm, by omega⟩ ?_
    · have z1 := upd_ne (H := H) (o := .lst (cutV (ns.map V.int) none (some 63))) (ne_of_none z nc)
      rw [upd_ne (ne_of_none (z1.trans z) nl), z1]
      exact z
    · rw [upd_ne cl, upd_same, e]
    · rw [upd_ne cl.symm] at nl
      exact nl
end
end Drw

/-! A def that is called from the outside: what stands around it is known. -/
namespace Grd
open PySem PySem.Spec PyProof.Rows L2 Att
/-- the promise of a def where it is called under nothing but the caller -/
structure TopOk (P : Program) (w : World) (K : PySem.W.Frag) (mg : Str → Option Value) (base : Heap) (f : Addr) (fd : FuncData) (ps : List Str) (sp : Sp) : Prop where
  go : ∀ (s : Shared) (H : Hp) (ar : Args) (us : List Value) (vs : List V) (Q : VK), Env0 P w K mg base callerA [] s H → BindsTo s fd ar (ps.zip us) → Vals vs us → vs.length = ps.length → sp vs H Q E0 →
    codeAny (model P w) callerA (.call (.ref f) ar) (CR CX0 [] P w H s Q E0) s
section
variable {P : Program} {w : World} {K : PySem.W.Frag} {mg : Str → Option Value} {base : Heap}
theorem top_of {k : Nat} {x q : Str} {st : Stmt} {f : Addr} {fd : FuncData} {N ps : List Str} {sp : Sp} (F : Fun K x q st f fd) (S : FnScope N ps (defScope st)) (hr : Room (k + 1) callerA)
    (walk : ∀ (cdv : Value) (s : Shared) (H : Hp) (vs : List V) (Q : VK), Room k (callerA.deeper (envOfC q (defScope st) s.heap.objs.size f cdv)) → sp vs H Q E0 →
      ∃ t, PSs (cxOf CX0 P w K mg base N q (defScope st) f cdv callerA [] s H E0).nox (defBody st) t ∧ t { nx := fun _ H' => Q .non H', rt := Q } (start N vs) H) : TopOk P w K mg base f fd ps sp := by
  obtain ⟨oc, od, kV, doc, pm, an, cdv, ct, osl, rfl, found, coded⟩ := F.ex
  constructor
  intro s H ar us vs Q env bound rel many told
  have inK : K.In s.heap := env.mod.kin.keeps fun b o z => (env.bs b o z).1
  have free : s.heap.NoLimit := env.mod.nolimit.keeps fun b o z => (env.bs b o z).1
  have kinds : ∀ y ∈ ps.zip us, (defScope st).names.lookup y.1 = some .local ∨ ((defScope st).names.lookup y.1 = some .cell ∧ ((cellsFrom (s.heap.objs.size + 1) (defScope st).names []).lookup y.1).isSome = true) := by
    rintro ⟨n, v⟩ hy
    rcases S.par n (List.of_mem_zip hy).1 with z | z
    · exact Or.inl z
    · exact Or.inr ⟨z, PySem.W.cellsFrom_some _ _ _ (Or.inl z)⟩
  refine codeAny_call_function hr.depth (inK _ _ found) rfl S.co S.gen rfl (PySem.W.codeRec_of inK coded) (bound _ _ _ _ (wpAny_newFunctionEnv_cells S.kind kinds fun e he s1 laid => ?_))
  subst he
  refine ⟨free.keeps laid.toInCall.keep, codeAny_func ?_⟩
  obtain ⟨t, term, read⟩ := walk cdv s H vs Q (hr.deeper _) told
  have inv : Inv (cxOf CX0 P w K mg base N q (defScope st) f cdv callerA [] s H E0) [] (start N vs) H s1 := inv_start S hr.hd env many rel laid
  refine wpAny_mono (term.nox.run [] s1 (start N vs) H _ inv read) ?_ fun e s' z => z
  have ends : ∀ {σ' : L2.St} {H' : Hp} {v : V} {u : Value} {s' : Shared}, Inv (cxOf CX0 P w K mg base N q (defScope st) f cdv callerA [] s H E0) [] σ' H' s' → RelV v u → Q v H' → CE [] P w H s Q u s' := by
    intro σ' H' v u s' J rv z
    exact ⟨v, H', J.os, J.bare, J.base, J.hok, rv, z⟩
  intro fl s' z
  cases fl with
  | ret u =>
    obtain ⟨v, σ', H', J, rv, z⟩ := z
    exact ends J rv z
  | next =>
    obtain ⟨σ', H', J, z⟩ := z
    exact ends (v := V.non) (u := Value.none) J rfl z
  | brk => exact absurd z fun ⟨_, _, _, y⟩ => y
  | cont => exact absurd z fun ⟨_, _, _, y⟩ => y
end
end Grd

namespace Grd
open PySem PySem.Spec PySem.W PyProof.Rows L2 Att
/-- the list that is handed in -/
def given (vs : List Value) : Obj := { cls := .type "list", data := .seq vs.toArray }
/-- only that list is tracked, and not if the module holds it -/
def just (K : Frag) (a : Addr) (vs : List Value) (ns : List Int) : Hp := fun b => if b = a ∧ K.lookup a = none then some (.frz (given vs) (.lst (ns.map V.int))) else none
section
variable {P : Program} {w : World} {K : Frag} {mg mb : Str → Option Value} {fa a : Addr} {fd : FuncData} {x : Str} {sp : Sp} {s : Shared} {vs : List Value} {ns : List Int}
theorem just_some {b : Addr} {o : HO} (h : just K a vs ns b = some o) : b = a ∧ K.lookup a = none ∧ o = .frz (given vs) (.lst (ns.map V.int)) := by
  unfold just at h
  split at h
  · rename_i c
    exact ⟨c.1, c.2, (Option.some.inj h).symm⟩
  · cases h
theorem just_none {b : Addr} (h : b ≠ a ∨ K.lookup a ≠ none) : just K a vs ns b = none := by
  refine if_neg fun c => ?_
  rcases h with h | h
  · exact h c.1
  · exact h c.2
theorem law_g (KX : K.In s.heap) (hns : s.heap.Ns mainGlobals mg) (hb : s.heap.Ns builtinsNs mb) (hbb : ∀ y : Str, y ≠ "__name__" → mb y = bootBuiltins y) (hlim : s.heap.NoLimit) (hg : s.gens = #[])
    (ha : s.heap.get? a = some (given vs)) (hi : IntsAre vs ns) (hl : ns.length ≤ sizeLine) (F : ∀ base : Heap, K.In base → base.Ns mainGlobals mg → TopOk P w K mg base fa fd [x] sp)
    (bound : ∀ (s : Shared) (u : Value), BindsTo s fd ⟨[u], []⟩ [(x, u)]) (told : ∀ H : Hp, SqL K H a (ns.map V.int) → sp [.ref a] H (fun v _ => v = .bl true) E0) :
    codeAny (model P w) callerA (.call (.ref fa) ⟨[.ref a], []⟩) (fun r s' => r = .ok (.ret (.bool true)) ∧ OldK s.heap s'.heap ∧ s'.os = s.os ∧ AllBare s'.gens) s := by
  have rel := vals_ints hi
  generalize eH : just K a vs ns = H
  have some_ : ∀ {b : Addr} {o : HO}, H b = some o → b = a ∧ K.lookup a = none ∧ o = .frz (given vs) (.lst (ns.map V.int)) := fun {b o} z => just_some (eH ▸ z)
  have gone : ∀ {b : Addr}, b ≠ a ∨ K.lookup a ≠ none → H b = none := fun {b} z => eH ▸ just_none z
  have plain : ∀ {b : Addr} {m : Str → Option Value}, s.heap.Ns b m → (hidT s.heap H).Ns b m := by
    rintro b m ⟨o, es, ep, e, d, r⟩
    refine ⟨o, es, ep, hidT_get e (gone (.inl fun z => ?_)), d, r⟩
    rw [z, ha] at e
    cases e
    cases d
  have kept : K.In (hidT s.heap H) := fun b o e => hidT_get (KX b o e) (gone (by
    by_cases z : b = a
    · exact .inr (by rw [← z, e]; exact fun y => nomatch y)
    · exact .inl z))
  have sound : HOk P w H s.heap := by
    intro b u z
    obtain ⟨rfl, _, rfl⟩ := some_ z
    exact ⟨ha, by rw [List.length_map]; exact hl, vs, _, rel, ha⟩
  have seen : SqL K H a (ns.map V.int) := by
    cases hk : K.lookup a with
    | some o =>
      have e := KX a o hk
      rw [ha] at e
      cases e
      exact .inr ⟨_, vs.toArray, _, hk, rfl, rfl, rfl, by rw [List.size_toArray, hi.length]; exact hl, by simpa using rel⟩
    | none =>
      refine .inl (.inr ⟨given vs, ?_⟩)
      rw [← eH]
      exact if_pos ⟨rfl, hk⟩
  have mod : Mod K mg (hidT s.heap H) := ⟨kept, plain hns, ⟨mb, plain hb, hbb⟩, hlim.elim fun mc y => ⟨mc, plain y.1, y.2⟩⟩
  have env : Env0 P w K mg (hidT s.heap H) callerA [] s H :=
    { frames := rfl, mod := mod, bs := fun b o e => of_hidT e, bsz := Nat.le_of_eq (hidT_size _ _), funs := trivial, frf := fun b y => (by cases (show b ∈ ([] : List Addr) from y)), hok := sound, bare := .of_eq hg }
  refine codeAny_mono ((F _ kept (plain hns)).go s H ⟨[.ref a], []⟩ [.ref a] [.ref a] _ env (bound s (.ref a)) (.cons rfl .nil) rfl (told H seen)) fun r s' z => ?_
  match r, z with
  | .error e, z => exact False.elim z
  | .ok .next, z => exact False.elim z
  | .ok .brk, z => exact False.elim z
  | .ok .cont, z => exact False.elim z
  | .ok (.ret u), z =>
    obtain ⟨v, H', os, bare, un, sound', rv, is⟩ := z
    have is' : v = .bl true := is
    subst is'
    obtain rfl : u = Value.bool true := rv
    refine ⟨rfl, OldK.of_keep fun b o e => ?_, os, bare⟩
    cases hH : H b with
    | none => exact un.keep b o e hH (fun y => by cases (show b ∈ ([] : List Addr) from y)) (fun y => by cases y)
    | some u =>
      obtain ⟨rfl, _, rfl⟩ := some_ hH
      have still := (sound' b _ (un.frzs b _ _ hH)).1
      rw [ha] at e
      cases e
      exact still
end
theorem walk_g {l : OpenLaw} {n : Nat} {q : Program} {loose : List Str} {XP : (Str → Option Value) → Heap → Prop} {YP : World → Heap → Prop} {d : DefRec} {K : Params → Frag} {sp : World → Sp} {x : Str} (hn : l.most = some n) (hn2 : n ≤ sizeLine)
    (hdf : d.params.defaults = []) (hY : ∀ (w : World) (h : Heap), YP w h → (K w.params).In h)
    (F : ∀ (w : World) (mg : Str → Option Value) (fa : Addr) (h : Heap), (K w.params).In h → h.Ns mainGlobals mg → mg d.name = some (.ref fa) →
      ∃ fd : FuncData, (∀ (s : Shared) (u : Value), BindsTo s fd ⟨[u], []⟩ [(x, u)]) ∧ ∀ base : Heap, (K w.params).In base → base.Ns mainGlobals mg → TopOk l.prog w (K w.params) mg base fa fd [x] (sp w))
    (told : ∀ (w : World) (H : Hp) (a : Addr) (ns : List Int), ns.length ≤ n → SqL (K w.params) H a (ns.map V.int) → sp w [.ref a] H (fun v _ => v = .bl true) E0) :
    WalkO q loose XP YP l.row.toRowW d [] (fun f vs => PySem.call f vs) := by
  refine Att.attach_call hn hdf fun w s₀ s₁ mg mb fa o pm cd doc a vs ns G Y _ _ _ named obj inn few gens => ?_
  obtain ⟨fd, bound, all⟩ := F w mg fa _ (hY w _ Y) G.T.g named
  exact law_g (hY w _ Y) G.T.g G.T.b G.T.builtins G.T.nolimit gens obj inn (Nat.le_trans few hn2) all bound fun H z => told w H a ns few z
end Grd

namespace Grd
open PySem PySem.Spec PySem.W PyProof.Rows L2
/-- repr of nested lists and tuples of numbers, truths, texts, None -/
theorem call_repr_data {X : Cx} (hg : X.A.guards = some []) (hu : X.A.units + 70 < cLine) : CallR X (.builtin "repr") (fun xs H Q => ∃ (a : Addr) (d : PyData), xs = [.ref a] ∧ Dp X.K H (.ref a) d ∧ d.showable = true ∧ d.hasDict = false ∧ d.depth ≤ 60 ∧ d.shown.length ≤ sizeLine ∧ Q (.str d.shown) H) := by
  intro pins s σ H xs us Q I r h
  obtain ⟨a, d, rfl, hd, hs, hn, hp, hz, q⟩ := h
  cases r with
  | cons r1 r2 =>
    cases r2
    obtain ⟨as, rd⟩ := Dp.reads I d _ _ hd r1
    cases r1
    exact repr_of_reads' rd hs (fun e => by rw [hn] at e; cases e) hg (by omega) (fun _ _ e => e) (fun h' u tk hk => ⟨.str _, H, I.kept (t' := tk) hk, ⟨u, rfl⟩, q⟩) hz
end Grd

/-! The law's own look at locks. -/
namespace Lk
open PySem PySem.Spec PyProof.Rows L2 Drw
theorem _root_.Drw.Al.refl {H : Hp} : Al H H := fun _ _ e => e
theorem _root_.Drw.Al.new {H H' : Hp} {p : Addr} {o : HO} (k : Al H H') (h : H' p = none) : Al H (upd H' p o) := fun b u e => by
  have z := k b u e
  rw [upd_ne (ne_of_none z h)]
  exact z
theorem _root_.Drw.Al.trans {H H' H'' : Hp} (k : Al H H') (k' : Al H' H'') : Al H H'' := fun b o e => k' b o (k b o e)
theorem _root_.Drw.Al.gone {H H' : Hp} {p : Addr} (k : Al H H') (h : H' p = none) : H p = none := by
  cases e : H p with
  | none => rfl
  | some o =>
    rw [k p o e] at h
    cases h
def inW (w : Str) (l : List Str) : Bool := inV (.str w) (l.map V.str)
/-- whether a step is refused -/
def refB (w : Str) (o : Bool) (lock top : Int) : Bool :=
  if inW w ["read", "start"] then decide (lock = 0) && decide (top > 2)
  else if decide (w = "write") && o then decide (lock < 2) && decide (top > 1)
  else if w = "immediate" then decide (top > 1)
  else if w = "commit" then decide (lock > 1) && decide (top > 0)
  else inW w ["write", "exclusive"] && decide (top > 0)
theorem eq_str {a b : Str} : decide (V.str a = V.str b) = decide (a = b) := decide_eq_decide.mpr ⟨fun z => V.str.inj z, fun z => by rw [z]⟩
theorem eq_int {a b : Int} : decide (V.int a = V.int b) = decide (a = b) := decide_eq_decide.mpr ⟨fun z => V.int.inj z, fun z => by rw [z]⟩
section
variable {P : Program} {w : World} {K : PySem.W.Frag} {mg : Str → Option Value} {base : Heap}
end
end Lk

namespace Lk
open PySem PySem.Spec PyProof.Rows L2 Drw
def opnB (w : Str) (o : Bool) : Bool := !inW w ["commit", "rollback"] && (o || inW w ["begin", "immediate", "exclusive"])
def rdsB (w : Str) (r : Bool) : Bool := !decide (w = "stop") && (r || decide (w = "start"))
def least : List (Key × V) := [(.inr "read", .int 1), (.inr "start", .int 1), (.inr "write", .int 2), (.inr "immediate", .int 2), (.inr "exclusive", .int 4)]
def leastI (w : Str) : Int := if w = "read" ∨ w = "start" then 1 else if w = "write" ∨ w = "immediate" then 2 else if w = "exclusive" then 4 else 0
def lockB (w : Str) (o r : Bool) (lock : Int) : Int := if opnB w o = true then (if leastI w > lock then leastI w else lock) else (if rdsB w r = true then 1 else 0)
theorem key_ne {a w : Str} (h : ¬ w = a) : ¬ (Sum.inr a : Key) = Sum.inr w := fun z => h (Sum.inr.inj z).symm
section
variable {P : Program} {w : World} {K : PySem.W.Frag} {mg : Str → Option Value} {base : Heap}
end
end Lk

namespace Lk
open PySem PySem.Spec PyProof.Rows L2 Drw
/-- a tuple of tuples -/
def Kids (H : Hp) (p : Addr) (ks : List (List V)) : Prop := ∃ xs : List V, H p = some (.tup xs) ∧ xs.length = ks.length ∧ ∀ (i : Nat) (k : List V), ks[i]? = some k → ∃ a, xs[i]? = some (.ref a) ∧ H a = some (.tup k)
theorem Kids.al {H H' : Hp} {p : Addr} {ks : List (List V)} (h : Kids H p ks) (k : Al H H') : Kids H' p ks := by
  obtain ⟨xs, h1, h2, h3⟩ := h
  refine ⟨xs, k _ _ h1, h2, fun i c e => ?_⟩
  obtain ⟨a, e1, e2⟩ := h3 i c e
  exact ⟨a, e1, k _ _ e2⟩
def row0 : List V := [.int 0, .bl false, .bl false, .int 0]
theorem scBegun : FnScope ["_law_scripts_here", "_law_one_here"] ["_law_scripts_here"] (defScope sBegun) := ⟨rfl, rfl, rfl, by decide +kernel, rfl, by decide +kernel, by decide +kernel⟩
def spBegun : Sp := fun vs H Q _ => ∃ (p : Addr) (ks : List (List V)), vs = [.ref p] ∧ Kids H p ks ∧ ks.length ≤ 1000 ∧ ∀ H' t, Al H H' → H t = none → Kids H' t (List.replicate ks.length row0) → Q (.ref t) H'
section
variable {P : Program} {w : World} {K : PySem.W.Frag} {mg : Str → Option Value} {base : Heap}
theorem ok_begun {f : Addr} {fd : FuncData} (F : Fun K "_law_begun" "_law_begun" sBegun f fd) (mt : mg "tuple" = none) : FnOk P w K mg base CX0 1 f fd ["_law_scripts_here"] spBegun := by
  refine F.ok scBegun (fun vs H Q E h => ?_) (fun cdv A outer s H vs Q E hr h => ?_)
  · obtain ⟨p, ks, rfl, _⟩ := h
    rfl
  · obtain ⟨p, ks, rfl, ⟨xs, hp, hlen, hks⟩, h1000, q⟩ := h
    refine ⟨_, pss_one (ps_ret (pe_callTy call_tuple_of (by rfl) mt (by decide +kernel) (pa_cons (pe_lc (own := [("_law_one_here", 1)]) (g := gName 1) (tt := tYes) rfl scBegun.nd (pi_tup (pv 0))
      (blkOk_by (N := ["_law_scripts_here", "_law_one_here"]) (sc := defScope sBegun) (by decide +kernel)) (fun _ _ _ _ _ => pg_name (i := 1) scBegun.nd rfl (Or.inl rfl)) (fun _ _ _ _ _ => pts_nil)
      (fun _ _ _ _ _ => pe_tup (pa_cons pe_int (pa_cons pe_bl (pa_cons pe_bl (pa_cons pe_int pa_nil)))))) pa_nil))), ?_⟩
    refine ⟨.ref p, rfl, p, rfl, ⟨xs, sqt hp⟩, fun D nD => ?_⟩
    have pD : p ≠ D := ne_of_none hp nD
    refine lc_tup (K := K) (a := p) (xs := xs) (fun i H' => (∀ b o, b ≠ D → H b = some o → H' b = some o) ∧ ∃ ys : List V, H' D = some (.lst ys) ∧ ys.length = i ∧ ∀ j, j < i → ∃ a, ys[j]? = some (.ref a) ∧ H' a = some (.tup row0))
      ⟨fun b o n e => (upd_ne n).trans e, [], upd_same, rfl, fun j h => by omega⟩ (fun i H' hi hP => ?_) (fun i x H' hx hP => ?_) (fun H' hP => ?_)
    · obtain ⟨k, _⟩ := hP
      exact sqt (k p _ pD hp)
    · obtain ⟨k, ys, hy, hl, hr⟩ := hP
      refine ⟨rfl, by show 4 ≤ sizeLine; decide, fun t nt => ?_⟩
      have Dt : D ≠ t := ne_of_none hy nt
      refine ⟨ys, (upd_ne Dt).trans hy, by rw [hl]; exact small1000 (by have := (List.getElem?_eq_some_iff.mp hx).1; omega), fun b o n e => ?_, ys ++ [.ref t], upd_same, by simp [hl], fun j hj => ?_⟩
      · have z := k b o n e
        rw [upd_ne n, upd_ne (ne_of_none z nt)]
        exact z
      · rcases Nat.lt_or_ge j i with h | h
        · obtain ⟨a, e1, e2⟩ := hr j h
          have aD : a ≠ D := fun z => by
            rw [z, hy] at e2
            cases e2
          refine ⟨a, by rw [List.getElem?_append_left (by omega)]; exact e1, ?_⟩
          rw [upd_ne aD, upd_ne (ne_of_none e2 nt)]
          exact e2
        · have : j = i := by omega
          subst this
          refine ⟨t, by rw [List.getElem?_append_right (by omega), hl, Nat.sub_self]; rfl, ?_⟩
          rw [upd_ne Dt.symm, upd_same]
          rfl
    · obtain ⟨k, ys, hy, hl, hr⟩ := hP
      refine ⟨D, ys, rfl, .inl ⟨sq hy, fun t nt => ?_⟩⟩
      have kA : Al H H' := fun b o e => k b o (ne_of_none e nD) e
      refine q _ t (kA.new nt) (kA.gone nt) ⟨ys, upd_same, by rw [hl, List.length_replicate, hlen], fun i c e => ?_⟩
      obtain ⟨h1, h2⟩ := List.getElem?_eq_some_iff.mp e
      rw [List.getElem_replicate] at h2
      rw [List.length_replicate] at h1
      obtain ⟨a, e1, e2⟩ := hr i (by omega)
      refine ⟨a, e1, ?_⟩
      rw [upd_ne (ne_of_none e2 nt), e2, h2]
end
end Lk

namespace Lk
open PySem PySem.Spec PyProof.Rows L2 Drw
/-- a row of a state: its place comes first -/
structure Row where
  pl : Nat
  op : Bool
  rd : Bool
  lk : Int
def rowV (r : Row) : List V := [.int r.pl, .bl r.op, .bl r.rd, .int r.lk]
def wordsV (ws : List Str) : List V := ws.map V.str
theorem Kids.at {H : Hp} {p : Addr} {ks : List (List V)} (h : Kids H p ks) {i : Nat} {k : List V} (e : ks[i]? = some k) : ∃ xs a, H p = some (.tup xs) ∧ xs[i]? = some (.ref a) ∧ H a = some (.tup k) := by
  obtain ⟨xs, h1, _, h3⟩ := h
  obtain ⟨a, e1, e2⟩ := h3 i k e
  exact ⟨xs, a, h1, e1, e2⟩
/-- whether script i has a step left -/
def leftB (ss : List (List Str)) (rows : List Row) (i : Nat) : Bool := decide (((rows[i]?.map (·.pl)).getD 0) < ((ss[i]?.map (·.length)).getD 0))
def leftL (ss : List (List Str)) (rows : List Row) (n : Nat) : List Nat := (List.range n).filter (leftB ss rows)
section
variable {P : Program} {w : World} {K : PySem.W.Frag} {mg : Str → Option Value} {base : Heap}
end
end Lk

namespace Lk
open PySem PySem.Spec PyProof.Rows L2 Drw
theorem cat_any {K : PySem.W.Frag} {H : Hp} {a b : Addr} {xs ys : List V} {Q : VK} (ha : H a = some (.tup xs)) (hb : H b = some (.tup ys)) (hz : xs.length + ys.length ≤ sizeLine) (q : ∀ H' t, Al H H' → H' t = some (.tup (xs ++ ys)) → Q (.ref t) H') : rCatA K (.ref a) (.ref b) H Q := by
  refine ⟨a, b, xs, ys, rfl, rfl, sqt ha, sqt hb, hz, fun e => ?_, fun _ e => ?_, fun _ _ p np => q _ p (Al.refl.new np) upd_same⟩
  · subst e
    exact q H b Al.refl hb
  · subst e
    exact q H a Al.refl (by rw [List.append_nil]; exact ha)
theorem sl_any {K : PySem.W.Frag} {H : Hp} {a : Addr} {xs : List V} {lo hi : Option Int} {Q : VK} (ha : H a = some (.tup xs)) (q : ∀ H' t, Al H H' → H' t = some (.tup (cutV xs lo hi)) → Q (.ref t) H') : rSlA K (.ref a) lo hi H Q := by
  refine ⟨a, xs, rfl, sqt ha, fun e => ?_, fun _ p np => q _ p (Al.refl.new np) upd_same⟩
  refine q H a Al.refl ?_
  unfold cutV
  rw [e.1, e.2, List.drop_zero, Nat.sub_zero, List.take_length]
  exact ha
theorem cut_take (xs : List V) (a : Nat) : cutV xs none (some (a : Int)) = xs.take a := by
  unfold cutV
  rw [HT.sIx_none, HT.sIx_nat, List.drop_zero, Nat.sub_zero]
  rcases Nat.le_total a xs.length with h | h
  · rw [Nat.min_eq_left h]
  · rw [Nat.min_eq_right h, List.take_length, List.take_of_length_le h]
theorem cut_drop (xs : List V) (a : Nat) : cutV xs (some (a : Int)) none = xs.drop a := by
  unfold cutV
  rw [HT.sIx_none, HT.sIx_nat]
  rcases Nat.le_total a xs.length with h | h
  · rw [Nat.min_eq_left h, List.take_of_length_le]
    rw [List.length_drop]
    exact Nat.le_refl _
  · rw [Nat.min_eq_right h, Nat.sub_self, List.take_zero, List.drop_eq_nil_of_le h]
/-- a row put in a tuple of rows -/
theorem kids_set {H : Hp} {t u : Addr} {xs : List V} {ks : List (List V)} {a : Nat} {k : List V} (hx : xs.length = ks.length) (hk : ∀ (i : Nat) (k : List V), ks[i]? = some k → ∃ a, xs[i]? = some (.ref a) ∧ H a = some (.tup k)) (ha : a < ks.length)
    (ht : H t = some (.tup (xs.take a ++ [.ref u] ++ xs.drop (a + 1)))) (hu : H u = some (.tup k)) : Kids H t (ks.set a k) := by
  have e : xs.take a ++ [.ref u] ++ xs.drop (a + 1) = xs.set a (.ref u) := by
    rw [List.set_eq_take_append_cons_drop, if_pos (by omega), List.append_assoc]
    rfl
  refine ⟨_, ht, by rw [e, List.length_set, List.length_set, hx], fun i c hc => ?_⟩
  rw [e]
  rw [List.getElem?_set] at hc ⊢
  by_cases h : a = i
  · subst h
    rw [if_pos rfl, if_pos (by omega)] at hc ⊢
    exact ⟨u, rfl, by rw [hu]; exact congrArg _ (congrArg _ (Option.some.inj hc))⟩
  · rw [if_neg h] at hc ⊢
    exact hk i c hc
/-- m is the greatest lock of the others -/
def IsTop (rows : List Row) (at' : Nat) (m : Int) : Prop := (m = 0 ∨ ∃ k r, rows[k]? = some r ∧ k ≠ at' ∧ m = r.lk) ∧ 0 ≤ m ∧ ∀ k r, rows[k]? = some r → k ≠ at' → r.lk ≤ m
/-- the row behind a try, and whether it was refused -/
def nextRow (w : Str) (r : Row) (m : Int) : Row × Bool :=
  if refB w r.op r.lk m = true then (⟨r.pl, r.op, r.rd, if w = "commit" then (if 3 > r.lk then 3 else r.lk) else r.lk⟩, true)
  else (⟨r.pl + 1, opnB w r.op, rdsB w r.rd, lockB w r.op r.rd r.lk⟩, false)
section
variable {P : Program} {w : World} {K : PySem.W.Frag} {mg : Str → Option Value} {base : Heap}
end
end Lk

namespace Lk
open PySem PySem.Spec PyProof.Rows L2 Drw
/-- what is the number of none of so many scripts -/
inductive OddAt (H : Hp) (many : Int) : V → Prop
  | int (i : Int) (h : i < 0 ∨ many ≤ i) : OddAt H many (.int i)
  | non : OddAt H many .non
  | bl (b : Bool) : OddAt H many (.bl b)
  | str (s : Str) : OddAt H many (.str s)
  | tup {a : Addr} (h : H a = some (.tup [.int 0])) : OddAt H many (.ref a)
  | lst {a : Addr} (h : H a = some (.lst [.int 0])) : OddAt H many (.ref a)
  | dct {a : Addr} (h : H a = some (.dK [])) : OddAt H many (.ref a)
  | emp {a : Addr} (h : H a = some (.tup [])) : OddAt H many (.ref a)
theorem _root_.Drw.Stt.up {H H' : Hp} {l c : Addr} {ns : List Int} (h : Stt H l c ns) (k : Al H H') : Stt H' l c ns := by
  obtain ⟨⟨a, b, d, e⟩, f, g, i⟩ := h
  exact ⟨⟨a, b, d, k _ _ e⟩, k _ _ f, g, i⟩
section
variable {P : Program} {w : World} {K : PySem.W.Frag} {mg : Str → Option Value} {base : Heap}
end
end Lk

/-! Errors whose __init__ stores one field, or hands it on by super().__init__: made, at the level of the machine. -/
namespace Err
open PySem PySem.W PySem.Calls PyProof.Rows
abbrev exB : List Value := [.type "Exception", .type "BaseException", .type "object"]
abbrev fld : Str := PySem.Str.ofString "sqlite_errorname"
abbrev exc0 (C t : Addr) : Obj := { cls := .ref C, data := .fields #[.ref t, .none, .none, .none, .bool false, .none] }
/-- a fresh error at x has got its dict, at dx, with the one field -/
structure Laid (h h' : Heap) (x C dx t1 : Addr) (v : Value) : Prop where
  old : ∀ b o, b ≠ x → h.get? b = some o → h'.get? b = some o
  here : h'.get? x = some { cls := .ref C, dict := some dx, data := .fields #[.ref t1, .none, .none, .none, .bool false, .none] }
  big : h.objs.size ≤ dx
  off : dx ≠ x
  cell : h'.Ns1 dx (fun y => if y = fld then some v else none)
theorem Laid.up {h g h' : Heap} {x C dx t1 : Addr} {v : Value} (k : ∀ b o, h.get? b = some o → g.get? b = some o) (z : h.objs.size ≤ g.objs.size) (l : Laid g h' x C dx t1 v) : Laid h h' x C dx t1 v :=
  ⟨fun b o n e => l.old b o n (k b o e), l.here, Nat.le_trans z l.big, l.off, l.cell⟩
/-- what stands of the machine while errors are made -/
structure Stands (K : Frag) (h : Heap) : Prop where
  kin : K.In h
  lim : h.NoLimit
  top : ∃ mg mb, h.Ns mainGlobals mg ∧ mg "super" = none ∧ h.Ns builtinsNs mb ∧ mb "super" = some (.type "super")
theorem Stands.up {K : Frag} {h g : Heap} (S : Stands K h) (k : ∀ b o, h.get? b = some o → g.get? b = some o) : Stands K g := by
  obtain ⟨x, l, mg, mb, a, b, c, d⟩ := S
  exact ⟨x.keeps k, l.keeps k, mg, mb, a.keeps k, b, c.keeps k, d⟩
def InitOk (prog : Program) (w : World) (K : Frag) (C f : Addr) (fd : FuncData) (n : Nat) : Prop :=
  ∀ (A : Around) (R : Result → Shared → Prop) (s : Shared) (args : Args) (x t0 : Addr) (v : Value), Stands K s.heap → s.heap.get? x = some (exc0 C t0) → A.depth + n < recursionLimit →
    BindsTo s fd args [(PySem.Str.ofString "self", .ref x), (fld, v)] → (∀ h' tk dx, Laid s.heap h' x C dx t0 v → R (.ok (.ret .none)) { s with heap := h', toks := tk }) →
    codeAny (model prog w) A (.call (.ref f) args) R s
/-- what the class says, for a store to its fresh instance -/
structure Cl (K : Frag) (C : Addr) : Prop where
  cls : excInitIn K C exB "Exception.__new__" = true
  over : excOver K C exB = true
  tk : takerIn K C fld = some none
  hd : hasDictIn K C = true
  sa : findIn K (.ref C) "__setattr__" = some (some (.builtin "object.__setattr__"))
section
variable {prog : Program} {w : World} {A : Around} {E : Value → Shared → Prop} {R : Result → Shared → Prop} {K : Frag} {C f : Addr}
theorem store_first {hp : Heap} {g : Array GenState} {d : Drawn} {t : Nat} {os : OsState} {x t0 : Addr} {v : Value} {tk : Tok} (T : Cl K C) (X : K.In hp) (hx : hp.get? x = some (exc0 C t0))
    (hq : ∀ h' tk' dx, Laid hp h' x C dx t0 v → R (.ok (.ret .none)) ⟨h', g, d, tk', os⟩) :
    codeAny (model prog w) A (.call (.builtin "object.__setattr__") ⟨[.ref x, .str fld tk, v], []⟩) R ⟨hp, g, d, t, os⟩ := by
  have hxs : x ≠ hp.objs.size := Nat.ne_of_lt (Heap.lt_size hx)
  refine osa_openX (od := none) F.store_Exception X ⟨hx, rfl, rfl, trivial⟩ T.over T.tk fun b => ?_
  obtain ⟨cd, hc, hd'⟩ := any_some T.hd
  refine wpAny_bind (wpAny_pure (wpAny_bind (instanceDict_exc hx (looks_clsIn X hc) hd' ?_)))
  refine PySem.PX.store_in_new ?_ ?_
  · exact ⟨_, #[], _, (Heap.get?_update_ne _ _ _ _ hxs.symm).trans (Heap.get?_push_at rfl rfl), rfl, fun e he => absurd he (by simp), fun _ => rfl⟩
  · intro h' tk' hn sb
    have hx1 : (hp.push (dictOf [] 0)).get? x = some (exc0 C t0) := Heap.get?_push_of_some _ hx
    refine hq h' tk' hp.objs.size ⟨fun b o hb ho => ?_, ?_, Nat.le_refl _, hxs.symm, hn⟩
    · exact (sb.2 b (Nat.ne_of_lt (Heap.lt_size ho))).trans ((Heap.get?_update_ne _ _ _ _ hb).trans (Heap.get?_push_of_some _ ho))
    · exact (sb.2 x hxs).trans (Heap.get?_update_self _ hx1 rfl)
end
end Err

namespace Err
open PySem PySem.W PySem.Calls PyProof.Rows
abbrev me : Str := PySem.Str.ofString "self"
def iA (p1 p2 pd : Pos) : Arguments := { posonlyargs := [], args := [{ arg := me, annotation := none, pos := p1 }, { arg := fld, annotation := none, pos := p2 }], vararg := none, kwonlyargs := [], kw_defaults := [], kwarg := none, defaults := [.Constant .none 0 pd] }
def iB (q1 q2 q3 q4 : Pos) : List Stmt := [.Assign [.Attribute (.Name me q1) fld q2] (.Name fld q3) q4]
def iS : Scope := { kind := .function, names := [(me, .local), (fld, .local)], isGenerator := false, isCoroutine := false, more := [] }
def jB (q1 q2 q3 q4 q5 q6 : Pos) : List Stmt := [.Expr (.Call (.Attribute (.Call (.Name "super" q1) [] [] q2) "__init__" q3) [.Name fld q4] [] q5) q6]
def jS : Scope := { kind := .function, names := [(me, .local), (fld, .local), ("__class__", .free), ("super", .globalImplicit)], isGenerator := false, isCoroutine := false, more := [] }
section
variable {prog : Program} {w : World} {K : Frag} {C f : Addr}
theorem ld {M : Model} {A : Around} {E : Value → Shared → Prop} {s : Shared} {env : Env} {m : Str → Option Value} {x : Str} {pos : Pos} {v : Value} {Q : Value → Shared → Prop} (hn : s.heap.Ns env.locals m) (hv : m x = some v) (h : Q v s)
    (hk : env.scope.kind = .function := by rfl) (hl : env.kindOf x = some .local := by rfl) (hd : (x == ("__debug__" : Str)) = false := by decide) : wpAny M A (eval (.Name x pos) env) Q E s :=
  wpAny_Name (wpAny_loadName_local hk hl hn hv h) hd
theorem init_first {qual : Str} {dV kV doc pm cdv ct oc : Value} {od an : Option Addr} {osl : Array (Option Value)} {p1 p2 pd q1 q2 q3 q4 : Pos} (T : Cl K C)
    (ho : K.lookup f = some ⟨oc, od, .func (fnOf "__init__" qual (iA p1 p2 pd) (iB q1 q2 q3 q4) iS dV kV doc pm an cdv ct), osl⟩) (hcd : codeIn K cdv qual = true) :
    InitOk prog w K C f (fnOf "__init__" qual (iA p1 p2 pd) (iB q1 q2 q3 q4) iS dV kV doc pm an cdv ct) 1 := by
  intro A R s args x t0 v S hx hroom hb hq
  refine Att.call_fn (binds := [(me, .ref x), (fld, v)]) S.kin S.lim ho hcd (by omega) hb (by first | rfl | decide) (fun s₁ IC => ?_) rfl rfl rfl
  obtain ⟨h₁, tk₁, rfl⟩ := IC.toInCall.same
  have k : ∀ b o, s.heap.get? b = some o → h₁.get? b = some o := IC.toInCall.keep
  have hn := IC.toInCall.ns
  have z : s.heap.objs.size < h₁.objs.size := hn.lt
  have S1 := S.up k
  refine wpAny_execs_cons (plainObj_wpAny_Assign_Attribute ?_)
  refine ld (v := v) hn (by first | rfl | with_unfolding_all rfl | kernel_rfl) (ld (v := .ref x) hn (by first | rfl | with_unfolding_all rfl | kernel_rfl) ?_)
  refine set_plain S1.kin (ox := exc0 C t0) (od := none) ⟨k _ _ hx, rfl, rfl, trivial⟩ T.sa ?_
  refine store_first T S1.kin (k _ _ hx) fun h' tk' dx L => ?_
  exact wpAny_execs_nil (hq h' tk' dx (L.up k (Nat.le_of_lt z)))
theorem init_next {qual : Str} {dV kV doc pm ct oc ccl cl : Value} {od an cdd cld : Option Addr} {osl ccs csl : Array (Option Value)} {p1 p2 pd q1 q2 q3 q4 q5 q6 : Pos} {cda cc D f2 : Addr} {vs : Array Value} {file : Str} {tf : Tok} {cdD : ClassData} {fd2 : FuncData} {n : Nat}
    (ho : K.lookup f = some ⟨oc, od, .func (ksFn "__init__" qual (iA p1 p2 pd) (jB q1 q2 q3 q4 q5 q6) jS dV kV doc pm an (.ref cda) ct cc), osl⟩) (hcd : codeIn K (.ref cda) qual = true)
    (hcode : K.lookup cda = some ⟨ccl, cdd, .fields vs, ccs⟩) (hvs : vs[2]? = some (.str file tf)) (hfile : ((prog.main.file : Str) == file) = true) (htop : (prog.main.scope.names.lookup ("super" : Str)).isSome = false)
    (hcell : K.lookup cc = some ⟨cl, cld, .cell (some (.ref D)), csl⟩) (hD : clsIn K D = some cdD) (hsub : mroIn K C (.ref D) = some true) (hop : nsIn K cStatics "thirdparty.any" = some none)
    (hm : ks_superIn K C D "__init__" = some (some (.ref f2))) (hf2 : fnIn K f2 = true) (ht2 : typeIn K (.ref f2) = some (.type "function"))
    {pl : Sem Bool} (hE : ∀ env : Env, eval (.Call (.Attribute (.Call (.Name "super" q1) [] [] q2) "__init__" q3) [.Name fld q4] [] q5) env = (do
      let ov ← attributeBase (.Call (.Name "super" q1) [] [] q2) "__init__" env (eval (.Call (.Name "super" q1) [] [] q2) env)
      standAt q3.atName
      let (g, first) ← holding [ov] (getMethod ov "__init__" pl)
      callWith q5 g first (backTo q5 (starEach [.Name fld q4] env)) []))
    (b2 : ∀ (s : Shared) (x : Addr) (v : Value), K.In s.heap → BindsTo s fd2 ⟨[.ref x, v], []⟩ [(me, .ref x), (fld, v)]) (G : InitOk prog w K C f2 fd2 n) :
    InitOk prog w K C f (ksFn "__init__" qual (iA p1 p2 pd) (jB q1 q2 q3 q4 q5 q6) jS dV kV doc pm an (.ref cda) ct cc) (n + 1) := by
  intro A R s args x t0 v S hx hroom hb hq
  have X := S.kin
  refine ks_codeAny_call_defAt (fd := ksFn "__init__" qual (iA p1 p2 pd) (jB q1 q2 q3 q4 q5 q6) jS dV kV doc pm an (.ref cda) ct cc) (body := jB q1 q2 q3 q4 q5 q6) (binds := [(me, .ref x), (fld, v)])
    (by omega) (X _ _ ho) rfl S.lim (codeRec_of X hcd) rfl hb
    (show ∀ y ∈ jS.names, y.2 ≠ .cell by decide) (fun y hy => by
      have e : y = (me, .ref x) ∨ y = (fld, v) := by simpa using hy
      rcases e with rfl | rfl <;> rfl) (fun h₀ hns hk => ?_)
  have S0 := S.up hk
  obtain ⟨X0, lim0, mg, mb, g1, g2, g3, g4⟩ := id S0
  have hx0 := hk _ _ hx
  refine ks_wpAt_execs_cons (ks_wpAt_Expr_any (ks_wpAt_MethodCall ?_ (hE _)))
  obtain ⟨oD, hD1, hD2⟩ : ∃ oD, h₀.get? D = some oD ∧ oD.data = .cls cdD := by
    unfold clsIn at hD
    split at hD
    · rename_i c d cd' sl e
      cases hD
      exact ⟨_, X0 _ _ e, rfl⟩
    · cases hD
  refine ks_wpAt_super_base (ar := { arg := me, annotation := none, pos := p1 }) rfl rfl rfl rfl (X0 _ _ ho) rfl rfl rfl (X0 _ _ hcode) rfl hvs hfile htop ?_
  refine ks_loadName_global rfl rfl (loadGlobal_builtin g1 g2 g3 g4 ⟨rfl, ?_⟩)
  refine wpAny_loadName_free rfl rfl rfl ⟨_, X0 _ _ hcell, rfl⟩ ?_
  refine wpAny_loadName_local rfl rfl hns (by first | rfl | with_unfolding_all rfl | kernel_rfl) ?_
  refine ks_wpAny_isType_cls hD1 hD2 ⟨rfl, ?_⟩
  refine ks_wpAny_call_super hD1 hD2 hx0 rfl (fun c e => nomatch e) (looks_mroIn X0 hsub) (fun h1 e1 k1 => ?_)
  have X1 := X0.keeps k1
  cases hc : clsIn K C with
  | none =>
    unfold ks_superIn at hm
    rw [hc] at hm
    cases hm
  | some cd =>
    unfold ks_superIn at hm
    rw [hc] at hm
    obtain ⟨of, hof, hofc⟩ : ∃ of, h1.get? f2 = some of ∧ of.cls = .type "function" := by
      have y : (K.lookup f2).map (·.cls) = some (.type "function") := ht2
      cases z : K.lookup f2 with
      | none =>
        rw [z] at y
        cases y
      | some of =>
        rw [z] at y
        exact ⟨of, X1 _ _ z, Option.some.inj y⟩
    have I1 : InstAt h1 x (exc0 C t0) C none := ⟨k1 _ _ hx0, rfl, rfl, trivial⟩
    refine ks_wpAny_getMethod_super e1 (looks_opaque X1 hop) (l₀ := cd.mro) (fun A Q E s k q => wpAny_bind ((looks_clsIn X1 hc) A _ E s k (wpAny_pure q))) rfl X1 hm hof hofc (ks_ne X1 I1 hc) rfl ?_
    have k2 : ∀ b o, h1.get? b = some o → (h1.push (methodObj (.ref f2) (.ref x))).get? b = some o := fun b o e => Heap.get?_push_of_some _ e
    have hq2 : (h1.push (methodObj (.ref f2) (.ref x))).get? h1.objs.size = some (methodObj (.ref f2) (.ref x)) := Heap.get?_push_at rfl rfl
    have nw : News h1 (h1.objs.size + 1) (h1.push (methodObj (.ref f2) (.ref x))) [(h1.objs.size, methodObj (.ref f2) (.ref x))] := fun p hp => by
      obtain rfl : p = (h1.objs.size, methodObj (.ref f2) (.ref x)) := by simpa using hp
      refine ⟨hq2, Nat.ne_of_lt (Nat.lt_succ_self _), ?_⟩
      cases z : h1.get? h1.objs.size with
      | none => rfl
      | some o => exact absurd (Heap.lt_size z) (Nat.lt_irrefl _)
    refine callWith_M X1 nw List.mem_cons_self hf2 ?_
    have S2 := (S0.up k1).up k2
    refine Calls.spliced_cons (ld (v := v) ((hns.keeps k1).keeps k2) (by first | rfl | with_unfolding_all rfl | kernel_rfl) ?_)
    refine Calls.spliced_nil ⟨⟨hq2, S2.kin⟩, ?_⟩
    refine wpAny_call (ks_codeAny_call_bound hq2 ?_)
    refine G _ _ _ _ x t0 v S2 (k2 _ _ (k1 _ _ hx0)) ?_ (b2 _ x v S2.kin) fun h' tk dx L => ?_
    · show A.depth + 1 + n < recursionLimit
      omega
    · have z0 : s.heap.objs.size < h₀.objs.size := hns.lt
      have z1 : h₀.objs.size < h1.objs.size := Heap.lt_size e1
      have z2 : (h1.push (methodObj (.ref f2) (.ref x))).objs.size = h1.objs.size + 1 := Heap.size_push ..
      have L' : Laid s.heap h' x C dx t0 v := L.up (fun b o e => k2 _ _ (k1 _ _ (hk b o e))) (by
        show s.heap.objs.size ≤ (h1.push (methodObj (.ref f2) (.ref x))).objs.size
        omega)
      exact wpAt_of_wpAny (wpAny_execs_nil (hq h' tk dx L'))
end
end Err

namespace Err
open PySem PySem.W PySem.Calls PyProof.Rows PySem.Spec L2
theorem InitOk.mono {prog : Program} {w : World} {K : Frag} {C f : Addr} {fd : FuncData} {n m : Nat} (G : InitOk prog w K C f fd n) (h : n ≤ m) : InitOk prog w K C f fd m :=
  fun A R s args x t0 v S hx hr hb hq => G A R s args x t0 v S hx (by omega) hb hq
/-- what the written part says of one of the classes of errors -/
structure EC (P : Program) (w : World) (K : Frag) (mg : Str → Option Value) (nm : Str) (C : Addr) : Prop where
  g : mg nm = some (.ref C)
  kC : keepIn K (.ref C) = true
  cl : Cl K C
  ini : ∃ fI fd, findIn K (.ref C) "__init__" = some (some (.ref fI)) ∧ typeIn K (.ref fI) = some (.type "function") ∧ InitOk P w K C fI fd 4 ∧
    (∀ s e v, K.In s.heap → BindsTo s fd ⟨[.ref e, v], []⟩ [(me, .ref e), (fld, v)]) ∧ (∀ s e, K.In s.heap → BindsTo s fd ⟨[.ref e], []⟩ [(me, .ref e), (fld, .none)])
  iso : (clsIn K C).isSome = true
  ga : findIn K (.ref C) "__getattribute__" = some (some (.builtin "BaseException.__getattribute__"))
  gg : findIn K (.ref C) "__getattr__" = some none
  ex : subIn K (.ref C) (.type "BaseException") = some true
  ty : typeIn K (.ref C) = some (.type "type")
  ha : findIn K (.ref C) "__class__" = some (some (.builtin "object.__class__"))
  hn : specialIn K (.builtin "object.__class__") "__get__" = some (some (.builtin "getset_descriptor.__get__"))
  ht : takesIn K (.builtin "object.__class__") = some true
  hm : mroIn K C (.type "object") = some true
  no : findIn K (.ref C) fld = some none
  su : mg "super" = none
section
variable {prog : Program} {w : World} {A : Around} {E : Value → Shared → Prop} {R : Result → Shared → Prop} {K : Frag} {mg : Str → Option Value} {C : Addr} {nm : Str}
/-- a made error -/
structure Made (h h' : Heap) (e C dx t1 : Addr) (v : Value) : Prop where
  old : ∀ b o, h.get? b = some o → h'.get? b = some o
  new : h.objs.size ≤ e
  here : h'.get? e = some { cls := .ref C, dict := some dx, data := .fields #[.ref t1, .none, .none, .none, .bool false, .none] }
  big : h.objs.size ≤ dx
  off : dx ≠ e
  cell : h'.Ns1 dx (fun y => if y = fld then some v else none)
theorem made (T : EC prog w K mg nm C) {s : Shared} (S : Stands K s.heap) {us : List Value} {v : Value} (hus : us = [v] ∨ us = [] ∧ v = .none) (hroom : A.depth + 5 < recursionLimit)
    (hq : ∀ h' tk e dx t1, Made s.heap h' e C dx t1 v → R (.ok (.ret (.ref e))) { s with heap := h', toks := tk }) :
    codeAny (model prog w) A (.call (.ref C) ⟨us, []⟩) R s := by
  obtain ⟨fI, fd, hi, tI, G, b1, b0⟩ := T.ini
  obtain ⟨nm', N', qn, bs, bm, hdct, sn, sub, ab, col, dd, k0, k1, k2, k3, k5, hC, hT⟩ := excInit_of S.kin T.cl.cls
  obtain ⟨hp, g, d, tk, os⟩ := s
  have hlen : us.length ≤ sizeLine := by
    rcases hus with rfl | ⟨rfl, _⟩
    · show 1 ≤ sizeLine
      rw [sizeLine_eq]
      omega
    · exact Nat.zero_le _
  refine PySem.PX.call_own F.excBase_Exception hT hC (looks_findIn S.kin hi) (fun self => bind_fn S.kin self tI) hlen ?_
  have k : ∀ b o, hp.get? b = some o → ((hp.push (kdv_tup us)).push (exc0 C hp.objs.size)).get? b = some o := fun b o e => Heap.get?_push_of_some _ (Heap.get?_push_of_some _ e)
  have z1 : (hp.push (kdv_tup us)).objs.size = hp.objs.size + 1 := Heap.size_push ..
  have z2 : ((hp.push (kdv_tup us)).push (exc0 C hp.objs.size)).objs.size = hp.objs.size + 1 + 1 := by rw [Heap.size_push, z1]
  have hget : ((hp.push (kdv_tup us)).push (exc0 C hp.objs.size)).get? (hp.objs.size + 1) = some (exc0 C hp.objs.size) := by
    have y := Heap.get?_push_size (hp.push (kdv_tup us)) (o := exc0 C hp.objs.size) rfl
    rw [z1] at y
    exact y
  have S2 : Stands K ((hp.push (kdv_tup us)).push (exc0 C hp.objs.size)) := S.up k
  refine G _ _ ⟨(hp.push (kdv_tup us)).push (exc0 C hp.objs.size), g, d, tk, os⟩ _ (hp.objs.size + 1) hp.objs.size v S2 hget (by show A.depth + 1 + 4 < recursionLimit; exact hroom) ?_ fun h' tk' dx L => ?_
  · rcases hus with rfl | ⟨rfl, rfl⟩
    · exact b1 _ _ v S2.kin
    · exact b0 _ _ S2.kin
  · have big : hp.objs.size + 1 + 1 ≤ dx := by
      have q := L.big
      rw [z2] at q
      exact q
    refine ⟨rfl, hq h' tk' (hp.objs.size + 1) dx hp.objs.size ⟨fun b o e => L.old b o (Nat.ne_of_lt (Nat.lt_succ_of_lt (Heap.lt_size e))) (k b o e), Nat.le_succ _, L.here, Nat.le_trans (Nat.le_trans (Nat.le_succ _) (Nat.le_succ _)) big, L.off, L.cell⟩⟩
end
section
variable {X : Cx} {C : Addr} {nm : Str}
theorem stands {pins : List (Addr × Obj)} {σ : L2.St} {H : Hp} {s : Shared} (I : Inv X pins σ H s) (su : X.mg "super" = none) : Stands X.K s.heap := by
  obtain ⟨mb, h1, h2⟩ := I.mod.blt
  exact ⟨I.kIn, I.nolimit, X.mg, mb, I.mod.glob.keeps I.bk, su, h1.keeps I.bk, (h2 "super" (by decide)).trans (by decide +kernel)⟩
theorem room4 {k : Nat} (hr : Room k X.A) : X.A.depth + 5 < recursionLimit := by
  have := hr.dp
  omega
/-- an error stands at e, its dict at dx, with the one field v -/
structure ErrAt (H : Hp) (e C dx : Addr) (v : V) : Prop where
  obj : H e = some (exo e C (some dx))
  own : H dx = some (exd dx [(fld, v)])
theorem ErrAt.up {H H' : Hp} {e C dx : Addr} {v : V} (h : ErrAt H e C dx v) (k : ∀ b o, H b = some o → H' b = some o) : ErrAt H' e C dx v := ⟨k _ _ h.obj, k _ _ h.own⟩
/-- the inner end of C(..): the new error is tracked -/
theorem track {pins : List (Addr × Obj)} {σ : L2.St} {H : Hp} {s : Shared} {h' : Heap} {tk : Nat} {e dx t1 : Addr} {v : V} {u : Value} (I : Inv X pins σ H s) (r : RelV v u) (M : Made s.heap h' e C dx t1 u) :
    H e = none ∧ H dx = none ∧ Inv X pins σ (upd (upd H dx (exd dx [(fld, v)])) e (exo e C (some dx))) { s with heap := h', toks := tk } := by
  have ne := I.hok.fresh M.new
  have nd := I.hok.fresh M.big
  refine ⟨ne, nd, ?_⟩
  obtain ⟨G, g1, g2⟩ := restrict h' fun b => decide (b ≠ e)
  have gk : ∀ b, b ≠ e → G.get? b = h'.get? b := fun b hb => g1 b (decide_eq_true hb)
  have ge : G.get? e = none := g2 e (by simp)
  have old : ∀ b o, s.heap.get? b = some o → G.get? b = some o := fun b o q => (gk b (Nat.ne_of_lt (Nat.lt_of_lt_of_le (Heap.lt_size q) M.new))).trans (M.old b o q)
  have sub : ∀ b o, G.get? b = some o → h'.get? b = some o := fun b o q => by
    by_cases hb : b = e
    · rw [hb, ge] at q
      cases q
    · rw [← gk b hb]
      exact q
  have nsG : G.Ns1 dx (fun y => if y = fld then some u else none) := M.cell.at fun o q => (gk dx M.off).trans q
  have J1 := I.laid (t' := tk) (a := dx) (o := exd dx [(fld, v)]) (h' := G) old M.big (exd_ok nsG (relO_put (fs := []) r fun g => True.intro))
  exact J1.laidN (t' := tk) (a := e) (o := exo e C (some dx)) (h' := h') sub ge (by rw [upd_ne (Ne.symm M.off)]; exact ne) (exo_ok M.here)
def tMkE (C : Addr) (ta : TA) : TE := fun σ H Q => ta σ H fun vs H1 => ∃ v, (vs = [v] ∨ vs = [] ∧ v = .non) ∧ ∀ e dx, H1 e = none → H1 dx = none → dx ≠ e → Q (.ref e) (upd (upd H1 dx (exd dx [(fld, v)])) e (exo e C (some dx)))
theorem call_err {pins : List (Addr × Obj)} {σ : L2.St} {H1 : Hp} {s1 : Shared} {us : List Value} {vs : List V} {Q : VK} {E : Value → Shared → Prop} (T : EC X.prog X.w X.K X.mg nm C) (hd : X.A.depth + 5 < recursionLimit) (I1 : Inv X pins σ H1 s1) (r1 : Vals vs us)
    (q : ∃ v, (vs = [v] ∨ vs = [] ∧ v = .non) ∧ ∀ e dx, H1 e = none → H1 dx = none → dx ≠ e → Q (.ref e) (upd (upd H1 dx (exd dx [(fld, v)])) e (exo e C (some dx)))) :
    wpAny (model X.prog X.w) X.A (call (.ref C) us) (EP X pins σ Q) E s1 := by
  obtain ⟨v, hv, q⟩ := q
  obtain ⟨u, hu, ru⟩ : ∃ u, (us = [u] ∨ us = [] ∧ u = .none) ∧ RelV v u := by
    rcases hv with rfl | ⟨rfl, rfl⟩
    · cases r1 with
      | cons r rr =>
        cases rr
        exact ⟨_, .inl rfl, r⟩
    · cases r1
      exact ⟨.none, .inr ⟨rfl, rfl⟩, rfl⟩
  refine wpAny_call (made T (stands I1 T.su) hu hd fun h' tk e dx t1 M => ?_)
  obtain ⟨ne, nd, J⟩ := track (tk := tk) I1 ru M
  exact ⟨.ref e, _, J, rfl, q e dx ne nd M.off⟩
theorem pe_mkE {e : Expr} {es : List Expr} {ta : TA} {p pos : Pos} {k : Nat} (T : EC X.prog X.w X.K X.mg nm C) (hr : Room k X.A) (hg : Gl X nm) (ha : PA X (e :: es) ta) (hdb : (nm == ("__debug__" : Str)) = false := by decide)
    (he : starEach (e :: es) X.env = (false, eval e X.env) :: starEach es X.env := by rfl) (hpl : (backTo pos (starEach es X.env)).any (·.1) = false := by rfl) :
    PE X (.Call (.Name nm p) (e :: es) [] pos) (tMkE C ta) := by
  refine ⟨fun pins s σ H Q I h => ?_⟩
  refine wpAny_Call_Name_kw (ld_glob I hg T.g ?_ hdb)
  refine callWith_K (h₀ := X.base) I.ok.mod.kin T.kC (thn (ha.run pos pins s σ H _ I h) fun us s1 ⟨vs, H1, I1, r1, q⟩ => ⟨I1.kIn, ?_⟩) he hpl
  exact call_err T (room4 hr) I1 r1 q
theorem pe_mkE0 {p pos : Pos} {k : Nat} (T : EC X.prog X.w X.K X.mg nm C) (hr : Room k X.A) (hg : Gl X nm) (hdb : (nm == ("__debug__" : Str)) = false := by decide) :
    PE X (.Call (.Name nm p) [] [] pos) (tMkE C tNil) := by
  refine ⟨fun pins s σ H Q I h => ?_⟩
  refine wpAny_Call_Name_kw (ld_glob I hg T.g ?_ hdb)
  refine callWith_K0 I.kIn T.kC ?_
  exact call_err T (room4 hr) I .nil h
end
end Err

namespace Err
open PySem PySem.W PySem.Calls PyProof.Rows PySem.Spec L2
section
variable {X : Cx} {C : Addr} {nm : Str}
/-- the error as an instance -/
theorem inst {pins : List (Addr × Obj)} {σ : L2.St} {H : Hp} {s : Shared} {e dx : Addr} {v : V} (I : Inv X pins σ H s) (h : ErrAt H e C dx v) :
    ∃ (t1 : Addr) (od : Obj) (u : Value), RelV v u ∧ InstAt s.heap e { cls := .ref C, dict := some dx, data := .fields #[.ref t1, .none, .none, .none, .bool false, .none] } C (some od) ∧ lookIn fld od = some (some u) := by
  obtain ⟨t1, ho⟩ := exo_at I.hok h.obj
  obtain ⟨mA, hns, rel⟩ := exd_at I.hok h.own
  obtain ⟨od, hod, hl⟩ := lookIn_ns hns
  obtain ⟨u, hu, ru⟩ := RelO.some_of (v := v) (o := mA fld) (by
    have q := rel fld
    have y : List.lookup fld [(fld, v)] = some v := by simp [List.lookup]
    rw [y] at q
    exact q)
  exact ⟨t1, od, u, ru, ⟨ho, rfl, rfl, hod⟩, by rw [hl, hu]⟩
theorem kit {T : EC X.prog X.w X.K X.mg nm C} {x : Addr} {ox : Obj} {od : Option Obj} : KitX X.K (.ref x) (.ref C) (fun h => InstAt h x ox C od) :=
  kitx_exc T.iso T.ga T.gg T.ex T.ha T.hn T.ht T.hm
/-- isinstance(e, D), e a tracked error of the class at C -/
def rIsV (K : Frag) (C : Addr) : List V → Hp → VK → Prop := fun xs H Q => ∃ (a dx : Addr) (v c : V) (cv : Value) (b : Bool), xs = [.ref a, c] ∧ ErrAt H a C dx v ∧ ClsV c cv ∧ kitOne K (.ref C) cv = some b ∧ Q (.bl b) H
theorem call_isV (T : EC X.prog X.w X.K X.mg nm C) : CallR X (.builtin "isinstance") (rIsV X.K C) := by
  intro pins s σ H xs us Q I r h
  obtain ⟨a, dx, v, c, cv, b, rfl, he, k, e, q⟩ := h
  obtain ⟨u1, u2, rfl, r1, r2⟩ := vals2 r
  obtain rfl : u2 = cv := k.eq r2
  obtain rfl : u1 = Value.ref a := r1
  obtain ⟨t1, od, u, ru, J, _⟩ := inst I he
  exact kia_one (kit (T := T)) I.kIn J e (fun z => nomatch z) fun tk => ⟨.bl b, H, I.tok tk, rfl, q⟩
/-- isinstance(e, (c1, c2, ..)), the tuple just laid -/
def rIsVT (K : Frag) (C : Addr) : List V → Hp → VK → Prop := fun xs H Q => ∃ (a dx tp : Addr) (v : V) (cs : List V) (us : List Value) (b : Bool), xs = [.ref a, .ref tp] ∧ ErrAt H a C dx v ∧ H tp = some (.tup cs) ∧ Paired ClsV cs us ∧ kitAny K (.ref C) us = some b ∧ Q (.bl b) H
theorem call_isVT (T : EC X.prog X.w X.K X.mg nm C) : CallR X (.builtin "isinstance") (rIsVT X.K C) := by
  intro pins s σ H xs us Q I r h
  obtain ⟨a, dx, tp, v, cs, ws, b, rfl, he, hT, k, e, q⟩ := h
  obtain ⟨u1, u2, rfl, r1, r2⟩ := vals2 r
  obtain rfl : u1 = Value.ref a := r1
  obtain rfl : u2 = Value.ref tp := r2
  obtain ⟨t1, od, u, ru, J, _⟩ := inst I he
  have z : ObjOk X.prog X.w H s.heap tp (.tup cs) := I.hok tp _ hT
  obtain ⟨_, its, rv, ⟨oc, od', dt, sl⟩, g1, g2, n, g3⟩ := z
  obtain rfl : its = ws := ClsV.all k rv
  dsimp only at g2 g3
  subst g2 g3
  exact kia_tup (kit (T := T)) I.kIn J g1 e (fun z => nomatch z) fun tk => ⟨.bl b, H, I.tok tk, rfl, q⟩
/-- e.sqlite_errorname -/
def tFldE (C : Addr) (te : TE) : TE := fun σ H Q => te σ H fun x H1 => ∃ (a dx : Addr) (v : V), x = .ref a ∧ ErrAt H1 a C dx v ∧ Q v H1
theorem pe_fldE {e : Expr} {te : TE} {pos : Pos} (T : EC X.prog X.w X.K X.mg nm C) (he : PE X e te) (hb : attributeBase e fld X.env (eval e X.env) = eval e X.env := by rfl) : PE X (.Attribute e fld pos) (tFldE C te) := by
  refine ⟨fun pins s σ H Q I h => ?_⟩
  refine attr_of hb (thn (he.run pins s σ H _ I h) fun u s1 ⟨x, H1, I1, rx, a, dx, v, ex, hE, q⟩ => ?_)
  subst ex
  obtain rfl : u = Value.ref a := rx
  obtain ⟨t1, od, u, ru, J, hl⟩ := inst I1 hE
  exact PySem.PX.exc_get I1.kIn J T.ga T.gg T.ex (findObj_own T.cl.hd T.no rfl hl) (handed_of ru) ⟨v, H1, I1.tok _, ru, q⟩
/-- raise C(e) -/
def tMkR (C : Addr) (ta : TA) : L2.St → Hp → XK → Prop := fun σ H Q => ta σ H fun vs H1 => ∃ v, (vs = [v] ∨ vs = [] ∧ v = .non) ∧ ∀ d, H1 d = none → Q (.ref C) (some d) (upd H1 d (.xd [(fld, v)]))
theorem pmk_err {e : Expr} {es : List Expr} {ta : TA} {p pos : Pos} {k : Nat} (T : EC X.prog X.w X.K X.mg nm C) (hr : Room k X.A) (hg : Gl X nm) (ha : PA X (e :: es) ta) (hdb : (nm == ("__debug__" : Str)) = false := by decide)
    (he : starEach (e :: es) X.env = (false, eval e X.env) :: starEach es X.env := by rfl) (hpl : (backTo pos (starEach es X.env)).any (·.1) = false := by rfl) : PMk X (.Call (.Name nm p) (e :: es) [] pos) (tMkR C ta) := by
  intro pins s σ H Q I h
  refine wpAny_Call_Name_kw (ld_glob I hg T.g ?_ hdb)
  refine callWith_K (h₀ := X.base) I.ok.mod.kin T.kC (thn (ha.run pos pins s σ H _ I h) fun us s1 ⟨vs, H1, I1, r1, v, hv, q⟩ => ⟨I1.kIn, ?_⟩) he hpl
  obtain ⟨u, hu, ru⟩ : ∃ u, (us = [u] ∨ us = [] ∧ u = .none) ∧ RelV v u := by
    rcases hv with rfl | ⟨rfl, rfl⟩
    · cases r1 with
      | cons r rr =>
        cases rr
        exact ⟨_, .inl rfl, r⟩
    · cases r1
      exact ⟨.none, .inr ⟨rfl, rfl⟩, rfl⟩
  refine wpAny_call (made T (stands I1 T.su) hu (room4 hr) fun h' tk e dx t1 M => ?_)
  obtain ⟨G, g1, g2⟩ := restrict h' fun b => decide (b ≠ e)
  have gk : ∀ b, b ≠ e → G.get? b = h'.get? b := fun b hb => g1 b (decide_eq_true hb)
  have ge : G.get? e = none := g2 e (by simp)
  have old : ∀ b o, s1.heap.get? b = some o → G.get? b = some o := fun b o q => (gk b (Nat.ne_of_lt (Nat.lt_of_lt_of_le (Heap.lt_size q) M.new))).trans (M.old b o q)
  have nsG : G.Ns1 dx (fun y => if y = fld then some u else none) := M.cell.at fun o q => (gk dx M.off).trans q
  have new : ObjOk X.prog X.w (upd H1 dx (.xd [(fld, v)])) G dx (.xd [(fld, v)]) := ⟨_, nsG, relO_put (fs := []) ru fun g => True.intro⟩
  have J := I1.laid (t' := tk) (a := dx) (o := .xd [(fld, v)]) (h' := G) old M.big new
  refine ⟨e, _, _, { s1 with heap := G, toks := tk }, _, .ref C, some dx, rfl, J, fun b o q => ?_, ge, M.here, ⟨rfl, rfl⟩, rfl, rfl, ?_, rfl, I1.bare, raises_own T.ex T.ty, q dx (I1.hok.fresh M.big)⟩
  · by_cases hb : b = e
    · have q' : G.get? b = some o := q
      rw [hb, ge] at q'
      cases q'
    · exact (gk b hb).symm.trans q
  · rw [upd_ne (Ne.symm M.off)]
    exact I1.hok.fresh M.new
end
end Err

/-! try with two clauses, each «except X as n». -/
namespace Err
open PySem PySem.Calls PyProof.Rows PySem.Spec L2
/-- behind a suite the name is gone -/
def lessSlot (i : Nat) (D : Ends) : Ends := { nx := fun τ G => D.nx (τ.set i none) G, rt := D.rt, bk := fun τ G => D.bk (τ.set i none) G, ct := fun τ G => D.ct (τ.set i none) G }
abbrev Suite := Addr → Value → Option Addr → TS
def wTwo (K : PySem.W.Frag) (i : Nat) (Wout : WX) (D : Ends) : List (Value × Suite) → WX
  | [] => Wout
  | (c, ts) :: r => fun cls d τ G => ∃ b, PySem.W.exmOne K cls c = some b ∧ (b = true → ∀ z, G z = none → ts z cls d (lessSlot i D) (τ.set i (some (.ref z))) G) ∧ (b = false → wTwo K i Wout D r cls d τ G)
inductive Clauses (X : Cx) (n : Str) : List ExceptHandler → List (Value × Suite) → Prop
  | none : Clauses X n [] []
  | more {x : Str} {c : Value} {ts : Suite} {st : Stmt} {sts : List Stmt} {p1 p2 : Pos} {hs : List ExceptHandler} {l : List (Value × Suite)} (nm : Names X x c)
      (ok : ∀ (z : Addr) (oz : Obj) (cls : Value) (d : Option Addr) (pn : List (Addr × Obj)), Zc cls d oz → (∃ fs, oz.data = .fields fs) → PSs (X.suite z ((z, oz) :: pn)) (st :: sts) (ts z cls d)) (r : Clauses X n hs l) :
      Clauses X n (.ExceptHandler (some (.Name x p1)) (some n) (st :: sts) p2 :: hs) ((c, ts) :: l)
section
variable {X : Cx} {n : Str} {i : Nat} {body : List Stmt} {h₁ : ExceptHandler} {hs : List ExceptHandler} {l : List (Value × Suite)} {pos : Pos} {tb : WX → TS} {Wout : WX}
theorem ps_try_twoAs (st : X.stack = X.env :: X.outer) (fr : X.env.frame = some X.env.locals) (nd : X.N.Nodup) (at_ : X.N[i]? = some n) (lo : X.env.kindOf n = some .local) (tk : Takes X Wout)
    (hb : ∀ (W : WX) (pn : List (Addr × Obj)) (xe : Value → Shared → Prop), Takes (X.tr pn xe) W → PassesOwn (model X.prog X.w) X.A X.env xe → PSs (X.tr pn xe) body (tb W)) (cl : Clauses X n (h₁ :: hs) l) :
    PS X (.Try body (h₁ :: hs) [] [] pos) (fun D τ G => tb (wTwo X.K i Wout D l) D τ G) := by
  refine ⟨fun pins s₀ τ G D I want => ?_⟩
  have fine := I.ok
  have frames : X.A.frames = some (X.env :: X.outer) := fine.frames.trans (congrArg some st)
  refine wpAny_Try_except ?_
  let thrown : Value → Shared → Prop := fun e s₁ => wpAny (model X.prog X.w) X.A (noteFrame e X.env)
    (fun _ s₂ => wpAny (model X.prog X.w) X.A (setFlight e none) (fun _ s₃ => wpAny (model X.prog X.w) X.A (handleBy e X.env (h₁ :: hs)) (SP X pins D) X.xe s₃) X.xe s₂) X.xe s₁
  have ran := (hb (wTwo X.K i Wout D l) (X.pn ++ pins) thrown (fun u sx got => ?_) PassesOwn.looking).run [] s₀ τ G D (I.toTry _) want
  · refine wpAny_mono ran (fun fl sy went => ?_) fun _ _ q => q
    cases fl with
    | ret v =>
      obtain ⟨y, τ', G', J, r, q⟩ := went
      exact ⟨y, τ', G', J.ofTry fine, r, q⟩
    | next =>
      obtain ⟨τ', G', J, q⟩ := went
      exact wpAny_execs_nil ⟨τ', G', J.ofTry fine, q⟩
    | brk =>
      obtain ⟨τ', G', J, q⟩ := went
      exact ⟨τ', G', J.ofTry fine, q⟩
    | cont =>
      obtain ⟨τ', G', J, q⟩ := went
      exact ⟨τ', G', J.ofTry fine, q⟩
  · obtain ⟨z, ground, sI, pins', τ', G', cls, d, rfl, Jt, nb, up, sky, nz, os, ag, wish⟩ := got
    have J : Inv X pins τ' G' sI := Jt.ofTry fine
    show wpAny (model X.prog X.w) X.A (noteFrame (.ref z) X.env) _ _ _
    refine Sky.land Zc.steady frames fr (st ▸ sky) fun g3 fl3 up3 => ?_
    have J3 : Inv X pins τ' G' { sx with heap := g3 } := J.landed nb fl3.1 (up.trans up3) os ag
    obtain ⟨oz, fs, he3, hz3, hd3⟩ := fl3.there
    have far : z ∉ frs (X.env :: X.outer) := fun m => by
      obtain ⟨_, o', e', no⟩ := fl3.2.2.1.mem m
      obtain rfl := Option.some.inj (he3.symm.trans e')
      exact no _ hd3
    have farL : z ≠ X.env.locals := fun q => far (List.mem_filterMap.mpr ⟨X.env, .head _, fr.trans (congrArg some q.symm)⟩)
    have farF : z ∉ X.fs := fun m => by
      obtain ⟨v, hv, q⟩ := List.mem_filterMap.mp m
      exact far (List.mem_filterMap.mpr ⟨v, .tail _ hv, q⟩)
    have S3 := J3.suite he3 hd3 nz farL farF
    have ask : ∀ {hs' : List ExceptHandler} {l' : List (Value × Suite)}, Clauses X n hs' l' → wTwo X.K i Wout D l' cls d τ' G' →
        wpAny (model X.prog X.w) X.A (handleBy (.ref z) X.env hs') (SP X pins D) X.xe { sx with heap := g3 } := fun {hs' l'} k => by
      induction k with
      | none =>
        intro wish
        refine wpAny_handleBy_nil ?_
        obtain ⟨_, _, _, oe, vs, T, oT, ts', he, hz, hd, h1, hr⟩ := id fl3
        unfold PySem.passOn
        refine wpAny_bind (wpAny_field he hd h1 ?_)
        have out : wpAny (model X.prog X.w) X.A (setFlight (.ref z) X.env.frame) (fun _ s4 => wpAny (model X.prog X.w) X.A (throw (.ref z) : Sem Flow) (SP X pins D) X.xe s4) X.xe { sx with heap := g3 } := by
          rw [fr]
          refine HandSPX.setFlight_upZ fl3 fun g4 up4' up4 => wpAny_throw (tk _ _ ?_)
          exact ⟨z, ground, sI, pins, τ', G', cls, d, rfl, J, nb, (up.trans up3).trans up4, .inr (.inr (st ▸ up4')), nz, os, ag, wish⟩
        have isRef : ¬ ((Value.ref T == Value.none) = true) := by simp
        rw [if_neg isRef]
        first
          | exact wpAny_bind (wpAny_pure (wpAny_bind out))
          | exact wpAny_bind out
      | @more x c ts b0 bs p1 p2 hs2 l2 nm ok r ih =>
        intro wish
        obtain ⟨hit, is, yes, no⟩ := wish
        refine wpAny_handleBy_cons (codeAny_handlers_test ?_) (fun q => by cases q)
        have ty : PySem.W.Looks (model X.prog X.w) g3 (typeOf (.ref z)) cls := fun _ _ _ _ k q => wpAny_typeOf_ref (k _ _ he3) (hz3.1 ▸ q)
        have match_ := PySem.W.exm_one (M := model X.prog X.w) J3.kIn ty is
        have named : ∀ {Q E : Value → Shared → Prop}, Q c { sx with heap := g3 } → wpAny (model X.prog X.w) (X.A.mark (some (.ref z))) (eval (.Name x p1) X.env) Q E { sx with heap := g3 } := fun {Q E} q => by
          obtain ⟨hg, hdbg, hm | ⟨hm, hv, hnn⟩⟩ := nm
          · exact ld_glob (X := X.suite z ((z, oz) :: (X.pn ++ pins))) S3 hg hm q hdbg
          · exact ld_blt (X := X.suite z ((z, oz) :: (X.pn ++ pins))) S3 hg hm hv q hnn hdbg
        refine named (match_.here ?_)
        cases hit with
        | false => exact ih (no rfl)
        | true =>
          refine codeAny_handlers_suite_as (HandSPX.lands_againZ fl3 fun g4 fl4 up4 => ?_)
          have J4 : Inv X pins τ' G' { sx with heap := g4 } := J.landed nb fl4.1 ((up.trans up3).trans up4) os ag
          obtain ⟨o4, fs4, he4, hz4, hd4⟩ := fl4.there
          have S4 := J4.suite he4 hd4 nz farL farF
          refine store_ok (X := X.suite z ((z, o4) :: (X.pn ++ pins))) (v := .ref z) S4 nd at_ (.inl lo) rfl (fun s5 S5 => ?_) (.inr lo)
          refine wpAny_mono ((ok z o4 cls d (X.pn ++ pins) hz4 ⟨_, hd4⟩).run [] s5 _ G' _ S5 (yes rfl z nz)) (fun fl s6 went => ?_) fun _ _ q => q.elim
          have off : ∀ {τ6 : L2.St} {G6 : Hp} {Q : Shared → Prop}, Inv (X.suite z ((z, o4) :: (X.pn ++ pins))) [] τ6 G6 s6 → (∀ s7, Inv X pins (τ6.set i none) G6 s7 → Q s7) →
              wpAny (model X.prog X.w) X.A (do bindName X.env n .none; unbindBehindTheSuite X.env n p2) (fun _ s7 => Q s7) X.xe s6 := fun S6 q => gone_ok (S6.unsuite fine) nd at_ lo q
          cases fl with
          | ret u =>
            obtain ⟨v6, τ6, G6, S6, r6, q6⟩ := went
            exact off S6 fun s7 J7 => ⟨_, _, _, J7, r6, q6⟩
          | next =>
            obtain ⟨τ6, G6, S6, q6⟩ := went
            exact off S6 fun s7 J7 => ⟨_, _, J7, q6⟩
          | brk =>
            obtain ⟨τ6, G6, S6, q6⟩ := went
            exact off S6 fun s7 J7 => ⟨_, _, J7, q6⟩
          | cont =>
            obtain ⟨τ6, G6, S6, q6⟩ := went
            exact off S6 fun s7 J7 => ⟨_, _, J7, q6⟩
    exact ask cl wish
end
end Err

/-! The end of a law that makes lambdas, with the guards known: one table of code objects may grow. -/
namespace Grd
open PySem PySem.Spec PySem.W PyProof.Rows L2 Att LamX
/-- the list that is handed in, and the table -/
def pair (K : Frag) (a tab : Addr) (vs : List Value) (ns : List Int) : Hp := fun b => if b = tab then some (.tbl #[]) else just K a vs ns b
section
variable {P : Program} {w : World} {K : Frag} {mg mb : Str → Option Value} {fa a tab co : Addr} {fd : FuncData} {x : Str} {sp : Sp} {s : Shared} {vs : List Value} {ns : List Int}
theorem pair_some {b : Addr} {o : HO} (h : pair K a tab vs ns b = some o) : (b = tab ∧ o = .tbl #[]) ∨ (b ≠ tab ∧ b = a ∧ K.lookup a = none ∧ o = .frz (given vs) (.lst (ns.map V.int))) := by
  unfold pair at h
  split at h
  · rename_i c
    exact .inl ⟨c, (Option.some.inj h).symm⟩
  · rename_i c
    exact .inr ⟨c, just_some h⟩
theorem law_gT (KX : K.In s.heap) (hns : s.heap.Ns mainGlobals mg) (hb : s.heap.Ns builtinsNs mb) (hbb : ∀ y : Str, y ≠ "__name__" → mb y = bootBuiltins y) (hlim : s.heap.NoLimit) (hg : s.gens = #[])
    (main : ∃ bm ob, mg "__builtins__" = some (.ref bm) ∧ bm ≠ builtinsNs ∧ s.heap.get? bm = some ob ∧ ob.cls = .type "module" ∧ ob.dict = some builtinsNs ∧ ob.data = .plain)
    (ht : s.heap.get? tab = some (tabObj #[])) (kt : K.lookup tab = none) (hco : codeHdIn K co tab = true)
    (ha : s.heap.get? a = some (given vs)) (hi : IntsAre vs ns) (hl : ns.length ≤ sizeLine) (F : ∀ base : Heap, K.In base → base.Ns mainGlobals mg → TabB base mg co tab → TopOk P w K mg base fa fd [x] sp)
    (bound : ∀ (s : Shared) (u : Value), BindsTo s fd ⟨[u], []⟩ [(x, u)]) (told : ∀ H : Hp, H tab = some (.tbl #[]) → SqL K H a (ns.map V.int) → sp [.ref a] H (fun v _ => v = .bl true) E0) :
    codeAny (model P w) callerA (.call (.ref fa) ⟨[.ref a], []⟩) (fun r s' => r = .ok (.ret (.bool true)) ∧ OldK s.heap s'.heap ∧ s'.os = s.os ∧ AllBare s'.gens) s := by
  have rel := vals_ints hi
  have at' : a ≠ tab := fun z => by
    rw [z, ht] at ha
    have y : Data.fields #[] = Data.seq vs.toArray _ := congrArg Obj.data (Option.some.inj ha)
    cases y
  generalize eH : pair K a tab vs ns = H
  have is_ : ∀ {b : Addr} {o : HO}, H b = some o → (b = tab ∧ o = .tbl #[]) ∨ (b ≠ tab ∧ b = a ∧ K.lookup a = none ∧ o = .frz (given vs) (.lst (ns.map V.int))) := fun {b o} z => pair_some (eH ▸ z)
  have gone : ∀ {b : Addr}, b ≠ tab → (b ≠ a ∨ K.lookup a ≠ none) → H b = none := fun {b} n z => by
    rw [← eH]
    exact (if_neg n).trans (just_none z)
  have hT : H tab = some (.tbl #[]) := by
    rw [← eH]
    exact if_pos rfl
  -- an object of another kind is hidden by nothing
  have other : ∀ {b : Addr} {o : Obj}, s.heap.get? b = some o → o.data ≠ (given vs).data → o.data ≠ (tabObj #[]).data → (hidT s.heap H).get? b = some o := fun {b o} e n1 n2 => by
    refine hidT_get e (gone (fun z => ?_) (.inl fun z => ?_))
    · rw [z, ht] at e
      exact n2 (congrArg Obj.data (Option.some.inj e).symm)
    · rw [z, ha] at e
      exact n1 (congrArg Obj.data (Option.some.inj e).symm)
  have plain : ∀ {b : Addr} {m : Str → Option Value}, s.heap.Ns b m → (hidT s.heap H).Ns b m := by
    rintro b m ⟨o, es, ep, e, d, r⟩
    refine ⟨o, es, ep, other e ?_ ?_, d, r⟩
    · rw [d]
      intro z
      cases z
    · rw [d]
      intro z
      cases z
  have kept : K.In (hidT s.heap H) := fun b o e => hidT_get (KX b o e) (gone (fun z => by
    rw [z, kt] at e
    cases e) (by
    by_cases z : b = a
    · exact .inr (by rw [← z, e]; exact fun y => nomatch y)
    · exact .inl z))
  have sound : HOk P w H s.heap := by
    intro b u z
    rcases is_ z with ⟨rfl, rfl⟩ | ⟨_, rfl, _, rfl⟩
    · exact ht
    · exact ⟨ha, by rw [List.length_map]; exact hl, vs, _, rel, ha⟩
  have seen : SqL K H a (ns.map V.int) := by
    cases hk : K.lookup a with
    | some o =>
      have e := KX a o hk
      rw [ha] at e
      cases e
      exact .inr ⟨_, vs.toArray, _, hk, rfl, rfl, rfl, by rw [List.size_toArray, hi.length]; exact hl, by simpa using rel⟩
    | none =>
      refine .inl (.inr ⟨given vs, ?_⟩)
      rw [← eH]
      exact (if_neg at').trans (if_pos ⟨rfl, hk⟩)
  have mod : Mod K mg (hidT s.heap H) := ⟨kept, plain hns, ⟨mb, plain hb, hbb⟩, hlim.elim fun mc y => ⟨mc, plain y.1, y.2⟩⟩
  have env : Env0 P w K mg (hidT s.heap H) callerA [] s H :=
    { frames := rfl, mod := mod, bs := fun b o e => of_hidT e, bsz := Nat.le_of_eq (hidT_size _ _), funs := trivial, frf := fun b y => (by cases (show b ∈ ([] : List Addr) from y)), hok := sound, bare := .of_eq hg }
  have tb : TabB (hidT s.heap H) mg co tab := by
    refine ⟨codeHd_of_K kept hco, ?_, fun z => ?_⟩
    · obtain ⟨bm, ob, named, n1, here, cls, dct, plain'⟩ := main
      refine ⟨bm, ob, named, n1, fun z => ?_, fun z => ?_, other here ?_ ?_, cls, dct, plain'⟩
      · obtain ⟨o, es, ep, e, d, _⟩ := hns
        rw [z, e] at here
        rw [← Option.some.inj here, d] at plain'
        cases plain'
      · rw [z, ht] at here
        rw [← Option.some.inj here] at plain'
        cases plain'
      · rw [plain']
        intro z
        cases z
      · rw [plain']
        intro z
        cases z
    · obtain ⟨o, es, ep, e, d, _⟩ := hns
      rw [z, ht] at e
      rw [← Option.some.inj e] at d
      cases d
  refine codeAny_mono ((F _ kept (plain hns) tb).go s H ⟨[.ref a], []⟩ [.ref a] [.ref a] _ env (bound s (.ref a)) (.cons rfl .nil) rfl (told H hT seen)) fun r s' z => ?_
  match r, z with
  | .error e, z => exact False.elim z
  | .ok .next, z => exact False.elim z
  | .ok .brk, z => exact False.elim z
  | .ok .cont, z => exact False.elim z
  | .ok (.ret u), z =>
    obtain ⟨v, H', os, bare, un, sound', rv, is⟩ := z
    have is' : v = .bl true := is
    subst is'
    obtain rfl : u = Value.bool true := rv
    obtain ⟨more, hm⟩ := un.tbls tab _ hT
    have hm' : s'.heap.get? tab = some (tabObj (#[] ++ more)) := sound' tab _ hm
    have still : ∀ b o, b ≠ tab → s.heap.get? b = some o → s'.heap.get? b = some o := fun b o n e => by
      cases hH : H b with
      | none => exact un.keep b o e hH (fun y => by cases (show b ∈ ([] : List Addr) from y)) (fun y => by cases y)
      | some u =>
        rcases is_ hH with ⟨y, _⟩ | ⟨_, rfl, _, rfl⟩
        · exact (n y).elim
        · have y := (sound' b _ (un.frzs b _ _ hH)).1
          rw [ha] at e
          cases e
          exact y
    refine ⟨rfl, ⟨fun b o e => ?_, fun b o e => ?_⟩, os, bare⟩
    · by_cases hb : b = tab
      · subst hb
        rw [ht] at e
        obtain rfl := Option.some.inj e
        exact .inr (.inl ⟨((codeHd_of_K KX hco).tab ht).isCodeTable, rfl, #[], more, rfl, hm'⟩)
      · exact .inl (still b o hb e)
    · by_cases hb : b = tab
      · subst hb
        exact ⟨_, hm'⟩
      · exact ⟨o, still b o hb e⟩
end
theorem walk_gT {l : OpenLaw} {n : Nat} {q : Program} {loose : List Str} {XP : (Str → Option Value) → Heap → Prop} {d : DefRec} {K : Params → Frag} {as : List Addr} {en : ∀ P, as = (K P).map (·.1)} {co tab : Addr} {sp : Frag → Sp} {x : Str} (hn : l.most = some n) (hn2 : n ≤ sizeLine)
    (hdf : d.params.defaults = []) (kt : ∀ w : World, (K w.params).lookup tab = none) (hco : ∀ w : World, codeHdIn (K w.params) co tab = true)
    (F : ∀ (w : World) (mg : Str → Option Value) (fa : Addr) (h : Heap), (K w.params).In h → h.Ns mainGlobals mg → mg d.name = some (.ref fa) →
      ∃ fd : FuncData, (∀ (s : Shared) (u : Value), BindsTo s fd ⟨[u], []⟩ [(x, u)]) ∧ ∀ base : Heap, (K w.params).In base → base.Ns mainGlobals mg → TabB base mg co tab → TopOk l.prog w (K w.params) mg base fa fd [x] (sp (K w.params)))
    (told : ∀ (w : World) (H : Hp) (a : Addr) (ns : List Int), ns.length ≤ n → H tab = some (.tbl #[]) → SqL (K w.params) H a (ns.map V.int) → sp (K w.params) [.ref a] H (fun v _ => v = .bl true) E0) :
    WalkO q loose XP (kmHook K as en [tab]).says l.row.toRowW d [] (fun f vs => PySem.call f vs) := by
  refine Att.attach_call hn hdf fun w s₀ s₁ mg mb fa o pm cd doc a vs ns G Y _ _ _ named obj inn few gens => ?_
  have KX := km_in_of Y
  obtain ⟨fd, bound, all⟩ := F w mg fa _ KX G.T.g named
  exact law_gT KX G.T.g G.T.b G.T.builtins G.T.nolimit gens G.T.bmain (km_tabs_of Y tab (List.mem_singleton.mpr rfl)) (kt w) (hco w) obj inn (Nat.le_trans few hn2) all bound fun H z y => told w H a ns few z y
end Grd

/-! The end of a law that makes lambdas, with the guards known: one table of code objects may grow. -/
namespace Grd
open PySem PySem.Spec PySem.W PyProof.Rows L2 Att LamX
section
variable {P : Program} {w : World} {K : Frag} {mg mb : Str → Option Value} {fa a tab co : Addr} {fd : FuncData} {x : Str} {sp : Sp} {s : Shared} {vs : List Value} {ns : List Int}
theorem law_gU (KX : K.In s.heap) (hns : s.heap.Ns mainGlobals mg) (hb : s.heap.Ns builtinsNs mb) (hbb : ∀ y : Str, y ≠ "__name__" → mb y = bootBuiltins y) (hlim : s.heap.NoLimit) (hg : s.gens = #[])
    (main : ∃ bm ob, mg "__builtins__" = some (.ref bm) ∧ bm ≠ builtinsNs ∧ s.heap.get? bm = some ob ∧ ob.cls = .type "module" ∧ ob.dict = some builtinsNs ∧ ob.data = .plain)
    (sys : ∃ o es ep, s.heap.get? sysModules = some o ∧ o.data = .dict es ep) (ht : s.heap.get? tab = some (tabObj #[])) (kt : K.lookup tab = none) (hco : codeHdIn K co tab = true)
    (ha : s.heap.get? a = some (given vs)) (hi : IntsAre vs ns) (hl : ns.length ≤ sizeLine) (F : ∀ base : Heap, K.In base → base.Ns mainGlobals mg → (∃ o, base.get? sysModules = some o) → TabB base mg co tab → TopOk P w K mg base fa fd [x] sp)
    (bound : ∀ (s : Shared) (u : Value), BindsTo s fd ⟨[u], []⟩ [(x, u)]) (told : ∀ H : Hp, H tab = some (.tbl #[]) → SqL K H a (ns.map V.int) → sp [.ref a] H (fun v _ => v = .bl true) E0) :
    codeAny (model P w) callerA (.call (.ref fa) ⟨[.ref a], []⟩) (fun r s' => r = .ok (.ret (.bool true)) ∧ OldK s.heap s'.heap ∧ s'.os = s.os ∧ AllBare s'.gens) s := by
  have rel := vals_ints hi
  have at' : a ≠ tab := fun z => by
    rw [z, ht] at ha
    have y : Data.fields #[] = Data.seq vs.toArray _ := congrArg Obj.data (Option.some.inj ha)
    cases y
  generalize eH : pair K a tab vs ns = H
  have is_ : ∀ {b : Addr} {o : HO}, H b = some o → (b = tab ∧ o = .tbl #[]) ∨ (b ≠ tab ∧ b = a ∧ K.lookup a = none ∧ o = .frz (given vs) (.lst (ns.map V.int))) := fun {b o} z => pair_some (eH ▸ z)
  have gone : ∀ {b : Addr}, b ≠ tab → (b ≠ a ∨ K.lookup a ≠ none) → H b = none := fun {b} n z => by
    rw [← eH]
    exact (if_neg n).trans (just_none z)
  have hT : H tab = some (.tbl #[]) := by
    rw [← eH]
    exact if_pos rfl
  -- an object of another kind is hidden by nothing
  have other : ∀ {b : Addr} {o : Obj}, s.heap.get? b = some o → o.data ≠ (given vs).data → o.data ≠ (tabObj #[]).data → (hidT s.heap H).get? b = some o := fun {b o} e n1 n2 => by
    refine hidT_get e (gone (fun z => ?_) (.inl fun z => ?_))
    · rw [z, ht] at e
      exact n2 (congrArg Obj.data (Option.some.inj e).symm)
    · rw [z, ha] at e
      exact n1 (congrArg Obj.data (Option.some.inj e).symm)
  have plain : ∀ {b : Addr} {m : Str → Option Value}, s.heap.Ns b m → (hidT s.heap H).Ns b m := by
    rintro b m ⟨o, es, ep, e, d, r⟩
    refine ⟨o, es, ep, other e ?_ ?_, d, r⟩
    · rw [d]
      intro z
      cases z
    · rw [d]
      intro z
      cases z
  have kept : K.In (hidT s.heap H) := fun b o e => hidT_get (KX b o e) (gone (fun z => by
    rw [z, kt] at e
    cases e) (by
    by_cases z : b = a
    · exact .inr (by rw [← z, e]; exact fun y => nomatch y)
    · exact .inl z))
  have sound : HOk P w H s.heap := by
    intro b u z
    rcases is_ z with ⟨rfl, rfl⟩ | ⟨_, rfl, _, rfl⟩
    · exact ht
    · exact ⟨ha, by rw [List.length_map]; exact hl, vs, _, rel, ha⟩
  have seen : SqL K H a (ns.map V.int) := by
    cases hk : K.lookup a with
    | some o =>
      have e := KX a o hk
      rw [ha] at e
      cases e
      exact .inr ⟨_, vs.toArray, _, hk, rfl, rfl, rfl, by rw [List.size_toArray, hi.length]; exact hl, by simpa using rel⟩
    | none =>
      refine .inl (.inr ⟨given vs, ?_⟩)
      rw [← eH]
      exact (if_neg at').trans (if_pos ⟨rfl, hk⟩)
  have mod : Mod K mg (hidT s.heap H) := ⟨kept, plain hns, ⟨mb, plain hb, hbb⟩, hlim.elim fun mc y => ⟨mc, plain y.1, y.2⟩⟩
  have env : Env0 P w K mg (hidT s.heap H) callerA [] s H :=
    { frames := rfl, mod := mod, bs := fun b o e => of_hidT e, bsz := Nat.le_of_eq (hidT_size _ _), funs := trivial, frf := fun b y => (by cases (show b ∈ ([] : List Addr) from y)), hok := sound, bare := .of_eq hg }
  have tb : TabB (hidT s.heap H) mg co tab := by
    refine ⟨codeHd_of_K kept hco, ?_, fun z => ?_⟩
    · obtain ⟨bm, ob, named, n1, here, cls, dct, plain'⟩ := main
      refine ⟨bm, ob, named, n1, fun z => ?_, fun z => ?_, other here ?_ ?_, cls, dct, plain'⟩
      · obtain ⟨o, es, ep, e, d, _⟩ := hns
        rw [z, e] at here
        rw [← Option.some.inj here, d] at plain'
        cases plain'
      · rw [z, ht] at here
        rw [← Option.some.inj here] at plain'
        cases plain'
      · rw [plain']
        intro z
        cases z
      · rw [plain']
        intro z
        cases z
    · obtain ⟨o, es, ep, e, d, _⟩ := hns
      rw [z, ht] at e
      rw [← Option.some.inj e] at d
      cases d
  have syb : ∃ o, (hidT s.heap H).get? sysModules = some o := by
    obtain ⟨o, es, ep, e, d⟩ := sys
    refine ⟨o, other e ?_ ?_⟩ <;> (rw [d]; intro z; cases z)
  refine codeAny_mono ((F _ kept (plain hns) syb tb).go s H ⟨[.ref a], []⟩ [.ref a] [.ref a] _ env (bound s (.ref a)) (.cons rfl .nil) rfl (told H hT seen)) fun r s' z => ?_
  match r, z with
  | .error e, z => exact False.elim z
  | .ok .next, z => exact False.elim z
  | .ok .brk, z => exact False.elim z
  | .ok .cont, z => exact False.elim z
  | .ok (.ret u), z =>
    obtain ⟨v, H', os, bare, un, sound', rv, is⟩ := z
    have is' : v = .bl true := is
    subst is'
    obtain rfl : u = Value.bool true := rv
    obtain ⟨more, hm⟩ := un.tbls tab _ hT
    have hm' : s'.heap.get? tab = some (tabObj (#[] ++ more)) := sound' tab _ hm
    have still : ∀ b o, b ≠ tab → s.heap.get? b = some o → s'.heap.get? b = some o := fun b o n e => by
      cases hH : H b with
      | none => exact un.keep b o e hH (fun y => by cases (show b ∈ ([] : List Addr) from y)) (fun y => by cases y)
      | some u =>
        rcases is_ hH with ⟨y, _⟩ | ⟨_, rfl, _, rfl⟩
        · exact (n y).elim
        · have y := (sound' b _ (un.frzs b _ _ hH)).1
          rw [ha] at e
          cases e
          exact y
    refine ⟨rfl, ⟨fun b o e => ?_, fun b o e => ?_⟩, os, bare⟩
    · by_cases hb : b = tab
      · subst hb
        rw [ht] at e
        obtain rfl := Option.some.inj e
        exact .inr (.inl ⟨((codeHd_of_K KX hco).tab ht).isCodeTable, rfl, #[], more, rfl, hm'⟩)
      · exact .inl (still b o hb e)
    · by_cases hb : b = tab
      · subst hb
        exact ⟨_, hm'⟩
      · exact ⟨o, still b o hb e⟩
end
theorem walk_gU {l : OpenLaw} {n : Nat} {q : Program} {loose : List Str} {XP : (Str → Option Value) → Heap → Prop} {d : DefRec} {K : Params → Frag} {as : List Addr} {en : ∀ P, as = (K P).map (·.1)} {co tab : Addr} {sp : Frag → Sp} {x : Str} (hn : l.most = some n) (hn2 : n ≤ sizeLine)
    (hdf : d.params.defaults = []) (imp : importsNone q = true) (kt : ∀ w : World, (K w.params).lookup tab = none) (hco : ∀ w : World, codeHdIn (K w.params) co tab = true)
    (F : ∀ (w : World) (mg : Str → Option Value) (fa : Addr) (h : Heap), (K w.params).In h → h.Ns mainGlobals mg → mg d.name = some (.ref fa) →
      ∃ fd : FuncData, (∀ (s : Shared) (u : Value), BindsTo s fd ⟨[u], []⟩ [(x, u)]) ∧ ∀ base : Heap, (K w.params).In base → base.Ns mainGlobals mg → (∃ o, base.get? sysModules = some o) → TabB base mg co tab → TopOk l.prog w (K w.params) mg base fa fd [x] (sp (K w.params)))
    (told : ∀ (w : World) (H : Hp) (a : Addr) (ns : List Int), ns.length ≤ n → H tab = some (.tbl #[]) → SqL (K w.params) H a (ns.map V.int) → sp (K w.params) [.ref a] H (fun v _ => v = .bl true) E0) :
    WalkO q loose XP (kmHook K as en [tab]).says l.row.toRowW d [] (fun f vs => PySem.call f vs) := by
  refine Att.attach_call hn hdf fun w s₀ s₁ mg mb fa o pm cd doc a vs ns G Y _ _ _ named obj inn few gens => ?_
  have KX := km_in_of Y
  obtain ⟨fd, bound, all⟩ := F w mg fa _ KX G.T.g named
  exact law_gU KX G.T.g G.T.b G.T.builtins G.T.nolimit gens G.T.bmain (by obtain ⟨mm, ⟨o, es, ep, e, d, _⟩, _⟩ := (G.T.seer imp).mods; exact ⟨o, es, ep, e, d⟩) (km_tabs_of Y tab (List.mem_singleton.mpr rfl)) (kt w) (hco w) obj inn (Nat.le_trans few hn2) all bound fun H z y => told w H a ns few z y
end Grd

/-! A deed that is refused: caught, asked for its class, its field read. -/
namespace Err
open PySem PySem.W PySem.Calls PyProof.Rows PySem.Spec L2 Drw LamX
section
variable {X : Cx} {C : Addr} {nm : Str}
/-- isinstance(e, c), e the own error that the suite holds, with its dict -/
def rIsD (K : Frag) (C a : Addr) (cls : Value) (d : Option Addr) : List V → Hp → VK → Prop := fun xs H Q => ∃ (c : V) (cv : Value) (b : Bool) (dd : Addr) (fs : List (Str × V)), xs = [.ref a, c] ∧ cls = .ref C ∧ d = some dd ∧ H dd = some (.xd fs) ∧ ClsV c cv ∧ kitOne K (.ref C) cv = some b ∧ Q (.bl b) H
theorem call_isD {a : Addr} {oe : Obj} {cls : Value} {d : Option Addr} {pn : List (Addr × Obj)} (T : EC X.prog X.w X.K X.mg nm C) (hz : Zc cls d oe) (hf : ∃ vs, oe.data = .fields vs) : CallR (X.suite a ((a, oe) :: pn)) (.builtin "isinstance") (rIsD X.K C a cls d) := by
  intro pins s σ H xs us Q I r h
  obtain ⟨c, cv, b, dd, fs, rfl, rfl, rfl, hdd, k, e, q⟩ := h
  obtain ⟨u1, u2, rfl, r1, r2⟩ := vals2 r
  obtain rfl : u2 = cv := k.eq r2
  obtain rfl : u1 = Value.ref a := r1
  have pinned := (I.pin (a, oe) (List.mem_append.mpr (.inl List.mem_cons_self))).1
  have hx : ObjOk X.prog X.w H s.heap dd (.xd fs) := I.hok dd _ hdd
  obtain ⟨mA, hns, _⟩ := hx
  obtain ⟨od, hod, _⟩ := lookIn_ns hns
  have J : InstAt s.heap a oe C (some od) := by
    obtain ⟨c0, d0, da, sl⟩ := oe
    obtain ⟨h1, h2⟩ := hz
    obtain ⟨vs, hv⟩ := hf
    dsimp only at h1 h2 hv
    subst h1 h2 hv
    exact ⟨pinned, rfl, rfl, hod⟩
  exact kia_one (kitx_exc T.iso T.ga T.gg T.ex T.ha T.hn T.ht T.hm) I.kIn J e (fun z => nomatch z) fun tk => ⟨.bl b, H, I.tok tk, rfl, q⟩
end
theorem scMisused : FnScope ["_law_deed", "_law_found", "e"] ["_law_deed"] (defScope sMisused) := ⟨rfl, rfl, rfl, by decide +kernel, rfl, by decide +kernel, by decide +kernel⟩
/-- the deed raises the error of the class at CP, which says nothing -/
def TMis (CP : Addr) : (XK → Hp → VK → Prop) → Hp → VK → Prop := fun tl H Q =>
  tl (fun cls d H' => cls = .ref CP ∧ ∃ (dd : Addr) (fs : List (Str × V)), d = some dd ∧ H' dd = some (.xd fs) ∧ fs.lookup fld = some .non ∧ Q (.bl true) H') H fun _ H' => Q (.bl false) H'
section
variable {X : Cx} {CP CD CE : Addr}
theorem takes_len {X : Cx} {W : WX} (tk : Takes X W) : Takes X fun cls d σ H => σ.length = X.N.length → W cls d σ H := fun u s' ⟨a, B, sI, pins, σ, H, cls, d, e, I, nb, up, sky, na, os, ag, w⟩ => tk u s' ⟨a, B, sI, pins, σ, H, cls, d, e, I, nb, up, sky, na, os, ag, w I.len⟩
theorem misused_gives {g : Addr} {cdg : Value} {q : Str} (TP : EC X.prog X.w X.K X.mg "ProgrammingError" CP) (gD : X.mg "DatabaseError" = some (.ref CD)) (gE : X.mg "Error" = some (.ref CE)) (mi : X.mg "isinstance" = none)
    (exP : exmOne X.K (.ref CP) (.ref CP) = some true) (kiD : kitOne X.K (.ref CP) (.ref CD) = some true) : GivesTo X ["_law_deed", "_law_found", "e"] "_law_misused" (defScope sMisused) g cdg (defBody sMisused) "_law_deed" q (TMis CP) := by
  intro f c' s H Q tl act hc h
  refine ⟨_, pss_cons (ps_set (i := 1) scMisused.nd rfl (.inl rfl) pe_bl)
    (pss_cons (ps_try_twoAs (X := (cxOf C8.CX0 X.prog X.w X.K X.mg X.base ["_law_deed", "_law_found", "e"] "_law_misused" (defScope sMisused) g cdg X.A X.stack s H C8.E0).nox) (i := 2) (Wout := fun _ _ _ _ => False)
      (tb := fun W D σ H => ∃ Ech : XK, (∀ cls d σ' H', Ech cls d H' → List.length σ' = 3 → W cls d σ' H') ∧ σ[0]? = some (some (.ref f)) ∧ H c' = some (CodeO c' q) ∧ tl Ech H fun _ H' => D.nx σ H') rfl rfl scMisused.nd rfl rfl L2.takes0 (fun W pn xe tk _ => ?body)
      (.more (c := .ref CP) ⟨rfl, by decide, .inl TP.g⟩ (fun z oz cls d pn hz hf => pss_one (ps_set (i := 1) scMisused.nd rfl (.inl rfl)
          (pe_and (pe_callB (call_isD TP hz hf) (by rfl) mi boot_isinstance (pa_cons (pv 2) (pa_cons (pe_glob (v := .ref CD) (by rfl) gD rfl) pa_nil))) (pe_one (pe_cmpR op_isN (pe_xf ⟨TP.ga, TP.gg, TP.ex, TP.cl.hd⟩ TP.no hz hf (pv 2)) pe_non (nomark _))))))
        (.more (c := .ref CE) ⟨rfl, by decide, .inl gE⟩ (fun z oz cls d pn hz hf => pss_one (ps_set (i := 1) scMisused.nd rfl (.inl rfl) pe_bl)) .none)))
    (pss_one (ps_ret (pv 1)))), ?read⟩
  case body =>
    refine ⟨fun pins s' σ H' D I h' => ?_⟩
    obtain ⟨Ech, hW, h1, h2, h3⟩ := h'
    exact (pss_one (ps_expr (act _ pn xe Ech _ _ (takes_len tk) hW))).run pins s' σ H' D I ⟨h1, h2, h3⟩
  case read =>
    refine ⟨fun cls d H' => cls = .ref CP ∧ ∃ (dd : Addr) (fs : List (Str × V)), d = some dd ∧ H' dd = some (.xd fs) ∧ fs.lookup fld = some .non ∧ Q (.bl true) H', fun cls d σ' H' hw hl3 => ?_, rfl, hc, ?_⟩
    · match σ', hl3 with
      | [s0, s1, s2], _ => ?_
      obtain ⟨rfl, dd, fs, rfl, hdd, hl, hq⟩ := hw
      refine ⟨true, exP, fun _ z nz => ?_, fun e => Bool.noConfusion e⟩
      exact ⟨.ref z, rfl, .ref CD, .ref CD, true, dd, fs, rfl, rfl, rfl, hdd, .own CD, kiD, true, rfl, iteT ⟨.ref z, rfl, rfl, rfl, dd, fs, .non, rfl, hdd, hl, rfl, .bl true, rfl, hq⟩⟩
    · have e : (fun (_ : V) (H' : Hp) => ∃ v : V, (some (some (V.bl false)) : Option (Option V)) = some (some v) ∧ Q v H') = fun _ H' => Q (.bl false) H' := funext fun _ => funext fun H' => propext ⟨fun ⟨v, e1, e2⟩ => by
        obtain rfl := Option.some.inj (Option.some.inj e1)
        exact e2, fun z => ⟨_, rfl, z⟩⟩
      have h2 := h
      unfold TMis at h2
      rw [← e] at h2
      exact h2
end
end Err

/-! max(xs, default=d); one expression under two rules. -/
namespace Lk
open PySem PySem.Spec PyProof.Rows L2 Drw
def rMaxD (K : PySem.W.Frag) : List V → List V → Hp → VK → Prop := fun vs zs H Q => ∃ (a : Addr) (ns : List Int) (d : Int), vs = [.ref a] ∧ zs = [.int d] ∧ SqL K H a (ns.map V.int) ∧ (ns = [] → Q (.int d) H) ∧ ∀ m ∈ ns, (∀ y ∈ ns, y ≤ m) → Q (.int m) H
section
variable {X : Cx}
theorem maxOf_spec : ∀ (y : Int) (ys : List Int), PySem.W.maxOf y ys ∈ y :: ys ∧ ∀ z ∈ y :: ys, z ≤ PySem.W.maxOf y ys := by
  intro y ys
  have key : ∀ (l : List Int) (x : Int), (l.foldl (fun a z => if PySem.W.DatumOrd.lt a z = true then z else a) x) ∈ x :: l ∧ ∀ z ∈ x :: l, z ≤ l.foldl (fun a z => if PySem.W.DatumOrd.lt a z = true then z else a) x := by
    intro l
    induction l with
    | nil => exact fun x => ⟨List.mem_singleton.mpr rfl, fun z hz => by
        rw [List.mem_singleton.mp hz]
        exact Int.le_refl _⟩
    | cons b l ih =>
      intro x
      rw [List.foldl_cons]
      by_cases h : PySem.W.DatumOrd.lt x b = true
      · rw [if_pos h]
        have hb : x < b := of_decide_eq_true h
        obtain ⟨h1, h2⟩ := ih b
        refine ⟨List.mem_cons_of_mem _ h1, fun z hz => ?_⟩
        rcases List.mem_cons.mp hz with rfl | hz
        · exact Int.le_trans (Int.le_of_lt hb) (h2 b (List.mem_cons_self ..))
        · exact h2 z hz
      · rw [if_neg h]
        have hb : ¬ x < b := fun z => h (decide_eq_true z)
        obtain ⟨h1, h2⟩ := ih x
        refine ⟨?_, fun z hz => ?_⟩
        · rcases List.mem_cons.mp h1 with h | h
          · rw [h]
            exact List.mem_cons_self ..
          · exact List.mem_cons_of_mem _ (List.mem_cons_of_mem _ h)
        · rcases List.mem_cons.mp hz with rfl | hz
          · exact h2 z (List.mem_cons_self ..)
          · rcases List.mem_cons.mp hz with rfl | hz
            · exact Int.le_trans (by omega) (h2 x (List.mem_cons_self ..))
            · exact h2 z (List.mem_cons_of_mem _ hz)
  exact key ys y
theorem cr_maxD (hc : X.calm = true) (hu : X.A.units + 1 < cLine) : CallRK X (.builtin "max") [Str.ofString "default"] (rMaxD X.K) := by
  intro pins s σ H vs zs us ws Q I r rz h
  obtain ⟨a, ns, d, rfl, rfl, hs, q0, q1⟩ := h
  obtain rfl := Vals.ref1 r
  obtain ⟨w1, rfl, e1⟩ := vals1 rz
  obtain ⟨its, rv, hl, _⟩ := I.list hs
  refine PySem.W.max_list_datum_default (xs := ns) (I.ok.hd hc) hl.isList (PySem.W.HoldAll.of_ints rv.ints) (by show X.A.units + 1 + 0 < cLine; omega) (fun e h' tk k => ⟨.int d, H, I.kept k, e1, q0 e⟩) fun y ys i v h' tk e hv hh k => ?_
  subst e
  obtain ⟨m1, m2⟩ := maxOf_spec y ys
  obtain ⟨as, rd⟩ := hh
  refine ⟨.int (PySem.W.maxOf y ys), H, I.kept k, ?_, q1 _ m1 m2⟩
  cases rd
  exact ⟨_, rfl⟩
/-- under either rule -/
theorem pe_two {e : Expr} {t u : TE} (h1 : PE X e t) (h2 : PE X e u) : PE X e fun σ H Q => t σ H Q ∨ u σ H Q := ⟨fun pins s σ H Q I h => h.elim (h1.run pins s σ H Q I) (h2.run pins s σ H Q I)⟩
theorem pi_two {tg l : Expr} {t u : TI} (h1 : PI X tg l t) (h2 : PI X tg l u) : PI X tg l fun σ H R => t σ H R ∨ u σ H R := ⟨fun pins s σ H R I h => h.elim (h1.run pins s σ H R I) (h2.run pins s σ H R I)⟩
theorem pg_two {tg : Expr} {t u : TG} (h1 : PG X tg t) (h2 : PG X tg u) : PG X tg fun v σ H Q => t v σ H Q ∨ u v σ H Q := ⟨fun pins s σ H v w Q I r h => h.elim (h1.run pins s σ H v w Q I r) (h2.run pins s σ H v w Q I r)⟩
end
structure Can (P : Program) (w : World) (K : PySem.W.Frag) (mg : Str → Option Value) (base : Heap) (CX : CXT) (k : Nat) (name : Str) (ps : List Str) (sp : Sp) (f : Addr) (fd : FuncData) : Prop where
  G : FnOk P w K mg base CX k f fd ps sp
  g : mg name = some (.ref f)
  kp : PySem.W.keepIn K (.ref f) = true
  b : Binds K fd ps []
end Lk

/-! The program's small defs about locks and steps. -/
namespace Lk
open PySem PySem.Spec PyProof.Rows L2 Drw
theorem scOpenB : FnScope ["step", "opened"] ["step", "opened"] (defScope sOpenB) := ⟨rfl, rfl, rfl, by decide +kernel, rfl, by decide +kernel, by decide +kernel⟩
theorem scReadB : FnScope ["step", "reads"] ["step", "reads"] (defScope sReadB) := ⟨rfl, rfl, rfl, by decide +kernel, rfl, by decide +kernel, by decide +kernel⟩
theorem scMay : FnScope ["step", "opened", "reads"] ["step", "opened", "reads"] (defScope sMay) := ⟨rfl, rfl, rfl, by decide +kernel, rfl, by decide +kernel, by decide +kernel⟩
def sp2I (g : Int → Int → V) : Sp := fun vs H Q _ => ∃ a b : Int, vs = [.int a, .int b] ∧ ∀ H', Al H H' → Q (g a b) H'
def sp1I (g : Int → V) : Sp := fun vs H Q _ => ∃ a : Int, vs = [.int a] ∧ ∀ H', Al H H' → Q (g a) H'
def shR (held other : Int) : Bool := decide (held < 1) && decide (other ≥ 3)
def spIdle : Sp := fun vs H Q _ => ∃ b : Bool, vs = [.bl b] ∧ ∀ H', Al H H' → Q (.int (if b = true then 1 else 0)) H'
def spWB (g : Str → Bool → Bool) : Sp := fun vs H Q _ => ∃ (w : Str) (b : Bool), vs = [.str w, .bl b] ∧ ∀ H', Al H H' → Q (.bl (g w b)) H'
def opening : List Str := ["begin", "immediate", "exclusive"]
def ending : List Str := ["commit", "rollback"]
def anywhere : List Str := ["read", "write"]
theorem inW_mem {w : Str} {l : List Str} : inW w l = true ↔ w ∈ l := by
  unfold inW inV
  rw [List.any_map, List.any_eq_true]
  constructor
  · rintro ⟨x, hx, e⟩
    have e2 : eqV (.str x) (.str w) = true := e
    have e3 : (x == w) = true := e2
    rwa [← beq_iff_eq.mp e3]
  · intro h
    exact ⟨w, h, (beq_self_eq_true w : (w == w) = true)⟩
theorem not_inW {w : Str} {l : List Str} (h : ¬ w ∈ l) : inW w l = false := Bool.eq_false_iff.mpr fun z => h (inW_mem.mp z)
/-- as the program says it -/
theorem opnP (w : Str) (o : Bool) : (inW w opening || (o && !inW w ending)) = opnB w o := by
  unfold opnB
  by_cases h : w ∈ opening
  · have h2 : ¬ w ∈ ending := by
      have z := h
      simp only [opening, List.mem_cons, List.not_mem_nil, or_false] at z
      rcases z with rfl | rfl | rfl <;> decide +kernel
    rw [inW_mem.mpr h, show inW w ["commit", "rollback"] = false from not_inW h2, show inW w ["begin", "immediate", "exclusive"] = true from inW_mem.mpr h, Bool.or_true]
    rfl
  · rw [not_inW h, show inW w ["begin", "immediate", "exclusive"] = false from not_inW h, Bool.or_false, Bool.false_or, Bool.and_comm]
    rfl
theorem rdsP (w : Str) (r : Bool) : (decide (w = "start") || (r && !decide (w = "stop"))) = rdsB w r := by
  unfold rdsB
  by_cases h : w = "start"
  · subst h
    rw [decide_eq_true rfl, show decide ((Str.ofString "start") = (Str.ofString "stop")) = false by decide +kernel, Bool.or_true]
    rfl
  · rw [decide_eq_false h, Bool.or_false, Bool.false_or, Bool.and_comm]
section
variable {P : Program} {w : World} {K : PySem.W.Frag} {mg : Str → Option Value} {base : Heap} {t0 t1 t2 t3 t4 : Nat}
theorem ok_openB {f aO aE : Addr} {fd : FuncData} (F : Fun K "is_open_behind" "is_open_behind" sOpenB f fd) (gO : mg "OPENING" = some (.ref aO)) (lO : ∀ H, SqT K H aO (opening.map V.str)) (gE : mg "ENDING" = some (.ref aE)) (lE : ∀ H, SqT K H aE (ending.map V.str)) : FnOk P w K mg base CX0 1 f fd ["step", "opened"] (spWB opnB) := by
  refine F.ok scOpenB (fun vs H Q E h => ?_) (fun cdv A outer s H vs Q E hr h => ?_)
  · obtain ⟨x, b, rfl, _⟩ := h
    rfl
  · obtain ⟨x, b, rfl, q⟩ := h
    refine ⟨_, pss_one (ps_ret (pe_or (pe_cmpR op_in_seq (pv 0) (pe_glob (v := .ref aO) (by rfl) gO rfl) rfl) (pe_one (pe_and (pv 1) (pe_one (pe_cmpR op_notIn_seq (pv 0) (pe_glob (v := .ref aE) (by rfl) gE rfl) rfl)))))), ?_⟩
    have z := q H Al.refl
    rw [← opnP] at z
    refine ⟨.str x, rfl, aO, _, rfl, .inr (lO H), rfl, rfl, inW x opening, rfl, ite2 (fun e => ?_) (fun e => ?_)⟩
    · rw [e] at z
      exact z
    · rw [Bool.eq_false_iff.mpr e, Bool.false_or] at z
      refine ⟨.bl b, rfl, b, rfl, ?_⟩
      cases b with
      | false => exact iteF z
      | true => exact iteT ⟨.str x, rfl, aE, _, rfl, .inr (lE H), rfl, rfl, z⟩
theorem ok_readB {f : Addr} {fd : FuncData} (F : Fun K "is_reading_behind" "is_reading_behind" sReadB f fd) : FnOk P w K mg base CX0 1 f fd ["step", "reads"] (spWB rdsB) := by
  refine F.ok scReadB (fun vs H Q E h => ?_) (fun cdv A outer s H vs Q E hr h => ?_)
  · obtain ⟨x, b, rfl, _⟩ := h
    rfl
  · obtain ⟨x, b, rfl, q⟩ := h
    refine ⟨_, pss_one (ps_ret (pe_or (pe_cmpR op_eq (pv 0) pe_str (nomark _)) (pe_one (pe_and (pv 1) (pe_one (pe_cmpR op_ne (pv 0) pe_str (nomark _))))))), ?_⟩
    have z := q H Al.refl
    rw [← rdsP, ← eq_str, ← eq_str] at z
    refine ⟨.str x, rfl, rfl, _, rfl, ite2 (fun e => ?_) (fun e => ?_)⟩
    · rw [e] at z
      exact z
    · rw [Bool.eq_false_iff.mpr e, Bool.false_or] at z
      refine ⟨.bl b, rfl, b, rfl, ?_⟩
      cases b with
      | false => exact iteF z
      | true => exact iteT ⟨.str x, rfl, rfl, z⟩
end
end Lk

namespace Lk
open PySem PySem.Spec PyProof.Rows L2 Drw
/-- whether a step may stand there -/
def mayB (w : Str) (o r : Bool) : Bool :=
  if inW w opening = true then !o else if inW w ending = true then o else if decide (w = "start") = true then !r else if decide (w = "stop") = true then r else inW w anywhere
def spMay : Sp := fun vs H Q _ => ∃ (w : Str) (o r : Bool), vs = [.str w, .bl o, .bl r] ∧ ∀ H', Al H H' → Q (.bl (mayB w o r)) H'
/-- whether a step is refused, as the program says it -/
def refP (w : Str) (o : Bool) (held other : Int) : Bool :=
  if decide (w = "commit") = true then decide (held ≥ 2) && decide (other ≥ 1)
  else if inW w ["read", "start"] = true then shR held other
  else if (decide (w = "exclusive") || (decide (w = "write") && !o)) = true then decide (other ≥ 1)
  else inW w ["immediate", "write"] && decide (other ≥ 2)
section
variable {P : Program} {w : World} {K : PySem.W.Frag} {mg : Str → Option Value} {base : Heap} {t0 t1 t2 t3 t4 : Nat}
theorem ok_may {f aO aE aA : Addr} {fd : FuncData} (F : Fun K "_may_stand" "_may_stand" sMay f fd) (gO : mg "OPENING" = some (.ref aO)) (lO : ∀ H, SqT K H aO (opening.map V.str)) (gE : mg "ENDING" = some (.ref aE)) (lE : ∀ H, SqT K H aE (ending.map V.str))
    (gA : mg "ANYWHERE" = some (.ref aA)) (lA : ∀ H, SqT K H aA (anywhere.map V.str)) : FnOk P w K mg base CX0 1 f fd ["step", "opened", "reads"] spMay := by
  refine F.ok scMay (fun vs H Q E h => ?_) (fun cdv A outer s H vs Q E hr h => ?_)
  · obtain ⟨x, o, r, rfl, _⟩ := h
    rfl
  · obtain ⟨x, o, r, rfl, q⟩ := h
    refine ⟨_, pss_cons (ps_if (pt_cmpR op_in_seq (pv 0) (pe_glob (v := .ref aO) (by rfl) gO rfl) rfl) (pss_one (ps_ret (pe_not (pv 1)))) pss_nil)
      (pss_cons (ps_if (pt_cmpR op_in_seq (pv 0) (pe_glob (v := .ref aE) (by rfl) gE rfl) rfl) (pss_one (ps_ret (pv 1))) pss_nil)
      (pss_cons (ps_if (pt_cmpR op_eq (pv 0) pe_str (nomark _)) (pss_one (ps_ret (pe_not (pv 2)))) pss_nil)
      (pss_one (ps_ret (pe_ifExp (pt_cmpR op_eq (pv 0) pe_str (nomark _)) (pv 2) (pe_cmpR op_in_seq (pv 0) (pe_glob (v := .ref aA) (by rfl) gA rfl) rfl)))))), ?_⟩
    have z : Q (.bl (mayB x o r)) H := q H Al.refl
    unfold mayB at z
    refine ⟨.str x, rfl, aO, _, rfl, .inr (lO H), rfl, rfl, inW x opening, rfl, ite2 (fun e => ?_) (fun e => ?_)⟩
    · rw [if_pos e] at z
      exact ⟨.bl o, rfl, o, rfl, z⟩
    · rw [if_neg e] at z
      refine ⟨.str x, rfl, aE, _, rfl, .inr (lE H), rfl, rfl, inW x ending, rfl, ite2 (fun e2 => ?_) (fun e2 => ?_)⟩
      · rw [if_pos e2] at z
        exact ⟨.bl o, rfl, z⟩
      · rw [if_neg e2] at z
        refine ⟨.str x, rfl, rfl, _, rfl, ite2 (fun e3 => ?_) (fun e3 => ?_)⟩
        · rw [if_pos (eq_str.symm.trans e3)] at z
          exact ⟨.bl r, rfl, r, rfl, z⟩
        · rw [if_neg fun y => e3 (eq_str.trans y)] at z
          refine ⟨.str x, rfl, rfl, _, rfl, ite2 (fun e4 => ?_) (fun e4 => ?_)⟩
          · rw [if_pos (eq_str.symm.trans e4)] at z
            exact ⟨.bl r, rfl, z⟩
          · rw [if_neg fun y => e4 (eq_str.trans y)] at z
            exact ⟨.str x, rfl, aA, _, rfl, .inr (lA H), rfl, rfl, z⟩
end
end Lk

/-! Scripts and states as they are handed in: lists or tuples of lists or tuples. -/
namespace Lk
open PySem PySem.Spec PyProof.Rows L2 Drw Err
/-- a list or a tuple -/
def Sq (K : PySem.W.Frag) (H : Hp) (a : Addr) (xs : List V) : Prop := SqL K H a xs ∨ SqT K H a xs
theorem sqL_al {K : PySem.W.Frag} {H H' : Hp} {a : Addr} {xs : List V} (h : SqL K H a xs) (k : Al H H') : SqL K H' a xs := by
  rcases h with (h | ⟨o, h⟩) | h
  · exact .inl (.inl (k _ _ h))
  · exact .inl (.inr ⟨o, k _ _ h⟩)
  · exact .inr h
theorem sqT_al {K : PySem.W.Frag} {H H' : Hp} {a : Addr} {xs : List V} (h : SqT K H a xs) (k : Al H H') : SqT K H' a xs := by
  rcases h with (h | ⟨o, h⟩) | h
  · exact .inl (.inl (k _ _ h))
  · exact .inl (.inr ⟨o, k _ _ h⟩)
  · exact .inr h
theorem Sq.al {K : PySem.W.Frag} {H H' : Hp} {a : Addr} {xs : List V} (h : Sq K H a xs) (k : Al H H') : Sq K H' a xs := h.imp (fun h => sqL_al h k) fun h => sqT_al h k
/-- a list or tuple of such -/
def Deep (K : PySem.W.Frag) (H : Hp) (a : Addr) (ks : List (List V)) : Prop := ∃ xs, Sq K H a xs ∧ xs.length = ks.length ∧ ∀ (i : Nat) (k : List V), ks[i]? = some k → ∃ b, xs[i]? = some (.ref b) ∧ Sq K H b k
theorem Deep.al {K : PySem.W.Frag} {H H' : Hp} {a : Addr} {ks : List (List V)} (h : Deep K H a ks) (k : Al H H') : Deep K H' a ks := by
  obtain ⟨xs, h1, h2, h3⟩ := h
  refine ⟨xs, h1.al k, h2, fun i c e => ?_⟩
  obtain ⟨b, e1, e2⟩ := h3 i c e
  exact ⟨b, e1, e2.al k⟩
theorem Kids.deep {K : PySem.W.Frag} {H : Hp} {a : Addr} {ks : List (List V)} (h : Kids H a ks) : Deep K H a ks := by
  obtain ⟨xs, h1, h2, h3⟩ := h
  refine ⟨xs, .inr (sqt h1), h2, fun i c e => ?_⟩
  obtain ⟨b, e1, e2⟩ := h3 i c e
  exact ⟨b, e1, .inr (sqt e2)⟩
/-- a list of tuples -/
def Chk (K : PySem.W.Frag) (H : Hp) (a : Addr) (ks : List (List V)) : Prop := ∃ xs, H a = some (.lst xs) ∧ xs.length = ks.length ∧ ∀ (i : Nat) (k : List V), ks[i]? = some k → ∃ b, xs[i]? = some (.ref b) ∧ SqT K H b k
theorem Chk.al {K : PySem.W.Frag} {H H' : Hp} {a : Addr} {ks : List (List V)} (h : Chk K H a ks) (k : Al H H') : Chk K H' a ks := by
  obtain ⟨xs, h1, h2, h3⟩ := h
  refine ⟨xs, k _ _ h1, h2, fun i c e => ?_⟩
  obtain ⟨b, e1, e2⟩ := h3 i c e
  exact ⟨b, e1, sqT_al e2 k⟩
/-- whether steps may follow one another -/
def okS : List Str → Bool → Bool → Bool
  | [], _, _ => true
  | w :: ws, o, r => mayB w o r && okS ws (opnB w o) (rdsB w r)
theorem scCheckedOne : FnScope ["script", "opened", "reads", "step"] ["script"] (defScope sCheckedOne) := ⟨rfl, rfl, rfl, by decide +kernel, rfl, by decide +kernel, by decide +kernel⟩
theorem scChecked : FnScope ["scripts", "script"] ["scripts"] (defScope sChecked) := ⟨rfl, rfl, rfl, by decide +kernel, rfl, by decide +kernel, by decide +kernel⟩
def isInt : V → Bool
  | .int _ => true
  | _ => false
/-- a value whose kind is known, no own instance -/
inductive Kind (H : Hp) : V → String → Prop
  | non : Kind H .non "NoneType"
  | bl (b : Bool) : Kind H (.bl b) "bool"
  | int (i : Int) : Kind H (.int i) "int"
  | str (s : Str) : Kind H (.str s) "str"
  | lst {a : Addr} {xs : List V} (e : H a = some (.lst xs)) : Kind H (.ref a) "list"
  | tup {a : Addr} {xs : List V} (e : H a = some (.tup xs)) : Kind H (.ref a) "tuple"
  | dct {a : Addr} {kvs : List (Key × V)} (e : H a = some (.dK kvs)) : Kind H (.ref a) "dict"
theorem Kind.ty {K : PySem.W.Frag} {H : Hp} {x : V} {t : String} (l : Kind H x t) : TyX K H x (.type t) := by
  cases l with
  | non => exact .base .non
  | bl b => exact .base (.bl b)
  | int i => exact .base (.int i)
  | str s => exact .base (.str s)
  | lst e => exact .base (.lst e)
  | tup e => exact .base (.tup e)
  | dct e => exact .base (.dK e)
section
variable {P : Program} {w : World} {K : PySem.W.Frag} {mg : Str → Option Value} {base : Heap} {t0 t1 t2 t3 t4 : Nat}
end
end Lk

namespace Err
open PySem PySem.W PySem.Calls PyProof.Rows PySem.Spec L2
/-- raise C(): nothing handed in -/
theorem pmk_err0 {X : Cx} {C : Addr} {nm : Str} {p pos : Pos} {k : Nat} (T : EC X.prog X.w X.K X.mg nm C) (hr : Room k X.A) (hg : Gl X nm) (hdb : (nm == ("__debug__" : Str)) = false := by decide) : PMk X (.Call (.Name nm p) [] [] pos) (tMkR C tNil) := by
  intro pins s1 σ H1 Q I1 h
  obtain ⟨v, hv, q⟩ := h
  obtain rfl : v = .non := by
    rcases hv with h | ⟨_, h⟩
    · cases h
    · exact h
  refine wpAny_Call_Name_kw (ld_glob I1 hg T.g ?_ hdb)
  refine callWith_K0 I1.kIn T.kC ?_
  refine wpAny_call (made T (us := []) (v := .none) (stands I1 T.su) (.inr ⟨rfl, rfl⟩) (room4 hr) fun h' tk e dx t1 M => ?_)
  have ru : RelV .non Value.none := rfl
  obtain ⟨G, g1, g2⟩ := restrict h' fun b => decide (b ≠ e)
  have gk : ∀ b, b ≠ e → G.get? b = h'.get? b := fun b hb => g1 b (decide_eq_true hb)
  have ge : G.get? e = none := g2 e (by simp)
  have old : ∀ b o, s1.heap.get? b = some o → G.get? b = some o := fun b o q => (gk b (Nat.ne_of_lt (Nat.lt_of_lt_of_le (Heap.lt_size q) M.new))).trans (M.old b o q)
  have nsG : G.Ns1 dx (fun y => if y = fld then some Value.none else none) := M.cell.at fun o q => (gk dx M.off).trans q
  have new : ObjOk X.prog X.w (upd H1 dx (.xd [(fld, .non)])) G dx (.xd [(fld, .non)]) := ⟨_, nsG, relO_put (fs := []) ru fun g => True.intro⟩
  have J := I1.laid (t' := tk) (a := dx) (o := .xd [(fld, .non)]) (h' := G) old M.big new
  refine ⟨e, _, _, { s1 with heap := G, toks := tk }, _, .ref C, some dx, rfl, J, fun b o q => ?_, ge, M.here, ⟨rfl, rfl⟩, rfl, rfl, ?_, rfl, I1.bare, raises_own T.ex T.ty, q dx (I1.hok.fresh M.big)⟩
  · by_cases hb : b = e
    · have q' : G.get? b = some o := q
      rw [hb, ge] at q'
      cases q'
    · exact (gk b hb).symm.trans q
  · rw [upd_ne (Ne.symm M.off)]
    exact I1.hok.fresh M.new
end Err
namespace Lk
open PySem PySem.Spec PyProof.Rows L2 Drw Err
theorem Sq.ty {K : PySem.W.Frag} {H : Hp} {a : Addr} {xs : List V} (h : Sq K H a xs) : ∃ t : String, (t = "list" ∨ t = "tuple") ∧ TyX K H (.ref a) (.type t) := by
  rcases h with ((h | ⟨o, h⟩) | ⟨o, its, n, h, c, _⟩) | ((h | ⟨o, h⟩) | ⟨o, its, n, h, c, _⟩)
  · exact ⟨_, .inl rfl, .base (.lst h)⟩
  · exact ⟨_, .inl rfl, .base (.frz h)⟩
  · exact ⟨_, .inl rfl, .kList h c⟩
  · exact ⟨_, .inr rfl, .base (.tup h)⟩
  · exact ⟨_, .inr rfl, .fTuple h⟩
  · exact ⟨_, .inr rfl, .kTuple h c⟩
theorem no1 {K : PySem.W.Frag} {t c : Value} {cs : List Value} {r : Bool} (h : PySem.W.kitOne K t c = some false) (hr : PySem.W.kitAny K t cs = some r) : PySem.W.kitAny K t (c :: cs) = some r :=
  kitAny_cons h (fun _ => hr) (fun z => Bool.noConfusion z)
theorem yes1 {K : PySem.W.Frag} {t c : Value} {cs : List Value} (h : PySem.W.kitOne K t c = some true) : PySem.W.kitAny K t (c :: cs) = some true :=
  kitAny_cons h (fun z => Bool.noConfusion z) (fun _ => rfl)
theorem lt2 {K : PySem.W.Frag} {t : String} (h : t = "list" ∨ t = "tuple") : PySem.W.kitAny K (.type t) [.type "list", .type "tuple"] = some true := by
  rcases h with rfl | rfl
  · exact yes1 (kit_ty (by decide +kernel))
  · exact no1 (kit_ty (by decide +kernel)) (yes1 (kit_ty (by decide +kernel)))
def spOneOk (K : PySem.W.Frag) : Sp := fun vs H Q _ => ∃ (a : Addr) (ws : List Str), vs = [.ref a] ∧ Sq K H a (wordsV ws) ∧ ws.length ≤ 8 ∧ okS ws false false = true ∧ ∀ H' b, Al H H' → SqT K H' b (wordsV ws) → Q (.ref b) H'
section
variable {P : Program} {w : World} {K : PySem.W.Frag} {mg : Str → Option Value} {base : Heap} {t0 t1 t2 t3 t4 : Nat} {CP : Addr}
theorem ok_checkedOne {f fM fO fR : Addr} {fd dM dO dR : FuncData} (F : Fun K "_checked_script" "_checked_script" sCheckedOne f fd) (T : EC P w K mg "ProgrammingError" CP) (M : Can P w K mg base CX0 1 "_may_stand" ["step", "opened", "reads"] spMay fM dM)
    (O : Can P w K mg base CX0 1 "is_open_behind" ["step", "opened"] (spWB opnB) fO dO) (R : Can P w K mg base CX0 1 "is_reading_behind" ["step", "reads"] (spWB rdsB) fR dR) (c8 : mg "MOST_STEPS" = some (.int 8 t0))
    (mi : mg "isinstance" = none) (ml : mg "len" = none) (m_list : mg "list" = none) (m_tuple : mg "tuple" = none) : FnOk P w K mg base CX0 2 f fd ["script"] (spOneOk K) := by
  refine F.ok scCheckedOne (fun vs H Q E h => ?_) (fun cdv A outer s H vs Q E hr h => ?_)
  · obtain ⟨a, ws, rfl, _⟩ := h
    rfl
  · obtain ⟨a, ws, rfl, hq, h8, ok, q⟩ := h
    refine ⟨_, pss_cons (ps_if (PW.pt (pw_or (pt_not (pt_val (pe_callB call_isiT (by rfl) mi boot_isinstance (pa_cons (pv 0) (pa_cons (pe_tup (pa_cons (pe_bltn (v := .ty "list") (by rfl) m_list (by decide +kernel) rfl) (pa_cons (pe_bltn (v := .ty "tuple") (by rfl) m_tuple (by decide +kernel) rfl) pa_nil))) pa_nil)))))
          (pw_or1 (pt_cmpR op_gt (pe_callB call_len_seq (by rfl) ml PySem.boot_len (pa_cons (pv 0) pa_nil)) (pe_glob (v := .int 8) (by rfl) c8 ⟨t0, rfl⟩) (nomark _))))) (pss_one (ps_raise rfl L2.takes0 (pmk_err0 T hr (by rfl)))) pss_nil)
      (pss_cons (ps_set (i := 1) scCheckedOne.nd rfl (.inl rfl) pe_bl)
      (pss_cons (ps_set (i := 2) scCheckedOne.nd rfl (.inl rfl) pe_bl)
      (pss_cons (ps_for PassesOwn.never rfl (pi_two (pi_list (pv 0)) (pi_tup (pv 0))) (pg_name (i := 3) scCheckedOne.nd rfl (Or.inl rfl))
        (pss_cons (ps_if (pt_not (pt_val (pe_call M.G hr (by rfl) M.g M.kp M.b .nil pass0 (pa_cons (pv 3) (pa_cons (pv 1) (pa_cons (pv 2) pa_nil)))))) (pss_one (ps_raise rfl L2.takes0 (pmk_err0 T hr (by rfl)))) pss_nil)
        (pss_cons (ps_set (i := 1) scCheckedOne.nd rfl (.inl rfl) (pe_call O.G hr (by rfl) O.g O.kp O.b .nil pass0 (pa_cons (pv 3) (pa_cons (pv 1) pa_nil))))
        (pss_one (ps_set (i := 2) scCheckedOne.nd rfl (.inl rfl) (pe_call R.G hr (by rfl) R.g R.kp R.b .nil pass0 (pa_cons (pv 3) (pa_cons (pv 2) pa_nil))))))))
      (pss_one (ps_ret (pe_callTy call_tuple_of (by rfl) m_tuple (by decide +kernel) (pa_cons (pv 0) pa_nil))))))), ?_⟩
    have wl : (wordsV ws).length = ws.length := List.length_map _
    refine ⟨.ref a, rfl, by show 2 ≤ sizeLine; decide, fun tp ntp => ?_⟩
    have k1 := (Al.refl (H := H)).new (o := .tup [.ty "list", .ty "tuple"]) ntp
    have q1 := hq.al k1
    obtain ⟨t, ht, ty⟩ := q1.ty
    refine ⟨.ref a, tp, _, .type t, _, true, rfl, upd_same, .cons (.ty _) (.cons (.ty _) .nil), ty, lt2 ht, true, rfl, iteF ?_⟩
    refine ⟨.ref a, rfl, a, _, rfl, q1, _, _, rfl, rfl, _, rfl, ?_⟩
    rw [decide_eq_false (by rw [wl]; omega)]
    refine iteF ?_
    generalize eK : upd H tp (.tup [.ty "list", .ty "tuple"]) = H1 at k1 q1
    have start : ∃ (o r : Bool) (y : Option V), [some (.ref a), some (.bl false), some (.bl false), none] = [some (.ref a), some (.bl o), some (.bl r), y] ∧ okS (ws.drop 0) o r = true ∧ Al H1 H1 := ⟨false, false, none, rfl, ok, Al.refl⟩
    refine q1.elim (fun hL => .inl ⟨.ref a, rfl, a, rfl, ⟨_, hL⟩, for_list (xs := wordsV ws) (fun i σ H2 => ∃ (o r : Bool) (y : Option V), σ = [some (.ref a), some (.bl o), some (.bl r), y] ∧ okS (ws.drop i) o r = true ∧ Al H1 H2) start (fun i σ H2 _ ⟨_, _, _, _, _, k⟩ => sqL_al hL k) ?turn ?after⟩)
      (fun hT => .inr ⟨.ref a, rfl, a, rfl, ⟨_, hT⟩, for_tup (xs := wordsV ws) (fun i σ H2 => ∃ (o r : Bool) (y : Option V), σ = [some (.ref a), some (.bl o), some (.bl r), y] ∧ okS (ws.drop i) o r = true ∧ Al H1 H2) start (fun i σ H2 _ ⟨_, _, _, _, _, k⟩ => sqT_al hT k) ?turn2 ?after2⟩)
    case turn | turn2 =>
      rintro i x σ H2 hx ⟨o, r, y, rfl, okd, k2⟩
      have hi : i < ws.length := by
        have z := (List.getElem?_eq_some_iff.mp hx).1
        rwa [wl] at z
      obtain rfl : x = .str ws[i] := by
        unfold wordsV at hx
        rw [List.getElem?_map, List.getElem?_eq_getElem hi] at hx
        exact (Option.some.inj hx).symm
      rw [List.drop_eq_getElem_cons hi] at okd
      obtain ⟨ok1, ok2⟩ := Bool.and_eq_true_iff.mp okd
      refine ⟨_, rfl, .bl o, rfl, .bl r, rfl, ws[i], o, r, rfl, fun H3 k3 => ⟨mayB ws[i] o r, rfl, ?_⟩⟩
      rw [ok1]
      refine iteF ⟨_, rfl, .bl o, rfl, ws[i], o, rfl, fun H4 k4 => ⟨_, rfl, .bl r, rfl, ws[i], r, rfl, fun H5 k5 => ?_⟩⟩
      exact ⟨_, _, _, rfl, ok2, ((k2.trans k3).trans k4).trans k5⟩
    case after | after2 =>
      rintro σ H2 ⟨o, r, y, rfl, _, k2⟩
      refine ⟨.ref a, rfl, a, wordsV ws, rfl, ?_⟩
      first
        | exact .inl ⟨sqL_al hL k2, fun l nl => q _ l ((k1.trans k2).new nl) (sqt upd_same)⟩
        | exact .inr ⟨sqT_al hT k2, q _ a (k1.trans k2) (sqT_al hT k2)⟩
end
end Lk

namespace Lk
open PySem PySem.Spec PyProof.Rows L2 Drw Err
def okAll (ss : List (List Str)) : Prop := 1 ≤ ss.length ∧ ss.length ≤ 4 ∧ ∀ ws ∈ ss, ws.length ≤ 8 ∧ okS ws false false = true
def spChecked (K : PySem.W.Frag) : Sp := fun vs H Q _ => ∃ (a : Addr) (ss : List (List Str)), vs = [.ref a] ∧ Deep K H a (ss.map wordsV) ∧ okAll ss ∧ ∀ H' D, Al H H' → H D = none → Chk K H' D (ss.map wordsV) → Q (.ref D) H'
theorem scFirst : FnScope ["scripts", "_"] ["scripts"] (defScope sFirst) := ⟨rfl, rfl, rfl, by decide +kernel, rfl, by decide +kernel, by decide +kernel⟩
theorem scFirstState : FnScope ["scripts"] ["scripts"] (defScope sFirstState) := ⟨rfl, rfl, rfl, by decide +kernel, rfl, by decide +kernel, by decide +kernel⟩
def spFirst (K : PySem.W.Frag) : Sp := fun vs H Q _ => ∃ (p : Addr) (ks : List (List V)), vs = [.ref p] ∧ Chk K H p ks ∧ ks.length ≤ 1000 ∧ ∀ H' t, Al H H' → H t = none → Kids H' t (List.replicate ks.length row0) → Q (.ref t) H'
def spFirstState (K : PySem.W.Frag) : Sp := fun vs H Q _ => ∃ (a : Addr) (ss : List (List Str)), vs = [.ref a] ∧ Deep K H a (ss.map wordsV) ∧ okAll ss ∧ ∀ H' t, Al H H' → H t = none → Kids H' t (List.replicate ss.length row0) → Q (.ref t) H'
section
variable {P : Program} {w : World} {K : PySem.W.Frag} {mg : Str → Option Value} {base : Heap} {t0 t1 t2 t3 t4 : Nat} {CP : Addr}
theorem ok_checked {f fC : Addr} {fd dC : FuncData} (F : Fun K "checked_scripts" "checked_scripts" sChecked f fd) (T : EC P w K mg "ProgrammingError" CP) (C : Can P w K mg base CX0 2 "_checked_script" ["script"] (spOneOk K) fC dC) (c4 : mg "MOST_SCRIPTS" = some (.int 4 t0))
    (mi : mg "isinstance" = none) (ml : mg "len" = none) (m_list : mg "list" = none) (m_tuple : mg "tuple" = none) : FnOk P w K mg base CX0 3 f fd ["scripts"] (spChecked K) := by
  refine F.ok scChecked (fun vs H Q E h => ?_) (fun cdv A outer s H vs Q E hr h => ?_)
  · obtain ⟨a, ws, rfl, _⟩ := h
    rfl
  · obtain ⟨a, ss, rfl, hq, ⟨n1, n4, hok⟩, q⟩ := h
    refine ⟨_, pss_cons (ps_if (PW.pt (pw_or (pt_not (pt_val (pe_callB call_isiT (by rfl) mi boot_isinstance (pa_cons (pv 0) (pa_cons (pe_tup (pa_cons (pe_bltn (v := .ty "list") (by rfl) m_list (by decide +kernel) rfl) (pa_cons (pe_bltn (v := .ty "tuple") (by rfl) m_tuple (by decide +kernel) rfl) pa_nil))) pa_nil)))))
          (pw_or1 (pt_not (pt_chain op_le op_le pe_int (pe_callB call_len_seq (by rfl) ml PySem.boot_len (pa_cons (pv 0) pa_nil)) (pe_glob (v := .int 4) (by rfl) c4 ⟨t0, rfl⟩)))))) (pss_one (ps_raise rfl L2.takes0 (pmk_err0 T hr (by rfl)))) pss_nil)
      (pss_one (ps_ret (pe_lc (own := [("script", 1)]) (g := gName 1) (tt := tYes) rfl scChecked.nd (pi_two (pi_list (pv 0)) (pi_tup (pv 0)))
        (blkOk_by (N := ["scripts", "script"]) (sc := defScope sChecked) (by decide +kernel)) (fun _ _ _ _ _ => pg_name (i := 1) scChecked.nd rfl (Or.inl rfl)) (fun _ _ _ _ _ => pts_nil)
        (fun _ _ _ _ _ => pe_call C.G hr (by rfl) C.g C.kp C.b .nil pass0 (pa_cons (pv 1) pa_nil))))), ?_⟩
    obtain ⟨xs, hx, hlen, hk⟩ := hq
    rw [List.length_map] at hlen
    refine ⟨.ref a, rfl, by show 2 ≤ sizeLine; decide, fun tp ntp => ?_⟩
    have k1 := (Al.refl (H := H)).new (o := .tup [.ty "list", .ty "tuple"]) ntp
    have q1 := hx.al k1
    obtain ⟨t, ht, ty⟩ := q1.ty
    refine ⟨.ref a, tp, _, .type t, _, true, rfl, upd_same, .cons (.ty _) (.cons (.ty _) .nil), ty, lt2 ht, true, rfl, iteF ?_⟩
    refine ⟨.ref a, rfl, a, _, rfl, q1, _, _, rfl, rfl, _, rfl, ?_⟩
    rw [decide_eq_true (by omega)]
    refine iteT ⟨_, _, rfl, rfl, _, rfl, ?_⟩
    rw [decide_eq_true (by omega)]
    refine iteF ?_
    generalize eK : upd H tp (.tup [.ty "list", .ty "tuple"]) = H1 at k1 q1
    have hk1 : ∀ (i : Nat) (ws : List Str), ss[i]? = some ws → ∃ b, xs[i]? = some (.ref b) ∧ Sq K H1 b (wordsV ws) := fun i ws e => by
      obtain ⟨b, e1, e2⟩ := hk i (wordsV ws) (by rw [List.getElem?_map, e]; rfl)
      exact ⟨b, e1, e2.al k1⟩
    have fin : ∀ D H3, H1 D = none → Al H1 H3 → (∃ ys, H3 D = some (.lst ys) ∧ ys.length = xs.length ∧ ∀ j ws, j < xs.length → ss[j]? = some ws → ∃ b, ys[j]? = some (.ref b) ∧ SqT K H3 b (wordsV ws)) → Q (.ref D) H3 := fun D H3 nD k3 ⟨ys, y1, y2, y3⟩ => by
      refine q H3 D (k1.trans k3) (k1.gone nD) ⟨ys, y1, by rw [List.length_map]; omega, fun i c e => ?_⟩
      rw [List.getElem?_map] at e
      cases e1 : ss[i]? with
      | none =>
        rw [e1] at e
        cases e
      | some ws =>
        rw [e1] at e
        obtain rfl : wordsV ws = c := Option.some.inj e
        exact y3 i ws (by have z := (List.getElem?_eq_some_iff.mp e1).1; omega) e1
    have start : ∀ D, H1 D = none → Al H1 (upd H1 D (.lst [])) ∧ ∃ ys : List V, upd H1 D (.lst []) D = some (.lst ys) ∧ ys.length = 0 ∧ ∀ (j : Nat) (ws : List Str), j < 0 → ss[j]? = some ws → ∃ b, ys[j]? = some (.ref b) ∧ SqT K (upd H1 D (.lst [])) b (wordsV ws) :=
      fun D nD => ⟨Al.refl.new nD, [], upd_same, rfl, fun j ws h => by omega⟩
    refine q1.elim (fun hL => .inl ⟨.ref a, rfl, a, rfl, ⟨_, hL⟩, fun D nD => lc_list (xs := xs) (fun i H2 => Al H1 H2 ∧ ∃ ys : List V, H2 D = some (.lst ys) ∧ ys.length = i ∧ ∀ (j : Nat) (ws : List Str), j < i → ss[j]? = some ws → ∃ b, ys[j]? = some (.ref b) ∧ SqT K H2 b (wordsV ws)) (start D nD) (fun i H2 _ ⟨k, _⟩ => sqL_al hL k) ?turn ?after⟩)
      (fun hT => .inr ⟨.ref a, rfl, a, rfl, ⟨_, hT⟩, fun D nD => lc_tup (xs := xs) (fun i H2 => Al H1 H2 ∧ ∃ ys : List V, H2 D = some (.lst ys) ∧ ys.length = i ∧ ∀ (j : Nat) (ws : List Str), j < i → ss[j]? = some ws → ∃ b, ys[j]? = some (.ref b) ∧ SqT K H2 b (wordsV ws)) (start D nD) (fun i H2 _ ⟨k, _⟩ => sqT_al hT k) ?turn2 ?after2⟩)
    case turn | turn2 =>
      rintro i x H2 hx ⟨k2, ys, y1, y2, y3⟩
      have hi : i < ss.length := by
        have z := (List.getElem?_eq_some_iff.mp hx).1
        omega
      obtain ⟨b, e1, e2⟩ := hk1 i ss[i] (List.getElem?_eq_getElem hi)
      obtain rfl : x = .ref b := Option.some.inj (hx.symm.trans e1)
      obtain ⟨o8, okk⟩ := hok ss[i] (List.getElem_mem hi)
      refine ⟨rfl, .ref b, rfl, b, ss[i], rfl, e2.al k2, o8, okk, fun H3 c k3 hc => ?_⟩
      have yD := k3 _ _ y1
      refine ⟨ys, yD, by rw [y2]; exact small1000 (by omega), fun b' o z => ?_, ys ++ [.ref c], upd_same, by simp [y2], fun j ws hj hw => ?_⟩
      · have z1 := k3 _ _ (k2 _ _ z)
        rwa [upd_ne (ne_of_none z nD)]
      · have up : ∀ {c' : Addr} {u : List V}, SqT K H3 c' u → SqT K (upd H3 D (.lst (ys ++ [.ref c]))) c' u := fun {c' u} h => by
          rcases h with (h | ⟨o, h⟩) | h
          · exact .inl (.inl ((upd_ne (fun z => by rw [z, yD] at h; cases h)).trans h))
          · exact .inl (.inr ⟨o, (upd_ne (fun z => by rw [z, yD] at h; cases h)).trans h⟩)
          · exact .inr h
        rcases Nat.lt_or_ge j i with h | h
        · obtain ⟨c', z1, z2⟩ := y3 j ws h hw
          exact ⟨c', by rw [List.getElem?_append_left (by omega)]; exact z1, up (sqT_al z2 k3)⟩
        · obtain rfl : j = i := by omega
          rw [List.getElem?_eq_getElem hi] at hw
          obtain rfl := Option.some.inj hw
          exact ⟨c, by rw [List.getElem?_append_right (by omega), y2, Nat.sub_self]; rfl, up hc⟩
    case after | after2 =>
      rintro H2 ⟨k2, ys, y1, y2, y3⟩
      exact fin D H2 nD k2 ⟨ys, y1, y2, y3⟩
end
end Lk

namespace Lk
open PySem PySem.Spec PyProof.Rows L2 Drw Err
section
variable {P : Program} {w : World} {K : PySem.W.Frag} {mg : Str → Option Value} {base : Heap} {t0 t1 t2 t3 t4 : Nat} {CP : Addr}
theorem ok_first {f : Addr} {fd : FuncData} (F : Fun K "_first" "_first" sFirst f fd) (c0 : mg "NO_LOCK" = some (.int 0 t0)) (mt : mg "tuple" = none) : FnOk P w K mg base CX0 1 f fd ["scripts"] (spFirst K) := by
  refine F.ok scFirst (fun vs H Q E h => ?_) (fun cdv A outer s H vs Q E hr h => ?_)
  · obtain ⟨p, ks, rfl, _⟩ := h
    rfl
  · obtain ⟨p, ks, rfl, ⟨xs, hp, hlen, hks⟩, h1000, q⟩ := h
    refine ⟨_, pss_one (ps_ret (pe_callTy call_tuple_of (by rfl) mt (by decide +kernel) (pa_cons (pe_lc (own := [("_", 1)]) (g := gName 1) (tt := tYes) rfl scFirst.nd (pi_list (pv 0))
      (blkOk_by (N := ["scripts", "_"]) (sc := defScope sFirst) (by decide +kernel)) (fun _ _ _ _ _ => pg_name (i := 1) scFirst.nd rfl (Or.inl rfl)) (fun _ _ _ _ _ => pts_nil)
      (fun _ _ _ _ _ => pe_tup (pa_cons pe_int (pa_cons pe_bl (pa_cons pe_bl (pa_cons (pe_glob (v := .int 0) (by rfl) c0 ⟨t0, rfl⟩) pa_nil)))))) pa_nil))), ?_⟩
    refine ⟨.ref p, rfl, p, rfl, ⟨xs, sq hp⟩, fun D nD => ?_⟩
    have pD : p ≠ D := ne_of_none hp nD
    refine lc_list (K := K) (a := p) (xs := xs) (fun i H' => (∀ b o, b ≠ D → H b = some o → H' b = some o) ∧ ∃ ys : List V, H' D = some (.lst ys) ∧ ys.length = i ∧ ∀ j, j < i → ∃ a, ys[j]? = some (.ref a) ∧ H' a = some (.tup row0))
      ⟨fun b o n e => (upd_ne n).trans e, [], upd_same, rfl, fun j h => by omega⟩ (fun i H' hi hP => ?_) (fun i x H' hx hP => ?_) (fun H' hP => ?_)
    · obtain ⟨k, _⟩ := hP
      exact sq (k p _ pD hp)
    · obtain ⟨k, ys, hy, hl, hr⟩ := hP
      refine ⟨rfl, by show 4 ≤ sizeLine; decide, fun t nt => ?_⟩
      have Dt : D ≠ t := ne_of_none hy nt
      refine ⟨ys, (upd_ne Dt).trans hy, by rw [hl]; exact small1000 (by have := (List.getElem?_eq_some_iff.mp hx).1; omega), fun b o n e => ?_, ys ++ [.ref t], upd_same, by simp [hl], fun j hj => ?_⟩
      · have z := k b o n e
        rw [upd_ne n, upd_ne (ne_of_none z nt)]
        exact z
      · rcases Nat.lt_or_ge j i with h | h
        · obtain ⟨a, e1, e2⟩ := hr j h
          have aD : a ≠ D := fun z => by
            rw [z, hy] at e2
            cases e2
          refine ⟨a, by rw [List.getElem?_append_left (by omega)]; exact e1, ?_⟩
          rw [upd_ne aD, upd_ne (ne_of_none e2 nt)]
          exact e2
        · have : j = i := by omega
          subst this
          refine ⟨t, by rw [List.getElem?_append_right (by omega), hl, Nat.sub_self]; rfl, ?_⟩
          rw [upd_ne Dt.symm, upd_same]
          rfl
    · obtain ⟨k, ys, hy, hl, hr⟩ := hP
      refine ⟨D, ys, rfl, .inl ⟨sq hy, fun t nt => ?_⟩⟩
      have kA : Al H H' := fun b o e => k b o (ne_of_none e nD) e
      refine q _ t (kA.new nt) (kA.gone nt) ⟨ys, upd_same, by rw [hl, List.length_replicate, hlen], fun i c e => ?_⟩
      obtain ⟨h1, h2⟩ := List.getElem?_eq_some_iff.mp e
      rw [List.getElem_replicate] at h2
      rw [List.length_replicate] at h1
      obtain ⟨a, e1, e2⟩ := hr i (by omega)
      refine ⟨a, e1, ?_⟩
      rw [upd_ne (ne_of_none e2 nt), e2, h2]
theorem ok_firstState {f fC fF : Addr} {fd dC dF : FuncData} (F : Fun K "first_state" "first_state" sFirstState f fd) (C : Can P w K mg base CX0 3 "checked_scripts" ["scripts"] (spChecked K) fC dC) (G : Can P w K mg base CX0 1 "_first" ["scripts"] (spFirst K) fF dF) : FnOk P w K mg base CX0 4 f fd ["scripts"] (spFirstState K) := by
  refine F.ok scFirstState (fun vs H Q E h => ?_) (fun cdv A outer s H vs Q E hr h => ?_)
  · obtain ⟨p, ss, rfl, _⟩ := h
    rfl
  · obtain ⟨p, ss, rfl, hd, ok, q⟩ := h
    refine ⟨_, pss_one (ps_ret (pe_call G.G (hr.mono (by decide)) (by rfl) G.g G.kp G.b .nil pass0 (pa_cons (pe_call C.G hr (by rfl) C.g C.kp C.b .nil pass0 (pa_cons (pv 0) pa_nil)) pa_nil))), ?_⟩
    refine ⟨.ref p, rfl, p, ss, rfl, hd, ok, fun H1 D k1 nD c => ⟨D, _, rfl, c, ?_, fun H2 t k2 nt kd => ?_⟩⟩
    · rw [List.length_map]
      have z := ok.2.1
      omega
    · rw [List.length_map] at kd
      exact q H2 t (k1.trans k2) (k1.gone nt) kd
end
theorem OddAt.kind {H : Hp} {many : Int} {x : V} (h : OddAt H many x) : ∃ t, Kind H x t := by
  cases h with
  | int i h => exact ⟨_, .int i⟩
  | non => exact ⟨_, .non⟩
  | bl b => exact ⟨_, .bl b⟩
  | str s => exact ⟨_, .str s⟩
  | tup h => exact ⟨_, .tup h⟩
  | lst h => exact ⟨_, .lst h⟩
  | dct h => exact ⟨_, .dct h⟩
  | emp h => exact ⟨_, .tup h⟩
section
variable {P : Program} {w : World} {K : PySem.W.Frag} {mg : Str → Option Value} {base : Heap} {t0 t1 t2 t3 t4 : Nat} {CP : Addr}
end
end Lk

namespace Lk
open PySem PySem.Spec PyProof.Rows L2 Drw Err
/-- plainly a list or a tuple -/
def Sp' (H : Hp) (a : Addr) (xs : List V) : Prop := H a = some (.lst xs) ∨ H a = some (.tup xs)
def DeepP (H : Hp) (a : Addr) (ks : List (List V)) : Prop := ∃ xs, Sp' H a xs ∧ xs.length = ks.length ∧ ∀ (i : Nat) (k : List V), ks[i]? = some k → ∃ b, xs[i]? = some (.ref b) ∧ Sp' H b k
theorem DeepP.deep {K : PySem.W.Frag} {H : Hp} {a : Addr} {ks : List (List V)} (h : DeepP H a ks) : Deep K H a ks := by
  obtain ⟨xs, h1, h2, h3⟩ := h
  refine ⟨xs, h1.imp (fun z => sq z) fun z => sqt z, h2, fun i c e => ?_⟩
  obtain ⟨b, e1, e2⟩ := h3 i c e
  exact ⟨b, e1, e2.imp (fun z => sq z) fun z => sqt z⟩
theorem DeepP.al {H H' : Hp} {a : Addr} {ks : List (List V)} (h : DeepP H a ks) (k : Al H H') : DeepP H' a ks := by
  obtain ⟨xs, h1, h2, h3⟩ := h
  refine ⟨xs, h1.imp (fun z => k _ _ z) fun z => k _ _ z, h2, fun i c e => ?_⟩
  obtain ⟨b, e1, e2⟩ := h3 i c e
  exact ⟨b, e1, e2.imp (fun z => k _ _ z) fun z => k _ _ z⟩
theorem Kids.deepP {H : Hp} {a : Addr} {ks : List (List V)} (h : Kids H a ks) : DeepP H a ks := by
  obtain ⟨xs, h1, h2, h3⟩ := h
  refine ⟨xs, .inr h1, h2, fun i c e => ?_⟩
  obtain ⟨b, e1, e2⟩ := h3 i c e
  exact ⟨b, e1, .inr e2⟩
/-- the locks are right: none below 0, no two of 2 or more -/
def Good (rows : List Row) : Prop := (∀ (i : Nat) r, rows[i]? = some r → 0 ≤ r.lk) ∧ ∀ (i j : Nat) r s, rows[i]? = some r → rows[j]? = some s → i ≠ j → 2 ≤ r.lk → s.lk ≤ 1
theorem Good.top {rows : List Row} (g : Good rows) {a : Nat} {r : Row} {m : Int} (hr : rows[a]? = some r) (t : IsTop rows a m) : 0 ≤ r.lk ∧ (2 ≤ r.lk → m ≤ 1) := by
  refine ⟨g.1 a r hr, fun h => ?_⟩
  rcases t.1 with h0 | ⟨k, s, hs, n, e⟩
  · omega
  · have z := g.2 a k r s hr hs (Ne.symm n) h
    omega
section
variable {P : Program} {w : World} {K : PySem.W.Frag} {mg : Str → Option Value} {base : Heap} {t0 t1 t2 t3 t4 : Nat} {CP : Addr}
end
end Lk

/-! The law's comparison, on numbers, truths and tuples of such. -/
namespace Lk
open PySem PySem.Calls PyProof.Rows PySem.Spec L2 Drw Err
theorem iT {c : Bool} {A B : Prop} (h : c = true) (a : A) : if c = true then A else B := by
  rw [if_pos h]
  exact a
theorem iF {c : Bool} {A B : Prop} (h : c = false) (b : B) : if c = true then A else B := by
  rw [h]
  exact iteF b
theorem scSame : FnScope ["_law_found", "_law_due", "_law_a", "_law_b"] ["_law_found", "_law_due"] (defScope sSame) := ⟨rfl, rfl, rfl, by decide +kernel, rfl, by decide +kernel, by decide +kernel⟩
/-- the same: numbers and truths, or tuples of the same -/
inductive Tw (H : Hp) : Nat → V → V → Prop
  | int (n : Nat) (i : Int) : Tw H n (.int i) (.int i)
  | bl (n : Nat) (b : Bool) : Tw H n (.bl b) (.bl b)
  | tup {n : Nat} {a b : Addr} {xs ys : List V} : H a = some (.tup xs) → H b = some (.tup ys) → xs.length = ys.length → xs.length ≤ 1000 → (∀ (i : Nat) x y, xs[i]? = some x → ys[i]? = some y → Tw H n x y) → Tw H (n + 1) (.ref a) (.ref b)
theorem Tw.al {H H' : Hp} (k : Al H H') : ∀ {n : Nat} {x y : V}, Tw H n x y → Tw H' n x y := by
  intro n x y h
  induction h with
  | int n i => exact .int n i
  | bl n b => exact .bl n b
  | tup h1 h2 h3 h4 _ ih => exact .tup (k _ _ h1) (k _ _ h2) h3 h4 ih
def spTw (n : Nat) : Sp := fun vs H Q _ => ∃ x y : V, vs = [x, y] ∧ Tw H n x y ∧ ∀ H', Al H H' → Q (.bl true) H'
section
variable {P : Program} {w : World} {K : PySem.W.Frag} {mg : Str → Option Value} {base : Heap}
theorem ok_same {f : Addr} {fd : FuncData} (F : Fun K "_law_same" "_law_same" sSame f fd) (bS : Binds K fd ["_law_found", "_law_due"] []) (gS : mg "_law_same" = some (.ref f)) (mi : mg "isinstance" = none) (ml : mg "len" = none) (mz : mg "zip" = none) (m_all : mg "all" = none)
    (m_list : mg "list" = none) (m_tuple : mg "tuple" = none) (m_int : mg "int" = none) (m_bool : mg "bool" = none) : ∀ n : Nat, FnOk P w K mg base CX0 (n + 2) f fd ["_law_found", "_law_due"] (spTw n) := by
  have step : ∀ (k n : Nat) (G : FnOk P w K mg base CX0 k f fd ["_law_found", "_law_due"] fun vs H Q E => 0 < n ∧ spTw (n - 1) vs H Q E), FnOk P w K mg base CX0 (k + 1) f fd ["_law_found", "_law_due"] (spTw n) := by
    intro k n G
    refine F.ok scSame (fun vs H Q E h => ?_) (fun cdv A outer s H vs Q E hr h => ?_)
    · obtain ⟨x, y, rfl, _⟩ := h
      rfl
    obtain ⟨x, y, rfl, tw, q⟩ := h
    refine ⟨_, pss_cons (ps_if (pt_val (pe_callB call_isiT (by rfl) mi boot_isinstance (pa_cons (pv 1) (pa_cons (pe_tup (pa_cons (pe_bltn (v := .ty "list") (by rfl) m_list (by decide +kernel) rfl) (pa_cons (pe_bltn (v := .ty "tuple") (by rfl) m_tuple (by decide +kernel) rfl) pa_nil))) pa_nil))))
        (pss_cons (ps_if (PW.pt (pw_or (pt_cmpR op_ne (pe_callB call_isi (by rfl) mi boot_isinstance (pa_cons (pv 0) (pa_cons (pe_bltn (v := .ty "list") (by rfl) m_list (by decide +kernel) rfl) pa_nil))) (pe_callB call_isi (by rfl) mi boot_isinstance (pa_cons (pv 1) (pa_cons (pe_bltn (v := .ty "list") (by rfl) m_list (by decide +kernel) rfl) pa_nil))) (nomark _)) (pw_or1 (pt_cmpR op_ne (pe_callB call_isi (by rfl) mi boot_isinstance (pa_cons (pv 0) (pa_cons (pe_bltn (v := .ty "tuple") (by rfl) m_tuple (by decide +kernel) rfl) pa_nil))) (pe_callB call_isi (by rfl) mi boot_isinstance (pa_cons (pv 1) (pa_cons (pe_bltn (v := .ty "tuple") (by rfl) m_tuple (by decide +kernel) rfl) pa_nil))) (nomark _))))) (pss_one (ps_ret pe_bl)) pss_nil)
        (pss_one (ps_ret (pe_and (pe_cmpR op_eq (pe_callB call_len_seq (by rfl) ml PySem.boot_len (pa_cons (pv 0) pa_nil)) (pe_callB call_len_seq (by rfl) ml PySem.boot_len (pa_cons (pv 1) pa_nil)) (nomark _)) (pe_one (pe_callB (cr_all rfl) (by rfl) m_all boot_all (pa_cons (pe_lc (own := [("_law_a", 2), ("_law_b", 3)]) (g := gTup K 2 (gCons (gName 2) (gCons (gName 3) gNil))) (tt := tYes) rfl scSame.nd (RZ.pi_zipA (by rfl) mz (pa_cons (pv 0) (pa_cons (pv 1) pa_nil))) (blkOk_by (N := ["_law_found", "_law_due", "_law_a", "_law_b"]) (sc := defScope sSame) (by decide +kernel)) (fun _ _ _ _ _ => pg_tup rfl (pgs_cons (pg_name (i := 2) scSame.nd rfl (Or.inl rfl)) (pgs_cons (pg_name (i := 3) scSame.nd rfl (Or.inl rfl)) pgs_nil))) (fun _ _ _ _ _ => pts_nil) (fun _ _ _ _ _ => pe_call G hr (by rfl) gS F.kp bS .nil pass0 (pa_cons (pv 2) (pa_cons (pv 3) pa_nil)))) pa_nil))))))) pss_nil)
      (pss_cons (ps_if (pt_val (pe_callB call_isi (by rfl) mi boot_isinstance (pa_cons (pv 1) (pa_cons (pe_bltn (v := .ty "int") (by rfl) m_int (by decide +kernel) rfl) pa_nil))))
        (pss_one (ps_ret (pe_and (pe_callB call_isi (by rfl) mi boot_isinstance (pa_cons (pv 0) (pa_cons (pe_bltn (v := .ty "int") (by rfl) m_int (by decide +kernel) rfl) pa_nil))) (pe_and (pe_cmpR op_eq (pe_callB call_isi (by rfl) mi boot_isinstance (pa_cons (pv 0) (pa_cons (pe_bltn (v := .ty "bool") (by rfl) m_bool (by decide +kernel) rfl) pa_nil))) (pe_callB call_isi (by rfl) mi boot_isinstance (pa_cons (pv 1) (pa_cons (pe_bltn (v := .ty "bool") (by rfl) m_bool (by decide +kernel) rfl) pa_nil))) (nomark _)) (pe_one (pe_cmpR op_eq (pv 0) (pv 1) (nomark _))))))) pss_nil)
      (pss_one (ps_ret (pe_and (pe_cmpR op_isBl (pe_callB call_isiT (by rfl) mi boot_isinstance (pa_cons (pv 0) (pa_cons (pe_tup (pa_cons (pe_bltn (v := .ty "bool") (by rfl) m_bool (by decide +kernel) rfl) (pa_cons (pe_bltn (v := .ty "int") (by rfl) m_int (by decide +kernel) rfl) (pa_cons (pe_bltn (v := .ty "list") (by rfl) m_list (by decide +kernel) rfl) (pa_cons (pe_bltn (v := .ty "tuple") (by rfl) m_tuple (by decide +kernel) rfl) pa_nil))))) pa_nil))) pe_bl (nomark _)) (pe_one (pe_cmpR op_eq (pv 0) (pv 1) (nomark _))))))), ?_⟩
    cases tw with
    | tup ha hb hlen hz hxy =>
      rename_i n a b xs ys
      refine ⟨.ref b, rfl, by show 2 ≤ sizeLine; decide, fun tp ntp => ?_⟩
      have k1 := (Drw.Al.refl (H := H)).new (o := .tup [.ty "list", .ty "tuple"]) ntp
      have ha1 := k1 _ _ ha
      have hb1 := k1 _ _ hb
      refine ⟨.ref b, tp, _, .type "tuple", _, true, rfl, upd_same, .cons (.ty _) (.cons (.ty _) .nil), .base (.tup hb1), lt2 (.inr rfl), true, rfl, iteT ?_⟩
      refine ⟨.ref a, rfl, _, _, .type "tuple", .type "list", false, rfl, .ty _, .base (.tup ha1), kit_ty (by decide +kernel), .ref b, rfl, _, _, .type "tuple", .type "list", false, rfl, .ty _, .base (.tup hb1), kit_ty (by decide +kernel), rfl, _, rfl, iF (by decide) ?_⟩
      refine ⟨.ref a, rfl, _, _, .type "tuple", .type "tuple", true, rfl, .ty _, .base (.tup ha1), kit_ty (by decide +kernel), .ref b, rfl, _, _, .type "tuple", .type "tuple", true, rfl, .ty _, .base (.tup hb1), kit_ty (by decide +kernel), rfl, _, rfl, iF (by decide) ?_⟩
      refine ⟨.ref a, rfl, a, xs, rfl, .inr (sqt ha1), .ref b, rfl, b, ys, rfl, .inr (sqt hb1), rfl, _, rfl, iT (by rw [hlen]; exact decide_eq_true rfl) ?_⟩
      refine ⟨.ref a, rfl, .ref b, rfl, a, b, xs, ys, rfl, .inr ⟨sqt ha1, sqt hb1, fun D nD => ?_⟩⟩
      refine ⟨fun i m H' => i + m = xs.length ∧ Al H H' ∧ H' D = some (.lst ((List.replicate i true).map V.bl)), ⟨xs.length, by omega, k1.new nD, upd_same⟩, fun i m H' hW => ?_⟩
      obtain ⟨em, kW, eD⟩ := hW
      have haW := kW _ _ ha
      have hbW := kW _ _ hb
      by_cases hi : i < xs.length
      · have gi : xs[i]? = some xs[i] := List.getElem?_eq_getElem hi
        have hi2 : i < ys.length := by omega
        have gi2 : ys[i]? = some ys[i] := List.getElem?_eq_getElem hi2
        refine .inr ⟨⟨xs, ys, xs[i], ys[i], sqt haW, sqt hbW, gi, gi2⟩, fun H'' => Al H H'' ∧ H'' D = some (.lst ((List.replicate (i + 1) true).map V.bl)), fun H'' hN => ⟨m - 1, by omega, by omega, hN⟩, fun v H'' hy => ?_⟩
        obtain ⟨T, x1, x2, rfl, nT, rfl, f1, f2⟩ := hy
        obtain rfl : x1 = xs[i] := Option.some.inj ((f1 _ (sqt haW)).symm.trans gi)
        obtain rfl : x2 = ys[i] := Option.some.inj ((f2 _ (sqt hbW)).symm.trans gi2)
        have lf := (hxy i _ _ gi gi2).al (kW.new (o := .tup [xs[i], ys[i]]) nT)
        have DT : D ≠ T := ne_of_none eD nT
        refine ⟨T, _, rfl, sqt upd_same, rfl, _, _, rfl, _, _, rfl, rfl, rfl, ?_⟩
        refine ⟨_, rfl, _, rfl, Nat.succ_pos _, _, _, rfl, lf, fun H2 k2 => ?_⟩
        refine ⟨_, k2 _ _ ((upd_ne DT).trans eD), ?_, fun b o z => ?_, ?_⟩
        · rw [List.length_map, List.length_replicate]
          exact Nat.lt_of_le_of_lt (Nat.le_trans (Nat.le_of_lt hi) hz) (by decide)
        · have nb : b ≠ D := fun e => by
            subst e
            have y := kW _ _ z
            have y0 := k1 _ _ z
            rw [nD] at y0
            cases y0
          rw [upd_ne nb]
          exact k2 _ _ ((kW.new nT) _ _ z)
        · rw [upd_same, List.replicate_succ', List.map_append]
          rfl
      · refine .inl ⟨⟨xs, ys, sqt haW, sqt hbW, .inl (by omega)⟩, ?_⟩
        refine ⟨D, List.replicate i true, rfl, sq eD, ?_⟩
        have e : (List.replicate i true).all id = true := by simp
        rw [e]
        exact q _ kW
    | bl n c =>
      refine ⟨.bl c, rfl, by show 2 ≤ sizeLine; decide, fun tp ntp => ⟨.bl c, tp, _, .type "bool", _, false, rfl, upd_same, .cons (.ty _) (.cons (.ty _) .nil), .base (.bl c), no1 (kit_ty (by decide +kernel)) (no1 (kit_ty (by decide +kernel)) kitAny_nil), false, rfl, iteF ?_⟩⟩
      have k1 := (Drw.Al.refl (H := H)).new (o := .tup [.ty "list", .ty "tuple"]) ntp
      refine ⟨_, rfl, _, _, _, .type "int", true, rfl, .ty _, .base (.bl c), kit_ty (by decide +kernel), true, rfl, iteT ?_⟩
      refine ⟨_, rfl, _, _, _, .type "int", true, rfl, .ty _, .base (.bl c), kit_ty (by decide +kernel), true, rfl, iteT ?_⟩
      refine ⟨_, rfl, _, _, _, .type "bool", true, rfl, .ty _, .base (.bl c), kit_ty (by decide +kernel), _, rfl, _, _, _, .type "bool", true, rfl, .ty _, .base (.bl c), kit_ty (by decide +kernel), rfl, _, rfl, iT (by decide) ⟨_, rfl, _, rfl, rfl, ?_⟩⟩
      rw [decide_eq_true rfl]
      exact q _ k1
    | int n c =>
      refine ⟨.int c, rfl, by show 2 ≤ sizeLine; decide, fun tp ntp => ⟨.int c, tp, _, .type "int", _, false, rfl, upd_same, .cons (.ty _) (.cons (.ty _) .nil), .base (.int c), no1 (kit_ty (by decide +kernel)) (no1 (kit_ty (by decide +kernel)) kitAny_nil), false, rfl, iteF ?_⟩⟩
      have k1 := (Drw.Al.refl (H := H)).new (o := .tup [.ty "list", .ty "tuple"]) ntp
      refine ⟨_, rfl, _, _, _, .type "int", true, rfl, .ty _, .base (.int c), kit_ty (by decide +kernel), true, rfl, iteT ?_⟩
      refine ⟨_, rfl, _, _, _, .type "int", true, rfl, .ty _, .base (.int c), kit_ty (by decide +kernel), true, rfl, iteT ?_⟩
      refine ⟨_, rfl, _, _, _, .type "bool", false, rfl, .ty _, .base (.int c), kit_ty (by decide +kernel), _, rfl, _, _, _, .type "bool", false, rfl, .ty _, .base (.int c), kit_ty (by decide +kernel), rfl, _, rfl, iT (by decide) ⟨_, rfl, _, rfl, rfl, ?_⟩⟩
      rw [decide_eq_true rfl]
      exact q _ k1
  intro n
  induction n with
  | zero => exact step 1 0 ⟨fun vs H Q E h => absurd h.1 (Nat.lt_irrefl _), fun A outer s H args us vs Q E _ _ _ _ h => absurd h.1 (Nat.lt_irrefl _)⟩
  | succ n ih => exact step (n + 2) (n + 1) (ih.imp fun vs H Q E h => h.2)
end
end Lk

/-! The law's scripts: each may stand. -/
namespace Lk
open PySem PySem.Calls PyProof.Rows PySem.Spec L2 Drw Err
theorem scScript : FnScope ["_law_state", "_law_many", "_law_found", "_law_opened", "_law_reads", "_law_usual", "_law_upto", "_law_k", "_law_some", "_law_word_here"] ["_law_state", "_law_many"] (defScope sScript) := ⟨rfl, rfl, rfl, by decide +kernel, rfl, by decide +kernel, by decide +kernel⟩
def oA : List Str → Bool → Bool
  | [], o => o
  | w :: ws, o => oA ws (opnB w o)
def rA : List Str → Bool → Bool
  | [], r => r
  | w :: ws, r => rA ws (rdsB w r)
theorem oA_snoc (w : Str) : ∀ (ws : List Str) (o : Bool), oA (ws ++ [w]) o = opnB w (oA ws o)
  | [], _ => rfl
  | _ :: ws, _ => oA_snoc w ws _
theorem rA_snoc (w : Str) : ∀ (ws : List Str) (o : Bool), rA (ws ++ [w]) o = rdsB w (rA ws o)
  | [], _ => rfl
  | _ :: ws, _ => rA_snoc w ws _
theorem okS_snoc (w : Str) : ∀ (ws : List Str) (o r : Bool), okS ws o r = true → mayB w (oA ws o) (rA ws r) = true → okS (ws ++ [w]) o r = true
  | [], o, r, _, h => by
    show (mayB w o r && true) = true
    rw [Bool.and_true]
    exact h
  | v :: ws, o, r, h, h2 => by
    obtain ⟨h3, h4⟩ := Bool.and_eq_true_iff.mp h
    exact Bool.and_eq_true_iff.mpr ⟨h3, okS_snoc w ws _ _ h4 h2⟩
def usuals : List (List Str) := [["begin", "read", "write", "commit"], ["immediate", "write", "commit"], ["write", "read"], ["start", "begin", "write"], ["begin", "read", "commit"], ["exclusive", "read", "commit"]]
def some3 (r : Bool) : List Str := ["read", "write", if r = true then "stop" else "start"]
def someL (o r : Bool) : List Str := some3 r ++ (if o = true then (["commit", "rollback", "read", "write", "commit"] : List Str) else ["begin", "begin", "immediate", "exclusive"])
theorem someL_may : ∀ (o r : Bool) (w : Str), w ∈ someL o r → mayB w o r = true := by
  intro o r
  cases o <;> cases r <;> decide +kernel
theorem someL_len (o r : Bool) : 0 < (someL o r).length ∧ (someL o r).length ≤ 8 := by
  cases o <;> cases r <;> decide +kernel
def spScript : Sp := fun vs H Q _ => ∃ (l c : Addr) (ns : List Int) (many : Int), vs = [.ref l, .int many] ∧ 0 ≤ many ∧ many ≤ 8 ∧ Stt H l c ns ∧
  ∀ H' t ws, Kp l H H' → Stt H' l c ns → H t = none → H' t = some (.tup (wordsV ws)) → okS ws false false = true → ws.length ≤ 8 → Q (.ref t) H'
section
variable {P : Program} {w : World} {K : PySem.W.Frag} {mg : Str → Option Value} {base : Heap}
theorem ok_script {f fO fT : Addr} {fd dO dT : FuncData} (F : Fun K "_law_script" "_law_script" sScript f fd) (O : Can P w K mg base CX0 3 "_law_one" ["_law_state", "_law_things"] spOne fO dO) (T : Can P w K mg base CX0 2 "_law_take" ["_law_state", "_law_many"] spTake fT dT)
    (ml : mg "len" = none) (mi : mg "int" = none) (mr : mg "range" = none) (mmi : mg "min" = none) (mt : mg "tuple" = none) : FnOk P w K mg base CX0 4 f fd ["_law_state", "_law_many"] spScript := by
  refine F.ok scScript (fun vs H Q E h => ?_) (fun cdv A outer s H vs Q E hr h => ?_)
  · obtain ⟨l, c, ns, many, rfl, _⟩ := h
    rfl
  · obtain ⟨l, c, ns, many, rfl, m0, m8, st, q⟩ := h
    refine ⟨_, pss_cons (ps_par3 (by rfl) scScript.nd (i := 2) (j := 3) (l := 4) rfl rfl rfl (by decide) (by decide) (by decide) rfl rfl rfl (pa_cons (pe_lst pa_nil) (pa_cons pe_bl (pa_cons pe_bl pa_nil))) (by rfl))
          (C8.pss_cut (ps_set (i := 5) scScript.nd rfl (.inl rfl) (pe_call O.G hr (by rfl) O.g O.kp O.b .nil pass0 (pa_cons (pv 0) (pa_cons (pe_lst (pa_cons (pe_tup (pa_cons pe_str (pa_cons pe_str (pa_cons pe_str (pa_cons pe_str pa_nil))))) (pa_cons (pe_tup (pa_cons pe_str (pa_cons pe_str (pa_cons pe_str pa_nil)))) (pa_cons (pe_tup (pa_cons pe_str (pa_cons pe_str pa_nil))) (pa_cons (pe_tup (pa_cons pe_str (pa_cons pe_str (pa_cons pe_str pa_nil)))) (pa_cons (pe_tup (pa_cons pe_str (pa_cons pe_str (pa_cons pe_str pa_nil)))) (pa_cons (pe_tup (pa_cons pe_str (pa_cons pe_str (pa_cons pe_str pa_nil)))) pa_nil))))))) pa_nil))))
          (pss_cons (ps_set (i := 6) scScript.nd rfl (.inl rfl) (pe_call T.G (hr.mono (by decide)) (by rfl) T.g T.kp T.b .nil pass0 (pa_cons (pv 0) (pa_cons (pe_op op_mul pe_int (pe_callB call_len_seq (by rfl) ml PySem.boot_len (pa_cons (pv 5) pa_nil))) pa_nil))))
          (pss_cons (ps_for PassesOwn.never rfl (pi_range1 (by rfl) mr (pa_cons (pe_op op_sub (pv 1) (pe_op op_mul (pe_call T.G (hr.mono (by decide)) (by rfl) T.g T.kp T.b .nil pass0 (pa_cons (pv 0) (pa_cons pe_int pa_nil))) (pe_callTy call_int1 (by rfl) mi PySem.Pv.boot_int (pa_cons (pe_cmpR op_gt (pv 1) pe_int (nomark _)) pa_nil)))) pa_nil)) (pg_name (i := 7) scScript.nd rfl (Or.inl rfl))
        (pss_cons (ps_set (i := 8) scScript.nd rfl (.inl rfl) (pe_lst (pa_cons pe_str (pa_cons pe_str (pa_cons (pe_ix ix_tup (pe_tup (pa_cons pe_str (pa_cons pe_str pa_nil))) (pe_callTy call_int1 (by rfl) mi PySem.Pv.boot_int (pa_cons (pv 4) pa_nil)) (fun _ _ => rfl)) pa_nil)))))
          (C8.pss_cut (ps_if (pt_val (pv 3)) (pss_one (ps_set (i := 8) scScript.nd rfl (.inl rfl) (pe_op op_cat (pv 8) (pe_lst (pa_cons pe_str (pa_cons pe_str (pa_cons pe_str (pa_cons pe_str (pa_cons pe_str pa_nil))))))))) (pss_one (ps_set (i := 8) scScript.nd rfl (.inl rfl) (pe_op op_cat (pv 8) (pe_lst (pa_cons pe_str (pa_cons pe_str (pa_cons pe_str (pa_cons pe_str pa_nil)))))))))
          (pss_cons (ps_set (i := 9) scScript.nd rfl (.inl rfl) (pe_call O.G hr (by rfl) O.g O.kp O.b .nil pass0 (pa_cons (pv 0) (pa_cons (pv 8) pa_nil))))
          (C8.pss_cut (ps_if (PW.pt (pw_and (pt_cmpR op_lt (pv 7) (pe_callB (call_min2 rfl) (by rfl) mmi (by decide +kernel) (pa_cons (pv 6) (pa_cons (pe_callB call_len_seq (by rfl) ml PySem.boot_len (pa_cons (pv 5) pa_nil)) pa_nil))) (nomark _)) (pw_and1 (pt_cmpR op_in_seq (pe_ix ix_tup (pv 5) (pv 7) (fun _ _ => rfl)) (pv 8) rfl)))) (pss_one (ps_set (i := 9) scScript.nd rfl (.inl rfl) (pe_ix ix_tup (pv 5) (pv 7) (fun _ _ => rfl)))) pss_nil)
          (pss_cons (ps_expr (pe_bm PySem.F.plainAttrs_list PySem.F.slot_list_append PySem.F.type_list_append mt_append (pv 2) (pa_cons (pv 9) pa_nil)))
          (C8.pss_cut (ps_set (i := 3) scScript.nd rfl (.inl rfl) (pe_and (pe_cmpR op_notIn_seq (pv 9) (pe_tup (pa_cons pe_str (pa_cons pe_str pa_nil))) rfl) (pe_one (pe_or (pv 3) (pe_one (pe_cmpR op_in_seq (pv 9) (pe_tup (pa_cons pe_str (pa_cons pe_str (pa_cons pe_str pa_nil)))) rfl))))))
          (pss_one (ps_set (i := 4) scScript.nd rfl (.inl rfl) (pe_and (pe_cmpR op_ne (pv 9) pe_str (nomark _)) (pe_one (pe_or (pv 4) (pe_one (pe_cmpR op_eq (pv 9) pe_str (nomark _)))))))))))))))
          (pss_one (ps_ret (pe_callTy call_tuple_of (by rfl) mt (by decide +kernel) (pa_cons (pv 2) pa_nil))))))), ?_⟩
    have ll : ∀ {y : Addr}, H y = none → y ≠ l := fun {y} e z => by
      obtain ⟨⟨_, _, _, hl⟩, _⟩ := st
      rw [z, hl] at e
      cases e
    refine ⟨Nat.zero_le _, fun f nf => ?_⟩
    have kt := (Al.refl (H := H)).new (o := .lst []) nf
    have nfH : H f = none := nf
    have ef : upd H f (.lst []) f = some (.lst []) := upd_same
    refine ⟨_, _, _, rfl, ?_⟩
    generalize eH0 : upd H f (.lst []) = H0 at kt ef
    have fl : f ≠ l := ll nfH
    refine ⟨fun σ H1 => ∃ (u : Addr) (us : List Str), σ = [some (.ref l), some (.int many), some (.ref f), some (.bl false), some (.bl false), some (.ref u), none, none, none, none] ∧ Kp l H H1 ∧ Stt H1 l c ns ∧ H1 f = some (.lst []) ∧ H1 u = some (.tup (wordsV us)) ∧ u ≠ l ∧ 0 < us.length ∧ us.length ≤ 4, ?_, ?_⟩
    · refine ⟨.ref l, rfl, by show 4 ≤ sizeLine; decide, fun t1 n1 => ⟨by show 3 ≤ sizeLine; decide, fun t2 n2 => ⟨by show 2 ≤ sizeLine; decide, fun t3 n3 => ⟨by show 3 ≤ sizeLine; decide, fun t4 n4 => ⟨by show 3 ≤ sizeLine; decide, fun t5 n5 => ⟨by show 3 ≤ sizeLine; decide, fun t6 n6 => ⟨by show 6 ≤ sizeLine; decide, fun L nL => ?_⟩⟩⟩⟩⟩⟩⟩
      have k1 := (Al.refl (H := H0)).new (o := .tup (wordsV ["begin", "read", "write", "commit"])) n1
      have k2 := (Al.refl).new (o := .tup (wordsV ["immediate", "write", "commit"])) n2
      have k3 := (Al.refl).new (o := .tup (wordsV ["write", "read"])) n3
      have k4 := (Al.refl).new (o := .tup (wordsV ["start", "begin", "write"])) n4
      have k5 := (Al.refl).new (o := .tup (wordsV ["begin", "read", "commit"])) n5
      have k6 := (Al.refl).new (o := .tup (wordsV ["exclusive", "read", "commit"])) n6
      have kL := (Al.refl).new (o := .lst [.ref t1, .ref t2, .ref t3, .ref t4, .ref t5, .ref t6]) nL
      have kA := (((((k1.trans k2).trans k3).trans k4).trans k5).trans k6).trans kL
      have g1 : H0 t1 = none := n1
      have g2 : H0 t2 = none := k1.gone n2
      have g3 : H0 t3 = none := (k1.trans k2).gone n3
      have g4 : H0 t4 = none := ((k1.trans k2).trans k3).gone n4
      have g5 : H0 t5 = none := (((k1.trans k2).trans k3).trans k4).gone n5
      have g6 : H0 t6 = none := ((((k1.trans k2).trans k3).trans k4).trans k5).gone n6
      have gL : H0 L = none := (((((k1.trans k2).trans k3).trans k4).trans k5).trans k6).gone nL
      have e1 := kL _ _ (k6 _ _ (k5 _ _ (k4 _ _ (k3 _ _ (k2 t1 _ upd_same)))))
      have e2 := kL _ _ (k6 _ _ (k5 _ _ (k4 _ _ (k3 t2 _ upd_same))))
      have e3 := kL _ _ (k6 _ _ (k5 _ _ (k4 t3 _ upd_same)))
      have e4 := kL _ _ (k6 _ _ (k5 t4 _ upd_same))
      have e5 := kL _ _ (k6 t5 _ upd_same)
      have e6 := kL t6 _ upd_same
      have l0 : ∀ {y : Addr}, H0 y = none → y ≠ l := fun {y} e => ll (kt.gone e)
      refine ⟨l, c, ns, L, _, rfl, upd_same, l0 gL, by show 0 < 6; decide, by show 6 < 1000; decide, (st.up kt).up kA, fun H' dd x kx stx hx => ?_⟩
      have kp : Kp l H H' := fun b o n e => kx b o n (kA b o (kt b o e))
      have fin : ∀ (t : Addr) (us : List Str), x = .ref t → H0 t = none → H' t = some (.tup (wordsV us)) → 0 < us.length → us.length ≤ 4 → ∃ (u : Addr) (us : List Str), [some (V.ref l), some (.int many), some (.ref f), some (.bl false), some (.bl false), some x, none, none, none, none] = [some (.ref l), some (.int many), some (.ref f), some (.bl false), some (.bl false), some (.ref u), none, none, none, none] ∧ Kp l H H' ∧ Stt H' l c ns ∧ H' f = some (.lst []) ∧ H' u = some (.tup (wordsV us)) ∧ u ≠ l ∧ 0 < us.length ∧ us.length ≤ 4 :=
        fun t us ex g e p1 p2 => ⟨t, us, by rw [ex], kp, stx, kx _ _ fl (kA _ _ ef), e, l0 g, p1, p2⟩
      have hm := List.mem_of_getElem? hx
      simp only [List.mem_cons, List.not_mem_nil, or_false] at hm
      rcases hm with hm | hm | hm | hm | hm | hm
      · exact fin t1 ["begin", "read", "write", "commit"] hm g1 (kx _ _ (l0 g1) e1) (by decide) (by decide)
      · exact fin t2 ["immediate", "write", "commit"] hm g2 (kx _ _ (l0 g2) e2) (by decide) (by decide)
      · exact fin t3 ["write", "read"] hm g3 (kx _ _ (l0 g3) e3) (by decide) (by decide)
      · exact fin t4 ["start", "begin", "write"] hm g4 (kx _ _ (l0 g4) e4) (by decide) (by decide)
      · exact fin t5 ["begin", "read", "commit"] hm g5 (kx _ _ (l0 g5) e5) (by decide) (by decide)
      · exact fin t6 ["exclusive", "read", "commit"] hm g6 (kx _ _ (l0 g6) e6) (by decide) (by decide)
    rintro σ H1 ⟨u, us, rfl, kp1, st1, f1, u1, ul, up, u4⟩
    have wl : (wordsV us).length = us.length := List.length_map _
    refine ⟨.ref l, rfl, .ref u, rfl, u, _, rfl, .inr (sqt u1), 2, _, rfl, rfl, .inl ⟨by decide, by decide⟩, l, c, ns, _, rfl, by rw [wl]; omega, by rw [wl]; omega, st1, fun H2 upto kk2 st2 u0 u9 => ?_⟩
    have f2 := kk2 _ _ fl f1
    have u2 := kk2 _ _ ul u1
    refine ⟨.int many, rfl, .ref l, rfl, l, c, ns, 3, rfl, by decide, by decide, st2, fun H3 d kk3 st3 d0 d3 => ?_⟩
    have f3 := kk3 _ _ fl f2
    have u3 := kk3 _ _ ul u2
    have kp3 : Kp l H H3 := (kp1.trans kk2).trans kk3
    refine ⟨.int many, rfl, _, _, rfl, rfl, .inr ⟨_, rfl, _, _, rfl, rfl, ?_, _, _, rfl, rfl, _, rfl, ?_, ?_, ?_⟩⟩
    · exact .inl ⟨by omega, by omega⟩
    · split <;> omega
    · split <;> omega
    generalize eJ : (many - d * if decide (many > 2) = true then 1 else 0) = j
    have j8 : j.toNat ≤ 8 := by
      rw [← eJ]
      split <;> omega
    refine for_range (n := j.toNat) (fun i σ H' => ∃ (ws : List Str) (y7 y8 y9 : Option V), σ = [some (.ref l), some (.int many), some (.ref f), some (.bl (oA ws false)), some (.bl (rA ws false)), some (.ref u), some (.int upto), y7, y8, y9] ∧ ws.length = i ∧ okS ws false false = true ∧ Kp l H H' ∧ Stt H' l c ns ∧ H' f = some (.lst (wordsV ws)) ∧ H' u = some (.tup (wordsV us)))
      ⟨[], none, none, none, rfl, rfl, rfl, kp3, st3, f3, u3⟩ ?turn ?after
    case after =>
      rintro σ H4 ⟨ws, y7, y8, y9, rfl, hlen, ok, kp4, st4, f4, _⟩
      refine ⟨.ref f, rfl, f, _, rfl, .inl ⟨sq f4, fun t nt => ?_⟩⟩
      have n0 : H t = none := by
        cases e : H t with
        | none => rfl
        | some o =>
          by_cases h : t = l
          · obtain ⟨⟨_, _, _, hl⟩, _⟩ := st4
            rw [h, hl] at nt
            cases nt
          · rw [kp4 t o h e] at nt
            cases nt
      refine q _ t ws (fun b o n e => ?_) (st4.up (Al.refl.new nt)) n0 upd_same ok (by omega)
      exact (Al.refl.new nt) _ _ (kp4 b o n e)
    case turn =>
      rintro i σ H4 hi ⟨ws, y7, y8, y9, rfl, hlen, ok, kp4, st4, f4, u4'⟩
      generalize eo : oA ws false = o at *
      generalize er : rA ws false = r at *
      have l4 : ∀ {y : Addr}, H4 y = none → y ≠ l := fun {y} e z => by
        obtain ⟨⟨_, _, _, hl⟩, _⟩ := st4
        rw [z, hl] at e
        cases e
      -- the words to choose from
      have two : ∀ r : Bool, atI [V.str "start", V.str "stop"] (if r = true then 1 else 0) = some (.str (if r = true then "stop" else "start")) := fun r => by cases r <;> rfl
      refine ⟨by show 2 ≤ sizeLine; decide, fun t1 n1 => ⟨.bl r, rfl, .inr ⟨_, rfl, t1, _, _, _, rfl, rfl, sqt upd_same, two r, by show 3 ≤ sizeLine; decide, fun s1 ns1 => ?_⟩⟩⟩
      have k1 := (Al.refl (H := H4)).new (o := .tup [.str "start", .str "stop"]) n1
      have k2 := k1.new (o := .lst ((some3 r).map V.str)) ns1
      refine ⟨fun σ H5 => ∃ (s2 : Addr) (y7 y9 : Option V), σ = [some (.ref l), some (.int many), some (.ref f), some (.bl o), some (.bl r), some (.ref u), some (.int upto), some (.int (0 + (i : Nat))), some (.ref s2), y9] ∧ Al H4 H5 ∧ H4 s2 = none ∧ H5 s2 = some (.lst ((someL o r).map V.str)), ?_, ?_⟩
      · refine ⟨.bl o, rfl, o, rfl, ?_⟩
        cases o with
        | true =>
          refine iteT ⟨.ref s1, rfl, by show 5 ≤ sizeLine; decide, fun p np => ⟨s1, p, _, _, rfl, rfl, (upd_ne (ne_of_none upd_same np)).trans upd_same, upd_same, by show 3 + 5 ≤ sizeLine; decide, fun s2 ns2 => ?_⟩⟩
          have k3 := (k2.new (o := .lst [.str "commit", .str "rollback", .str "read", .str "write", .str "commit"]) np)
          exact ⟨s2, none, y9, rfl, k3.new ns2, k3.gone ns2, upd_same⟩
        | false =>
          refine iteF ⟨.ref s1, rfl, by show 4 ≤ sizeLine; decide, fun p np => ⟨s1, p, _, _, rfl, rfl, (upd_ne (ne_of_none upd_same np)).trans upd_same, upd_same, by show 3 + 4 ≤ sizeLine; decide, fun s2 ns2 => ?_⟩⟩
          have k3 := (k2.new (o := .lst [.str "begin", .str "begin", .str "immediate", .str "exclusive"]) np)
          exact ⟨s2, none, y9, rfl, k3.new ns2, k3.gone ns2, upd_same⟩
      rintro σ H5 ⟨s2, _, y9', rfl, k5, ns2, hs2⟩
      obtain ⟨sp, s8⟩ := someL_len o r
      have sl : s2 ≠ l := l4 ns2
      refine ⟨.ref l, rfl, .ref s2, rfl, l, c, ns, s2, _, rfl, hs2, sl, by rw [List.length_map]; exact sp, by rw [List.length_map]; omega, st4.up k5, fun H6 dd x kx st6 hx => ?_⟩
      obtain ⟨w0, hw0, rfl⟩ : ∃ w ∈ someL o r, x = .str w := by
        obtain ⟨w, hw, e⟩ := List.mem_map.mp (List.mem_of_getElem? hx)
        exact ⟨w, hw, e.symm⟩
      have kp6 : Kp l H H6 := fun b o n e => kx b o n (k5 _ _ (kp4 b o n e))
      have f6 : H6 f = some (.lst (wordsV ws)) := kx _ _ fl (k5 _ _ f4)
      have u6 : H6 u = some (.tup (wordsV us)) := kx _ _ ul (k5 _ _ u4')
      have s6 : H6 s2 = some (.lst ((someL o r).map V.str)) := kx _ _ sl hs2
      refine ⟨fun σ H7 => H7 = H6 ∧ ∃ w ∈ someL o r, σ = [some (.ref l), some (.int many), some (.ref f), some (.bl o), some (.bl r), some (.ref u), some (.int upto), some (.int (0 + (i : Nat))), some (.ref s2), some (.str w)], ?_, ?_⟩
      · refine ⟨.int (0 + (i : Nat)), rfl, .int upto, rfl, .ref u, rfl, u, _, rfl, .inr (sqt u6), _, _, rfl, _, _, rfl, rfl, _, rfl, ite2 (fun e => ?_) (fun e => iteF ⟨rfl, w0, hw0, rfl⟩)⟩
        have hiu : i < us.length := by
          have z := of_decide_eq_true e
          rw [wl] at z
          split at z <;> omega
        have at1 : atI (wordsV us) (0 + (i : Nat)) = some (.str us[i]) := by
          rw [Int.zero_add]
          refine atI_nat ?_
          unfold wordsV
          rw [List.getElem?_map, List.getElem?_eq_getElem hiu]
          rfl
        refine ⟨.ref u, rfl, .int (0 + (i : Nat)), rfl, u, _, _, _, rfl, rfl, sqt u6, at1, .ref s2, rfl, s2, _, rfl, .inl (sq s6), rfl, ?_, inW us[i] (someL o r), rfl, ite2 (fun e2 => ?_) (fun _ => ⟨rfl, w0, hw0, rfl⟩)⟩
        · have flat : ∀ l : List Str, (l.map V.str).all flatV = true := fun l => by
            rw [List.all_map, List.all_eq_true]
            exact fun _ _ => rfl
          exact flat _
        · exact ⟨.ref u, rfl, .int (0 + (i : Nat)), rfl, u, _, _, _, rfl, rfl, sqt u6, at1, rfl, us[i], inW_mem.mp e2, rfl⟩
      rintro σ H7 ⟨rfl, v, hv, rfl⟩
      -- it is put behind
      refine ⟨.ref f, rfl, .inl ⟨rfl, _, sq f6⟩, .str v, rfl, f, _, _, rfl, rfl, f6, ?_, ?_⟩
      · unfold wordsV
        rw [List.length_map]
        exact small1000 (by omega)
      have f8 : upd H7 f (.lst (wordsV ws ++ [.str v])) f = some (.lst (wordsV (ws ++ [v]))) := by
        rw [upd_same]
        unfold wordsV
        rw [List.map_append]
        rfl
      have kp8 : Kp l H (upd H7 f (.lst (wordsV ws ++ [.str v]))) := fun b o n e => by
        rw [upd_ne (ne_of_none e nfH)]
        exact kp6 b o n e
      have cf : c ≠ f := fun z => by
        obtain ⟨_, hc, _, _⟩ := st
        rw [z, nfH] at hc
        cases hc
      have st8 : Stt (upd H7 f (.lst (wordsV ws ++ [.str v]))) l c ns := by
        obtain ⟨⟨a1, a2, a3, a4⟩, b1, b2, b3⟩ := st6
        exact ⟨⟨a1, a2, a3, (upd_ne (Ne.symm fl)).trans a4⟩, (upd_ne cf).trans b1, b2, b3⟩
      have uf : u ≠ f := fun z => by
        rw [z, f6] at u6
        cases u6
      have u8 : upd H7 f (.lst (wordsV ws ++ [.str v])) u = some (.tup (wordsV us)) := (upd_ne uf).trans u6
      generalize eH8 : upd H7 f (.lst (wordsV ws ++ [.str v])) = H8 at f8 kp8 st8 u8
      have ok8 : okS (ws ++ [v]) false false = true := okS_snoc v ws false false ok (by rw [eo, er]; exact someL_may o r v hv)
      refine ⟨fun σ H9 => σ = [some (.ref l), some (.int many), some (.ref f), some (.bl (opnB v o)), some (.bl r), some (.ref u), some (.int upto), some (.int (0 + (i : Nat))), some (.ref s2), some (.str v)] ∧ Al H8 H9, ?_, ?_⟩
      · refine ⟨.str v, rfl, by show 2 ≤ sizeLine; decide, fun t1 n1 => ?_⟩
        have k1 := (Al.refl (H := H8)).new (o := .tup [.str "commit", .str "rollback"]) n1
        refine ⟨t1, _, rfl, .inr (sqt upd_same), rfl, rfl, _, rfl, ite2 (fun e1 => ?_) (fun e1 => ?_)⟩
        · have f1 : (!inW v ["commit", "rollback"]) = true := e1
          refine ⟨.bl o, rfl, o, rfl, ite2 (fun e2 => ?_) (fun e2 => ?_)⟩
          · refine ⟨?_, k1⟩
            unfold opnB
            rw [f1, e2]
            rfl
          · refine ⟨.str v, rfl, by show 3 ≤ sizeLine; decide, fun t2 n2 => ?_⟩
            have k2 := k1.new (o := .tup [.str "begin", .str "immediate", .str "exclusive"]) n2
            refine ⟨t2, _, rfl, .inr (sqt upd_same), rfl, rfl, ?_, k2⟩
            unfold opnB
            rw [f1, Bool.eq_false_iff.mpr e2]
            rfl
        · refine ⟨?_, k1⟩
          have f1 : (!inW v ["commit", "rollback"]) = false := Bool.eq_false_iff.mpr e1
          unfold opnB
          rw [f1]
          rfl
      rintro σ H9 ⟨rfl, k9⟩
      have fin : ∀ b : Bool, b = rdsB v r → ∃ (ws : List Str) (y7 y8 y9 : Option V), [some (V.ref l), some (.int many), some (.ref f), some (.bl (opnB v o)), some (.bl b), some (.ref u), some (.int upto), some (.int (0 + (i : Nat))), some (.ref s2), some (.str v)] = [some (.ref l), some (.int many), some (.ref f), some (.bl (oA ws false)), some (.bl (rA ws false)), some (.ref u), some (.int upto), y7, y8, y9] ∧ ws.length = i + 1 ∧ okS ws false false = true ∧ Kp l H H9 ∧ Stt H9 l c ns ∧ H9 f = some (.lst (wordsV ws)) ∧ H9 u = some (.tup (wordsV us)) := fun b eb =>
        ⟨ws ++ [v], some (.int (0 + (i : Nat))), some (.ref s2), some (.str v), by rw [oA_snoc, rA_snoc, eo, er, eb], by simp [hlen], ok8, fun b o n e => k9 _ _ (kp8 b o n e), st8.up k9, k9 _ _ f8, k9 _ _ u8⟩
      refine ⟨.str v, rfl, rfl, _, rfl, ite2 (fun e1 => ?_) (fun e1 => ?_)⟩
      · have f1 : (!decide (v = "stop")) = true := by
          rw [← eq_str]
          exact e1
        refine ⟨.bl r, rfl, r, rfl, ite2 (fun e2 => ?_) (fun e2 => ?_)⟩
        · refine fin _ ?_
          unfold rdsB
          rw [f1, e2]
          rfl
        · refine ⟨.str v, rfl, rfl, fin _ ?_⟩
          unfold rdsB
          rw [f1, Bool.eq_false_iff.mpr e2, eq_str]
          rfl
      · refine fin _ ?_
        have f1 : (!decide (v = "stop")) = false := by
          rw [← eq_str]
          exact Bool.eq_false_iff.mpr e1
        unfold rdsB
        rw [f1]
        rfl
end
end Lk

namespace Lk
open PySem PySem.Calls PyProof.Rows PySem.Spec L2 Drw Err
theorem scScripts : FnScope ["_law_state", "_law_most", "_law_many", "_law_k"] ["_law_state", "_law_most", "_law_many"] (defScope sScripts) := ⟨rfl, rfl, rfl, by decide +kernel, rfl, by decide +kernel, by decide +kernel⟩
theorem gone_kp {l c : Addr} {ns : List Int} {H H' : Hp} {t : Addr} (k : Kp l H H') (st : Stt H' l c ns) (h : H' t = none) : H t = none := by
  cases e : H t with
  | none => rfl
  | some o =>
    by_cases z : t = l
    · obtain ⟨⟨_, _, _, hl⟩, _⟩ := st
      rw [z, hl] at h
      cases h
    · rw [k t o z e] at h
      cases h
def spScripts : Sp := fun vs H Q _ => ∃ (l c : Addr) (ns : List Int) (most many : Int), vs = [.ref l, .int most, .int many] ∧ 0 < most ∧ most ≤ 4 ∧ 0 ≤ many ∧ many ≤ 8 ∧ Stt H l c ns ∧
  ∀ H' t ss, Kp l H H' → Stt H' l c ns → H t = none → Kids H' t (ss.map wordsV) → okAll ss → Q (.ref t) H'
section
variable {P : Program} {w : World} {K : PySem.W.Frag} {mg : Str → Option Value} {base : Heap}
theorem ok_scripts {f fS fT : Addr} {fd dS dT : FuncData} (F : Fun K "_law_scripts" "_law_scripts" sScripts f fd) (S : Can P w K mg base CX0 4 "_law_script" ["_law_state", "_law_many"] spScript fS dS) (T : Can P w K mg base CX0 2 "_law_take" ["_law_state", "_law_many"] spTake fT dT)
    (mr : mg "range" = none) (mt : mg "tuple" = none) : FnOk P w K mg base CX0 5 f fd ["_law_state", "_law_most", "_law_many"] spScripts := by
  refine F.ok scScripts (fun vs H Q E h => ?_) (fun cdv A outer s H vs Q E hr h => ?_)
  · obtain ⟨l, c, ns, most, many, rfl, _⟩ := h
    rfl
  · obtain ⟨l, c, ns, most, many, rfl, p0, p4, m0, m8, st, q⟩ := h
    refine ⟨_, pss_one (ps_ret (pe_callTy call_tuple_of (by rfl) mt (by decide +kernel) (pa_cons (pe_lc (own := [("_law_k", 3)]) (g := gName 3) (tt := tYes) rfl scScripts.nd (pi_range1 (by rfl) mr (pa_cons (pe_op op_add pe_int (pe_call T.G (hr.mono (by decide)) (by rfl) T.g T.kp T.b .nil pass0 (pa_cons (pv 0) (pa_cons (pv 1) pa_nil)))) pa_nil))
      (blkOk_by (N := ["_law_state", "_law_most", "_law_many", "_law_k"]) (sc := defScope sScripts) (by decide +kernel)) (fun _ _ _ _ _ => pg_name (i := 3) scScripts.nd rfl (Or.inl rfl)) (fun _ _ _ _ _ => pts_nil)
      (fun _ _ _ _ _ => pe_call S.G hr (by rfl) S.g S.kp S.b .nil pass0 (pa_cons (pv 0) (pa_cons (pv 2) pa_nil)))) pa_nil))), ?_⟩
    refine ⟨.ref l, rfl, .int most, rfl, l, c, ns, most, rfl, p0, by omega, st, fun H1 d k1 st1 d0 d1 => ?_⟩
    refine ⟨_, _, rfl, rfl, _, rfl, by omega, by omega, fun D nD => ?_⟩
    have nDm : H1 D = none := nD
    have Dl : D ≠ l := fun z => by
      obtain ⟨⟨_, _, _, hl⟩, _⟩ := st1
      rw [z, hl] at nDm
      cases nDm
    have Dc : D ≠ c := fun z => by
      obtain ⟨_, hc, _⟩ := st1
      rw [z, hc] at nDm
      cases nDm
    have stUp : ∀ {H' : Hp} {o : HO}, Stt H' l c ns → Stt (upd H' D o) l c ns := fun {H' o} ⟨⟨a1, a2, a3, a4⟩, b1, b2, b3⟩ => ⟨⟨a1, a2, a3, (upd_ne (Ne.symm Dl)).trans a4⟩, (upd_ne (Ne.symm Dc)).trans b1, b2, b3⟩
    have n4 : (1 + d).toNat ≤ 4 := by omega
    have n1 : 1 ≤ (1 + d).toNat := by omega
    generalize (1 + d).toNat = n at n4 n1
    refine lc_range (n := n) (fun i H' => Kp l H1 H' ∧ Stt H' l c ns ∧ ∃ (ys : List V) (ss : List (List Str)), H' D = some (.lst ys) ∧ ys.length = i ∧ ss.length = i ∧ (∀ ws ∈ ss, ws.length ≤ 8 ∧ okS ws false false = true) ∧ ∀ (j : Nat) ws, ss[j]? = some ws → ∃ a, ys[j]? = some (.ref a) ∧ H' a = some (.tup (wordsV ws)))
      ⟨fun b o n e => (upd_ne (ne_of_none e nDm)).trans e, stUp st1, [], [], upd_same, rfl, rfl, fun ws h => (by cases h), fun j ws h => (by cases h)⟩ (fun i H' hi hI => ?_) (fun H' hI => ?_)
    · obtain ⟨k2, st2, ys, ss, hy, yl, sl, ok, hs⟩ := hI
      refine ⟨rfl, .ref l, rfl, .int many, rfl, l, c, ns, many, rfl, m0, m8, st2, fun H3 t ws k3 st3 nt ht okw w8 => ?_⟩
      have y3 := k3 _ _ Dl hy
      have tD : t ≠ D := fun z => by
        rw [z, hy] at nt
        cases nt
      refine ⟨ys, y3, by rw [yl]; exact small1000 (by omega), fun b o n e => ?_, stUp st3, ys ++ [.ref t], ss ++ [ws], upd_same, by simp [yl], by simp [sl], fun v hv => ?_, fun j v e => ?_⟩
      · rw [upd_ne (ne_of_none e nDm)]
        exact k3 b o n (k2 b o n e)
      · rcases List.mem_append.mp hv with h | h
        · exact ok v h
        · rw [List.mem_singleton.mp h]
          exact ⟨w8, okw⟩
      · rcases Nat.lt_or_ge j i with h | h
        · rw [List.getElem?_append_left (by omega)] at e
          obtain ⟨a, e1, e2⟩ := hs j v e
          have aD : a ≠ D := fun z => by
            rw [z, hy] at e2
            cases e2
          have al : a ≠ l := fun z => by
            obtain ⟨⟨_, _, _, hl⟩, _⟩ := st2
            rw [z, hl] at e2
            cases e2
          refine ⟨a, by rw [List.getElem?_append_left (by omega)]; exact e1, ?_⟩
          rw [upd_ne aD]
          exact k3 _ _ al e2
        · rw [List.getElem?_append_right (by omega)] at e
          have j0 : j = i := by
            have z := (List.getElem?_eq_some_iff.mp e).1
            rw [List.length_singleton] at z
            omega
          subst j0
          rw [sl, Nat.sub_self] at e
          obtain rfl := Option.some.inj e
          refine ⟨t, by rw [List.getElem?_append_right (by omega), yl, Nat.sub_self]; rfl, ?_⟩
          rw [upd_ne tD]
          exact ht
    · obtain ⟨k2, st2, ys, ss, hy, yl, sl, ok, hs⟩ := hI
      refine ⟨D, ys, rfl, .inl ⟨sq hy, fun t nt => ?_⟩⟩
      have k9 : Kp l H (upd H' t (.tup ys)) := fun b o n e => by
        have z := k2 b o n (k1 b o n e)
        rw [upd_ne (ne_of_none z nt)]
        exact z
      refine q _ t ss k9 (st2.up (Al.refl.new nt)) (gone_kp (k1.trans k2) st2 nt) ⟨ys, upd_same, by rw [List.length_map, yl, sl], fun j k e => ?_⟩ ⟨by omega, by omega, ok⟩
      rw [List.getElem?_map] at e
      cases e1 : ss[j]? with
      | none =>
        rw [e1] at e
        cases e
      | some ws =>
        rw [e1] at e
        obtain rfl : wordsV ws = k := Option.some.inj e
        obtain ⟨a, z1, z2⟩ := hs j ws e1
        refine ⟨a, z1, ?_⟩
        rw [upd_ne (ne_of_none z2 nt)]
        exact z2
end
end Lk

/-! Data as it is handed on: lists or tuples at each level. -/
namespace Lk
open PySem PySem.Calls PyProof.Rows PySem.Spec L2 Drw Err
/-- numbers, truths, texts that are told shortly -/
inductive Lf : V → PyData → Prop
  | int (i : Int) (h : (PyData.int i).shown.length ≤ 40) (h2 : (PyData.int i).showable = true) : Lf (.int i) (.int i)
  | bl (b : Bool) : Lf (.bl b) (.bool b)
  | str (s : Str) (h : (PyData.str s).shown.length ≤ 40) : Lf (.str s) (.str s)
inductive Mx (H : Hp) : Nat → V → PyData → Prop
  | leaf (n : Nat) {x : V} {d : PyData} (h : Lf x d) : Mx H n x d
  | lst {n : Nat} {a : Addr} {xs : List V} {ds : List PyData} : H a = some (.lst xs) → xs.length = ds.length → xs.length ≤ 100 → (∀ (i : Nat) x d, xs[i]? = some x → ds[i]? = some d → Mx H n x d) → Mx H (n + 1) (.ref a) (.list ds)
  | tup {n : Nat} {a : Addr} {xs : List V} {ds : List PyData} : H a = some (.tup xs) → xs.length = ds.length → xs.length ≤ 100 → (∀ (i : Nat) x d, xs[i]? = some x → ds[i]? = some d → Mx H n x d) → Mx H (n + 1) (.ref a) (.tuple ds)
theorem Mx.al {H H' : Hp} (k : Al H H') : ∀ {n : Nat} {x : V} {d : PyData}, Mx H n x d → Mx H' n x d := by
  intro n x d h
  induction h with
  | leaf n h => exact .leaf n h
  | lst h1 h2 h3 _ ih => exact .lst (k _ _ h1) h2 h3 ih
  | tup h1 h2 h3 _ ih => exact .tup (k _ _ h1) h2 h3 ih
/-- the same but for lists and tuples -/
inductive Shp : Nat → PyData → PyData → Prop
  | same (n : Nat) (d : PyData) : Shp n d d
  | ll {n : Nat} {ds es : List PyData} : ds.length = es.length → (∀ (i : Nat) d e, ds[i]? = some d → es[i]? = some e → Shp n d e) → Shp (n + 1) (.list ds) (.list es)
  | lt {n : Nat} {ds es : List PyData} : ds.length = es.length → (∀ (i : Nat) d e, ds[i]? = some d → es[i]? = some e → Shp n d e) → Shp (n + 1) (.list ds) (.tuple es)
  | tl {n : Nat} {ds es : List PyData} : ds.length = es.length → (∀ (i : Nat) d e, ds[i]? = some d → es[i]? = some e → Shp n d e) → Shp (n + 1) (.tuple ds) (.list es)
  | tt {n : Nat} {ds es : List PyData} : ds.length = es.length → (∀ (i : Nat) d e, ds[i]? = some d → es[i]? = some e → Shp n d e) → Shp (n + 1) (.tuple ds) (.tuple es)
/-! ### what repr tells of it -/
theorem textFrom_le : ∀ (ts : List Str) (k : Nat) (acc : Str), (textFrom k acc ts).length ≤ acc.length + (ts.map fun t => t.length + 2).sum
  | [], k, acc => Nat.le_refl _
  | t :: r, k, acc => by
    have h := textFrom_le r (k + 1) (acc ++ (if k > 0 then ", " else "" : String) ++ t)
    have e : (acc ++ (if k > 0 then ", " else "" : String) ++ t).length ≤ acc.length + 2 + t.length := by
      rw [strLen_append, strLen_append]
      split
      · have z : ((", " : String) : Str).length = 2 := rfl
        omega
      · have z : (("" : String) : Str).length = 0 := rfl
        omega
    have h2 : (textFrom k acc (t :: r)).length ≤ (acc ++ (if k > 0 then ", " else "" : String) ++ t).length + (r.map fun t => t.length + 2).sum := h
    rw [List.map_cons, List.sum_cons]
    omega
theorem listText_le (ts : List Str) : (listText ts).length ≤ (ts.map fun t => t.length + 2).sum + 2 := by
  have h := textFrom_le ts 0 "["
  have e : (listText ts).length = (textFrom 0 "[" ts).length + 1 := by
    unfold listText
    rw [strLen_append]
    rfl
  have z : (("[" : String) : Str).length = 1 := rfl
  omega
theorem join_le : ∀ ts : List Str, (Str.join ", " ts).length ≤ (ts.map fun t => t.length + 2).sum
  | [] => Nat.le_refl _
  | [x] => by
    show x.length ≤ _
    simp
  | x :: y :: r => by
    have ih := join_le (y :: r)
    show (x ++ ", " ++ Str.join ", " (y :: r)).length ≤ _
    rw [strLen_append, strLen_append, List.map_cons, List.sum_cons]
    have z : ((", " : String) : Str).length = 2 := rfl
    omega
theorem tupleText_le (ts : List Str) : (tupleText ts).length ≤ (ts.map fun t => t.length + 2).sum + 3 := by
  have h := join_le ts
  unfold tupleText
  rw [strLen_append, strLen_append]
  have z : (("(" : String) : Str).length = 1 := rfl
  split
  · have y : ((",)" : String) : Str).length = 2 := rfl
    omega
  · have y : ((")" : String) : Str).length = 1 := rfl
    omega
theorem sum_bound {B : Nat} : ∀ ts : List Str, (∀ t ∈ ts, t.length ≤ B) → (ts.map fun t => t.length + 2).sum ≤ ts.length * (B + 2)
  | [], _ => Nat.zero_le _
  | t :: r, h => by
    have h1 := h t (List.mem_cons_self ..)
    have h2 := sum_bound r fun u hu => h u (List.mem_cons_of_mem _ hu)
    rw [List.map_cons, List.sum_cons, List.length_cons, Nat.succ_mul]
    omega
theorem shownAll_eq : ∀ ds : List PyData, PyData.shownAll ds = ds.map PyData.shown
  | [] => by rw [PyData.shownAll]; rfl
  | d :: ds => by rw [PyData.shownAll, shownAll_eq ds, List.map_cons]
theorem showableAll_eq : ∀ ds : List PyData, PyData.showableAll ds = ds.all PyData.showable
  | [] => by rw [PyData.showableAll]; rfl
  | d :: ds => by rw [PyData.showableAll, showableAll_eq ds, List.all_cons]
theorem hasDictAll_eq : ∀ ds : List PyData, PyData.hasDictAll ds = ds.any PyData.hasDict
  | [] => by rw [PyData.hasDictAll]; rfl
  | d :: ds => by rw [PyData.hasDictAll, hasDictAll_eq ds, List.any_cons]
theorem depthAll_le {n : Nat} : ∀ ds : List PyData, (∀ d ∈ ds, d.depth ≤ n) → PyData.depthAll ds ≤ n
  | [], _ => by rw [PyData.depthAll]; exact Nat.zero_le _
  | d :: ds, h => by
    rw [PyData.depthAll]
    exact Nat.max_le.mpr ⟨h d (List.mem_cons_self ..), depthAll_le ds fun e he => h e (List.mem_cons_of_mem _ he)⟩
def most : Nat → Nat
  | 0 => 40
  | n + 1 => 100 * (most n + 2) + 3
theorem most_ge : ∀ n, 40 ≤ most n
  | 0 => Nat.le_refl _
  | n + 1 => by
    have h := most_ge n
    show 40 ≤ 100 * (most n + 2) + 3
    omega
/-- what repr asks -/
def Tell (n : Nat) (d : PyData) : Prop := d.showable = true ∧ d.hasDict = false ∧ d.depth ≤ n ∧ d.shown.length ≤ most n
theorem Lf.tell {x : V} {d : PyData} (h : Lf x d) (n : Nat) : Tell n d := by
  have m := most_ge n
  cases h with
  | int i h h2 => exact ⟨h2, by rw [PyData.hasDict], by rw [PyData.depth]; exact Nat.zero_le _, by omega⟩
  | bl b =>
    refine ⟨by rw [PyData.showable], by rw [PyData.hasDict], by rw [PyData.depth]; exact Nat.zero_le _, Nat.le_trans ?_ m⟩
    cases b <;> decide +kernel
  | str s h => exact ⟨by rw [PyData.showable], by rw [PyData.hasDict], by rw [PyData.depth]; exact Nat.zero_le _, by omega⟩
theorem tell_seq {n : Nat} {ds : List PyData} (hl : ds.length ≤ 100) (h : ∀ d ∈ ds, Tell n d) : Tell (n + 1) (.list ds) ∧ Tell (n + 1) (.tuple ds) := by
  have s1 : PyData.showableAll ds = true := by
    rw [showableAll_eq, List.all_eq_true]
    exact fun d hd => (h d hd).1
  have s2 : PyData.hasDictAll ds = false := by
    rw [hasDictAll_eq, List.any_eq_false]
    exact fun d hd => by rw [(h d hd).2.1]; exact Bool.false_ne_true
  have s3 := depthAll_le ds fun d hd => (h d hd).2.2.1
  have s4 : ((PyData.shownAll ds).map fun t => t.length + 2).sum ≤ 100 * (most n + 2) := by
    have z := sum_bound (B := most n) (PyData.shownAll ds) fun t ht => by
      rw [shownAll_eq] at ht
      obtain ⟨d, hd, rfl⟩ := List.mem_map.mp ht
      exact (h d hd).2.2.2
    have l : (PyData.shownAll ds).length = ds.length := by rw [shownAll_eq, List.length_map]
    rw [l] at z
    exact Nat.le_trans z (Nat.mul_le_mul_right _ hl)
  have m : most (n + 1) = 100 * (most n + 2) + 3 := rfl
  refine ⟨⟨by rw [PyData.showable]; exact s1, by rw [PyData.hasDict]; exact s2, by rw [PyData.depth]; omega, ?_⟩, ⟨by rw [PyData.showable]; exact s1, by rw [PyData.hasDict]; exact s2, by rw [PyData.depth]; omega, ?_⟩⟩
  · rw [PyData.shown]
    have z := listText_le (PyData.shownAll ds)
    omega
  · rw [PyData.shown]
    have z := tupleText_le (PyData.shownAll ds)
    omega
theorem pair_at {α β : Type} {xs : List α} {ds : List β} {d : β} (hl : xs.length = ds.length) (h : d ∈ ds) : ∃ (i : Nat) (x : α), xs[i]? = some x ∧ ds[i]? = some d := by
  obtain ⟨i, hi⟩ := List.mem_iff_getElem?.mp h
  have z := (List.getElem?_eq_some_iff.mp hi).1
  exact ⟨i, xs[i], List.getElem?_eq_getElem (by omega), hi⟩
theorem Mx.tell {H : Hp} : ∀ {n : Nat} {x : V} {d : PyData}, Mx H n x d → Tell n d := by
  intro n x d h
  induction h with
  | leaf n h => exact h.tell n
  | lst _ h2 h3 _ ih =>
    exact (tell_seq (by omega) fun d hd => by
      obtain ⟨i, x, e1, e2⟩ := pair_at h2 hd
      exact ih i x d e1 e2).1
  | tup _ h2 h3 _ ih =>
    exact (tell_seq (by omega) fun d hd => by
      obtain ⟨i, x, e1, e2⟩ := pair_at h2 hd
      exact ih i x d e1 e2).2
theorem dpAll {K : PySem.W.Frag} {H : Hp} : ∀ (xs : List V) (ds : List PyData), xs.length = ds.length → (∀ (i : Nat) x d, xs[i]? = some x → ds[i]? = some d → Dp K H x d) → DpAll K H xs ds
  | [], [], _, _ => .nil
  | x :: xs, d :: ds, hl, h => .cons (h 0 x d rfl rfl) (dpAll xs ds (by simpa using hl) fun i y e h1 h2 => h (i + 1) y e h1 h2)
theorem Mx.dp {K : PySem.W.Frag} {H : Hp} : ∀ {n : Nat} {x : V} {d : PyData}, Mx H n x d → Dp K H x d := by
  intro n x d h
  induction h with
  | leaf n h =>
    cases h with
    | int i _ _ => exact .int i
    | bl b => exact .bl b
    | str s _ => exact .str s
  | lst h1 h2 _ _ ih => exact .lst (sq h1) (dpAll _ _ h2 ih)
  | tup h1 h2 _ _ ih => exact .tup (sqt h1) (dpAll _ _ h2 ih)
end Lk

namespace Lk
open PySem PySem.Calls PyProof.Rows PySem.Spec L2 Drw Err
theorem scHanded : FnScope ["_law_state", "_law_thing", "_law_parts", "_law_part"] ["_law_state", "_law_thing"] (defScope sHanded) := ⟨rfl, rfl, rfl, by decide +kernel, rfl, by decide +kernel, by decide +kernel⟩
def spHand (n : Nat) : Sp := fun vs H Q _ => ∃ (l c : Addr) (ns : List Int) (x : V) (d : PyData) (G : Hp), vs = [.ref l, x] ∧ Stt H l c ns ∧ Al G H ∧ G l = none ∧ Mx G n x d ∧
  ∀ H' y e G', Kp l H H' → Stt H' l c ns → Al G G' → Al G' H' → (∀ b o, G' b = some o → G b = some o ∨ H b = none) → Mx G' n y e → Shp n d e → Q y H'
theorem Lf.ty {K : PySem.W.Frag} {H : Hp} {x : V} {d : PyData} (l : Lf x d) : ∃ t : String, TyX K H x (.type t) ∧ PySem.W.kitAny K (.type t) [.type "list", .type "tuple"] = some false := by
  cases l with
  | int i _ _ => exact ⟨_, .base (.int i), no1 (kit_ty (by decide +kernel)) (no1 (kit_ty (by decide +kernel)) kitAny_nil)⟩
  | bl b => exact ⟨_, .base (.bl b), no1 (kit_ty (by decide +kernel)) (no1 (kit_ty (by decide +kernel)) kitAny_nil)⟩
  | str s _ => exact ⟨_, .base (.str s), no1 (kit_ty (by decide +kernel)) (no1 (kit_ty (by decide +kernel)) kitAny_nil)⟩
theorem Mx.split {G : Hp} {n : Nat} {x : V} {d : PyData} (h : Mx G n x d) : Lf x d ∨ ∃ (m : Nat) (a : Addr) (xs : List V) (ds : List PyData), n = m + 1 ∧ x = .ref a ∧ Sp' G a xs ∧ (d = .list ds ∨ d = .tuple ds) ∧ xs.length = ds.length ∧ xs.length ≤ 100 ∧ ∀ (i : Nat) x d, xs[i]? = some x → ds[i]? = some d → Mx G m x d := by
  cases h with
  | leaf n lf => exact .inl lf
  | lst ga hl h100 hx => exact .inr ⟨_, _, _, _, rfl, rfl, .inl ga, .inl rfl, hl, h100, hx⟩
  | tup ga hl h100 hx => exact .inr ⟨_, _, _, _, rfl, rfl, .inr ga, .inr rfl, hl, h100, hx⟩
theorem shp_to {n : Nat} {ds es : List PyData} {d : PyData} (h : d = .list ds ∨ d = .tuple ds) (hl : ds.length = es.length) (hx : ∀ (i : Nat) d e, ds[i]? = some d → es[i]? = some e → Shp n d e) : Shp (n + 1) d (.list es) ∧ Shp (n + 1) d (.tuple es) := by
  rcases h with rfl | rfl
  · exact ⟨.ll hl hx, .lt hl hx⟩
  · exact ⟨.tl hl hx, .tt hl hx⟩
section
variable {P : Program} {w : World} {K : PySem.W.Frag} {mg : Str → Option Value} {base : Heap}
theorem ok_handed {f fT : Addr} {fd dT : FuncData} (F : Fun K "_law_handed" "_law_handed" sHanded f fd) (bS : Binds K fd ["_law_state", "_law_thing"] []) (gS : mg "_law_handed" = some (.ref f)) (T : Can P w K mg base CX0 2 "_law_take" ["_law_state", "_law_many"] spTake fT dT)
    (mi : mg "isinstance" = none) (m_list : mg "list" = none) (m_tuple : mg "tuple" = none) : ∀ n : Nat, FnOk P w K mg base CX0 (n + 3) f fd ["_law_state", "_law_thing"] (spHand n) := by
  have step : ∀ (k n : Nat) (G : FnOk P w K mg base CX0 (k + 2) f fd ["_law_state", "_law_thing"] fun vs H Q E => 0 < n ∧ spHand (n - 1) vs H Q E), FnOk P w K mg base CX0 (k + 3) f fd ["_law_state", "_law_thing"] (spHand n) := by
    intro k n GR
    refine F.ok scHanded (fun vs H Q E h => ?_) (fun cdv A outer s H vs Q E hr h => ?_)
    · obtain ⟨l, c, ns, x, d, G, rfl, _⟩ := h
      rfl
    obtain ⟨l, c, ns, x, d, G, rfl, st, kG, Gl', mx, q⟩ := h
    refine ⟨_, pss_cons (ps_if (pt_not (pt_val (pe_callB call_isiT (by rfl) mi boot_isinstance (pa_cons (pv 1) (pa_cons (pe_tup (pa_cons (pe_bltn (v := .ty "list") (by rfl) m_list (by decide +kernel) rfl) (pa_cons (pe_bltn (v := .ty "tuple") (by rfl) m_tuple (by decide +kernel) rfl) pa_nil))) pa_nil))))) (pss_one (ps_ret (pv 1))) pss_nil)
      (C8.pss_cut (ps_setLc (i := 2) (own := [("_law_part", 3)]) (g := gName 3) (tt := tYes) (te := tCall (fun vs H Q E => 0 < n ∧ spHand (n - 1) vs H Q E) [] E0 (tCons (tVar 0) (tCons (tVar 3) tNil))) (by rfl) scHanded.nd rfl rfl (sw_true rfl rfl rfl (by decide +kernel)) (pi_two (pi_list (pv 1)) (pi_tup (pv 1)))
          (blkOk_by (N := ["_law_state", "_law_thing", "_law_parts", "_law_part"]) (sc := defScope sHanded) (by decide +kernel))
          (fun _ _ _ _ _ => pg_name (i := 3) scHanded.nd rfl (Or.inl rfl)) (fun _ _ _ _ _ => pts_nil) (fun _ _ _ _ _ => pe_call GR hr (by rfl) gS F.kp bS .nil pass0 (pa_cons (pv 0) (pa_cons (pv 3) pa_nil))))
      (pss_one (ps_ret (pe_ix ix_list (pe_lst (pa_cons (pv 2) (pa_cons (pe_callTy call_tuple_of (by rfl) m_tuple (by decide +kernel) (pa_cons (pv 2) pa_nil)) pa_nil))) (pe_call T.G (hr.mono (by omega)) (by rfl) T.g T.kp T.b .nil pass0 (pa_cons (pv 0) (pa_cons pe_int pa_nil))) (fun _ _ => rfl))))), ?_⟩
    rcases mx.split with lf | ⟨m, a, xs, ds, rfl, rfl, ga, hd, hl, h100, hx⟩
    · refine ⟨x, rfl, by show 2 ≤ sizeLine; decide, fun tp ntp => ?_⟩
      have k1 := (Drw.Al.refl (H := H)).new (o := .tup [.ty "list", .ty "tuple"]) ntp
      obtain ⟨t, ty, kn⟩ := lf.ty (K := K) (H := upd H tp (.tup [.ty "list", .ty "tuple"]))
      refine ⟨x, tp, _, .type t, _, false, rfl, upd_same, .cons (.ty _) (.cons (.ty _) .nil), ty, kn, false, rfl, iteT ⟨x, rfl, ?_⟩⟩
      exact q _ x d G (fun b o n e => k1 b o e) (st.up k1) Al.refl (fun b o e => k1 b o (kG b o e)) (fun b o e => .inl e) (.leaf _ lf) (.same _ _)
    refine ⟨.ref a, rfl, by show 2 ≤ sizeLine; decide, fun tp ntp => ?_⟩
    have k1 := (Drw.Al.refl (H := H)).new (o := .tup [.ty "list", .ty "tuple"]) ntp
    have ha1 : Sp' (upd H tp (.tup [.ty "list", .ty "tuple"])) a xs := ga.imp (fun z => k1 _ _ (kG _ _ z)) fun z => k1 _ _ (kG _ _ z)
    have ty : ∃ t : String, (t = "list" ∨ t = "tuple") ∧ TyX K (upd H tp (.tup [.ty "list", .ty "tuple"])) (.ref a) (.type t) := by
      rcases ha1 with z | z
      · exact ⟨_, .inl rfl, .base (.lst z)⟩
      · exact ⟨_, .inr rfl, .base (.tup z)⟩
    obtain ⟨t, ht, ty⟩ := ty
    refine ⟨.ref a, tp, _, .type t, _, true, rfl, upd_same, .cons (.ty _) (.cons (.ty _) .nil), ty, lt2 ht, true, rfl, iteF ?_⟩
    have st1 := st.up k1
    generalize eH1 : upd H tp (.tup [.ty "list", .ty "tuple"]) = H1 at k1 ha1 st1
    -- the parts
    refine ⟨fun σ H2 => ∃ (D : Addr) (ys : List V) (es : List PyData) (G2 : Hp), σ = [some (.ref l), some (.ref a), some (.ref D), none] ∧ Kp l H H2 ∧ Stt H2 l c ns ∧ H D = none ∧ H2 D = some (.lst ys) ∧ Al G G2 ∧ Al G2 H2 ∧ G2 D = none ∧ (∀ b o, G2 b = some o → G b = some o ∨ H b = none) ∧ ys.length = es.length ∧ ds.length = es.length ∧
      (∀ (i : Nat) y e, ys[i]? = some y → es[i]? = some e → Mx G2 m y e) ∧ ∀ (i : Nat) d e, ds[i]? = some d → es[i]? = some e → Shp m d e, ?_, ?_⟩
    · have nl : ∀ {b : Addr}, H1 b = none → b ≠ l := fun {b} e z => by
        obtain ⟨⟨_, _, _, hl⟩, _⟩ := st1
        rw [z, hl] at e
        cases e
      have nc : ∀ {b : Addr}, H1 b = none → b ≠ c := fun {b} e z => by
        obtain ⟨_, hc, _⟩ := st1
        rw [z, hc] at e
        cases e
      have Inv : Addr → Nat → Hp → Prop := fun D i H2 => True
      rcases ha1 with hq | hq
      case' inl => refine .inl ⟨.ref a, rfl, a, rfl, ⟨xs, sq hq⟩, fun D nD => lc_list (xs := xs) (fun i H2 => ∃ (ys : List V) (es : List PyData) (G2 : Hp), Kp l H1 H2 ∧ Stt H2 l c ns ∧ H2 D = some (.lst ys) ∧ Al G G2 ∧ Al G2 H2 ∧ G2 D = none ∧ (∀ b o, G2 b = some o → G b = some o ∨ H b = none) ∧ ys.length = i ∧ es.length = i ∧
          (∀ (j : Nat) y e, ys[j]? = some y → es[j]? = some e → Mx G2 m y e) ∧ ∀ (j : Nat) d e, ds[j]? = some d → es[j]? = some e → Shp m d e) ?start (fun i H2 _ ⟨_, _, _, k, _⟩ => sq (k a _ ?ne hq)) ?turn ?after⟩
      case' inr => refine .inr ⟨.ref a, rfl, a, rfl, ⟨xs, sqt hq⟩, fun D nD => lc_tup (xs := xs) (fun i H2 => ∃ (ys : List V) (es : List PyData) (G2 : Hp), Kp l H1 H2 ∧ Stt H2 l c ns ∧ H2 D = some (.lst ys) ∧ Al G G2 ∧ Al G2 H2 ∧ G2 D = none ∧ (∀ b o, G2 b = some o → G b = some o ∨ H b = none) ∧ ys.length = i ∧ es.length = i ∧
          (∀ (j : Nat) y e, ys[j]? = some y → es[j]? = some e → Mx G2 m y e) ∧ ∀ (j : Nat) d e, ds[j]? = some d → es[j]? = some e → Shp m d e) ?start2 (fun i H2 _ ⟨_, _, _, k, _⟩ => sqt (k a _ ?ne2 hq)) ?turn2 ?after2⟩
      case ne | ne2 =>
        intro z
        rcases ga with g | g <;> · rw [z, Gl'] at g; cases g
      case start | start2 =>
        have gD : G D = none := by
          cases e : G D with
          | none => rfl
          | some o =>
            have z := k1 _ _ (kG _ _ e)
            rw [show H1 D = none from nD] at z
            cases z
        have Dl := nl (show H1 D = none from nD)
        have Dc := nc (show H1 D = none from nD)
        refine ⟨[], [], G, fun b o n e => (upd_ne (ne_of_none e nD)).trans e, ?_, upd_same, Al.refl, fun b o e => (Al.refl.new nD) _ _ (k1 _ _ (kG _ _ e)), gD, fun b o e => .inl e, rfl, rfl, fun j y e h => (by cases h), fun j d e _ h => (by cases h)⟩
        exact st1.up (Al.refl.new nD)
      case turn | turn2 =>
        rintro i x H2 hxi ⟨ys, es, G2, k2, st2, hy, kG2, kH2, gD, new, yl, el, my, sh⟩
        have hi : i < xs.length := (List.getElem?_eq_some_iff.mp hxi).1
        have hi2 : i < ds.length := by omega
        have hdi : ds[i]? = some ds[i] := List.getElem?_eq_getElem hi2
        have nDm : H1 D = none := nD
        have Dl := nl nDm
        have Dc := nc nDm
        have gl2 : G2 l = none := by
          cases e : G2 l with
          | none => rfl
          | some o =>
            rcases new l o e with z | z
            · rw [Gl'] at z
              cases z
            · obtain ⟨⟨_, _, _, hl⟩, _⟩ := st
              rw [hl] at z
              cases z
        refine ⟨rfl, .ref l, rfl, x, rfl, Nat.succ_pos _, l, c, ns, x, ds[i], G2, rfl, st2, kH2, gl2, (hx i x _ hxi hdi).al kG2, fun H3 y e G3 k3 st3 a1 a2 new3 my3 sh3 => ?_⟩
        have y3 := k3 _ _ Dl hy
        have g3D : G3 D = none := by
          cases z : G3 D with
          | none => rfl
          | some o =>
            rcases new3 D o z with w | w
            · rw [gD] at w
              cases w
            · rw [hy] at w
              cases w
        have st4 : Stt (upd H3 D (.lst (ys ++ [y]))) l c ns := by
          obtain ⟨⟨b1, b2, b3, b4⟩, c1, c2, c3⟩ := st3
          exact ⟨⟨b1, b2, b3, (upd_ne (Ne.symm Dl)).trans b4⟩, (upd_ne (Ne.symm Dc)).trans c1, c2, c3⟩
        refine ⟨ys, y3, by rw [yl]; exact small1000 (by omega), ys ++ [y], es ++ [e], G3, fun b o n z => ?_, st4, upd_same, kG2.trans a1, fun b o z => ?_, g3D, fun b o z => ?_, by simp [yl], by simp [el], fun j v u e1 e2 => ?_, fun j v u e1 e2 => ?_⟩
        · rw [upd_ne (ne_of_none z nDm)]
          exact k3 b o n (k2 b o n z)
        · rw [upd_ne (fun w => by rw [w, g3D] at z; cases z)]
          exact a2 _ _ z
        · rcases new3 b o z with w | w
          · exact new b o w
          · refine .inr (k1.gone ?_)
            exact gone_kp k2 st2 w
        · rcases Nat.lt_or_ge j i with h | h
          · rw [List.getElem?_append_left (by omega)] at e1 e2
            exact (my j v u e1 e2).al a1
          · rw [List.getElem?_append_right (by omega)] at e1 e2
            have j0 : j - es.length = 0 := by
              have z := (List.getElem?_eq_some_iff.mp e2).1
              rw [List.length_singleton] at z
              omega
            rw [yl, ← el, j0] at e1
            rw [j0] at e2
            obtain rfl := Option.some.inj e1
            obtain rfl := Option.some.inj e2
            exact my3
        · rcases Nat.lt_or_ge j i with h | h
          · rw [List.getElem?_append_left (by omega)] at e2
            exact sh j v u e1 e2
          · rw [List.getElem?_append_right (by omega)] at e2
            have j0 : j - es.length = 0 := by
              have z := (List.getElem?_eq_some_iff.mp e2).1
              rw [List.length_singleton] at z
              omega
            have ji : j = i := by omega
            subst ji
            rw [j0] at e2
            obtain rfl := Option.some.inj e2
            rw [hdi] at e1
            obtain rfl := Option.some.inj e1
            exact sh3
      case after | after2 =>
        rintro H2 ⟨ys, es, G2, k2, st2, hy, kG2, kH2, gD, new, yl, el, my, sh⟩
        exact ⟨D, ys, es, G2, rfl, fun b o n e => k2 b o n (k1 b o e), st2, k1.gone nD, hy, kG2, kH2, gD, new, by omega, by omega, my, sh⟩
    rintro σ H2 ⟨D, ys, es, G2, rfl, k2, st2, nD, hy, kG2, kH2, gD, new, yl, el, my, sh⟩
    refine ⟨.ref D, rfl, .ref D, rfl, D, ys, rfl, .inl ⟨sq hy, fun t nt => ⟨by show 2 ≤ sizeLine; decide, fun p np => ?_⟩⟩⟩
    have kt := (Al.refl (H := H2)).new (o := .tup ys) nt
    have kp := kt.new (o := .lst [.ref D, .ref t]) np
    have nl2 : ∀ {b : Addr}, H2 b = none → b ≠ l := fun {b} e z => by
      obtain ⟨⟨_, _, _, hl⟩, _⟩ := st2
      rw [z, hl] at e
      cases e
    refine ⟨.ref l, rfl, l, c, ns, 2, rfl, by decide, by decide, st2.up kp, fun H3 d' k3 st3 d0 d2 => ?_⟩
    have p3 := k3 p _ (nl2 (kt.gone np)) upd_same
    have Dl : D ≠ l := fun z => by
      obtain ⟨⟨_, _, _, hl⟩, _⟩ := st
      rw [z, hl] at nD
      cases nD
    have tl := nl2 nt
    have D3 : H3 D = some (.lst ys) := k3 _ _ Dl (kp _ _ hy)
    have t3 : H3 t = some (.tup ys) := k3 _ _ tl (by
      rw [upd_ne (ne_of_none upd_same np)]
      exact upd_same)
    have kp3 : Kp l H H3 := fun b o n e => k3 b o n (kp _ _ (k2 b o n e))
    have g2l : ∀ {b o}, G2 b = some o → b ≠ l := fun {b o} e z => by
      rcases new b o e with w | w
      · rw [z, Gl'] at w
        cases w
      · obtain ⟨⟨_, _, _, hl⟩, _⟩ := st
        rw [z, hl] at w
        cases w
    have kG3 : Al G2 H3 := fun b o e => k3 b o (g2l e) (kp _ _ (kH2 b o e))
    have ntH : H t = none := gone_kp k2 st2 nt
    have gt : G2 t = none := by
      cases e : G2 t with
      | none => rfl
      | some o =>
        have z := kH2 _ _ e
        rw [show H2 t = none from nt] at z
        cases z
    have put : ∀ (b : Addr) (o : HO), G2 b = none → H b = none → H3 b = some o → Al G2 (upd G2 b o) ∧ Al (upd G2 b o) H3 ∧ ∀ b' o', upd G2 b o b' = some o' → G b' = some o' ∨ H b' = none := fun b o g n e => by
      refine ⟨Al.refl.new g, fun b' o' z => ?_, fun b' o' z => ?_⟩
      · by_cases h : b' = b
        · rw [h, upd_same] at z
          rw [h, ← Option.some.inj z]
          exact e
        · rw [upd_ne h] at z
          exact kG3 _ _ z
      · by_cases h : b' = b
        · exact .inr (by rw [h]; exact n)
        · rw [upd_ne h] at z
          exact new _ _ z
    obtain ⟨sl, stu⟩ := shp_to hd el sh
    have y100 : ys.length ≤ 100 := by omega
    rcases (show d' = 0 ∨ d' = 1 by omega) with rfl | rfl
    · obtain ⟨a1, a2, a3⟩ := put D (.lst ys) gD nD D3
      refine ⟨p, _, 0, .ref D, rfl, rfl, sq p3, rfl, ?_⟩
      exact q H3 (.ref D) (.list es) _ kp3 st3 (kG2.trans a1) a2 a3 (.lst upd_same yl y100 fun i y e e1 e2 => (my i y e e1 e2).al a1) sl
    · obtain ⟨a1, a2, a3⟩ := put t (.tup ys) gt ntH t3
      refine ⟨p, _, 1, .ref t, rfl, rfl, sq p3, rfl, ?_⟩
      exact q H3 (.ref t) (.tuple es) _ kp3 st3 (kG2.trans a1) a2 a3 (.tup upd_same yl y100 fun i y e e1 e2 => (my i y e e1 e2).al a1) stu
  intro n
  induction n with
  | zero => exact step 0 0 ⟨fun vs H Q E h => absurd h.1 (Nat.lt_irrefl _), fun A outer s H args us vs Q E _ _ _ _ h => absurd h.1 (Nat.lt_irrefl _)⟩
  | succ n ih => exact step (n + 1) (n + 1) (ih.imp fun vs H Q E h => h.2)
end
end Lk

/-! What the law keeps while it runs. -/
namespace Lk
open PySem PySem.Calls PyProof.Rows PySem.Spec L2 Drw Err LamX
/-- all but the draws' state and the tables -/
def wo (l : Addr) (H : Hp) : Hp := fun b => match H b with
  | some (.tbl _) => none
  | x => if b = l then none else x
theorem wo_some {l b : Addr} {H : Hp} {o : HO} : wo l H b = some o ↔ H b = some o ∧ b ≠ l ∧ ∀ ps, o ≠ .tbl ps := by
  unfold wo
  constructor
  · intro e
    split at e
    · cases e
    · rename_i x hx
      by_cases h : b = l
      · rw [if_pos h] at e
        cases e
      · rw [if_neg h] at e
        exact ⟨e, h, fun ps z => hx ps (by rw [e, z])⟩
  · rintro ⟨e, n, t⟩
    split
    · rename_i ps hp
      rw [hp] at e
      exact absurd (Option.some.inj e).symm (t ps)
    · rw [if_neg n]
      exact e
theorem wo_al (l : Addr) (H : Hp) : Al (wo l H) H := fun b o e => (wo_some.mp e).1
theorem wo_l (l : Addr) (H : Hp) : wo l H l = none := by
  cases e : wo l H l with
  | none => rfl
  | some o => exact absurd rfl (wo_some.mp e).2.1
theorem wo_at {l b : Addr} {H : Hp} {o : HO} (h1 : b ≠ l) (h2 : ∀ ps, o ≠ .tbl ps) (e : H b = some o) : wo l H b = some o := wo_some.mpr ⟨e, h1, h2⟩
theorem wo_up {l : Addr} {H H' : Hp} (k : ∀ b o, b ≠ l → (∀ ps, o ≠ .tbl ps) → H b = some o → H' b = some o) : Al (wo l H) (wo l H') := fun b o e => by
  obtain ⟨e1, n, t⟩ := wo_some.mp e
  exact wo_at n t (k b o n t e1)
/-- the draws' state stands, the table tells code objects of one name -/
structure LI (H : Hp) (l c tab : Addr) (ns : List Int) (q : Str) : Prop where
  st : Stt H l c ns
  tb : TabS H tab q
  ne : tab ≠ l
theorem LI.at {H : Hp} {l c tab : Addr} {ns : List Int} {q : Str} (I : LI H l c tab ns q) : (∃ vs, H l = some (.lst vs) ∧ vs.length = 4) ∧ ∃ ps, H tab = some (.tbl ps) := by
  obtain ⟨⟨⟨a1, a2, a3, a4⟩, _⟩, ⟨ps, h, _⟩, _⟩ := I
  exact ⟨⟨_, a4, rfl⟩, ps, h⟩
theorem LI.al {H H' : Hp} {l c tab : Addr} {ns : List Int} {q : Str} (I : LI H l c tab ns q) (k : Al H H') : LI H' l c tab ns q := ⟨I.st.up k, I.tb.ext k, I.ne⟩
theorem LI.kp {H H' : Hp} {l c tab : Addr} {ns : List Int} {q : Str} (I : LI H l c tab ns q) (k : Kp l H H') (s : Stt H' l c ns) : LI H' l c tab ns q := by
  refine ⟨s, ?_, I.ne⟩
  obtain ⟨⟨⟨a1, a2, a3, a4⟩, _⟩, ⟨ps, h, h2, h3⟩, n⟩ := I
  refine ⟨ps, k _ _ n h, h2, fun pos cv e => ?_⟩
  obtain ⟨c', e1, e2⟩ := h3 pos cv e
  refine ⟨c', e1, k _ _ (fun z => ?_) e2⟩
  rw [z, a4] at e2
  have y := Option.some.inj e2
  unfold CodeO at y
  cases y
theorem LI.ext {H H' : Hp} {l c tab : Addr} {ns : List Int} {q : Str} (I : LI H l c tab ns q) (k : ExtN H H') (t : TabS H' tab q) : LI H' l c tab ns q := by
  refine ⟨?_, t, I.ne⟩
  obtain ⟨⟨⟨a1, a2, a3, a4⟩, b1, b2, b3⟩, _⟩ := I
  exact ⟨⟨a1, a2, a3, k _ _ a4 fun _ z => by cases z⟩, k _ _ b1 fun _ z => (by cases z), b2, b3⟩
theorem LI.off {H : Hp} {l c tab : Addr} {ns : List Int} {q : Str} (I : LI H l c tab ns q) {b : Addr} {xs : List V} (h : H b = some (.tup xs)) : wo l H b = some (.tup xs) := by
  obtain ⟨⟨vs, h1, _⟩, _⟩ := I.at
  refine wo_at (fun z => ?_) (fun _ z => by cases z) h
  rw [z, h1] at h
  cases h
theorem LI.new {H H' : Hp} {l c tab : Addr} {ns : List Int} {q : Str} (I : LI H l c tab ns q) {b : Addr} {o : HO} (n : H b = none) (t : ∀ ps, o ≠ .tbl ps) (h : H' b = some o) : wo l H' b = some o := by
  obtain ⟨⟨vs, h1, _⟩, _⟩ := I.at
  refine wo_at (fun z => ?_) t h
  rw [z, h1] at n
  cases n
theorem LI.kids {H : Hp} {l c tab : Addr} {ns : List Int} {q : Str} (I : LI H l c tab ns q) {t : Addr} {ks : List (List V)} (h : Kids H t ks) : Kids (wo l H) t ks := by
  obtain ⟨xs, h1, h2, h3⟩ := h
  refine ⟨xs, I.off h1, h2, fun i k e => ?_⟩
  obtain ⟨a, e1, e2⟩ := h3 i k e
  exact ⟨a, e1, I.off e2⟩
theorem LI.odd {H : Hp} {l c tab : Addr} {ns : List Int} {q : Str} (I : LI H l c tab ns q) {many : Int} {x : V} (h : OddAt H many x) : OddAt (wo l H) many x := by
  obtain ⟨⟨vs, h1, hl⟩, _⟩ := I.at
  have off : ∀ {b : Addr} {o : HO}, H b = some o → (∀ vs, o = .lst vs → vs.length ≠ 4) → (∀ ps, o ≠ .tbl ps) → wo l H b = some o := fun {b o} e n1 n2 => wo_at (fun z => by
    rw [z, h1] at e
    exact n1 vs (Option.some.inj e).symm hl) n2 e
  cases h with
  | int i h => exact .int i h
  | non => exact .non
  | bl b => exact .bl b
  | str s => exact .str s
  | tup h => exact .tup (off h (fun _ z => by cases z) fun _ z => by cases z)
  | lst h => exact .lst (off h (fun vs z => by cases z; decide) fun _ z => by cases z)
  | dct h => exact .dct (off h (fun _ z => by cases z) fun _ z => by cases z)
  | emp h => exact .emp (off h (fun _ z => by cases z) fun _ z => by cases z)
/-- from one heap of the law's to a later one -/
structure Go (l c tab : Addr) (ns : List Int) (q : Str) (H H' : Hp) : Prop where
  al : Al (wo l H) (wo l H')
  li : LI H' l c tab ns q
theorem LI.goA {H H' : Hp} {l c tab : Addr} {ns : List Int} {q : Str} (I : LI H l c tab ns q) (k : Al H H') : Go l c tab ns q H H' := ⟨wo_up fun b o _ _ e => k b o e, I.al k⟩
theorem LI.goK {H H' : Hp} {l c tab : Addr} {ns : List Int} {q : Str} (I : LI H l c tab ns q) (k : Kp l H H') (s : Stt H' l c ns) : Go l c tab ns q H H' := ⟨wo_up fun b o n _ e => k b o n e, I.kp k s⟩
theorem LI.goE {H H' : Hp} {l c tab : Addr} {ns : List Int} {q : Str} (I : LI H l c tab ns q) (k : ExtN H H') (t : TabS H' tab q) : Go l c tab ns q H H' := ⟨wo_up fun b o _ t e => k b o e t, I.ext k t⟩
theorem Go.trans {l c tab : Addr} {ns : List Int} {q : Str} {H H' H'' : Hp} (g : Go l c tab ns q H H') (h : Go l c tab ns q H' H'') : Go l c tab ns q H H'' := ⟨g.al.trans h.al, h.li⟩
/-- what was handed on stands off the state -/
theorem LI.hand {H H' G : Hp} {l c tab : Addr} {ns : List Int} {q : Str} (I : LI H l c tab ns q) (a2 : Al G H') (new : ∀ b o, G b = some o → wo l H b = some o ∨ H b = none) {n : Nat} {y : V} {e : PyData} (m : Mx G n y e) : Mx (wo l H') n y e := by
  obtain ⟨⟨vs, h1, _⟩, _⟩ := I.at
  have ne : ∀ {b o}, G b = some o → b ≠ l := fun {b o} e z => by
    rcases new b o e with w | w
    · exact (wo_some.mp w).2.1 z
    · rw [z, h1] at w
      cases w
  induction m with
  | leaf n h => exact .leaf n h
  | lst g h2 h3 _ ih => exact .lst (wo_at (ne g) (fun _ z => by cases z) (a2 _ _ g)) h2 h3 ih
  | tup g h2 h3 _ ih => exact .tup (wo_at (ne g) (fun _ z => by cases z) (a2 _ _ g)) h2 h3 ih
/-! ### rows and scripts as data -/
def pd : V → PyData
  | .int i => .int i
  | .bl b => .bool b
  | .str s => .str s
  | _ => .none
def ksD (ks : List (List V)) : PyData := .tuple (ks.map fun k => .tuple (k.map pd))
theorem kids_mx {G : Hp} {t : Addr} {ks : List (List V)} (h : Kids G t ks) (n : ks.length ≤ 100) (hk : ∀ k ∈ ks, k.length ≤ 100 ∧ ∀ x ∈ k, Lf x (pd x)) : Mx G 2 (.ref t) (ksD ks) := by
  obtain ⟨xs, h1, h2, h3⟩ := h
  refine .tup h1 (by rw [List.length_map, h2]) (by omega) fun i x d e1 e2 => ?_
  rw [List.getElem?_map] at e2
  cases e : ks[i]? with
  | none =>
    rw [e] at e2
    cases e2
  | some k =>
    rw [e] at e2
    obtain rfl := Option.some.inj e2
    obtain ⟨a, z1, z2⟩ := h3 i k e
    obtain rfl : x = .ref a := Option.some.inj (e1.symm.trans z1)
    obtain ⟨k1, k2⟩ := hk k (List.mem_of_getElem? e)
    refine .tup z2 (by rw [List.length_map]) k1 fun j y u e3 e4 => ?_
    rw [List.getElem?_map, e3] at e4
    obtain rfl := Option.some.inj e4
    exact .leaf _ (k2 y (List.mem_of_getElem? e3))
theorem mx_leaf {G : Hp} {n : Nat} {y x : V} {d e : PyData} (lf : Lf x d) (sh : Shp n d e) (m : Mx G n y e) : y = x := by
  have he : e = d := by
    cases lf <;> cases sh <;> rfl
  subst he
  cases lf <;> (cases m with | leaf _ h => cases h; rfl)
/-- the same but for lists and tuples, told of what stands there -/
theorem mx_deep {G : Hp} {ks : List (List V)} {y : V} {e : PyData} (hk : ∀ k ∈ ks, ∀ x ∈ k, Lf x (pd x)) (m : Mx G 2 y e) (sh : Shp 2 (ksD ks) e) : ∃ p, y = .ref p ∧ DeepP G p ks := by
  -- one level
  have one : ∀ {n : Nat} {ds : List PyData} {y : V} {e : PyData}, Mx G (n + 1) y e → Shp (n + 1) (.tuple ds) e → ∃ (p : Addr) (xs : List V) (es : List PyData), y = .ref p ∧ Sp' G p xs ∧ xs.length = ds.length ∧ ∀ (i : Nat) d, ds[i]? = some d → ∃ x e, xs[i]? = some x ∧ Mx G n x e ∧ Shp n d e := by
    intro n ds y e m sh
    have go : ∀ (es : List PyData), (e = .list es ∨ e = .tuple es) → ds.length = es.length → (∀ (i : Nat) d e, ds[i]? = some d → es[i]? = some e → Shp n d e) → ∃ (p : Addr) (xs : List V) (es : List PyData), y = .ref p ∧ Sp' G p xs ∧ xs.length = ds.length ∧ ∀ (i : Nat) d, ds[i]? = some d → ∃ x e, xs[i]? = some x ∧ Mx G n x e ∧ Shp n d e := by
      intro es he hl hx
      have fin : ∀ (a : Addr) (xs : List V), Sp' G a xs → xs.length = es.length → (∀ (i : Nat) x d, xs[i]? = some x → es[i]? = some d → Mx G n x d) → ∃ (p : Addr) (xs : List V) (es : List PyData), V.ref a = .ref p ∧ Sp' G p xs ∧ xs.length = ds.length ∧ ∀ (i : Nat) d, ds[i]? = some d → ∃ x e, xs[i]? = some x ∧ Mx G n x e ∧ Shp n d e :=
        fun a xs ha hl2 hm => ⟨a, xs, es, rfl, ha, by omega, fun i d hd => by
          have hi := (List.getElem?_eq_some_iff.mp hd).1
          have hi1 : i < es.length := by omega
          have hi2 : i < xs.length := by omega
          exact ⟨xs[i], es[i], List.getElem?_eq_getElem hi2, hm i _ _ (List.getElem?_eq_getElem hi2) (List.getElem?_eq_getElem hi1), hx i d _ hd (List.getElem?_eq_getElem hi1)⟩⟩
      rcases he with rfl | rfl
      · cases m with
        | leaf _ h => cases h
        | lst ha hl2 _ hm => exact fin _ _ (.inl ha) hl2 hm
      · cases m with
        | leaf _ h => cases h
        | tup ha hl2 _ hm => exact fin _ _ (.inr ha) hl2 hm
    cases sh with
    | same _ _ => exact go ds (.inr rfl) rfl fun i d e h1 h2 => by rw [h1] at h2; rw [Option.some.inj h2]; exact .same _ _
    | tl hl hx => exact go _ (.inl rfl) hl hx
    | tt hl hx => exact go _ (.inr rfl) hl hx
  obtain ⟨p, xs, _, rfl, hp, hl, hx⟩ := one m sh
  rw [List.length_map] at hl
  refine ⟨p, rfl, xs, hp, hl, fun i k hk' => ?_⟩
  obtain ⟨x, e1, z1, z2, z3⟩ := hx i (.tuple (k.map pd)) (by rw [List.getElem?_map, hk']; rfl)
  obtain ⟨b, ys, _, rfl, hb, hl2, hy⟩ := one z2 z3
  rw [List.length_map] at hl2
  refine ⟨b, z1, ?_⟩
  have ey : ys = k := by
    refine List.ext_getElem? fun j => ?_
    rcases Nat.lt_or_ge j k.length with h | h
    · obtain ⟨x, e, w1, w2, w3⟩ := hy j (pd k[j]) (by rw [List.getElem?_map, List.getElem?_eq_getElem h]; rfl)
      rw [w1, List.getElem?_eq_getElem h, mx_leaf (hk k (List.mem_of_getElem? hk') k[j] (List.getElem_mem h)) w3 w2]
    · rw [List.getElem?_eq_none (by omega), List.getElem?_eq_none h]
  rw [ey] at hb
  exact hb
end Lk

namespace Ew
open PySem PySem.Spec PyProof.Rows L2 Drw TL
/-- xs != [] -/
theorem op_ne_nil {X : Cx} (hu : X.A.units + 1 < cLine) : OpR X (compareOp .NotEq) (fun x y H Q => ∃ (a b : Addr) (xs : List V), x = .ref a ∧ y = .ref b ∧ H a = some (.lst xs) ∧ H b = some (.lst []) ∧ Q (.bl (!xs.isEmpty)) H) := by
  intro pins s σ H x y v u Q I rx ry h
  obtain ⟨a, b, xs, rfl, rfl, ha, hb, q⟩ := h
  cases rx
  cases ry
  obtain ⟨its, r1, p1, z1⟩ := I.list (.inl (.inl ha) : SqL X.K H a xs)
  obtain ⟨its2, r2, p2, z2⟩ := I.list (.inl (.inl hb) : SqL X.K H b [])
  have l1 := r1.length
  have l2 := r2.length
  have h2 : its2.toArray.size = 0 := by
    rw [List.size_toArray, ← l2]
    rfl
  have h1 : its.toArray.size = xs.length := by
    rw [List.size_toArray, ← l1]
  refine PySem.EqBoolInt.of_rcne (k := !xs.isEmpty) ?_ ⟨.bl _, H, I, rfl, q⟩
  cases xs with
  | nil =>
    have z : its.toArray.size = 0 := h1
    have w := SeqAt.RcNeAt.lists (A := X.A) (e := fun _ => true) p1.isList p2.isList (by rw [z, h2]) (by omega) (fun j hj => by omega)
    rw [z] at w
    exact w
  | cons y ys =>
    have z : its.toArray.size = ys.length + 1 := h1
    exact SeqAt.RcNeAt.lists_lengths p1.isList p2.isList (by rw [z, h2]; simp) (by omega)
end Ew

namespace Lk
open PySem PySem.Calls PyProof.Rows PySem.Spec L2 Drw Err LamX
def words9 : List Str := ["begin", "immediate", "exclusive", "commit", "rollback", "start", "stop", "read", "write"]
theorem may_word {w : Str} {o r : Bool} (h : mayB w o r = true) : w ∈ words9 := by
  have key : w ∈ opening ∨ w ∈ ending ∨ w = "start" ∨ w = "stop" ∨ w ∈ anywhere := by
    unfold mayB at h
    by_cases h1 : inW w opening = true
    · exact .inl (inW_mem.mp h1)
    rw [if_neg h1] at h
    by_cases h2 : inW w ending = true
    · exact .inr (.inl (inW_mem.mp h2))
    rw [if_neg h2] at h
    by_cases h3 : w = "start"
    · exact .inr (.inr (.inl h3))
    rw [if_neg (by rw [decide_eq_true_eq]; exact h3)] at h
    by_cases h4 : w = "stop"
    · exact .inr (.inr (.inr (.inl h4)))
    rw [if_neg (by rw [decide_eq_true_eq]; exact h4)] at h
    exact .inr (.inr (.inr (.inr (inW_mem.mp h))))
  simp only [opening, ending, anywhere, List.mem_cons, List.not_mem_nil, or_false] at key
  simp only [words9, List.mem_cons, List.not_mem_nil, or_false]
  rcases key with (h | h | h) | (h | h) | h | h | (h | h) <;> simp only [h, true_or, or_true]
theorem ok_words : ∀ (ws : List Str) (o r : Bool), okS ws o r = true → ∀ w ∈ ws, w ∈ words9
  | [], _, _, _, w, h => by cases h
  | v :: ws, o, r, h, w, hw => by
    obtain ⟨h1, h2⟩ := Bool.and_eq_true_iff.mp h
    rcases List.mem_cons.mp hw with rfl | hw
    · exact may_word h1
    · exact ok_words ws _ _ h2 w hw
theorem word_short : ∀ w ∈ words9, (PyData.str w).shown.length ≤ 40 := by decide +kernel
theorem int_short : ∀ n : Nat, n < 10 → (PyData.int (n : Nat)).shown.length ≤ 40 ∧ (PyData.int (n : Nat)).showable = true := by decide +kernel
theorem lf_int {i : Int} (h0 : 0 ≤ i) (h1 : i < 10) : Lf (.int i) (pd (.int i)) := by
  obtain ⟨n, rfl⟩ := Int.eq_ofNat_of_zero_le h0
  obtain ⟨a, b⟩ := int_short n (by omega)
  exact .int _ a b
theorem lf_words {ss : List (List Str)} (ok : okAll ss) : ∀ k ∈ ss.map wordsV, k.length ≤ 100 ∧ ∀ x ∈ k, Lf x (pd x) := fun k hk => by
  obtain ⟨ws, hw, rfl⟩ := List.mem_map.mp hk
  obtain ⟨h8, h9⟩ := ok.2.2 ws hw
  refine ⟨by unfold wordsV; rw [List.length_map]; omega, fun x hx => ?_⟩
  obtain ⟨v, hv, rfl⟩ := List.mem_map.mp hx
  exact .str v (word_short v (ok_words ws _ _ h9 v hv))
/-- a state that can be reached, as far as needed -/
structure StOk (rows : List Row) (ss : List (List Str)) : Prop where
  good : Good rows
  len : rows.length = ss.length
  ok : ∀ (i : Nat) r ws, rows[i]? = some r → ss[i]? = some ws → r.pl ≤ ws.length ∧ r.lk ≤ 4
theorem StOk.rows {rows : List Row} {ss : List (List Str)} (h : StOk rows ss) (ok : okAll ss) : ∀ k ∈ rows.map rowV, k.length ≤ 100 ∧ ∀ x ∈ k, Lf x (pd x) := fun k hk => by
  obtain ⟨r, hr, rfl⟩ := List.mem_map.mp hk
  obtain ⟨i, hi⟩ := List.mem_iff_getElem?.mp hr
  have hl := (List.getElem?_eq_some_iff.mp hi).1
  have hs : i < ss.length := by rw [← h.len]; exact hl
  obtain ⟨p, q⟩ := h.ok i r _ hi (List.getElem?_eq_getElem hs)
  have g := h.good.1 i r hi
  have w := (ok.2.2 ss[i] (List.getElem_mem hs)).1
  refine ⟨by show 4 ≤ 100; decide, fun x hx => ?_⟩
  have hx : x = .int r.pl ∨ x = .bl r.op ∨ x = .bl r.rd ∨ x = .int r.lk := by simpa [rowV] using hx
  rcases hx with rfl | rfl | rfl | rfl
  · exact lf_int (by omega) (by omega)
  · exact .bl _
  · exact .bl _
  · exact lf_int g (by omega)
theorem IsTop.one {rows : List Row} {a : Nat} {m n : Int} (h : IsTop rows a m) (k : IsTop rows a n) : m = n := by
  have le : ∀ {m n : Int}, IsTop rows a m → IsTop rows a n → m ≤ n := fun {m n} h k => by
    rcases h.1 with h0 | ⟨i, r, e, ne, rfl⟩
    · rw [h0]
      exact k.2.1
    · exact k.2.2 i r e ne
  exact Int.le_antisymm (le h k) (le k h)
def rows0 (n : Nat) : List Row := List.replicate n ⟨0, false, false, 0⟩
theorem rows0_at {n i : Nat} {r : Row} (h : (rows0 n)[i]? = some r) : r = ⟨0, false, false, 0⟩ := by
  exact List.eq_of_mem_replicate (List.mem_of_getElem? (show (List.replicate n (⟨0, false, false, 0⟩ : Row))[i]? = some r from h))
theorem st0 (ss : List (List Str)) : StOk (rows0 ss.length) ss := by
  refine ⟨⟨fun i r h => ?_, fun i j r s h _ _ h2 => ?_⟩, List.length_replicate, fun i r ws h _ => ?_⟩
  · rw [rows0_at h]
    decide
  · rw [rows0_at h] at h2
    exact absurd h2 (by decide)
  · rw [rows0_at h]
    exact ⟨Nat.zero_le _, by decide⟩
theorem leastI_le (w : Str) : leastI w ≤ 4 ∧ 0 ≤ leastI w := by
  unfold leastI
  split
  · decide
  · split
    · decide
    · split <;> decide
/-- the lock behind a try: high ones are given only beside low ones -/
theorem next_lock {w : Str} {r : Row} {m : Int} (h0 : 0 ≤ r.lk) (h4 : r.lk ≤ 4) (h1 : 2 ≤ r.lk → m ≤ 1) : 0 ≤ (nextRow w r m).1.lk ∧ (nextRow w r m).1.lk ≤ 4 ∧ (2 ≤ (nextRow w r m).1.lk → m ≤ 1) ∧ (2 ≤ m → (nextRow w r m).1.lk ≤ 1) := by
  obtain ⟨l4, l0⟩ := leastI_le w
  unfold nextRow
  by_cases e : refB w r.op r.lk m = true
  · rw [if_pos e]
    show 0 ≤ (if w = "commit" then (if 3 > r.lk then 3 else r.lk) else r.lk) ∧ (if w = "commit" then (if 3 > r.lk then 3 else r.lk) else r.lk) ≤ 4 ∧ (2 ≤ (if w = "commit" then (if 3 > r.lk then 3 else r.lk) else r.lk) → m ≤ 1) ∧ (2 ≤ m → (if w = "commit" then (if 3 > r.lk then 3 else r.lk) else r.lk) ≤ 1)
    by_cases c : w = "commit"
    · subst c
      rw [if_pos rfl]
      have lk2 : 1 < r.lk := by
        unfold refB at e
        rw [if_neg (by decide +kernel : ¬ inW "commit" ["read", "start"] = true), if_neg (by rw [show decide ((Str.ofString "commit") = (Str.ofString "write")) = false by decide +kernel]; exact Bool.false_ne_true), if_neg (by decide +kernel), if_pos rfl] at e
        exact of_decide_eq_true (Bool.and_eq_true_iff.mp e).1
      have z := h1 (by omega)
      split <;> omega
    · rw [if_neg c]
      omega
  · rw [if_neg e]
    have e' : refB w r.op r.lk m = false := Bool.eq_false_iff.mpr e
    show 0 ≤ lockB w r.op r.rd r.lk ∧ lockB w r.op r.rd r.lk ≤ 4 ∧ (2 ≤ lockB w r.op r.rd r.lk → m ≤ 1) ∧ (2 ≤ m → lockB w r.op r.rd r.lk ≤ 1)
    have key : 2 ≤ leastI w → opnB w r.op = true → r.lk < 2 → m ≤ 1 := by
      intro h2 ho hl
      have hw : w = "write" ∨ w = "immediate" ∨ w = "exclusive" := by
        unfold leastI at h2
        by_cases a : w = "read" ∨ w = "start"
        · rw [if_pos a] at h2
          exact absurd h2 (by decide)
        rw [if_neg a] at h2
        by_cases b : w = "write" ∨ w = "immediate"
        · exact b.imp_right .inl
        rw [if_neg b] at h2
        by_cases c : w = "exclusive"
        · exact .inr (.inr c)
        rw [if_neg c] at h2
        exact absurd h2 (by decide)
      unfold refB at e'
      rcases hw with rfl | rfl | rfl
      · have hop : r.op = true := by
          have z : opnB "write" r.op = r.op := by cases r.op <;> decide +kernel
          rw [← z]
          exact ho
        rw [if_neg (by decide +kernel : ¬ inW "write" ["read", "start"] = true), hop, if_pos (by decide +kernel), decide_eq_true hl, Bool.true_and] at e'
        have z := of_decide_eq_false e'
        omega
      · rw [if_neg (by decide +kernel : ¬ inW "immediate" ["read", "start"] = true), if_neg (by rw [show decide ((Str.ofString "immediate") = (Str.ofString "write")) = false by decide +kernel]; exact Bool.false_ne_true), if_pos rfl] at e'
        have z := of_decide_eq_false e'
        omega
      · rw [if_neg (by decide +kernel : ¬ inW "exclusive" ["read", "start"] = true), if_neg (by rw [show decide ((Str.ofString "exclusive") = (Str.ofString "write")) = false by decide +kernel]; exact Bool.false_ne_true), if_neg (by decide +kernel), if_neg (by decide +kernel), show inW "exclusive" ["write", "exclusive"] = true by decide +kernel, Bool.true_and] at e'
        have z := of_decide_eq_false e'
        omega
    unfold lockB
    by_cases ho : opnB w r.op = true
    · rw [if_pos ho]
      by_cases g : leastI w > r.lk
      · rw [if_pos g]
        refine ⟨l0, l4, fun h2 => ?_, fun h2 => ?_⟩
        · by_cases hl : r.lk < 2
          · exact key h2 ho hl
          · exact h1 (by omega)
        · rcases (show 1 < leastI w ∨ leastI w ≤ 1 by omega) with h3 | h3
          · by_cases hl : r.lk < 2
            · have z := key (by omega) ho hl
              omega
            · have z := h1 (by omega)
              omega
          · exact h3
      · rw [if_neg g]
        omega
    · rw [if_neg ho]
      split <;> omega
theorem StOk.next {rows : List Row} {ss : List (List Str)} (h : StOk rows ss) {a : Nat} {r : Row} {ws : List Str} {w : Str} {m : Int} (hr : rows[a]? = some r) (hs : ss[a]? = some ws) (hw : ws[r.pl]? = some w) (top : IsTop rows a m) : StOk (rows.set a (nextRow w r m).1) ss := by
  obtain ⟨h0, h1⟩ := h.good.top hr top
  obtain ⟨n0, n4, nm, mn⟩ := next_lock h0 (h.ok a r ws hr hs).2 h1
  have ha : a < rows.length := (List.getElem?_eq_some_iff.mp hr).1
  have at' : ∀ {i : Nat} {s : Row}, (rows.set a (nextRow w r m).1)[i]? = some s → (i = a ∧ s = (nextRow w r m).1) ∨ (i ≠ a ∧ rows[i]? = some s) := fun {i s} e => by
    rw [List.getElem?_set] at e
    by_cases z : a = i
    · rw [if_pos z, if_pos ha] at e
      exact .inl ⟨z.symm, (Option.some.inj e).symm⟩
    · rw [if_neg z] at e
      exact .inr ⟨fun y => z y.symm, e⟩
  have lt := (List.getElem?_eq_some_iff.mp hw).1
  refine ⟨⟨fun i s e => ?_, fun i j s u e1 e2 n h2 => ?_⟩, by rw [List.length_set]; exact h.len, fun i s vs e hv => ?_⟩
  · rcases at' e with ⟨_, rfl⟩ | ⟨_, e⟩
    · exact n0
    · exact h.good.1 i s e
  · rcases at' e1 with ⟨x1, x2⟩ | ⟨n1, f1⟩
    · rcases at' e2 with ⟨y1, _⟩ | ⟨n2, f2⟩
      · exact absurd (x1.trans y1.symm) n
      · rw [x2] at h2
        exact Int.le_trans (top.2.2 j u f2 n2) (nm h2)
    · rcases at' e2 with ⟨y1, y2⟩ | ⟨n2, f2⟩
      · rw [y2]
        exact mn (Int.le_trans h2 (top.2.2 i s f1 n1))
      · exact h.good.2 i j s u f1 f2 n h2
  · rcases at' e with ⟨rfl, rfl⟩ | ⟨_, e⟩
    · obtain rfl : ws = vs := Option.some.inj (hs.symm.trans hv)
      refine ⟨?_, n4⟩
      have z := (h.ok i r ws hr hs).1
      unfold nextRow
      split
      · exact z
      · show r.pl + 1 ≤ _
        omega
    · exact h.ok i s vs e hv
/-- two tuples of the same rows -/
theorem kids_tw {H : Hp} {t u : Addr} {ks : List (List V)} (h : Kids H t ks) (k : Kids H u ks) (n : ks.length ≤ 1000) (hk : ∀ k ∈ ks, k.length ≤ 1000 ∧ ∀ x ∈ k, Tw H 0 x x) : Tw H 2 (.ref t) (.ref u) := by
  obtain ⟨xs, h1, h2, h3⟩ := h
  obtain ⟨ys, k1, k2, k3⟩ := k
  refine .tup h1 k1 (by omega) (by omega) fun i x y e1 e2 => ?_
  have hi : i < ks.length := by
    have z := (List.getElem?_eq_some_iff.mp e1).1
    omega
  obtain ⟨a, a1, a2⟩ := h3 i _ (List.getElem?_eq_getElem hi)
  obtain ⟨b, b1, b2⟩ := k3 i _ (List.getElem?_eq_getElem hi)
  obtain rfl : x = .ref a := Option.some.inj (e1.symm.trans a1)
  obtain rfl : y = .ref b := Option.some.inj (e2.symm.trans b1)
  obtain ⟨l, f⟩ := hk _ (List.getElem_mem hi)
  refine .tup a2 b2 rfl l fun j x y e3 e4 => ?_
  obtain rfl := Option.some.inj (e3.symm.trans e4)
  exact f x (List.mem_of_getElem? e3)
theorem row_tw {H : Hp} (rows : List Row) : ∀ k ∈ rows.map rowV, k.length ≤ 1000 ∧ ∀ x ∈ k, Tw H 0 x x := fun k hk => by
  obtain ⟨r, _, rfl⟩ := List.mem_map.mp hk
  refine ⟨by show 4 ≤ 1000; decide, fun x hx => ?_⟩
  have hx : x = .int r.pl ∨ x = .bl r.op ∨ x = .bl r.rd ∨ x = .int r.lk := by simpa [rowV] using hx
  rcases hx with rfl | rfl | rfl | rfl
  · exact .int _ _
  · exact .bl _ _
  · exact .bl _ _
  · exact .int _ _
/-- the results of two tries -/
theorem pair_tw {H : Hp} {t u a b : Addr} {c : Bool} (h : H t = some (.tup [.ref a, .bl c])) (k : H u = some (.tup [.ref b, .bl c])) (tw : Tw H 2 (.ref a) (.ref b)) : Tw H 3 (.ref t) (.ref u) := by
  refine .tup h k rfl (by show 2 ≤ 1000; decide) fun i x y e1 e2 => ?_
  match i, e1, e2 with
  | 0, e1, e2 =>
    obtain rfl : V.ref a = x := Option.some.inj e1
    obtain rfl : V.ref b = y := Option.some.inj e2
    exact tw
  | 1, e1, e2 =>
    obtain rfl : V.bl c = x := Option.some.inj e1
    obtain rfl : V.bl c = y := Option.some.inj e2
    exact .bl _ _
  | i + 2, e1, e2 => cases e1
end Lk

/-! An error that leaves a def out of a list comprehension. -/
namespace CompX
open PySem PySem.Spec PyProof.Rows L2
/-- the block's context with another wish about exceptions -/
abbrev blkE (X : Cx) (s : Shared) (H : Hp) (scope : Scope) (cenv : Env) (fp : List Addr) (E : Value → Shared → Prop) : Cx := { X.blk s H scope cenv fp with xe := E }
theorem inv_xe {X : Cx} {E : Value → Shared → Prop} {pins : List (Addr × Obj)} {σ : L2.St} {H : Hp} {s : Shared} (I : Inv X pins σ H s) : Inv { X with xe := E } pins σ H s := by
  obtain ⟨⟨a1, a2, a3, a4, a5, a6, a7, a8, a9, a10, a11, a12, a13, a14, a15, a16, a17, a18⟩, b2, b3, b4, b5, b6, b7, b8, b9, b10, b11⟩ := I
  exact ⟨⟨a1, a2, a3, a4, a5, a6, a7, a8, a9, a10, a11, a12, a13, a14, a15, a16, a17, a18⟩, b2, b3, b4, b5, b6, b7, b8, b9, b10, b11⟩
section
variable {X : Cx} {pins : List (Addr × Obj)} {σ : L2.St} {H : Hp} {s s' : Shared} {E : XK}
/-- an exception that came out of a call: the ground that it flies over -/
theorem ground (I : Inv X pins σ H s) {u : Value} (c : CX X.prog X.w X.stack H s E u s') : ∃ (a : Addr) (B : Heap) (sI : Shared) (G : Hp) (cls : Value) (d : Option Addr), u = .ref a ∧ Inv X pins σ G sI ∧ (∀ b o, sI.heap.get? b = some o → b ∉ frs X.stack → B.get? b = some o) ∧
    sI.heap.UpToSlots s'.heap ∧ HandSPX.FlyingZ B X.stack a (Zc cls d) s'.heap ∧ G a = none ∧ s'.os = sI.os ∧ AllBare s'.gens ∧ E cls d G := by
  obtain ⟨a, B, G, cls, d, rfl, fly, held, ub, free, os, bare, wish⟩ := c
  obtain ⟨R, in_, out⟩ := restrict s'.heap fun b => decide (b ∈ frs X.stack) || (B.get? b).isSome
  have stays : B.StaysIn s'.heap := fly.1
  have ofB : ∀ b o, B.get? b = some o → R.get? b = some o := fun b o e => (in_ b (by rw [e]; simp)).trans (stays b o e)
  have ofF : ∀ b, b ∈ frs X.stack → R.get? b = s'.heap.get? b := fun b hb => in_ b (by simp [hb])
  have back : ∀ b o, R.get? b = some o → s'.heap.get? b = some o ∧ (b ∈ frs X.stack ∨ (B.get? b).isSome = true) := fun b o e => by
    by_cases z : (decide (b ∈ frs X.stack) || (B.get? b).isSome) = true
    · rw [in_ b z] at e
      refine ⟨e, ?_⟩
      rcases Bool.or_eq_true_iff.mp z with y | y
      · exact .inl (of_decide_eq_true y)
      · exact .inr y
    · rw [out b (Bool.eq_false_iff.mpr z)] at e
      cases e
  refine ⟨a, B, { s with heap := R, gens := s'.gens, drawn := s'.drawn, toks := s'.toks }, G, cls, d, rfl, ?_, ?_, Heap.UpToSlots.of_keeps fun b o e => (back b o e).1, fly, free, os, bare, wish⟩
  · have un : Un (frs X.stack) [] H G s.heap R := by
      refine ⟨fun b o e n hb _ => ofB b o (ub.keep b o e n hb), fun b o e n hb _ => ?_, fun b o e n _ => ub.free b o e n, fun b o e _ => ?_, ub.tups, ub.frzs, ub.tbls⟩
      · rw [ofF b hb]
        exact ub.slot b o e hb
      · by_cases hb : b ∈ frs X.stack
        · rw [ofF b hb]
          obtain ⟨sl, y⟩ := ub.slot b o e hb
          exact ⟨_, y⟩
        · obtain ⟨o', y⟩ := ub.there b o e hb
          exact ⟨o', ofB b o' y⟩
    exact I.call (ch := []) un (held.kept ofB) bare fun b z => by cases z
  · intro b o e hb
    obtain ⟨e', z⟩ := back b o e
    rcases z with z | z
    · exact absurd z hb
    · cases q : B.get? b with
      | none =>
        rw [q] at z
        cases z
      | some o2 => rw [← e', stays b o2 q]
end
theorem frames_sameBut {B B' h h' : Heap} {C : Addr} (sb : Heap.SameBut C h h') (nb : ∀ b, B.get? b = none → b ≠ C ∧ B'.get? b = none) : ∀ {l : List Env}, h.FunFrames B l → h'.FunFrames B' l
  | [], _ => trivial
  | env :: l, x => by
    obtain ⟨hk, ⟨L, o, hf, hn, ho, hd⟩, hr⟩ := x
    obtain ⟨n1, n2⟩ := nb L hn
    exact ⟨hk, ⟨L, o, hf, n2, (sb.2 L n1).trans ho, hd⟩, frames_sameBut sb nb hr⟩
/-- what is wanted behind a block that an exception left -/
def outE (X : Cx) (Q : Value → Shared → Prop) (ce : Env) : Value → Shared → Prop := notedBy (model X.prog X.w) X.A ce fun x s' =>
  ∃ m, s'.heap.Ns ce.locals m ∧ ∀ h', Heap.SameBut ce.locals s'.heap h' → wpAny (model X.prog X.w) X.A (PySem.passOn "comprehension.variables-let-go" x ce) Q X.xe { s' with heap := h' }
theorem note_same {x : Value} {e e' : Env} (h : e.frame = e'.frame) (h2 : frameOf e = frameOf e') : noteFrame x e = noteFrame x e' := by
  unfold noteFrame
  rw [h, h2]
section
variable {X : Cx} {pins : List (Addr × Obj)} {σ : L2.St} {E : XK} {Q : Value → Shared → Prop}
/-- the exception leaves the block: noted by the def, the block's names gone, it flies on -/
theorem out_block (hs : X.stack = X.env :: X.outer) (hf : X.env.frame = some X.env.locals) (tk : Takes X fun cls d _ H => E cls d H) {ce : Env} (cf : ce.frame = X.env.frame) (cf2 : frameOf ce = frameOf X.env) {fp : List Addr} {s3 : Shared} {H3 : Hp} {scope : Scope}
    (I3 : Inv X pins σ H3 s3) (f3 : ∀ b ∈ fp, FpOk X pins H3 b) (fC : ce.locals = s3.heap.objs.size) {F : Value → Shared → Prop} {pins' : List (Addr × Obj)} {σ' : L2.St} {H : Hp} {s s' : Shared} {u : Value} (I : Inv (blkE X s3 H3 scope ce fp F) pins' σ' H s)
    (c : CX X.prog X.w X.stack H s E u s') : outE X Q ce u s' := by
  obtain ⟨a, B, sI, G, cls, d, rfl, J, nb, up, fly, na, os, bare, wish⟩ := ground I c
  have J0 : Inv X pins σ G sI := I3.call' (ch := fp) J.os J.base J.hok J.bare fun b hb => ⟨(f3 b hb).2.2.2.1, (f3 b hb).2.1, (f3 b hb).2.2.2.2.1, (f3 b hb).2.2.2.2.2⟩
  have gC : G ce.locals = none := J.free
  have pC : FpOk X pins G ce.locals := I3.fpOk (by rw [fC]; exact Nat.le_refl _) gC
  obtain ⟨p0, p1, p2, p3, p4, p5⟩ := pC
  have nC : ce.locals ∉ frs X.stack := fun z => by
    rcases List.mem_cons.mp (I3.stkSub _ z) with y | y
    · exact p1 y
    · exact p2 y
  obtain ⟨m, hm, _⟩ := J.loc
  have hm : sI.heap.Ns ce.locals m := hm
  obtain ⟨oC, es, ep, hoC, rC⟩ := id hm
  have bC : B.get? ce.locals = some oC := nb _ _ hoC nC
  have hfr : X.A.frames = some (X.env :: X.outer) := by rw [J0.ok.frames, hs]
  unfold outE notedBy
  rw [note_same cf cf2]
  rw [hs] at fly
  have aC : a ≠ ce.locals := fun z => by
    have y := fly.2.1
    rw [z, bC] at y
    cases y
  refine HandSPX.looks_onZ Zc.steady hfr hf fly fun h1 hh up1 => ?_
  obtain ⟨k1, k2, k3, oe, vs, T, oT, ts, e1, e2, e3, e4, e5, e6, e7, e8, e9⟩ := hh
  have TC : T ≠ ce.locals := fun z => by
    rw [z, bC] at e5
    cases e5
  refine ⟨m, ⟨oC, es, ep, k1 _ _ bC, rC⟩, fun h2 sb => ?_⟩
  obtain ⟨B', in_, out⟩ := restrict B fun b => decide (b ≠ ce.locals)
  have toB : ∀ b o, B'.get? b = some o → b ≠ ce.locals ∧ B.get? b = some o := fun b o e => by
    by_cases z : b = ce.locals
    · rw [out b (by rw [z]; exact decide_eq_false (fun y => y rfl))] at e
      cases e
    · rw [in_ b (decide_eq_true z)] at e
      exact ⟨z, e⟩
  have no' : ∀ b, B.get? b = none → B'.get? b = none := fun b e => by
    cases q : B'.get? b with
    | none => rfl
    | some o =>
      have z := (toB b o q).2
      rw [e] at z
      cases z
  have hh2 : HandSPX.HeldZ B' (X.env :: X.outer) a (Zc cls d) X.env.locals h2 := by
    refine ⟨fun b o e => (sb.2 b (toB b o e).1).trans (k1 b o (toB b o e).2), no' a k2, frames_sameBut sb (fun b e => ⟨fun z => ?_, no' b e⟩) k3, oe, vs, T, oT, ts, (sb.2 a aC).trans e1, e2, e3, e4, no' T e5, e6, (sb.2 T TC).trans e7, e8, e9⟩
    rw [z, bC] at e
    cases e
  unfold PySem.passOn
  refine wpAny_bind (wpAny_field (s := { s' with heap := h2 }) ((sb.2 a aC).trans e1) e3 e4 ?_)
  rw [if_neg (show ¬ ((Value.ref T == Value.none) = true) from by simp)]
  have fin : wpAny (model X.prog X.w) X.A (setFlight (.ref a) ce.frame) (fun _ s4 => wpAny (model X.prog X.w) X.A (throw (.ref a) : Sem Value) Q X.xe s4) X.xe { s' with heap := h2 } := by
    rw [cf, hf]
    refine HandSPX.setFlight_onZ hh2 fun h4 hh4 up4 => wpAny_throw (tk _ _ ?_)
    obtain ⟨R, rin, rout⟩ := restrict sI.heap fun b => decide (b ≠ ce.locals)
    have ofR : ∀ b o, R.get? b = some o → b ≠ ce.locals ∧ sI.heap.get? b = some o := fun b o e => by
      by_cases z : b = ce.locals
      · rw [rout b (by rw [z]; exact decide_eq_false (fun y => y rfl))] at e
        cases e
      · rw [rin b (decide_eq_true z)] at e
        exact ⟨z, e⟩
    have JR : Inv X pins σ G { sI with heap := R } := J0.turned (t' := sI.toks) (fun b o hb e => (rin b (decide_eq_true hb)).trans e) p0 p1 p3 p4 p5
    refine ⟨a, B', { sI with heap := R }, pins, σ, G, cls, d, rfl, JR, fun b o e hb => ?_, fun b o e hd => ?_, .inr (.inr (by rw [hs]; exact hh4)), na, os, bare, wish⟩
    · obtain ⟨n1, e'⟩ := ofR b o e
      exact (in_ b (decide_eq_true n1)).trans (nb b o e' hb)
    · obtain ⟨n1, e'⟩ := ofR b o e
      obtain ⟨sl1, y1⟩ := up b o e' hd
      obtain ⟨sl2, y2⟩ := up1 b _ y1 hd
      obtain ⟨sl3, y3⟩ := up4 b _ ((sb.2 b n1).trans y2) hd
      exact ⟨sl3, y3⟩
  first
    | exact wpAny_bind (wpAny_pure (wpAny_bind fin))
    | exact wpAny_bind fin
theorem clo_nil {cells : List (Str × Addr)} {names : List (Str × NameKind)} (h : ∀ y ∈ names, y.2 ≠ .free) : cloFrom cells names [] = [] := by
  refine List.eq_nil_iff_forall_not_mem.mpr fun ⟨n, c⟩ hm => ?_
  rcases cloFrom_mem hm with z | ⟨z, _⟩
  · cases z
  · exact h _ z rfl
theorem rel_same {scope : Scope} {env : Env} (h : ∀ y ∈ scope.names, y.2 ≠ .free) : relabel scope env = scope := by
  unfold relabel
  rw [map_eq_self (l := scope.names) fun ⟨n, k⟩ hx => ?_]
  have z : (k == NameKind.free) = false := by simpa using h _ hx
  simp [z]
/-- [elt for x in xs] whose elements may raise, no name captured -/
theorem pe_lcX {elt tg iter : Expr} {scope : Scope} {own : List (Str × Nat)} {pos : Pos} {wi : TI} {g : TG} {te : TE} (hs : X.stack = X.env :: X.outer) (hf : X.env.frame = some X.env.locals) (tk : Takes X fun cls d _ H => E cls d H) (hc : X.calm = true) (hN : X.N.Nodup)
    (hi : PI X tg iter wi) (ok : BlkOk X.N X.env.scope scope own) (hfree : ∀ y ∈ scope.names, y.2 ≠ .free)
    (hg : ∀ (s : Shared) (H : Hp) (C : Addr) (cl : List (Str × Addr)) (fp : List Addr) (F : Value → Shared → Prop), PG (blkE X s H scope (compEnvC scope cl C X.env) fp F) tg g)
    (he : ∀ (s : Shared) (H : Hp) (C : Addr) (cl : List (Str × Addr)) (fp : List Addr) (F : Value → Shared → Prop), Passes (CX X.prog X.w) (blkE X s H scope (compEnvC scope cl C X.env) fp F) E → PE (blkE X s H scope (compEnvC scope cl C X.env) fp F) elt te)
    (hfold : ∀ x, foldedSetIterable iter X.env x = pure x := by intro _; rfl) : PE X (.ListComp elt [⟨tg, iter, [], 0⟩] scope pos) (tLc wi g tYes te (own.map (·.2))) := by
  refine ⟨fun pins s σ H Q I h => ?_⟩
  rw [eval_ListComp]
  refine wpAny_comprehension rfl hfold hfree ok.kind (fun y hy e => (ok.uniq y hy).trans (congrArg some e)) (thn (hi.run pins s σ H _ I h) fun xv s1 z1 => thn z1 fun itv s2 z2 => ?_)
  obtain ⟨it, fp, tn, J, H2, rfl, I2, T, st2, f2, q⟩ := z2
  refine wpAny_newObj_type (newEnv_comp ?_) (show 0 ≤ sizeLine by decide)
  generalize eD : s2.heap.objs.size = D
  have nD : H2 D = none := I2.hok.fresh (by rw [eD]; exact Nat.le_refl _)
  obtain ⟨W, ⟨m0, w0⟩, turn⟩ := q D nD
  generalize es3 : ({ s2 with heap := s2.heap.push { cls := .type "list", data := .seq ([] : List Value).toArray } } : Shared) = s3
  have hp3 : s3.heap = s2.heap.push { cls := .type "list", data := .seq ([] : List Value).toArray } := congrArg (·.heap) es3.symm
  have I3 : Inv X pins σ (upd H2 D (.lst [])) s3 := by
    rw [← es3]
    refine I2.laid (t' := s2.toks) (fun b o e => Heap.get?_push_of_some _ e) (by rw [eD]; exact Nat.le_refl _) ⟨Nat.zero_le _, [], 0, .nil, ?_⟩
    rw [← eD]
    exact Heap.get?_push_size _ rfl
  have small : ∀ b ∈ fp, b < s2.heap.objs.size := fun b hb => by
    obtain ⟨o, e, _⟩ := T.obj _ _ st2 b hb
    exact Heap.lt_size e
  have f3 : ∀ b ∈ fp, FpOk X pins (upd H2 D (.lst [])) b ∧ b < s3.heap.objs.size := fun b hb => by
    have lt := small b hb
    refine ⟨⟨?_, (f2 b hb).2⟩, by rw [hp3, Heap.size_push]; exact Nat.lt_succ_of_lt lt⟩
    rw [upd_ne (by rw [← eD]; exact Nat.ne_of_lt lt)]
    exact (f2 b hb).1
  have st3 : tn 0 s3.heap := T.keep _ _ _ st2 fun b _ o e => by
    rw [hp3]
    exact Heap.get?_push_of_some _ e
  have I4 := block_start I3 ok hN f3
  rw [clo_nil hfree] at I4
  generalize eH3 : upd H2 D (.lst []) = H3 at I3 I4 w0 f3
  generalize ecl : cellsFrom (s3.heap.objs.size + 1) scope.names [] = cl at I4 ⊢
  have ece : ({ newEnv scope s3.heap.objs.size X.env.globals cl X.env.qual none .none (some X.env) builtinsNs with scope := scope } : Env) = compEnvC scope cl s3.heap.objs.size X.env := by
    unfold compEnvC newEnv
    rw [rel_same hfree]
  have fr_ : frameOf (compEnvC scope cl s3.heap.objs.size X.env) = frameOf X.env := rfl
  have pg := fun F => hg s3 H3 s3.heap.objs.size cl fp F
  have pe := fun F => he s3 H3 s3.heap.objs.size cl fp F
  have key : codeAny (model X.prog X.w) X.A (.compStart (.ListComp elt [⟨tg, iter, [], 0⟩] scope pos) 0 (.ref it) (.ref D) (compEnvC scope cl s3.heap.objs.size X.env)) (fun r s' => ∃ m, s'.heap.Ns (compEnvC scope cl s3.heap.objs.size X.env).locals m ∧ ∀ h', Heap.SameBut (compEnvC scope cl s3.heap.objs.size X.env).locals s'.heap h' →
      match r with
        | .ok _ => EP X pins σ Q (.ref D) { s' with heap := h' }
        | .error x => wpAny (model X.prog X.w) X.A (PySem.passOn "comprehension.variables-let-go" x (compEnvC scope cl s3.heap.objs.size X.env)) (EP X pins σ Q) X.xe { s' with heap := h' }) { s3 with heap := pushCells (s3.heap.push { cls := .type "dict", data := .dict #[] }) scope.names } := ?_
  · rw [← ece] at key
    exact key
  have cf : (compEnvC scope cl s3.heap.objs.size X.env).frame = X.env.frame := rfl
  have cL : (compEnvC scope cl s3.heap.objs.size X.env).locals = s3.heap.objs.size := rfl
  generalize compEnvC scope cl s3.heap.objs.size X.env = ce at I4 pg pe cf cL fr_ ⊢
  generalize es4 : ({ s3 with heap := pushCells (s3.heap.push { cls := .type "dict", data := .dict #[] }) scope.names } : Shared) = s4 at I4 ⊢
  have st4 : tn 0 s4.heap := T.keep _ _ _ st3 fun b _ o e => by
    rw [← es4]
    exact pushCells_keeps _ _ _ _ (Heap.get?_push_of_some _ e)
  generalize eF : outE X (EP X pins σ Q) ce = F
  have pgF := pg F
  have peF := pe F fun pins' σ' H' s0 u s' I' c => by
    show F u s'
    rw [← eF]
    exact out_block hs hf tk cf fr_ I3 (fun b hb => (f3 b hb).1) cL I' c
  have I4 := inv_xe (E := F) I4
  have stat : ∀ {σ' : L2.St} {H' : Hp} {s' : Shared}, Inv (blkE X s3 H3 scope ce fp F) [] σ' H' s' → (∀ b ∈ fp, H' b = none) → ∀ b ∈ fp, FpOk (blkE X s3 H3 scope ce fp F) [] H' b := fun {σ' H' s'} J' hn b hb =>
    ⟨hn b hb, (J'.ok.exf b hb).1, J'.ok.exfs b hb, .inl hb, fun x c e => (J'.ok.exf b hb).2 x c e, fun p hp => by
      have z : p ∈ ([] : List (Addr × Obj)) ++ [] := hp
      cases z⟩
  have loop : codeAny (model X.prog X.w) X.A (.compLoop (.ListComp elt [⟨tg, iter, [], 0⟩] scope pos) 0 (.ref it) (.ref D) ce) (fun r s' => ∃ m, s'.heap.Ns ce.locals m ∧ ∀ h', Heap.SameBut ce.locals s'.heap h' →
      match r with
        | .ok _ => EP X pins σ Q (.ref D) { s' with heap := h' }
        | .error x => wpAny (model X.prog X.w) X.A (PySem.passOn "comprehension.variables-let-go" x ce) (EP X pins σ Q) X.xe { s' with heap := h' }) s4 := by
    refine compLoop_any (fun n s' => ∃ i H', Inv (blkE X s3 H3 scope ce fp F) [] (wipe σ (own.map (·.2))) H' s' ∧ tn i s'.heap ∧ (∀ b ∈ fp, H' b = none) ∧ W i n H') ?_ m0 ⟨0, H3, I4, st4, fun b hb => (f3 b hb).1.1, w0⟩
    rintro n s5 ⟨i, H5, I5, st5, n5, w5⟩
    show wpAny _ _ _ _ (outE X (EP X pins σ Q) ce) _
    rw [eF]
    rcases turn i n H5 w5 with ⟨stop, qq⟩ | ⟨go, Nx, hNx, step⟩
    · refine thnF (T.done (blkE X s3 H3 scope ce fp F) rfl rfl rfl hc i [] s5 _ H5 (fun _ _ => False) I5 (stat I5 n5) st5 stop) fun r s6 ⟨hr, I6⟩ => ?_
      subst hr
      have I7 : Inv X pins σ H5 s6 := I3.call' (ch := fp) I6.os I6.base I6.hok I6.bare fun b hb => ⟨(f3 b hb).1.2.2.2.1, (f3 b hb).1.2.1, (f3 b hb).1.2.2.2.2.1, (f3 b hb).1.2.2.2.2.2⟩
      have gone : H5 ce.locals = none := I6.free
      obtain ⟨m, hm, _⟩ := I6.loc
      have fp_ : FpOk X pins H5 ce.locals := I3.fpOk (by rw [cL]; exact Nat.le_refl _) gone
      obtain ⟨p0, p1, p2, p3, p4, p5⟩ := fp_
      exact ⟨m, hm, fun h' sb => ⟨.ref D, H5, I7.turned (t' := s6.toks) (fun b o hb e => (sb.2 b hb).trans e) p0 p1 p3 p4 p5, rfl, qq⟩⟩
    · refine thnF (T.item (blkE X s3 H3 scope ce fp F) rfl rfl rfl hc i [] s5 _ H5 (fun _ _ => False) I5 (stat I5 n5) st5 go) fun r s6 ⟨u, hr, h6⟩ => ?_
      subst hr
      show wpAny _ _ _ _ (outE X (EP X pins σ Q) ce) _
      rw [eF]
      refine thnF h6 fun _ s7 ⟨x, H7, I7, r7, y7, st7, n7⟩ => ?_
      have J7 := I7.pinned (stat I7 n7) (T.obj _ _ st7)
      show wpAny _ _ _ _ (outE X (EP X pins σ Q) ce) _
      rw [eF]
      refine thn (pgF.run _ s7 _ H7 x u _ J7 r7 (step x H7 y7)) fun _ s8 ⟨σ8, H8, I8, e8, q8⟩ => ?_
      have fin : ∀ {s' : Shared} {H' : Hp}, Inv (blkE X s3 H3 scope ce fp F) ([] ++ pinsAt fp s7.heap) σ8 H' s' → Nx H' → ∃ m, m < n ∧ ∃ i H', Inv (blkE X s3 H3 scope ce fp F) [] (wipe σ (own.map (·.2))) H' s' ∧ tn i s'.heap ∧ (∀ b ∈ fp, H' b = none) ∧ W i m H' := fun {s' H'} J' nx => by
        obtain ⟨k, lt, w⟩ := hNx H' nx
        have at' : ∀ b ∈ fp, ∀ o, s7.heap.get? b = some o → s'.heap.get? b = some o ∧ H' b = none := fun b hb o e => by
          obtain ⟨y1, y2, _⟩ := J'.pin (b, o) (List.mem_append_right _ (List.mem_append_right _ (mem_pinsAt hb e)))
          exact ⟨y1, y2⟩
        refine ⟨k, lt, i + 1, H', (J'.unpinned (pins := [])).weak (by rw [← e8, wipe_length]) (fun j v e => ?_), T.keep _ _ _ st7 fun b hb o e => (at' b hb o e).1, fun b hb => ?_, w⟩
        · rw [← e8] at e
          exact (wipe_some e).1
        · obtain ⟨o, e, _⟩ := T.obj _ _ st7 b hb
          exact (at' b hb o e).2
      have q8 : te σ8 H8 fun y H4 => ∃ acc, H4 D = some (.lst acc) ∧ acc.length < sizeLine ∧ Nx (upd H4 D (.lst (acc ++ [y]))) := q8
      refine wpAny_tests_nil ?_
      show wpAny _ _ _ _ (outE X (EP X pins σ Q) ce) _
      rw [eF]
      refine thn (peF.run _ s8 σ8 H8 _ I8 q8) fun z s10 ⟨yv, H10, I10, r10, acc, a1, a2, nx⟩ => ?_
      exact app_ok (X := blkE X s3 H3 scope ce fp F) I10 a1 a2 r10 fun s11 I11 => fin I11 nx
  exact codeAny_compStart_list loop (T.self X.A 0 _ _ _ st4 loop)
end
end CompX

/-! A text and a dict, a list, a tuple: == and in. -/
namespace EqD
open PySem PySem.Spec PyProof.Rows L2 PySem.SeqAt
section
variable {prog : Program} {w : World} {A : Around} {s : Shared} {E : Value → Shared → Prop}
theorem dict_no {a : Addr} {b : Str} {u : Tok} (ta : s.TypeIs (.ref a) "dict") {Q : Value → Shared → Prop} (h : Q .notImplemented s) : wpAny (model prog w) A (call (.builtin "dict.__eq__") [.ref a, .str b u]) Q E s := by
  refine wpAny_call_entry PySem.F.slot_dict_eq ta PySem.F.entry_dict_eq ?_ (PySem.F.args_dict_eq_2 _ _)
  show wpAny _ _ (Builtin.Dict.dictSlotArgs "__eq__" ⟨[.ref a, .str b u], []⟩ >>= _) _ _ s
  unfold Builtin.Dict.dictSlotArgs
  refine wpAny_bind (wpAny_bind (wpAny_notOrdered_dict ta ?_))
  show wpAny _ _ (pure (Value.ref a, Value.str b u)) _ _ s
  refine wpAny_pure (wpAny_bind (wpAny_isInstance (T := "str") (typeIs_str s b u) PySem.F.sub_str_dict ?_))
  simp only [Bool.not_false, if_true]
  refine wpAny_bind (wpAny_rule ?_)
  first
    | exact wpAny_pure ⟨_, rfl, h⟩
    | exact wpAny_bind (wpAny_pure (wpAny_pure ⟨_, rfl, h⟩))
theorem str_no {a : Addr} {b : Str} {u : Tok} {o : Obj} (ho : s.heap.get? a = some o) {es : Array DictEntry} {ep : Nat} (hd : o.data = .dict es ep) {Q : Value → Shared → Prop} (h : Q .notImplemented s) : wpAny (model prog w) A (call (.builtin "str.__eq__") [.str b u, .ref a]) Q E s := by
  refine wpAny_call_entry PySem.F.slot_str_eq (typeIs_str s b u) PySem.F.entry_str_eq ?_ (PySem.F.args_str_eq_2 _ _)
  obtain ⟨hp, g, d, tk, os⟩ := s
  obtain ⟨oc, od, odt, osl⟩ := o
  obtain rfl : odt = .dict es ep := hd
  wp_walk using AutoSeq1.wpAny_loadPart' ho, wpAny_load ho
  exact ⟨_, rfl, h⟩
end
section
variable {A : Around} {s : Shared}
theorem rc_dict_str {a : Addr} {o : Obj} {es : Array DictEntry} {ep : Nat} (b : Str) (u : Tok) (ho : s.heap.get? a = some o) (hd : o.data = .dict es ep) (ta : s.TypeIs (.ref a) "dict") (hu : A.units < cLine) : RcAt A s (.ref a) (.str b u) false := fun prog w E Q h =>
  rc_eq_decline_or (k := false) ta (typeIs_str s b u) (by decide) PySem.F.sub_str_dict PySem.F.slot_dict_eq PySem.F.slot_str_eq_refl (fun _ hq => dict_no ta hq) (fun _ hq => str_no ho hd hq)
    (fun _ hq => wpAny_of_eq (rfl : isSame (.ref a) (.str b u) = pure false) hq) (.inr hu) h
theorem rc_str_dict {a : Addr} {o : Obj} {es : Array DictEntry} {ep : Nat} (b : Str) (u : Tok) (ho : s.heap.get? a = some o) (hd : o.data = .dict es ep) (ta : s.TypeIs (.ref a) "dict") (hu : A.units < cLine) : RcAt A s (.str b u) (.ref a) false := fun prog w E Q h =>
  rc_eq_decline_or (k := false) (typeIs_str s b u) ta (by decide) PySem.F.sub_dict_str PySem.F.slot_str_eq PySem.F.slot_dict_eq_refl (fun _ hq => str_no ho hd hq) (fun _ hq => dict_no ta hq)
    (fun _ hq => wpAny_of_eq (rfl : isSame (.str b u) (.ref a) = pure false) hq) (.inr hu) h
theorem eq_str_dict {a : Addr} {o : Obj} {es : Array DictEntry} {ep : Nat} (b : Str) (u : Tok) (ho : s.heap.get? a = some o) (hd : o.data = .dict es ep) (ta : s.TypeIs (.ref a) "dict") (hu : A.units < cLine) : EqAt A s (.str b u) (.ref a) false := fun prog w E Q h => by
  unfold eqBool
  refine wpAny_holding (wpAny_ite_split (fun y => absurd (eq_of_beq y) nofun) fun _ => ?_)
  exact wpAny_bind (rc_str_dict b u ho hd ta hu prog w E _ (wpAny_truthy_bool h))
end
/-- a flat thing, or a list, a tuple, a dict -/
def AnyAt (H : Hp) (x : V) : Prop := flatV x = true ∨ ∃ a, x = .ref a ∧ ((∃ xs, H a = some (.lst xs)) ∨ (∃ xs, H a = some (.tup xs)) ∨ ∃ ks, H a = some (.dK ks))
/-- it is that text -/
def isS (x : V) (w : Str) : Bool := match x with
  | .str v => decide (v = w)
  | _ => false
section
variable {X : Cx} {pins : List (Addr × Obj)} {σ : L2.St} {H : Hp} {s : Shared}
theorem eqV_isS {x : V} {w : Str} : eqV (.str w) x = isS x w := by
  cases x with
  | str v =>
    show (w == v) = decide (v = w)
    rw [Bool.eq_iff_iff, beq_iff_eq, decide_eq_true_eq]
    exact ⟨Eq.symm, Eq.symm⟩
  | _ => rfl
/-- the text of an item against it -/
theorem item_at (I : Inv X pins σ H s) {A : Around} (hu : A.units < cLine) {x : V} {u : Value} (an : AnyAt H x) (r : RelV x u) (w : Str) (t : Tok) : EqAt A s (.str w t) u (isS x w) := by
  rcases an with f | ⟨a, rfl, h⟩
  · rw [← eqV_isS]
    exact eqAt_V ⟨t, rfl⟩ r rfl f
  · obtain rfl : u = Value.ref a := r
    show EqAt A s (.str w t) (.ref a) false
    rcases h with ⟨xs, h⟩ | ⟨xs, h⟩ | ⟨ks, h⟩
    · obtain ⟨_, its, n, _, e⟩ := (show ObjOk X.prog X.w H s.heap a (.lst xs) from I.hok a _ h)
      exact EqAt.str_list (items := its.toArray) w t ⟨_, e, rfl, n, rfl⟩ hu
    · obtain ⟨_, its, _, p⟩ := (show ObjOk X.prog X.w H s.heap a (.tup xs) from I.hok a _ h)
      exact EqAt.str_tuple (items := its.toArray) w t p hu
    · obtain ⟨_, _, vs, _, d⟩ := dk_of I.hok h
      obtain ⟨o, es, ep, e1, e2, e3, _⟩ := id d
      exact eq_str_dict w t e1 e3 d.typeIs hu
/-- x in a tuple of texts -/
def rInW (K : PySem.W.Frag) : R2 := fun x y H Q => ∃ (p : Addr) (ws : List Str), y = .ref p ∧ SqT K H p (ws.map V.str) ∧ AnyAt H x ∧ Q (.bl (ws.any (isS x))) H
def eqW (x : V) (u : Value) : Bool := match u with
  | .str z _ => isS x z
  | _ => false
theorem any_eqW {x : V} : ∀ {ws : List Str} {us : List Value}, Vals (ws.map V.str) us → us.any (eqW x) = ws.any (isS x)
  | [], _, .nil => rfl
  | w :: ws, u :: us, .cons r t => by
    obtain ⟨k, rfl⟩ := r
    rw [List.any_cons, List.any_cons, any_eqW t]
    rfl
theorem op_in_W (hu : X.A.units + 1 < cLine) : OpR X (compareOp .In) (rInW X.K) := by
  intro pins s σ H x y v u Q I rx ry h
  obtain ⟨p, ws, rfl, hq, an, q⟩ := h
  obtain rfl : u = Value.ref p := ry
  obtain ⟨its, r, pl, hz⟩ := I.tuple hq
  have each : ∀ {ws : List Str} {us : List Value}, Vals (ws.map V.str) us → ∀ z ∈ us, EqAt X.A.in1 s z v (eqW x z) := by
    intro ws
    induction ws with
    | nil =>
      intro us r z hz
      cases r
      cases hz
    | cons w ws ih =>
      intro us r z hz
      cases r with
      | cons r1 r2 =>
        rcases List.mem_cons.mp hz with rfl | hz
        · obtain ⟨k, rfl⟩ := r1
          exact item_at I (show X.A.units + 1 < cLine from hu) an rx w k
        · exact ih r2 z hz
  refine SeqAt.in_tupleAt (eqW x) pl (fun z hz => each r z (by simpa using hz)) ⟨.bl _, H, I, rfl, ?_⟩
  rw [show its.toArray.any (eqW x) = its.any (eqW x) by simp, any_eqW r]
  exact q
/-- x == a text -/
def rEqW : R2 := fun x y H Q => ∃ w, y = .str w ∧ AnyAt H x ∧ Q (.bl (isS x w)) H
theorem op_eq_W (hu : X.A.units + 1 < cLine) : OpR X (compareOp .Eq) rEqW := by
  intro pins s σ H x y v u Q I rx ry h
  obtain ⟨w, rfl, an, q⟩ := h
  have ry' := ry
  obtain ⟨t, rfl⟩ := ry
  have hu' : X.A.units < cLine := by omega
  rcases an with f | ⟨a, rfl, h⟩
  · refine op_eq pins s σ H x (.str w) v _ Q I rx ry' ⟨?_, ?_⟩
    · cases x <;> first | rfl | cases f
    · have e : decide (x = V.str w) = isS x w := by
        cases x with
        | str z =>
          show decide (V.str z = V.str w) = decide (z = w)
          exact decide_eq_decide.mpr ⟨fun z => by cases z; rfl, fun z => by rw [z]⟩
        | _ => exact decide_eq_false nofun
      rw [e]
      exact q
  · obtain rfl : v = Value.ref a := rx
    have q : Q (.bl false) H := q
    rcases h with ⟨xs, h⟩ | ⟨xs, h⟩ | ⟨ks, h⟩
    · obtain ⟨_, its, n, _, e⟩ := (show ObjOk X.prog X.w H s.heap a (.lst xs) from I.hok a _ h)
      exact RcAt.list_str (items := its.toArray) w t ⟨_, e, rfl, n, rfl⟩ hu' _ _ _ _ ⟨.bl false, H, I, rfl, q⟩
    · obtain ⟨_, its, _, p⟩ := (show ObjOk X.prog X.w H s.heap a (.tup xs) from I.hok a _ h)
      exact RcAt.tuple_str (items := its.toArray) w t p hu' _ _ _ _ ⟨.bl false, H, I, rfl, q⟩
    · obtain ⟨_, _, vs, _, d⟩ := dk_of I.hok h
      obtain ⟨o, es, ep, e1, e2, e3, _⟩ := id d
      exact rc_dict_str w t e1 e3 d.typeIs hu' _ _ _ _ ⟨.bl false, H, I, rfl, q⟩
end
end EqD

/-! Things: any data, with a dict at times; what repr tells of them. -/
namespace Lk
open PySem PySem.Calls PyProof.Rows PySem.Spec L2 Drw Err
/-- data whose lists and tuples are no longer than b -/
inductive Th (b : Nat) (H : Hp) : Nat → V → PyData → Prop
  | leaf (n : Nat) {x : V} {d : PyData} (h : Lf x d) : Th b H n x d
  | non (n : Nat) : Th b H n .non .none
  | emp (n : Nat) {a : Addr} : H a = some (.dK []) → Th b H n (.ref a) (.dict [])
  | one (n : Nat) {a : Addr} : H a = some (.dK [(Sum.inr "begin", .int 1)]) → Th b H n (.ref a) (.dict [(.str "begin", .int 1)])
  | lst {n : Nat} {a : Addr} {xs : List V} {ds : List PyData} : H a = some (.lst xs) → xs.length = ds.length → xs.length ≤ b → (∀ (i : Nat) x d, xs[i]? = some x → ds[i]? = some d → Th b H n x d) → Th b H (n + 1) (.ref a) (.list ds)
  | tup {n : Nat} {a : Addr} {xs : List V} {ds : List PyData} : H a = some (.tup xs) → xs.length = ds.length → xs.length ≤ b → (∀ (i : Nat) x d, xs[i]? = some x → ds[i]? = some d → Th b H n x d) → Th b H (n + 1) (.ref a) (.tuple ds)
theorem Th.al {b : Nat} {H H' : Hp} (k : Al H H') : ∀ {n : Nat} {x : V} {d : PyData}, Th b H n x d → Th b H' n x d := by
  intro n x d h
  induction h with
  | leaf n h => exact .leaf n h
  | non n => exact .non n
  | emp n h => exact .emp n (k _ _ h)
  | one n h => exact .one n (k _ _ h)
  | lst h1 h2 h3 _ ih => exact .lst (k _ _ h1) h2 h3 ih
  | tup h1 h2 h3 _ ih => exact .tup (k _ _ h1) h2 h3 ih
theorem Th.wide {b b' : Nat} {H : Hp} (hb : b ≤ b') : ∀ {n : Nat} {x : V} {d : PyData}, Th b H n x d → Th b' H n x d := by
  intro n x d h
  induction h with
  | leaf n h => exact .leaf n h
  | non n => exact .non n
  | emp n h => exact .emp n h
  | one n h => exact .one n h
  | lst h1 h2 h3 _ ih => exact .lst h1 h2 (Nat.le_trans h3 hb) ih
  | tup h1 h2 h3 _ ih => exact .tup h1 h2 (Nat.le_trans h3 hb) ih
theorem Th.deeper {b : Nat} {H : Hp} : ∀ {n : Nat} {x : V} {d : PyData}, Th b H n x d → Th b H (n + 1) x d := by
  intro n x d h
  induction h with
  | leaf n h => exact .leaf _ h
  | non n => exact .non _
  | emp n h => exact .emp _ h
  | one n h => exact .one _ h
  | lst h1 h2 h3 _ ih => exact .lst h1 h2 h3 ih
  | tup h1 h2 h3 _ ih => exact .tup h1 h2 h3 ih
theorem Th.any {b : Nat} {H : Hp} {n : Nat} {x : V} {d : PyData} (h : Th b H n x d) : EqD.AnyAt H x := by
  cases h with
  | leaf n h => cases h <;> exact .inl rfl
  | non n => exact .inl rfl
  | emp n h => exact .inr ⟨_, rfl, .inr (.inr ⟨_, h⟩)⟩
  | one n h => exact .inr ⟨_, rfl, .inr (.inr ⟨_, h⟩)⟩
  | lst h _ _ _ => exact .inr ⟨_, rfl, .inl ⟨_, h⟩⟩
  | tup h _ _ _ => exact .inr ⟨_, rfl, .inr (.inl ⟨_, h⟩)⟩
def kindS : PyData → String
  | .none => "NoneType"
  | .bool _ => "bool"
  | .int _ => "int"
  | .str _ => "str"
  | .list _ => "list"
  | .tuple _ => "tuple"
  | .dict _ => "dict"
theorem Th.kind {b : Nat} {H : Hp} {n : Nat} {x : V} {d : PyData} (h : Th b H n x d) : Kind H x (kindS d) := by
  cases h with
  | leaf n h => cases h <;> constructor
  | non n => exact .non
  | emp n h => exact .dct h
  | one n h => exact .dct h
  | lst h _ _ _ => exact .lst h
  | tup h _ _ _ => exact .tup h
/-- a list or a tuple, or neither -/
theorem Th.split {b : Nat} {H : Hp} {n : Nat} {x : V} {d : PyData} (h : Th b H n x d) : ((∀ ds, d ≠ .list ds) ∧ (∀ ds, d ≠ .tuple ds) ∧ ∀ m, Th b H m x d) ∨ ∃ (m : Nat) (a : Addr) (xs : List V) (ds : List PyData), n = m + 1 ∧ x = .ref a ∧ Sp' H a xs ∧ (d = .list ds ∨ d = .tuple ds) ∧ (d = .list ds → H a = some (.lst xs)) ∧ (d = .tuple ds → H a = some (.tup xs)) ∧ xs.length = ds.length ∧ xs.length ≤ b ∧ ∀ (i : Nat) x d, xs[i]? = some x → ds[i]? = some d → Th b H m x d := by
  cases h with
  | leaf n h => exact .inl ⟨fun ds z => (by cases h <;> cases z), fun ds z => (by cases h <;> cases z), fun m => .leaf m h⟩
  | non n => exact .inl ⟨fun ds z => (by cases z), fun ds z => (by cases z), fun m => .non m⟩
  | emp n h => exact .inl ⟨fun ds z => (by cases z), fun ds z => (by cases z), fun m => .emp m h⟩
  | one n h => exact .inl ⟨fun ds z => (by cases z), fun ds z => (by cases z), fun m => .one m h⟩
  | lst h h2 h3 h4 => exact .inr ⟨_, _, _, _, rfl, rfl, .inl h, .inl rfl, fun _ => h, fun z => (by cases z), h2, h3, h4⟩
  | tup h h2 h3 h4 => exact .inr ⟨_, _, _, _, rfl, rfl, .inr h, .inr rfl, fun z => (by cases z), fun _ => h, h2, h3, h4⟩
def mostB (b : Nat) : Nat → Nat
  | 0 => 40
  | n + 1 => b * (mostB b n + 2) + 40
theorem mostB_ge (b : Nat) : ∀ n, 40 ≤ mostB b n
  | 0 => Nat.le_refl _
  | n + 1 => Nat.le_add_left _ _
def TellB (b n : Nat) (d : PyData) : Prop := d.showable = true ∧ d.depth ≤ n + 1 ∧ d.shown.length ≤ mostB b n
theorem tellB_seq {b n : Nat} {ds : List PyData} (hl : ds.length ≤ b) (h : ∀ d ∈ ds, TellB b n d) : TellB b (n + 1) (.list ds) ∧ TellB b (n + 1) (.tuple ds) := by
  have s1 : PyData.showableAll ds = true := by
    rw [showableAll_eq, List.all_eq_true]
    exact fun d hd => (h d hd).1
  have s3 := depthAll_le ds fun d hd => (h d hd).2.1
  have s4 : ((PyData.shownAll ds).map fun t => t.length + 2).sum ≤ b * (mostB b n + 2) := by
    have z := sum_bound (B := mostB b n) (PyData.shownAll ds) fun t ht => by
      rw [shownAll_eq] at ht
      obtain ⟨d, hd, rfl⟩ := List.mem_map.mp ht
      exact (h d hd).2.2
    have l : (PyData.shownAll ds).length = ds.length := by rw [shownAll_eq, List.length_map]
    rw [l] at z
    exact Nat.le_trans z (Nat.mul_le_mul_right _ hl)
  have m : mostB b (n + 1) = b * (mostB b n + 2) + 40 := rfl
  refine ⟨⟨by rw [PyData.showable]; exact s1, by rw [PyData.depth]; omega, ?_⟩, ⟨by rw [PyData.showable]; exact s1, by rw [PyData.depth]; omega, ?_⟩⟩
  · rw [PyData.shown]
    have z := listText_le (PyData.shownAll ds)
    omega
  · rw [PyData.shown]
    have z := tupleText_le (PyData.shownAll ds)
    omega
theorem Th.tell {b : Nat} {H : Hp} : ∀ {n : Nat} {x : V} {d : PyData}, Th b H n x d → TellB b n d := by
  intro n x d h
  induction h with
  | leaf n h =>
    have m := mostB_ge b n
    obtain ⟨z1, _, z3, z4⟩ := h.tell 0
    exact ⟨z1, by omega, Nat.le_trans z4 (Nat.le_trans (by decide) m)⟩
  | non n => exact ⟨by rw [PyData.showable], by rw [PyData.depth]; omega, Nat.le_trans (by rw [PyData.shown]; decide +kernel) (mostB_ge b n)⟩
  | emp n h => exact ⟨by rw [PyData.showable, PyData.showableKv], by rw [PyData.depth, PyData.depthKv]; omega, Nat.le_trans (by rw [PyData.shown, PyData.shownKv]; decide +kernel) (mostB_ge b n)⟩
  | one n h => exact ⟨by rw [PyData.showable, PyData.showableKv, PyData.showableKv]; decide +kernel, by rw [PyData.depth, PyData.depthKv, PyData.depthKv, PyData.depth, PyData.depth]; omega, Nat.le_trans (by rw [PyData.shown, PyData.shownKv, PyData.shownKv]; decide +kernel) (mostB_ge b n)⟩
  | lst _ h2 h3 _ ih =>
    exact (tellB_seq (by omega) fun d hd => by
      obtain ⟨i, x, e1, e2⟩ := pair_at h2 hd
      exact ih i x d e1 e2).1
  | tup _ h2 h3 _ ih =>
    exact (tellB_seq (by omega) fun d hd => by
      obtain ⟨i, x, e1, e2⟩ := pair_at h2 hd
      exact ih i x d e1 e2).2
section
variable {X : Cx} {pins : List (Addr × Obj)} {σ : L2.St} {H : Hp} {s : Shared}
theorem reads_each {h : Heap} {xs : List V} : ∀ {us : List Value} {ds : List PyData}, Vals xs us → xs.length = ds.length → (∀ (i : Nat) x d, xs[i]? = some x → ds[i]? = some d → ∀ u, RelV x u → ∃ as, Reads h u d as ∧ sysModules ∉ as) → ∃ as, ReadsAll h us ds as ∧ sysModules ∉ as := by
  induction xs with
  | nil =>
    intro us ds r hl _
    cases r
    match ds, hl with
    | [], _ => exact ⟨[], .nil, fun z => by cases z⟩
  | cons x xs ih =>
    intro us ds r hl h
    cases r with
    | cons r1 r2 =>
      match ds, hl with
      | d :: ds, hl =>
        obtain ⟨as, q1, n1⟩ := h 0 x d rfl rfl _ r1
        obtain ⟨bs, q2, n2⟩ := ih r2 (by simpa using hl) fun i y e e1 e2 => h (i + 1) y e e1 e2
        exact ⟨as ++ bs, .cons q1 q2, fun z => (List.mem_append.mp z).elim n1 n2⟩
theorem Th.reads {b : Nat} (I : Inv X pins σ H s) (sm : H sysModules = none) : ∀ {n : Nat} {x : V} {d : PyData}, Th b H n x d → ∀ u, RelV x u → ∃ as, Reads s.heap u d as ∧ sysModules ∉ as := by
  intro n x d h
  induction h with
  | leaf n h =>
    intro u r
    cases h with
    | int i _ _ =>
      obtain ⟨t, rfl⟩ := r
      exact ⟨[], .int i t, fun z => by cases z⟩
    | bl b =>
      cases r
      exact ⟨[], .bool b, fun z => by cases z⟩
    | str w _ =>
      obtain ⟨t, rfl⟩ := r
      exact ⟨[], .str w t, fun z => by cases z⟩
  | non n =>
    intro u r
    cases r
    exact ⟨[], .none, fun z => by cases z⟩
  | @emp n a h =>
    intro u r
    cases r
    obtain ⟨_, hm, vs, kv, o, es, ep, e1, e2, e3, _, e5, _⟩ := dk_of I.hok h
    cases kv
    have en : es.toList = [] := by
      generalize es.toList = es at e5
      cases e5
      rfl
    refine ⟨a :: [] ++ [], .dict e1 e2.1 e3 (by rw [en]; exact .nil) (by rw [en]; exact .nil), fun z => ?_⟩
    rcases List.mem_cons.mp z with z | z
    · rw [← z] at hm
      cases hm
    · cases z
  | @one n a h =>
    intro u r
    cases r
    obtain ⟨_, hm, vs, kv, o, es, ep, e1, e2, e3, _, e5, _⟩ := dk_of I.hok h
    have one1 : ∀ vs : List (Key × Value), KV [((Sum.inr "begin" : Key), V.int 1)] vs → ∃ t : Tok, vs = [((Sum.inr "begin" : Key), Value.int 1 t)] := fun vs kv => by
      match vs, kv with
      | (k1, v1) :: vs, .cons r1 r2 =>
        cases r2
        obtain ⟨z1, t, z2⟩ := r1
        have z1 : (Sum.inr "begin" : Key) = k1 := z1
        have z2 : v1 = .int 1 t := z2
        exact ⟨t, by rw [← z1, z2]⟩
    obtain ⟨t2, rfl⟩ := one1 vs kv
    · skip
      have key : ∃ (hash : Int) (t : Tok) (r : Option Addr), ReadsAll s.heap (es.toList.map (·.key)) [.str "begin"] [] ∧ ReadsAll s.heap (es.toList.map (·.val)) [.int 1] [] := by
        generalize es.toList = es at e5
        cases e5 with
        | cons y1 y2 y3 =>
          cases y3
          rename_i en
          have y1 : keyIs (Sum.inr "begin") en.key = true := y1
          rcases keyIs_shape y1 with ⟨_, _, z, _⟩ | ⟨x, t, z, z2⟩
          · cases z
          · cases z
            refine ⟨0, t, none, ?_, ?_⟩
            · show ReadsAll _ [en.key] _ _
              rw [z2]
              exact ReadsAll.cons (as := []) (bs := []) (.str _ _) .nil
            · show ReadsAll _ [en.val] _ _
              rw [y2]
              exact ReadsAll.cons (as := []) (bs := []) (.int _ _) .nil
      obtain ⟨_, _, _, q1, q2⟩ := key
      refine ⟨a :: [] ++ [], .dict e1 e2.1 e3 q1 q2, fun z => ?_⟩
      rcases List.mem_cons.mp z with z | z
      · rw [← z] at hm
        cases hm
      · cases z
  | @lst n a xs ds h1 h2 h3 _ ih =>
    intro u r
    cases r
    obtain ⟨_, its, m, rv, e⟩ := (show ObjOk X.prog X.w H s.heap a (.lst xs) from I.hok a _ h1)
    obtain ⟨as, q, n1⟩ := reads_each (h := s.heap) rv h2 ih
    refine ⟨a :: as, .list e rfl rfl (by simpa using q), fun z => ?_⟩
    rcases List.mem_cons.mp z with z | z
    · rw [← z, sm] at h1
      cases h1
    · exact n1 z
  | @tup n a xs ds h1 h2 h3 _ ih =>
    intro u r
    cases r
    obtain ⟨_, its, rv, o, e1, e2, m, e3⟩ := (show ObjOk X.prog X.w H s.heap a (.tup xs) from I.hok a _ h1)
    obtain ⟨as, q, n1⟩ := reads_each (h := s.heap) rv h2 ih
    exact ⟨as, .tuple e1 e2 e3 (by simpa using q), n1⟩
end
end Lk

/-! The program's look at scripts, of anything that is handed in. -/
namespace Lk
open PySem PySem.Spec PyProof.Rows L2 Drw Err
def mayD (d : PyData) (o r : Bool) : Bool := match d with
  | .str w => mayB w o r
  | _ => false
def okD : List PyData → Bool → Bool → Bool
  | [], _, _ => true
  | .str w :: ds, o, r => mayB w o r && okD ds (opnB w o) (rdsB w r)
  | _ :: _, _, _ => false
def isSeq : PyData → Bool
  | .list _ => true
  | .tuple _ => true
  | _ => false
/-- whether it is a script -/
def isScr : PyData → Bool
  | .list ds => decide (ds.length ≤ 8) && okD ds false false
  | .tuple ds => decide (ds.length ≤ 8) && okD ds false false
  | _ => false
/-- whether these are scripts -/
def areScr : PyData → Bool
  | .list ds => (decide (1 ≤ ds.length) && decide (ds.length ≤ 4)) && ds.all isScr
  | .tuple ds => (decide (1 ≤ ds.length) && decide (ds.length ≤ 4)) && ds.all isScr
  | _ => false
theorem any_isS {w : Str} {ws : List Str} : (ws.any (EqD.isS (.str w))) = inW w ws := by
  rw [Bool.eq_iff_iff, inW_mem, List.any_eq_true]
  constructor
  · rintro ⟨v, hv, e⟩
    have e : decide (w = v) = true := e
    rw [of_decide_eq_true e]
    exact hv
  · intro h
    exact ⟨w, h, decide_eq_true rfl⟩
theorem any_no {x : V} (h : ∀ w, x ≠ .str w) {ws : List Str} : (ws.any (EqD.isS x)) = false := by
  rw [List.any_eq_false]
  intro w _
  cases x with
  | str v => exact absurd rfl (h v)
  | _ => exact Bool.false_ne_true
theorem isS_no {x : V} (h : ∀ w, x ≠ .str w) (w : Str) : EqD.isS x w = false := by
  cases x with
  | str v => exact absurd rfl (h v)
  | _ => rfl
theorem Th.isStr {b : Nat} {H : Hp} {n : Nat} {x : V} {d : PyData} (h : Th b H n x d) : (∃ w, d = .str w ∧ x = .str w) ∨ ((∀ w, d ≠ .str w) ∧ ∀ w, x ≠ .str w) := by
  cases h with
  | leaf n h =>
    cases h with
    | str w _ => exact .inl ⟨w, rfl, rfl⟩
    | int i _ _ => exact .inr ⟨fun w z => (by cases z), fun w z => (by cases z)⟩
    | bl c => exact .inr ⟨fun w z => (by cases z), fun w z => (by cases z)⟩
  | non n => exact .inr ⟨fun w z => (by cases z), fun w z => (by cases z)⟩
  | emp n h => exact .inr ⟨fun w z => (by cases z), fun w z => (by cases z)⟩
  | one n h => exact .inr ⟨fun w z => (by cases z), fun w z => (by cases z)⟩
  | lst _ _ _ _ => exact .inr ⟨fun w z => (by cases z), fun w z => (by cases z)⟩
  | tup _ _ _ _ => exact .inr ⟨fun w z => (by cases z), fun w z => (by cases z)⟩
theorem kit_seq {K : PySem.W.Frag} (d : PyData) : PySem.W.kitAny K (.type (kindS d)) [.type "list", .type "tuple"] = some (isSeq d) := by
  cases d with
  | list ds => exact lt2 (.inl rfl)
  | tuple ds => exact lt2 (.inr rfl)
  | none => exact no1 (kit_ty (show kitB "NoneType" "list" = some false by decide +kernel)) (no1 (kit_ty (show kitB "NoneType" "tuple" = some false by decide +kernel)) kitAny_nil)
  | bool b => exact no1 (kit_ty (show kitB "bool" "list" = some false by decide +kernel)) (no1 (kit_ty (show kitB "bool" "tuple" = some false by decide +kernel)) kitAny_nil)
  | int i => exact no1 (kit_ty (show kitB "int" "list" = some false by decide +kernel)) (no1 (kit_ty (show kitB "int" "tuple" = some false by decide +kernel)) kitAny_nil)
  | str s => exact no1 (kit_ty (show kitB "str" "list" = some false by decide +kernel)) (no1 (kit_ty (show kitB "str" "tuple" = some false by decide +kernel)) kitAny_nil)
  | dict ks => exact no1 (kit_ty (show kitB "dict" "list" = some false by decide +kernel)) (no1 (kit_ty (show kitB "dict" "tuple" = some false by decide +kernel)) kitAny_nil)
theorem isSeq_of {d : PyData} {ds : List PyData} (h : d = .list ds ∨ d = .tuple ds) : isSeq d = true := by
  rcases h with rfl | rfl <;> rfl
theorem isSeq_no {d : PyData} (h1 : ∀ ds, d ≠ .list ds) (h2 : ∀ ds, d ≠ .tuple ds) : isSeq d = false := by
  cases d with
  | list ds => exact absurd rfl (h1 ds)
  | tuple ds => exact absurd rfl (h2 ds)
  | _ => rfl
def spMayX : Sp := fun vs H Q _ => ∃ (b n : Nat) (x : V) (d : PyData) (o r : Bool), vs = [x, .bl o, .bl r] ∧ Th b H n x d ∧ ∀ H', Al H H' → Q (.bl (mayD d o r)) H'
section
variable {P : Program} {w : World} {K : PySem.W.Frag} {mg : Str → Option Value} {base : Heap} {t0 t1 t2 t3 t4 : Nat}
theorem ok_mayX {f aO aE aA : Addr} {fd : FuncData} (F : Fun K "_may_stand" "_may_stand" sMay f fd) (gO : mg "OPENING" = some (.ref aO)) (lO : ∀ H, SqT K H aO (opening.map V.str)) (gE : mg "ENDING" = some (.ref aE)) (lE : ∀ H, SqT K H aE (ending.map V.str))
    (gA : mg "ANYWHERE" = some (.ref aA)) (lA : ∀ H, SqT K H aA (anywhere.map V.str)) : FnOk P w K mg base CX0 1 f fd ["step", "opened", "reads"] spMayX := by
  refine F.ok scMay (fun vs H Q E h => ?_) (fun cdv A outer s H vs Q E hr h => ?_)
  · obtain ⟨b, n, x, d, o, r, rfl, _⟩ := h
    rfl
  · obtain ⟨b, n, x, d, o, r, rfl, th, q⟩ := h
    have hu := hu_of hr
    refine ⟨_, pss_cons (ps_if (pt_cmpR (EqD.op_in_W hu) (pv 0) (pe_glob (v := .ref aO) (by rfl) gO rfl) rfl) (pss_one (ps_ret (pe_not (pv 1)))) pss_nil)
      (pss_cons (ps_if (pt_cmpR (EqD.op_in_W hu) (pv 0) (pe_glob (v := .ref aE) (by rfl) gE rfl) rfl) (pss_one (ps_ret (pv 1))) pss_nil)
      (pss_cons (ps_if (pt_cmpR (EqD.op_eq_W hu) (pv 0) pe_str (nomark _)) (pss_one (ps_ret (pe_not (pv 2)))) pss_nil)
      (pss_one (ps_ret (pe_ifExp (pt_cmpR (EqD.op_eq_W hu) (pv 0) pe_str (nomark _)) (pv 2) (pe_cmpR (EqD.op_in_W hu) (pv 0) (pe_glob (v := .ref aA) (by rfl) gA rfl) rfl)))))), ?_⟩
    have z : Q (.bl (mayD d o r)) H := q H Al.refl
    rcases th.isStr with ⟨v, rfl, rfl⟩ | ⟨n1, n2⟩
    · have z : Q (.bl (mayB v o r)) H := z
      unfold mayB at z
      refine ⟨.str v, rfl, aO, opening, rfl, lO H, th.any, _, rfl, ite2 (fun e => ?_) (fun e => ?_)⟩
      · rw [if_pos (any_isS.symm.trans e)] at z
        exact ⟨.bl o, rfl, o, rfl, z⟩
      · rw [if_neg fun y => e (any_isS.trans y)] at z
        refine ⟨.str v, rfl, aE, ending, rfl, lE H, th.any, _, rfl, ite2 (fun e2 => ?_) (fun e2 => ?_)⟩
        · rw [if_pos (any_isS.symm.trans e2)] at z
          exact ⟨.bl o, rfl, z⟩
        · rw [if_neg fun y => e2 (any_isS.trans y)] at z
          refine ⟨.str v, rfl, _, rfl, th.any, _, rfl, ite2 (fun e3 => ?_) (fun e3 => ?_)⟩
          · rw [if_pos (show decide (v = "start") = true from e3)] at z
            exact ⟨.bl r, rfl, r, rfl, z⟩
          · rw [if_neg (show ¬ decide (v = "start") = true from e3)] at z
            refine ⟨.str v, rfl, _, rfl, th.any, _, rfl, ite2 (fun e4 => ?_) (fun e4 => ?_)⟩
            · rw [if_pos (show decide (v = "stop") = true from e4)] at z
              exact ⟨.bl r, rfl, z⟩
            · rw [if_neg (show ¬ decide (v = "stop") = true from e4), ← any_isS] at z
              exact ⟨.str v, rfl, aA, anywhere, rfl, lA H, th.any, z⟩
    · have z : Q (.bl false) H := by
        have y : mayD d o r = false := by
          cases d with
          | str v => exact absurd rfl (n1 v)
          | _ => rfl
        rwa [y] at z
      refine ⟨x, rfl, aO, opening, rfl, lO H, th.any, _, rfl, ?_⟩
      rw [any_no n2]
      refine iteF ⟨x, rfl, aE, ending, rfl, lE H, th.any, _, rfl, ?_⟩
      rw [any_no n2]
      refine iteF ⟨x, rfl, _, rfl, th.any, _, rfl, ?_⟩
      rw [isS_no n2]
      refine iteF ⟨x, rfl, _, rfl, th.any, _, rfl, ?_⟩
      rw [isS_no n2]
      refine iteF ⟨x, rfl, aA, anywhere, rfl, lA H, th.any, ?_⟩
      rw [any_no n2]
      exact z
end
end Lk

namespace Lk
open PySem PySem.Spec PyProof.Rows L2 Drw Err
/-- it raises -/
def Rs (CP : Addr) (H : Hp) (E : XK) : Prop := ∀ H' dd, Al H H' → H' dd = some (.xd [(fld, .non)]) → E (.ref CP) (some dd) H'
theorem Rs.up {CP : Addr} {H H' : Hp} {E : XK} (h : Rs CP H E) (k : Al H H') : Rs CP H' E := fun H2 dd k2 e => h H2 dd (k.trans k2) e
theorem Rs.now {CP : Addr} {H : Hp} {E : XK} (h : Rs CP H E) : ∀ d, H d = none → E (.ref CP) (some d) (upd H d (.xd [(fld, .non)])) := fun d nd => h _ d (Al.refl.new nd) upd_same
def spOneX (CP : Addr) : Sp := fun vs H Q E => ∃ (b n : Nat) (x : V) (d : PyData), vs = [x] ∧ Th b H n x d ∧ (isScr d = true → ∀ H' t, Al H H' → Q (.ref t) H') ∧ (isScr d = false → Rs CP H E)
def spChkX (CP : Addr) : Sp := fun vs H Q E => ∃ (b n : Nat) (x : V) (d : PyData), b ≤ 1000 ∧ vs = [x] ∧ Th b H n x d ∧ areScr d = false ∧ Rs CP H E
theorem okD_drop {ds : List PyData} {i : Nat} {o r : Bool} (hi : i < ds.length) : okD (ds.drop i) o r = (mayD ds[i] o r && match ds[i] with
    | .str w => okD (ds.drop (i + 1)) (opnB w o) (rdsB w r)
    | _ => false) := by
  rw [List.drop_eq_getElem_cons hi]
  cases ds[i] <;> rfl
section
variable {P : Program} {w : World} {K : PySem.W.Frag} {mg : Str → Option Value} {base : Heap} {t0 t1 t2 t3 t4 : Nat} {CP : Addr}
theorem ok_oneX {f fM fO fR : Addr} {fd dM dO dR : FuncData} (F : Fun K "_checked_script" "_checked_script" sCheckedOne f fd) (T : EC P w K mg "ProgrammingError" CP) (M : Can P w K mg base CX0 1 "_may_stand" ["step", "opened", "reads"] spMayX fM dM)
    (O : Can P w K mg base CX0 1 "is_open_behind" ["step", "opened"] (spWB opnB) fO dO) (R : Can P w K mg base CX0 1 "is_reading_behind" ["step", "reads"] (spWB rdsB) fR dR) (c8 : mg "MOST_STEPS" = some (.int 8 t0))
    (mi : mg "isinstance" = none) (ml : mg "len" = none) (m_list : mg "list" = none) (m_tuple : mg "tuple" = none) : FnOk P w K mg base (L2.CX P w) 2 f fd ["script"] (spOneX CP) := by
  refine F.okX scCheckedOne (fun vs H Q E h => ?_) (fun cdv A outer s H vs Q E hr h => ?_)
  · obtain ⟨b, n, x, d, rfl, _⟩ := h
    rfl
  · obtain ⟨b, n, x, d, rfl, th, good, bad⟩ := h
    refine ⟨_, pss_cons (ps_if (PW.pt (pw_or (pt_not (pt_val (pe_callB call_isiT (by rfl) mi boot_isinstance (pa_cons (pv 0) (pa_cons (pe_tup (pa_cons (pe_bltn (v := .ty "list") (by rfl) m_list (by decide +kernel) rfl) (pa_cons (pe_bltn (v := .ty "tuple") (by rfl) m_tuple (by decide +kernel) rfl) pa_nil))) pa_nil)))))
          (pw_or1 (pt_cmpR op_gt (pe_callB call_len_seq (by rfl) ml PySem.boot_len (pa_cons (pv 0) pa_nil)) (pe_glob (v := .int 8) (by rfl) c8 ⟨t0, rfl⟩) (nomark _))))) (pss_one (ps_raise rfl (takes_of rfl rfl rfl rfl) (pmk_err0 T hr (by rfl)))) pss_nil)
      (pss_cons (ps_set (i := 1) scCheckedOne.nd rfl (.inl rfl) pe_bl)
      (pss_cons (ps_set (i := 2) scCheckedOne.nd rfl (.inl rfl) pe_bl)
      (pss_cons (ps_for (passes_of rfl) rfl (pi_two (pi_list (pv 0)) (pi_tup (pv 0))) (pg_name (i := 3) scCheckedOne.nd rfl (Or.inl rfl))
        (pss_cons (ps_if (pt_not (pt_val (pe_call M.G hr (by rfl) M.g M.kp M.b .nil pass0 (pa_cons (pv 3) (pa_cons (pv 1) (pa_cons (pv 2) pa_nil)))))) (pss_one (ps_raise rfl (takes_of rfl rfl rfl rfl) (pmk_err0 T hr (by rfl)))) pss_nil)
        (pss_cons (ps_set (i := 1) scCheckedOne.nd rfl (.inl rfl) (pe_call O.G hr (by rfl) O.g O.kp O.b .nil pass0 (pa_cons (pv 3) (pa_cons (pv 1) pa_nil))))
        (pss_one (ps_set (i := 2) scCheckedOne.nd rfl (.inl rfl) (pe_call R.G hr (by rfl) R.g R.kp R.b .nil pass0 (pa_cons (pv 3) (pa_cons (pv 2) pa_nil))))))))
      (pss_one (ps_ret (pe_callTy call_tuple_of (by rfl) m_tuple (by decide +kernel) (pa_cons (pv 0) pa_nil))))))), ?_⟩
    refine ⟨x, rfl, by show 2 ≤ sizeLine; decide, fun tp ntp => ?_⟩
    have k1 := (Al.refl (H := H)).new (o := .tup [.ty "list", .ty "tuple"]) ntp
    have th1 := th.al k1
    refine ⟨x, tp, _, .type (kindS d), _, isSeq d, rfl, upd_same, .cons (.ty _) (.cons (.ty _) .nil), th1.kind.ty, kit_seq d, isSeq d, rfl, ?_⟩
    rcases th1.split with ⟨n1, n2, _⟩ | ⟨m, a, xs, ds, rfl, rfl, ga, hd, hL, hT, hl, hb, hx⟩
    · rw [isSeq_no n1 n2]
      refine iteT ?_
      refine iteT ⟨.non, .inr ⟨rfl, rfl⟩, ((bad ?_).up k1).now⟩
      cases d with
      | list ds => exact absurd rfl (n1 ds)
      | tuple ds => exact absurd rfl (n2 ds)
      | _ => rfl
    · rw [isSeq_of hd]
      refine iteF ?_
      have is : isScr d = (decide (ds.length ≤ 8) && okD ds false false) := by rcases hd with rfl | rfl <;> rfl
      generalize eH1 : upd H tp (.tup [.ty "list", .ty "tuple"]) = H1 at k1 th1 ga hL hT hx
      have sq1 : Sq K H1 a xs := ga.imp (fun z => sq z) fun z => sqt z
      refine ⟨.ref a, rfl, a, xs, rfl, sq1, _, _, rfl, rfl, _, rfl, ite2 (fun e => ?_) (fun e => ?_)⟩
      · have e := of_decide_eq_true e
        refine ⟨.non, .inr ⟨rfl, rfl⟩, ((bad ?_).up k1).now⟩
        rw [is, decide_eq_false (by omega)]
        rfl
      · have e8 : ds.length ≤ 8 := by
          have z : ¬ ((xs.length : Int) > 8) := fun y => e (decide_eq_true y)
          omega
        rw [decide_eq_true e8, Bool.true_and] at is
        have start : ∃ (o r : Bool) (y : Option V), [some (.ref a), some (.bl false), some (.bl false), none] = [some (.ref a), some (.bl o), some (.bl r), y] ∧ isScr d = okD (ds.drop 0) o r ∧ Al H1 H1 := ⟨false, false, none, rfl, is, Al.refl⟩
        refine sq1.elim (fun hL => .inl ⟨.ref a, rfl, a, rfl, ⟨_, hL⟩, for_list (xs := xs) (fun i σ H2 => ∃ (o r : Bool) (y : Option V), σ = [some (.ref a), some (.bl o), some (.bl r), y] ∧ isScr d = okD (ds.drop i) o r ∧ Al H1 H2) start (fun i σ H2 _ ⟨_, _, _, _, _, k⟩ => sqL_al hL k) ?turn ?after⟩)
          (fun hT => .inr ⟨.ref a, rfl, a, rfl, ⟨_, hT⟩, for_tup (xs := xs) (fun i σ H2 => ∃ (o r : Bool) (y : Option V), σ = [some (.ref a), some (.bl o), some (.bl r), y] ∧ isScr d = okD (ds.drop i) o r ∧ Al H1 H2) start (fun i σ H2 _ ⟨_, _, _, _, _, k⟩ => sqT_al hT k) ?turn2 ?after2⟩)
        case turn | turn2 =>
          rintro i z σ H2 hz ⟨o, r, y, rfl, okd, k2⟩
          have hi : i < ds.length := by
            have y := (List.getElem?_eq_some_iff.mp hz).1
            omega
          have hdi : ds[i]? = some ds[i] := List.getElem?_eq_getElem hi
          have thz := (hx i z _ hz hdi).al k2
          rw [okD_drop hi] at okd
          refine ⟨z, rfl, .bl o, rfl, .bl r, rfl, b, _, z, ds[i], o, r, rfl, thz, fun H3 k3 => ⟨mayD ds[i] o r, rfl, ite2 (fun e => ?_) (fun e => ?_)⟩⟩
          · refine ⟨.non, .inr ⟨rfl, rfl⟩, ((bad ?_).up ((k1.trans k2).trans k3)).now⟩
            have e : mayD ds[i] o r = false := by
              cases q : mayD ds[i] o r with
              | false => rfl
              | true =>
                rw [q] at e
                cases e
            rw [okd, e, Bool.false_and]
          · have e : mayD ds[i] o r = true := by
              cases q : mayD ds[i] o r with
              | true => rfl
              | false =>
                rw [q] at e
                exact absurd rfl e
            rw [e, Bool.true_and] at okd
            rcases thz.isStr with ⟨v, ev, rfl⟩ | ⟨n1, _⟩
            · rw [ev] at okd
              exact ⟨.str v, rfl, .bl o, rfl, v, o, rfl, fun H4 k4 => ⟨.str v, rfl, .bl r, rfl, v, r, rfl, fun H5 k5 => ⟨_, _, _, rfl, okd, ((k2.trans k3).trans k4).trans k5⟩⟩⟩
            · exfalso
              generalize ds[i] = di at e n1
              cases di with
              | str v => exact n1 v rfl
              | _ => cases e
        case after | after2 =>
          rintro σ H2 ⟨o, r, y, rfl, okd, k2⟩
          rw [hl, List.drop_length] at okd
          have q := good okd
          refine ⟨.ref a, rfl, a, xs, rfl, ?_⟩
          first
            | exact .inl ⟨sqL_al hL k2, fun l nl => q _ l ((k1.trans k2).new nl)⟩
            | exact .inr ⟨sqT_al hT k2, q _ a (k1.trans k2)⟩
end
end Lk

namespace Lk
open PySem PySem.Spec PyProof.Rows L2 Drw Err
section
variable {P : Program} {w : World} {K : PySem.W.Frag} {mg : Str → Option Value} {base : Heap} {t0 t1 t2 t3 t4 : Nat} {CP : Addr}
theorem ok_chkX {f fC : Addr} {fd dC : FuncData} (F : Fun K "checked_scripts" "checked_scripts" sChecked f fd) (T : EC P w K mg "ProgrammingError" CP) (C : Can P w K mg base (L2.CX P w) 2 "_checked_script" ["script"] (spOneX CP) fC dC) (c4 : mg "MOST_SCRIPTS" = some (.int 4 t0))
    (mi : mg "isinstance" = none) (ml : mg "len" = none) (m_list : mg "list" = none) (m_tuple : mg "tuple" = none) : FnOk P w K mg base (L2.CX P w) 3 f fd ["scripts"] (spChkX CP) := by
  refine F.okX scChecked (fun vs H Q E h => ?_) (fun cdv A outer s H vs Q E hr h => ?_)
  · obtain ⟨b, n, x, d, _, rfl, _⟩ := h
    rfl
  · obtain ⟨b, n, x, d, b1000, rfl, th, no, rs⟩ := h
    refine ⟨_, pss_cons (ps_if (PW.pt (pw_or (pt_not (pt_val (pe_callB call_isiT (by rfl) mi boot_isinstance (pa_cons (pv 0) (pa_cons (pe_tup (pa_cons (pe_bltn (v := .ty "list") (by rfl) m_list (by decide +kernel) rfl) (pa_cons (pe_bltn (v := .ty "tuple") (by rfl) m_tuple (by decide +kernel) rfl) pa_nil))) pa_nil)))))
          (pw_or1 (pt_not (pt_chain op_le op_le pe_int (pe_callB call_len_seq (by rfl) ml PySem.boot_len (pa_cons (pv 0) pa_nil)) (pe_glob (v := .int 4) (by rfl) c4 ⟨t0, rfl⟩)))))) (pss_one (ps_raise rfl (takes_of rfl rfl rfl rfl) (pmk_err0 T hr (by rfl)))) pss_nil)
      (pss_one (ps_ret (CompX.pe_lcX (own := [("script", 1)]) (g := gName 1) rfl rfl (takes_of rfl rfl rfl rfl) rfl scChecked.nd (pi_two (pi_list (pv 0)) (pi_tup (pv 0)))
        (blkOk_by (N := ["scripts", "script"]) (sc := defScope sChecked) (by decide +kernel)) (by decide +kernel) (fun _ _ _ _ _ _ => pg_name (i := 1) scChecked.nd rfl (Or.inl rfl))
        (fun _ _ _ _ _ _ ps => pe_call C.G hr (by rfl) C.g C.kp C.b .nil ps (pa_cons (pv 1) pa_nil))))), ?_⟩
    refine ⟨x, rfl, by show 2 ≤ sizeLine; decide, fun tp ntp => ?_⟩
    have k1 := (Al.refl (H := H)).new (o := .tup [.ty "list", .ty "tuple"]) ntp
    have th1 := th.al k1
    refine ⟨x, tp, _, .type (kindS d), _, isSeq d, rfl, upd_same, .cons (.ty _) (.cons (.ty _) .nil), th1.kind.ty, kit_seq d, isSeq d, rfl, ?_⟩
    rcases th1.split with ⟨n1, n2, _⟩ | ⟨m, a, xs, ds, rfl, rfl, ga, hd, hL, hT, hl, hb, hx⟩
    · rw [isSeq_no n1 n2]
      refine iteT ?_
      exact iteT ⟨.non, .inr ⟨rfl, rfl⟩, (rs.up k1).now⟩
    · rw [isSeq_of hd]
      refine iteF ?_
      have is : areScr d = ((decide (1 ≤ ds.length) && decide (ds.length ≤ 4)) && ds.all isScr) := by rcases hd with rfl | rfl <;> rfl
      rw [is] at no
      generalize eH1 : upd H tp (.tup [.ty "list", .ty "tuple"]) = H1 at k1 th1 ga hL hT hx
      have rs1 := rs.up k1
      have sq1 : Sq K H1 a xs := ga.imp (fun z => sq z) fun z => sqt z
      have raised : ∀ d, H1 d = none → E (.ref CP) (some d) (upd H1 d (.xd [(fld, .non)])) := rs1.now
      refine ⟨.ref a, rfl, a, xs, rfl, sq1, _, _, rfl, rfl, _, rfl, ?_⟩
      by_cases h1 : 1 ≤ xs.length
      case neg =>
        rw [decide_eq_false (by omega)]
        refine iteF ?_
        exact ⟨false, rfl, iteT ⟨.non, .inr ⟨rfl, rfl⟩, raised⟩⟩
      rw [decide_eq_true (by omega)]
      refine iteT ⟨_, _, rfl, rfl, _, rfl, ?_⟩
      by_cases h4 : xs.length ≤ 4
      case neg =>
        rw [decide_eq_false (by omega)]
        exact iteT ⟨.non, .inr ⟨rfl, rfl⟩, raised⟩
      rw [decide_eq_true (by omega)]
      refine iteF ?_
      rw [decide_eq_true (by omega), decide_eq_true (by omega), Bool.and_true, Bool.true_and] at no
      have nogood : ¬ ∀ j, (hj : j < ds.length) → isScr ds[j] = true := fun all => by
        have z : ds.all isScr = true := List.all_eq_true.mpr fun d hd => by
          obtain ⟨j, hj, rfl⟩ := List.mem_iff_getElem.mp hd
          exact all j hj
        rw [z] at no
        cases no
      have start : ∀ D, H1 D = none → Al H1 (upd H1 D (.lst [])) ∧ (∃ ys : List V, upd H1 D (.lst []) D = some (.lst ys) ∧ ys.length = 0) ∧ ∀ j, (hj : j < ds.length) → j < 0 → isScr ds[j] = true := fun D nD => ⟨Al.refl.new nD, ⟨[], upd_same, rfl⟩, fun j _ h => by omega⟩
      refine sq1.elim (fun hL => .inl ⟨.ref a, rfl, a, rfl, ⟨_, hL⟩, fun D nD => lc_list (xs := xs) (fun i H2 => Al H1 H2 ∧ (∃ ys : List V, H2 D = some (.lst ys) ∧ ys.length = i) ∧ ∀ j, (hj : j < ds.length) → j < i → isScr ds[j] = true) (start D nD) (fun i H2 _ ⟨k, _⟩ => sqL_al hL k) ?turn ?after⟩)
        (fun hT => .inr ⟨.ref a, rfl, a, rfl, ⟨_, hT⟩, fun D nD => lc_tup (xs := xs) (fun i H2 => Al H1 H2 ∧ (∃ ys : List V, H2 D = some (.lst ys) ∧ ys.length = i) ∧ ∀ j, (hj : j < ds.length) → j < i → isScr ds[j] = true) (start D nD) (fun i H2 _ ⟨k, _⟩ => sqT_al hT k) ?turn2 ?after2⟩)
      case turn | turn2 =>
        rintro i z H2 hz ⟨k2, ⟨ys, y1, y2⟩, y3⟩
        have hi : i < ds.length := by
          have y := (List.getElem?_eq_some_iff.mp hz).1
          omega
        have thz := (hx i z _ hz (List.getElem?_eq_getElem hi)).al k2
        refine ⟨rfl, z, rfl, b, _, z, ds[i], rfl, thz, fun g H3 t k3 => ?_, fun _ => rs1.up k2⟩
        have yD := k3 _ _ y1
        refine ⟨ys, yD, by rw [y2]; exact small1000 (by omega), fun b' o z => ?_, ⟨ys ++ [.ref t], upd_same, by simp [y2]⟩, fun j hj lt => ?_⟩
        · have z1 := k3 _ _ (k2 _ _ z)
          rwa [upd_ne (ne_of_none z nD)]
        · rcases Nat.lt_or_ge j i with h | h
          · exact y3 j hj h
          · obtain rfl : j = i := by omega
            exact g
      case after | after2 =>
        rintro H2 ⟨k2, _, y3⟩
        exact absurd (fun j hj => y3 j hj (by omega)) nogood
end
end Lk

/-! What is no scripts is refused by each of the nine. -/
namespace Lk
open PySem PySem.Spec PyProof.Rows L2 Drw Err
/-- the same, other arguments behind it -/
def spBad (k : Nat) (CP : Addr) : Sp := fun vs H Q E => ∃ (b n : Nat) (x : V) (d : PyData) (r : List V), b ≤ 1000 ∧ r.length = k ∧ vs = x :: r ∧ Th b H n x d ∧ areScr d = false ∧ Rs CP H E
def spNo : Sp := fun _ _ _ _ => False
theorem ok_no {P : Program} {w : World} {K : PySem.W.Frag} {mg : Str → Option Value} {base : Heap} {CX : CXT} {k : Nat} {f : Addr} {fd : FuncData} {ps : List Str} : FnOk P w K mg base CX k f fd ps spNo := ⟨fun _ _ _ _ h => h.elim, fun _ _ _ _ _ _ _ _ _ _ _ _ _ h => h.elim⟩
theorem pss_no {X : Cx} {st : List Stmt} : PSs X st fun _ _ _ => False := ⟨fun _ _ _ _ _ _ h => h.elim⟩
theorem scRefusal : FnScope ["scripts"] ["scripts"] (defScope sRefusal) := ⟨rfl, rfl, rfl, by decide +kernel, rfl, by decide +kernel, by decide +kernel⟩
theorem scStuck : FnScope ["scripts"] ["scripts"] (defScope sStuck) := ⟨rfl, rfl, rfl, by decide +kernel, rfl, by decide +kernel, by decide +kernel⟩
theorem scCalmed : FnScope ["scripts", "checked"] ["scripts"] (defScope sCalmed) := ⟨rfl, rfl, rfl, by decide +kernel, rfl, by decide +kernel, by decide +kernel⟩
theorem scIsOrder : FnScope ["scripts", "order", "checked"] ["scripts", "order"] (defScope sIsOrder) := ⟨rfl, rfl, rfl, by decide +kernel, rfl, by decide +kernel, by decide +kernel⟩
theorem scIsStuck : FnScope ["scripts", "order", "checked"] ["scripts", "order"] (defScope sIsStuck) := ⟨rfl, rfl, rfl, by decide +kernel, rfl, by decide +kernel, by decide +kernel⟩
theorem scIsNever : FnScope ["scripts", "states"] ["scripts", "states"] (defScope sIsNever) := ⟨rfl, rfl, rfl, by decide +kernel, rfl, by decide +kernel, by decide +kernel⟩
theorem scIsFree : FnScope ["scripts", "states"] ["scripts", "states"] (defScope sIsFree) := ⟨rfl, rfl, rfl, by decide +kernel, rfl, by decide +kernel, by decide +kernel⟩
theorem scNextBad : FnScope ["scripts", "state", "at", "checked"] ["scripts", "state", "at"] (defScope sNextState) := ⟨rfl, rfl, rfl, by decide +kernel, rfl, by decide +kernel, by decide +kernel⟩
section
variable {P : Program} {w : World} {K : PySem.W.Frag} {mg : Str → Option Value} {base : Heap} {CP : Addr}
abbrev CChk (P : Program) (w : World) (K : PySem.W.Frag) (mg : Str → Option Value) (base : Heap) (CP : Addr) (f : Addr) (fd : FuncData) : Prop := Can P w K mg base (L2.CX P w) 3 "checked_scripts" ["scripts"] (spChkX CP) f fd
/-- return f(checked_scripts(scripts)) -/
theorem bad_first {f fC fN : Addr} {fd dC dN : FuncData} (F : Fun K "first_state" "first_state" sFirstState f fd) (C : CChk P w K mg base CP fC dC) (N : Can P w K mg base CX0 1 "_first" ["scripts"] spNo fN dN) : FnOk P w K mg base (L2.CX P w) 4 f fd ["scripts"] (spBad 0 CP) := by
  refine F.okX scFirstState (fun vs H Q E h => ?_) (fun cdv A outer s H vs Q E hr h => ?_)
  · obtain ⟨b, n, x, d, r, _, h0, rfl, _⟩ := h
    rw [List.length_cons, h0]
    rfl
  · obtain ⟨b, n, x, d, r, b1, h0, rfl, th, no, rs⟩ := h
    obtain rfl : r = [] := List.length_eq_zero_iff.mp h0
    exact ⟨_, pss_one (ps_ret (pe_call N.G (hr.mono (by decide)) (by rfl) N.g N.kp N.b .nil pass0 (pa_cons (pe_call C.G hr (by rfl) C.g C.kp C.b .nil (passes_call (takes_of rfl rfl rfl rfl) fun _ _ _ _ h => h) (pa_cons (pv 0) pa_nil)) pa_nil))), x, rfl, b, n, x, d, b1, rfl, th, no, rs⟩
theorem bad_refusal {f fC fN : Addr} {fd dC dN : FuncData} (F : Fun K "refusal" "refusal" sRefusal f fd) (C : CChk P w K mg base CP fC dC) (N : Can P w K mg base CX0 1 "_refusal" ["scripts"] spNo fN dN) : FnOk P w K mg base (L2.CX P w) 4 f fd ["scripts"] (spBad 0 CP) := by
  refine F.okX scRefusal (fun vs H Q E h => ?_) (fun cdv A outer s H vs Q E hr h => ?_)
  · obtain ⟨b, n, x, d, r, _, h0, rfl, _⟩ := h
    rw [List.length_cons, h0]
    rfl
  · obtain ⟨b, n, x, d, r, b1, h0, rfl, th, no, rs⟩ := h
    obtain rfl : r = [] := List.length_eq_zero_iff.mp h0
    exact ⟨_, pss_one (ps_ret (pe_call N.G (hr.mono (by decide)) (by rfl) N.g N.kp N.b .nil pass0 (pa_cons (pe_call C.G hr (by rfl) C.g C.kp C.b .nil (passes_call (takes_of rfl rfl rfl rfl) fun _ _ _ _ h => h) (pa_cons (pv 0) pa_nil)) pa_nil))), x, rfl, b, n, x, d, b1, rfl, th, no, rs⟩
theorem bad_stuck {f fC fN : Addr} {fd dC dN : FuncData} (F : Fun K "stuck" "stuck" sStuck f fd) (C : CChk P w K mg base CP fC dC) (N : Can P w K mg base CX0 1 "_stuck" ["scripts"] spNo fN dN) : FnOk P w K mg base (L2.CX P w) 4 f fd ["scripts"] (spBad 0 CP) := by
  refine F.okX scStuck (fun vs H Q E h => ?_) (fun cdv A outer s H vs Q E hr h => ?_)
  · obtain ⟨b, n, x, d, r, _, h0, rfl, _⟩ := h
    rw [List.length_cons, h0]
    rfl
  · obtain ⟨b, n, x, d, r, b1, h0, rfl, th, no, rs⟩ := h
    obtain rfl : r = [] := List.length_eq_zero_iff.mp h0
    exact ⟨_, pss_one (ps_ret (pe_call N.G (hr.mono (by decide)) (by rfl) N.g N.kp N.b .nil pass0 (pa_cons (pe_call C.G hr (by rfl) C.g C.kp C.b .nil (passes_call (takes_of rfl rfl rfl rfl) fun _ _ _ _ h => h) (pa_cons (pv 0) pa_nil)) pa_nil))), x, rfl, b, n, x, d, b1, rfl, th, no, rs⟩
theorem bad_calmed {f fC : Addr} {fd dC : FuncData} (F : Fun K "calmed" "calmed" sCalmed f fd) (C : CChk P w K mg base CP fC dC) : FnOk P w K mg base (L2.CX P w) 4 f fd ["scripts"] (spBad 0 CP) := by
  refine F.okX scCalmed (fun vs H Q E h => ?_) (fun cdv A outer s H vs Q E hr h => ?_)
  · obtain ⟨b, n, x, d, r, _, h0, rfl, _⟩ := h
    rw [List.length_cons, h0]
    rfl
  · obtain ⟨b, n, x, d, r, b1, h0, rfl, th, no, rs⟩ := h
    obtain rfl : r = [] := List.length_eq_zero_iff.mp h0
    exact ⟨_, pss_cons (ps_set (i := 1) scCalmed.nd rfl (.inl rfl) (pe_call C.G hr (by rfl) C.g C.kp C.b .nil (passes_call (takes_of rfl rfl rfl rfl) fun _ _ _ _ h => h) (pa_cons (pv 0) pa_nil))) pss_no, x, rfl, b, n, x, d, b1, rfl, th, no, rs⟩
theorem bad_isOrder {f fC : Addr} {fd dC : FuncData} (F : Fun K "is_order" "is_order" sIsOrder f fd) (C : CChk P w K mg base CP fC dC) : FnOk P w K mg base (L2.CX P w) 4 f fd ["scripts", "order"] (spBad 1 CP) := by
  refine F.okX scIsOrder (fun vs H Q E h => ?_) (fun cdv A outer s H vs Q E hr h => ?_)
  · obtain ⟨b, n, x, d, r, _, h0, rfl, _⟩ := h
    rw [List.length_cons, h0]
    rfl
  · obtain ⟨b, n, x, d, r, b1, h0, rfl, th, no, rs⟩ := h
    match r, h0 with
    | [y], _ => exact ⟨_, pss_cons (ps_set (i := 2) scIsOrder.nd rfl (.inl rfl) (pe_call C.G hr (by rfl) C.g C.kp C.b .nil (passes_call (takes_of rfl rfl rfl rfl) fun _ _ _ _ h => h) (pa_cons (pv 0) pa_nil))) pss_no, x, rfl, b, n, x, d, b1, rfl, th, no, rs⟩
theorem bad_isStuck {f fC : Addr} {fd dC : FuncData} (F : Fun K "is_stuck" "is_stuck" sIsStuck f fd) (C : CChk P w K mg base CP fC dC) : FnOk P w K mg base (L2.CX P w) 4 f fd ["scripts", "order"] (spBad 1 CP) := by
  refine F.okX scIsStuck (fun vs H Q E h => ?_) (fun cdv A outer s H vs Q E hr h => ?_)
  · obtain ⟨b, n, x, d, r, _, h0, rfl, _⟩ := h
    rw [List.length_cons, h0]
    rfl
  · obtain ⟨b, n, x, d, r, b1, h0, rfl, th, no, rs⟩ := h
    match r, h0 with
    | [y], _ => exact ⟨_, pss_cons (ps_set (i := 2) scIsStuck.nd rfl (.inl rfl) (pe_call C.G hr (by rfl) C.g C.kp C.b .nil (passes_call (takes_of rfl rfl rfl rfl) fun _ _ _ _ h => h) (pa_cons (pv 0) pa_nil))) pss_no, x, rfl, b, n, x, d, b1, rfl, th, no, rs⟩
theorem bad_next {f fC : Addr} {fd dC : FuncData} (F : Fun K "next_state" "next_state" sNextState f fd) (C : CChk P w K mg base CP fC dC) : FnOk P w K mg base (L2.CX P w) 4 f fd ["scripts", "state", "at"] (spBad 2 CP) := by
  refine F.okX scNextBad (fun vs H Q E h => ?_) (fun cdv A outer s H vs Q E hr h => ?_)
  · obtain ⟨b, n, x, d, r, _, h0, rfl, _⟩ := h
    rw [List.length_cons, h0]
    rfl
  · obtain ⟨b, n, x, d, r, b1, h0, rfl, th, no, rs⟩ := h
    match r, h0 with
    | [y, z], _ => exact ⟨_, pss_cons (ps_set (i := 3) scNextBad.nd rfl (.inl rfl) (pe_call C.G hr (by rfl) C.g C.kp C.b .nil (passes_call (takes_of rfl rfl rfl rfl) fun _ _ _ _ h => h) (pa_cons (pv 0) pa_nil))) pss_no, x, rfl, b, n, x, d, b1, rfl, th, no, rs⟩
theorem bad_isNever {f fC fN fT : Addr} {fd dC dN dT : FuncData} (F : Fun K "is_never" "is_never" sIsNever f fd) (C : CChk P w K mg base CP fC dC) (N : Can P w K mg base CX0 1 "_refusal" ["scripts"] spNo fN dN) (T : Can P w K mg base CX0 1 "_is_told" ["found", "states"] spNo fT dT) : FnOk P w K mg base (L2.CX P w) 4 f fd ["scripts", "states"] (spBad 1 CP) := by
  refine F.okX scIsNever (fun vs H Q E h => ?_) (fun cdv A outer s H vs Q E hr h => ?_)
  · obtain ⟨b, n, x, d, r, _, h0, rfl, _⟩ := h
    rw [List.length_cons, h0]
    rfl
  · obtain ⟨b, n, x, d, r, b1, h0, rfl, th, no, rs⟩ := h
    match r, h0 with
    | [y], _ => exact ⟨_, pss_one (ps_ret (pe_call T.G (hr.mono (by decide)) (by rfl) T.g T.kp T.b .nil pass0 (pa_cons (pe_call N.G (hr.mono (by decide)) (by rfl) N.g N.kp N.b .nil pass0 (pa_cons (pe_call C.G hr (by rfl) C.g C.kp C.b .nil (passes_call (takes_of rfl rfl rfl rfl) fun _ _ _ _ h => h) (pa_cons (pv 0) pa_nil)) pa_nil)) (pa_cons (pv 1) pa_nil)))), x, rfl, b, n, x, d, b1, rfl, th, no, rs⟩
theorem bad_isFree {f fC fN fT : Addr} {fd dC dN dT : FuncData} (F : Fun K "is_free" "is_free" sIsFree f fd) (C : CChk P w K mg base CP fC dC) (N : Can P w K mg base CX0 1 "_stuck" ["scripts"] spNo fN dN) (T : Can P w K mg base CX0 1 "_is_told" ["found", "states"] spNo fT dT) : FnOk P w K mg base (L2.CX P w) 4 f fd ["scripts", "states"] (spBad 1 CP) := by
  refine F.okX scIsFree (fun vs H Q E h => ?_) (fun cdv A outer s H vs Q E hr h => ?_)
  · obtain ⟨b, n, x, d, r, _, h0, rfl, _⟩ := h
    rw [List.length_cons, h0]
    rfl
  · obtain ⟨b, n, x, d, r, b1, h0, rfl, th, no, rs⟩ := h
    match r, h0 with
    | [y], _ => exact ⟨_, pss_one (ps_ret (pe_call T.G (hr.mono (by decide)) (by rfl) T.g T.kp T.b .nil pass0 (pa_cons (pe_call N.G (hr.mono (by decide)) (by rfl) N.g N.kp N.b .nil pass0 (pa_cons (pe_call C.G hr (by rfl) C.g C.kp C.b .nil (passes_call (takes_of rfl rfl rfl rfl) fun _ _ _ _ h => h) (pa_cons (pv 0) pa_nil)) pa_nil)) (pa_cons (pv 1) pa_nil)))), x, rfl, b, n, x, d, b1, rfl, th, no, rs⟩
end
end Lk

/-! The law's draw of an object that is no script. -/
namespace Lk
open PySem PySem.Spec PyProof.Rows L2 Drw Err
def ThAll (b : Nat) (H : Hp) (n : Nat) (xs : List V) (ds : List PyData) : Prop := xs.length = ds.length ∧ ∀ (i : Nat) x d, xs[i]? = some x → ds[i]? = some d → Th b H n x d
theorem ThAll.nil {b n : Nat} {H : Hp} : ThAll b H n [] [] := ⟨rfl, fun i x d h => by cases h⟩
theorem ThAll.cons {b n : Nat} {H : Hp} {x : V} {d : PyData} {xs : List V} {ds : List PyData} (h : Th b H n x d) (t : ThAll b H n xs ds) : ThAll b H n (x :: xs) (d :: ds) := by
  refine ⟨congrArg (· + 1) t.1, fun i y e h1 h2 => ?_⟩
  match i, h1, h2 with
  | 0, h1, h2 =>
    obtain rfl : x = y := Option.some.inj h1
    obtain rfl : d = e := Option.some.inj h2
    exact h
  | i + 1, h1, h2 => exact t.2 i y e h1 h2
theorem th_lst {b n : Nat} {H : Hp} {a : Addr} {xs : List V} {ds : List PyData} (h : H a = some (.lst xs)) (t : ThAll b H n xs ds) (hb : xs.length ≤ b) : Th b H (n + 1) (.ref a) (.list ds) := .lst h t.1 hb t.2
theorem th_tup {b n : Nat} {H : Hp} {a : Addr} {xs : List V} {ds : List PyData} (h : H a = some (.tup xs)) (t : ThAll b H n xs ds) (hb : xs.length ≤ b) : Th b H (n + 1) (.ref a) (.tuple ds) := .tup h t.1 hb t.2
theorem th_row {b n : Nat} {H : Hp} : ThAll b H n [.int 0, .bl false, .bl false, .int 0] [.int 0, .bool false, .bool false, .int 0] :=
  .cons (.leaf _ (lf_int (by decide) (by decide))) (.cons (.leaf _ (.bl false)) (.cons (.leaf _ (.bl false)) (.cons (.leaf _ (lf_int (by decide) (by decide))) .nil)))
theorem wo_new {l a : Addr} {H : Hp} {o : HO} (hl : H l ≠ none) (n : H a = none) (t : ∀ ps, o ≠ .tbl ps) : wo l (upd H a o) a = some o := wo_at (fun z => hl (by rw [← z]; exact n)) t upd_same
theorem wo_next {l a : Addr} {H : Hp} {o : HO} (n : H a = none) : Al (wo l H) (wo l (upd H a o)) := wo_up fun b u _ _ e => Al.refl.new n b u e
theorem scOddX : FnScope ["_law_state", "_law_some"] ["_law_state"] (defScope sOdd) := ⟨rfl, rfl, rfl, by decide +kernel, rfl, by decide +kernel, by decide +kernel⟩
theorem keeps_ne {l : Addr} {H H' : Hp} (h : H l ≠ none) (k : Al H H') : H' l ≠ none := fun z => h (k.gone z)
def spOddX : Sp := fun vs H Q _ => ∃ (l c : Addr) (ns : List Int), vs = [.ref l] ∧ Stt H l c ns ∧ ∀ H' v d, Kp l H H' → Stt H' l c ns → Th 9 (wo l H') 2 v d → Q v H'
section
variable {P : Program} {w : World} {K : PySem.W.Frag} {mg : Str → Option Value} {base : Heap}
theorem ok_oddX {f fT : Addr} {fd dT : FuncData} (F : Fun K "_law_odd" "_law_odd" sOdd f fd) (T : Can P w K mg base CX0 2 "_law_take" ["_law_state", "_law_many"] spTake fT dT) (ml : mg "len" = none) :
    FnOk P w K mg base CX0 3 f fd ["_law_state"] spOddX := by
  refine F.ok scOddX (fun vs H Q E h => ?_) (fun cdv A outer s H vs Q E hr h => ?_)
  · obtain ⟨l, c, ns, rfl, _⟩ := h
    rfl
  · obtain ⟨l, c, ns, rfl, st, q⟩ := h
    refine ⟨_, pss_cons (ps_set (i := 1) scOddX.nd rfl (.inl rfl) (pe_lst (pa_cons pe_non (pa_cons pe_bl (pa_cons pe_bl (pa_cons pe_int (pa_cons pe_int (pa_cons (pe_un un_neg pe_int) (pa_cons (pe_op op_pow pe_int pe_int)
        (pa_cons pe_str (pa_cons pe_str (pa_cons pe_str (pa_cons pe_str (pa_cons pe_str (pa_cons (pe_lst pa_nil) (pa_cons (pe_tup pa_nil) (pa_cons pe_dnewK (pa_cons (pe_disp (pps_cons pe_str pe_int pps_nil) (by rfl) (by rfl) (fun z => by cases z) (by decide)) pa_nil))))))))))))))))))
      (pss_cons (ps_set (i := 1) scOddX.nd rfl (.inl rfl) (pe_op op_cat (pv 1) (pe_lst (pa_cons (pe_tup (pa_cons pe_str pa_nil)) (pa_cons (pe_lst (pa_cons (pe_lst (pa_cons pe_str pa_nil)) pa_nil)) (pa_cons (pe_tup (pa_cons pe_non pa_nil)) (pa_cons (pe_lst (pa_cons pe_int pa_nil)) (pa_cons (pe_tup (pa_cons pe_bl pa_nil))
        (pa_cons (pe_tup (pa_cons (pe_tup (pa_cons pe_int (pa_cons pe_bl (pa_cons pe_bl (pa_cons pe_int pa_nil))))) pa_nil)) (pa_cons (pe_lst (pa_cons (pe_lst (pa_cons pe_int (pa_cons pe_bl (pa_cons pe_bl (pa_cons pe_int pa_nil))))) pa_nil)) pa_nil))))))))))
      (pss_one (ps_ret (pe_ix ix_list (pv 1) (pe_call T.G hr (by rfl) T.g T.kp T.b .nil pass0 (pa_cons (pv 0) (pa_cons (pe_callB call_len_seq (by rfl) ml PySem.boot_len (pa_cons (pv 1) pa_nil)) pa_nil))) (fun _ _ => rfl))))), ?_⟩
    have hl0 : H l ≠ none := fun z => by
      obtain ⟨⟨_, _, _, hl⟩, _⟩ := st
      rw [z] at hl
      cases hl
    refine ⟨1, rfl, 2, 40, rfl, rfl, ⟨by decide, by decide, by decide⟩, ?_⟩
    refine ⟨Nat.zero_le _, fun l1 n1 => ?_⟩
    have nn1 : H l1 = none := n1
    have rr1 : Al H (upd H l1 (.lst [])) := Al.refl.new nn1
    have kk1 : Al (wo l H) (wo l (upd H l1 (.lst []))) := wo_next nn1
    have ww1 := wo_new hl0 nn1 (o := .lst []) (fun _ z => by cases z)
    have hl1 : upd H l1 (.lst []) l ≠ none := keeps_ne hl0 rr1
    have th1 : Th 9 (wo l (upd H l1 (.lst []))) 1 (.ref l1) (.list []) := th_lst ww1 .nil (by decide)
    generalize eH1 : upd H l1 (.lst []) = H1 at rr1 kk1 ww1 hl1 th1 ⊢
    refine ⟨Nat.zero_le _, fun t1 n2 => ?_⟩
    have nn2 : H1 t1 = none := n2
    have rr2 : Al H1 (upd H1 t1 (.tup [])) := Al.refl.new nn2
    have kk2 : Al (wo l H1) (wo l (upd H1 t1 (.tup []))) := wo_next nn2
    have ww2 := wo_new hl1 nn2 (o := .tup []) (fun _ z => by cases z)
    have hl2 : upd H1 t1 (.tup []) l ≠ none := keeps_ne hl1 rr2
    have th2 : Th 9 (wo l (upd H1 t1 (.tup []))) 1 (.ref t1) (.tuple []) := th_tup ww2 .nil (by decide)
    generalize eH2 : upd H1 t1 (.tup []) = H2 at rr2 kk2 ww2 hl2 th2 ⊢
    intro d1 n3
    have nn3 : H2 d1 = none := n3
    have rr3 : Al H2 (upd H2 d1 (.dK [])) := Al.refl.new nn3
    have kk3 : Al (wo l H2) (wo l (upd H2 d1 (.dK []))) := wo_next nn3
    have ww3 := wo_new hl2 nn3 (o := .dK []) (fun _ z => by cases z)
    have hl3 : upd H2 d1 (.dK []) l ≠ none := keeps_ne hl2 rr3
    have th3 : Th 9 (wo l (upd H2 d1 (.dK []))) 1 (.ref d1) (.dict []) := .emp _ ww3
    generalize eH3 : upd H2 d1 (.dK []) = H3 at rr3 kk3 ww3 hl3 th3 ⊢
    intro d2 n4
    refine ⟨upd_same, [(Sum.inr "begin", .int 1)], rfl, by decide, ?_⟩
    rw [upd_upd, show mergeK [] [((Sum.inr "begin" : Key), V.int 1)] = [((Sum.inr "begin" : Key), V.int 1)] from rfl]
    have nn4 : H3 d2 = none := n4
    have rr4 : Al H3 (upd H3 d2 (.dK [(Sum.inr "begin", .int 1)])) := Al.refl.new nn4
    have kk4 : Al (wo l H3) (wo l (upd H3 d2 (.dK [(Sum.inr "begin", .int 1)]))) := wo_next nn4
    have ww4 := wo_new hl3 nn4 (o := .dK [(Sum.inr "begin", .int 1)]) (fun _ z => by cases z)
    have hl4 : upd H3 d2 (.dK [(Sum.inr "begin", .int 1)]) l ≠ none := keeps_ne hl3 rr4
    have th4 : Th 9 (wo l (upd H3 d2 (.dK [(Sum.inr "begin", .int 1)]))) 1 (.ref d2) (.dict [(.str "begin", .int 1)]) := .one _ ww4
    generalize eH4 : upd H3 d2 (.dK [(Sum.inr "begin", .int 1)]) = H4 at rr4 kk4 ww4 hl4 th4 ⊢
    refine ⟨by show 16 ≤ sizeLine; decide, fun L1 n5 => ?_⟩
    have nn5 : H4 L1 = none := n5
    have rr5 : Al H4 (upd H4 L1 (.lst [.non, .bl true, .bl false, .int 0, .int 1, ((fun i => V.int (-i)) 1), ((fun (i j : Int) => V.int (i ^ j.toNat)) 2 40), .str "", .str "begin", .str "reads", .str "BEGIN", .str "write ", .ref l1, .ref t1, .ref d1, .ref d2])) := Al.refl.new nn5
    have kk5 : Al (wo l H4) (wo l (upd H4 L1 (.lst [.non, .bl true, .bl false, .int 0, .int 1, ((fun i => V.int (-i)) 1), ((fun (i j : Int) => V.int (i ^ j.toNat)) 2 40), .str "", .str "begin", .str "reads", .str "BEGIN", .str "write ", .ref l1, .ref t1, .ref d1, .ref d2]))) := wo_next nn5
    have ww5 := wo_new hl4 nn5 (o := .lst [.non, .bl true, .bl false, .int 0, .int 1, ((fun i => V.int (-i)) 1), ((fun (i j : Int) => V.int (i ^ j.toNat)) 2 40), .str "", .str "begin", .str "reads", .str "BEGIN", .str "write ", .ref l1, .ref t1, .ref d1, .ref d2]) (fun _ z => by cases z)
    have hl5 : upd H4 L1 (.lst [.non, .bl true, .bl false, .int 0, .int 1, ((fun i => V.int (-i)) 1), ((fun (i j : Int) => V.int (i ^ j.toNat)) 2 40), .str "", .str "begin", .str "reads", .str "BEGIN", .str "write ", .ref l1, .ref t1, .ref d1, .ref d2]) l ≠ none := keeps_ne hl4 rr5
    have sL1 : upd H4 L1 (.lst [.non, .bl true, .bl false, .int 0, .int 1, ((fun i => V.int (-i)) 1), ((fun (i j : Int) => V.int (i ^ j.toNat)) 2 40), .str "", .str "begin", .str "reads", .str "BEGIN", .str "write ", .ref l1, .ref t1, .ref d1, .ref d2]) L1 = some (.lst [.non, .bl true, .bl false, .int 0, .int 1, ((fun i => V.int (-i)) 1), ((fun (i j : Int) => V.int (i ^ j.toNat)) 2 40), .str "", .str "begin", .str "reads", .str "BEGIN", .str "write ", .ref l1, .ref t1, .ref d1, .ref d2]) := upd_same
    generalize eH5 : upd H4 L1 (.lst [.non, .bl true, .bl false, .int 0, .int 1, ((fun i => V.int (-i)) 1), ((fun (i j : Int) => V.int (i ^ j.toNat)) 2 40), .str "", .str "begin", .str "reads", .str "BEGIN", .str "write ", .ref l1, .ref t1, .ref d1, .ref d2]) = H5 at rr5 kk5 ww5 hl5 sL1 ⊢
    refine ⟨.ref L1, rfl, by show 1 ≤ sizeLine; decide, fun a1 n6 => ?_⟩
    have nn6 : H5 a1 = none := n6
    have rr6 : Al H5 (upd H5 a1 (.tup [.str "begin"])) := Al.refl.new nn6
    have kk6 : Al (wo l H5) (wo l (upd H5 a1 (.tup [.str "begin"]))) := wo_next nn6
    have ww6 := wo_new hl5 nn6 (o := .tup [.str "begin"]) (fun _ z => by cases z)
    have hl6 : upd H5 a1 (.tup [.str "begin"]) l ≠ none := keeps_ne hl5 rr6
    have th6 : Th 9 (wo l (upd H5 a1 (.tup [.str "begin"]))) 1 (.ref a1) (.tuple [.str "begin"]) := th_tup ww6 (.cons (.leaf _ (.str _ (by decide +kernel))) .nil) (Nat.le_of_ble_eq_true rfl)
    generalize eH6 : upd H5 a1 (.tup [.str "begin"]) = H6 at rr6 kk6 ww6 hl6 th6 ⊢
    refine ⟨by show 1 ≤ sizeLine; decide, fun b1 n7 => ?_⟩
    have nn7 : H6 b1 = none := n7
    have rr7 : Al H6 (upd H6 b1 (.lst [.str "read"])) := Al.refl.new nn7
    have kk7 : Al (wo l H6) (wo l (upd H6 b1 (.lst [.str "read"]))) := wo_next nn7
    have ww7 := wo_new hl6 nn7 (o := .lst [.str "read"]) (fun _ z => by cases z)
    have hl7 : upd H6 b1 (.lst [.str "read"]) l ≠ none := keeps_ne hl6 rr7
    have th7 : Th 9 (wo l (upd H6 b1 (.lst [.str "read"]))) 1 (.ref b1) (.list [.str "read"]) := th_lst ww7 (.cons (.leaf _ (.str _ (by decide +kernel))) .nil) (Nat.le_of_ble_eq_true rfl)
    generalize eH7 : upd H6 b1 (.lst [.str "read"]) = H7 at rr7 kk7 ww7 hl7 th7 ⊢
    refine ⟨by show 1 ≤ sizeLine; decide, fun b2 n8 => ?_⟩
    have nn8 : H7 b2 = none := n8
    have rr8 : Al H7 (upd H7 b2 (.lst [.ref b1])) := Al.refl.new nn8
    have kk8 : Al (wo l H7) (wo l (upd H7 b2 (.lst [.ref b1]))) := wo_next nn8
    have ww8 := wo_new hl7 nn8 (o := .lst [.ref b1]) (fun _ z => by cases z)
    have hl8 : upd H7 b2 (.lst [.ref b1]) l ≠ none := keeps_ne hl7 rr8
    have th8 : Th 9 (wo l (upd H7 b2 (.lst [.ref b1]))) 2 (.ref b2) (.list [.list [.str "read"]]) := th_lst ww8 (.cons (th7.al kk8) .nil) (Nat.le_of_ble_eq_true rfl)
    generalize eH8 : upd H7 b2 (.lst [.ref b1]) = H8 at rr8 kk8 ww8 hl8 th8 ⊢
    refine ⟨by show 1 ≤ sizeLine; decide, fun c1 n9 => ?_⟩
    have nn9 : H8 c1 = none := n9
    have rr9 : Al H8 (upd H8 c1 (.tup [.non])) := Al.refl.new nn9
    have kk9 : Al (wo l H8) (wo l (upd H8 c1 (.tup [.non]))) := wo_next nn9
    have ww9 := wo_new hl8 nn9 (o := .tup [.non]) (fun _ z => by cases z)
    have hl9 : upd H8 c1 (.tup [.non]) l ≠ none := keeps_ne hl8 rr9
    have th9 : Th 9 (wo l (upd H8 c1 (.tup [.non]))) 1 (.ref c1) (.tuple [.none]) := th_tup ww9 (.cons (.non _) .nil) (Nat.le_of_ble_eq_true rfl)
    generalize eH9 : upd H8 c1 (.tup [.non]) = H9 at rr9 kk9 ww9 hl9 th9 ⊢
    refine ⟨by show 1 ≤ sizeLine; decide, fun c2 n10 => ?_⟩
    have nn10 : H9 c2 = none := n10
    have rr10 : Al H9 (upd H9 c2 (.lst [.int 0])) := Al.refl.new nn10
    have kk10 : Al (wo l H9) (wo l (upd H9 c2 (.lst [.int 0]))) := wo_next nn10
    have ww10 := wo_new hl9 nn10 (o := .lst [.int 0]) (fun _ z => by cases z)
    have hl10 : upd H9 c2 (.lst [.int 0]) l ≠ none := keeps_ne hl9 rr10
    have th10 : Th 9 (wo l (upd H9 c2 (.lst [.int 0]))) 1 (.ref c2) (.list [.int 0]) := th_lst ww10 (.cons (.leaf _ (lf_int (by decide) (by decide))) .nil) (Nat.le_of_ble_eq_true rfl)
    generalize eH10 : upd H9 c2 (.lst [.int 0]) = H10 at rr10 kk10 ww10 hl10 th10 ⊢
    refine ⟨by show 1 ≤ sizeLine; decide, fun c3 n11 => ?_⟩
    have nn11 : H10 c3 = none := n11
    have rr11 : Al H10 (upd H10 c3 (.tup [.bl true])) := Al.refl.new nn11
    have kk11 : Al (wo l H10) (wo l (upd H10 c3 (.tup [.bl true]))) := wo_next nn11
    have ww11 := wo_new hl10 nn11 (o := .tup [.bl true]) (fun _ z => by cases z)
    have hl11 : upd H10 c3 (.tup [.bl true]) l ≠ none := keeps_ne hl10 rr11
    have th11 : Th 9 (wo l (upd H10 c3 (.tup [.bl true]))) 1 (.ref c3) (.tuple [.bool true]) := th_tup ww11 (.cons (.leaf _ (.bl true)) .nil) (Nat.le_of_ble_eq_true rfl)
    generalize eH11 : upd H10 c3 (.tup [.bl true]) = H11 at rr11 kk11 ww11 hl11 th11 ⊢
    refine ⟨by show 4 ≤ sizeLine; decide, fun c4 n12 => ?_⟩
    have nn12 : H11 c4 = none := n12
    have rr12 : Al H11 (upd H11 c4 (.tup [.int 0, .bl false, .bl false, .int 0])) := Al.refl.new nn12
    have kk12 : Al (wo l H11) (wo l (upd H11 c4 (.tup [.int 0, .bl false, .bl false, .int 0]))) := wo_next nn12
    have ww12 := wo_new hl11 nn12 (o := .tup [.int 0, .bl false, .bl false, .int 0]) (fun _ z => by cases z)
    have hl12 : upd H11 c4 (.tup [.int 0, .bl false, .bl false, .int 0]) l ≠ none := keeps_ne hl11 rr12
    have th12 : Th 9 (wo l (upd H11 c4 (.tup [.int 0, .bl false, .bl false, .int 0]))) 1 (.ref c4) (.tuple [.int 0, .bool false, .bool false, .int 0]) := th_tup ww12 th_row (by decide)
    generalize eH12 : upd H11 c4 (.tup [.int 0, .bl false, .bl false, .int 0]) = H12 at rr12 kk12 ww12 hl12 th12 ⊢
    refine ⟨by show 1 ≤ sizeLine; decide, fun c5 n13 => ?_⟩
    have nn13 : H12 c5 = none := n13
    have rr13 : Al H12 (upd H12 c5 (.tup [.ref c4])) := Al.refl.new nn13
    have kk13 : Al (wo l H12) (wo l (upd H12 c5 (.tup [.ref c4]))) := wo_next nn13
    have ww13 := wo_new hl12 nn13 (o := .tup [.ref c4]) (fun _ z => by cases z)
    have hl13 : upd H12 c5 (.tup [.ref c4]) l ≠ none := keeps_ne hl12 rr13
    have th13 : Th 9 (wo l (upd H12 c5 (.tup [.ref c4]))) 2 (.ref c5) (.tuple [.tuple [.int 0, .bool false, .bool false, .int 0]]) := th_tup ww13 (.cons (th12.al kk13) .nil) (Nat.le_of_ble_eq_true rfl)
    generalize eH13 : upd H12 c5 (.tup [.ref c4]) = H13 at rr13 kk13 ww13 hl13 th13 ⊢
    refine ⟨by show 4 ≤ sizeLine; decide, fun c6 n14 => ?_⟩
    have nn14 : H13 c6 = none := n14
    have rr14 : Al H13 (upd H13 c6 (.lst [.int 0, .bl false, .bl false, .int 0])) := Al.refl.new nn14
    have kk14 : Al (wo l H13) (wo l (upd H13 c6 (.lst [.int 0, .bl false, .bl false, .int 0]))) := wo_next nn14
    have ww14 := wo_new hl13 nn14 (o := .lst [.int 0, .bl false, .bl false, .int 0]) (fun _ z => by cases z)
    have hl14 : upd H13 c6 (.lst [.int 0, .bl false, .bl false, .int 0]) l ≠ none := keeps_ne hl13 rr14
    have th14 : Th 9 (wo l (upd H13 c6 (.lst [.int 0, .bl false, .bl false, .int 0]))) 1 (.ref c6) (.list [.int 0, .bool false, .bool false, .int 0]) := th_lst ww14 th_row (by decide)
    generalize eH14 : upd H13 c6 (.lst [.int 0, .bl false, .bl false, .int 0]) = H14 at rr14 kk14 ww14 hl14 th14 ⊢
    refine ⟨by show 1 ≤ sizeLine; decide, fun c7 n15 => ?_⟩
    have nn15 : H14 c7 = none := n15
    have rr15 : Al H14 (upd H14 c7 (.lst [.ref c6])) := Al.refl.new nn15
    have kk15 : Al (wo l H14) (wo l (upd H14 c7 (.lst [.ref c6]))) := wo_next nn15
    have ww15 := wo_new hl14 nn15 (o := .lst [.ref c6]) (fun _ z => by cases z)
    have hl15 : upd H14 c7 (.lst [.ref c6]) l ≠ none := keeps_ne hl14 rr15
    have th15 : Th 9 (wo l (upd H14 c7 (.lst [.ref c6]))) 2 (.ref c7) (.list [.list [.int 0, .bool false, .bool false, .int 0]]) := th_lst ww15 (.cons (th14.al kk15) .nil) (Nat.le_of_ble_eq_true rfl)
    generalize eH15 : upd H14 c7 (.lst [.ref c6]) = H15 at rr15 kk15 ww15 hl15 th15 ⊢
    refine ⟨by show 7 ≤ sizeLine; decide, fun L2 n16 => ?_⟩
    have nn16 : H15 L2 = none := n16
    have rr16 : Al H15 (upd H15 L2 (.lst [.ref a1, .ref b2, .ref c1, .ref c2, .ref c3, .ref c5, .ref c7])) := Al.refl.new nn16
    have kk16 : Al (wo l H15) (wo l (upd H15 L2 (.lst [.ref a1, .ref b2, .ref c1, .ref c2, .ref c3, .ref c5, .ref c7]))) := wo_next nn16
    have ww16 := wo_new hl15 nn16 (o := .lst [.ref a1, .ref b2, .ref c1, .ref c2, .ref c3, .ref c5, .ref c7]) (fun _ z => by cases z)
    have hl16 : upd H15 L2 (.lst [.ref a1, .ref b2, .ref c1, .ref c2, .ref c3, .ref c5, .ref c7]) l ≠ none := keeps_ne hl15 rr16
    have sL2 : upd H15 L2 (.lst [.ref a1, .ref b2, .ref c1, .ref c2, .ref c3, .ref c5, .ref c7]) L2 = some (.lst [.ref a1, .ref b2, .ref c1, .ref c2, .ref c3, .ref c5, .ref c7]) := upd_same
    generalize eH16 : upd H15 L2 (.lst [.ref a1, .ref b2, .ref c1, .ref c2, .ref c3, .ref c5, .ref c7]) = H16 at rr16 kk16 ww16 hl16 sL2 ⊢
    have eL1 : H16 L1 = some (.lst [.non, .bl true, .bl false, .int 0, .int 1, ((fun i => V.int (-i)) 1), ((fun (i j : Int) => V.int (i ^ j.toNat)) 2 40), .str "", .str "begin", .str "reads", .str "BEGIN", .str "write ", .ref l1, .ref t1, .ref d1, .ref d2]) := (((((((((((rr6).trans rr7).trans rr8).trans rr9).trans rr10).trans rr11).trans rr12).trans rr13).trans rr14).trans rr15).trans rr16) _ _ sL1
    refine ⟨L1, L2, _, _, rfl, rfl, eL1, sL2, by show 23 ≤ sizeLine; decide, fun L3 n17 => ?_⟩
    have nn17 : H16 L3 = none := n17
    have rr17 : Al H16 (upd H16 L3 (.lst ([.non, .bl true, .bl false, .int 0, .int 1, ((fun i => V.int (-i)) 1), ((fun (i j : Int) => V.int (i ^ j.toNat)) 2 40), .str "", .str "begin", .str "reads", .str "BEGIN", .str "write ", .ref l1, .ref t1, .ref d1, .ref d2] ++ [.ref a1, .ref b2, .ref c1, .ref c2, .ref c3, .ref c5, .ref c7]))) := Al.refl.new nn17
    have kk17 : Al (wo l H16) (wo l (upd H16 L3 (.lst ([.non, .bl true, .bl false, .int 0, .int 1, ((fun i => V.int (-i)) 1), ((fun (i j : Int) => V.int (i ^ j.toNat)) 2 40), .str "", .str "begin", .str "reads", .str "BEGIN", .str "write ", .ref l1, .ref t1, .ref d1, .ref d2] ++ [.ref a1, .ref b2, .ref c1, .ref c2, .ref c3, .ref c5, .ref c7])))) := wo_next nn17
    have ww17 := wo_new hl16 nn17 (o := .lst ([.non, .bl true, .bl false, .int 0, .int 1, ((fun i => V.int (-i)) 1), ((fun (i j : Int) => V.int (i ^ j.toNat)) 2 40), .str "", .str "begin", .str "reads", .str "BEGIN", .str "write ", .ref l1, .ref t1, .ref d1, .ref d2] ++ [.ref a1, .ref b2, .ref c1, .ref c2, .ref c3, .ref c5, .ref c7])) (fun _ z => by cases z)
    have hl17 : upd H16 L3 (.lst ([.non, .bl true, .bl false, .int 0, .int 1, ((fun i => V.int (-i)) 1), ((fun (i j : Int) => V.int (i ^ j.toNat)) 2 40), .str "", .str "begin", .str "reads", .str "BEGIN", .str "write ", .ref l1, .ref t1, .ref d1, .ref d2] ++ [.ref a1, .ref b2, .ref c1, .ref c2, .ref c3, .ref c5, .ref c7])) l ≠ none := keeps_ne hl16 rr17
    have sL3 : upd H16 L3 (.lst ([.non, .bl true, .bl false, .int 0, .int 1, ((fun i => V.int (-i)) 1), ((fun (i j : Int) => V.int (i ^ j.toNat)) 2 40), .str "", .str "begin", .str "reads", .str "BEGIN", .str "write ", .ref l1, .ref t1, .ref d1, .ref d2] ++ [.ref a1, .ref b2, .ref c1, .ref c2, .ref c3, .ref c5, .ref c7])) L3 = some (.lst ([.non, .bl true, .bl false, .int 0, .int 1, ((fun i => V.int (-i)) 1), ((fun (i j : Int) => V.int (i ^ j.toNat)) 2 40), .str "", .str "begin", .str "reads", .str "BEGIN", .str "write ", .ref l1, .ref t1, .ref d1, .ref d2] ++ [.ref a1, .ref b2, .ref c1, .ref c2, .ref c3, .ref c5, .ref c7])) := upd_same
    generalize eH17 : upd H16 L3 (.lst ([.non, .bl true, .bl false, .int 0, .int 1, ((fun i => V.int (-i)) 1), ((fun (i j : Int) => V.int (i ^ j.toNat)) 2 40), .str "", .str "begin", .str "reads", .str "BEGIN", .str "write ", .ref l1, .ref t1, .ref d1, .ref d2] ++ [.ref a1, .ref b2, .ref c1, .ref c2, .ref c3, .ref c5, .ref c7])) = H17 at rr17 kk17 ww17 hl17 sL3 ⊢
    have TT17 : Al (wo l H17) (wo l H17) := Al.refl
    have TT16 := kk17.trans TT17
    have TT15 := kk16.trans TT16
    have TT14 := kk15.trans TT15
    have TT13 := kk14.trans TT14
    have TT12 := kk13.trans TT13
    have TT11 := kk12.trans TT12
    have TT10 := kk11.trans TT11
    have TT9 := kk10.trans TT10
    have TT8 := kk9.trans TT9
    have TT7 := kk8.trans TT8
    have TT6 := kk7.trans TT7
    have TT5 := kk6.trans TT6
    have TT4 := kk5.trans TT5
    have TT3 := kk4.trans TT4
    have TT2 := kk3.trans TT3
    have TT1 := kk2.trans TT2
    have al1 := rr1
    have al2 := al1.trans rr2
    have al3 := al2.trans rr3
    have al4 := al3.trans rr4
    have al5 := al4.trans rr5
    have al6 := al5.trans rr6
    have al7 := al6.trans rr7
    have al8 := al7.trans rr8
    have al9 := al8.trans rr9
    have al10 := al9.trans rr10
    have al11 := al10.trans rr11
    have al12 := al11.trans rr12
    have al13 := al12.trans rr13
    have al14 := al13.trans rr14
    have al15 := al14.trans rr15
    have al16 := al15.trans rr16
    have al17 := al16.trans rr17
    have Ll : L3 ≠ l := fun z => hl16 (by rw [← z]; exact nn17)
    refine ⟨.ref L3, rfl, .ref l, rfl, .ref L3, rfl, L3, _, rfl, .inl (sq sL3), l, c, ns, 23, rfl, by decide, by decide, st.up al17, fun H' k kx stx d0 d23 => ?_⟩
    obtain ⟨j, rfl⟩ := Int.eq_ofNat_of_zero_le d0
    have s3 := kx _ _ Ll sL3
    have hj : j < 23 := by omega
    have gx : Al (wo l H17) (wo l H') := wo_up fun b o nb _ e => kx b o nb e
    have each : ∀ x ∈ [.non, .bl true, .bl false, .int 0, .int 1, ((fun i => V.int (-i)) 1), ((fun (i j : Int) => V.int (i ^ j.toNat)) 2 40), .str "", .str "begin", .str "reads", .str "BEGIN", .str "write ", .ref l1, .ref t1, .ref d1, .ref d2] ++ [.ref a1, .ref b2, .ref c1, .ref c2, .ref c3, .ref c5, .ref c7], ∃ d, Th 9 (wo l H17) 2 x d := fun x hx => by
      simp only [List.cons_append, List.nil_append, List.mem_cons, List.not_mem_nil, or_false] at hx
      rcases hx with rfl | rfl | rfl | rfl | rfl | rfl | rfl | rfl | rfl | rfl | rfl | rfl | rfl | rfl | rfl | rfl | rfl | rfl | rfl | rfl | rfl | rfl | rfl

      · exact ⟨_, .non _⟩
      · exact ⟨_, .leaf _ (.bl true)⟩
      · exact ⟨_, .leaf _ (.bl false)⟩
      · exact ⟨_, .leaf _ (lf_int (by decide) (by decide))⟩
      · exact ⟨_, .leaf _ (lf_int (by decide) (by decide))⟩
      · exact ⟨_, .leaf _ (.int _ (by decide +kernel) (by decide +kernel))⟩
      · exact ⟨_, .leaf _ (.int _ (by decide +kernel) (by decide +kernel))⟩
      · exact ⟨_, .leaf _ (.str _ (by decide +kernel))⟩
      · exact ⟨_, .leaf _ (.str _ (by decide +kernel))⟩
      · exact ⟨_, .leaf _ (.str _ (by decide +kernel))⟩
      · exact ⟨_, .leaf _ (.str _ (by decide +kernel))⟩
      · exact ⟨_, .leaf _ (.str _ (by decide +kernel))⟩
      · exact ⟨_, (th1.al TT1).deeper⟩
      · exact ⟨_, (th2.al TT2).deeper⟩
      · exact ⟨_, (th3.al TT3).deeper⟩
      · exact ⟨_, (th4.al TT4).deeper⟩
      · exact ⟨_, (th6.al TT6).deeper⟩
      · exact ⟨_, th8.al TT8⟩
      · exact ⟨_, (th9.al TT9).deeper⟩
      · exact ⟨_, (th10.al TT10).deeper⟩
      · exact ⟨_, (th11.al TT11).deeper⟩
      · exact ⟨_, th13.al TT13⟩
      · exact ⟨_, th15.al TT15⟩
    obtain ⟨x, hx⟩ : ∃ x, ([.non, .bl true, .bl false, .int 0, .int 1, ((fun i => V.int (-i)) 1), ((fun (i j : Int) => V.int (i ^ j.toNat)) 2 40), .str "", .str "begin", .str "reads", .str "BEGIN", .str "write ", .ref l1, .ref t1, .ref d1, .ref d2] ++ [.ref a1, .ref b2, .ref c1, .ref c2, .ref c3, .ref c5, .ref c7] : List V)[j]? = some x := ⟨_, List.getElem?_eq_getElem (by exact hj)⟩
    obtain ⟨d, th⟩ := each x (List.mem_of_getElem? hx)
    exact ⟨L3, _, _, x, rfl, rfl, sq s3, atI_nat hx, q H' x d (fun b o nb e => kx b o nb (al17 b o e)) stx (th.al gx)⟩
end
end Lk

/-! The law's own look at scripts. -/
namespace Lk
open PySem PySem.Calls PyProof.Rows PySem.Spec L2 Drw Err
theorem scRowOf : FnScope ["_law_like", "_law_thing"] ["_law_like", "_law_thing"] (defScope sRowOf) := ⟨rfl, rfl, rfl, by decide +kernel, rfl, by decide +kernel, by decide +kernel⟩
theorem scWord : FnScope ["_law_state", "_law_words"] ["_law_state"] (defScope sWord) := ⟨rfl, rfl, rfl, by decide +kernel, rfl, by decide +kernel, by decide +kernel⟩
theorem scIsScript : FnScope ["_law_thing", "_law_opened", "_law_reads", "_law_word_here", "_law_begins", "_law_ends"] ["_law_thing"] (defScope sIsScript) := ⟨rfl, rfl, rfl, by decide +kernel, rfl, by decide +kernel, by decide +kernel⟩
theorem scAreScripts : FnScope ["_law_thing", "_law_one_here"] ["_law_thing"] (defScope sAreScripts) := ⟨rfl, rfl, rfl, by decide +kernel, rfl, by decide +kernel, by decide +kernel⟩
def rowO (k : String) (y : V) : HO := if k = "list" then .lst [y] else .tup [y]
def spRow : Sp := fun vs H Q _ => ∃ (x y : V) (k : String), vs = [x, y] ∧ Kind H x k ∧ ∀ H' t, Al H H' → H t = none → H' t = some (rowO k y) → Q (.ref t) H'
def spWord : Sp := fun vs H Q _ => ∃ (l c : Addr) (ns : List Int), vs = [.ref l] ∧ Stt H l c ns ∧ ∀ H' v d, Kp l H H' → Stt H' l c ns → Th 9 (wo l H') 2 v d → Q v H'
def spIsScr : Sp := fun vs H Q _ => ∃ (b n : Nat) (x : V) (d : PyData), vs = [x] ∧ Th b H n x d ∧ ∀ H', Al H H' → Q (.bl (isScr d)) H'
def spAre : Sp := fun vs H Q _ => ∃ (b n : Nat) (x : V) (d : PyData), vs = [x] ∧ b ≤ 1000 ∧ Th b H n x d ∧ ∀ H', Al H H' → Q (.bl (areScr d)) H'
section
variable {P : Program} {w : World} {K : PySem.W.Frag} {mg : Str → Option Value} {base : Heap}
theorem ok_row {f : Addr} {fd : FuncData} (F : Fun K "_law_row_of" "_law_row_of" sRowOf f fd) (mi : mg "isinstance" = none) (m_list : mg "list" = none) : FnOk P w K mg base CX0 1 f fd ["_law_like", "_law_thing"] spRow := by
  refine F.ok scRowOf (fun vs H Q E h => ?_) (fun cdv A outer s H vs Q E hr h => ?_)
  · obtain ⟨x, y, k, rfl, _⟩ := h
    rfl
  · obtain ⟨x, y, k, rfl, kd, q⟩ := h
    refine ⟨_, pss_one (ps_ret (pe_ifExp (pt_val (pe_callB call_isi (by rfl) mi boot_isinstance (pa_cons (pv 0) (pa_cons (pe_bltn (v := .ty "list") (by rfl) m_list (by decide +kernel) rfl) pa_nil)))) (pe_lst (pa_cons (pv 1) pa_nil)) (pe_tup (pa_cons (pv 1) pa_nil)))), ?_⟩
    have ty := kd.ty (K := K)
    have key : ∃ c : Bool, PySem.W.kitOne K (.type k) (.type "list") = some c ∧ c = decide (k = "list") := by
      cases kd
      · exact ⟨false, kit_ty (by decide +kernel), by decide +kernel⟩
      · exact ⟨false, kit_ty (show kitB "bool" "list" = some false by decide +kernel), by decide +kernel⟩
      · exact ⟨false, kit_ty (show kitB "int" "list" = some false by decide +kernel), by decide +kernel⟩
      · exact ⟨false, kit_ty (show kitB "str" "list" = some false by decide +kernel), by decide +kernel⟩
      · exact ⟨true, kit_ty (show kitB "list" "list" = some true by decide +kernel), by decide +kernel⟩
      · exact ⟨false, kit_ty (show kitB "tuple" "list" = some false by decide +kernel), by decide +kernel⟩
      · exact ⟨false, kit_ty (show kitB "dict" "list" = some false by decide +kernel), by decide +kernel⟩
    obtain ⟨c, kt, ec⟩ := key
    refine ⟨_, rfl, _, _, _, .type "list", c, rfl, .ty _, ty, kt, c, rfl, ?_⟩
    unfold rowO at q
    by_cases hk : k = "list"
    · rw [decide_eq_true hk] at ec
      subst ec
      exact iteT ⟨y, rfl, by show 1 ≤ sizeLine; decide, fun t nt => q _ t (Al.refl.new nt) nt (by rw [if_pos hk]; exact upd_same)⟩
    · rw [decide_eq_false hk] at ec
      subst ec
      exact iteF ⟨y, rfl, by show 1 ≤ sizeLine; decide, fun t nt => q _ t (Al.refl.new nt) nt (by rw [if_neg hk]; exact upd_same)⟩
theorem ok_word {f fO fT : Addr} {fd dO dT : FuncData} (F : Fun K "_law_word" "_law_word" sWord f fd) (O : Can P w K mg base CX0 3 "_law_odd" ["_law_state"] spOddX fO dO) (T : Can P w K mg base CX0 2 "_law_take" ["_law_state", "_law_many"] spTake fT dT) :
    FnOk P w K mg base CX0 4 f fd ["_law_state"] spWord := by
  refine F.ok scWord (fun vs H Q E h => ?_) (fun cdv A outer s H vs Q E hr h => ?_)
  · obtain ⟨l, c, ns, rfl, _⟩ := h
    rfl
  · obtain ⟨l, c, ns, rfl, st, q⟩ := h
    refine ⟨_, pss_cons (ps_set (i := 1) scWord.nd rfl (.inl rfl) (pe_tup (pa_cons pe_str (pa_cons pe_str (pa_cons pe_str (pa_cons pe_str (pa_cons pe_str (pa_cons pe_str (pa_cons pe_str (pa_cons pe_str (pa_cons pe_str pa_nil)))))))))))
      (pss_one (ps_ret (pe_ifExp (pt_cmpR op_eq (pe_call T.G (hr.mono (by decide)) (by rfl) T.g T.kp T.b .nil pass0 (pa_cons (pv 0) (pa_cons pe_int pa_nil))) pe_int (nomark _)) (pe_call O.G hr (by rfl) O.g O.kp O.b .nil pass0 (pa_cons (pv 0) pa_nil))
        (pe_ix ix_tup (pv 1) (pe_call T.G (hr.mono (by decide)) (by rfl) T.g T.kp T.b .nil pass0 (pa_cons (pv 0) (pa_cons pe_int pa_nil))) (fun _ _ => rfl))))), ?_⟩
    have hl0 : H l ≠ none := fun z => by
      obtain ⟨⟨_, _, _, hl⟩, _⟩ := st
      rw [z] at hl
      cases hl
    refine ⟨by show 9 ≤ sizeLine; decide, fun t nt => ?_⟩
    have k1 := (Al.refl (H := H)).new (o := .tup [.str "begin", .str "immediate", .str "exclusive", .str "commit", .str "rollback", .str "read", .str "start", .str "stop", .str "write"]) nt
    have tl : t ≠ l := fun z => hl0 (by rw [← z]; exact nt)
    have s1 : upd H t (.tup [.str "begin", .str "immediate", .str "exclusive", .str "commit", .str "rollback", .str "read", .str "start", .str "stop", .str "write"]) t = some (.tup [.str "begin", .str "immediate", .str "exclusive", .str "commit", .str "rollback", .str "read", .str "start", .str "stop", .str "write"]) := upd_same
    generalize upd H t (.tup [.str "begin", .str "immediate", .str "exclusive", .str "commit", .str "rollback", .str "read", .str "start", .str "stop", .str "write"]) = H1 at k1 s1 ⊢
    refine ⟨.ref l, rfl, l, c, ns, 4, rfl, by decide, by decide, st.up k1, fun H2 d k2 st2 d0 d4 => ?_⟩
    have kp2 : Kp l H H2 := fun b o n e => k2 b o n (k1 b o e)
    refine ⟨rfl, _, rfl, ite2 (fun e => ?_) (fun e => ?_)⟩
    · exact ⟨.ref l, rfl, l, c, ns, rfl, st2, fun H3 v d k3 st3 th => q H3 v d (fun b o n e => k3 b o n (kp2 b o n e)) st3 th⟩
    · refine ⟨.ref t, rfl, .ref l, rfl, l, c, ns, 9, rfl, by decide, by decide, st2, fun H3 d k3 st3 d0 d9 => ?_⟩
      obtain ⟨j, rfl⟩ := Int.eq_ofNat_of_zero_le d0
      have s3 := k3 _ _ tl (k2 _ _ tl s1)
      have hj : j < 9 := by omega
      obtain ⟨x, hx⟩ : ∃ x, ([.str "begin", .str "immediate", .str "exclusive", .str "commit", .str "rollback", .str "read", .str "start", .str "stop", .str "write"] : List V)[j]? = some x := ⟨_, List.getElem?_eq_getElem (by exact hj)⟩
      refine ⟨t, _, _, x, rfl, rfl, sqt s3, atI_nat hx, ?_⟩
      have hm := List.mem_of_getElem? hx
      have each : ∃ d, Th 9 (wo l H3) 2 x d := by
        simp only [List.mem_cons, List.not_mem_nil, or_false] at hm
        rcases hm with rfl | rfl | rfl | rfl | rfl | rfl | rfl | rfl | rfl <;> exact ⟨_, .leaf _ (.str _ (by decide +kernel))⟩
      obtain ⟨d, th⟩ := each
      exact q H3 x d (fun b o n e => k3 b o n (kp2 b o n e)) st3 th
end
end Lk

namespace Lk
open PySem PySem.Calls PyProof.Rows PySem.Spec L2 Drw Err
def begs : List Str := ["begin", "immediate", "exclusive"]
def ends2 : List Str := ["commit", "rollback"]
def nine : List Str := ["begin", "immediate", "exclusive", "commit", "rollback", "read", "start", "stop", "write"]
theorem may_law : ∀ w ∈ nine, ∀ o r : Bool, mayB w o r = (!((inW w begs && o) || (inW w ends2 && !o)) && !((decide (w = "start") && r) || (decide (w = "stop") && !r))) := by decide +kernel
theorem may_nine {w : Str} {o r : Bool} (h : ¬ w ∈ nine) : mayB w o r = false := by
  cases e : mayB w o r with
  | false => rfl
  | true =>
    refine absurd ?_ h
    have z := may_word e
    simp only [words9, List.mem_cons, List.not_mem_nil, or_false] at z
    simp only [nine, List.mem_cons, List.not_mem_nil, or_false]
    rcases z with h | h | h | h | h | h | h | h | h <;> simp only [h, true_or, or_true]
section
variable {P : Program} {w : World} {K : PySem.W.Frag} {mg : Str → Option Value} {base : Heap}
theorem ok_isScript {f : Addr} {fd : FuncData} (F : Fun K "_law_is_script" "_law_is_script" sIsScript f fd) (mi : mg "isinstance" = none) (ml : mg "len" = none) (m_list : mg "list" = none) (m_tuple : mg "tuple" = none) (m_str : mg "str" = none) : FnOk P w K mg base CX0 1 f fd ["_law_thing"] spIsScr := by
  refine F.ok scIsScript (fun vs H Q E h => ?_) (fun cdv A outer s H vs Q E hr h => ?_)
  · obtain ⟨b, n, x, d, rfl, _⟩ := h
    rfl
  · obtain ⟨b, n, x, d, rfl, th, q⟩ := h
    refine ⟨_, pss_cons (ps_if (PW.pt (pw_or (pt_not (pt_val (pe_callB call_isiT (by rfl) mi boot_isinstance (pa_cons (pv 0) (pa_cons (pe_tup (pa_cons (pe_bltn (v := .ty "list") (by rfl) m_list (by decide +kernel) rfl) (pa_cons (pe_bltn (v := .ty "tuple") (by rfl) m_tuple (by decide +kernel) rfl) pa_nil))) pa_nil)))))
          (pw_or1 (pt_cmpR op_gt (pe_callB call_len_seq (by rfl) ml PySem.boot_len (pa_cons (pv 0) pa_nil)) pe_int (nomark _))))) (pss_one (ps_ret pe_bl)) pss_nil)
      (pss_cons (ps_asg (pe_tup (pa_cons pe_bl (pa_cons pe_bl pa_nil))) (pg_tup rfl (pgs_cons (pg_name (i := 1) scIsScript.nd rfl (.inl rfl)) (pgs_cons (pg_name (i := 2) scIsScript.nd rfl (.inl rfl)) pgs_nil))))
      (pss_cons (ps_for PassesOwn.never rfl (pi_two (pi_list (pv 0)) (pi_tup (pv 0))) (pg_name (i := 3) scIsScript.nd rfl (Or.inl rfl))
        (pss_cons (ps_asg (pe_tup (pa_cons (pe_tup (pa_cons pe_str (pa_cons pe_str (pa_cons pe_str pa_nil)))) (pa_cons (pe_tup (pa_cons pe_str (pa_cons pe_str pa_nil))) pa_nil))) (pg_tup rfl (pgs_cons (pg_name (i := 4) scIsScript.nd rfl (.inl rfl)) (pgs_cons (pg_name (i := 5) scIsScript.nd rfl (.inl rfl)) pgs_nil))))
        (C8.pss_cut (ps_if (PW.pt (pw_or (pt_not (pt_val (pe_callB call_isi (by rfl) mi boot_isinstance (pa_cons (pv 3) (pa_cons (pe_bltn (v := .ty "str") (by rfl) m_str (by decide +kernel) rfl) pa_nil)))))
            (pw_or1 (pt_cmpR op_notIn_seq (pv 3) (pe_op op_catA (pe_op op_catA (pv 4) (pv 5)) (pe_tup (pa_cons pe_str (pa_cons pe_str (pa_cons pe_str (pa_cons pe_str pa_nil)))))) rfl)))) (pss_one (ps_ret pe_bl)) pss_nil)
        (C8.pss_cut (ps_if (PW.pt (pw_or (PW.pt (pw_and (pt_cmpR op_in_seq (pv 3) (pv 4) rfl) (pw_and1 (pt_val (pv 1))))) (pw_or1 (PW.pt (pw_and (pt_cmpR op_in_seq (pv 3) (pv 5) rfl) (pw_and1 (pt_not (pt_val (pv 1))))))))) (pss_one (ps_ret pe_bl)) pss_nil)
        (C8.pss_cut (ps_if (PW.pt (pw_or (PW.pt (pw_and (pt_cmpR op_eq (pv 3) pe_str (nomark _)) (pw_and1 (pt_val (pv 2))))) (pw_or1 (PW.pt (pw_and (pt_cmpR op_eq (pv 3) pe_str (nomark _)) (pw_and1 (pt_not (pt_val (pv 2))))))))) (pss_one (ps_ret pe_bl)) pss_nil)
        (C8.pss_cut (ps_set (i := 1) scIsScript.nd rfl (.inl rfl) (pe_and (pe_cmpR op_notIn_seq (pv 3) (pv 5) rfl) (pe_one (pe_or (pv 1) (pe_one (pe_cmpR op_in_seq (pv 3) (pv 4) rfl))))))
        (pss_one (ps_set (i := 2) scIsScript.nd rfl (.inl rfl) (pe_and (pe_cmpR op_ne (pv 3) pe_str (nomark _)) (pe_one (pe_or (pv 2) (pe_one (pe_cmpR op_eq (pv 3) pe_str (nomark _)))))))))))))) 
      (pss_one (ps_ret pe_bl)))), ?_⟩
    refine ⟨x, rfl, by show 2 ≤ sizeLine; decide, fun tp ntp => ?_⟩
    have k1 := (Al.refl (H := H)).new (o := .tup [.ty "list", .ty "tuple"]) ntp
    have th1 := th.al k1
    have q1 := q _ k1
    refine ⟨x, tp, _, .type (kindS d), _, isSeq d, rfl, upd_same, .cons (.ty _) (.cons (.ty _) .nil), th1.kind.ty, kit_seq d, isSeq d, rfl, ?_⟩
    rcases th1.split with ⟨n1, n2, _⟩ | ⟨m, a, xs, ds, rfl, rfl, ga, hd, hL, hT, hl, hb, hx⟩
    · rw [isSeq_no n1 n2]
      refine iteT ?_
      refine iteT ?_
      have e : isScr d = false := by
        cases d with
        | list ds => exact absurd rfl (n1 ds)
        | tuple ds => exact absurd rfl (n2 ds)
        | _ => rfl
      rw [e] at q1
      exact q1
    rw [isSeq_of hd]
    refine iteF ?_
    have is : isScr d = (decide (ds.length ≤ 8) && okD ds false false) := by rcases hd with rfl | rfl <;> rfl
    generalize eH1 : upd H tp (.tup [.ty "list", .ty "tuple"]) = H1 at k1 th1 ga hL hT hx q1
    have sq1 : Sq K H1 a xs := ga.imp (fun z => sq z) fun z => sqt z
    refine ⟨.ref a, rfl, a, xs, rfl, sq1, _, _, rfl, rfl, _, rfl, ite2 (fun e => ?_) (fun e => ?_)⟩
    · have e : ((xs.length : Nat) : Int) > 8 := of_decide_eq_true e
      rw [is, decide_eq_false (by omega)] at q1
      exact q1
    have e8 : ds.length ≤ 8 := by
      have z : ¬ ((xs.length : Int) > 8) := fun y => e (decide_eq_true y)
      omega
    rw [decide_eq_true e8, Bool.true_and] at is
    refine ⟨by show 2 ≤ sizeLine; decide, fun tq ntq => ⟨tq, _, rfl, sqt upd_same, rfl, _, _, rfl, _, _, rfl, rfl, ?_⟩⟩
    have kq := (Al.refl (H := H1)).new (o := .tup [.bl false, .bl false]) ntq
    have sq2 : Sq K (upd H1 tq (.tup [.bl false, .bl false])) a xs := sq1.al kq
    have hx2 : ∀ (i : Nat) x d, xs[i]? = some x → ds[i]? = some d → Th b (upd H1 tq (.tup [.bl false, .bl false])) m x d := fun i x d e1 e2 => (hx i x d e1 e2).al kq
    have k1 := k1.trans kq
    clear sq1 hx hL hT ga q1 th1
    generalize upd H1 tq (.tup [.bl false, .bl false]) = H1 at k1 sq2 hx2 ⊢
    have sq1 := sq2
    have hx := hx2
    have said : ∀ (c : Bool), isScr d = c → ∀ H', Al H1 H' → Q (.bl c) H' := fun c e H' k => by
      rw [← e]
      exact q H' (k1.trans k)
    have start : ∃ (o r : Bool) (y3 y4 y5 : Option V), [some (.ref a), some (.bl false), some (.bl false), none, none, none] = [some (.ref a), some (.bl o), some (.bl r), y3, y4, y5] ∧ isScr d = okD (ds.drop 0) o r ∧ Al H1 H1 := ⟨false, false, none, none, none, rfl, is, Al.refl⟩
    refine sq1.elim (fun hL => .inl ⟨.ref a, rfl, a, rfl, ⟨_, hL⟩, for_list (xs := xs) (fun i σ H2 => ∃ (o r : Bool) (y3 y4 y5 : Option V), σ = [some (.ref a), some (.bl o), some (.bl r), y3, y4, y5] ∧ isScr d = okD (ds.drop i) o r ∧ Al H1 H2) start (fun i σ H2 _ ⟨_, _, _, _, _, _, _, k⟩ => sqL_al hL k) ?turn ?after⟩)
      (fun hT => .inr ⟨.ref a, rfl, a, rfl, ⟨_, hT⟩, for_tup (xs := xs) (fun i σ H2 => ∃ (o r : Bool) (y3 y4 y5 : Option V), σ = [some (.ref a), some (.bl o), some (.bl r), y3, y4, y5] ∧ isScr d = okD (ds.drop i) o r ∧ Al H1 H2) start (fun i σ H2 _ ⟨_, _, _, _, _, _, _, k⟩ => sqT_al hT k) ?turn2 ?after2⟩)
    case after | after2 =>
      rintro σ H2 ⟨o, r, y3, y4, y5, rfl, okd, k2⟩
      rw [hl, List.drop_length] at okd
      exact said true okd H2 k2
    case turn | turn2 =>
      rintro i z σ H2 hz ⟨o, r, y3, y4, y5, rfl, okd, k2⟩
      have hi : i < ds.length := by
        have y := (List.getElem?_eq_some_iff.mp hz).1
        omega
      have thz := (hx i z _ hz (List.getElem?_eq_getElem hi)).al k2
      rw [okD_drop hi] at okd
      refine ⟨by show 3 ≤ sizeLine; decide, fun tb nb => ⟨by show 2 ≤ sizeLine; decide, fun te ne => ⟨by show 2 ≤ sizeLine; decide, fun tt nt => ⟨tt, _, rfl, sqt upd_same, rfl, _, _, rfl, _, _, rfl, rfl, ?_⟩⟩⟩⟩
      have kb := (Al.refl (H := H2)).new (o := .tup [.str "begin", .str "immediate", .str "exclusive"]) nb
      have ke := (Al.refl).new (o := .tup [.str "commit", .str "rollback"]) ne
      have kt := (Al.refl).new (o := .tup [.ref tb, .ref te]) nt
      have eb := kt _ _ (ke tb _ (upd_same (o := .tup [.str "begin", .str "immediate", .str "exclusive"])))
      have ee := kt te _ (upd_same (o := .tup [.str "commit", .str "rollback"]))
      have k3 := k2.trans ((kb.trans ke).trans kt)
      have thz3 := thz.al ((kb.trans ke).trans kt)
      generalize eH3 : upd (upd (upd H2 tb (.tup [.str "begin", .str "immediate", .str "exclusive"])) te (.tup [.str "commit", .str "rollback"])) tt (.tup [.ref tb, .ref te]) = H3 at k3 eb ee thz3
      have eb : H3 tb = some (.tup (begs.map V.str)) := eb
      have ee : H3 te = some (.tup (ends2.map V.str)) := ee
      refine ⟨fun σ H4 => ∃ v, ds[i] = .str v ∧ v ∈ nine ∧ σ = [some (.ref a), some (.bl o), some (.bl r), some (.str v), some (.ref tb), some (.ref te)] ∧ Al H3 H4, ?_, ?_⟩
      · rcases thz3.isStr with ⟨v, ev, rfl⟩ | ⟨n1, n2⟩
        · refine ⟨.str v, rfl, _, _, _, .type "str", true, rfl, .ty _, .base (.str v), kit_ty (by decide +kernel), true, rfl, iteF ?_⟩
          refine ⟨.str v, rfl, .ref tb, rfl, .ref te, rfl, cat_any eb ee (by decide) fun H4 t4 k4 e4 => ⟨by show 4 ≤ sizeLine; decide, fun t5 n5 => cat_any ((Al.refl.new n5) _ _ e4) upd_same (by decide) fun H6 t6 k6 e6 => ⟨t6, _, rfl, .inr (sqt e6), rfl, rfl, _, rfl, ite2 (fun e => ?_) (fun e => ?_)⟩⟩⟩
          · have e : (!inW v nine) = true := e
            refine said false ?_ H6 (k3.trans ((k4.new n5).trans k6))
            rw [okd, ev]
            have nv : ¬ v ∈ nine := fun h => by
              rw [inW_mem.mpr h] at e
              cases e
            show (mayB v o r && _) = false
            rw [may_nine nv]
            rfl
          · have e : ¬ (!inW v nine) = true := e
            refine ⟨v, ev, ?_, rfl, (k4.new n5).trans k6⟩
            refine inW_mem.mp ?_
            cases y : inW v nine with
            | true => rfl
            | false =>
              rw [y] at e
              exact absurd rfl e
        · have kd := thz3.kind
          have ks : PySem.W.kitOne K (.type (kindS ds[i])) (.type "str") = some false := by
            generalize ds[i] = di at n1
            cases di with
            | str v => exact absurd rfl (n1 v)
            | none => exact kit_ty (show kitB "NoneType" "str" = some false by decide +kernel)
            | bool b => exact kit_ty (show kitB "bool" "str" = some false by decide +kernel)
            | int i => exact kit_ty (show kitB "int" "str" = some false by decide +kernel)
            | list l => exact kit_ty (show kitB "list" "str" = some false by decide +kernel)
            | tuple l => exact kit_ty (show kitB "tuple" "str" = some false by decide +kernel)
            | dict l => exact kit_ty (show kitB "dict" "str" = some false by decide +kernel)
          refine ⟨z, rfl, _, _, _, .type "str", false, rfl, .ty _, kd.ty, ks, false, rfl, iteT (iteT ?_)⟩
          refine said false ?_ H3 k3
          rw [okd]
          generalize ds[i] = di at n1
          cases di with
          | str v => exact absurd rfl (n1 v)
          | _ => rfl
      rintro σ H4 ⟨v, ev, hv, rfl, k4⟩
      rw [ev] at okd
      have okd : isScr d = (mayB v o r && okD (ds.drop (i + 1)) (opnB v o) (rdsB v r)) := okd
      have eb4 := k4 _ _ eb
      have ee4 := k4 _ _ ee
      have k04 := k3.trans k4
      have ml4 := may_law v hv o r
      refine ⟨fun σ H5 => H5 = H4 ∧ σ = [some (.ref a), some (.bl o), some (.bl r), some (.str v), some (.ref tb), some (.ref te)] ∧ ((inW v begs && o) || (inW v ends2 && !o)) = false, ?_, ?_⟩
      · have bad : ((inW v begs && o) || (inW v ends2 && !o)) = true → Q (.bl false) H4 := fun e => said false (by rw [okd, ml4, e]; rfl) H4 k04
        have ok : ((inW v begs && o) || (inW v ends2 && !o)) = false → H4 = H4 ∧ [some (V.ref a), some (.bl o), some (.bl r), some (.str v), some (.ref tb), some (.ref te)] = [some (.ref a), some (.bl o), some (.bl r), some (.str v), some (.ref tb), some (.ref te)] ∧ ((inW v begs && o) || (inW v ends2 && !o)) = false := fun e => ⟨rfl, rfl, e⟩
        refine ⟨.str v, rfl, .ref tb, rfl, tb, _, rfl, .inr (sqt eb4), rfl, rfl, inW v begs, rfl, ?_⟩
        cases e1 : inW v begs with
        | true =>
          rw [e1] at bad ok
          refine iteT ⟨.bl o, rfl, o, rfl, ?_⟩
          cases o with
          | true => exact iteT (bad rfl)
          | false =>
            refine iteF ⟨.str v, rfl, .ref te, rfl, te, _, rfl, .inr (sqt ee4), rfl, rfl, inW v ends2, rfl, ?_⟩
            cases e2 : inW v ends2 with
            | true =>
              rw [e2] at bad
              exact iteT ⟨.bl false, rfl, false, rfl, iteT (bad rfl)⟩
            | false =>
              rw [e2] at ok
              exact iteF (ok rfl)
        | false =>
          rw [e1] at bad ok
          refine iteF ⟨.str v, rfl, .ref te, rfl, te, _, rfl, .inr (sqt ee4), rfl, rfl, inW v ends2, rfl, ?_⟩
          cases e2 : inW v ends2 with
          | true =>
            rw [e2] at bad ok
            refine iteT ⟨.bl o, rfl, o, rfl, ?_⟩
            cases o with
            | false => exact iteT (bad rfl)
            | true => exact iteF (ok rfl)
          | false =>
            rw [e2] at ok
            exact iteF (ok rfl)
      rintro σ H5 ⟨rfl, rfl, e5⟩
      rw [e5] at ml4
      refine ⟨fun σ H6 => H6 = H5 ∧ σ = [some (.ref a), some (.bl o), some (.bl r), some (.str v), some (.ref tb), some (.ref te)] ∧ ((decide (v = "start") && r) || (decide (v = "stop") && !r)) = false, ?_, ?_⟩
      · have bad : ((decide (v = "start") && r) || (decide (v = "stop") && !r)) = true → Q (.bl false) H5 := fun e => said false (by rw [okd, ml4, e]; rfl) H5 k04
        have ok : ((decide (v = "start") && r) || (decide (v = "stop") && !r)) = false → H5 = H5 ∧ [some (V.ref a), some (.bl o), some (.bl r), some (.str v), some (.ref tb), some (.ref te)] = [some (.ref a), some (.bl o), some (.bl r), some (.str v), some (.ref tb), some (.ref te)] ∧ ((decide (v = "start") && r) || (decide (v = "stop") && !r)) = false := fun e => ⟨rfl, rfl, e⟩
        refine ⟨.str v, rfl, rfl, _, rfl, ?_⟩
        rw [eq_str]
        cases e1 : decide (v = "start") with
        | true =>
          rw [e1] at bad ok
          refine iteT ⟨.bl r, rfl, r, rfl, ?_⟩
          cases r with
          | true => exact iteT (bad rfl)
          | false =>
            refine iteF ⟨.str v, rfl, rfl, _, rfl, ?_⟩
            rw [eq_str]
            cases e2 : decide (v = "stop") with
            | true =>
              rw [e2] at bad
              exact iteT ⟨.bl false, rfl, false, rfl, iteT (bad rfl)⟩
            | false =>
              rw [e2] at ok
              exact iteF (ok rfl)
        | false =>
          rw [e1] at bad ok
          refine iteF ⟨.str v, rfl, rfl, _, rfl, ?_⟩
          rw [eq_str]
          cases e2 : decide (v = "stop") with
          | true =>
            rw [e2] at bad ok
            refine iteT ⟨.bl r, rfl, r, rfl, ?_⟩
            cases r with
            | false => exact iteT (bad rfl)
            | true => exact iteF (ok rfl)
          | false =>
            rw [e2] at ok
            exact iteF (ok rfl)
      rintro σ H6 ⟨rfl, rfl, e6⟩
      rw [e6] at ml4
      have ml4 : mayB v o r = true := ml4
      rw [ml4, Bool.true_and] at okd
      refine ⟨fun σ H7 => H7 = H6 ∧ σ = [some (.ref a), some (.bl (opnB v o)), some (.bl r), some (.str v), some (.ref tb), some (.ref te)], ?_, ?_⟩
      · refine ⟨.str v, rfl, .ref te, rfl, te, _, rfl, .inr (sqt ee4), rfl, rfl, _, rfl, ite2 (fun e1 => ?_) (fun e1 => ?_)⟩
        · have f1 : (!inW v ["commit", "rollback"]) = true := e1
          refine ⟨.bl o, rfl, o, rfl, ite2 (fun e2 => ?_) (fun e2 => ?_)⟩
          · refine ⟨rfl, ?_⟩
            unfold opnB
            rw [f1, e2]
            rfl
          · refine ⟨.str v, rfl, .ref tb, rfl, tb, _, rfl, .inr (sqt eb4), rfl, rfl, rfl, ?_⟩
            unfold opnB
            rw [f1, Bool.eq_false_iff.mpr e2]
            rfl
        · have f1 : (!inW v ["commit", "rollback"]) = false := Bool.eq_false_iff.mpr e1
          refine ⟨rfl, ?_⟩
          unfold opnB
          rw [f1]
          rfl
      rintro σ H7 ⟨rfl, rfl⟩
      have fin : ∀ c : Bool, c = rdsB v r → ∃ (o' r' : Bool) (y3 y4 y5 : Option V), [some (V.ref a), some (.bl (opnB v o)), some (.bl c), some (.str v), some (.ref tb), some (.ref te)] = [some (.ref a), some (.bl o'), some (.bl r'), y3, y4, y5] ∧ isScr d = okD (ds.drop (i + 1)) o' r' ∧ Al H1 H7 := fun c e => ⟨_, _, _, _, _, rfl, by rw [e]; exact okd, k04⟩
      refine ⟨.str v, rfl, rfl, _, rfl, ite2 (fun e1 => ?_) (fun e1 => ?_)⟩
      · have f1 : (!decide (v = "stop")) = true := by
          rw [← eq_str]
          exact e1
        refine ⟨.bl r, rfl, r, rfl, ite2 (fun e2 => ?_) (fun e2 => ?_)⟩
        · refine fin _ ?_
          unfold rdsB
          rw [f1, e2]
          rfl
        · refine ⟨.str v, rfl, rfl, fin _ ?_⟩
          unfold rdsB
          rw [f1, Bool.eq_false_iff.mpr e2, eq_str]
          rfl
      · refine fin _ ?_
        have f1 : (!decide (v = "stop")) = false := by
          rw [← eq_str]
          exact Bool.eq_false_iff.mpr e1
        unfold rdsB
        rw [f1]
        rfl
end
end Lk

namespace Lk
open PySem PySem.Calls PyProof.Rows PySem.Spec L2 Drw Err
def spBegunX : Sp := fun vs H Q _ => ∃ (a : Addr) (xs : List V), vs = [.ref a] ∧ Sp' H a xs ∧ xs.length ≤ 1000 ∧ ∀ H' t, Al H H' → H t = none → Kids H' t (List.replicate xs.length row0) → Q (.ref t) H'
section
variable {P : Program} {w : World} {K : PySem.W.Frag} {mg : Str → Option Value} {base : Heap}
theorem ok_areScripts {f fS : Addr} {fd dS : FuncData} (F : Fun K "_law_are_scripts" "_law_are_scripts" sAreScripts f fd) (S : Can P w K mg base CX0 1 "_law_is_script" ["_law_thing"] spIsScr fS dS) (mi : mg "isinstance" = none) (ml : mg "len" = none) (m_list : mg "list" = none) (m_tuple : mg "tuple" = none) (m_all : mg "all" = none) : FnOk P w K mg base CX0 2 f fd ["_law_thing"] spAre := by
  refine F.ok scAreScripts (fun vs H Q E h => ?_) (fun cdv A outer s H vs Q E hr h => ?_)
  · obtain ⟨b, n, x, d, rfl, _⟩ := h
    rfl
  · obtain ⟨b, n, x, d, rfl, b1000, th, q⟩ := h
    refine ⟨_, pss_cons (ps_if (PW.pt (pw_or (pt_not (pt_val (pe_callB call_isiT (by rfl) mi boot_isinstance (pa_cons (pv 0) (pa_cons (pe_tup (pa_cons (pe_bltn (v := .ty "list") (by rfl) m_list (by decide +kernel) rfl) (pa_cons (pe_bltn (v := .ty "tuple") (by rfl) m_tuple (by decide +kernel) rfl) pa_nil))) pa_nil)))))
          (pw_or1 (pt_not (pt_chain op_lt op_lt pe_int (pe_callB call_len_seq (by rfl) ml PySem.boot_len (pa_cons (pv 0) pa_nil)) pe_int))))) (pss_one (ps_ret pe_bl)) pss_nil)
      (pss_one (ps_ret (pe_callB (cr_all rfl) (by rfl) m_all boot_all (pa_cons (pe_lc (own := [("_law_one_here", 1)]) (g := gName 1) (tt := tYes) rfl scAreScripts.nd (pi_two (pi_list (pv 0)) (pi_tup (pv 0)))
        (blkOk_by (N := ["_law_thing", "_law_one_here"]) (sc := defScope sAreScripts) (by decide +kernel)) (fun _ _ _ _ _ => pg_name (i := 1) scAreScripts.nd rfl (Or.inl rfl)) (fun _ _ _ _ _ => pts_nil)
        (fun _ _ _ _ _ => pe_call S.G hr (by rfl) S.g S.kp S.b .nil pass0 (pa_cons (pv 1) pa_nil))) pa_nil)))), ?_⟩
    refine ⟨x, rfl, by show 2 ≤ sizeLine; decide, fun tp ntp => ?_⟩
    have k1 := (Al.refl (H := H)).new (o := .tup [.ty "list", .ty "tuple"]) ntp
    have th1 := th.al k1
    have q1 := q _ k1
    refine ⟨x, tp, _, .type (kindS d), _, isSeq d, rfl, upd_same, .cons (.ty _) (.cons (.ty _) .nil), th1.kind.ty, kit_seq d, isSeq d, rfl, ?_⟩
    rcases th1.split with ⟨n1, n2, _⟩ | ⟨m, a, xs, ds, rfl, rfl, ga, hd, hL, hT, hl, hb, hx⟩
    · rw [isSeq_no n1 n2]
      refine iteT (iteT ?_)
      have e : areScr d = false := by
        cases d with
        | list ds => exact absurd rfl (n1 ds)
        | tuple ds => exact absurd rfl (n2 ds)
        | _ => rfl
      rw [e] at q1
      exact q1
    rw [isSeq_of hd]
    refine iteF ?_
    have is : areScr d = ((decide (1 ≤ ds.length) && decide (ds.length ≤ 4)) && ds.all isScr) := by rcases hd with rfl | rfl <;> rfl
    generalize eH1 : upd H tp (.tup [.ty "list", .ty "tuple"]) = H1 at k1 th1 ga hL hT hx q1
    have sq1 : Sq K H1 a xs := ga.imp (fun z => sq z) fun z => sqt z
    refine ⟨.ref a, rfl, a, xs, rfl, sq1, _, _, rfl, rfl, _, rfl, ?_⟩
    by_cases h1 : 1 ≤ xs.length
    case neg =>
      rw [is, decide_eq_false (by omega)] at q1
      rw [decide_eq_false (by omega)]
      exact iteF ⟨false, rfl, iteT q1⟩
    rw [decide_eq_true (by omega)]
    refine iteT ⟨_, _, rfl, rfl, _, rfl, ?_⟩
    by_cases h4 : xs.length ≤ 4
    case neg =>
      rw [is, decide_eq_true (by omega : 1 ≤ ds.length), decide_eq_false (by omega)] at q1
      rw [decide_eq_false (by omega)]
      exact iteT q1
    rw [decide_eq_true (by omega)]
    refine iteF ?_
    rw [decide_eq_true (by omega : 1 ≤ ds.length), decide_eq_true (by omega : ds.length ≤ 4), Bool.and_self, Bool.true_and] at is
    have start : ∀ D, H1 D = none → Al H1 (upd H1 D (.lst [])) ∧ upd H1 D (.lst []) D = some (.lst (((ds.take 0).map isScr).map V.bl)) := fun D nD => ⟨Al.refl.new nD, upd_same⟩
    refine sq1.elim (fun hL => .inl ⟨.ref a, rfl, a, rfl, ⟨_, hL⟩, fun D nD => lc_list (xs := xs) (fun i H2 => Al H1 H2 ∧ H2 D = some (.lst (((ds.take i).map isScr).map V.bl))) (start D nD) (fun i H2 _ ⟨k, _⟩ => sqL_al hL k) ?turn ?after⟩)
      (fun hT => .inr ⟨.ref a, rfl, a, rfl, ⟨_, hT⟩, fun D nD => lc_tup (xs := xs) (fun i H2 => Al H1 H2 ∧ H2 D = some (.lst (((ds.take i).map isScr).map V.bl))) (start D nD) (fun i H2 _ ⟨k, _⟩ => sqT_al hT k) ?turn2 ?after2⟩)
    case turn | turn2 =>
      rintro i z H2 hz ⟨k2, y1⟩
      have hi : i < ds.length := by
        have y := (List.getElem?_eq_some_iff.mp hz).1
        omega
      have thz := (hx i z _ hz (List.getElem?_eq_getElem hi)).al k2
      refine ⟨rfl, z, rfl, b, _, z, ds[i], rfl, thz, fun H3 k3 => ?_⟩
      have yD := k3 _ _ y1
      refine ⟨_, yD, ?_, fun b' o z => ?_, ?_⟩
      · rw [List.length_map, List.length_map, List.length_take]
        exact small1000 (by omega)
      · have z1 := k3 _ _ (k2 _ _ z)
        rwa [upd_ne (ne_of_none z nD)]
      · rw [upd_same, List.take_add_one, List.getElem?_eq_getElem hi, List.map_append, List.map_append]
        rfl
    case after | after2 =>
      rintro H2 ⟨k2, y1⟩
      refine ⟨D, (ds.take xs.length).map isScr, rfl, sq y1, ?_⟩
      have e : ((ds.take xs.length).map isScr).all id = areScr d := by
        rw [is, hl, List.take_length, List.all_map]
        rfl
      rw [e]
      exact q H2 (k1.trans k2)
theorem ok_begunX {f : Addr} {fd : FuncData} (F : Fun K "_law_begun" "_law_begun" sBegun f fd) (mt : mg "tuple" = none) : FnOk P w K mg base CX0 1 f fd ["_law_scripts_here"] spBegunX := by
  refine F.ok scBegun (fun vs H Q E h => ?_) (fun cdv A outer s H vs Q E hr h => ?_)
  · obtain ⟨a, xs, rfl, _⟩ := h
    rfl
  · obtain ⟨a, xs, rfl, ga, h1000, q⟩ := h
    refine ⟨_, pss_one (ps_ret (pe_callTy call_tuple_of (by rfl) mt (by decide +kernel) (pa_cons (pe_lc (own := [("_law_one_here", 1)]) (g := gName 1) (tt := tYes) rfl scBegun.nd (pi_two (pi_list (pv 0)) (pi_tup (pv 0)))
      (blkOk_by (N := ["_law_scripts_here", "_law_one_here"]) (sc := defScope sBegun) (by decide +kernel)) (fun _ _ _ _ _ => pg_name (i := 1) scBegun.nd rfl (Or.inl rfl)) (fun _ _ _ _ _ => pts_nil)
      (fun _ _ _ _ _ => pe_tup (pa_cons pe_int (pa_cons pe_bl (pa_cons pe_bl (pa_cons pe_int pa_nil)))))) pa_nil))), ?_⟩
    have sq1 : Sq K H a xs := ga.imp (fun z => sq z) fun z => sqt z
    have start : ∀ D, H D = none → Al H (upd H D (.lst [])) ∧ ∃ ys : List V, upd H D (.lst []) D = some (.lst ys) ∧ ys.length = 0 ∧ ∀ j, j < 0 → ∃ c, ys[j]? = some (.ref c) ∧ upd H D (.lst []) c = some (.tup row0) := fun D nD => ⟨Al.refl.new nD, [], upd_same, rfl, fun j h => by omega⟩
    refine sq1.elim (fun hL => .inl ⟨.ref a, rfl, a, rfl, ⟨_, hL⟩, fun D nD => lc_list (xs := xs) (fun i H2 => Al H H2 ∧ ∃ ys : List V, H2 D = some (.lst ys) ∧ ys.length = i ∧ ∀ j, j < i → ∃ c, ys[j]? = some (.ref c) ∧ H2 c = some (.tup row0)) (start D nD) (fun i H2 _ ⟨k, _⟩ => sqL_al hL k) ?turn ?after⟩)
      (fun hT => .inr ⟨.ref a, rfl, a, rfl, ⟨_, hT⟩, fun D nD => lc_tup (xs := xs) (fun i H2 => Al H H2 ∧ ∃ ys : List V, H2 D = some (.lst ys) ∧ ys.length = i ∧ ∀ j, j < i → ∃ c, ys[j]? = some (.ref c) ∧ H2 c = some (.tup row0)) (start D nD) (fun i H2 _ ⟨k, _⟩ => sqT_al hT k) ?turn2 ?after2⟩)
    case turn | turn2 =>
      rintro i z H2 hz ⟨k2, ys, y1, y2, y3⟩
      have hi : i < xs.length := (List.getElem?_eq_some_iff.mp hz).1
      refine ⟨rfl, by show 4 ≤ sizeLine; decide, fun t nt => ?_⟩
      have Dt : D ≠ t := ne_of_none y1 nt
      have nDm : H D = none := nD
      refine ⟨ys, (upd_ne Dt).trans y1, by rw [y2]; exact small1000 (by omega), fun b o e => ?_, ys ++ [.ref t], upd_same, by simp [y2], fun j hj => ?_⟩
      · have z := k2 b o e
        rw [upd_ne (ne_of_none e nDm), upd_ne (ne_of_none z nt)]
        exact z
      · rcases Nat.lt_or_ge j i with h | h
        · obtain ⟨c, e1, e2⟩ := y3 j h
          have cD : c ≠ D := fun z => by
            rw [z, y1] at e2
            cases e2
          refine ⟨c, by rw [List.getElem?_append_left (by omega)]; exact e1, ?_⟩
          rw [upd_ne cD, upd_ne (ne_of_none e2 nt)]
          exact e2
        · obtain rfl : j = i := by omega
          refine ⟨t, by rw [List.getElem?_append_right (by omega), y2, Nat.sub_self]; rfl, ?_⟩
          rw [upd_ne Dt.symm, upd_same]
          rfl
    case after | after2 =>
      rintro H2 ⟨k2, ys, y1, y2, y3⟩
      refine ⟨D, ys, rfl, .inl ⟨sq y1, fun t nt => ?_⟩⟩
      refine q _ t (k2.new nt) (k2.gone nt) ⟨ys, upd_same, by rw [y2, List.length_replicate], fun i c e => ?_⟩
      obtain ⟨h1, h2⟩ := List.getElem?_eq_some_iff.mp e
      rw [List.getElem_replicate] at h2
      rw [List.length_replicate] at h1
      obtain ⟨c', e1, e2⟩ := y3 i h1
      refine ⟨c', e1, ?_⟩
      rw [upd_ne (ne_of_none e2 nt), e2, h2]
end
end Lk

/-! xs[::-1] of a list or a tuple; slices, sums, items of either. -/
namespace RevT
open PySem PySem.Spec PyProof.Rows HT
section
variable {prog : Program} {w : World} {A : Around} {E : Value → Shared → Prop} {s : Shared}
theorem applied_back {sl : Addr} {vs : Value} {n : Nat} {Q : Int × Int × Nat → Shared → Prop} (hs : s.heap.IsSliceOf sl .none .none vs) (ps : IsPart vs (some (-1))) (h : Q ((n : Int) - 1, -1, n) s) : wpAny (model prog w) A (Builtin.Slice.sliceApplied (.ref sl) (pure (n : Int))) Q E s := by
  obtain ⟨o, ho, hc, hd⟩ := id hs
  unfold Builtin.Slice.sliceApplied Builtin.Slice.sliceFields
  refine wpAny_bind (wpAny_bind (wpAny_field ho hd (x := .none) rfl (wpAny_bind (wpAny_field ho hd (x := .none) rfl (wpAny_bind (wpAny_field ho hd (x := vs) rfl (wpAny_pure ?_)))))))
  refine wpAny_bind (slicePart_ ps ?_)
  show wpAny _ _ (if ((-1 : Int) == 0) = true then _ else _) _ _ s
  rw [if_neg (by decide)]
  refine wpAny_bind (slicePart_none (wpAny_bind (slicePart_none (wpAny_bind (wpAny_pure ?_)))))
  have e : Builtin.Slice.sliceAdjust none none (-1) (n : Int) = ((n : Int) - 1, -1) := rfl
  show wpAny _ _ (match Builtin.Slice.sliceAdjust none none (-1) (n : Int) with | (lo, hi) => pure (lo, (-1 : Int), Builtin.Slice.slicePlaces lo hi (-1))) _ _ s
  rw [e]
  have p : Builtin.Slice.slicePlaces ((n : Int) - 1) (-1) (-1) = n := by
    unfold Builtin.Slice.slicePlaces
    have h1 : ¬ ((-1 : Int) > 0) := by decide
    simp only [h1, if_false]
    split
    · rw [show (- -1 : Int) = 1 by decide, Int.ediv_one]
      omega
    · omega
  show wpAny _ _ (pure ((n : Int) - 1, (-1 : Int), Builtin.Slice.slicePlaces ((n : Int) - 1) (-1) (-1))) _ _ s
  rw [p]
  exact wpAny_pure h
theorem back_pick (xs : Array Value) : ((List.range xs.size).filterMap fun (k : Nat) => xs[((xs.size : Int) - 1 + (k : Int) * (-1)).toNat]?).toArray = xs.toList.reverse.toArray := by
  congr 1
  refine List.ext_getElem? fun j => ?_
  have all : ∀ l : List Value, (List.range l.length).filterMap (fun k => l[k]?) = l := fun l => by
    induction l with
    | nil => rfl
    | cons x l ih =>
      rw [List.length_cons, List.range_succ_eq_map, List.filterMap_cons]
      show (x :: List.filterMap _ (List.map Nat.succ _)) = _
      rw [List.filterMap_map]
      exact congrArg (x :: ·) ih
  have cong : ∀ (l : List Nat) (f g : Nat → Option Value), (∀ k ∈ l, f k = g k) → l.filterMap f = l.filterMap g := fun l f g h => by
    induction l with
    | nil => rfl
    | cons x l ih => rw [List.filterMap_cons, List.filterMap_cons, h x (List.mem_cons_self ..), ih fun k hk => h k (List.mem_cons_of_mem _ hk)]
  have e : (List.range xs.size).filterMap (fun (k : Nat) => xs[((xs.size : Int) - 1 + (k : Int) * (-1)).toNat]?) = (List.range xs.toList.reverse.length).filterMap (fun k => xs.toList.reverse[k]?) := by
    rw [List.length_reverse, Array.length_toList]
    refine cong _ _ _ fun k hk => ?_
    have hk := List.mem_range.mp hk
    rw [List.getElem?_reverse (by simpa using hk), Array.getElem?_toList, Array.length_toList]
    congr 1
    omega
  rw [e, all]
theorem item_back {t sl : Addr} {items : Array Value} {vs : Value} {Q : Value → Shared → Prop} (ht : IsTup s.heap t items) (hs : s.heap.IsSliceOf sl .none .none vs) (ps : IsPart vs (some (-1)))
    (h : Q (.ref s.heap.objs.size) { s with heap := s.heap.push { cls := .type "tuple", data := .seq items.toList.reverse.toArray } }) (hsz : items.size ≤ sizeLine) : wpAny (model prog w) A (getItem (.ref t) (.ref sl)) Q E s := by
  have room : sizeOk (.seq items.toList.reverse.toArray) := by
    show items.toList.reverse.toArray.size ≤ sizeLine
    rw [List.size_toArray, List.length_reverse, Array.length_toList]
    exact hsz
  obtain ⟨o, ho, hc, hd⟩ := id hs
  have ts : s.TypeIs (.ref sl) "slice" := ⟨o, ho, hc⟩
  unfold getItem
  try with_reducible refine wpAny_holding ?_
  first | refine wpAny_bind (wpAny_pure ?_) | skip
  refine wpAny_bind (wpAny_sequenceKey ht.typeIs (by decide) (wpAny_bind (wpAny_callSpecial?_slot (name := Str.ofString "__getitem__") ht.typeIs PyProof.Rows.slot_tuple_getitem (wpAny_call_entry PyProof.Rows.slot_tuple_getitem ht.typeIs entry_tuple_getitem ?_ (args_tuple_getitem _ _)))))
  show wpAny _ _ (Builtin.Tuple.tupleItemsOf (.ref t) >>= _) _ _ s
  refine wpAny_bind (tupleItemsOf_ ht (wpAny_bind (wpAny_typeOf ts ?_)))
  rw [if_pos (by decide)]
  refine wpAny_bind (applied_back hs ps ?_)
  have no : ¬ ((((items.size : Int) - 1) == 0 && (-1 : Int) == 1 && items.size == items.size) = true) := by
    rw [show ((-1 : Int) == 1) = false by decide, Bool.and_false, Bool.false_and]
    exact Bool.false_ne_true
  show wpAny _ _ (if ((((items.size : Int) - 1) == 0 && (-1 : Int) == 1 && items.size == items.size) = true) then _ else _) _ _ s
  rw [if_neg no, back_pick]
  first
    | exact wpAny_bind (m := Builtin.Tuple.tupleExact _) (wpAny_newObj_type (wpAny_pure ⟨_, rfl, wpAny_pure h⟩) room)
    | exact wpAny_bind (m := Builtin.Tuple.tupleExact _) (wpAny_newObj_type (wpAny_bind (wpAny_pure (wpAny_pure ⟨_, rfl, wpAny_pure h⟩))) room)
    | exact wpAny_bind (wpAny_bind (m := Builtin.Tuple.tupleExact _) (wpAny_newObj_type (wpAny_pure (wpAny_pure ⟨_, rfl, wpAny_pure h⟩)) room))
    | exact wpAny_bind (wpAny_bind (m := Builtin.Tuple.tupleExact _) (wpAny_newObj_type (wpAny_pure ⟨_, rfl, wpAny_pure h⟩) room))
end
end RevT

namespace Lk
open PySem PySem.Calls PyProof.Rows PySem.Spec L2 Drw Err
/-- a list or a tuple -/
def sqO (L : Bool) (xs : List V) : HO := match L with
  | true => .lst xs
  | false => .tup xs
theorem sqO_tbl {L : Bool} {xs : List V} (ps) : sqO L xs ≠ .tbl ps := by cases L <;> exact fun z => by cases z
theorem sqO_inj {L : Bool} {xs ys : List V} (h : sqO L xs = sqO L ys) : xs = ys := by cases L <;> (cases h; rfl)
/-- the object is new or one of those -/
def NewOr (H : Hp) (t : Addr) (l : List Addr) : Prop := H t = none ∨ t ∈ l
def rCatB : R2 := fun x y H Q => ∃ (L : Bool) (a b : Addr) (xs ys : List V), x = .ref a ∧ y = .ref b ∧ H a = some (sqO L xs) ∧ H b = some (sqO L ys) ∧ xs.length + ys.length ≤ sizeLine ∧ ∀ H' t, Al H H' → NewOr H t [a, b] → H' t = some (sqO L (xs ++ ys)) → Q (.ref t) H'
def rSlB : V → Option Int → Option Int → Hp → VK → Prop := fun x lo hi H Q => ∃ (L : Bool) (a : Addr) (xs : List V), x = .ref a ∧ H a = some (sqO L xs) ∧ ∀ H' t, Al H H' → NewOr H t [a] → H' t = some (sqO L (cutV xs lo hi)) → Q (.ref t) H'
def rIxB : R2 := fun x y H Q => ∃ (L : Bool) (a : Addr) (xs : List V) (i : Int) (v : V), x = .ref a ∧ y = .int i ∧ H a = some (sqO L xs) ∧ atI xs i = some v ∧ Q v H
def tRevB (te : TE) : TE := fun σ H Q => te σ H fun x H1 => ∃ (L : Bool) (a : Addr) (xs : List V), x = .ref a ∧ H1 a = some (sqO L xs) ∧ ∀ H' t, Al H1 H' → NewOr H1 t [] → H' t = some (sqO L xs.reverse) → Q (.ref t) H'
section
variable {X : Cx}
theorem op_catB : OpR X (binaryOp .Add) rCatB := by
  intro pins s σ H x y v u Q I rx ry h
  obtain ⟨L, a, b, xs, ys, rfl, rfl, ha, hb, hz, q⟩ := h
  cases L with
  | true => exact op_cat pins s σ H _ _ v u Q I rx ry ⟨a, b, xs, ys, rfl, rfl, ha, hb, hz, fun p np => q _ p (Al.refl.new np) (.inl np) upd_same⟩
  | false =>
    refine op_catA pins s σ H _ _ v u Q I rx ry ⟨a, b, xs, ys, rfl, rfl, sqt ha, sqt hb, hz, fun e => ?_, fun _ e => ?_, fun _ _ p np => q _ p (Al.refl.new np) (.inl np) upd_same⟩
    · subst e
      exact q H b Al.refl (.inr (by simp)) hb
    · subst e
      exact q H a Al.refl (.inr (by simp)) (by rw [List.append_nil]; exact ha)
theorem sl_B : L2.SlR X rSlB := by
  intro pins s σ H x v vl vu lo hi sl Q I rx hs pl pu h
  obtain ⟨L, a, xs, rfl, ha, q⟩ := h
  cases L with
  | true => exact sl_list pins s σ H _ v vl vu lo hi sl Q I rx hs pl pu ⟨a, xs, rfl, sq ha, fun p np => q _ p (Al.refl.new np) (.inl np) upd_same⟩
  | false =>
    refine sl_tupA pins s σ H _ v vl vu lo hi sl Q I rx hs pl pu ⟨a, xs, rfl, sqt ha, fun e => ?_, fun _ p np => q _ p (Al.refl.new np) (.inl np) upd_same⟩
    refine q H a Al.refl (.inr (by simp)) ?_
    unfold cutV
    rw [e.1, e.2, List.drop_zero, Nat.sub_zero, List.take_length]
    exact ha
theorem ix_B : IxR X rIxB := by
  intro value slice pins s σ H x y v u Q I rx ry h hs
  obtain ⟨L, a, xs, i, z, rfl, rfl, ha, e, q⟩ := h
  cases L with
  | true => exact ix_list value slice pins s σ H _ _ v u Q I rx ry ⟨a, xs, i, z, rfl, rfl, sq ha, e, q⟩ hs
  | false => exact ix_tup value slice pins s σ H _ _ v u Q I rx ry ⟨a, xs, i, z, rfl, rfl, sqt ha, e, q⟩ hs
theorem pe_revB {e : Expr} {te : TE} {k : Nat} {p1 p2 p3 pos : Pos} (he : PE X e te) : PE X (.Subscript e (.Slice none none (some (.UnaryOp .USub (.Constant (.int 1) k p1) p2)) p3) pos) (tRevB te) := by
  refine ⟨fun pins s σ H Q I h => Subscript_ (thn (he.run pins s σ H _ I h) fun v s1 z1 => ?_)⟩
  obtain ⟨x, H1, I1, r1, L, a, xs, rfl, ha, q⟩ := z1
  cases r1
  have back : PO X (some (.UnaryOp .USub (.Constant (.int 1) k p1) p2)) (tPart (tUn (rU fun i => .int (-i)) (tC (.int 1)))) := po_some (pe_un un_neg pe_int)
  refine wpAny_Slice (thn (po_none.run pins s1 σ H1 (fun o G => o = none ∧ G = H1) I1 ⟨rfl, rfl⟩) fun vl s2 z2 => ?_)
  obtain ⟨_, H2, I2, pl, rfl, rfl⟩ := z2
  refine thn (po_none.run pins s2 σ H2 (fun o G => o = none ∧ G = H2) I2 ⟨rfl, rfl⟩) fun vu s3 z3 => ?_
  obtain ⟨_, H3, I3, pu, rfl, rfl⟩ := z3
  refine thn (back.run pins s3 σ H3 (fun o G => o = some (-1) ∧ G = H3) I3 ⟨1, rfl, -1, rfl, rfl, rfl⟩) fun vs s4 z4 => ?_
  obtain ⟨_, H4, I4, ps, rfl, rfl⟩ := z4
  have I5 : Inv X pins σ H4 { s4 with heap := s4.heap.push { cls := .type "slice", data := .fields #[vl, vu, vs] } } := I4.kept (t' := s4.toks) fun b ob e => Heap.get?_push_of_some _ e
  show wpAny (model X.prog X.w) X.A (subscriptTail e (.Slice none none (some (.UnaryOp .USub (.Constant (.int 1) k p1) p2)) p3) (.ref a) (.ref s4.heap.objs.size)) (EP X pins σ Q) X.xe { s4 with heap := s4.heap.push { cls := .type "slice", data := .fields #[vl, vu, vs] } }
  cases L with
  | true =>
    obtain ⟨its, r, ht, hz⟩ := I5.list (sq ha)
    have len := r.length
    refine tail_any (ops := [.ref a, .ref s4.heap.objs.size]) ht.isList.typeIs PySem.slot_list_getitem.lookup ?_ (by with_unfolding_all rfl)
    refine wpAny_getItem_list_slice ht.isList (Heap.IsSliceOf.new _ vl vu vs) pl pu ps (by decide) ?_ (by rw [List.size_toArray, ← len]; exact hz)
    rw [PySem.W.krv_pick]
    refine ⟨.ref _, _, I5.laid (t' := s4.toks) (o := .lst xs.reverse) (fun b ob e => Heap.get?_push_of_some _ e) (Nat.le_refl _) ?_, rfl, q _ _ (Al.refl.new (I5.hok.fresh (Nat.le_refl _))) (.inl (I5.hok.fresh (Nat.le_refl _))) upd_same⟩
    exact ⟨by rw [List.length_reverse]; exact hz, _, 0, r.reverse, Heap.get?_push_size _ rfl⟩
  | false =>
    obtain ⟨its, r, ht, hz⟩ := I5.tuple (sqt ha)
    have len := r.length
    cases pl
    cases pu
    refine tail_any (ops := [.ref a, .ref s4.heap.objs.size]) ht.typeIs PyProof.Rows.slot_tuple_getitem.lookup ?_ (by with_unfolding_all rfl)
    refine RevT.item_back ht (Heap.IsSliceOf.new _ .none .none vs) ps ?_ (by rw [List.size_toArray, ← len]; exact hz)
    refine ⟨.ref _, _, I5.laid (t' := s4.toks) (o := .tup xs.reverse) (fun b ob e => Heap.get?_push_of_some _ e) (Nat.le_refl _) ?_, rfl, q _ _ (Al.refl.new (I5.hok.fresh (Nat.le_refl _))) (.inl (I5.hok.fresh (Nat.le_refl _))) upd_same⟩
    exact ⟨by rw [List.length_reverse]; exact hz, its.reverse, r.reverse, _, Heap.get?_push_size _ rfl, rfl, _, rfl⟩
end
end Lk

namespace Lk
open PySem PySem.Calls PyProof.Rows PySem.Spec L2 Drw Err
def TA (b : Nat) (H : Hp) (n : Nat) (xs : List V) : Prop := ∀ x ∈ xs, ∃ d, Th b H n x d
theorem TA.al {b n : Nat} {H H' : Hp} {xs : List V} (h : TA b H n xs) (k : Al H H') : TA b H' n xs := fun x hx => (h x hx).imp fun _ z => z.al k
theorem TA.wide {b b' n : Nat} {H : Hp} {xs : List V} (h : TA b H n xs) (k : b ≤ b') : TA b' H n xs := fun x hx => (h x hx).imp fun _ z => z.wide k
theorem TA.sub {b n : Nat} {H : Hp} {xs ys : List V} (h : TA b H n xs) (k : ∀ x ∈ ys, x ∈ xs) : TA b H n ys := fun x hx => h x (k x hx)
theorem TA.app {b n : Nat} {H : Hp} {xs ys : List V} (h : TA b H n xs) (k : TA b H n ys) : TA b H n (xs ++ ys) := fun x hx => (List.mem_append.mp hx).elim (h x) (k x)
theorem TA.one {b n : Nat} {H : Hp} {x : V} {d : PyData} (h : Th b H n x d) : TA b H n [x] := fun y hy => by
  rw [List.mem_singleton.mp hy]
  exact ⟨d, h⟩
theorem cut_memB {xs : List V} {lo hi : Option Int} {x : V} (h : x ∈ cutV xs lo hi) : x ∈ xs := by
  unfold cutV at h
  exact List.mem_of_mem_drop (List.mem_of_mem_take h)
theorem TA.cut {b n : Nat} {H : Hp} {xs : List V} {lo hi : Option Int} (h : TA b H n xs) : TA b H n (cutV xs lo hi) := h.sub fun _ => cut_memB
theorem ta_ds {b n : Nat} {H : Hp} : ∀ {xs : List V}, TA b H n xs → ∃ ds, ThAll b H n xs ds
  | [], _ => ⟨[], .nil⟩
  | x :: xs, h => by
    obtain ⟨d, hd⟩ := h x (List.mem_cons_self ..)
    obtain ⟨ds, hds⟩ := ta_ds (xs := xs) fun y hy => h y (List.mem_cons_of_mem _ hy)
    exact ⟨d :: ds, .cons hd hds⟩
theorem th_sq {b n : Nat} {H : Hp} {t : Addr} {L : Bool} {xs : List V} (h : H t = some (sqO L xs)) (k : TA b H n xs) (hb : xs.length ≤ b) : ∃ d, Th b H (n + 1) (.ref t) d := by
  obtain ⟨ds, hds⟩ := ta_ds k
  cases L with
  | true => exact ⟨_, th_lst h hds hb⟩
  | false => exact ⟨_, th_tup h hds hb⟩
def kindL (L : Bool) : String := match L with
  | true => "list"
  | false => "tuple"
theorem Th.parts {b n : Nat} {H : Hp} {x : V} {d : PyData} (h : Th b H n x d) : isSeq d = false ∨ ∃ (m : Nat) (L : Bool) (a : Addr) (xs : List V), n = m + 1 ∧ x = .ref a ∧ H a = some (sqO L xs) ∧ isSeq d = true ∧ kindS d = kindL L ∧ xs.length ≤ b ∧ TA b H m xs := by
  have ta : ∀ {m : Nat} {xs : List V} {ds : List PyData}, xs.length = ds.length → (∀ (i : Nat) x d, xs[i]? = some x → ds[i]? = some d → Th b H m x d) → TA b H m xs := fun {m xs ds} hl hx x hm => by
    obtain ⟨i, hi⟩ := List.mem_iff_getElem?.mp hm
    have lt := (List.getElem?_eq_some_iff.mp hi).1
    exact ⟨_, hx i x _ hi (List.getElem?_eq_getElem (by omega))⟩
  cases h with
  | leaf n h => cases h <;> exact .inl rfl
  | non n => exact .inl rfl
  | emp n h => exact .inl rfl
  | one n h => exact .inl rfl
  | lst h h2 h3 h4 => exact .inr ⟨_, true, _, _, rfl, rfl, h, rfl, rfl, h3, ta h2 h4⟩
  | tup h h2 h3 h4 => exact .inr ⟨_, false, _, _, rfl, rfl, h, rfl, rfl, h3, ta h2 h4⟩
theorem sqO_sq {K : PySem.W.Frag} {H : Hp} {a : Addr} {L : Bool} {xs : List V} (h : H a = some (sqO L xs)) : Sq K H a xs := by
  cases L with
  | true => exact .inl (sq h)
  | false => exact .inr (sqt h)
theorem sqO_kind {H : Hp} {a : Addr} {L : Bool} {xs : List V} (h : H a = some (sqO L xs)) : Kind H (.ref a) (kindL L) := by
  cases L with
  | true => exact .lst h
  | false => exact .tup h
theorem rowO_sq (L : Bool) (y : V) : rowO (kindL L) y = sqO L [y] := by cases L <;> rfl
theorem stt_ne {H : Hp} {l c : Addr} {ns : List Int} (h : Stt H l c ns) : H l ≠ none := fun z => by
  obtain ⟨⟨_, _, _, hl⟩, _⟩ := h
  rw [z] at hl
  cases hl
theorem woA {l : Addr} {H H' : Hp} (k : Al H H') : Al (wo l H) (wo l H') := wo_up fun b o _ _ e => k b o e
theorem woK {l : Addr} {H H' : Hp} (k : Kp l H H') : Al (wo l H) (wo l H') := wo_up fun b o n _ e => k b o n e
theorem wo_ne {l a : Addr} {H : Hp} {o : HO} (h : wo l H a = some o) : a ≠ l := (wo_some.mp h).2.1
theorem wo_res {l t : Addr} {H H' : Hp} {L : Bool} {zs : List V} {as : List Addr} (hl : H l ≠ none) (n : NewOr H t as) (ne : ∀ a ∈ as, a ≠ l) (e : H' t = some (sqO L zs)) : wo l H' t = some (sqO L zs) := by
  refine wo_at (fun z => ?_) sqO_tbl e
  rcases n with n | n
  · rw [z] at n
    exact hl n
  · exact ne t n z
theorem cut_le {xs : List V} {lo hi : Option Int} : (cutV xs lo hi).length ≤ xs.length := cutV_length xs lo hi
/-- around one place: what stands before it and what stands behind it -/
theorem cut_around (xs : List V) (j : Nat) (h : j < xs.length) : (cutV xs none (some (j : Int))).length + 1 + (cutV xs (some ((j : Int) + 1)) none).length = xs.length := by
  rw [cut_take, show ((j : Int) + 1) = ((j + 1 : Nat) : Int) by omega, cut_drop, List.length_take, List.length_drop]
  omega
end Lk

namespace Lk
open PySem PySem.Calls PyProof.Rows PySem.Spec L2 Drw Err
theorem scBent : FnScope ["_law_state", "_law_thing", "_law_way", "_law_at", "_law_one_here", "_law_place"] ["_law_state", "_law_thing"] (defScope sBent) := ⟨rfl, rfl, rfl, by decide +kernel, rfl, by decide +kernel, by decide +kernel⟩
def spBent : Sp := fun vs H Q _ => ∃ (l c : Addr) (ns : List Int) (b : Nat) (x : V) (d : PyData), vs = [.ref l, x] ∧ Stt H l c ns ∧ 9 ≤ b ∧ b ≤ 100 ∧ Th b (wo l H) 4 x d ∧ ∀ H' v d', Kp l H H' → Stt H' l c ns → Th (b + 1) (wo l H') 4 v d' → Q v H'
section
variable {P : Program} {w : World} {K : PySem.W.Frag} {mg : Str → Option Value} {base : Heap}
theorem ok_bent {f fT fO fW fR : Addr} {fd dT dO dW dR : FuncData} (F : Fun K "_law_bent" "_law_bent" sBent f fd) (T : Can P w K mg base CX0 2 "_law_take" ["_law_state", "_law_many"] spTake fT dT) (O : Can P w K mg base CX0 3 "_law_odd" ["_law_state"] spOddX fO dO)
    (W : Can P w K mg base CX0 4 "_law_word" ["_law_state"] spWord fW dW) (R : Can P w K mg base CX0 1 "_law_row_of" ["_law_like", "_law_thing"] spRow fR dR)
    (mi : mg "isinstance" = none) (ml : mg "len" = none) (m_list : mg "list" = none) (m_tuple : mg "tuple" = none) : FnOk P w K mg base CX0 5 f fd ["_law_state", "_law_thing"] spBent := by
  refine F.ok scBent (fun vs H Q E h => ?_) (fun cdv A outer s H vs Q E hr h => ?_)
  · obtain ⟨l, c, ns, b, x, d, rfl, _⟩ := h
    rfl
  obtain ⟨l, c, ns, b, x, d, rfl, st, b9, b100, th, q⟩ := h
  have r1 := hr.mono (show 1 ≤ 4 by decide)
  have r2 := hr.mono (show 2 ≤ 4 by decide)
  have r3 := hr.mono (show 3 ≤ 4 by decide)
  refine ⟨_, (pss_cons (ps_set (i := 2) scBent.nd rfl (.inl rfl) (pe_call T.G r2 (by rfl) T.g T.kp T.b .nil pass0 (pa_cons (pv 0) (pa_cons pe_int pa_nil)))) (C8.pss_cut (ps_if (PW.pt (pw_or (pt_cmpR op_eq (pv 2) pe_int (nomark _)) (pw_or (pt_not (pt_val (pe_callB call_isiT (by rfl) mi boot_isinstance (pa_cons (pv 1) (pa_cons (pe_tup (pa_cons (pe_bltn (v := .ty "list") (by rfl) m_list (by decide +kernel) rfl) (pa_cons (pe_bltn (v := .ty "tuple") (by rfl) m_tuple (by decide +kernel) rfl) pa_nil))) pa_nil))))) (pw_or1 (pt_cmpR op_eq (pe_callB call_len_seq (by rfl) ml PySem.boot_len (pa_cons (pv 1) pa_nil)) pe_int (nomark _)))))) (pss_one (ps_ret (pe_call O.G r3 (by rfl) O.g O.kp O.b .nil pass0 (pa_cons (pv 0) pa_nil)))) pss_nil) (pss_cons (ps_set (i := 3) scBent.nd rfl (.inl rfl) (pe_call T.G r2 (by rfl) T.g T.kp T.b .nil pass0 (pa_cons (pv 0) (pa_cons (pe_callB call_len_seq (by rfl) ml PySem.boot_len (pa_cons (pv 1) pa_nil)) pa_nil)))) (pss_cons (ps_set (i := 4) scBent.nd rfl (.inl rfl) (pe_ix ix_B (pv 1) (pv 3) (fun _ _ => rfl))) (C8.pss_cut (ps_if (pt_cmpR op_eq (pv 2) pe_int (nomark _)) (pss_one (ps_ret (pe_op op_catB (pe_slice sl_B (pv 1) po_none (po_some (pv 3))) (pe_slice sl_B (pv 1) (po_some (pe_op op_add (pv 3) pe_int)) po_none)))) pss_nil) (C8.pss_cut (ps_if (pt_cmpR op_eq (pv 2) pe_int (nomark _)) (pss_one (ps_ret (pe_slice sl_B (pe_op op_catB (pe_op op_catB (pv 1) (pv 1)) (pv 1)) po_none (po_some pe_int)))) pss_nil) (C8.pss_cut (ps_if (PW.pt (pw_or (pt_cmpR op_eq (pv 2) pe_int (nomark _)) (pw_or1 (pt_not (pt_val (pe_callB call_isiT (by rfl) mi boot_isinstance (pa_cons (pv 4) (pa_cons (pe_tup (pa_cons (pe_bltn (v := .ty "list") (by rfl) m_list (by decide +kernel) rfl) (pa_cons (pe_bltn (v := .ty "tuple") (by rfl) m_tuple (by decide +kernel) rfl) pa_nil))) pa_nil)))))))) (pss_one (ps_ret (pe_op op_catB (pe_op op_catB (pe_slice sl_B (pv 1) po_none (po_some (pv 3))) (pe_call R.G r1 (by rfl) R.g R.kp R.b .nil pass0 (pa_cons (pv 1) (pa_cons (pe_call O.G r3 (by rfl) O.g O.kp O.b .nil pass0 (pa_cons (pv 0) pa_nil)) pa_nil)))) (pe_slice sl_B (pv 1) (po_some (pe_op op_add (pv 3) pe_int)) po_none)))) pss_nil) (pss_cons (ps_set (i := 5) scBent.nd rfl (.inl rfl) (pe_call T.G r2 (by rfl) T.g T.kp T.b .nil pass0 (pa_cons (pv 0) (pa_cons (pe_op op_add (pe_callB call_len_seq (by rfl) ml PySem.boot_len (pa_cons (pv 4) pa_nil)) pe_int) pa_nil)))) (C8.pss_cut (ps_if (pt_cmpR op_lt (pv 2) pe_int (nomark _)) (pss_one (ps_set (i := 4) scBent.nd rfl (.inl rfl) (pe_op op_catB (pe_op op_catB (pe_slice sl_B (pv 4) po_none (po_some (pv 5))) (pe_call R.G r1 (by rfl) R.g R.kp R.b .nil pass0 (pa_cons (pv 4) (pa_cons (pe_call W.G hr (by rfl) W.g W.kp W.b .nil pass0 (pa_cons (pv 0) pa_nil)) pa_nil)))) (pe_slice sl_B (pv 4) (po_some (pe_op op_sub (pe_op op_add (pv 5) (pv 2)) pe_int)) po_none)))) (pss_one (ps_if (pt_cmpR op_eq (pv 2) pe_int (nomark _)) (pss_one (ps_set (i := 4) scBent.nd rfl (.inl rfl) (pe_op op_catB (pe_slice sl_B (pv 4) po_none (po_some (pv 5))) (pe_slice sl_B (pv 4) (po_some (pe_op op_add (pv 5) pe_int)) po_none)))) (pss_one (ps_if (pt_cmpR op_eq (pv 2) pe_int (nomark _)) (pss_one (ps_set (i := 4) scBent.nd rfl (.inl rfl) (pe_slice sl_B (pe_op op_catB (pe_op op_catB (pv 4) (pv 4)) (pv 4)) po_none (po_some pe_int)))) (pss_one (ps_set (i := 4) scBent.nd rfl (.inl rfl) (pe_revB (pv 4))))))))) (pss_one (ps_ret (pe_op op_catB (pe_op op_catB (pe_slice sl_B (pv 1) po_none (po_some (pv 3))) (pe_call R.G r1 (by rfl) R.g R.kp R.b .nil pass0 (pa_cons (pv 1) (pa_cons (pv 4) pa_nil)))) (pe_slice sl_B (pv 1) (po_some (pe_op op_add (pv 3) pe_int)) po_none))))))))))))), ?_⟩
  refine ⟨.ref l, rfl, l, c, ns, 9, rfl, by decide, by decide, st, fun H1 way k1 st1 w0 w9 => ?_⟩
  have th1 := th.al (woK k1)
  have k01 : Kp l H H1 := k1
  have odd : ∀ H2, Kp l H H2 → Stt H2 l c ns → ∃ vs : List V, [V.ref l] = vs ∧ spOddX vs H2 Q E := fun H2 k2 st2 => ⟨_, rfl, l, c, ns, rfl, st2, fun H3 v d k3 st3 t3 => q H3 v d (fun b o n e => k3 b o n (k2 b o n e)) st3 ((t3.wide (by omega)).deeper.deeper)⟩
  have out : ∀ H' t (L : Bool) (zs : List V), Kp l H H' → Stt H' l c ns → wo l H' t = some (sqO L zs) → TA (b + 1) (wo l H') 3 zs → zs.length ≤ b + 1 → Q (.ref t) H' := fun H' t L zs k s e ta hb => by
    obtain ⟨d, hd⟩ := th_sq e ta hb
    exact q H' _ d k s hd
  refine ⟨fun σ H2 => ∃ (L : Bool) (a : Addr) (xs : List V), x = .ref a ∧ σ = [some (.ref l), some (.ref a), some (.int way), none, none, none] ∧ Kp l H H2 ∧ Stt H2 l c ns ∧ wo l H2 a = some (sqO L xs) ∧ TA b (wo l H2) 3 xs ∧ 0 < xs.length ∧ xs.length ≤ b ∧ way ≠ 0, ?_, ?_⟩
  · refine ⟨.int way, rfl, rfl, _, rfl, ite2 (fun e => ?_) (fun e => ?_)⟩
    · obtain ⟨_, rfl, o⟩ := odd H1 k01 st1
      exact ⟨.ref l, rfl, o⟩
    · have ne0 : way ≠ 0 := fun z => e (decide_eq_true (by rw [z]))
      refine ⟨x, rfl, by show 2 ≤ sizeLine; decide, fun tp ntp => ?_⟩
      have kt := (Al.refl (H := H1)).new (o := .tup [.ty "list", .ty "tuple"]) ntp
      have th2 := th1.al (woA kt)
      have st2 := st1.up kt
      have k02 : Kp l H (upd H1 tp (.tup [.ty "list", .ty "tuple"])) := fun b o n e => kt b o (k01 b o n e)
      have th2' := th2.al (wo_al _ _)
      refine ⟨x, tp, _, .type (kindS d), _, isSeq d, rfl, upd_same, .cons (.ty _) (.cons (.ty _) .nil), th2'.kind.ty, kit_seq d, isSeq d, rfl, ?_⟩
      generalize upd H1 tp (.tup [.ty "list", .ty "tuple"]) = H2 at kt th2 th2' st2 k02 ⊢
      rcases th2.parts with ns_ | ⟨m, L, a, xs, hm, rfl, ea, is, kd, hb, ta⟩
      · rw [ns_]
        obtain ⟨_, rfl, o⟩ := odd H2 k02 st2
        exact iteT (iteT ⟨.ref l, rfl, o⟩)
      · rw [is]
        obtain rfl : m = 3 := by omega
        refine iteF ⟨.ref a, rfl, a, xs, rfl, sqO_sq (wo_al _ _ _ _ ea), rfl, _, rfl, ite2 (fun e => ?_) (fun e => ?_)⟩
        · obtain ⟨_, rfl, o⟩ := odd H2 k02 st2
          exact ⟨.ref l, rfl, o⟩
        · refine ⟨L, a, xs, rfl, rfl, k02, st2, ea, ta, ?_, hb, ne0⟩
          have z : ¬ V.int (xs.length : Nat) = V.int 0 := fun y => e (decide_eq_true y)
          rcases Nat.eq_zero_or_pos xs.length with y | y
          · rw [y] at z
            exact absurd rfl z
          · exact y
  rintro σ H2 ⟨L, a, xs, rfl, rfl, k2, st2, ea, ta, pos, hb, ne0⟩
  refine ⟨.ref l, rfl, .ref a, rfl, a, xs, rfl, sqO_sq (wo_al _ _ _ _ ea), l, c, ns, xs.length, rfl, by omega, by omega, st2, fun H3 at' k3 st3 a0 an => ?_⟩
  obtain ⟨j, rfl⟩ := Int.eq_ofNat_of_zero_le a0
  have hj : j < xs.length := by omega
  have ea3 := woK k3 _ _ ea
  have ta3 := ta.al (woK k3)
  have k03 : Kp l H H3 := fun b o n e => k3 b o n (k2 b o n e)
  have hxj : xs[j]? = some xs[j] := List.getElem?_eq_getElem hj
  obtain ⟨d1, th1x⟩ := ta3 xs[j] (List.getElem_mem hj)
  refine ⟨.ref a, rfl, .int (j : Nat), rfl, L, a, xs, (j : Nat), xs[j], rfl, rfl, wo_al _ _ _ _ ea3, atI_nat hxj, ?_⟩
  have al_ : a ≠ l := wo_ne ea3
  have r := cut_around xs j hj
  generalize xs[j] = y at th1x hxj ⊢
  have in1 : ∀ {t : Addr}, t ≠ l → ∀ a' ∈ [t], a' ≠ l := fun {t} h a' ha => by
    rw [List.mem_singleton.mp ha]
    exact h
  have in2 : ∀ {t u : Addr}, t ≠ l → u ≠ l → ∀ a' ∈ [t, u], a' ≠ l := fun {t u} h h2 a' ha => by
    rcases List.mem_cons.mp ha with rfl | ha
    · exact h
    · rw [List.mem_singleton.mp ha]
      exact h2
  have ea3' := wo_al _ _ _ _ ea3
  refine ⟨fun σ H4 => σ = [some (.ref l), some (.ref a), some (.int way), some (.int (j : Nat)), some y, none] ∧ H4 = H3 ∧ way ≠ 1, ?_, ?_⟩
  · refine ⟨.int way, rfl, rfl, _, rfl, ite2 (fun e => ?_) (fun e => ⟨rfl, rfl, fun z => e (decide_eq_true (by rw [z]))⟩)⟩
    refine ⟨.ref a, rfl, .int (j : Nat), rfl, (j : Nat), rfl, L, a, xs, rfl, ea3', fun H4 t4 k4 n4 e4 => ?_⟩
    have w4 := wo_res (stt_ne st3) n4 (in1 al_) e4
    refine ⟨.ref a, rfl, .int (j : Nat), rfl, _, _, rfl, rfl, _, rfl, L, a, xs, rfl, k4 _ _ ea3', fun H5 t5 k5 n5 e5 => ?_⟩
    have w5 := wo_res (stt_ne (st3.up k4)) n5 (in1 al_) e5
    have z1 := cut_le (xs := xs) (lo := none) (hi := some (j : Int))
    have z2 := cut_le (xs := xs) (lo := some ((j : Int) + 1)) (hi := none)
    refine ⟨L, t4, t5, _, _, rfl, rfl, k5 _ _ e4, e5, Nat.le_of_lt (small1000 (by omega)), fun H6 t6 k6 n6 e6 => ?_⟩
    have st5 := (st3.up k4).up k5
    have w6 := wo_res (stt_ne st5) n6 (in2 (wo_ne w4) (wo_ne w5)) e6
    have kA := (k4.trans k5).trans k6
    exact out H6 t6 L _ (fun b o n e => kA b o (k03 b o n e)) (st3.up kA) w6 (((ta3.cut).app (ta3.cut)).al (woA kA) |>.wide (by omega)) (by rw [List.length_append]; omega)
  rintro σ H4 ⟨rfl, rfl, ne1⟩
  refine ⟨fun σ H5 => σ = [some (.ref l), some (.ref a), some (.int way), some (.int (j : Nat)), some y, none] ∧ H5 = H4 ∧ way ≠ 2, ?_, ?_⟩
  · refine ⟨.int way, rfl, rfl, _, rfl, ite2 (fun e => ?_) (fun e => ⟨rfl, rfl, fun z => e (decide_eq_true (by rw [z]))⟩)⟩
    refine ⟨.ref a, rfl, .ref a, rfl, L, a, a, xs, xs, rfl, rfl, ea3', ea3', Nat.le_of_lt (small1000 (by omega)), fun H5 t5 k5 n5 e5 => ?_⟩
    have w5 := wo_res (stt_ne st3) n5 (in2 al_ al_) e5
    refine ⟨.ref a, rfl, L, t5, a, _, xs, rfl, rfl, e5, k5 _ _ ea3', Nat.le_of_lt (small1000 (by rw [List.length_append]; omega)), fun H6 t6 k6 n6 e6 => ?_⟩
    have w6 := wo_res (stt_ne (st3.up k5)) n6 (in2 (wo_ne w5) al_) e6
    refine ⟨5, rfl, L, t6, _, rfl, e6, fun H7 t7 k7 n7 e7 => ?_⟩
    have w7 := wo_res (stt_ne ((st3.up k5).up k6)) n7 (in1 (wo_ne w6)) e7
    have kA := (k5.trans k6).trans k7
    refine out H7 t7 L _ (fun b o n e => kA b o (k03 b o n e)) (st3.up kA) w7 ((((ta3.app ta3).app ta3).cut.al (woA kA)).wide (by omega)) ?_
    have e5' := cut_take ((xs ++ xs) ++ xs) 5
    have e5' : cutV ((xs ++ xs) ++ xs) none (some 5) = ((xs ++ xs) ++ xs).take 5 := e5'
    rw [e5', List.length_take]
    omega
  rintro σ H5 ⟨rfl, rfl, ne2⟩
  refine ⟨fun σ H6 => ∃ (L1 : Bool) (o1 : Addr) (ys : List V), σ = [some (.ref l), some (.ref a), some (.int way), some (.int (j : Nat)), some (.ref o1), none] ∧ Al H5 H6 ∧ wo l H6 o1 = some (sqO L1 ys) ∧ TA b (wo l H6) 2 ys ∧ ys.length ≤ b ∧ way ≠ 3, ?_, ?_⟩
  · refine ⟨.int way, rfl, rfl, _, rfl, ite2 (fun e => ?b1) (fun e => ?more)⟩
    case' more => refine ⟨y, rfl, by show 2 ≤ sizeLine; decide, fun tp ntp => ?_⟩
    case' more => have kx := (Al.refl (H := H5)).new (o := .tup [.ty "list", .ty "tuple"]) ntp
    case' more => have th6 := th1x.al (woA kx)
    case' more => refine ⟨y, tp, _, .type (kindS d1), _, isSeq d1, rfl, upd_same, .cons (.ty _) (.cons (.ty _) .nil), (th6.al (wo_al _ _)).kind.ty, kit_seq d1, isSeq d1, rfl, ?_⟩
    case' more => generalize upd H5 tp (.tup [.ty "list", .ty "tuple"]) = H6 at kx th6 ⊢
    case' more => rcases th6.parts with ns_ | ⟨m, L1, o1, ys, hm, rfl, eo, is, kd, hb1, ta1⟩
    case' more.inl => rw [ns_]
    case' more.inl => refine iteT ?_
    case more.inr =>
      rw [is]
      obtain rfl : m = 2 := by omega
      exact iteF ⟨L1, o1, ys, rfl, kx, eo, ta1, hb1, fun z => e (decide_eq_true (by rw [z]))⟩
    case' b1 => obtain ⟨H6, h6⟩ : ∃ H6, H6 = H5 := ⟨_, rfl⟩
    case' b1 => have kx : Al H5 H6 := fun b o e => by rw [h6]; exact e
    case' b1 => rw [← h6]
    case b1 | more.inl =>
      have ea6 := woA kx _ _ ea3
      have st6 := st3.up kx
      refine ⟨.ref a, rfl, .int (j : Nat), rfl, (j : Nat), rfl, L, a, xs, rfl, wo_al _ _ _ _ ea6, fun H7 t7 k7 n7 e7 => ?_⟩
      have w7 := wo_res (stt_ne st6) n7 (in1 al_) e7
      have st7 := st6.up k7
      refine ⟨.ref a, rfl, .ref l, rfl, l, c, ns, rfl, st7, fun H8 v dv k8 st8 th8 => ?_⟩
      have ea8 := woK k8 _ _ (woA k7 _ _ ea6)
      have w8 := woK k8 _ _ w7
      refine ⟨.ref a, v, kindL L, rfl, sqO_kind (wo_al _ _ _ _ ea8), fun H9 t9 k9 nt9 e9 => ?_⟩
      rw [rowO_sq] at e9
      have w9 := wo_res (as := []) (stt_ne st8) (.inl nt9) (fun a' h => by cases h) e9
      have z1 := cut_le (xs := xs) (lo := none) (hi := some (j : Int))
      refine ⟨L, t7, t9, _, [v], rfl, rfl, k9 _ _ (wo_al _ _ _ _ w8), e9, Nat.le_of_lt (small1000 (by rw [List.length_singleton]; omega)), fun H10 t10 k10 n10 e10 => ?_⟩
      have st9 := st8.up k9
      have w10 := wo_res (stt_ne st9) n10 (in2 (wo_ne w7) (wo_ne w9)) e10
      have kB := k9.trans k10
      refine ⟨.ref a, rfl, .int (j : Nat), rfl, _, _, rfl, rfl, _, rfl, L, a, xs, rfl, kB _ _ (wo_al _ _ _ _ ea8), fun H11 t11 k11 n11 e11 => ?_⟩
      have st10 := st8.up kB
      have w11 := wo_res (stt_ne st10) n11 (in1 al_) e11
      have z2 := cut_le (xs := xs) (lo := some ((j : Int) + 1)) (hi := none)
      refine ⟨L, t10, t11, _, _, rfl, rfl, k11 _ _ e10, e11, Nat.le_of_lt (small1000 (by rw [List.length_append, List.length_singleton]; omega)), fun H12 t12 k12 n12 e12 => ?_⟩
      have kC := (kB.trans k11).trans k12
      have w12 := wo_res (stt_ne (st10.up k11)) n12 (in2 (wo_ne w10) (wo_ne w11)) e12
      have kAll : Al (wo l H5) (wo l H12) := ((woA kx).trans (woA k7)).trans ((woK k8).trans (woA kC))
      have taX := (ta3.al kAll).wide (show b ≤ b + 1 by omega)
      have taV : TA (b + 1) (wo l H12) 3 [v] := TA.one ((((th8.al (woA kC)).wide (show 9 ≤ b + 1 by omega)).deeper))
      refine out H12 t12 L _ (fun b o n e => kC b o (k8 b o n ((kx.trans k7) b o (k03 b o n e)))) (st8.up kC) w12 (((taX.cut).app taV).app taX.cut) ?_
      rw [List.length_append, List.length_append, List.length_singleton]
      omega
  rintro σ H6 ⟨L1, o1, ys, rfl, k6, eo, tao, ho, ne3⟩
  have w4 : 4 ≤ way := by omega
  clear ea3' th1x th th1 ta ea
  have ea6 := woA k6 _ _ ea3
  have ta6 := ta3.al (woA k6)
  have st6 := st3.up k6
  have k06 : Kp l H H6 := fun b o n e => k6 b o (k03 b o n e)
  refine ⟨.ref l, rfl, .ref o1, rfl, o1, ys, rfl, sqO_sq (wo_al _ _ _ _ eo), (ys.length : Nat), 1, rfl, rfl, l, c, ns, _, rfl, by omega, by omega, st6, fun H7 pp k7 st7 p0 pn => ?_⟩
  obtain ⟨p, rfl⟩ := Int.eq_ofNat_of_zero_le p0
  have hp : p ≤ ys.length := by omega
  have ea7 := woK k7 _ _ ea6
  have ta7 := ta6.al (woK k7)
  have eo7 := woK k7 _ _ eo
  have tao7 := tao.al (woK k7)
  have k07 : Kp l H H7 := fun b o n e => k7 b o n (k06 b o n e)
  have ol : o1 ≠ l := wo_ne eo
  have eo7' := wo_al _ _ _ _ eo7
  refine ⟨fun σ H8 => ∃ (L2 : Bool) (o2 : Addr) (zs : List V), σ = [some (.ref l), some (.ref a), some (.int way), some (.int (j : Nat)), some (.ref o2), some (.int (p : Nat))] ∧ Kp l H H8 ∧ Stt H8 l c ns ∧ Al (wo l H7) (wo l H8) ∧ wo l H8 o2 = some (sqO L2 zs) ∧ TA (b + 1) (wo l H8) 2 zs ∧ zs.length ≤ b + 1, ?_, ?_⟩
  · have c1 := cut_le (xs := ys) (lo := none) (hi := some (p : Int))
    refine ⟨.int way, rfl, _, _, rfl, rfl, _, rfl, ite2 (fun e => ?_) (fun e => ?_)⟩
    · have c2 : (cutV ys none (some (p : Int))).length + (cutV ys (some ((p : Int) + way - 4)) none).length ≤ ys.length := by
        obtain ⟨k, hk⟩ := Int.eq_ofNat_of_zero_le (show 0 ≤ way - 4 by omega)
        rw [cut_take, show ((p : Int) + way - 4) = ((p + k : Nat) : Int) by omega, cut_drop, List.length_take, List.length_drop]
        omega
      refine ⟨.ref o1, rfl, .int (p : Nat), rfl, (p : Nat), rfl, L1, o1, ys, rfl, eo7', fun H8 t8 k8 n8 e8 => ?_⟩
      have w8 := wo_res (stt_ne st7) n8 (in1 ol) e8
      have st8 := st7.up k8
      refine ⟨.ref o1, rfl, .ref l, rfl, l, c, ns, rfl, st8, fun H9 v dv k9 st9 th9 => ?_⟩
      have eo9 := woK k9 _ _ (woA k8 _ _ eo7)
      have w9 := woK k9 _ _ w8
      refine ⟨.ref o1, v, kindL L1, rfl, sqO_kind (wo_al _ _ _ _ eo9), fun H10 t10 k10 nt10 e10 => ?_⟩
      rw [rowO_sq] at e10
      have w10 := wo_res (as := []) (stt_ne st9) (.inl nt10) (fun a' h => by cases h) e10
      refine ⟨L1, t8, t10, _, [v], rfl, rfl, k10 _ _ (wo_al _ _ _ _ w9), e10, Nat.le_of_lt (small1000 (by rw [List.length_singleton]; omega)), fun H11 t11 k11 n11 e11 => ?_⟩
      have w11 := wo_res (stt_ne (st9.up k10)) n11 (in2 (wo_ne w8) (wo_ne w10)) e11
      have kB := k10.trans k11
      refine ⟨.ref o1, rfl, .int (p : Nat), rfl, .int way, rfl, _, _, rfl, rfl, _, _, rfl, rfl, _, rfl, L1, o1, ys, rfl, kB _ _ (wo_al _ _ _ _ eo9), fun H12 t12 k12 n12 e12 => ?_⟩
      have w12 := wo_res (stt_ne (st9.up kB)) n12 (in1 ol) e12
      refine ⟨L1, t11, t12, _, _, rfl, rfl, k12 _ _ e11, e12, Nat.le_of_lt (small1000 (by rw [List.length_append, List.length_singleton]; omega)), fun H13 t13 k13 n13 e13 => ?_⟩
      have kC := (kB.trans k12).trans k13
      have w13 := wo_res (stt_ne ((st9.up kB).up k12)) n13 (in2 (wo_ne w11) (wo_ne w12)) e13
      have kAll : Al (wo l H7) (wo l H13) := (woA k8).trans ((woK k9).trans (woA kC))
      have taX := (tao7.al kAll).wide (show b ≤ b + 1 by omega)
      have taV : TA (b + 1) (wo l H13) 2 [v] := TA.one ((th9.al (woA kC)).wide (show 9 ≤ b + 1 by omega))
      refine ⟨L1, t13, _, rfl, fun b o n e => kC b o (k9 b o n (k8 b o (k07 b o n e))), st9.up kC, kAll, w13, ((taX.cut).app taV).app taX.cut, ?_⟩
      rw [List.length_append, List.length_append, List.length_singleton]
      omega
    refine ⟨.int way, rfl, rfl, _, rfl, ite2 (fun e => ?_) (fun e => ?_)⟩
    · refine ⟨.ref o1, rfl, .int (p : Nat), rfl, (p : Nat), rfl, L1, o1, ys, rfl, eo7', fun H8 t8 k8 n8 e8 => ?_⟩
      have w8 := wo_res (stt_ne st7) n8 (in1 ol) e8
      refine ⟨.ref o1, rfl, .int (p : Nat), rfl, _, _, rfl, rfl, _, rfl, L1, o1, ys, rfl, k8 _ _ eo7', fun H9 t9 k9 n9 e9 => ?_⟩
      have w9 := wo_res (stt_ne (st7.up k8)) n9 (in1 ol) e9
      have c2 : (cutV ys none (some (p : Int))).length + (cutV ys (some ((p : Int) + 1)) none).length ≤ ys.length := by
        rw [cut_take, show ((p : Int) + 1) = ((p + 1 : Nat) : Int) by omega, cut_drop, List.length_take, List.length_drop]
        omega
      refine ⟨L1, t8, t9, _, _, rfl, rfl, k9 _ _ e8, e9, Nat.le_of_lt (small1000 (by omega)), fun H10 t10 k10 n10 e10 => ?_⟩
      have kC := (k8.trans k9).trans k10
      have w10 := wo_res (stt_ne ((st7.up k8).up k9)) n10 (in2 (wo_ne w8) (wo_ne w9)) e10
      have taX := (tao7.al (woA kC)).wide (show b ≤ b + 1 by omega)
      exact ⟨L1, t10, _, rfl, fun b o n e => kC b o (k07 b o n e), st7.up kC, woA kC, w10, (taX.cut).app taX.cut, by rw [List.length_append]; omega⟩
    refine ⟨.int way, rfl, rfl, _, rfl, ite2 (fun e => ?_) (fun e => ?_)⟩
    · refine ⟨.ref o1, rfl, .ref o1, rfl, L1, o1, o1, ys, ys, rfl, rfl, eo7', eo7', Nat.le_of_lt (small1000 (by omega)), fun H8 t8 k8 n8 e8 => ?_⟩
      have w8 := wo_res (stt_ne st7) n8 (in2 ol ol) e8
      refine ⟨.ref o1, rfl, L1, t8, o1, _, ys, rfl, rfl, e8, k8 _ _ eo7', Nat.le_of_lt (small1000 (by rw [List.length_append]; omega)), fun H9 t9 k9 n9 e9 => ?_⟩
      have w9 := wo_res (stt_ne (st7.up k8)) n9 (in2 (wo_ne w8) ol) e9
      refine ⟨9, rfl, L1, t9, _, rfl, e9, fun H10 t10 k10 n10 e10 => ?_⟩
      have kC := (k8.trans k9).trans k10
      have w10 := wo_res (stt_ne ((st7.up k8).up k9)) n10 (in1 (wo_ne w9)) e10
      have taX := (tao7.al (woA kC)).wide (show b ≤ b + 1 by omega)
      refine ⟨L1, t10, _, rfl, fun b o n e => kC b o (k07 b o n e), st7.up kC, woA kC, w10, ((taX.app taX).app taX).cut, ?_⟩
      have e9' : cutV ((ys ++ ys) ++ ys) none (some 9) = ((ys ++ ys) ++ ys).take 9 := cut_take ((ys ++ ys) ++ ys) 9
      rw [e9', List.length_take]
      omega
    · refine ⟨.ref o1, rfl, L1, o1, ys, rfl, eo7', fun H8 t8 k8 n8 e8 => ?_⟩
      have w8 := wo_res (stt_ne st7) n8 (fun a' h => by cases h) e8
      have taX := (tao7.al (woA k8)).wide (show b ≤ b + 1 by omega)
      exact ⟨L1, t8, _, rfl, fun b o n e => k8 b o (k07 b o n e), st7.up k8, woA k8, w8, taX.sub fun x hx => List.mem_reverse.mp hx, by rw [List.length_reverse]; omega⟩
  rintro σ H8 ⟨L2, o2, zs, rfl, k08, st8, kw8, eo8, ta8, hz⟩
  have ea8 := kw8 _ _ ea7
  obtain ⟨dv, th8⟩ := th_sq eo8 ta8 hz
  refine ⟨.ref a, rfl, .int (j : Nat), rfl, (j : Nat), rfl, L, a, xs, rfl, wo_al _ _ _ _ ea8, fun H9 t9 k9 n9 e9 => ?_⟩
  have w9 := wo_res (stt_ne st8) n9 (in1 al_) e9
  have ea9 := woA k9 _ _ ea8
  refine ⟨.ref a, rfl, .ref o2, rfl, .ref a, .ref o2, kindL L, rfl, sqO_kind (wo_al _ _ _ _ ea9), fun H10 t10 k10 nt10 e10 => ?_⟩
  rw [rowO_sq] at e10
  have w10 := wo_res (as := []) (stt_ne (st8.up k9)) (.inl nt10) (fun a' h => by cases h) e10
  have z1 := cut_le (xs := xs) (lo := none) (hi := some (j : Int))
  have z2 := cut_le (xs := xs) (lo := some ((j : Int) + 1)) (hi := none)
  refine ⟨L, t9, t10, _, [.ref o2], rfl, rfl, k10 _ _ e9, e10, Nat.le_of_lt (small1000 (by rw [List.length_singleton]; omega)), fun H11 t11 k11 n11 e11 => ?_⟩
  have kB := (k9.trans k10).trans k11
  have w11 := wo_res (stt_ne (st8.up (k9.trans k10))) n11 (in2 (wo_ne w9) (wo_ne w10)) e11
  refine ⟨.ref a, rfl, .int (j : Nat), rfl, _, _, rfl, rfl, _, rfl, L, a, xs, rfl, kB _ _ (wo_al _ _ _ _ ea8), fun H12 t12 k12 n12 e12 => ?_⟩
  have w12 := wo_res (stt_ne (st8.up kB)) n12 (in1 al_) e12
  refine ⟨L, t11, t12, _, _, rfl, rfl, k12 _ _ e11, e12, Nat.le_of_lt (small1000 (by rw [List.length_append, List.length_singleton]; omega)), fun H13 t13 k13 n13 e13 => ?_⟩
  have kC := (kB.trans k12).trans k13
  have w13 := wo_res (stt_ne ((st8.up kB).up k12)) n13 (in2 (wo_ne w11) (wo_ne w12)) e13
  have taX := (ta7.al (kw8.trans (woA kC))).wide (show b ≤ b + 1 by omega)
  have taV : TA (b + 1) (wo l H13) 3 [.ref o2] := TA.one (th8.al (woA kC))
  refine out H13 t13 L _ (fun b o n e => kC b o (k08 b o n e)) (st8.up kC) w13 (((taX.cut).app taV).app taX.cut) ?_
  rw [List.length_append, List.length_append, List.length_singleton]
  omega
end
end Lk

namespace Lk
open PySem PySem.Calls PyProof.Rows PySem.Spec L2 Drw Err
/-- repr of a thing -/
def rRepT : List V → Hp → VK → Prop := fun xs H Q => ∃ (b n : Nat) (x : V) (d : PyData), xs = [x] ∧ b ≤ 12 ∧ n ≤ 4 ∧ Th b H n x d ∧ Q (.str d.shown) H
theorem mostB_le {b n : Nat} (hb : b ≤ 12) (hn : n ≤ 4) : mostB b n ≤ sizeLine := by
  have mono : ∀ n, mostB b n ≤ mostB 12 n := fun n => by
    induction n with
    | zero => exact Nat.le_refl _
    | succ n ih =>
      show b * (mostB b n + 2) + 40 ≤ 12 * (mostB 12 n + 2) + 40
      exact Nat.add_le_add_right (Nat.mul_le_mul hb (Nat.add_le_add_right ih 2)) 40
  refine Nat.le_trans (mono n) ?_
  match n, hn with
  | 0, _ => decide
  | 1, _ => decide
  | 2, _ => decide
  | 3, _ => decide
  | 4, _ => decide
theorem call_repr_th {X : Cx} (hg : X.A.guards = some []) (hu : X.A.units + 70 < cLine) (ks : ∃ o, X.base.get? sysModules = some o) : CallR X (.builtin "repr") rRepT := by
  intro pins s σ H xs us Q I r h
  obtain ⟨b, n, x, d, rfl, hb, hn, th, q⟩ := h
  obtain ⟨t1, t2, t3⟩ := th.tell
  have z := Nat.le_trans t3 (mostB_le hb hn)
  have sm : H sysModules = none := by
    obtain ⟨o, ho⟩ := ks
    exact (I.bs _ _ ho).2
  obtain ⟨u, rfl, r1⟩ := vals1 r
  have toks : ∀ k, Inv X pins σ H { s with toks := k } := fun k => I.tok k
  cases th with
  | leaf n h =>
    cases h with
    | int i _ h2 =>
      obtain ⟨t, rfl⟩ := r1
      refine PySem.P.repr_of_int ?_ ⟨.str _, H, toks _, ⟨_, rfl⟩, ?_⟩
      · rw [PyData.showable] at h2
        exact of_decide_eq_true h2
      · rw [PyData.shown] at q
        exact q
    | bl c =>
      cases r1
      refine PySem.P.repr_of_bool ⟨.str _, H, toks _, ⟨_, rfl⟩, ?_⟩
      rw [PyData.shown] at q
      cases c <;> exact q
    | str w h =>
      obtain ⟨t, rfl⟩ := r1
      rw [PyData.shown] at q z
      exact PySem.P.repr_of_str ⟨.str _, H, toks _, ⟨_, rfl⟩, q⟩ z
  | non n =>
    cases r1
    rw [PyData.shown] at q
    exact PySem.P.repr_of_none ⟨.str _, H, toks _, ⟨_, rfl⟩, q⟩
  | emp n h =>
    obtain ⟨as, rd, ns⟩ := (Th.emp n h : Th b H n _ _).reads I sm _ r1
    cases r1
    exact repr_of_reads' rd t1 (fun _ => ns) hg (by omega) (fun _ _ e => e) (fun h' u tk hk => ⟨.str _, H, I.kept (t' := tk) hk, ⟨u, rfl⟩, q⟩) z
  | one n h =>
    obtain ⟨as, rd, ns⟩ := (Th.one n h : Th b H n _ _).reads I sm _ r1
    cases r1
    exact repr_of_reads' rd t1 (fun _ => ns) hg (by omega) (fun _ _ e => e) (fun h' u tk hk => ⟨.str _, H, I.kept (t' := tk) hk, ⟨u, rfl⟩, q⟩) z
  | lst h h2 h3 h4 =>
    obtain ⟨as, rd, ns⟩ := (Th.lst h h2 h3 h4).reads I sm _ r1
    cases r1
    exact repr_of_reads' rd t1 (fun _ => ns) hg (by omega) (fun _ _ e => e) (fun h' u tk hk => ⟨.str _, H, I.kept (t' := tk) hk, ⟨u, rfl⟩, q⟩) z
  | tup h h2 h3 h4 =>
    obtain ⟨as, rd, ns⟩ := (Th.tup h h2 h3 h4).reads I sm _ r1
    cases r1
    exact repr_of_reads' rd t1 (fun _ => ns) hg (by omega) (fun _ _ e => e) (fun h' u tk hk => ⟨.str _, H, I.kept (t' := tk) hk, ⟨u, rfl⟩, q⟩) z
end Lk

namespace Lk
open PySem PySem.Calls PyProof.Rows PySem.Spec L2 Drw Err LamX
/-- lists and tuples within are no longer than nine -/
def Lens : Nat → PyData → Prop
  | 0, _ => True
  | n + 1, d => ∀ ds, (d = .list ds ∨ d = .tuple ds) → ds.length ≤ 9 ∧ ∀ x ∈ ds, Lens n x
theorem mx_th {G : Hp} : ∀ {n : Nat} {y : V} {e : PyData}, Mx G n y e → ∀ d, Shp n d e → Lens n d → Th 9 G n y e := by
  intro n y e m
  induction m with
  | leaf n h => exact fun _ _ _ => .leaf n h
  | @lst n a xs es h1 h2 h3 h4 ih =>
    intro d sh ls
    have go : ∀ ds, (d = .list ds ∨ d = .tuple ds) → ds.length = es.length → (∀ (i : Nat) d e, ds[i]? = some d → es[i]? = some e → Shp n d e) → Th 9 G (n + 1) (.ref a) (.list es) := fun ds hd hl hx => by
      obtain ⟨l9, each⟩ := ls ds hd
      refine .lst h1 h2 (by omega) fun i x e e1 e2 => ?_
      have hi : i < ds.length := by
        have z := (List.getElem?_eq_some_iff.mp e2).1
        omega
      have di := List.getElem?_eq_getElem hi
      exact ih i x e e1 e2 ds[i] (hx i _ e di e2) (each _ (List.getElem_mem hi))
    cases sh with
    | same _ _ => exact go es (.inl rfl) rfl fun i d e e1 e2 => by rw [Option.some.inj (e1.symm.trans e2)]; exact .same _ _
    | ll hl hx => exact go _ (.inl rfl) hl hx
    | tl hl hx => exact go _ (.inr rfl) hl hx
  | @tup n a xs es h1 h2 h3 h4 ih =>
    intro d sh ls
    have go : ∀ ds, (d = .list ds ∨ d = .tuple ds) → ds.length = es.length → (∀ (i : Nat) d e, ds[i]? = some d → es[i]? = some e → Shp n d e) → Th 9 G (n + 1) (.ref a) (.tuple es) := fun ds hd hl hx => by
      obtain ⟨l9, each⟩ := ls ds hd
      refine .tup h1 h2 (by omega) fun i x e e1 e2 => ?_
      have hi : i < ds.length := by
        have z := (List.getElem?_eq_some_iff.mp e2).1
        omega
      have di := List.getElem?_eq_getElem hi
      exact ih i x e e1 e2 ds[i] (hx i _ e di e2) (each _ (List.getElem_mem hi))
    cases sh with
    | same _ _ => exact go es (.inr rfl) rfl fun i d e e1 e2 => by rw [Option.some.inj (e1.symm.trans e2)]; exact .same _ _
    | lt hl hx => exact go _ (.inl rfl) hl hx
    | tt hl hx => exact go _ (.inr rfl) hl hx
theorem lens_ks {ks : List (List V)} (n : ks.length ≤ 9) (h : ∀ k ∈ ks, k.length ≤ 9) : Lens 2 (ksD ks) := by
  intro ds hd
  obtain rfl : ks.map (fun k => PyData.tuple (k.map pd)) = ds := by
    rcases hd with z | z
    · cases z
    · exact PyData.tuple.inj z
  refine ⟨by rw [List.length_map]; exact n, fun x hx => ?_⟩
  obtain ⟨k, hk, rfl⟩ := List.mem_map.mp hx
  intro es he
  obtain rfl : k.map pd = es := by
    rcases he with z | z
    · cases z
    · exact PyData.tuple.inj z
  exact ⟨by rw [List.length_map]; exact h k hk, fun _ _ => True.intro⟩
def strOf : PyData → Str
  | .str w => w
  | _ => Str.empty
def partsOf : PyData → List PyData
  | .list ds => ds
  | .tuple ds => ds
  | _ => []
def scrOf (d : PyData) : List Str := (partsOf d).map strOf
theorem okD_words : ∀ {ds : List PyData} {o r : Bool}, okD ds o r = true → (ds.map strOf).map PyData.str = ds ∧ okS (ds.map strOf) o r = true
  | [], _, _, _ => ⟨rfl, rfl⟩
  | .str w :: ds, o, r, h => by
    obtain ⟨h1, h2⟩ := Bool.and_eq_true_iff.mp (show (mayB w o r && okD ds (opnB w o) (rdsB w r)) = true from h)
    obtain ⟨e1, e2⟩ := okD_words h2
    refine ⟨?_, ?_⟩
    · rw [List.map_cons, List.map_cons, e1]
      rfl
    · show (mayB w o r && okS (ds.map strOf) (opnB w o) (rdsB w r)) = true
      rw [h1, e2]
      rfl
  | .none :: ds, _, _, h => by cases h
  | .bool _ :: ds, _, _, h => by cases h
  | .int _ :: ds, _, _, h => by cases h
  | .list _ :: ds, _, _, h => by cases h
  | .tuple _ :: ds, _, _, h => by cases h
  | .dict _ :: ds, _, _, h => by cases h
theorem words_of {b n : Nat} {H : Hp} : ∀ {ys : List V} {ws : List Str}, ys.length = ws.length → (∀ (i : Nat) x d, ys[i]? = some x → (ws.map PyData.str)[i]? = some d → Th b H n x d) → ys = wordsV ws
  | [], [], _, _ => rfl
  | y :: ys, w :: ws, hl, h => by
    have h0 := h 0 y (.str w) rfl rfl
    have e0 : y = .str w := by
      cases h0 with
      | leaf _ h => cases h; rfl
    have t := words_of (ys := ys) (ws := ws) (by simpa using hl) fun i x d e1 e2 => h (i + 1) x d e1 e2
    rw [e0, t]
    rfl
/-- scripts, told of what stands there -/
theorem th_deep {b n : Nat} {H : Hp} {x : V} {d : PyData} (th : Th b H n x d) (h : areScr d = true) : ∃ (p : Addr) (ss : List (List Str)) (xs : List V), x = .ref p ∧ DeepP H p (ss.map wordsV) ∧ okAll ss ∧ Sp' H p xs ∧ xs.length = ss.length := by
  rcases th.split with ⟨n1, n2, _⟩ | ⟨m, a, xs, ds, rfl, rfl, ga, hd, hL, hT, hl, hb, hx⟩
  · cases d with
    | list ds => exact absurd rfl (n1 ds)
    | tuple ds => exact absurd rfl (n2 ds)
    | _ => cases h
  have is : areScr d = ((decide (1 ≤ ds.length) && decide (ds.length ≤ 4)) && ds.all isScr) := by rcases hd with rfl | rfl <;> rfl
  rw [is] at h
  obtain ⟨h14, hall⟩ := Bool.and_eq_true_iff.mp h
  obtain ⟨h1, h4⟩ := Bool.and_eq_true_iff.mp h14
  have h1 := of_decide_eq_true h1
  have h4 := of_decide_eq_true h4
  have each : ∀ e ∈ ds, isScr e = true := List.all_eq_true.mp hall
  have one : ∀ e, isScr e = true → (scrOf e).length ≤ 8 ∧ okS (scrOf e) false false = true ∧ (scrOf e).map PyData.str = partsOf e ∧ (e = .list (partsOf e) ∨ e = .tuple (partsOf e)) := fun e he => by
    have key : ∀ es, isScr e = (decide (es.length ≤ 8) && okD es false false) → partsOf e = es → (e = .list es ∨ e = .tuple es) → (scrOf e).length ≤ 8 ∧ okS (scrOf e) false false = true ∧ (scrOf e).map PyData.str = partsOf e ∧ (e = .list (partsOf e) ∨ e = .tuple (partsOf e)) := fun es z1 z2 z3 => by
      rw [z1] at he
      obtain ⟨y1, y2⟩ := Bool.and_eq_true_iff.mp he
      have y1 := of_decide_eq_true y1
      obtain ⟨w1, w2⟩ := okD_words y2
      unfold scrOf
      rw [z2]
      exact ⟨by rw [List.length_map]; exact y1, w2, w1, z3⟩
    cases e with
    | list es => exact key es rfl rfl (.inl rfl)
    | tuple es => exact key es rfl rfl (.inr rfl)
    | _ => cases he
  refine ⟨a, ds.map scrOf, xs, rfl, ⟨xs, ga, by rw [List.length_map, List.length_map]; exact hl, fun i k hk => ?_⟩, ⟨by rw [List.length_map]; exact h1, by rw [List.length_map]; exact h4, fun ws hw => ?_⟩, ga, by rw [List.length_map]; exact hl⟩
  · rw [List.getElem?_map, List.getElem?_map] at hk
    cases hdi : ds[i]? with
    | none =>
      rw [hdi] at hk
      cases hk
    | some e =>
      rw [hdi] at hk
      obtain rfl : wordsV (scrOf e) = k := Option.some.inj hk
      have he := each e (List.mem_of_getElem? hdi)
      obtain ⟨_, _, w3, w4⟩ := one e he
      have hi : i < xs.length := by
        have z := (List.getElem?_eq_some_iff.mp hdi).1
        omega
      have thz := hx i xs[i] e (List.getElem?_eq_getElem hi) hdi
      rcases thz.split with ⟨n1, n2, _⟩ | ⟨m', b', ys, es, _, ey, gb, hes, _, _, hl2, _, hy⟩
      · rcases w4 with w4 | w4
        · exact absurd w4 (n1 _)
        · exact absurd w4 (n2 _)
      · refine ⟨b', by rw [List.getElem?_eq_getElem hi, ey], ?_⟩
        have ees : es = partsOf e := by rcases hes with rfl | rfl <;> rfl
        have eys : ys = wordsV (scrOf e) := by
          rw [ees, ← w3] at hy hl2
          exact words_of (by rw [hl2, List.length_map]) hy
        rw [← eys]
        exact gb
  · obtain ⟨e, he, rfl⟩ := List.mem_map.mp hw
    obtain ⟨w1, w2, _, _⟩ := one e (each e he)
    exact ⟨w1, w2⟩
end Lk

namespace Lk
open PySem PySem.Calls PyProof.Rows PySem.Spec L2 Drw Err LamX Grd
/-- as top_of, the code object named -/
theorem top_ofC {P : Program} {w : World} {K : PySem.W.Frag} {mg : Str → Option Value} {base : Heap} {k : Nat} {x q : Str} {st : Stmt} {f co : Addr} {oc kV doc pm ct : Value} {od an : Option Addr} {osl : Array (Option Value)} {N ps : List Str} {sp : Sp}
    (found : K.lookup f = some ⟨oc, od, .func (PySem.W.fnOf x q (defArgs st) (defBody st) (defScope st) .none kV doc pm an (.ref co) ct), osl⟩) (coded : PySem.W.codeIn K (.ref co) q = true) (S : FnScope N ps (defScope st)) (hr : Room (k + 1) callerA)
    (walk : ∀ (s : Shared) (H : Hp) (vs : List V) (Q : VK), Room k (callerA.deeper (envOfC q (defScope st) s.heap.objs.size f (.ref co))) → sp vs H Q L2.E0 →
      ∃ t, PSs (cxOf CX0 P w K mg base N q (defScope st) f (.ref co) callerA [] s H L2.E0).nox (defBody st) t ∧ t { nx := fun _ H' => Q .non H', rt := Q } (start N vs) H) : TopOk P w K mg base f (PySem.W.fnOf x q (defArgs st) (defBody st) (defScope st) .none kV doc pm an (.ref co) ct) ps sp := by
  constructor
  intro s H ar us vs Q env bound rel many told
  have inK : K.In s.heap := env.mod.kin.keeps fun b o z => (env.bs b o z).1
  have free : s.heap.NoLimit := env.mod.nolimit.keeps fun b o z => (env.bs b o z).1
  have kinds : ∀ y ∈ ps.zip us, (defScope st).names.lookup y.1 = some .local ∨ ((defScope st).names.lookup y.1 = some .cell ∧ ((cellsFrom (s.heap.objs.size + 1) (defScope st).names []).lookup y.1).isSome = true) := by
    rintro ⟨n, v⟩ hy
    rcases S.par n (List.of_mem_zip hy).1 with z | z
    · exact Or.inl z
    · exact Or.inr ⟨z, PySem.W.cellsFrom_some _ _ _ (Or.inl z)⟩
  refine codeAny_call_function hr.depth (inK _ _ found) rfl S.co S.gen rfl (PySem.W.codeRec_of inK coded) (bound _ _ _ _ (wpAny_newFunctionEnv_cells S.kind kinds fun e he s1 laid => ?_))
  subst he
  refine ⟨free.keeps laid.toInCall.keep, codeAny_func ?_⟩
  obtain ⟨t, term, read⟩ := walk s H vs Q (hr.deeper _) told
  have inv : Inv (cxOf CX0 P w K mg base N q (defScope st) f (.ref co) callerA [] s H L2.E0) [] (start N vs) H s1 := inv_start S hr.hd env many rel laid
  refine wpAny_mono (term.nox.run [] s1 (start N vs) H _ inv read) ?_ fun e s' z => z
  have ends : ∀ {σ' : L2.St} {H' : Hp} {v : V} {u : Value} {s' : Shared}, Inv (cxOf CX0 P w K mg base N q (defScope st) f (.ref co) callerA [] s H L2.E0) [] σ' H' s' → RelV v u → Q v H' → CE [] P w H s Q u s' := by
    intro σ' H' v u s' J rv z
    exact ⟨v, H', J.os, J.bare, J.base, J.hok, rv, z⟩
  intro fl s' z
  cases fl with
  | ret u =>
    obtain ⟨v, σ', H', J, rv, z⟩ := z
    exact ends J rv z
  | next =>
    obtain ⟨σ', H', J, z⟩ := z
    exact ends (v := V.non) (u := Value.none) J rfl z
  | brk => exact absurd z fun ⟨_, _, _, y⟩ => y
  | cont => exact absurd z fun ⟨_, _, _, y⟩ => y
/-- one of several defs that a slot may hold, each of which may raise -/
structure HeldX (P : Program) (w : World) (K : PySem.W.Frag) (mg : Str → Option Value) (base : Heap) (k : Nat) (sp : Sp) (f : Addr) : Prop where
  ex : ∃ (fd : FuncData) (ps : List Str), FnOk P w K mg base (L2.CX P w) k f fd ps sp ∧ PySem.W.keepIn K (.ref f) = true ∧ Binds K fd ps []
def tCallX (i : Nat) (fs : List Addr) (sp : Sp) (E : XK) (t : L2.TA) : TE := fun σ H Q => ∃ f, σ[i]? = some (some (.ref f)) ∧ f ∈ fs ∧ t σ H fun vs H1 => sp vs H1 Q E
theorem pe_callX {X : Cx} {k i : Nat} {fs : List Addr} {sp : Sp} {E : XK} {x : Str} {p pos : Pos} {e : Expr} {es : List Expr} {t : L2.TA} (A : ∀ f ∈ fs, HeldX X.prog X.w X.K X.mg X.base k sp f) (hr : Room k X.A) (hN : X.N[i]? = some x) (hv : Vis X.env.scope x) (hx : Passes (L2.CX X.prog X.w) X E) (ha : PA X (e :: es) t)
    (hdb : (x == ("__debug__" : Str)) = false := by decide) (hcd : (x == ("__classdict__" : Str)) = false := by decide)
    (he : starEach (e :: es) X.env = (false, eval e X.env) :: starEach es X.env := by rfl) (hpl : (backTo pos (starEach es X.env)).any (·.1) = false := by rfl) : PE X (.Call (.Name x p) (e :: es) [] pos) (tCallX i fs sp E t) := by
  refine ⟨fun pins s σ H Q I h => ?_⟩
  obtain ⟨f, hs, hm, ht⟩ := h
  obtain ⟨fd, ps, F, hk, hb⟩ := (A f hm).ex
  refine (pe_callL (i := i) (f := f) (sp := sp) (dvs := []) (E := E) F hr hN hv hk hb .nil hx ha hdb hcd he hpl).run pins s σ H Q I ⟨hs, ?_⟩
  have e0 : (fun (vs : List V) (H1 : Hp) => sp (vs ++ []) H1 Q E) = fun vs H1 => sp vs H1 Q E := by
    funext vs H1
    rw [List.append_nil]
  show t σ H (fun vs H1 => sp (vs ++ []) H1 Q E)
  rw [e0]
  exact ht
theorem scLaw : FnScope ["_law_script_here", "_law_state", "_law_turn", "_law_thing", "_law_k", "_law_kept", "_law_odd_here", "_law_ask", "_law_look"] ["_law_script_here"] (defScope sLaw) := ⟨rfl, rfl, rfl, by decide +kernel, rfl, by decide +kernel, by decide +kernel⟩
def spLaw (K : PySem.W.Frag) (tab : Addr) : Sp := fun vs H Q _ => ∃ (a : Addr) (ns : List Int), vs = [.ref a] ∧ SqL K H a (ns.map V.int) ∧ ns.length ≤ 63 ∧ H tab = some (.tbl #[]) ∧ ∀ H', Q (.bl true) H'
abbrev lamQ : Str := (("law" : Str) ++ ".<locals>.") ++ "<lambda>"
/-- what is known within a turn: the draws' state, the table, the thing -/
structure TS (l c tab : Addr) (ns : List Int) (b : Nat) (x : V) (d : PyData) (H : Hp) : Prop where
  li : LI H l c tab ns lamQ
  th : Th b (wo l H) 4 x d
theorem TS.go {l c tab : Addr} {ns : List Int} {b : Nat} {x : V} {d : PyData} {H H' : Hp} (D : TS l c tab ns b x d H) (g : Go l c tab ns lamQ H H') : TS l c tab ns b x d H' := ⟨g.li, D.th.al g.al⟩
section
variable {P : Program} {w : World} {K : PySem.W.Frag} {mg : Str → Option Value} {base : Heap}
theorem ok_law {fL co tab gm CP CD CE : Addr} {oc kV doc pm ct oc' kV' doc' pm' cd' ct' : Value} {od an od' an' : Option Addr} {osl osl' : Array (Option Value)} {fFr fSc fHa fBe fBg fS2 fFs fOd fAr fT fB1 fB2 fB3 fB4 fL1 fL2 fL3 fL4 fNx : Addr} {dFr dSc dHa dBe dBg dS2 dFs dOd dAr dT dB1 dB2 dB3 dB4 dL1 dL2 dL3 dL4 dNx : FuncData} {pL1 pL2 pL3 pL4 : List Str}
    (found : K.lookup fL = some ⟨oc, od, .func (PySem.W.fnOf "law" "law" (defArgs sLaw) (defBody sLaw) (defScope sLaw) .none kV doc pm an (.ref co) ct), osl⟩) (coded : PySem.W.codeIn K (.ref co) "law" = true) (TB : TabB base mg co tab)
    (gM : mg "_law_misused" = some (.ref gm)) (kM : PySem.W.keepIn K (.ref gm) = true) (lM : K.lookup gm = some ⟨oc', od', .func (PySem.W.fnOf "_law_misused" "_law_misused" (defArgs sMisused) (defBody sMisused) (defScope sMisused) .none kV' doc' pm' an' cd' ct'), osl'⟩) (cM : PySem.W.codeIn K cd' "_law_misused" = true)
    (bM : Binds K (PySem.W.fnOf "_law_misused" "_law_misused" (defArgs sMisused) (defBody sMisused) (defScope sMisused) .none kV' doc' pm' an' cd' ct') ["_law_deed"] [])
    (TP : EC P w K mg "ProgrammingError" CP) (gD : mg "DatabaseError" = some (.ref CD)) (gE : mg "Error" = some (.ref CE)) (mis : mg "isinstance" = none) (exP : PySem.W.exmOne K (.ref CP) (.ref CP) = some true) (kiD : PySem.W.kitOne K (.ref CP) (.ref CD) = some true)
    (ks : ∃ o, base.get? sysModules = some o)
    (Fr : Can P w K mg base CX0 1 "_law_fresh" ["_law_script_here"] (spFresh K) fFr dFr) (Sc : Can P w K mg base CX0 5 "_law_scripts" ["_law_state", "_law_most", "_law_many"] spScripts fSc dSc) (Ha : Can P w K mg base CX0 5 "_law_handed" ["_law_state", "_law_thing"] (spHand 2) fHa dHa)
    (Be : Can P w K mg base CX0 5 "_law_bent" ["_law_state", "_law_thing"] spBent fBe dBe) (Bg : Can P w K mg base CX0 1 "_law_begun" ["_law_scripts_here"] spBegunX fBg dBg) (S2 : Can P w K mg base CX0 4 "_law_same" ["_law_found", "_law_due"] (spTw 2) fS2 dS2)
    (Fs : Can P w K mg base CX0 4 "first_state" ["scripts"] (spFirstState K) fFs dFs) (Od : Can P w K mg base CX0 3 "_law_odd" ["_law_state"] spOddX fOd dOd) (Ar : Can P w K mg base CX0 2 "_law_are_scripts" ["_law_thing"] spAre fAr dAr) (T : Can P w K mg base CX0 2 "_law_take" ["_law_state", "_law_many"] spTake fT dT)
    (B1 : Can P w K mg base (L2.CX P w) 4 "first_state" ["scripts"] (spBad 0 CP) fB1 dB1) (B2 : Can P w K mg base (L2.CX P w) 4 "refusal" ["scripts"] (spBad 0 CP) fB2 dB2) (B3 : Can P w K mg base (L2.CX P w) 4 "stuck" ["scripts"] (spBad 0 CP) fB3 dB3) (B4 : Can P w K mg base (L2.CX P w) 4 "calmed" ["scripts"] (spBad 0 CP) fB4 dB4)
    (L1 : Can P w K mg base (L2.CX P w) 4 "is_order" pL1 (spBad 1 CP) fL1 dL1) (L2' : Can P w K mg base (L2.CX P w) 4 "is_never" pL2 (spBad 1 CP) fL2 dL2) (L3 : Can P w K mg base (L2.CX P w) 4 "is_stuck" pL3 (spBad 1 CP) fL3 dL3) (L4 : Can P w K mg base (L2.CX P w) 4 "is_free" pL4 (spBad 1 CP) fL4 dL4)
    (Nx : Can P w K mg base (L2.CX P w) 4 "next_state" ["scripts", "state", "at"] (spBad 2 CP) fNx dNx)
    (mr : mg "range" = none) (mrp : mg "repr" = none) :
    TopOk P w K mg base fL (PySem.W.fnOf "law" "law" (defArgs sLaw) (defBody sLaw) (defScope sLaw) .none kV doc pm an (.ref co) ct) ["_law_script_here"] (spLaw K tab) := by
  refine top_ofC (k := 6) found coded scLaw ⟨rfl, by decide, by decide⟩ fun s H vs Q hr h => ?_
  have hu : (callerA.deeper (envOfC "law" (defScope sLaw) s.heap.objs.size fL (.ref co))).units + 70 < cLine := by
    have z := hr.un
    omega
  have H1s : ∀ f ∈ [fB1, fB2, fB3, fB4], HeldX P w K mg base 4 (spBad 0 CP) f := fun f hf => by
    rcases List.mem_cons.mp hf with rfl | hf
    · exact ⟨_, _, B1.G, B1.kp, B1.b⟩
    rcases List.mem_cons.mp hf with rfl | hf
    · exact ⟨_, _, B2.G, B2.kp, B2.b⟩
    rcases List.mem_cons.mp hf with rfl | hf
    · exact ⟨_, _, B3.G, B3.kp, B3.b⟩
    rw [List.mem_singleton.mp hf]
    exact ⟨_, _, B4.G, B4.kp, B4.b⟩
  have H2s : ∀ f ∈ [fL1, fL2, fL3, fL4], HeldX P w K mg base 4 (spBad 1 CP) f := fun f hf => by
    rcases List.mem_cons.mp hf with rfl | hf
    · exact ⟨_, _, L1.G, L1.kp, L1.b⟩
    rcases List.mem_cons.mp hf with rfl | hf
    · exact ⟨_, _, L2'.G, L2'.kp, L2'.b⟩
    rcases List.mem_cons.mp hf with rfl | hf
    · exact ⟨_, _, L3.G, L3.kp, L3.b⟩
    rw [List.mem_singleton.mp hf]
    exact ⟨_, _, L4.G, L4.kp, L4.b⟩
  obtain ⟨a, ns0, rfl, hS, hn, hTab, q⟩ := h
  refine ⟨_, (pss_cons (ps_set (i := 1) scLaw.nd rfl (.inl rfl) (pe_call Fr.G (hr.mono (by decide)) (by rfl) Fr.g Fr.kp Fr.b .nil pass0 (pa_cons (pv 0) pa_nil))) (pss_cons (ps_for PassesOwn.never rfl (pi_range1 (by rfl) mr (pa_cons pe_int pa_nil)) (pg_name (i := 2) scLaw.nd rfl (Or.inl rfl)) (pss_cons (ps_set (i := 3) scLaw.nd rfl (.inr rfl) (pe_call Ha.G (hr.mono (by decide)) (by rfl) Ha.g Ha.kp Ha.b .nil pass0 (pa_cons (pv 1) (pa_cons (pe_call Sc.G (hr.mono (by decide)) (by rfl) Sc.g Sc.kp Sc.b .nil pass0 (pa_cons (pv 1) (pa_cons pe_int (pa_cons pe_int pa_nil)))) pa_nil)))) (C8.pss_cut (ps_for PassesOwn.never rfl (pi_range1 (by rfl) mr (pa_cons (pe_call T.G (hr.mono (by decide)) (by rfl) T.g T.kp T.b .nil pass0 (pa_cons (pv 1) (pa_cons pe_int pa_nil))) pa_nil)) (pg_name (i := 4) scLaw.nd rfl (Or.inl rfl)) (pss_one (ps_set (i := 3) scLaw.nd rfl (.inr rfl) (pe_call Be.G (hr.mono (by decide)) (by rfl) Be.g Be.kp Be.b .nil pass0 (pa_cons (pv 1) (pa_cons (pv 3) pa_nil)))))) (pss_cons (ps_asg (pe_tup (pa_cons (pe_callB (call_repr_th rfl hu ks) (by rfl) mrp (by decide +kernel) (pa_cons (pv 3) pa_nil)) (pa_cons (pe_call Od.G (hr.mono (by decide)) (by rfl) Od.g Od.kp Od.b .nil pass0 (pa_cons (pv 1) pa_nil)) pa_nil))) (pg_tup rfl (pgs_cons (pg_name (i := 5) scLaw.nd rfl (Or.inl rfl)) (pgs_cons (pg_name (i := 6) scLaw.nd rfl (Or.inr rfl)) pgs_nil)))) (C8.pss_cut (ps_if (pt_val (pe_call Ar.G (hr.mono (by decide)) (by rfl) Ar.g Ar.kp Ar.b .nil pass0 (pa_cons (pv 3) pa_nil))) (pss_one (ps_if (pt_not (pt_val (pe_call S2.G (hr.mono (by decide)) (by rfl) S2.g S2.kp S2.b .nil pass0 (pa_cons (pe_call Fs.G (hr.mono (by decide)) (by rfl) Fs.g Fs.kp Fs.b .nil pass0 (pa_cons (pv 3) pa_nil)) (pa_cons (pe_call Bg.G (hr.mono (by decide)) (by rfl) Bg.g Bg.kp Bg.b .nil pass0 (pa_cons (pv 3) pa_nil)) pa_nil))))) (pss_one (ps_ret pe_bl)) pss_nil)) (C8.pss_cut (ps_for PassesOwn.never rfl (pi_tup (pe_tup (pa_cons (pe_glob (v := .ref fB1) (by rfl) B1.g rfl) (pa_cons (pe_glob (v := .ref fB2) (by rfl) B2.g rfl) (pa_cons (pe_glob (v := .ref fB3) (by rfl) B3.g rfl) (pa_cons (pe_glob (v := .ref fB4) (by rfl) B4.g rfl) pa_nil)))))) (pg_name (i := 7) scLaw.nd rfl (Or.inr rfl)) (pss_one (ps_if (pt_not (pt_val (pe_lamcall (k := 4) (T := [(tab, lamQ)]) (by rfl) gM kM lM cM bM scMisused rfl (.inl rfl) (misused_gives TP gD gE mis exP kiD) TB rfl (List.mem_singleton.mpr rfl) (fun p hp _ => by rw [List.mem_singleton.mp hp]; rfl) hr (lamS_by (sc := defScope sLaw) (by decide +kernel)) rfl (fun _ _ _ _ _ => rfl) (t := fun E => tCallX 7 [fB1, fB2, fB3, fB4] (spBad 0 CP) E (tCons (tVar 3) tNil)) (fun A outer s H E f c' hr' => pe_callX (i := 7) H1s hr' rfl (.inr (.inr rfl)) (passes_call (takes_of rfl rfl rfl rfl) fun _ _ _ _ h => h) (pa_cons (pv 3) pa_nil))))) (pss_one (ps_ret pe_bl)) pss_nil))) (C8.pss_cut (ps_for PassesOwn.never rfl (pi_tup (pe_tup (pa_cons (pe_glob (v := .ref fL1) (by rfl) L1.g rfl) (pa_cons (pe_glob (v := .ref fL2) (by rfl) L2'.g rfl) (pa_cons (pe_glob (v := .ref fL3) (by rfl) L3.g rfl) (pa_cons (pe_glob (v := .ref fL4) (by rfl) L4.g rfl) pa_nil)))))) (pg_name (i := 8) scLaw.nd rfl (Or.inr rfl)) (pss_one (ps_if (pt_not (pt_val (pe_lamcall (k := 4) (T := [(tab, lamQ)]) (by rfl) gM kM lM cM bM scMisused rfl (.inl rfl) (misused_gives TP gD gE mis exP kiD) TB rfl (List.mem_singleton.mpr rfl) (fun p hp _ => by rw [List.mem_singleton.mp hp]; rfl) hr (lamS_by (sc := defScope sLaw) (by decide +kernel)) rfl (fun _ _ _ _ _ => rfl) (t := fun E => tCallX 8 [fL1, fL2, fL3, fL4] (spBad 1 CP) E (tCons (tVar 3) (tCons (tVar 6) tNil))) (fun A outer s H E f c' hr' => pe_callX (i := 8) H2s hr' rfl (.inr (.inr rfl)) (passes_call (takes_of rfl rfl rfl rfl) fun _ _ _ _ h => h) (pa_cons (pv 3) (pa_cons (pv 6) pa_nil)))))) (pss_one (ps_ret pe_bl)) pss_nil))) (pss_one (ps_if (pt_not (pt_val (pe_lamcall (k := 4) (T := [(tab, lamQ)]) (by rfl) gM kM lM cM bM scMisused rfl (.inl rfl) (misused_gives TP gD gE mis exP kiD) TB rfl (List.mem_singleton.mpr rfl) (fun p hp _ => by rw [List.mem_singleton.mp hp]; rfl) hr (lamS_by (sc := defScope sLaw) (by decide +kernel)) rfl (fun _ _ _ _ _ => rfl) (t := fun E => tCall (spBad 2 CP) [] E (tCons (tVar 3) (tCons (tVar 6) (tCons (tC (.int 0)) tNil)))) (fun A outer s H E f c' hr' => (pe_call Nx.G hr' (by rfl) Nx.g Nx.kp Nx.b .nil (passes_call (takes_of rfl rfl rfl rfl) fun _ _ _ _ h => h) (pa_cons (pv 3) (pa_cons (pv 6) (pa_cons pe_int pa_nil)))))))) (pss_one (ps_ret pe_bl)) pss_nil))))) (pss_one (ps_if (pt_cmpR op_ne (pe_callB (call_repr_th rfl hu ks) (by rfl) mrp (by decide +kernel) (pa_cons (pv 3) pa_nil)) (pv 5) (nomark _)) (pss_one (ps_ret pe_bl)) pss_nil))))))) (pss_one (ps_ret pe_bl)))), ?_⟩
  refine ⟨.ref a, rfl, a, ns0, rfl, hS, hn, fun H1 l c ns kA stt nl => ?_⟩
  have tl : tab ≠ l := fun z => by
    rw [z, nl] at hTab
    cases hTab
  have I1 : LI H1 l c tab ns lamQ := ⟨stt, .nil (kA _ _ hTab), tl⟩
  refine ⟨8, rfl, by decide, by decide, for_range (n := 8) (fun i σ H' => ∃ y2 y3 y4 y5 y6 y7 y8 : Option V, σ = [some (.ref a), some (.ref l), y2, y3, y4, y5, y6, y7, y8] ∧ LI H' l c tab ns lamQ)
    ⟨none, none, none, none, none, none, none, rfl, I1⟩ ?turn ?after⟩
  case after =>
    rintro σ H' ⟨y2, y3, y4, y5, y6, y7, y8, rfl, _⟩
    exact q H'
  rintro i σ H2 hi ⟨y2, y3, y4, y5, y6, y7, y8, rfl, I2⟩
  -- the scripts, as they are handed
  refine ⟨.ref l, rfl, .ref l, rfl, l, c, ns, 4, 8, rfl, by decide, by decide, by decide, by decide, I2.st, fun H3 t ss k3 st3 nt kids ok => ?_⟩
  have I3 := I2.kp k3 st3
  have K3 := I3.kids kids
  have lfw := lf_words ok
  have n4 := ok.2.1
  refine ⟨l, c, ns, .ref t, _, wo l H3, rfl, I3.st, wo_al _ _, wo_l _ _, kids_mx K3 (by rw [List.length_map]; omega) lfw, fun H4 y e G4 k4 st4 a1 a2 new4 mx4 sh4 => ?_⟩
  have I4 := (I3.goK k4 st4).li
  have M4 := I3.hand a2 new4 mx4
  have T4 : TS l c tab ns 9 y e H4 := ⟨I4, (mx_th M4 _ sh4 (lens_ks (by rw [List.length_map]; omega) fun k hk => by
    obtain ⟨ws, hw, rfl⟩ := List.mem_map.mp hk
    have z := (ok.2.2 ws hw).1
    unfold wordsV
    rw [List.length_map]
    omega)).deeper.deeper⟩
  -- bent
  refine ⟨fun σ H' => ∃ (x : V) (d : PyData) (y4 : Option V), σ = [some (.ref a), some (.ref l), some (.int (0 + (i : Nat))), some x, y4, y5, y6, y7, y8] ∧ TS l c tab ns 12 x d H', ?_, ?_⟩
  · refine ⟨.ref l, rfl, l, c, ns, 4, rfl, by decide, by decide, T4.li.st, fun H5 m k5 st5 m0 m4 => ?_⟩
    have T5 := T4.go (T4.li.goK k5 st5)
    refine ⟨_, rfl, by omega, by omega, for_range (n := m.toNat) (fun k σ H' => ∃ (x : V) (d : PyData) (y4 : Option V), σ = [some (.ref a), some (.ref l), some (.int (0 + (i : Nat))), some x, y4, y5, y6, y7, y8] ∧ TS l c tab ns (9 + k) x d H') ⟨y, e, y4, rfl, T5⟩ ?bend (fun σ H' h => ?done)⟩
    case done =>
      obtain ⟨x, d, y4, e1, D⟩ := h
      exact ⟨x, d, y4, e1, D.li, D.th.wide (by omega)⟩
    rintro k σ H6 hk ⟨x, d, y4, rfl, D⟩
    exact ⟨.ref l, rfl, x, rfl, l, c, ns, 9 + k, x, d, rfl, D.li.st, by omega, by omega, D.th, fun H7 v d' k7 st7 th7 => ⟨v, d', _, rfl, D.li.kp k7 st7, th7⟩⟩
  rintro σ H5 ⟨x, d, y4', rfl, D5⟩
  -- its text, and another object
  refine ⟨x, rfl, 12, 4, x, d, rfl, Nat.le_refl _, Nat.le_refl _, D5.th.al (wo_al _ _), .ref l, rfl, l, c, ns, rfl, D5.li.st, fun H6 v dv k6 st6 th6 => ⟨by show 2 ≤ sizeLine; decide, fun tp ntp => ?_⟩⟩
  have D6 := D5.go (D5.li.goK k6 st6)
  have D7 := D6.go (D6.li.goA ((Al.refl (H := H6)).new (o := .tup [.str d.shown, v]) ntp))
  refine ⟨tp, _, rfl, sqt upd_same, rfl, _, _, rfl, _, _, rfl, rfl, ?_⟩
  generalize upd H6 tp (.tup [.str d.shown, v]) = H7 at D7 ⊢
  clear D5 D6
  refine ⟨fun σ H' => ∃ y7 y8 : Option V, σ = [some (.ref a), some (.ref l), some (.int (0 + (i : Nat))), some x, y4', some (.str d.shown), some v, y7, y8] ∧ TS l c tab ns 12 x d H', ?_, ?_⟩
  · refine ⟨x, rfl, 12, 4, x, d, rfl, by decide, D7.th.al (wo_al _ _), fun H8 k8 => ⟨areScr d, rfl, ite2 (fun is => ?good) (fun is => ?bad)⟩⟩
    case good =>
      have D8 := D7.go (D7.li.goA k8)
      obtain ⟨p, ss', xs, rfl, dp, ok', sp, hl⟩ := th_deep D8.th is
      have n4' := ok'.2.1
      refine ⟨.ref p, rfl, p, ss', rfl, (dp.al (wo_al _ _)).deep, ok', fun H9 t1 k9 nt1 kids1 => ?_⟩
      have D9 := D8.go (D8.li.goA k9)
      have sp9 : Sp' H9 p xs := sp.imp (fun z => k9 _ _ (wo_al _ _ _ _ z)) fun z => k9 _ _ (wo_al _ _ _ _ z)
      refine ⟨.ref p, rfl, p, xs, rfl, sp9, by omega, fun H10 t2 k10 nt2 kids2 => ?_⟩
      have D10 := D9.go (D9.li.goA k10)
      have er : ∀ n, List.replicate n row0 = (rows0 n).map rowV := fun n => by
        unfold rows0
        rw [List.map_replicate]
        rfl
      rw [hl, er] at kids2
      rw [er] at kids1
      refine ⟨.ref t1, .ref t2, rfl, kids_tw (kids1.al k10) kids2 (by rw [List.length_map]; unfold rows0; rw [List.length_replicate]; omega) (row_tw _), fun H11 k11 => ⟨true, rfl, iteF ?_⟩⟩
      exact ⟨_, _, rfl, D10.go (D10.li.goA k11)⟩
    case bad =>
      have D8 := D7.go (D7.li.goA k8)
      have no : areScr d = false := Bool.eq_false_iff.mpr is
      have up : ∀ {Hx : Hp} {tq : Addr} {xs : List V}, TS l c tab ns 12 x d Hx → (n : Hx tq = none) → TS l c tab ns 12 x d (upd Hx tq (.tup xs)) ∧ wo l (upd Hx tq (.tup xs)) tq = some (.tup xs) := fun {Hx tq xs} D n => by
        refine ⟨D.go (D.li.goA (Al.refl.new n)), D.li.new n (fun _ z => by cases z) upd_same⟩
      refine ⟨fun σ H' => ∃ y7 y8 : Option V, σ = [some (.ref a), some (.ref l), some (.int (0 + (i : Nat))), some x, y4', some (.str d.shown), some v, y7, y8] ∧ TS l c tab ns 12 x d H', ?_, ?_⟩
      · refine ⟨by show 4 ≤ sizeLine; decide, fun tq ntq => ?_⟩
        obtain ⟨D9, w9⟩ := up (xs := [.ref fB1, .ref fB2, .ref fB3, .ref fB4]) D8 ntq
        refine ⟨tq, rfl, ⟨_, sqt upd_same⟩, for_tup (xs := [.ref fB1, .ref fB2, .ref fB3, .ref fB4]) (fun _ σ H' => ∃ y7 y8 : Option V, σ = [some (.ref a), some (.ref l), some (.int (0 + (i : Nat))), some x, y4', some (.str d.shown), some v, y7, y8] ∧ TS l c tab ns 12 x d H' ∧ wo l H' tq = some (.tup [.ref fB1, .ref fB2, .ref fB3, .ref fB4]))
          ⟨_, _, rfl, D9, w9⟩ (fun _ σ H' _ ⟨_, _, _, _, h⟩ => sqt (wo_al _ _ _ _ h)) ?each (fun σ H' ⟨y7, y8, h1, h2, _⟩ => ⟨y7, y8, h1, h2⟩)⟩
        rintro k z σ H9 hz ⟨y7', y8', rfl, D9, w9⟩
        obtain ⟨fk, hk, rfl⟩ : ∃ fk ∈ [fB1, fB2, fB3, fB4], z = .ref fk := by
          have hm := List.mem_of_getElem? hz
          simp only [List.mem_cons, List.not_mem_nil, or_false] at hm
          rcases hm with h | h | h | h <;> exact ⟨_, by simp, h⟩
        refine ⟨fun p hp => by rw [List.mem_singleton.mp hp]; exact D9.li.tb, fun Hx ex tb => ?_⟩
        have gx := D9.li.goE ex (tb _ (List.mem_singleton.mpr rfl))
        have Dx := D9.go gx
        refine ⟨fk, rfl, hk, x, rfl, 12, 4, x, d, [], by decide, rfl, rfl, Dx.th.al (wo_al _ _), no, fun H' dd k hd => ⟨rfl, dd, _, rfl, hd, rfl, true, rfl, iteF ?_⟩⟩
        have gk := Dx.li.goA k
        exact ⟨_, _, rfl, Dx.go gk, gk.al _ _ (gx.al _ _ w9)⟩
      rintro σ H9 ⟨y7', y8', rfl, D9⟩
      refine ⟨fun σ H' => ∃ y7 y8 : Option V, σ = [some (.ref a), some (.ref l), some (.int (0 + (i : Nat))), some x, y4', some (.str d.shown), some v, y7, y8] ∧ TS l c tab ns 12 x d H', ?_, ?_⟩
      · refine ⟨by show 4 ≤ sizeLine; decide, fun tq ntq => ?_⟩
        obtain ⟨D10, w10⟩ := up (xs := [.ref fL1, .ref fL2, .ref fL3, .ref fL4]) D9 ntq
        refine ⟨tq, rfl, ⟨_, sqt upd_same⟩, for_tup (xs := [.ref fL1, .ref fL2, .ref fL3, .ref fL4]) (fun _ σ H' => ∃ y7 y8 : Option V, σ = [some (.ref a), some (.ref l), some (.int (0 + (i : Nat))), some x, y4', some (.str d.shown), some v, y7, y8] ∧ TS l c tab ns 12 x d H' ∧ wo l H' tq = some (.tup [.ref fL1, .ref fL2, .ref fL3, .ref fL4]))
          ⟨_, _, rfl, D10, w10⟩ (fun _ σ H' _ ⟨_, _, _, _, h⟩ => sqt (wo_al _ _ _ _ h)) ?each2 (fun σ H' ⟨y7, y8, h1, h2, _⟩ => ⟨y7, y8, h1, h2⟩)⟩
        rintro k z σ H10 hz ⟨y7', y8', rfl, D10, w10⟩
        obtain ⟨fk, hk, rfl⟩ : ∃ fk ∈ [fL1, fL2, fL3, fL4], z = .ref fk := by
          have hm := List.mem_of_getElem? hz
          simp only [List.mem_cons, List.not_mem_nil, or_false] at hm
          rcases hm with h | h | h | h <;> exact ⟨_, by simp, h⟩
        refine ⟨fun p hp => by rw [List.mem_singleton.mp hp]; exact D10.li.tb, fun Hx ex tb => ?_⟩
        have gx := D10.li.goE ex (tb _ (List.mem_singleton.mpr rfl))
        have Dx := D10.go gx
        refine ⟨fk, rfl, hk, x, rfl, v, rfl, 12, 4, x, d, [v], by decide, rfl, rfl, Dx.th.al (wo_al _ _), no, fun H' dd k hd => ⟨rfl, dd, _, rfl, hd, rfl, true, rfl, iteF ?_⟩⟩
        have gk := Dx.li.goA k
        exact ⟨_, _, rfl, Dx.go gk, gk.al _ _ (gx.al _ _ w10)⟩
      rintro σ H10 ⟨y7'', y8'', rfl, D10⟩
      refine ⟨fun p hp => by rw [List.mem_singleton.mp hp]; exact D10.li.tb, fun Hx ex tb => ?_⟩
      have Dx := D10.go (D10.li.goE ex (tb _ (List.mem_singleton.mpr rfl)))
      refine ⟨x, rfl, v, rfl, 12, 4, x, d, [v, .int 0], by decide, rfl, rfl, Dx.th.al (wo_al _ _), no, fun H' dd k hd => ⟨rfl, dd, _, rfl, hd, rfl, true, rfl, iteF ?_⟩⟩
      exact ⟨_, _, rfl, Dx.go (Dx.li.goA k)⟩
  rintro σ H8 ⟨y7', y8', rfl, D8⟩
  refine ⟨x, rfl, 12, 4, x, d, rfl, Nat.le_refl _, Nat.le_refl _, D8.th.al (wo_al _ _), .str d.shown, rfl, rfl, _, rfl, ?_⟩
  rw [decide_eq_true rfl]
  exact iteF ⟨_, _, _, _, _, _, _, rfl, D8.li⟩

end
end Lk

namespace Drw
open PySem PySem.Spec PyProof.Rows L2
abbrev sPRefusal : Stmt := topS 48
abbrev sPStuck : Stmt := topS 49
abbrev sIsTold : Stmt := topS 54
end Drw

namespace Err
open PySem PySem.W PySem.Calls PyProof.Rows PySem.Spec L2 Drw
def B2 (K : Frag) (fd : FuncData) : Prop := ∀ (s : Shared) (x : Addr) (v : Value), K.In s.heap → BindsTo s fd ⟨[.ref x, v], []⟩ [(me, .ref x), (fld, v)]
def B1 (K : Frag) (fd : FuncData) : Prop := ∀ (s : Shared) (x : Addr), K.In s.heap → BindsTo s fd ⟨[.ref x], []⟩ [(me, .ref x), (fld, .none)]
/-- the init at f (its class at D) hands on to the next one -/
def Hands (prog : Program) (w : World) (K : Frag) (f D : Addr) (fd : FuncData) : Prop := ∀ (C f2 : Addr) (fd2 : FuncData) (n : Nat), mroIn K C (.ref D) = some true → ks_superIn K C D "__init__" = some (some (.ref f2)) → fnIn K f2 = true → typeIn K (.ref f2) = some (.type "function") →
  B2 K fd2 → InitOk prog w K C f2 fd2 n → InitOk prog w K C f fd (n + 1)
theorem hands_mk {prog : Program} {w : World} {K : Frag} {f : Addr} {qual : Str} {kV doc pm ct oc ccl cl tc : Value} {od an cdd cld td : Option Addr} {osl ccs csl tsl : Array (Option Value)} {p1 p2 pd q1 q2 q3 q4 q5 q6 : Pos} {cda cc D T : Addr} {vs : Array Value} {file : Str} {tf : Tok} {tn : Nat}
    (ho : K.lookup f = some ⟨oc, od, .func (ksFn "__init__" qual (iA p1 p2 pd) (jB q1 q2 q3 q4 q5 q6) jS (.ref T) kV doc pm an (.ref cda) ct cc), osl⟩) (hT : K.lookup T = some ⟨tc, td, .seq #[.none] tn, tsl⟩) (hcd : codeIn K (.ref cda) qual = true)
    (hcode : K.lookup cda = some ⟨ccl, cdd, .fields vs, ccs⟩) (hvs : vs[2]? = some (.str file tf)) (hfile : ((prog.main.file : Str) == file) = true) (htop : (prog.main.scope.names.lookup ("super" : Str)).isSome = false)
    (hcell : K.lookup cc = some ⟨cl, cld, .cell (some (.ref D)), csl⟩) (hD : (clsIn K D).isSome = true) (hop : nsIn K cStatics "thirdparty.any" = some none)
    {pl : Sem Bool} (hE : ∀ env : Env, eval (.Call (.Attribute (.Call (.Name "super" q1) [] [] q2) "__init__" q3) [.Name fld q4] [] q5) env = (do
      let ov ← attributeBase (.Call (.Name "super" q1) [] [] q2) "__init__" env (eval (.Call (.Name "super" q1) [] [] q2) env)
      standAt q3.atName
      let (g, first) ← holding [ov] (getMethod ov "__init__" pl)
      callWith q5 g first (backTo q5 (starEach [.Name fld q4] env)) [])) :
    ∃ fd, Hands prog w K f D fd ∧ B2 K fd ∧ B1 K fd := by
  refine ⟨ksFn "__init__" qual (iA p1 p2 pd) (jB q1 q2 q3 q4 q5 q6) jS (.ref T) kV doc pm an (.ref cda) ct cc, fun C f2 fd2 n hs hm h2 t2 b2 G => ?_, fun s x v X => BindsTo.of_looks fun M => ?_, fun s x X => BindsTo.of_looks fun M => ?_⟩
  · obtain ⟨cdD, hD⟩ := Option.isSome_iff_exists.mp hD
    exact init_next ho hcd hcode hvs hfile htop hcell hD hs hop hm h2 t2 hE b2 G
  · exact looks_items (its := #[.none]) X hT rfl (.of_pure rfl)
  · exact looks_items (its := #[.none]) X hT rfl (.of_pure rfl)
theorem first_mk {prog : Program} {w : World} {K : Frag} {f : Addr} {qual : Str} {kV doc pm cdv ct oc tc : Value} {od an td : Option Addr} {osl tsl : Array (Option Value)} {p1 p2 pd q1 q2 q3 q4 : Pos} {T : Addr} {tn : Nat}
    (ho : K.lookup f = some ⟨oc, od, .func (fnOf "__init__" qual (iA p1 p2 pd) (iB q1 q2 q3 q4) iS (.ref T) kV doc pm an cdv ct), osl⟩) (hT : K.lookup T = some ⟨tc, td, .seq #[.none] tn, tsl⟩) (hcd : codeIn K cdv qual = true) :
    ∃ fd, (∀ C, Cl K C → InitOk prog w K C f fd 1) ∧ B2 K fd ∧ B1 K fd := by
  refine ⟨fnOf "__init__" qual (iA p1 p2 pd) (iB q1 q2 q3 q4) iS (.ref T) kV doc pm an cdv ct, fun C T => init_first T ho hcd, fun s x v X => BindsTo.of_looks fun M => ?_, fun s x X => BindsTo.of_looks fun M => ?_⟩
  · exact looks_items (its := #[.none]) X hT rfl (.of_pure rfl)
  · exact looks_items (its := #[.none]) X hT rfl (.of_pure rfl)
/-- one look at a class -/
def okC (K : Frag) (C : Addr) : Bool :=
  excInitIn K C exB "Exception.__new__" && (excOver K C exB && (decide (takerIn K C fld = some none) && (hasDictIn K C && (decide (findIn K (.ref C) "__setattr__" = some (some (.builtin "object.__setattr__"))) && (keepIn K (.ref C) && ((clsIn K C).isSome &&
  (decide (findIn K (.ref C) "__getattribute__" = some (some (.builtin "BaseException.__getattribute__"))) && (decide (findIn K (.ref C) "__getattr__" = some none) && (decide (subIn K (.ref C) (.type "BaseException") = some true) && (decide (typeIn K (.ref C) = some (.type "type")) &&
  (decide (findIn K (.ref C) "__class__" = some (some (.builtin "object.__class__"))) && (decide (specialIn K (.builtin "object.__class__") "__get__" = some (some (.builtin "getset_descriptor.__get__"))) && (decide (takesIn K (.builtin "object.__class__") = some true) &&
  (decide (mroIn K C (.type "object") = some true) && decide (findIn K (.ref C) fld = some none)))))))))))))))
structure CF (K : Frag) (C : Addr) : Prop where
  cl : Cl K C
  kC : keepIn K (.ref C) = true
  iso : (clsIn K C).isSome = true
  ga : findIn K (.ref C) "__getattribute__" = some (some (.builtin "BaseException.__getattribute__"))
  gg : findIn K (.ref C) "__getattr__" = some none
  ex : subIn K (.ref C) (.type "BaseException") = some true
  ty : typeIn K (.ref C) = some (.type "type")
  ha : findIn K (.ref C) "__class__" = some (some (.builtin "object.__class__"))
  hn : specialIn K (.builtin "object.__class__") "__get__" = some (some (.builtin "getset_descriptor.__get__"))
  ht : takesIn K (.builtin "object.__class__") = some true
  hm : mroIn K C (.type "object") = some true
  no : findIn K (.ref C) fld = some none
theorem okC_ok {K : Frag} {C : Addr} (h : okC K C = true) : CF K C := by
  unfold okC at h
  simp only [Bool.and_eq_true, decide_eq_true_eq] at h
  obtain ⟨a1, a2, a3, a4, a5, a6, a7, a8, a9, a10, a11, a12, a13, a14, a15, a16⟩ := h
  exact ⟨⟨a1, a2, a3, a4, a5⟩, a6, a7, a8, a9, a10, a11, a12, a13, a14, a15, a16⟩
theorem ec_mk {prog : Program} {w : World} {K : Frag} {mg : Str → Option Value} {nm : Str} {C fI : Addr} {fd : FuncData} (c : CF K C) (g : mg nm = some (.ref C)) (su : mg "super" = none) (hi : findIn K (.ref C) "__init__" = some (some (.ref fI))) (tI : typeIn K (.ref fI) = some (.type "function"))
    (G : InitOk prog w K C fI fd 4) (b2 : B2 K fd) (b1 : B1 K fd) : EC prog w K mg nm C :=
  { g := g, kC := c.kC, cl := c.cl, ini := ⟨fI, fd, hi, tI, G, b2, b1⟩, iso := c.iso, ga := c.ga, gg := c.gg, ex := c.ex, ty := c.ty, ha := c.ha, hn := c.hn, ht := c.ht, hm := c.hm, no := c.no, su := su }
/-- all that is looked up of the three classes -/
def look3 (K : Frag) (cP cD cE fP fD fE : Addr) : Bool :=
  okC K cP && (decide (findIn K (.ref cP) "__init__" = some (some (.ref fP))) && (decide (typeIn K (.ref fP) = some (.type "function")) && (decide (typeIn K (.ref fD) = some (.type "function")) && (decide (typeIn K (.ref fE) = some (.type "function")) && (fnIn K fD && (fnIn K fE &&
  (decide (mroIn K cP (.ref cP) = some true) && (decide (ks_superIn K cP cP "__init__" = some (some (.ref fD))) && (decide (mroIn K cP (.ref cD) = some true) && (decide (ks_superIn K cP cD "__init__" = some (some (.ref fE))) && (decide (subIn K (.ref cP) (.ref cP) = some true) && decide (kitOne K (.ref cP) (.ref cD) = some true))))))))))))
theorem three_end {P : Program} {w : World} {K : Frag} {h : Heap} {mg : Str → Option Value} {cP cD cE fP fD fE : Addr} (X : K.In h) (G : h.Ns mainGlobals mg) (AP : nsIn K mainGlobals "ProgrammingError" = some (some (.ref cP))) (AD : nsIn K mainGlobals "DatabaseError" = some (some (.ref cD))) (AE : nsIn K mainGlobals "Error" = some (some (.ref cE)))
    (iP : findIn K (.ref cP) "__init__" = some (some (.ref fP))) (iD : findIn K (.ref cD) "__init__" = some (some (.ref fD))) (iE : findIn K (.ref cE) "__init__" = some (some (.ref fE))) (S : nsIn K mainGlobals "super" = some none) (L : look3 K cP cD cE fP fD fE = true) (E0 : ∃ fd, (∀ C, Cl K C → InitOk P w K C fE fd 1) ∧ B2 K fd ∧ B1 K fd) (E1 : ∃ fd, Hands P w K fD cD fd ∧ B2 K fd ∧ B1 K fd) (E2 : ∃ fd, Hands P w K fP cP fd ∧ B2 K fd ∧ B1 K fd) :
    EC P w K mg "ProgrammingError" cP ∧ mg "DatabaseError" = some (.ref cD) ∧ mg "Error" = some (.ref cE) ∧ exmOne K (.ref cP) (.ref cP) = some true ∧ kitOne K (.ref cP) (.ref cD) = some true := by
  unfold look3 at L
  simp only [Bool.and_eq_true, decide_eq_true_eq] at L
  obtain ⟨a1, a2, a3, a4, a5, a6, a7, a8, a9, a10, a11, a12, a13⟩ := L
  have c := okC_ok a1
  obtain ⟨d0, i0, b20, _⟩ := E0
  obtain ⟨d1, h1, b21, _⟩ := E1
  obtain ⟨d2, h2, b22, b12⟩ := E2
  have i1 : InitOk P w K cP fD d1 2 := h1 cP fE d0 1 a10 a11 a7 a5 b20 (i0 _ c.cl)
  have i2 : InitOk P w K cP fP d2 3 := h2 cP fD d1 2 a8 a9 a6 a4 b21 i1
  exact ⟨ec_mk c (mg_of X G AP) (mg_none_of X G S) a2 a3 (i2.mono (by decide)) b22 b12, mg_of X G AD, mg_of X G AE, exm_ref c.ex c.cl.hd c.ty a12, a13⟩
end Err

namespace Lk
open PySem PySem.W PySem.Calls PyProof.Rows PySem.Spec L2 Drw Err LamX Grd
/-- a written tuple of texts -/
theorem tup_strs {K : Frag} {a : Addr} {c : Value} {od : Option Addr} {its : Array Value} {n : Nat} {sl : Array (Option Value)} {xs : List Str} (h : K.lookup a = some ⟨.type "tuple", od, .seq its n, sl⟩) (hz : its.size ≤ sizeLine) (hx : (its.toList.map fun v => match v with | .str x _ => x | _ => Str.empty) = xs)
    (hs : (its.toList.all fun v => match v with | .str _ _ => true | _ => false) = true) (H : Hp) : SqT K H a (xs.map V.str) := by
  refine .inr ⟨_, its, n, h, rfl, rfl, hz, ?_⟩
  subst hx
  have key : ∀ l : List Value, (l.all fun v => match v with | .str _ _ => true | _ => false) = true → Vals ((l.map fun v => match v with | .str x _ => x | _ => Str.empty).map V.str) l := by
    intro l
    induction l with
    | nil => exact fun _ => .nil
    | cons v l ih =>
      intro h
      rw [List.all_cons, Bool.and_eq_true] at h
      cases v with
      | str x t => exact .cons ⟨t, rfl⟩ (ih h.2)
      | _ => cases h.1
  exact key _ hs
theorem all_end {l : OpenLaw} {w : World} {K : Frag} {h : Heap} {mg : Str → Option Value} {fa : Addr} (X : K.In h) (G : h.Ns mainGlobals mg) (hfa : mg "law" = some (.ref fa))
    {f0 : Addr} {od0 an0 : Option Addr} {sl0 : Array (Option Value)} {oc0 kV0 dc0 pm0 cd0 ct0 : Value}
    {f1 : Addr} {od1 an1 : Option Addr} {sl1 : Array (Option Value)} {oc1 kV1 dc1 pm1 cd1 ct1 : Value}
    {f2 : Addr} {od2 an2 : Option Addr} {sl2 : Array (Option Value)} {oc2 kV2 dc2 pm2 cd2 ct2 : Value}
    {f3 : Addr} {od3 an3 : Option Addr} {sl3 : Array (Option Value)} {oc3 kV3 dc3 pm3 cd3 ct3 : Value}
    {f4 : Addr} {od4 an4 : Option Addr} {sl4 : Array (Option Value)} {oc4 kV4 dc4 pm4 cd4 ct4 : Value}
    {f5 : Addr} {od5 an5 : Option Addr} {sl5 : Array (Option Value)} {oc5 kV5 dc5 pm5 cd5 ct5 : Value}
    {f6 : Addr} {od6 an6 : Option Addr} {sl6 : Array (Option Value)} {oc6 kV6 dc6 pm6 cd6 ct6 : Value}
    {f7 : Addr} {od7 an7 : Option Addr} {sl7 : Array (Option Value)} {oc7 kV7 dc7 pm7 cd7 ct7 : Value}
    {f8 : Addr} {od8 an8 : Option Addr} {sl8 : Array (Option Value)} {oc8 kV8 dc8 pm8 cd8 ct8 : Value}
    {f9 : Addr} {od9 an9 : Option Addr} {sl9 : Array (Option Value)} {oc9 kV9 dc9 pm9 cd9 ct9 : Value}
    {f10 : Addr} {od10 an10 : Option Addr} {sl10 : Array (Option Value)} {oc10 kV10 dc10 pm10 cd10 ct10 : Value}
    {f11 : Addr} {od11 an11 : Option Addr} {sl11 : Array (Option Value)} {oc11 kV11 dc11 pm11 cd11 ct11 : Value}
    {f12 : Addr} {od12 an12 : Option Addr} {sl12 : Array (Option Value)} {oc12 kV12 dc12 pm12 cd12 ct12 : Value}
    {f13 : Addr} {od13 an13 : Option Addr} {sl13 : Array (Option Value)} {oc13 kV13 dc13 pm13 cd13 ct13 : Value}
    {f14 : Addr} {od14 an14 : Option Addr} {sl14 : Array (Option Value)} {oc14 kV14 dc14 pm14 cd14 ct14 : Value}
    {f15 : Addr} {od15 an15 : Option Addr} {sl15 : Array (Option Value)} {oc15 kV15 dc15 pm15 cd15 ct15 : Value}
    {f16 : Addr} {od16 an16 : Option Addr} {sl16 : Array (Option Value)} {oc16 kV16 dc16 pm16 cd16 ct16 : Value}
    {f17 : Addr} {od17 an17 : Option Addr} {sl17 : Array (Option Value)} {oc17 kV17 dc17 pm17 cd17 ct17 : Value}
    {f18 : Addr} {od18 an18 : Option Addr} {sl18 : Array (Option Value)} {oc18 kV18 dc18 pm18 cd18 ct18 : Value}
    {f19 : Addr} {od19 an19 : Option Addr} {sl19 : Array (Option Value)} {oc19 kV19 dc19 pm19 cd19 ct19 : Value}
    {f20 : Addr} {od20 an20 : Option Addr} {sl20 : Array (Option Value)} {oc20 kV20 dc20 pm20 cd20 ct20 : Value}
    {f21 : Addr} {od21 an21 : Option Addr} {sl21 : Array (Option Value)} {oc21 kV21 dc21 pm21 cd21 ct21 : Value}
    {f22 : Addr} {od22 an22 : Option Addr} {sl22 : Array (Option Value)} {oc22 kV22 dc22 pm22 cd22 ct22 : Value}
    {f23 : Addr} {od23 an23 : Option Addr} {sl23 : Array (Option Value)} {oc23 kV23 dc23 pm23 cd23 ct23 : Value}
    {f24 : Addr} {od24 an24 : Option Addr} {sl24 : Array (Option Value)} {oc24 kV24 dc24 pm24 cd24 ct24 : Value}
    {f25 : Addr} {od25 an25 : Option Addr} {sl25 : Array (Option Value)} {oc25 kV25 dc25 pm25 cd25 ct25 : Value}
    {f26 : Addr} {od26 an26 : Option Addr} {sl26 : Array (Option Value)} {oc26 kV26 dc26 pm26 cd26 ct26 : Value}
    {f27 : Addr} {od27 an27 : Option Addr} {sl27 : Array (Option Value)} {oc27 kV27 dc27 pm27 cd27 ct27 : Value}
    {f28 : Addr} {od28 an28 : Option Addr} {sl28 : Array (Option Value)} {oc28 kV28 dc28 pm28 cd28 ct28 : Value}
    {f29 : Addr} {od29 an29 : Option Addr} {sl29 : Array (Option Value)} {oc29 kV29 dc29 pm29 cd29 ct29 : Value}
    {f30 : Addr} {od30 an30 : Option Addr} {sl30 : Array (Option Value)} {oc30 kV30 dc30 pm30 cd30 ct30 : Value}
    {f31 : Addr} {od31 an31 : Option Addr} {sl31 : Array (Option Value)} {oc31 kV31 dc31 pm31 cd31 ct31 : Value}
    {f32 : Addr} {od32 an32 : Option Addr} {sl32 : Array (Option Value)} {oc32 kV32 dc32 pm32 cd32 ct32 : Value}
    {f33 : Addr} {od33 an33 : Option Addr} {sl33 : Array (Option Value)} {oc33 kV33 dc33 pm33 cd33 ct33 : Value}
    {fL co tab : Addr} {odL anL : Option Addr} {slL : Array (Option Value)} {ocL kVL dcL pmL ctL : Value}
    {t0 : Nat}
    {t1 : Nat}
    {t2 : Nat}
    {w0 : Addr} {odw0 : Option Addr} {itw0 : Array Value} {nw0 : Nat} {slw0 : Array (Option Value)}
    {w1 : Addr} {odw1 : Option Addr} {itw1 : Array Value} {nw1 : Nat} {slw1 : Array (Option Value)}
    {w2 : Addr} {odw2 : Option Addr} {itw2 : Array Value} {nw2 : Nat} {slw2 : Array (Option Value)}
    {cP cD cE : Addr}
    (a0 : nsIn K mainGlobals "checked_scripts" = some (some (.ref f0)))
    (l0 : K.lookup f0 = some ⟨oc0, od0, .func (fnOf "checked_scripts" "checked_scripts" (defArgs sChecked) (defBody sChecked) (defScope sChecked) .none kV0 dc0 pm0 an0 cd0 ct0), sl0⟩)
    (c0 : codeIn K cd0 "checked_scripts" = true) (k0 : keepIn K (.ref f0) = true)
    (a1 : nsIn K mainGlobals "_checked_script" = some (some (.ref f1)))
    (l1 : K.lookup f1 = some ⟨oc1, od1, .func (fnOf "_checked_script" "_checked_script" (defArgs sCheckedOne) (defBody sCheckedOne) (defScope sCheckedOne) .none kV1 dc1 pm1 an1 cd1 ct1), sl1⟩)
    (c1 : codeIn K cd1 "_checked_script" = true) (k1 : keepIn K (.ref f1) = true)
    (a2 : nsIn K mainGlobals "_may_stand" = some (some (.ref f2)))
    (l2 : K.lookup f2 = some ⟨oc2, od2, .func (fnOf "_may_stand" "_may_stand" (defArgs sMay) (defBody sMay) (defScope sMay) .none kV2 dc2 pm2 an2 cd2 ct2), sl2⟩)
    (c2 : codeIn K cd2 "_may_stand" = true) (k2 : keepIn K (.ref f2) = true)
    (a3 : nsIn K mainGlobals "is_open_behind" = some (some (.ref f3)))
    (l3 : K.lookup f3 = some ⟨oc3, od3, .func (fnOf "is_open_behind" "is_open_behind" (defArgs sOpenB) (defBody sOpenB) (defScope sOpenB) .none kV3 dc3 pm3 an3 cd3 ct3), sl3⟩)
    (c3 : codeIn K cd3 "is_open_behind" = true) (k3 : keepIn K (.ref f3) = true)
    (a4 : nsIn K mainGlobals "is_reading_behind" = some (some (.ref f4)))
    (l4 : K.lookup f4 = some ⟨oc4, od4, .func (fnOf "is_reading_behind" "is_reading_behind" (defArgs sReadB) (defBody sReadB) (defScope sReadB) .none kV4 dc4 pm4 an4 cd4 ct4), sl4⟩)
    (c4 : codeIn K cd4 "is_reading_behind" = true) (k4 : keepIn K (.ref f4) = true)
    (a5 : nsIn K mainGlobals "first_state" = some (some (.ref f5)))
    (l5 : K.lookup f5 = some ⟨oc5, od5, .func (fnOf "first_state" "first_state" (defArgs sFirstState) (defBody sFirstState) (defScope sFirstState) .none kV5 dc5 pm5 an5 cd5 ct5), sl5⟩)
    (c5 : codeIn K cd5 "first_state" = true) (k5 : keepIn K (.ref f5) = true)
    (a6 : nsIn K mainGlobals "next_state" = some (some (.ref f6)))
    (l6 : K.lookup f6 = some ⟨oc6, od6, .func (fnOf "next_state" "next_state" (defArgs sNextState) (defBody sNextState) (defScope sNextState) .none kV6 dc6 pm6 an6 cd6 ct6), sl6⟩)
    (c6 : codeIn K cd6 "next_state" = true) (k6 : keepIn K (.ref f6) = true)
    (a7 : nsIn K mainGlobals "refusal" = some (some (.ref f7)))
    (l7 : K.lookup f7 = some ⟨oc7, od7, .func (fnOf "refusal" "refusal" (defArgs sRefusal) (defBody sRefusal) (defScope sRefusal) .none kV7 dc7 pm7 an7 cd7 ct7), sl7⟩)
    (c7 : codeIn K cd7 "refusal" = true) (k7 : keepIn K (.ref f7) = true)
    (a8 : nsIn K mainGlobals "is_order" = some (some (.ref f8)))
    (l8 : K.lookup f8 = some ⟨oc8, od8, .func (fnOf "is_order" "is_order" (defArgs sIsOrder) (defBody sIsOrder) (defScope sIsOrder) .none kV8 dc8 pm8 an8 cd8 ct8), sl8⟩)
    (c8 : codeIn K cd8 "is_order" = true) (k8 : keepIn K (.ref f8) = true)
    (a9 : nsIn K mainGlobals "is_never" = some (some (.ref f9)))
    (l9 : K.lookup f9 = some ⟨oc9, od9, .func (fnOf "is_never" "is_never" (defArgs sIsNever) (defBody sIsNever) (defScope sIsNever) .none kV9 dc9 pm9 an9 cd9 ct9), sl9⟩)
    (c9 : codeIn K cd9 "is_never" = true) (k9 : keepIn K (.ref f9) = true)
    (a10 : nsIn K mainGlobals "stuck" = some (some (.ref f10)))
    (l10 : K.lookup f10 = some ⟨oc10, od10, .func (fnOf "stuck" "stuck" (defArgs sStuck) (defBody sStuck) (defScope sStuck) .none kV10 dc10 pm10 an10 cd10 ct10), sl10⟩)
    (c10 : codeIn K cd10 "stuck" = true) (k10 : keepIn K (.ref f10) = true)
    (a11 : nsIn K mainGlobals "is_stuck" = some (some (.ref f11)))
    (l11 : K.lookup f11 = some ⟨oc11, od11, .func (fnOf "is_stuck" "is_stuck" (defArgs sIsStuck) (defBody sIsStuck) (defScope sIsStuck) .none kV11 dc11 pm11 an11 cd11 ct11), sl11⟩)
    (c11 : codeIn K cd11 "is_stuck" = true) (k11 : keepIn K (.ref f11) = true)
    (a12 : nsIn K mainGlobals "is_free" = some (some (.ref f12)))
    (l12 : K.lookup f12 = some ⟨oc12, od12, .func (fnOf "is_free" "is_free" (defArgs sIsFree) (defBody sIsFree) (defScope sIsFree) .none kV12 dc12 pm12 an12 cd12 ct12), sl12⟩)
    (c12 : codeIn K cd12 "is_free" = true) (k12 : keepIn K (.ref f12) = true)
    (a13 : nsIn K mainGlobals "calmed" = some (some (.ref f13)))
    (l13 : K.lookup f13 = some ⟨oc13, od13, .func (fnOf "calmed" "calmed" (defArgs sCalmed) (defBody sCalmed) (defScope sCalmed) .none kV13 dc13 pm13 an13 cd13 ct13), sl13⟩)
    (c13 : codeIn K cd13 "calmed" = true) (k13 : keepIn K (.ref f13) = true)
    (a14 : nsIn K mainGlobals "_first" = some (some (.ref f14)))
    (l14 : K.lookup f14 = some ⟨oc14, od14, .func (fnOf "_first" "_first" (defArgs sFirst) (defBody sFirst) (defScope sFirst) .none kV14 dc14 pm14 an14 cd14 ct14), sl14⟩)
    (c14 : codeIn K cd14 "_first" = true) (k14 : keepIn K (.ref f14) = true)
    (a15 : nsIn K mainGlobals "_refusal" = some (some (.ref f15)))
    (l15 : K.lookup f15 = some ⟨oc15, od15, .func (fnOf "_refusal" "_refusal" (defArgs sPRefusal) (defBody sPRefusal) (defScope sPRefusal) .none kV15 dc15 pm15 an15 cd15 ct15), sl15⟩)
    (c15 : codeIn K cd15 "_refusal" = true) (k15 : keepIn K (.ref f15) = true)
    (a16 : nsIn K mainGlobals "_stuck" = some (some (.ref f16)))
    (l16 : K.lookup f16 = some ⟨oc16, od16, .func (fnOf "_stuck" "_stuck" (defArgs sPStuck) (defBody sPStuck) (defScope sPStuck) .none kV16 dc16 pm16 an16 cd16 ct16), sl16⟩)
    (c16 : codeIn K cd16 "_stuck" = true) (k16 : keepIn K (.ref f16) = true)
    (a17 : nsIn K mainGlobals "_is_told" = some (some (.ref f17)))
    (l17 : K.lookup f17 = some ⟨oc17, od17, .func (fnOf "_is_told" "_is_told" (defArgs sIsTold) (defBody sIsTold) (defScope sIsTold) .none kV17 dc17 pm17 an17 cd17 ct17), sl17⟩)
    (c17 : codeIn K cd17 "_is_told" = true) (k17 : keepIn K (.ref f17) = true)
    (a18 : nsIn K mainGlobals "_law_fresh" = some (some (.ref f18)))
    (l18 : K.lookup f18 = some ⟨oc18, od18, .func (fnOf "_law_fresh" "_law_fresh" (defArgs sFresh) (defBody sFresh) (defScope sFresh) .none kV18 dc18 pm18 an18 cd18 ct18), sl18⟩)
    (c18 : codeIn K cd18 "_law_fresh" = true) (k18 : keepIn K (.ref f18) = true)
    (a19 : nsIn K mainGlobals "_law_fill" = some (some (.ref f19)))
    (l19 : K.lookup f19 = some ⟨oc19, od19, .func (fnOf "_law_fill" "_law_fill" (defArgs sFill) (defBody sFill) (defScope sFill) .none kV19 dc19 pm19 an19 cd19 ct19), sl19⟩)
    (c19 : codeIn K cd19 "_law_fill" = true) (k19 : keepIn K (.ref f19) = true)
    (a20 : nsIn K mainGlobals "_law_take" = some (some (.ref f20)))
    (l20 : K.lookup f20 = some ⟨oc20, od20, .func (fnOf "_law_take" "_law_take" (defArgs sTake) (defBody sTake) (defScope sTake) .none kV20 dc20 pm20 an20 cd20 ct20), sl20⟩)
    (c20 : codeIn K cd20 "_law_take" = true) (k20 : keepIn K (.ref f20) = true)
    (a21 : nsIn K mainGlobals "_law_one" = some (some (.ref f21)))
    (l21 : K.lookup f21 = some ⟨oc21, od21, .func (fnOf "_law_one" "_law_one" (defArgs sOne) (defBody sOne) (defScope sOne) .none kV21 dc21 pm21 an21 cd21 ct21), sl21⟩)
    (c21 : codeIn K cd21 "_law_one" = true) (k21 : keepIn K (.ref f21) = true)
    (a22 : nsIn K mainGlobals "_law_same" = some (some (.ref f22)))
    (l22 : K.lookup f22 = some ⟨oc22, od22, .func (fnOf "_law_same" "_law_same" (defArgs sSame) (defBody sSame) (defScope sSame) .none kV22 dc22 pm22 an22 cd22 ct22), sl22⟩)
    (c22 : codeIn K cd22 "_law_same" = true) (k22 : keepIn K (.ref f22) = true)
    (a23 : nsIn K mainGlobals "_law_script" = some (some (.ref f23)))
    (l23 : K.lookup f23 = some ⟨oc23, od23, .func (fnOf "_law_script" "_law_script" (defArgs sScript) (defBody sScript) (defScope sScript) .none kV23 dc23 pm23 an23 cd23 ct23), sl23⟩)
    (c23 : codeIn K cd23 "_law_script" = true) (k23 : keepIn K (.ref f23) = true)
    (a24 : nsIn K mainGlobals "_law_scripts" = some (some (.ref f24)))
    (l24 : K.lookup f24 = some ⟨oc24, od24, .func (fnOf "_law_scripts" "_law_scripts" (defArgs sScripts) (defBody sScripts) (defScope sScripts) .none kV24 dc24 pm24 an24 cd24 ct24), sl24⟩)
    (c24 : codeIn K cd24 "_law_scripts" = true) (k24 : keepIn K (.ref f24) = true)
    (a25 : nsIn K mainGlobals "_law_begun" = some (some (.ref f25)))
    (l25 : K.lookup f25 = some ⟨oc25, od25, .func (fnOf "_law_begun" "_law_begun" (defArgs sBegun) (defBody sBegun) (defScope sBegun) .none kV25 dc25 pm25 an25 cd25 ct25), sl25⟩)
    (c25 : codeIn K cd25 "_law_begun" = true) (k25 : keepIn K (.ref f25) = true)
    (a26 : nsIn K mainGlobals "_law_handed" = some (some (.ref f26)))
    (l26 : K.lookup f26 = some ⟨oc26, od26, .func (fnOf "_law_handed" "_law_handed" (defArgs sHanded) (defBody sHanded) (defScope sHanded) .none kV26 dc26 pm26 an26 cd26 ct26), sl26⟩)
    (c26 : codeIn K cd26 "_law_handed" = true) (k26 : keepIn K (.ref f26) = true)
    (a27 : nsIn K mainGlobals "_law_misused" = some (some (.ref f27)))
    (l27 : K.lookup f27 = some ⟨oc27, od27, .func (fnOf "_law_misused" "_law_misused" (defArgs sMisused) (defBody sMisused) (defScope sMisused) .none kV27 dc27 pm27 an27 cd27 ct27), sl27⟩)
    (c27 : codeIn K cd27 "_law_misused" = true) (k27 : keepIn K (.ref f27) = true)
    (a28 : nsIn K mainGlobals "_law_odd" = some (some (.ref f28)))
    (l28 : K.lookup f28 = some ⟨oc28, od28, .func (fnOf "_law_odd" "_law_odd" (defArgs sOdd) (defBody sOdd) (defScope sOdd) .none kV28 dc28 pm28 an28 cd28 ct28), sl28⟩)
    (c28 : codeIn K cd28 "_law_odd" = true) (k28 : keepIn K (.ref f28) = true)
    (a29 : nsIn K mainGlobals "_law_is_script" = some (some (.ref f29)))
    (l29 : K.lookup f29 = some ⟨oc29, od29, .func (fnOf "_law_is_script" "_law_is_script" (defArgs sIsScript) (defBody sIsScript) (defScope sIsScript) .none kV29 dc29 pm29 an29 cd29 ct29), sl29⟩)
    (c29 : codeIn K cd29 "_law_is_script" = true) (k29 : keepIn K (.ref f29) = true)
    (a30 : nsIn K mainGlobals "_law_are_scripts" = some (some (.ref f30)))
    (l30 : K.lookup f30 = some ⟨oc30, od30, .func (fnOf "_law_are_scripts" "_law_are_scripts" (defArgs sAreScripts) (defBody sAreScripts) (defScope sAreScripts) .none kV30 dc30 pm30 an30 cd30 ct30), sl30⟩)
    (c30 : codeIn K cd30 "_law_are_scripts" = true) (k30 : keepIn K (.ref f30) = true)
    (a31 : nsIn K mainGlobals "_law_word" = some (some (.ref f31)))
    (l31 : K.lookup f31 = some ⟨oc31, od31, .func (fnOf "_law_word" "_law_word" (defArgs sWord) (defBody sWord) (defScope sWord) .none kV31 dc31 pm31 an31 cd31 ct31), sl31⟩)
    (c31 : codeIn K cd31 "_law_word" = true) (k31 : keepIn K (.ref f31) = true)
    (a32 : nsIn K mainGlobals "_law_bent" = some (some (.ref f32)))
    (l32 : K.lookup f32 = some ⟨oc32, od32, .func (fnOf "_law_bent" "_law_bent" (defArgs sBent) (defBody sBent) (defScope sBent) .none kV32 dc32 pm32 an32 cd32 ct32), sl32⟩)
    (c32 : codeIn K cd32 "_law_bent" = true) (k32 : keepIn K (.ref f32) = true)
    (a33 : nsIn K mainGlobals "_law_row_of" = some (some (.ref f33)))
    (l33 : K.lookup f33 = some ⟨oc33, od33, .func (fnOf "_law_row_of" "_law_row_of" (defArgs sRowOf) (defBody sRowOf) (defScope sRowOf) .none kV33 dc33 pm33 an33 cd33 ct33), sl33⟩)
    (c33 : codeIn K cd33 "_law_row_of" = true) (k33 : keepIn K (.ref f33) = true)
    (aL : nsIn K mainGlobals "law" = some (some (.ref fL))) (lL : K.lookup fL = some ⟨ocL, odL, .func (fnOf "law" "law" (defArgs sLaw) (defBody sLaw) (defScope sLaw) .none kVL dcL pmL anL (.ref co) ctL), slL⟩) (cL : codeIn K (.ref co) "law" = true)
    (z0 : nsIn K mainGlobals "len" = some none)
    (z1 : nsIn K mainGlobals "int" = some none)
    (z2 : nsIn K mainGlobals "enumerate" = some none)
    (z3 : nsIn K mainGlobals "isinstance" = some none)
    (z4 : nsIn K mainGlobals "zip" = some none)
    (z5 : nsIn K mainGlobals "all" = some none)
    (z6 : nsIn K mainGlobals "list" = some none)
    (z7 : nsIn K mainGlobals "tuple" = some none)
    (z8 : nsIn K mainGlobals "bool" = some none)
    (z9 : nsIn K mainGlobals "range" = some none)
    (z10 : nsIn K mainGlobals "min" = some none)
    (z11 : nsIn K mainGlobals "repr" = some none)
    (z12 : nsIn K mainGlobals "str" = some none)
    (s0 : nsIn K mainGlobals "NO_LOCK" = some (some (.int 0 t0)))
    (s1 : nsIn K mainGlobals "MOST_SCRIPTS" = some (some (.int 4 t1)))
    (s2 : nsIn K mainGlobals "MOST_STEPS" = some (some (.int 8 t2)))
    (u0 : nsIn K mainGlobals "OPENING" = some (some (.ref w0))) (lu0 : K.lookup w0 = some ⟨.type "tuple", odw0, .seq itw0 nw0, slw0⟩) (yu0 : itw0.size ≤ sizeLine) (xu0 : (itw0.toList.map fun v => match v with | .str x _ => x | _ => Str.empty) = opening) (hu0 : (itw0.toList.all fun v => match v with | .str _ _ => true | _ => false) = true)
    (u1 : nsIn K mainGlobals "ENDING" = some (some (.ref w1))) (lu1 : K.lookup w1 = some ⟨.type "tuple", odw1, .seq itw1 nw1, slw1⟩) (yu1 : itw1.size ≤ sizeLine) (xu1 : (itw1.toList.map fun v => match v with | .str x _ => x | _ => Str.empty) = ending) (hu1 : (itw1.toList.all fun v => match v with | .str _ _ => true | _ => false) = true)
    (u2 : nsIn K mainGlobals "ANYWHERE" = some (some (.ref w2))) (lu2 : K.lookup w2 = some ⟨.type "tuple", odw2, .seq itw2 nw2, slw2⟩) (yu2 : itw2.size ≤ sizeLine) (xu2 : (itw2.toList.map fun v => match v with | .str x _ => x | _ => Str.empty) = anywhere) (hu2 : (itw2.toList.all fun v => match v with | .str _ _ => true | _ => false) = true)
    (TT : EC l.prog w K mg "ProgrammingError" cP ∧ mg "DatabaseError" = some (.ref cD) ∧ mg "Error" = some (.ref cE) ∧ exmOne K (.ref cP) (.ref cP) = some true ∧ kitOne K (.ref cP) (.ref cD) = some true) :
    ∃ fd : FuncData, (∀ (s : Shared) (v : Value), BindsTo s fd ⟨[v], []⟩ [("_law_script_here", v)]) ∧ ∀ base : Heap, K.In base → base.Ns mainGlobals mg → (∃ o, base.get? sysModules = some o) → TabB base mg co tab → TopOk l.prog w K mg base fa fd ["_law_script_here"] (spLaw K tab) := by
  have e := hfa.symm.trans (mg_of X G aL)
  cases e
  obtain ⟨TP, gD, gE, exP, kiD⟩ := TT
  have F0 := fun_mk (st := sChecked) l0 c0 k0
  have b0 := F0.binds (ps := ["scripts"]) fun _ _ _ _ _ _ us hl => match us, hl with | [_], _ => rfl
  have g0 := mg_of X G a0
  have F1 := fun_mk (st := sCheckedOne) l1 c1 k1
  have b1 := F1.binds (ps := ["script"]) fun _ _ _ _ _ _ us hl => match us, hl with | [_], _ => rfl
  have g1 := mg_of X G a1
  have F2 := fun_mk (st := sMay) l2 c2 k2
  have b2 := F2.binds (ps := ["step", "opened", "reads"]) fun _ _ _ _ _ _ us hl => match us, hl with | [_, _, _], _ => rfl
  have g2 := mg_of X G a2
  have F3 := fun_mk (st := sOpenB) l3 c3 k3
  have b3 := F3.binds (ps := ["step", "opened"]) fun _ _ _ _ _ _ us hl => match us, hl with | [_, _], _ => rfl
  have g3 := mg_of X G a3
  have F4 := fun_mk (st := sReadB) l4 c4 k4
  have b4 := F4.binds (ps := ["step", "reads"]) fun _ _ _ _ _ _ us hl => match us, hl with | [_, _], _ => rfl
  have g4 := mg_of X G a4
  have F5 := fun_mk (st := sFirstState) l5 c5 k5
  have b5 := F5.binds (ps := ["scripts"]) fun _ _ _ _ _ _ us hl => match us, hl with | [_], _ => rfl
  have g5 := mg_of X G a5
  have F6 := fun_mk (st := sNextState) l6 c6 k6
  have b6 := F6.binds (ps := ["scripts", "state", "at"]) fun _ _ _ _ _ _ us hl => match us, hl with | [_, _, _], _ => rfl
  have g6 := mg_of X G a6
  have F7 := fun_mk (st := sRefusal) l7 c7 k7
  have b7 := F7.binds (ps := ["scripts"]) fun _ _ _ _ _ _ us hl => match us, hl with | [_], _ => rfl
  have g7 := mg_of X G a7
  have F8 := fun_mk (st := sIsOrder) l8 c8 k8
  have b8 := F8.binds (ps := ["scripts", "order"]) fun _ _ _ _ _ _ us hl => match us, hl with | [_, _], _ => rfl
  have g8 := mg_of X G a8
  have F9 := fun_mk (st := sIsNever) l9 c9 k9
  have b9 := F9.binds (ps := ["scripts", "states"]) fun _ _ _ _ _ _ us hl => match us, hl with | [_, _], _ => rfl
  have g9 := mg_of X G a9
  have F10 := fun_mk (st := sStuck) l10 c10 k10
  have b10 := F10.binds (ps := ["scripts"]) fun _ _ _ _ _ _ us hl => match us, hl with | [_], _ => rfl
  have g10 := mg_of X G a10
  have F11 := fun_mk (st := sIsStuck) l11 c11 k11
  have b11 := F11.binds (ps := ["scripts", "order"]) fun _ _ _ _ _ _ us hl => match us, hl with | [_, _], _ => rfl
  have g11 := mg_of X G a11
  have F12 := fun_mk (st := sIsFree) l12 c12 k12
  have b12 := F12.binds (ps := ["scripts", "states"]) fun _ _ _ _ _ _ us hl => match us, hl with | [_, _], _ => rfl
  have g12 := mg_of X G a12
  have F13 := fun_mk (st := sCalmed) l13 c13 k13
  have b13 := F13.binds (ps := ["scripts"]) fun _ _ _ _ _ _ us hl => match us, hl with | [_], _ => rfl
  have g13 := mg_of X G a13
  have F14 := fun_mk (st := sFirst) l14 c14 k14
  have b14 := F14.binds (ps := ["scripts"]) fun _ _ _ _ _ _ us hl => match us, hl with | [_], _ => rfl
  have g14 := mg_of X G a14
  have F15 := fun_mk (st := sPRefusal) l15 c15 k15
  have b15 := F15.binds (ps := ["scripts"]) fun _ _ _ _ _ _ us hl => match us, hl with | [_], _ => rfl
  have g15 := mg_of X G a15
  have F16 := fun_mk (st := sPStuck) l16 c16 k16
  have b16 := F16.binds (ps := ["scripts"]) fun _ _ _ _ _ _ us hl => match us, hl with | [_], _ => rfl
  have g16 := mg_of X G a16
  have F17 := fun_mk (st := sIsTold) l17 c17 k17
  have b17 := F17.binds (ps := ["found", "states"]) fun _ _ _ _ _ _ us hl => match us, hl with | [_, _], _ => rfl
  have g17 := mg_of X G a17
  have F18 := fun_mk (st := sFresh) l18 c18 k18
  have b18 := F18.binds (ps := ["_law_script_here"]) fun _ _ _ _ _ _ us hl => match us, hl with | [_], _ => rfl
  have g18 := mg_of X G a18
  have F19 := fun_mk (st := sFill) l19 c19 k19
  have b19 := F19.binds (ps := ["_law_state"]) fun _ _ _ _ _ _ us hl => match us, hl with | [_], _ => rfl
  have g19 := mg_of X G a19
  have F20 := fun_mk (st := sTake) l20 c20 k20
  have b20 := F20.binds (ps := ["_law_state", "_law_many"]) fun _ _ _ _ _ _ us hl => match us, hl with | [_, _], _ => rfl
  have g20 := mg_of X G a20
  have F21 := fun_mk (st := sOne) l21 c21 k21
  have b21 := F21.binds (ps := ["_law_state", "_law_things"]) fun _ _ _ _ _ _ us hl => match us, hl with | [_, _], _ => rfl
  have g21 := mg_of X G a21
  have F22 := fun_mk (st := sSame) l22 c22 k22
  have b22 := F22.binds (ps := ["_law_found", "_law_due"]) fun _ _ _ _ _ _ us hl => match us, hl with | [_, _], _ => rfl
  have g22 := mg_of X G a22
  have F23 := fun_mk (st := sScript) l23 c23 k23
  have b23 := F23.binds (ps := ["_law_state", "_law_many"]) fun _ _ _ _ _ _ us hl => match us, hl with | [_, _], _ => rfl
  have g23 := mg_of X G a23
  have F24 := fun_mk (st := sScripts) l24 c24 k24
  have b24 := F24.binds (ps := ["_law_state", "_law_most", "_law_many"]) fun _ _ _ _ _ _ us hl => match us, hl with | [_, _, _], _ => rfl
  have g24 := mg_of X G a24
  have F25 := fun_mk (st := sBegun) l25 c25 k25
  have b25 := F25.binds (ps := ["_law_scripts_here"]) fun _ _ _ _ _ _ us hl => match us, hl with | [_], _ => rfl
  have g25 := mg_of X G a25
  have F26 := fun_mk (st := sHanded) l26 c26 k26
  have b26 := F26.binds (ps := ["_law_state", "_law_thing"]) fun _ _ _ _ _ _ us hl => match us, hl with | [_, _], _ => rfl
  have g26 := mg_of X G a26
  have F27 := fun_mk (st := sMisused) l27 c27 k27
  have b27 := F27.binds (ps := ["_law_deed"]) fun _ _ _ _ _ _ us hl => match us, hl with | [_], _ => rfl
  have g27 := mg_of X G a27
  have F28 := fun_mk (st := sOdd) l28 c28 k28
  have b28 := F28.binds (ps := ["_law_state"]) fun _ _ _ _ _ _ us hl => match us, hl with | [_], _ => rfl
  have g28 := mg_of X G a28
  have F29 := fun_mk (st := sIsScript) l29 c29 k29
  have b29 := F29.binds (ps := ["_law_thing"]) fun _ _ _ _ _ _ us hl => match us, hl with | [_], _ => rfl
  have g29 := mg_of X G a29
  have F30 := fun_mk (st := sAreScripts) l30 c30 k30
  have b30 := F30.binds (ps := ["_law_thing"]) fun _ _ _ _ _ _ us hl => match us, hl with | [_], _ => rfl
  have g30 := mg_of X G a30
  have F31 := fun_mk (st := sWord) l31 c31 k31
  have b31 := F31.binds (ps := ["_law_state"]) fun _ _ _ _ _ _ us hl => match us, hl with | [_], _ => rfl
  have g31 := mg_of X G a31
  have F32 := fun_mk (st := sBent) l32 c32 k32
  have b32 := F32.binds (ps := ["_law_state", "_law_thing"]) fun _ _ _ _ _ _ us hl => match us, hl with | [_, _], _ => rfl
  have g32 := mg_of X G a32
  have F33 := fun_mk (st := sRowOf) l33 c33 k33
  have b33 := F33.binds (ps := ["_law_like", "_law_thing"]) fun _ _ _ _ _ _ us hl => match us, hl with | [_, _], _ => rfl
  have g33 := mg_of X G a33
  have m0 := mg_none_of X G z0
  have m1 := mg_none_of X G z1
  have m2 := mg_none_of X G z2
  have m3 := mg_none_of X G z3
  have m4 := mg_none_of X G z4
  have m5 := mg_none_of X G z5
  have m6 := mg_none_of X G z6
  have m7 := mg_none_of X G z7
  have m8 := mg_none_of X G z8
  have m9 := mg_none_of X G z9
  have m10 := mg_none_of X G z10
  have m11 := mg_none_of X G z11
  have m12 := mg_none_of X G z12
  have q0 := mg_of X G s0
  have q1 := mg_of X G s1
  have q2 := mg_of X G s2
  have v0 := mg_of X G u0
  have y0 := tup_strs (c := .none) lu0 yu0 xu0 hu0
  have v1 := mg_of X G u1
  have y1 := tup_strs (c := .none) lu1 yu1 xu1 hu1
  have v2 := mg_of X G u2
  have y2 := tup_strs (c := .none) lu2 yu2 xu2 hu2
  refine ⟨fnOf "law" "law" (defArgs sLaw) (defBody sLaw) (defScope sLaw) .none kVL dcL pmL anL (.ref co) ctL, fun s v => .of_eq rfl, fun base _ _ ks TB => ?_⟩
  have nOp : Can l.prog w K mg base CX0 1 "is_open_behind" ["step", "opened"] (spWB opnB) _ _ := ⟨ok_openB F3 v0 y0 v1 y1, g3, F3.kp, b3⟩
  have nRd : Can l.prog w K mg base CX0 1 "is_reading_behind" ["step", "reads"] (spWB rdsB) _ _ := ⟨ok_readB F4, g4, F4.kp, b4⟩
  have nMa : Can l.prog w K mg base CX0 1 "_may_stand" ["step", "opened", "reads"] spMay _ _ := ⟨ok_may F2 v0 y0 v1 y1 v2 y2, g2, F2.kp, b2⟩
  have nMx : Can l.prog w K mg base CX0 1 "_may_stand" ["step", "opened", "reads"] spMayX _ _ := ⟨ok_mayX F2 v0 y0 v1 y1 v2 y2, g2, F2.kp, b2⟩
  have nCo : Can l.prog w K mg base CX0 2 "_checked_script" ["script"] (spOneOk K) _ _ := ⟨ok_checkedOne F1 TP nMa nOp nRd q2 m3 m0 m6 m7, g1, F1.kp, b1⟩
  have nCx : Can l.prog w K mg base (L2.CX l.prog w) 2 "_checked_script" ["script"] (spOneX cP) _ _ := ⟨ok_oneX F1 TP nMx nOp nRd q2 m3 m0 m6 m7, g1, F1.kp, b1⟩
  have nCh : Can l.prog w K mg base CX0 3 "checked_scripts" ["scripts"] (spChecked K) _ _ := ⟨ok_checked F0 TP nCo q1 m3 m0 m6 m7, g0, F0.kp, b0⟩
  have nCk : Can l.prog w K mg base (L2.CX l.prog w) 3 "checked_scripts" ["scripts"] (spChkX cP) _ _ := ⟨ok_chkX F0 TP nCx q1 m3 m0 m6 m7, g0, F0.kp, b0⟩
  have nFi : Can l.prog w K mg base CX0 1 "_first" ["scripts"] (spFirst K) _ _ := ⟨ok_first F14 q0 m7, g14, F14.kp, b14⟩
  have nFs : Can l.prog w K mg base CX0 4 "first_state" ["scripts"] (spFirstState K) _ _ := ⟨ok_firstState F5 nCh nFi, g5, F5.kp, b5⟩
  have nN1 : Can l.prog w K mg base CX0 1 "_first" ["scripts"] spNo _ _ := ⟨ok_no, g14, F14.kp, b14⟩
  have nN2 : Can l.prog w K mg base CX0 1 "_refusal" ["scripts"] spNo _ _ := ⟨ok_no, g15, F15.kp, b15⟩
  have nN3 : Can l.prog w K mg base CX0 1 "_stuck" ["scripts"] spNo _ _ := ⟨ok_no, g16, F16.kp, b16⟩
  have nN4 : Can l.prog w K mg base CX0 1 "_is_told" ["found", "states"] spNo _ _ := ⟨ok_no, g17, F17.kp, b17⟩
  have nB1 : Can l.prog w K mg base (L2.CX l.prog w) 4 "first_state" ["scripts"] (spBad 0 cP) _ _ := ⟨bad_first F5 nCk nN1, g5, F5.kp, b5⟩
  have nB2 : Can l.prog w K mg base (L2.CX l.prog w) 4 "refusal" ["scripts"] (spBad 0 cP) _ _ := ⟨bad_refusal F7 nCk nN2, g7, F7.kp, b7⟩
  have nB3 : Can l.prog w K mg base (L2.CX l.prog w) 4 "stuck" ["scripts"] (spBad 0 cP) _ _ := ⟨bad_stuck F10 nCk nN3, g10, F10.kp, b10⟩
  have nB4 : Can l.prog w K mg base (L2.CX l.prog w) 4 "calmed" ["scripts"] (spBad 0 cP) _ _ := ⟨bad_calmed F13 nCk, g13, F13.kp, b13⟩
  have nL1 : Can l.prog w K mg base (L2.CX l.prog w) 4 "is_order" ["scripts", "order"] (spBad 1 cP) _ _ := ⟨bad_isOrder F8 nCk, g8, F8.kp, b8⟩
  have nL2 : Can l.prog w K mg base (L2.CX l.prog w) 4 "is_never" ["scripts", "states"] (spBad 1 cP) _ _ := ⟨bad_isNever F9 nCk nN2 nN4, g9, F9.kp, b9⟩
  have nL3 : Can l.prog w K mg base (L2.CX l.prog w) 4 "is_stuck" ["scripts", "order"] (spBad 1 cP) _ _ := ⟨bad_isStuck F11 nCk, g11, F11.kp, b11⟩
  have nL4 : Can l.prog w K mg base (L2.CX l.prog w) 4 "is_free" ["scripts", "states"] (spBad 1 cP) _ _ := ⟨bad_isFree F12 nCk nN3 nN4, g12, F12.kp, b12⟩
  have nNx : Can l.prog w K mg base (L2.CX l.prog w) 4 "next_state" ["scripts", "state", "at"] (spBad 2 cP) _ _ := ⟨bad_next F6 nCk, g6, F6.kp, b6⟩
  have GT : FnOk l.prog w K mg base CX0 2 f20 _ ["_law_state", "_law_many"] spTake := ok_take F20 F19 b19 g19 m0 m1 m2
  have nT : Can l.prog w K mg base CX0 2 "_law_take" ["_law_state", "_law_many"] spTake _ _ := ⟨GT, g20, F20.kp, b20⟩
  have nFr : Can l.prog w K mg base CX0 1 "_law_fresh" ["_law_script_here"] (spFresh K) _ _ := ⟨ok_fresh F18, g18, F18.kp, b18⟩
  have nO : Can l.prog w K mg base CX0 3 "_law_one" ["_law_state", "_law_things"] spOne _ _ := ⟨ok_one F21 F20 b20 g20 m0 GT, g21, F21.kp, b21⟩
  have nS2 : Can l.prog w K mg base CX0 4 "_law_same" ["_law_found", "_law_due"] (spTw 2) _ _ := ⟨ok_same F22 b22 g22 m3 m0 m4 m5 m6 m7 m1 m8 2, g22, F22.kp, b22⟩
  have nSc1 : Can l.prog w K mg base CX0 4 "_law_script" ["_law_state", "_law_many"] spScript _ _ := ⟨ok_script F23 nO nT m0 m1 m9 m10 m7, g23, F23.kp, b23⟩
  have nSc : Can l.prog w K mg base CX0 5 "_law_scripts" ["_law_state", "_law_most", "_law_many"] spScripts _ _ := ⟨ok_scripts F24 nSc1 nT m9 m7, g24, F24.kp, b24⟩
  have nBg : Can l.prog w K mg base CX0 1 "_law_begun" ["_law_scripts_here"] spBegunX _ _ := ⟨ok_begunX F25 m7, g25, F25.kp, b25⟩
  have nHa : Can l.prog w K mg base CX0 5 "_law_handed" ["_law_state", "_law_thing"] (spHand 2) _ _ := ⟨ok_handed F26 b26 g26 nT m3 m6 m7 2, g26, F26.kp, b26⟩
  have nOd : Can l.prog w K mg base CX0 3 "_law_odd" ["_law_state"] spOddX _ _ := ⟨ok_oddX F28 nT m0, g28, F28.kp, b28⟩
  have nW : Can l.prog w K mg base CX0 4 "_law_word" ["_law_state"] spWord _ _ := ⟨ok_word F31 nOd nT, g31, F31.kp, b31⟩
  have nR : Can l.prog w K mg base CX0 1 "_law_row_of" ["_law_like", "_law_thing"] spRow _ _ := ⟨ok_row F33 m3 m6, g33, F33.kp, b33⟩
  have nBe : Can l.prog w K mg base CX0 5 "_law_bent" ["_law_state", "_law_thing"] spBent _ _ := ⟨ok_bent F32 nT nOd nW nR m3 m0 m6 m7, g32, F32.kp, b32⟩
  have nIs : Can l.prog w K mg base CX0 1 "_law_is_script" ["_law_thing"] spIsScr _ _ := ⟨ok_isScript F29 m3 m0 m6 m7 m12, g29, F29.kp, b29⟩
  have nAr : Can l.prog w K mg base CX0 2 "_law_are_scripts" ["_law_thing"] spAre _ _ := ⟨ok_areScripts F30 nIs m3 m0 m6 m7 m5, g30, F30.kp, b30⟩
  exact ok_law lL cL TB g27 k27 l27 c27 b27 TP gD gE m3 exP kiD ks nFr nSc nHa nBe nBg nS2 nFs nOd nAr nT nB1 nB2 nB3 nB4 nL1 nL2 nL3 nL4 nNx m9 m11
end Lk

open PySem PySem.W PyProof.Rows
set_option maxRecDepth 100000 in
set_option maxHeartbeats 0 in
theorem PySem.Challenge.cw_cursorhouse_k79_scripts_refused_holds : PySem.Challenge.rw_cursorhouse_k79_scripts_refused.Holds := by
  w_on; o_law; k_head; (case hw => w_witness2)
  k_fill
  refine' Grd.walk_gU (l := PySem.Challenge.rw_cursorhouse_k79_scripts_refused) (n := 63) (x := "_law_script_here") (co := ?co) (tab := 429) (sp := fun K => Lk.spLaw K 429) rfl (by decide) rfl ?imp ?kt ?hco ?F (fun _ _ a ns hl hT hS => ⟨a, ns, rfl, hS, hl, hT, fun _ => rfl⟩)
  case imp => kernel_rfl
  case kt => intro w; kernel_rfl
  case F =>
    intro w mg fa h KX G hmg
    refine' Lk.all_end KX G hmg ?a0 ?l0 ?c0 ?k0 ?a1 ?l1 ?c1 ?k1 ?a2 ?l2 ?c2 ?k2 ?a3 ?l3 ?c3 ?k3 ?a4 ?l4 ?c4 ?k4 ?a5 ?l5 ?c5 ?k5 ?a6 ?l6 ?c6 ?k6 ?a7 ?l7 ?c7 ?k7 ?a8 ?l8 ?c8 ?k8 ?a9 ?l9 ?c9 ?k9 ?a10 ?l10 ?c10 ?k10 ?a11 ?l11 ?c11 ?k11 ?a12 ?l12 ?c12 ?k12 ?a13 ?l13 ?c13 ?k13 ?a14 ?l14 ?c14 ?k14 ?a15 ?l15 ?c15 ?k15 ?a16 ?l16 ?c16 ?k16 ?a17 ?l17 ?c17 ?k17 ?a18 ?l18 ?c18 ?k18 ?a19 ?l19 ?c19 ?k19 ?a20 ?l20 ?c20 ?k20 ?a21 ?l21 ?c21 ?k21 ?a22 ?l22 ?c22 ?k22 ?a23 ?l23 ?c23 ?k23 ?a24 ?l24 ?c24 ?k24 ?a25 ?l25 ?c25 ?k25 ?a26 ?l26 ?c26 ?k26 ?a27 ?l27 ?c27 ?k27 ?a28 ?l28 ?c28 ?k28 ?a29 ?l29 ?c29 ?k29 ?a30 ?l30 ?c30 ?k30 ?a31 ?l31 ?c31 ?k31 ?a32 ?l32 ?c32 ?k32 ?a33 ?l33 ?c33 ?k33 ?aL ?lL ?cL ?z0 ?z1 ?z2 ?z3 ?z4 ?z5 ?z6 ?z7 ?z8 ?z9 ?z10 ?z11 ?z12 ?s0 ?s1 ?s2 ?u0 ?lu0 ?yu0 ?xu0 ?hu0 ?u1 ?lu1 ?yu1 ?xu1 ?hu1 ?u2 ?lu2 ?yu2 ?xu2 ?hu2 ?TT
    (case a0 => k_is)
    (case l0 => k_is)
    (case c0 => k_is)
    (case k0 => k_is)
    (case a1 => k_is)
    (case l1 => k_is)
    (case c1 => k_is)
    (case k1 => k_is)
    (case a2 => k_is)
    (case l2 => k_is)
    (case c2 => k_is)
    (case k2 => k_is)
    (case a3 => k_is)
    (case l3 => k_is)
    (case c3 => k_is)
    (case k3 => k_is)
    (case a4 => k_is)
    (case l4 => k_is)
    (case c4 => k_is)
    (case k4 => k_is)
    (case a5 => k_is)
    (case l5 => k_is)
    (case c5 => k_is)
    (case k5 => k_is)
    (case a6 => k_is)
    (case l6 => k_is)
    (case c6 => k_is)
    (case k6 => k_is)
    (case a7 => k_is)
    (case l7 => k_is)
    (case c7 => k_is)
    (case k7 => k_is)
    (case a8 => k_is)
    (case l8 => k_is)
    (case c8 => k_is)
    (case k8 => k_is)
    (case a9 => k_is)
    (case l9 => k_is)
    (case c9 => k_is)
    (case k9 => k_is)
    (case a10 => k_is)
    (case l10 => k_is)
    (case c10 => k_is)
    (case k10 => k_is)
    (case a11 => k_is)
    (case l11 => k_is)
    (case c11 => k_is)
    (case k11 => k_is)
    (case a12 => k_is)
    (case l12 => k_is)
    (case c12 => k_is)
    (case k12 => k_is)
    (case a13 => k_is)
    (case l13 => k_is)
    (case c13 => k_is)
    (case k13 => k_is)
    (case a14 => k_is)
    (case l14 => k_is)
    (case c14 => k_is)
    (case k14 => k_is)
    (case a15 => k_is)
    (case l15 => k_is)
    (case c15 => k_is)
    (case k15 => k_is)
    (case a16 => k_is)
    (case l16 => k_is)
    (case c16 => k_is)
    (case k16 => k_is)
    (case a17 => k_is)
    (case l17 => k_is)
    (case c17 => k_is)
    (case k17 => k_is)
    (case a18 => k_is)
    (case l18 => k_is)
    (case c18 => k_is)
    (case k18 => k_is)
    (case a19 => k_is)
    (case l19 => k_is)
    (case c19 => k_is)
    (case k19 => k_is)
    (case a20 => k_is)
    (case l20 => k_is)
    (case c20 => k_is)
    (case k20 => k_is)
    (case a21 => k_is)
    (case l21 => k_is)
    (case c21 => k_is)
    (case k21 => k_is)
    (case a22 => k_is)
    (case l22 => k_is)
    (case c22 => k_is)
    (case k22 => k_is)
    (case a23 => k_is)
    (case l23 => k_is)
    (case c23 => k_is)
    (case k23 => k_is)
    (case a24 => k_is)
    (case l24 => k_is)
    (case c24 => k_is)
    (case k24 => k_is)
    (case a25 => k_is)
    (case l25 => k_is)
    (case c25 => k_is)
    (case k25 => k_is)
    (case a26 => k_is)
    (case l26 => k_is)
    (case c26 => k_is)
    (case k26 => k_is)
    (case a27 => k_is)
    (case l27 => k_is)
    (case c27 => k_is)
    (case k27 => k_is)
    (case a28 => k_is)
    (case l28 => k_is)
    (case c28 => k_is)
    (case k28 => k_is)
    (case a29 => k_is)
    (case l29 => k_is)
    (case c29 => k_is)
    (case k29 => k_is)
    (case a30 => k_is)
    (case l30 => k_is)
    (case c30 => k_is)
    (case k30 => k_is)
    (case a31 => k_is)
    (case l31 => k_is)
    (case c31 => k_is)
    (case k31 => k_is)
    (case a32 => k_is)
    (case l32 => k_is)
    (case c32 => k_is)
    (case k32 => k_is)
    (case a33 => k_is)
    (case l33 => k_is)
    (case c33 => k_is)
    (case k33 => k_is)
    (case aL => k_is)
    (case lL => k_is)
    (case cL => k_is)
    (case z0 => k_is)
    (case z1 => k_is)
    (case z2 => k_is)
    (case z3 => k_is)
    (case z4 => k_is)
    (case z5 => k_is)
    (case z6 => k_is)
    (case z7 => k_is)
    (case z8 => k_is)
    (case z9 => k_is)
    (case z10 => k_is)
    (case z11 => k_is)
    (case z12 => k_is)
    (case s0 => k_is)
    (case s1 => k_is)
    (case s2 => k_is)
    (case u0 => k_is)
    (case lu0 => k_is)
    (case yu0 => decide +kernel)
    (case xu0 => decide +kernel)
    (case hu0 => decide +kernel)
    (case u1 => k_is)
    (case lu1 => k_is)
    (case yu1 => decide +kernel)
    (case xu1 => decide +kernel)
    (case hu1 => decide +kernel)
    (case u2 => k_is)
    (case lu2 => k_is)
    (case yu2 => decide +kernel)
    (case xu2 => decide +kernel)
    (case hu2 => decide +kernel)
    case TT =>
      refine' Err.three_end KX G ?AP ?AD ?AE ?iP ?iD ?iE ?S ?L ?E0 ?E1 ?E2
      (case AP => k_is)
      (case AD => k_is)
      (case AE => k_is)
      (case iP => k_is)
      (case iD => k_is)
      (case iE => k_is)
      (case S => k_is)
      (case L => kernel_rfl)
      case E0 => refine' Err.first_mk ?ho ?hT ?hcd; (case ho => k_is); (case hT => k_is); (case hcd => k_is)
      case E1 => refine' Err.hands_mk ?ho ?hT ?hcd ?hcode ?hvs ?hfile ?htop ?hcell ?hD ?hop ?hE; (case ho => k_is); (case hT => k_is); (case hcd => k_is); (case hcode => k_is); (case hcell => k_is); (case hop => k_is); (case hD => kernel_rfl); (case hvs => rfl); (case hfile => decide +kernel); (case htop => decide +kernel); (case hE => exact fun _ => rfl)
      case E2 => refine' Err.hands_mk ?ho ?hT ?hcd ?hcode ?hvs ?hfile ?htop ?hcell ?hD ?hop ?hE; (case ho => k_is); (case hT => k_is); (case hcd => k_is); (case hcode => k_is); (case hcell => k_is); (case hop => k_is); (case hD => kernel_rfl); (case hvs => rfl); (case hfile => decide +kernel); (case htop => decide +kernel); (case hE => exact fun _ => rfl)
  case hco => intro w; kernel_rfl

