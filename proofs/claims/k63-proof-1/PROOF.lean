import PyProof.Rows.All
import Wide.All
import OpenK.AllK
import Wide.FinOn
import HandS.ForMost
import KE.GoesEnum
import HandS.StrMore
import HandS.ReplaceList
import HandS.Steps
import HandS.Defaults
import HandS.ReplaceLit
import HandS.IsInst
import HandS.Zip
import HandS.Style
import PyProof.NeKinds
import PyProof.Rows.EqBoolInt
import KE.IntTextLaws
import PySem.Challenge.RW_cursorhouse_k63_complete_statements
set_option Elab.async false
set_option linter.all false
set_option maxRecDepth 100000
set_option maxHeartbeats 8000000
/-! enumerate over a tuple, one argument. -/
namespace Drw
open PySem PySem.Spec PyProof.Rows L2
section
open Sem (wp)
theorem new_enum {v : Value} {o : Obj} {H : Heap → Prop} (B : Begins v o H) :
    Meets (Builtin.«enumerate.__new__» ⟨[.type "enumerate", v], []⟩) (fun _ R s => H s.heap ∧
      R (.ok (.ret (.ref (s.heap.push o).objs.size)))
        { s with heap := (s.heap.push o).push { cls := .type "enumerate", data := .fields #[.none, .bool false, .ref s.heap.objs.size, rawInt 0, .none, .none] } }) := by
  refine .of_wp fun prog w A R s h => ?_
  obtain ⟨hp, g, d, tk, os⟩ := s
  obtain ⟨h1, h⟩ := h
  have se := sub_enumerate
  have it : ∀ {A' : Around} {E : Value → Shared → Prop} {Q : Value → Shared → Prop}, Q (.ref hp.objs.size) ⟨hp.push o, g, d, tk, os⟩ →
      wpAny (model prog w) A' (pyIter v) Q E ⟨hp, g, d, tk, os⟩ := fun q => B.iter prog w _ _ _ _ h1 q
  wp_walk using it
  refine wpAny_stack_any fun st => wpAny_pure ?_
  split
  · rename_i c _ _ _ _ _
    cases (c == Value.type "enumerate") <;> (wp_walk using it; exact ⟨_, rfl, h⟩)
  · wp_walk using it
    exact ⟨_, rfl, h⟩
theorem call_enum {prog : Program} {w : World} {A : Around} {E : Value → Shared → Prop} {s : Shared} {v : Value} {o : Obj} {H : Heap → Prop} {Q : Value → Shared → Prop}
    (B : Begins v o H) (h1 : H s.heap)
    (h : ∀ h', IsEnum h' (s.heap.objs.size + 1) s.heap.objs.size 0 .none → h'.get? s.heap.objs.size = some o →
      (∀ b o, s.heap.get? b = some o → h'.get? b = some o) → Q (.ref (s.heap.objs.size + 1)) { s with heap := h' }) :
    wpAny (model prog w) A (call (.type "enumerate") [v]) Q E s := by
  refine callType_new F.called_enumerate (by decide) (F.typeCall_enumerate_1 _) (F.newCall_enumerate_1 _)
    (fun obj => F.args_object_init_2 obj _) F.entry_enumerate_new (new_enum B) ⟨h1, ?_⟩
  have hz : (s.heap.push o).objs.size = s.heap.objs.size + 1 := Heap.size_push ..
  have he := Heap.get?_push_size (s.heap.push o) (o := { cls := .type "enumerate", data := .fields #[.none, .bool false, .ref s.heap.objs.size, rawInt 0, .none, .none] }) rfl
  rw [hz] at he
  show _ ∧ _
  rw [hz]
  exact ⟨⟨_, he, rfl⟩, h _ he (Heap.get?_push_of_some _ (Heap.get?_push_size _ B.free)) fun b o x => Heap.get?_push_of_some _ (Heap.get?_push_of_some _ x)⟩
end
/-- the tuple at a, each item in a new pair with its place -/
def Ipt (K : PySem.W.Frag) (a : Addr) (xs : List V) : It where
  go := fun i H => SqT K H a xs ∧ i < xs.length
  yld := fun i H v H' => ∃ T x, v = .ref T ∧ H T = none ∧ xs[i]? = some x ∧ H' = upd H T (.tup [.int (i : Nat), x])
  stop := fun i H => SqT K H a xs ∧ xs.length = i
/-- where an enumerate e over a tuple iterator it stands -/
def EnT (e it a : Addr) (its : List Value) (i : Nat) (h : Heap) : Prop :=
  (∃ old, IsEnum h e it ((i : Nat) : Int) old) ∧ h.IsTupleIter it a i ∧ h.IsTuple a its.toArray
end Drw

namespace Drw
open PySem PySem.Spec PyProof.Rows L2
/-- an enumerate e over the tuple iterator it, i items taken -/
def EnI (e it a : Addr) (i : Nat) (h : Heap) : Prop := (∃ old, IsEnum h e it ((i : Nat) : Int) old) ∧ h.IsTupleIter it a i ∧ e ≠ it
theorem two {b e it : Addr} (hb : b ∈ [e, it]) : b = e ∨ b = it := by simpa using hb
theorem enI_lt {e it a : Addr} {i : Nat} {h : Heap} (st : EnI e it a i h) : ∀ b ∈ [e, it], b < h.objs.size := fun b hb => by
  obtain ⟨⟨old, he⟩, ⟨o, ho, _⟩, _⟩ := st
  rcases two hb with rfl | rfl
  · exact Heap.lt_size he
  · exact Heap.lt_size ho
theorem apart_tup {e it a : Addr} {i : Nat} {h : Heap} {its : Array Value} (st : EnI e it a i h) (t : h.IsTuple a its) : a ≠ it := fun z => by
  obtain ⟨_, ⟨o, ho, hc, _⟩, _⟩ := st
  obtain ⟨o', ho', hc', _⟩ := t
  rw [z, ho] at ho'
  cases ho'
  rw [hc] at hc'
  exact absurd (Value.type.inj hc') (by decide)
theorem turn_ipt {P : Program} {w : World} {K : PySem.W.Frag} {elts : List Expr} {kk : Nat} {tpos : Pos} (a e it : Addr) (xs : List V) :
    Turn P w K (.Tuple elts kk tpos) (Ipt K a xs) [e, it] e (EnI e it a) where
  mem := List.mem_cons_self
  obj := fun i h st b hb => by
    obtain ⟨⟨old, he⟩, ⟨o, ho, _, hd⟩, _⟩ := st
    rcases two hb with rfl | rfl
    · exact ⟨_, he, fun v q => nomatch q⟩
    · exact ⟨o, ho, fun v q => by rw [hd] at q; cases q⟩
  keep := fun i h h' ⟨⟨old, he⟩, hi, hne⟩ k => ⟨⟨old, k e (by simp) _ he⟩, hi.at fun o q => k it (by simp) o q, hne⟩
  item := by
    intro X hP hw hK hc i pins s σ H E I hf st hg
    subst hP hw hK
    obtain ⟨hq, hi⟩ := hg
    obtain ⟨its, rv, tp, _⟩ := I.tuple hq
    have tp' : s.heap.IsTuple a its.toArray := tp
    have old_lt := enI_lt st
    have hat := apart_tup st tp'
    obtain ⟨⟨old, he⟩, hit, hne⟩ := st
    have hx : xs[i]? = some xs[i] := List.getElem?_eq_getElem hi
    have hl := rv.length
    have D : Draws X.prog X.w X.A.in1 it [it, a] its.toArray.size _ _ := Draws.tuple (A := X.A.in1) (I.ok.hd hc) it a hat its.toArray
    have hea : e ∉ [it, a] := fun z => by
      rcases two z with z | z
      · exact hne z
      · rw [z] at he
        obtain ⟨o', ho', hc', _⟩ := tp'
        have y := Option.some.inj (he.symm.trans ho')
        rw [← y] at hc'
        exact absurd (Value.type.inj hc') (by decide)
    refine wpAny_pyNext_enum_itemC D he ⟨hit, tp'⟩ (by simp; omega) hne hea fun u h' tk hu ho st' hT hsz hk => ?_
    refine ⟨_, rfl, wpAny_letOwnedTupleGo_enum (s := ⟨h', s.gens, s.drawn, tk + 1, s.os⟩) ho fun h2 he2 sb => ?_⟩
    have hel : e < s.heap.objs.size := old_lt e (by simp)
    have hT2 : h2.get? s.heap.objs.size = some { cls := .type "tuple", data := .seq #[.int i tk, u] } := (sb.2 _ (Nat.ne_of_gt hel)).trans hT
    obtain ⟨u', hu', ru⟩ := rv.get hx
    have eu : u' = u := by
      have y : its[i]? = some u := by simpa using hu
      exact Option.some.inj (hu'.symm.trans y)
    subst eu
    have new : ObjOk X.prog X.w (upd H s.heap.objs.size (.tup [.int (i : Nat), xs[i]])) h2 s.heap.objs.size (.tup [.int (i : Nat), xs[i]]) :=
      ⟨by show 2 ≤ sizeLine; decide, [.int i tk, u'], .cons ⟨_, rfl⟩ (.cons ru .nil), ⟨_, hT2, rfl, _, rfl⟩⟩
    have kk' : ∀ b ob, b ∉ [e, it] → s.heap.get? b = some ob → h2.get? b = some ob := fun b ob hb q =>
      (sb.2 b fun z => hb (by simp [z])).trans (hk b ob (fun z => hb (by simp [z])) (fun z => hb (by simp [z])) q)
    have J := I.turnedNew (t' := tk + 1) kk' hf (Nat.le_refl _) new
    refine ⟨.ref s.heap.objs.size, _, J, rfl, ⟨_, xs[i], rfl, I.hok.fresh (Nat.le_refl _), hx, rfl⟩, ⟨⟨u', ?_⟩, ?_, hne⟩, fun b hb => ?_⟩
    · have e1 : ((i + 1 : Nat) : Int) = (i : Int) + 1 := by omega
      rw [e1]
      exact he2
    · exact st'.1.at fun o q => (sb.2 it (Ne.symm hne)).trans q
    · rw [upd_ne (Nat.ne_of_lt (old_lt b hb))]
      exact (hf b hb).1
  done := by
    intro X hP hw hK hc i pins s σ H E I hf st hg
    subst hP hw hK
    obtain ⟨hq, hi⟩ := hg
    obtain ⟨its, rv, tp, _⟩ := I.tuple hq
    have tp' : s.heap.IsTuple a its.toArray := tp
    have hat := apart_tup st tp'
    obtain ⟨⟨old, he⟩, hit, hne⟩ := st
    have hl := rv.length
    have D : Draws X.prog X.w X.A.in1 it [it, a] its.toArray.size _ _ := Draws.tuple (A := X.A.in1) (I.ok.hd hc) it a hat its.toArray
    have hi' : i = its.toArray.size := by simp; omega
    subst hi'
    obtain ⟨f0, f1, f2, f3, f4, f5⟩ := hf it (by simp)
    exact wpAny_pyNext_enum_endD D he ⟨hit, tp'⟩ fun h' eb => ⟨rfl, I.turned (t' := s.toks) (fun b o hb q => eb b o hb q) f0 f1 f3 f4 f5⟩
  self := fun A i s Q E st h => by
    obtain ⟨⟨_, he⟩, _⟩ := st
    exact wpAny_pyIter_enum he h
def iEnT (K : PySem.W.Frag) (ta : TA) : TI := fun σ H R => ta σ H fun vs H1 => ∃ a xs, vs = [.ref a] ∧ SqT K H1 a xs ∧ R (Ipt K a xs) H1
theorem pi_enT {X : Cx} {e : Expr} {ta : TA} {p pos tpos : Pos} {elts : List Expr} {kk : Nat} (hg : Gl X "enumerate") (hm : X.mg "enumerate" = none) (ha : PA X [e] ta)
    (hs : starEach [e] X.env = [(false, eval e X.env)] := by rfl) : PI X (.Tuple elts kk tpos) (.Call (.Name "enumerate" p) [e] [] pos) (iEnT X.K ta) := by
  refine ⟨fun pins s σ H R I h => ?_⟩
  refine Call_ (ld_blt I hg hm boot_enumerate ?_)
  refine PyProof.Rows.callWith_type1 (thn (ha.run pos pins s σ H _ I h) fun us s1 ⟨vs, H1, I1, r1, q1⟩ => ?_) hs rfl
  obtain ⟨a, xs, rfl, hq, q⟩ := q1
  obtain ⟨u, rfl, ru⟩ : ∃ u, us = [u] ∧ RelV (.ref a) u := by
    cases r1 with
    | cons r rr =>
      cases rr
      exact ⟨_, rfl, r⟩
  obtain rfl : u = Value.ref a := ru
  obtain ⟨its, rv, tp, _⟩ := I1.tuple hq
  refine call_enum (begins_tuple a its.toArray) tp fun h' he hit hk => wpAny_pyIter_enum he ?_
  refine ⟨s1.heap.objs.size + 1, [s1.heap.objs.size + 1, s1.heap.objs.size], _, _, H1, rfl, I1.kept (t' := s1.toks) hk,
    turn_ipt a (s1.heap.objs.size + 1) s1.heap.objs.size xs, ⟨⟨.none, he⟩, ⟨_, hit, rfl, rfl⟩, Nat.succ_ne_self _⟩, fun b hb => ?_, q⟩
  have hle : s1.heap.objs.size ≤ b := by
    rcases two hb with rfl | rfl
    · exact Nat.le_succ _
    · exact Nat.le_refl _
  exact I1.fpOk hle (I1.hok.fresh hle)
end Drw

/-! Where the program's statements stand in the module's body. -/
namespace Drw
open PySem PySem.Spec PyProof.Rows L2
def topS (i : Nat) : Stmt := PySem.Challenge.pw_cursorhouse_k63_complete_statements.main.body.getD i (.Pass ⟨0, 0, 0, 0⟩)
abbrev sNat : Stmt := topS 5
abbrev sClass : Stmt := topS 12
abbrev sInit : Stmt := inClass (topS 12) 0
abbrev sScan : Stmt := topS 13
abbrev sNext : Stmt := topS 14
abbrev sBehind : Stmt := topS 15
abbrev sRun : Stmt := topS 16
abbrev sAt : Stmt := topS 17
abbrev sWord : Stmt := topS 18
abbrev sInteger : Stmt := topS 19
abbrev sText : Stmt := topS 20
abbrev sQuoted : Stmt := topS 21
abbrev sPlace : Stmt := topS 22
abbrev sSign : Stmt := topS 23
abbrev sComp : Stmt := topS 25
abbrev sFresh : Stmt := topS 27
abbrev sFill : Stmt := topS 28
abbrev sTake : Stmt := topS 29
abbrev sOne : Stmt := topS 30
abbrev sSame : Stmt := topS 31
abbrev sEnds : Stmt := topS 32
abbrev sLaw : Stmt := topS 33
end Drw

namespace Drw
open PySem PySem.Spec PyProof.Rows L2
theorem scFresh : FnScope ["_law_script"] ["_law_script"] (defScope sFresh) := ⟨rfl, rfl, rfl, by decide +kernel, rfl, by decide +kernel, by decide +kernel⟩
theorem scFill : FnScope ["_law_state", "_law_cells", "_law_nth", "_law_seed", "_law_k", "_law_prime", "_law_far"] ["_law_state"] (defScope sFill) := ⟨rfl, rfl, rfl, by decide +kernel, rfl, by decide +kernel, by decide +kernel⟩
theorem scTake : FnScope ["_law_state", "_law_many", "_law_turns", "_law_digit"] ["_law_state", "_law_many"] (defScope sTake) := ⟨rfl, rfl, rfl, by decide +kernel, rfl, by decide +kernel, by decide +kernel⟩
theorem scOne : FnScope ["_law_state", "_law_things"] ["_law_state", "_law_things"] (defScope sOne) := ⟨rfl, rfl, rfl, by decide +kernel, rfl, by decide +kernel, by decide +kernel⟩
/-- a list of a state for draws stands at l, its cells at c -/
structure Stt (H : Hp) (l c : Addr) (ns : List Int) : Prop where
  ex : ∃ (nth left : Int) (mix : Bool), H l = some (.lst [.ref c, .int nth, .int left, .bl mix])
  cs : H c = some (.lst (ns.map V.int))
  ne : l ≠ c
  few : ns.length ≤ 63
/-- what was tracked stands, but at l -/
def Kp (l : Addr) (H H' : Hp) : Prop := ∀ b o, b ≠ l → H b = some o → H' b = some o
theorem Kp.refl {l : Addr} {H : Hp} : Kp l H H := fun _ _ _ e => e
theorem Kp.trans {l : Addr} {H H' H'' : Hp} (h : Kp l H H') (k : Kp l H' H'') : Kp l H H'' := fun b o n e => k b o n (h b o n e)
theorem Kp.put {l : Addr} {H H' : Hp} {o : HO} (h : Kp l H H') : Kp l H (upd H' l o) := fun b u n e => by
  rw [upd_ne n]
  exact h b u n e
theorem Kp.new {l p : Addr} {H H' : Hp} {o : HO} (h : Kp l H H') (hp : H' p = none) : Kp l H (upd H' p o) := fun b u n e => by
  have z := h b u n e
  rw [upd_ne (ne_of_none z hp)]
  exact z
def spFill : Sp := fun vs H Q _ => ∃ (l c : Addr) (ns : List Int), vs = [.ref l] ∧ Stt H l c ns ∧ ∀ H', Kp l H H' → Stt H' l c ns → Q .non H'
section
variable {P : Program} {w : World} {K : PySem.W.Frag} {mg : Str → Option Value} {base : Heap}
theorem sq {H : Hp} {p : Addr} {xs : List V} (h : H p = some (.lst xs)) : SqL K H p xs := .inl (.inl h)
theorem sqt {H : Hp} {p : Addr} {xs : List V} (h : H p = some (.tup xs)) : SqT K H p xs := .inl (.inl h)
/-- item i of the state's list, and its store -/
theorem at3 {a b c d : V} (i : Nat) (v : V) (h : [a, b, c, d][i]? = some v) : atI [a, b, c, d] (i : Int) = some v := atI_nat h
def primes : List Int := [2147483647, 2147483629, 2147483587, 2147483579, 2147483563]
theorem prime_at {i : Nat} {x : V} (h : (primes.map V.int)[i]? = some x) : ∃ p : Int, x = .int p ∧ 0 < p ∧ p < 2 ^ 32 := by
  rw [List.getElem?_map] at h
  cases e : primes[i]? with
  | none => rw [e] at h; cases h
  | some p =>
    rw [e] at h
    have hm := List.mem_of_getElem? e
    have all : ∀ q ∈ primes, 0 < q ∧ q < 2 ^ 32 := by decide
    exact ⟨p, (Option.some.inj h).symm, all p hm⟩
theorem ok_fill {f : Addr} {fd : FuncData} (F : Fun K "_law_fill" "_law_fill" sFill f fd) (ml : mg "len" = none) (mi : mg "int" = none) (me : mg "enumerate" = none) :
    FnOk P w K mg base CX0 1 f fd ["_law_state"] spFill := by
  refine F.ok scFill (fun vs H Q E h => ?_) (fun cdv A outer s H vs Q E hr h => ?_)
  · obtain ⟨l, c, ns, rfl, _⟩ := h
    rfl
  · obtain ⟨l, c, ns, rfl, ⟨⟨nth, left, mix, hl⟩, hc, hlc, hn⟩, q⟩ := h
    refine ⟨_, pss_cons (ps_par (i := 1) (j := 2) rfl scFill.nd rfl rfl (by decide) rfl rfl (pa_cons (pe_ix ix_list (pv 0) pe_int (fun _ _ => rfl)) (pa_cons (pe_ix ix_list (pv 0) pe_int (fun _ _ => rfl)) pa_nil)) rfl)
      (pss_cons (ps_set (i := 3) scFill.nd rfl (.inl rfl) (pe_op op_add (pe_op op_mul pe_int (pv 2)) pe_int))
      (pss_cons (ps_if (pt_cmpR op_gt (pe_callB call_len_seq (by rfl) ml PySem.boot_len (pa_cons (pv 1) pa_nil)) pe_int (nomark _))
        (pss_one (ps_set (i := 3) scFill.nd rfl (.inl rfl) (pe_op op_add
          (pe_op op_mul pe_int (pe_op op_fdiv (pv 2) (pe_callB call_len_seq (by rfl) ml PySem.boot_len (pa_cons (pv 1) pa_nil))))
          (pe_ix ix_list (pv 1) (pe_op op_mod (pe_callTy call_int1 (by rfl) mi PySem.Pv.boot_int (pa_cons (pv 2) pa_nil)) (pe_callB call_len_seq (by rfl) ml PySem.boot_len (pa_cons (pv 1) pa_nil))) (fun _ _ => rfl))))) pss_nil)
      (pss_cons (ps_asg (pe_op op_add (pv 2) pe_int) (pg_sub (pv 0) pe_int set_list))
      (pss_cons (ps_asg (pe_or (pe_cmpR op_ge (pv 2) (pe_callB call_len_seq (by rfl) ml PySem.boot_len (pa_cons (pv 1) pa_nil)) (nomark _))
          (pe_one (pe_cmpR op_lt (pv 3) (pe_op op_pow pe_int pe_int) (nomark _)))) (pg_sub (pv 0) pe_int set_list))
      (pss_cons (ps_asg (pe_op op_sub (pv 3) (pe_op op_pow pe_int pe_int)) (pg_sub (pv 0) pe_int set_list))
      (pss_one (ps_if (pt_truth (pe_ix ix_list (pv 0) pe_int (fun _ _ => rfl)) (fun _ => rfl))
        (pss_cons (ps_asg pe_int (pg_sub (pv 0) pe_int set_list))
        (pss_one (ps_for PassesOwn.never rfl (pi_enT (by rfl) me (pa_cons (pe_tup (pa_cons pe_int (pa_cons pe_int (pa_cons pe_int (pa_cons pe_int (pa_cons pe_int pa_nil)))))) pa_nil))
            (pg_tup rfl (pgs_cons (pg_name (i := 4) scFill.nd rfl (.inl rfl)) (pgs_cons (pg_name (i := 5) scFill.nd rfl (.inl rfl)) pgs_nil)))
          (pss_cons (ps_set (i := 6) scFill.nd rfl (.inl rfl) (pe_op op_mod (pe_callTy call_int1 (by rfl) mi PySem.Pv.boot_int (pa_cons
              (pe_op op_mul (pe_op op_add (pe_op op_add (pv 3) (pe_op op_mul (pe_op op_mul pe_int (pv 4)) (pv 4))) (pe_op op_mul pe_int (pv 4))) (pe_op op_add pe_int (pe_op op_mul pe_int (pv 4)))) pa_nil)) (pv 5)))
          (pss_one (ps_asg (pe_op op_add (pe_op op_mul (pe_ix ix_list (pv 0) pe_int (fun _ _ => rfl)) (pv 5))
              (pe_op op_mod (pe_callTy call_int1 (by rfl) mi PySem.Pv.boot_int (pa_cons (pe_op op_pow (pv 6) pe_int) pa_nil)) (pv 5))) (pg_sub (pv 0) pe_int set_list)))))))
        pss_nil))))))), ?_⟩
    have hlen : (ns.map V.int).length = ns.length := List.length_map ..
    -- the two names
    refine ⟨.ref l, rfl, l, _, 0, .ref c, rfl, rfl, sq hl, atI_nat (j := 0) rfl, .ref l, rfl, l, _, 1, .int nth, rfl, rfl, sq hl, atI_nat (j := 1) rfl, _, _, rfl, ?_⟩
    -- the seed
    refine ⟨.int nth, rfl, 31, nth, rfl, rfl, .inl ⟨by decide, by decide⟩, _, 7, rfl, rfl, ?_⟩
    refine ⟨.ref c, rfl, c, _, rfl, .inl (sq hc), _, 0, rfl, rfl, _, rfl, ite2 (fun e => ?ga) (fun e => ?gb)⟩
    case' ga =>
      have h0 : (0 : Int) < ((ns.map V.int).length : Int) := of_decide_eq_true e
      have hpos : 0 < ns.length := by omega
      have hsm : ((ns.map V.int).length : Int) < 1073741824 := by omega
      obtain ⟨j, hj⟩ : ∃ j : Nat, nth % ((ns.map V.int).length : Int) = j := Int.eq_ofNat_of_zero_le (Int.emod_nonneg _ (by omega))
      have hjl : j < ns.length := by
        have z := Int.emod_lt_of_pos nth h0
        omega
      have hat : atI (ns.map V.int) (nth % ((ns.map V.int).length : Int)) = some (.int ns[j]) := by
        rw [hj]
        refine atI_nat ?_
        rw [List.getElem?_map, List.getElem?_eq_getElem hjl]
        rfl
      refine ⟨.int nth, rfl, .ref c, rfl, c, _, rfl, .inl (sq hc), nth, _, rfl, rfl, ⟨h0, hsm⟩, 104729, _, rfl, rfl, .inl ⟨by decide, by decide⟩, ?_⟩
      refine ⟨.ref c, rfl, .int nth, rfl, .inl ⟨nth, rfl, .ref c, rfl, c, _, rfl, .inl (sq hc), nth, _, rfl, rfl, h0, c, _, _, .int ns[j], rfl, rfl, sq hc, hat, _, _, rfl, rfl, ?_⟩⟩
    all_goals
      -- the state: one draw more
      refine ⟨.int nth, rfl, nth, 1, rfl, rfl, .ref l, rfl, l, _, 1, 1, rfl, rfl, hl, rfl, ?_⟩
      have k1 : Kp l H (upd H l (.lst [.ref c, .int (nth + 1), .int left, .bl mix])) := Kp.refl.put
      have c1 := k1 c _ (Ne.symm hlc) hc
      refine ⟨.int nth, rfl, .ref c, rfl, c, _, rfl, .inl (sq c1), nth, _, rfl, rfl, _, rfl, ite2 (fun e2 => ?_) (fun e2 => ?_)⟩
      · refine ⟨.ref l, rfl, l, _, 3, 3, rfl, rfl, upd_same, rfl, ?_⟩
        refine ⟨_, rfl, 10, 18, rfl, rfl, ⟨by decide, by decide, by decide⟩, _, _, rfl, rfl, .ref l, rfl, l, _, 2, 2, rfl, rfl, upd_same, rfl, ?_⟩
        refine ⟨.ref l, rfl, l, _, 3, .bl _, rfl, rfl, sq upd_same, atI_nat (j := 3) rfl, _, rfl, ite2 (fun e3 => ?_) (fun e3 => ?_)⟩
        · refine ⟨.ref l, rfl, l, _, 2, 2, rfl, rfl, upd_same, rfl, ?_⟩
          refine ⟨by show 5 ≤ sizeLine; decide, fun t nt => ⟨t, _, rfl, sqt upd_same, ?_⟩⟩
          have k3 := Kp.new (l := l) (H := H) (o := .tup (primes.map V.int)) (by exact k1.put.put.put) nt
          have tl : t ≠ l := fun z => by
            rw [z, upd_same] at nt
            cases nt
          refine ⟨fun i m σ H' => ∃ (y3 : Int) (y4 y5 y6 : Option V) (left' : Int) (mix' : Bool), σ = [some (.ref l), some (.ref c), some (.int nth), some (.int y3), y4, y5, y6] ∧ i + m = 5 ∧ Kp l H H' ∧
              H' t = some (.tup (primes.map V.int)) ∧ H' l = some (.lst [.ref c, .int (nth + 1), .int left', .bl mix']),
            ⟨5, _, none, none, none, 0, _, rfl, rfl, k3, upd_same, (upd_ne tl.symm).trans upd_same⟩, fun i m σ H' hW => ?_⟩
          obtain ⟨y3, y4, y5, y6, left', mix', rfl, em, kW, tW, lW⟩ := hW
          by_cases hi : i < 5
          · refine .inr ⟨⟨sqt tW, hi⟩, fun σ' H'' => ∃ (y4 y5 y6 : Option V) (left' : Int), σ' = [some (.ref l), some (.ref c), some (.int nth), some (.int y3), y4, y5, y6] ∧ Kp l H H'' ∧
                H'' t = some (.tup (primes.map V.int)) ∧ H'' l = some (.lst [.ref c, .int (nth + 1), .int left', .bl mix']), fun σ' H'' hN => ?_, fun x H'' hy => ?_⟩
            · obtain ⟨z4, z5, z6, z, e, k', t', l'⟩ := hN
              exact ⟨m - 1, by omega, y3, z4, z5, z6, z, mix', e, by omega, k', t', l'⟩
            · obtain ⟨T, x, rfl, nT, hx, rfl⟩ := hy
              obtain ⟨p, rfl, p0, p1⟩ := prime_at hx
              have lT : l ≠ T := ne_of_none lW nT
              have tT : t ≠ T := ne_of_none tW nT
              refine ⟨T, _, rfl, sqt upd_same, rfl, _, _, rfl, _, _, rfl, rfl, ?_⟩
              have b4 : -(2 ^ 64) < (i : Int) ∧ (i : Int) < 2 ^ 64 := ⟨by omega, by omega⟩
              have b5 : -(2 ^ 64) < (48271 + 2 * (i : Int)) ∧ (48271 + 2 * (i : Int)) < 2 ^ 64 := ⟨by omega, by omega⟩
              have b6 : -(2 ^ 64) < p ∧ p < 2 ^ 64 := ⟨by omega, by omega⟩
              refine ⟨.int y3, rfl, .int i, rfl, 10007, i, rfl, rfl, .inl ⟨by decide, by decide⟩, .int i, rfl, _, i, rfl, rfl, .inr b4, y3, _, rfl, rfl, .int i, rfl, 101, i, rfl, rfl, .inl ⟨by decide, by decide⟩, _, _, rfl, rfl,
                .int i, rfl, 2, i, rfl, rfl, .inl ⟨by decide, by decide⟩, 48271, _, rfl, rfl, _, _, rfl, rfl, .inr b5, .inl ⟨_, rfl, .int p, rfl, _, p, rfl, rfl, p0, ?_⟩⟩
              have far0 : ∀ z : Int, (z % p).natAbs < 2 ^ 64 := fun z => by
                have h1 := Int.emod_nonneg z (by omega : p ≠ 0)
                have h2 := Int.emod_lt_of_pos z p0
                omega
              refine ⟨.ref l, rfl, l, _, 2, .int left', rfl, rfl, sq ((upd_ne lT).trans lW), atI_nat (j := 2) rfl, .int p, rfl, left', p, rfl, rfl, .inr b6, _, rfl, _, 5, rfl, rfl, ⟨by decide, by decide, far0 _⟩, .inl ⟨_, rfl, .int p, rfl, _, p, rfl, rfl, p0, _, _, rfl, rfl,
                .ref l, rfl, l, _, 2, 2, rfl, rfl, (upd_ne lT).trans lW, rfl, ?_⟩⟩
              exact ⟨some (.int i), some (.int p), _, _, rfl, (kW.new nT).put, (upd_ne tl).trans ((upd_ne tT).trans tW), upd_same⟩
          · refine .inl ⟨⟨sqt tW, by show 5 = i; omega⟩, ?_⟩
            exact q _ kW ⟨⟨_, _, _, lW⟩, kW c _ (Ne.symm hlc) hc, hlc, hn⟩
        · exact q _ k1.put.put ⟨⟨_, _, _, upd_same⟩, k1.put.put c _ (Ne.symm hlc) hc, hlc, hn⟩
      · refine ⟨_, rfl, 10, 18, rfl, rfl, ⟨by decide, by decide, by decide⟩, _, _, rfl, rfl, .ref l, rfl, l, _, 3, 3, rfl, rfl, upd_same, rfl, ?_⟩
        refine ⟨_, rfl, 10, 18, rfl, rfl, ⟨by decide, by decide, by decide⟩, _, _, rfl, rfl, .ref l, rfl, l, _, 2, 2, rfl, rfl, upd_same, rfl, ?_⟩
        refine ⟨.ref l, rfl, l, _, 3, .bl _, rfl, rfl, sq upd_same, atI_nat (j := 3) rfl, _, rfl, ite2 (fun e3 => ?_) (fun e3 => ?_)⟩
        · refine ⟨.ref l, rfl, l, _, 2, 2, rfl, rfl, upd_same, rfl, ?_⟩
          refine ⟨by show 5 ≤ sizeLine; decide, fun t nt => ⟨t, _, rfl, sqt upd_same, ?_⟩⟩
          have k3 := Kp.new (l := l) (H := H) (o := .tup (primes.map V.int)) (by exact k1.put.put.put) nt
          have tl : t ≠ l := fun z => by
            rw [z, upd_same] at nt
            cases nt
          refine ⟨fun i m σ H' => ∃ (y3 : Int) (y4 y5 y6 : Option V) (left' : Int) (mix' : Bool), σ = [some (.ref l), some (.ref c), some (.int nth), some (.int y3), y4, y5, y6] ∧ i + m = 5 ∧ Kp l H H' ∧
              H' t = some (.tup (primes.map V.int)) ∧ H' l = some (.lst [.ref c, .int (nth + 1), .int left', .bl mix']),
            ⟨5, _, none, none, none, 0, _, rfl, rfl, k3, upd_same, (upd_ne tl.symm).trans upd_same⟩, fun i m σ H' hW => ?_⟩
          obtain ⟨y3, y4, y5, y6, left', mix', rfl, em, kW, tW, lW⟩ := hW
          by_cases hi : i < 5
          · refine .inr ⟨⟨sqt tW, hi⟩, fun σ' H'' => ∃ (y4 y5 y6 : Option V) (left' : Int), σ' = [some (.ref l), some (.ref c), some (.int nth), some (.int y3), y4, y5, y6] ∧ Kp l H H'' ∧
                H'' t = some (.tup (primes.map V.int)) ∧ H'' l = some (.lst [.ref c, .int (nth + 1), .int left', .bl mix']), fun σ' H'' hN => ?_, fun x H'' hy => ?_⟩
            · obtain ⟨z4, z5, z6, z, e, k', t', l'⟩ := hN
              exact ⟨m - 1, by omega, y3, z4, z5, z6, z, mix', e, by omega, k', t', l'⟩
            · obtain ⟨T, x, rfl, nT, hx, rfl⟩ := hy
              obtain ⟨p, rfl, p0, p1⟩ := prime_at hx
              have lT : l ≠ T := ne_of_none lW nT
              have tT : t ≠ T := ne_of_none tW nT
              refine ⟨T, _, rfl, sqt upd_same, rfl, _, _, rfl, _, _, rfl, rfl, ?_⟩
              have b4 : -(2 ^ 64) < (i : Int) ∧ (i : Int) < 2 ^ 64 := ⟨by omega, by omega⟩
              have b5 : -(2 ^ 64) < (48271 + 2 * (i : Int)) ∧ (48271 + 2 * (i : Int)) < 2 ^ 64 := ⟨by omega, by omega⟩
              have b6 : -(2 ^ 64) < p ∧ p < 2 ^ 64 := ⟨by omega, by omega⟩
              refine ⟨.int y3, rfl, .int i, rfl, 10007, i, rfl, rfl, .inl ⟨by decide, by decide⟩, .int i, rfl, _, i, rfl, rfl, .inr b4, y3, _, rfl, rfl, .int i, rfl, 101, i, rfl, rfl, .inl ⟨by decide, by decide⟩, _, _, rfl, rfl,
                .int i, rfl, 2, i, rfl, rfl, .inl ⟨by decide, by decide⟩, 48271, _, rfl, rfl, _, _, rfl, rfl, .inr b5, .inl ⟨_, rfl, .int p, rfl, _, p, rfl, rfl, p0, ?_⟩⟩
              have far0 : ∀ z : Int, (z % p).natAbs < 2 ^ 64 := fun z => by
                have h1 := Int.emod_nonneg z (by omega : p ≠ 0)
                have h2 := Int.emod_lt_of_pos z p0
                omega
              refine ⟨.ref l, rfl, l, _, 2, .int left', rfl, rfl, sq ((upd_ne lT).trans lW), atI_nat (j := 2) rfl, .int p, rfl, left', p, rfl, rfl, .inr b6, _, rfl, _, 5, rfl, rfl, ⟨by decide, by decide, far0 _⟩, .inl ⟨_, rfl, .int p, rfl, _, p, rfl, rfl, p0, _, _, rfl, rfl,
                .ref l, rfl, l, _, 2, 2, rfl, rfl, (upd_ne lT).trans lW, rfl, ?_⟩⟩
              exact ⟨some (.int i), some (.int p), _, _, rfl, (kW.new nT).put, (upd_ne tl).trans ((upd_ne tT).trans tW), upd_same⟩
          · refine .inl ⟨⟨sqt tW, by show 5 = i; omega⟩, ?_⟩
            exact q _ kW ⟨⟨_, _, _, lW⟩, kW c _ (Ne.symm hlc) hc, hlc, hn⟩
        · exact q _ k1.put.put ⟨⟨_, _, _, upd_same⟩, k1.put.put c _ (Ne.symm hlc) hc, hlc, hn⟩
end
end Drw

namespace Drw
open PySem PySem.Spec PyProof.Rows L2
def spTake : Sp := fun vs H Q _ => ∃ (l c : Addr) (ns : List Int) (many : Int), vs = [.ref l, .int many] ∧ 0 < many ∧ many < 536870912 ∧ Stt H l c ns ∧
  ∀ H' d, Kp l H H' → Stt H' l c ns → 0 ≤ d → d < many → Q (.int d) H'
section
variable {P : Program} {w : World} {K : PySem.W.Frag} {mg : Str → Option Value} {base : Heap}
theorem ok_take {f fF : Addr} {fd fdF : FuncData} (F : Fun K "_law_take" "_law_take" sTake f fd) (FF : Fun K "_law_fill" "_law_fill" sFill fF fdF) (bF : Binds K fdF ["_law_state"] []) (gF : mg "_law_fill" = some (.ref fF))
    (ml : mg "len" = none) (mi : mg "int" = none) (me : mg "enumerate" = none) : FnOk P w K mg base CX0 2 f fd ["_law_state", "_law_many"] spTake := by
  have GF : FnOk P w K mg base CX0 1 fF fdF ["_law_state"] spFill := ok_fill FF ml mi me
  refine F.ok scTake (fun vs H Q E h => ?_) (fun cdv A outer s H vs Q E hr h => ?_)
  · obtain ⟨l, c, ns, many, rfl, _⟩ := h
    rfl
  · obtain ⟨l, c, ns, many, rfl, m0, m1, st, q⟩ := h
    have mb : -(2 ^ 64) < many ∧ many < 2 ^ 64 := ⟨by omega, by omega⟩
    have mb2 : -(2 ^ 64) < many * 4096 ∧ many * 4096 < 2 ^ 64 := ⟨by omega, by omega⟩
    refine ⟨_, pss_cons (ps_set (i := 2) scTake.nd rfl (.inl rfl) pe_int)
      (pss_cons (ps_while PassesOwn.never (PW.pt (pw_and (pt_cmpR op_lt (pv 2) pe_int (nomark _)) (pw_and1 (PW.pt (pw_or (pt_cmpR op_eq (pe_ix ix_list (pv 0) pe_int (fun _ _ => rfl)) pe_int (nomark _))
          (pw_or1 (PW.pt (pw_and (pt_truth (pe_ix ix_list (pv 0) pe_int (fun _ _ => rfl)) (fun _ => rfl)) (pw_and1 (pt_cmpR op_lt (pe_ix ix_list (pv 0) pe_int (fun _ _ => rfl)) (pe_op op_mul (pv 1) pe_int) (nomark _)))))))))))
        (pss_cons (ps_expr (pe_call GF hr (by rfl) gF FF.kp bF .nil pass0 (pa_cons (pv 0) pa_nil)))
        (pss_cons (ps_aug (i := 2) scTake.nd rfl (.inl rfl) pe_int ip_add)
        (pss_one (ps_if (PW.pt (pw_and (pt_truth (pe_ix ix_list (pv 0) pe_int (fun _ _ => rfl)) (fun _ => rfl)) (pw_and1 (pt_cmpR op_lt (pe_ix ix_list (pv 0) pe_int (fun _ _ => rfl)) (pe_op op_mul (pv 1) pe_int) (nomark _)))))
          (pss_one (ps_asg (pe_op op_add (pe_ix ix_list (pv 0) pe_int (fun _ _ => rfl)) (pe_op op_mul (pe_op op_mul (pv 1) pe_int) (pe_op op_add pe_int (pe_op op_mod (pe_callTy call_int1 (by rfl) mi PySem.Pv.boot_int (pa_cons (pe_ix ix_list (pv 0) pe_int (fun _ _ => rfl)) pa_nil)) pe_int)))) (pg_sub (pv 0) pe_int set_list)))
          pss_nil)))))
      (pss_cons (ps_set (i := 3) scTake.nd rfl (.inl rfl) (pe_op op_mod (pe_callTy call_int1 (by rfl) mi PySem.Pv.boot_int (pa_cons (pe_ix ix_list (pv 0) pe_int (fun _ _ => rfl)) pa_nil)) (pv 1)))
      (pss_cons (ps_asg (pe_op op_fdiv (pe_ix ix_list (pv 0) pe_int (fun _ _ => rfl)) (pv 1)) (pg_sub (pv 0) pe_int set_list))
      (pss_one (ps_ret (pv 3)))))), ?_⟩
    refine ⟨fun m σ H' => ∃ tn : Nat, σ = [some (.ref l), some (.int many), some (.int tn), none] ∧ tn + m = 64 ∧ Kp l H H' ∧ Stt H' l c ns, ⟨64, 0, rfl, rfl, Kp.refl, st⟩, fun m σ H1 hW => ?_⟩
    obtain ⟨tn, rfl, em, k1, ⟨⟨nth, left, mix, hl⟩, hc, hlc, hn⟩⟩ := hW
    refine ⟨.int tn, rfl, _, _, rfl, rfl, _, rfl, ite2 (fun e1 => ?g1) (fun e1 => iteF ?exit1)⟩
    case' g1 => refine ⟨.ref l, rfl, l, _, 2, .int left, rfl, rfl, sq hl, atI_nat (j := 2) rfl, rfl, _, rfl, ite2 (fun e2 => iteT ?body1) (fun e2 => ?g2)⟩
    case' g2 => refine ⟨.ref l, rfl, l, _, 3, .bl mix, rfl, rfl, sq hl, atI_nat (j := 3) rfl, mix, rfl, ite2 (fun e3 => ?g3) (fun e3 => iteF ?exit2)⟩
    case' g3 => refine ⟨.ref l, rfl, l, _, 2, .int left, rfl, rfl, sq hl, atI_nat (j := 2) rfl, .int many, rfl, many, 4096, rfl, rfl, .inl mb, left, _, rfl, rfl, _, rfl, ite2 (fun e4 => ?body2) (fun e4 => ?exit3)⟩
    case exit1 | exit2 | exit3 =>
      refine ⟨.ref l, rfl, l, _, 2, .int left, rfl, rfl, sq hl, atI_nat (j := 2) rfl, .inl ⟨left, rfl, .int many, rfl, left, many, rfl, rfl, m0, ?_⟩⟩
      refine ⟨.ref l, rfl, l, _, 2, .int left, rfl, rfl, sq hl, atI_nat (j := 2) rfl, .int many, rfl, left, many, rfl, rfl, ⟨m0, by omega⟩, .ref l, rfl, l, _, 2, 2, rfl, rfl, hl, rfl, ?_⟩
      refine ⟨_, rfl, q _ _ k1.put ⟨⟨_, _, _, upd_same⟩, (upd_ne (Ne.symm hlc)).trans hc, hlc, hn⟩ (Int.emod_nonneg _ (by omega)) (Int.emod_lt_of_pos _ m0)⟩
    case body1 | body2 =>
      have tl : tn < 64 := by
        have z : (tn : Int) < 64 := of_decide_eq_true e1
        omega
      refine ⟨fun σ H' => σ = [some (.ref l), some (.int many), some (.int (tn + 1 : Nat)), none] ∧ Kp l H H' ∧ Stt H' l c ns, fun σ' H' hN => ⟨m - 1, by omega, tn + 1, hN.1, by omega, hN.2⟩, ?_⟩
      refine ⟨.ref l, rfl, l, c, ns, rfl, ⟨⟨_, _, _, hl⟩, hc, hlc, hn⟩, fun H2 k2 st2 => ?_⟩
      have k3 := k1.trans k2
      refine ⟨.int tn, rfl, tn, 1, rfl, rfl, ?_⟩
      obtain ⟨⟨nth2, left2, mix2, hl2⟩, hc2, _, _⟩ := st2
      refine ⟨.ref l, rfl, l, _, 3, .bl mix2, rfl, rfl, sq hl2, atI_nat (j := 3) rfl, mix2, rfl, ite2 (fun e5 => ?_) (fun e5 => ?_)⟩
      · refine ⟨.ref l, rfl, l, _, 2, .int left2, rfl, rfl, sq hl2, atI_nat (j := 2) rfl, .int many, rfl, many, 4096, rfl, rfl, .inl mb, left2, _, rfl, rfl, _, rfl, ite2 (fun e6 => ?_) (fun e6 => ?_)⟩
        · refine ⟨.ref l, rfl, l, _, 2, .int left2, rfl, rfl, sq hl2, atI_nat (j := 2) rfl, .int many, rfl, many, 4096, rfl, rfl, .inl mb, .ref l, rfl, l, _, 2, .int left2, rfl, rfl, sq hl2, atI_nat (j := 2) rfl,
            .inl ⟨left2, rfl, left2, 4093, rfl, rfl, (by show (0 : Int) < 4093; decide), 1, _, rfl, rfl, _, _, rfl, rfl, .inl mb2, left2, _, rfl, rfl, .ref l, rfl, l, _, 2, 2, rfl, rfl, hl2, rfl, ?_⟩⟩
          exact ⟨rfl, k3.put, ⟨⟨_, _, _, upd_same⟩, (upd_ne (Ne.symm hlc)).trans hc2, hlc, hn⟩⟩
        · exact ⟨rfl, k3, ⟨⟨_, _, _, hl2⟩, hc2, hlc, hn⟩⟩
      · exact iteF ⟨rfl, k3, ⟨⟨_, _, _, hl2⟩, hc2, hlc, hn⟩⟩
end
end Drw

namespace Drw
open PySem PySem.Spec PyProof.Rows L2
def spOne : Sp := fun vs H Q _ => ∃ (l c : Addr) (ns : List Int) (t : Addr) (xs : List V), vs = [.ref l, .ref t] ∧ H t = some (.lst xs) ∧ t ≠ l ∧ 0 < xs.length ∧ xs.length < 1000 ∧ Stt H l c ns ∧
  ∀ H' (d : Nat) x, Kp l H H' → Stt H' l c ns → xs[d]? = some x → Q x H'
/-- what was tracked stands -/
def Al (H H' : Hp) : Prop := ∀ b o, H b = some o → H' b = some o
def spFresh (K : PySem.W.Frag) : Sp := fun vs H Q _ => ∃ (a : Addr) (ns : List Int), vs = [.ref a] ∧ SqL K H a (ns.map V.int) ∧ ns.length ≤ 63 ∧
  ∀ H' l c ns', Al H H' → Stt H' l c ns' → H l = none → Q (.ref l) H'
section
variable {P : Program} {w : World} {K : PySem.W.Frag} {mg : Str → Option Value} {base : Heap}
theorem ok_one {f fT : Addr} {fd fdT : FuncData} (F : Fun K "_law_one" "_law_one" sOne f fd) (FT : Fun K "_law_take" "_law_take" sTake fT fdT) (bT : Binds K fdT ["_law_state", "_law_many"] []) (gT : mg "_law_take" = some (.ref fT))
    (ml : mg "len" = none) (GT : FnOk P w K mg base CX0 2 fT fdT ["_law_state", "_law_many"] spTake) : FnOk P w K mg base CX0 3 f fd ["_law_state", "_law_things"] spOne := by
  refine F.ok scOne (fun vs H Q E h => ?_) (fun cdv A outer s H vs Q E hr h => ?_)
  · obtain ⟨l, c, ns, t, xs, rfl, _⟩ := h
    rfl
  · obtain ⟨l, c, ns, t, xs, rfl, ht, tl, x0, x1, st, q⟩ := h
    refine ⟨_, pss_one (ps_ret (pe_ix ix_list (pv 1) (pe_call GT hr (by rfl) gT FT.kp bT .nil pass0 (pa_cons (pv 0) (pa_cons (pe_callB call_len_seq (by rfl) ml PySem.boot_len (pa_cons (pv 1) pa_nil)) pa_nil))) (fun _ _ => rfl))), ?_⟩
    refine ⟨.ref t, rfl, .ref l, rfl, .ref t, rfl, t, xs, rfl, .inl (sq ht), l, c, ns, _, rfl, by omega, by omega, st, fun H' d k st' d0 d1 => ?_⟩
    obtain ⟨j, rfl⟩ := Int.eq_ofNat_of_zero_le d0
    have hj : j < xs.length := by omega
    refine ⟨t, xs, j, xs[j], rfl, rfl, sq (k t _ tl ht), atI_nat (List.getElem?_eq_getElem hj), ?_⟩
    exact q _ j _ k st' (List.getElem?_eq_getElem hj)
theorem cut_ints (ns : List Int) (lo hi : Option Int) : ∃ ns' : List Int, cutV (ns.map V.int) lo hi = ns'.map V.int ∧ ns'.length ≤ ns.length := by
  refine ⟨(ns.drop (HT.sIx (ns.map V.int).length 0 lo)).take (HT.sIx (ns.map V.int).length (ns.map V.int).length hi - HT.sIx (ns.map V.int).length 0 lo), ?_, ?_⟩
  · unfold cutV
    rw [List.map_take, List.map_drop]
  · rw [List.length_take, List.length_drop]
    omega
theorem ok_fresh {f : Addr} {fd : FuncData} (F : Fun K "_law_fresh" "_law_fresh" sFresh f fd) : FnOk P w K mg base CX0 1 f fd ["_law_script"] (spFresh K) := by
  refine F.ok scFresh (fun vs H Q E h => ?_) (fun cdv A outer s H vs Q E hr h => ?_)
  · obtain ⟨a, ns, rfl, _⟩ := h
    rfl
  · obtain ⟨a, ns, rfl, hS, hn, q⟩ := h
    refine ⟨_, pss_one (ps_ret (pe_lst (pa_cons (pe_slice sl_list (pv 0) po_none (po_some pe_int)) (pa_cons pe_int (pa_cons pe_int (pa_cons pe_bl pa_nil)))))), ?_⟩
    obtain ⟨ns', e, hn'⟩ := cut_ints ns none (some 63)
    refine ⟨.ref a, rfl, 63, rfl, a, _, rfl, hS, fun c nc => ?_⟩
    refine ⟨by show 4 ≤ sizeLine; decide, fun l nl => ?_⟩
    have cl : c ≠ l := fun z => by
      rw [z, upd_same] at nl
      cases nl
    refine q _ l c ns' (fun b o z => ?_) ⟨⟨_, _, _, upd_same⟩, ?_, cl.symm, by omega⟩ ?_
    · have z1 := upd_ne (H := H) (o := .lst (cutV (ns.map V.int) none (some 63))) (ne_of_none z nc)
      rw [upd_ne (ne_of_none (z1.trans z) nl), z1]
      exact z
    · rw [upd_ne cl, upd_same, e]
    · rw [upd_ne cl.symm] at nl
      exact nl
end
end Drw

/-! A look at a text sign by sign: what both sides do, and that it has one end. -/
namespace Ew
open PySem PySem.StrLaws TL L2 PySem.Spec PyProof.Rows
/-- where the first y from i on stands -/
theorem find3_at {x y : Str} (hy : tl y ≠ []) {i : Nat} (hi : i ≤ x.length) :
    Txt.find3 x y i = -1 ∨ ∃ k : Nat, Txt.find3 x y i = (k : Int) ∧ i ≤ k ∧ pre (tl y) ((tl x).drop k) = true ∧ k + y.length ≤ x.length := by
  have hf : fromIndex x.length (i : Int) = i := by
    unfold fromIndex
    omega
  unfold Txt.find3
  rw [hf]
  rcases occ_head_from x y i 1 (Nat.le_refl _) with ⟨h, _⟩ | ⟨k, r, h, hk, ha, _⟩
  · rw [h]
    exact .inl rfl
  · rw [h]
    exact .inr ⟨k, rfl, hk, (at_iff hy k).mp ha, ha.1⟩
/-- the place behind the first y from i on, or the end -/
def fe (x y : Str) (i : Nat) : Nat := if Txt.find3 x y (i : Int) < 0 then x.length else (Txt.find3 x y (i : Int)).toNat + y.length
theorem fe_gt {x y : Str} (hy : tl y ≠ []) {i : Nat} (hi : i ≤ x.length) (hl : 0 < y.length) : (fe x y i = x.length ∨ i < fe x y i) ∧ fe x y i ≤ x.length := by
  unfold fe
  rcases find3_at hy hi with h | ⟨k, h, hk, _, hb⟩
  · rw [h, if_pos (by decide)]
    exact ⟨.inl rfl, Nat.le_refl _⟩
  · rw [h, if_neg (by omega)]
    refine ⟨.inr ?_, ?_⟩ <;> omega
def nxt (x : Str) (a : Nat) (l : Str) : Nat × Str :=
  if pre [45, 45] ((tl x).drop a) = true then (fe x ⟨#[10]⟩ a, l)
  else if pre [47, 42] ((tl x).drop a) = true then (fe x ⟨#[42, 47]⟩ (a + 2), l)
  else if (tl x)[a]? = some 39 then (fe x ⟨#[39]⟩ (a + 1), ⟨#[39]⟩)
  else if (tl x)[a]? = some 34 then (fe x ⟨#[34]⟩ (a + 1), ⟨#[34]⟩)
  else if (tl x)[a]? = some 32 ∨ (tl x)[a]? = some 10 then (a + 1, l)
  else match (tl x)[a]? with
    | some c => (a + 1, ⟨#[c]⟩)
    | none => (a + 1, l)
/-- the look goes from a place (and what was last) to another -/
inductive Goes (x : Str) : Nat → Str → Nat → Str → Prop
  | here (a l) : Goes x a l a l
  | step {a l b m} : a < x.length → Goes x (nxt x a l).1 (nxt x a l).2 b m → Goes x a l b m
theorem Goes.trans {x : Str} {a b c : Nat} {l m n : Str} (h : Goes x a l b m) (k : Goes x b m c n) : Goes x a l c n := by
  induction h with
  | here => exact k
  | step h _ ih => exact .step h (ih k)
theorem Goes.one {x : Str} {a : Nat} {l : Str} (h : a < x.length) : Goes x a l (nxt x a l).1 (nxt x a l).2 := .step h (.here _ _)
theorem Goes.same {x : Str} {a b c : Nat} {l m n : Str} (h : Goes x a l b m) (k : Goes x a l c n) (hb : x.length ≤ b) (hc : x.length ≤ c) : m = n := by
  induction h generalizing c n with
  | here a l =>
    cases k with
    | here => rfl
    | step h _ => omega
  | step h _ ih =>
    cases k with
    | here => omega
    | step _ k => exact ih k hb hc
theorem len_lt {x : Str} {a c : Nat} (h : (tl x)[a]? = some c) : a < x.length := by
  rw [len_tl]
  exact (List.getElem?_eq_some_iff.mp h).1
theorem drop_at {x : Str} {a c : Nat} (h : (tl x)[a]? = some c) : (tl x).drop a = c :: (tl x).drop (a + 1) := by
  obtain ⟨h1, h2⟩ := List.getElem?_eq_some_iff.mp h
  rw [List.drop_eq_getElem_cons h1, h2]
/-- a sign that is nothing but itself -/
def Own (c : Nat) : Prop := c ≠ 39 ∧ c ≠ 34 ∧ c ≠ 32 ∧ c ≠ 10
theorem nxt_own {x : Str} {a c : Nat} {l : Str} (h : (tl x)[a]? = some c) (o : Own c) (h1 : pre [45, 45] ((tl x).drop a) = false) (h2 : pre [47, 42] ((tl x).drop a) = false) : nxt x a l = (a + 1, ⟨#[c]⟩) := by
  obtain ⟨o1, o2, o3, o4⟩ := o
  unfold nxt
  rw [h1, h2, h, if_neg Bool.false_ne_true, if_neg Bool.false_ne_true, if_neg (by simp [o1]), if_neg (by simp [o2]), if_neg (by simp [o3, o4])]
theorem own_step {x : Str} {a c : Nat} {l : Str} (h : (tl x)[a]? = some c) (o : Own c) (h1 : pre [45, 45] ((tl x).drop a) = false) (h2 : pre [47, 42] ((tl x).drop a) = false) : Goes x a l (a + 1) ⟨#[c]⟩ := by
  have z := Goes.one (x := x) (a := a) (l := l) (len_lt h)
  rw [nxt_own h o h1 h2] at z
  exact z
/-- a sign of words, and more -/
def Dull (c : Nat) : Prop := Own c ∧ c ≠ 45 ∧ c ≠ 47 ∧ c ≠ 59
theorem pre_not {x : Str} {a c s : Nat} {S : List Nat} (h : (tl x)[a]? = some c) (hc : c ≠ s) : pre (s :: S) ((tl x).drop a) = false := by
  rw [drop_at h]
  exact pre_of_head S _ hc
theorem dull_step {x : Str} {a c : Nat} {l : Str} (h : (tl x)[a]? = some c) (d : Dull c) : Goes x a l (a + 1) ⟨#[c]⟩ :=
  own_step h d.1 (pre_not h d.2.1) (pre_not h d.2.2.1)
def semi : Str := ⟨#[59]⟩
theorem one_semi {c : Nat} (h : c ≠ 59) : (⟨#[c]⟩ : Str) ≠ semi := fun z => h (by injection z with z; simpa using z)
/-- dull signs from a to b -/
theorem dull_run {x : Str} : ∀ (n a : Nat) (l : Str), (∀ k, a ≤ k → k < a + n → ∃ c, (tl x)[k]? = some c ∧ Dull c) → ∃ m, Goes x a l (a + n) m ∧ (n = 0 → m = l) ∧ (0 < n → m ≠ semi)
  | 0, a, l, _ => ⟨l, .here _ _, fun _ => rfl, fun h => absurd h (Nat.lt_irrefl _)⟩
  | n + 1, a, l, h => by
    obtain ⟨c, hc, d⟩ := h a (Nat.le_refl _) (by omega)
    obtain ⟨m, g, q0, q⟩ := dull_run n (a + 1) ⟨#[c]⟩ (fun k h1 h2 => h k (by omega) (by omega))
    refine ⟨m, (dull_step hc d).trans (by rw [show a + (n + 1) = a + 1 + n by omega]; exact g), fun z => by omega, fun _ => ?_⟩
    rcases Nat.eq_zero_or_pos n with h0 | hn
    · rw [q0 h0]
      exact one_semi d.2.2.2
    · exact q hn
theorem tl_cut (x : Str) (a b : Nat) : tl (L2.cutS x (some (a : Int)) (some (b : Int))) = ((tl x).drop a).take (b - a) := by
  show ((x.cps.toList.drop (HT.sIx x.length 0 (some (a : Int)))).take (HT.sIx x.length x.length (some (b : Int)) - HT.sIx x.length 0 (some (a : Int)))) = _
  rw [HT.sIx_nat, HT.sIx_nat]
  have hl : x.cps.toList.length = x.length := by simp [Str.length]
  have hl2 : (tl x).length = x.length := hl
  rcases Nat.le_total a x.length with h | h
  · rw [Nat.min_eq_left h]
    rcases Nat.le_total b x.length with k | k
    · rw [Nat.min_eq_left k]
    · rw [Nat.min_eq_right k, List.take_of_length_le, List.take_of_length_le]
      all_goals
        rw [List.length_drop, hl]
        omega
  · rw [Nat.min_eq_right h, List.drop_eq_nil_of_le (by omega), List.drop_eq_nil_of_le (by omega)]
    simp
/-- what a slice of two signs tells -/
theorem cut2 (x : Str) (a : Nat) (c d : Nat) : (L2.cutS x (some (a : Int)) (some ((a : Int) + 2)) = ⟨#[c, d]⟩) ↔ pre [c, d] ((tl x).drop a) = true := by
  have e := tl_cut x a (a + 2)
  rw [show a + 2 - a = 2 by omega] at e
  have e2 : ((a : Int) + 2) = ((a + 2 : Nat) : Int) := by omega
  rw [e2]
  constructor
  · intro h
    rw [h] at e
    show (((tl x).drop a).take 2 == [c, d]) = true
    rw [← e]
    exact beq_self_eq_true _
  · intro h
    have h2 : ((tl x).drop a).take 2 = [c, d] := eq_of_beq h
    exact ext_tl (e.trans h2)
theorem sw3 {x y : Str} (hy : tl y ≠ []) {a : Nat} (ha : a ≤ x.length) : Txt.startswith3 x y (a : Int) = pre (tl y) ((tl x).drop a) := by
  have hf : fromIndex x.length (a : Int) = a := by
    unfold fromIndex
    omega
  unfold Txt.startswith3
  rw [hf]
  cases hp : pre (tl y) ((tl x).drop a) with
  | true =>
    have z := (at_iff hy a).mpr hp
    rw [z.2, decide_eq_true z.1]
    rfl
  | false =>
    cases hs : (decide (a + y.length ≤ x.length) && Builtin.Str.subAt x y a) with
    | false => rfl
    | true =>
      rw [Bool.and_eq_true, decide_eq_true_eq] at hs
      rw [(at_iff hy a).mp hs] at hp
      cases hp
end Ew

namespace Ew
open PySem PySem.Spec PyProof.Rows L2 Drw TL
theorem _root_.Drw.Al.refl {H : Hp} : Al H H := fun _ _ e => e
theorem _root_.Drw.Al.new {H H' : Hp} {p : Addr} {o : HO} (k : Al H H') (h : H' p = none) : Al H (upd H' p o) := fun b u e => by
  have z := k b u e
  rw [upd_ne (ne_of_none z h)]
  exact z
theorem _root_.Drw.Al.trans {H H' H'' : Hp} (k : Al H H') (k' : Al H' H'') : Al H H'' := fun b o e => k' b o (k b o e)
theorem _root_.Drw.Al.gone {H H' : Hp} {p : Addr} (k : Al H H') (h : H' p = none) : H p = none := by
  cases e : H p with
  | none => rfl
  | some o =>
    rw [k p o e] at h
    cases h
theorem sDash : Str.ofString "--" = ⟨#[45, 45]⟩ := by decide +kernel
theorem sOpen : Str.ofString "/*" = ⟨#[47, 42]⟩ := by decide +kernel
theorem sClose : Str.ofString "*/" = ⟨#[42, 47]⟩ := by decide +kernel
theorem sNl : Str.ofString "\n" = ⟨#[10]⟩ := by decide +kernel
theorem sSemi : Str.ofString ";" = semi := by decide +kernel
theorem sQuotes : tl (Str.ofString "'\"") = [39, 34] := by decide +kernel
theorem sBlanks : tl (Str.ofString " \n") = [32, 10] := by decide +kernel
theorem in_quotes {c : Nat} (h : c ∈ tl (Str.ofString "'\"")) : c = 39 ∨ c = 34 := by
  rw [sQuotes] at h
  simpa using h
theorem not_quotes {c : Nat} (h : ¬ c ∈ tl (Str.ofString "'\"")) : c ≠ 39 ∧ c ≠ 34 := by
  rw [sQuotes] at h
  simpa using h
theorem in_blanks {c : Nat} (h : c ∈ tl (Str.ofString " \n")) : c = 32 ∨ c = 10 := by
  rw [sBlanks] at h
  simpa using h
theorem not_blanks {c : Nat} (h : ¬ c ∈ tl (Str.ofString " \n")) : c ≠ 32 ∧ c ≠ 10 := by
  rw [sBlanks] at h
  simpa using h
theorem nxt_up {x : Str} {a c : Nat} {l : Str} (h : (tl x)[a]? = some c) : a < (nxt x a l).1 ∧ (nxt x a l).1 ≤ x.length := by
  have ha := len_lt h
  have one : a < a + 1 ∧ a + 1 ≤ x.length := by omega
  have far : ∀ {y : Str} {i : Nat}, tl y ≠ [] → 0 < y.length → i ≤ x.length → a ≤ i → a < fe x y i ∧ fe x y i ≤ x.length := fun hy hl hi hk => by
    have z := fe_gt hy hi hl
    omega
  unfold nxt
  split
  · exact far (by decide) (by decide) (by omega) (by omega)
  · split
    · rename_i h2
      have e2 : ((tl x).drop a).take 2 = [47, 42] := eq_of_beq h2
      have e3 := congrArg List.length e2
      rw [List.length_take, List.length_drop, ← len_tl] at e3
      have e4 : ([47, 42] : List Nat).length = 2 := rfl
      exact far (by decide) (by decide) (by omega) (by omega)
    · split
      · exact far (by decide) (by decide) (by omega) (by omega)
      · split
        · exact far (by decide) (by decide) (by omega) (by omega)
        · split
          · exact one
          · rw [h]
            exact one
theorem dec2 {x s : Str} {a c d : Nat} (hs : s = ⟨#[c, d]⟩) : decide (V.str (cutS x (some (a : Int)) (some ((a : Int) + 2))) = V.str s) = pre [c, d] ((tl x).drop a) := by
  subst hs
  cases h : pre [c, d] ((tl x).drop a) with
  | true => exact decide_eq_true (by rw [(cut2 x a c d).mpr h])
  | false =>
    refine decide_eq_false fun z => ?_
    injection z with z1
    rw [(cut2 x a c d).mp z1] at h
    cases h
theorem dec1 {l : Str} : decide (V.str l = V.str (Str.ofString ";")) = decide (l = semi) := by
  have e : (V.str l = V.str (Str.ofString ";")) ↔ (l = semi) := by
    constructor
    · exact fun z => (V.str.inj z).trans sSemi
    · intro z
      rw [z, sSemi]
  exact decide_eq_decide.mpr e
theorem fe_no {x y : Str} {i : Nat} (h : Txt.find3 x y (i : Int) < 0) : fe x y i = x.length := if_pos h
theorem fe_yes {x y : Str} {i : Nat} (h : ¬ Txt.find3 x y (i : Int) < 0) : ((fe x y i : Nat) : Int) = Txt.find3 x y (i : Int) + (y.length : Int) := by
  unfold fe
  rw [if_neg h]
  omega
theorem scEnds : FnScope ["_law_text", "_law_at", "_law_last", "_law_sign", "_law_end"] ["_law_text"] (defScope sEnds) := ⟨rfl, rfl, rfl, by decide +kernel, rfl, by decide +kernel, by decide +kernel⟩
/-- the texts spoken of have an end that is told -/
def spEnds : Sp := fun vs H Q _ => ∃ x : Str, vs = [.str x] ∧ x.length ≤ 640 ∧ ∀ H' n m, Al H H' → Goes x 0 "" n m → x.length ≤ n → Q (.bl (decide (m = semi))) H'
section
variable {P : Program} {w : World} {K : PySem.W.Frag} {mg : Str → Option Value} {base : Heap}
theorem ok_ends {f : Addr} {fd : FuncData} (F : Fun K "_law_ends_well" "_law_ends_well" sEnds f fd) (ml : mg "len" = none) : FnOk P w K mg base CX0 1 f fd ["_law_text"] spEnds := by
  refine F.ok scEnds (fun vs H Q E h => ?_) (fun cdv A outer s H vs Q E hr h => ?_)
  · obtain ⟨x, rfl, _⟩ := h
    rfl
  · obtain ⟨x, rfl, hx, q⟩ := h
    have hz : x.length ≤ sizeLine := Nat.le_trans hx (by decide)
    refine ⟨_, pss_cons (ps_asg (pe_tup (pa_cons pe_int (pa_cons pe_str pa_nil))) (pg_tup rfl (pgs_cons (pg_name (i := 1) scEnds.nd rfl (.inl rfl)) (pgs_cons (pg_name (i := 2) scEnds.nd rfl (.inl rfl)) pgs_nil))))
      (pss_cons (ps_while PassesOwn.never (pt_cmpR op_lt (pv 1) (pe_callB call_len_str (by rfl) ml PySem.boot_len (pa_cons (pv 0) pa_nil)) (nomark _))
        (pss_cons (ps_set (i := 3) scEnds.nd rfl (.inl rfl) (pe_ix ix_str (pv 0) (pv 1) (fun _ _ => rfl)))
        (pss_one (ps_if (pt_cmpR op_eq (pe_slice sl_str (pv 0) (po_some (pv 1)) (po_some (pe_op op_add (pv 1) pe_int))) pe_str (nomark _))
          (pss_cons (ps_set (i := 4) scEnds.nd rfl (.inl rfl) (pe_bm PySem.F.plainAttrs_str PySem.F.slot_str_find PySem.F.type_str_find mt_find3 (pv 0) (pa_cons pe_str (pa_cons (pv 1) pa_nil))))
          (pss_one (ps_set (i := 1) scEnds.nd rfl (.inl rfl) (pe_ifExp (pt_cmpR op_lt (pv 4) pe_int (nomark _)) (pe_callB call_len_str (by rfl) ml PySem.boot_len (pa_cons (pv 0) pa_nil)) (pe_op op_add (pv 4) pe_int)))))
          (pss_one (ps_if (pt_cmpR op_eq (pe_slice sl_str (pv 0) (po_some (pv 1)) (po_some (pe_op op_add (pv 1) pe_int))) pe_str (nomark _))
            (pss_cons (ps_set (i := 4) scEnds.nd rfl (.inl rfl) (pe_bm PySem.F.plainAttrs_str PySem.F.slot_str_find PySem.F.type_str_find mt_find3 (pv 0) (pa_cons pe_str (pa_cons (pe_op op_add (pv 1) pe_int) pa_nil))))
            (pss_one (ps_set (i := 1) scEnds.nd rfl (.inl rfl) (pe_ifExp (pt_cmpR op_lt (pv 4) pe_int (nomark _)) (pe_callB call_len_str (by rfl) ml PySem.boot_len (pa_cons (pv 0) pa_nil)) (pe_op op_add (pv 4) pe_int)))))
            (pss_one (ps_if (pt_cmpR op_in_sign (pv 3) pe_str rfl)
              (pss_cons (ps_set (i := 4) scEnds.nd rfl (.inl rfl) (pe_bm PySem.F.plainAttrs_str PySem.F.slot_str_find PySem.F.type_str_find mt_find3 (pv 0) (pa_cons (pv 3) (pa_cons (pe_op op_add (pv 1) pe_int) pa_nil))))
              (pss_cons (ps_set (i := 1) scEnds.nd rfl (.inl rfl) (pe_ifExp (pt_cmpR op_lt (pv 4) pe_int (nomark _)) (pe_callB call_len_str (by rfl) ml PySem.boot_len (pa_cons (pv 0) pa_nil)) (pe_op op_add (pv 4) pe_int)))
              (pss_one (ps_set (i := 2) scEnds.nd rfl (.inl rfl) (pv 3)))))
              (pss_cons (ps_set (i := 2) scEnds.nd rfl (.inl rfl) (pe_ifExp (pt_cmpR op_notIn_sign (pv 3) pe_str rfl) (pv 3) (pv 2)))
              (pss_one (ps_set (i := 1) scEnds.nd rfl (.inl rfl) (pe_op op_add (pv 1) pe_int))))))))))))
      (pss_one (ps_ret (pe_cmpR op_eq (pv 2) pe_str (nomark _))))), ?_⟩
    refine ⟨by show 2 ≤ sizeLine; decide, fun t nt => ⟨t, _, rfl, sqt upd_same, rfl, _, _, rfl, _, _, rfl, rfl, ?_⟩⟩
    refine ⟨fun m σ H' => Al H H' ∧ ∃ (a : Nat) (l : Str) (y3 y4 : Option V), σ = [some (.str x), some (.int a), some (.str l), y3, y4] ∧ a ≤ x.length ∧ a + m = x.length ∧ Goes x 0 "" a l,
      ⟨x.length, Al.refl.new nt, 0, "", none, none, rfl, Nat.zero_le _, by omega, .here _ _⟩, fun m σ H1 hW => ?_⟩
    obtain ⟨kH, a, l, y3, y4, rfl, ha, hm, g⟩ := hW
    refine ⟨.int a, rfl, .str x, rfl, x, rfl, hz, _, _, rfl, rfl, _, rfl, ite2 (fun e => ?_) (fun e => ?_)⟩
    · have hlt : (a : Int) < (x.length : Int) := of_decide_eq_true e
      have hal : a < (tl x).length := by
        rw [← len_tl]
        omega
      obtain ⟨c, hc⟩ : ∃ c, (tl x)[a]? = some c := ⟨_, List.getElem?_eq_getElem hal⟩
      have hax : a < x.length := by omega
      have g1 := g.trans (Goes.one (l := l) hax)
      refine ⟨fun σ H2 => Al H H2 ∧ ∃ (y3 y4 : Option V), σ = [some (.str x), some (.int ((nxt x a l).1 : Nat)), some (.str (nxt x a l).2), y3, y4], fun σ2 H2 hN => ?_, ?_⟩
      · obtain ⟨kN, y3, y4, rfl⟩ := hN
        obtain ⟨up, top⟩ := nxt_up (l := l) hc
        exact ⟨x.length - (nxt x a l).1, by omega, kN, _, _, _, _, rfl, top, by omega, g1⟩
      · refine ⟨.str x, rfl, .int a, rfl, x, _, c, rfl, rfl, hz, atI_nat hc, ?_⟩
        refine ⟨.str x, rfl, .int a, rfl, a, rfl, .int a, rfl, a, 2, rfl, rfl, _, rfl, x, rfl, hz, rfl, _, rfl, ite2 (fun e1 => ?_) (fun e1 => ?_)⟩
        · have p1 := (dec2 (a := a) (x := x) sDash).symm.trans e1
          have hn : nxt x a l = (fe x ⟨#[10]⟩ a, l) := if_pos p1
          rw [hn]
          refine ⟨.str x, rfl, rfl, .int a, rfl, x, _, a, rfl, rfl, .int _, rfl, _, 0, rfl, rfl, _, rfl, ite2 (fun e2 => ?_) (fun e2 => ?_)⟩
          · have e3 := fe_no (of_decide_eq_true e2)
            exact ⟨.str x, rfl, x, rfl, hz, kH, _, _, by rw [← sNl, e3]; rfl⟩
          · have e3 := fe_yes fun z => e2 (decide_eq_true z)
            exact ⟨.int _, rfl, _, 1, rfl, rfl, kH, _, _, by rw [← sNl, e3]; rfl⟩
        · have p1 := (dec2 (a := a) (x := x) sDash).symm.trans (Bool.eq_false_iff.mpr e1)
          refine ⟨.str x, rfl, .int a, rfl, a, rfl, .int a, rfl, a, 2, rfl, rfl, _, rfl, x, rfl, hz, rfl, _, rfl, ite2 (fun e2 => ?_) (fun e2 => ?_)⟩
          · have p2 := (dec2 (a := a) (x := x) sOpen).symm.trans e2
            have hn : nxt x a l = (fe x ⟨#[42, 47]⟩ (a + 2), l) := by
              unfold nxt
              rw [p1, if_neg Bool.false_ne_true, if_pos p2]
            rw [hn]
            refine ⟨.str x, rfl, rfl, .int a, rfl, a, 2, rfl, rfl, x, _, ((a + 2 : Nat) : Int), rfl, rfl, .int _, rfl, _, 0, rfl, rfl, _, rfl, ite2 (fun e4 => ?_) (fun e4 => ?_)⟩
            · have e3 := fe_no (of_decide_eq_true e4)
              exact ⟨.str x, rfl, x, rfl, hz, kH, _, _, by rw [← sClose, e3]; rfl⟩
            · have e3 := fe_yes fun z => e4 (decide_eq_true z)
              exact ⟨.int _, rfl, _, 2, rfl, rfl, kH, _, _, by rw [← sClose, e3]; rfl⟩
          · have p2 := (dec2 (a := a) (x := x) sOpen).symm.trans (Bool.eq_false_iff.mpr e2)
            refine ⟨.str ⟨#[c]⟩, rfl, c, _, rfl, rfl, _, rfl, ite2 (fun e4 => ?_) (fun e4 => ?_)⟩
            · have hq := of_decide_eq_true e4
              have hn : nxt x a l = (fe x ⟨#[c]⟩ (a + 1), ⟨#[c]⟩) := by
                unfold nxt
                rw [p1, p2, if_neg Bool.false_ne_true, if_neg Bool.false_ne_true, hc]
                rcases in_quotes hq with rfl | rfl
                · exact if_pos rfl
                · rw [if_neg (by decide), if_pos rfl]
              rw [hn]
              refine ⟨.str x, rfl, rfl, .str ⟨#[c]⟩, rfl, .int a, rfl, a, 1, rfl, rfl, x, ⟨#[c]⟩, ((a + 1 : Nat) : Int), rfl, rfl, .int _, rfl, _, 0, rfl, rfl, _, rfl, ite2 (fun e5 => ?_) (fun e5 => ?_)⟩
              · have e3 := fe_no (of_decide_eq_true e5)
                exact ⟨.str x, rfl, x, rfl, hz, .str ⟨#[c]⟩, rfl, kH, _, _, by rw [e3]; rfl⟩
              · have e3 := fe_yes fun z => e5 (decide_eq_true z)
                exact ⟨.int _, rfl, _, 1, rfl, rfl, .str ⟨#[c]⟩, rfl, kH, _, _, by rw [e3]; rfl⟩
            · have hq : ¬ _ := fun z => e4 (decide_eq_true z)
              obtain ⟨q1, q2⟩ := not_quotes hq
              refine ⟨.str ⟨#[c]⟩, rfl, c, _, rfl, rfl, _, rfl, ite2 (fun e5 => ?_) (fun e5 => ?_)⟩
              · have hn : nxt x a l = (a + 1, ⟨#[c]⟩) := by
                  have hb := not_blanks (c := c) fun z => by
                    rw [decide_eq_true z] at e5
                    cases e5
                  exact nxt_own hc ⟨q1, q2, hb.1, hb.2⟩ p1 p2
                rw [hn]
                exact ⟨.str ⟨#[c]⟩, rfl, .int a, rfl, a, 1, rfl, rfl, kH, _, _, rfl⟩
              · have hn : nxt x a l = (a + 1, l) := by
                  have hb := in_blanks (c := c) (by
                    cases z : decide (c ∈ tl (Str.ofString " \n")) with
                    | true => exact of_decide_eq_true z
                    | false =>
                      rw [z] at e5
                      exact absurd rfl e5)
                  unfold nxt
                  rw [p1, p2, if_neg Bool.false_ne_true, if_neg Bool.false_ne_true, hc, if_neg (by simp [q1]), if_neg (by simp [q2]), if_pos (by rcases hb with rfl | rfl <;> simp)]
                rw [hn]
                exact ⟨.str l, rfl, .int a, rfl, a, 1, rfl, rfl, kH, _, _, rfl⟩
    · have hle : x.length ≤ a := by
        have z : ¬ (a : Int) < (x.length : Int) := fun z => e (decide_eq_true z)
        omega
      have w := q H1 a l kH g hle
      rw [← dec1] at w
      exact ⟨.str l, rfl, rfl, w⟩
end
end Ew

namespace Ew
open PySem PySem.Spec PyProof.Rows L2 Drw TL
theorem scBehind : FnScope ["sql", "sign", "at", "found"] ["sql", "sign", "at"] (defScope sBehind) := ⟨rfl, rfl, rfl, by decide +kernel, rfl, by decide +kernel, by decide +kernel⟩
theorem scNext : FnScope ["sql", "at"] ["sql", "at"] (defScope sNext) := ⟨rfl, rfl, rfl, by decide +kernel, rfl, by decide +kernel, by decide +kernel⟩
theorem scRun : FnScope ["sql", "at", "letters"] ["sql", "at", "letters"] (defScope sRun) := ⟨rfl, rfl, rfl, by decide +kernel, rfl, by decide +kernel, by decide +kernel⟩
def spBehind : Sp := fun vs H Q _ => ∃ (x y : Str) (a : Nat), vs = [.str x, .str y, .int a] ∧ x.length ≤ 640 ∧ y.length ≤ 10 ∧ Q (.int (fe x y a : Nat)) H
/-- no blank and no comment begins there -/
def Free (x : Str) (b : Nat) : Prop := (∀ c, (tl x)[b]? = some c → c ≠ 32 ∧ c ≠ 10) ∧ pre [45, 45] ((tl x).drop b) = false ∧ pre [47, 42] ((tl x).drop b) = false
def spNext : Sp := fun vs H Q _ => ∃ (x : Str) (a : Nat), vs = [.str x, .int a] ∧ x.length ≤ 640 ∧ a ≤ x.length ∧
  ∀ b : Nat, a ≤ b → b ≤ x.length → (∀ l, Goes x a l b l) → (b < x.length → Free x b) → Q (.int b) H
def spRun : Sp := fun vs H Q _ => ∃ (x z : Str) (a : Nat), vs = [.str x, .int a, .str z] ∧ x.length ≤ 640 ∧ a ≤ x.length ∧
  ∀ n : Nat, a + n ≤ x.length → (∀ k, a ≤ k → k < a + n → ∃ c, (tl x)[k]? = some c ∧ c ∈ tl z) → (∀ c, (tl x)[a]? = some c → c ∈ tl z → 0 < n) → Q (.int (a + n : Nat)) H
section
variable {P : Program} {w : World} {K : PySem.W.Frag} {mg : Str → Option Value} {base : Heap}
theorem ok_behind {f : Addr} {fd : FuncData} (F : Fun K "_end_behind" "_end_behind" sBehind f fd) (ml : mg "len" = none) : FnOk P w K mg base CX0 1 f fd ["sql", "sign", "at"] spBehind := by
  refine F.ok scBehind (fun vs H Q E h => ?_) (fun cdv A outer s H vs Q E hr h => ?_)
  · obtain ⟨x, y, a, rfl, _⟩ := h
    rfl
  · obtain ⟨x, y, a, rfl, hx, hy, q⟩ := h
    have hz : x.length ≤ sizeLine := Nat.le_trans hx (by decide)
    have hzy : y.length ≤ sizeLine := Nat.le_trans hy (by decide)
    refine ⟨_, pss_cons (ps_set (i := 3) scBehind.nd rfl (.inl rfl) (pe_bm PySem.F.plainAttrs_str PySem.F.slot_str_find PySem.F.type_str_find mt_find3 (pv 0) (pa_cons (pv 1) (pa_cons (pv 2) pa_nil))))
      (pss_one (ps_ret (pe_ifExp (pt_cmpR op_lt (pv 3) pe_int (nomark _)) (pe_callB call_len_str (by rfl) ml PySem.boot_len (pa_cons (pv 0) pa_nil)) (pe_op op_add (pv 3) (pe_callB call_len_str (by rfl) ml PySem.boot_len (pa_cons (pv 1) pa_nil)))))), ?_⟩
    refine ⟨.str x, rfl, rfl, .str y, rfl, .int a, rfl, x, y, a, rfl, rfl, .int _, rfl, _, 0, rfl, rfl, _, rfl, ite2 (fun e => ?_) (fun e => ?_)⟩
    · have e3 := fe_no (of_decide_eq_true e)
      rw [e3] at q
      exact ⟨.str x, rfl, x, rfl, hz, q⟩
    · have e3 := fe_yes fun z => e (decide_eq_true z)
      rw [e3] at q
      exact ⟨.int _, rfl, .str y, rfl, y, rfl, hzy, _, _, rfl, rfl, q⟩
theorem ok_run {f : Addr} {fd : FuncData} (F : Fun K "_run_end" "_run_end" sRun f fd) (ml : mg "len" = none) : FnOk P w K mg base CX0 1 f fd ["sql", "at", "letters"] spRun := by
  refine F.ok scRun (fun vs H Q E h => ?_) (fun cdv A outer s H vs Q E hr h => ?_)
  · obtain ⟨x, z, a, rfl, _⟩ := h
    rfl
  · obtain ⟨x, z, a, rfl, hx, ha, q⟩ := h
    have hz : x.length ≤ sizeLine := Nat.le_trans hx (by decide)
    refine ⟨_, pss_cons (ps_while PassesOwn.never (PW.pt (pw_and (pt_cmpR op_lt (pv 1) (pe_callB call_len_str (by rfl) ml PySem.boot_len (pa_cons (pv 0) pa_nil)) (nomark _)) (pw_and1 (pt_cmpR op_in_sign (pe_ix ix_str (pv 0) (pv 1) (fun _ _ => rfl)) (pv 2) rfl))))
        (pss_one (ps_aug (i := 1) scRun.nd rfl (.inl rfl) pe_int ip_add)))
      (pss_one (ps_ret (pv 1))), ?_⟩
    refine ⟨fun m σ H' => H' = H ∧ ∃ n : Nat, σ = [some (.str x), some (.int (a + n : Nat)), some (.str z)] ∧ a + n + m = x.length ∧ (∀ k, a ≤ k → k < a + n → ∃ c, (tl x)[k]? = some c ∧ c ∈ tl z),
      ⟨x.length - a, rfl, 0, rfl, by omega, fun k h1 h2 => by omega⟩, fun m σ H1 hW => ?_⟩
    obtain ⟨rfl, n, rfl, hm, hk⟩ := hW
    have out : ¬ (∃ c, (tl x)[a + n]? = some c ∧ c ∈ tl z) → Q (.int (a + n : Nat)) H1 := fun hno => q n (by omega) hk fun c hc hcz => by
      rcases Nat.eq_zero_or_pos n with rfl | h
      · exact absurd ⟨c, hc, hcz⟩ hno
      · exact h
    refine ⟨.int _, rfl, .str x, rfl, x, rfl, hz, _, _, rfl, rfl, _, rfl, ite2 (fun e => ?_) (fun e => iteF ?_)⟩
    · have hlt : a + n < x.length := by
        have z := of_decide_eq_true e
        omega
      have hal : a + n < (tl x).length := by
        rw [← len_tl]
        exact hlt
      obtain ⟨c, hc⟩ : ∃ c, (tl x)[a + n]? = some c := ⟨_, List.getElem?_eq_getElem hal⟩
      refine ⟨.str x, rfl, .int _, rfl, x, _, c, rfl, rfl, hz, atI_nat hc, .str z, rfl, c, z, rfl, rfl, _, rfl, ite2 (fun e1 => ?_) (fun e1 => ?_)⟩
      · refine ⟨fun σ H2 => H2 = H1 ∧ σ = [some (.str x), some (.int (a + (n + 1) : Nat)), some (.str z)], fun σ2 H2 hN => ⟨m - 1, by omega, hN.1, n + 1, hN.2, by omega, fun k h1 h2 => ?_⟩, ?_⟩
        · rcases Nat.lt_or_ge k (a + n) with h | h
          · exact hk k h1 h
          · rw [show k = a + n by omega]
            exact ⟨c, hc, of_decide_eq_true e1⟩
        · exact ⟨.int _, rfl, _, 1, rfl, rfl, rfl, rfl⟩
      · refine ⟨.int _, rfl, out fun ⟨c', h1, h2⟩ => ?_⟩
        rw [hc] at h1
        injection h1 with h1
        subst h1
        exact e1 (decide_eq_true h2)
    · refine ⟨.int _, rfl, out fun ⟨c', h1, h2⟩ => ?_⟩
      have z := len_lt h1
      exact e (decide_eq_true (by omega))
end
end Ew

namespace Ew
open PySem PySem.Spec PyProof.Rows L2 Drw TL
section
variable {P : Program} {w : World} {K : PySem.W.Frag} {mg : Str → Option Value} {base : Heap}
theorem ok_next {f fB : Addr} {fd fdB : FuncData} {tk : Nat} (F : Fun K "_next_start" "_next_start" sNext f fd) (FB : Fun K "_end_behind" "_end_behind" sBehind fB fdB) (bB : Binds K fdB ["sql", "sign", "at"] []) (gB : mg "_end_behind" = some (.ref fB))
    (ml : mg "len" = none) (hb : mg "BLANKS" = some (.str " \n" tk)) : FnOk P w K mg base CX0 2 f fd ["sql", "at"] spNext := by
  have GB : FnOk P w K mg base CX0 1 fB fdB ["sql", "sign", "at"] spBehind := ok_behind FB ml
  refine F.ok scNext (fun vs H Q E h => ?_) (fun cdv A outer s H vs Q E hr h => ?_)
  · obtain ⟨x, a, rfl, _⟩ := h
    rfl
  · obtain ⟨x, a0, rfl, hx, ha0, q⟩ := h
    have hz : x.length ≤ sizeLine := Nat.le_trans hx (by decide)
    refine ⟨_, pss_cons (ps_while PassesOwn.never (pt_cmpR op_lt (pv 1) (pe_callB call_len_str (by rfl) ml PySem.boot_len (pa_cons (pv 0) pa_nil)) (nomark _))
        (pss_one (ps_if (pt_cmpR op_in_sign (pe_ix ix_str (pv 0) (pv 1) (fun _ _ => rfl)) (pe_glob (v := .str " \n") (by rfl) hb ⟨tk, rfl⟩) rfl)
          (pss_one (ps_aug (i := 1) scNext.nd rfl (.inl rfl) pe_int ip_add))
          (pss_one (ps_if (pt_val (pe_bm PySem.F.plainAttrs_str PySem.F.slot_str_startswith PySem.F.type_str_startswith mt_startswith3 (pv 0) (pa_cons pe_str (pa_cons (pv 1) pa_nil))))
            (pss_one (ps_set (i := 1) scNext.nd rfl (.inl rfl) (pe_call GB hr (by rfl) gB FB.kp bB .nil pass0 (pa_cons (pv 0) (pa_cons pe_str (pa_cons (pv 1) pa_nil))))))
            (pss_one (ps_if (pt_val (pe_bm PySem.F.plainAttrs_str PySem.F.slot_str_startswith PySem.F.type_str_startswith mt_startswith3 (pv 0) (pa_cons pe_str (pa_cons (pv 1) pa_nil))))
              (pss_one (ps_set (i := 1) scNext.nd rfl (.inl rfl) (pe_call GB hr (by rfl) gB FB.kp bB .nil pass0 (pa_cons (pv 0) (pa_cons pe_str (pa_cons (pe_op op_add (pv 1) pe_int) pa_nil))))))
              (pss_one ps_break))))))))
      (pss_one (ps_ret (pv 1))), ?_⟩
    refine ⟨fun m σ H' => H' = H ∧ ∃ a : Nat, σ = [some (.str x), some (.int a)] ∧ a0 ≤ a ∧ a + m = x.length ∧ ∀ l, Goes x a0 l a l, ⟨x.length - a0, rfl, a0, rfl, Nat.le_refl _, by omega, fun l => .here _ _⟩, fun m σ H1 hW => ?_⟩
    obtain ⟨rfl, a, rfl, hle, hm, g⟩ := hW
    refine ⟨.int a, rfl, .str x, rfl, x, rfl, hz, _, _, rfl, rfl, _, rfl, ite2 (fun e => ?_) (fun e => ?_)⟩
    · have hax : a < x.length := by
        have z := of_decide_eq_true e
        omega
      have hal : a < (tl x).length := by
        rw [← len_tl]
        exact hax
      obtain ⟨c, hc⟩ : ∃ c, (tl x)[a]? = some c := ⟨_, List.getElem?_eq_getElem hal⟩
      refine ⟨fun σ H2 => H2 = H1 ∧ ∃ b : Nat, σ = [some (.str x), some (.int b)] ∧ a < b ∧ b ≤ x.length ∧ ∀ l, nxt x a l = (b, l), fun σ2 H2 hN => ?_, ?_⟩
      · obtain ⟨e2, b, rfl, h1, h2, h3⟩ := hN
        refine ⟨x.length - b, by omega, e2, b, rfl, by omega, by omega, fun l => (g l).trans ?_⟩
        have z := Goes.one (l := l) hax
        rw [h3 l] at z
        exact z
      · refine ⟨.str x, rfl, .int a, rfl, x, _, c, rfl, rfl, hz, atI_nat hc, c, _, rfl, rfl, _, rfl, ite2 (fun e1 => ?_) (fun e1 => ?_)⟩
        · have hbl := in_blanks (of_decide_eq_true e1)
          refine ⟨.int a, rfl, a, 1, rfl, rfl, rfl, a + 1, rfl, by omega, by omega, fun l => ?_⟩
          unfold nxt
          rw [pre_not hc (by rcases hbl with rfl | rfl <;> decide), pre_not hc (by rcases hbl with rfl | rfl <;> decide), if_neg Bool.false_ne_true, if_neg Bool.false_ne_true, hc,
            if_neg (by rcases hbl with rfl | rfl <;> decide), if_neg (by rcases hbl with rfl | rfl <;> decide), if_pos (by rcases hbl with rfl | rfl <;> simp)]
        · have hnb := not_blanks (c := c) fun z => e1 (decide_eq_true z)
          refine ⟨.str x, rfl, rfl, .int a, rfl, x, _, a, rfl, rfl, _, rfl, ite2 (fun e2 => ?_) (fun e2 => ?_)⟩
          · rw [sw3 (by rw [sDash]; decide) (by omega), sDash] at e2
            have hn : ∀ l, nxt x a l = (fe x ⟨#[10]⟩ a, l) := fun l => if_pos e2
            refine ⟨.str x, rfl, .int a, rfl, x, _, a, rfl, hx, by rw [sNl]; decide, rfl, fe x ⟨#[10]⟩ a, by rw [sNl]; rfl, ?_, ?_, hn⟩
            all_goals
              have up := nxt_up (l := x) hc
              rw [hn] at up
              first | exact up.1 | exact up.2
          · rw [sw3 (by rw [sDash]; decide) (by omega), sDash] at e2
            refine ⟨.str x, rfl, rfl, .int a, rfl, x, _, a, rfl, rfl, _, rfl, ite2 (fun e3 => ?_) (fun e3 => ?_)⟩
            · rw [sw3 (by rw [sOpen]; decide) (by omega), sOpen] at e3
              have hn : ∀ l, nxt x a l = (fe x ⟨#[42, 47]⟩ (a + 2), l) := fun l => by
                unfold nxt
                rw [if_neg e2, if_pos e3]
              refine ⟨.str x, rfl, .int a, rfl, a, 2, rfl, rfl, x, _, a + 2, rfl, hx, by rw [sClose]; decide, rfl, fe x ⟨#[42, 47]⟩ (a + 2), by rw [sClose]; rfl, ?_, ?_, hn⟩
              all_goals
                have up := nxt_up (l := x) hc
                rw [hn] at up
                first | exact up.1 | exact up.2
            · rw [sw3 (by rw [sOpen]; decide) (by omega), sOpen] at e3
              exact ⟨.int a, rfl, q a hle (by omega) g fun _ => ⟨fun c' h' => by rw [hc] at h'; injection h' with h'; subst h'; exact hnb, Bool.eq_false_iff.mpr e2, Bool.eq_false_iff.mpr e3⟩⟩
    · refine ⟨.int a, rfl, q a hle (by omega) g fun h => ?_⟩
      exact absurd (decide_eq_true (by omega)) e
end
end Ew

namespace Ew
open PySem PySem.Spec PyProof.Rows L2 Drw TL
theorem scInit : FnScope ["self", "kind", "sql", "start", "end", "value"] ["self", "kind", "sql", "start", "end", "value"] (defScope sInit) := ⟨rfl, rfl, rfl, by decide +kernel, rfl, by decide +kernel, by decide +kernel⟩
structure TokC (K : PySem.W.Frag) (C : Addr) : Prop where
  cl : Cls K C
  n1 : NoAttr K C "kind"
  n2 : NoAttr K C "start"
  n3 : NoAttr K C "end"
  n4 : NoAttr K C "text"
  n5 : NoAttr K C "value"
  n6 : NoAttr K C "word"
/-- a method with one default, None -/
structure FunT (K : PySem.W.Frag) (x qual : Str) (st : Stmt) (f : Addr) (fd : FuncData) : Prop where
  ex : ∃ (oc : Value) (od : Option Addr) (T : Addr) (kV doc pm : Value) (an : Option Addr) (cdv ct : Value) (osl : Array (Option Value)),
    fd = PySem.W.fnOf x qual (defArgs st) (defBody st) (defScope st) (.ref T) kV doc pm an cdv ct ∧ K.lookup f = some ⟨oc, od, .func fd, osl⟩ ∧ PySem.W.codeIn K cdv qual = true ∧
      ∃ (tc : Value) (td : Option Addr) (tn : Nat) (tsl : Array (Option Value)), K.lookup T = some ⟨tc, td, .seq #[.none] tn, tsl⟩
  kp : PySem.W.keepIn K (.ref f) = true
theorem FunT.ok {P : Program} {w : World} {K : PySem.W.Frag} {mg : Str → Option Value} {base : Heap} {x qual : Str} {st : Stmt} {f : Addr} {fd : FuncData} {N ps : List Str} {k : Nat} {sp : Sp} (F : FunT K x qual st f fd) (S : FnScope N ps (defScope st)) (len : ∀ vs H Q E, sp vs H Q E → vs.length = ps.length)
    (hbody : ∀ (cdv : Value) (A : Around) (outer : List Env) (s : Shared) (H : Hp) (vs : List V) (Q : VK) (E : XK), Room k (A.deeper (envOfC qual (defScope st) s.heap.objs.size f cdv)) → sp vs H Q E →
      ∃ t, PSs (cxOf CX0 P w K mg base N qual (defScope st) f cdv A outer s H E).nox (defBody st) t ∧ t { nx := fun _ H' => Q .non H', rt := Q } (start N vs) H) : FnOk P w K mg base CX0 (k + 1) f fd ps sp := by
  obtain ⟨oc, od, T, kV, doc, pm, an, cdv, ct, osl, rfl, lk, hcd, _⟩ := F.ex
  refine fn_of lk hcd S len fun A outer s H vs Q E hr hsp => ?_
  obtain ⟨t, h, q⟩ := hbody cdv A outer s H vs Q E hr hsp
  exact ⟨t, h.nox, q⟩
theorem FunT.b5 {K : PySem.W.Frag} {qual : Str} {f : Addr} {fd : FuncData} (F : FunT K "__init__" qual sInit f fd) : Binds K fd ["self", "kind", "sql", "start", "end", "value"] [] := by
  obtain ⟨oc, od, T, kV, doc, pm, an, cdv, ct, osl, rfl, lk, hcd, tc, td, tn, tsl, hT⟩ := F.ex
  intro s us X hl
  have h2 : us.length = 6 := by simpa using hl
  match us, h2 with
  | [_, _, _, _, _, _], _ => exact BindsTo.of_looks fun M => looks_items (its := #[.none]) X hT rfl (.of_pure rfl)
theorem FunT.b4 {K : PySem.W.Frag} {qual : Str} {f : Addr} {fd : FuncData} (F : FunT K "__init__" qual sInit f fd) : Binds K fd ["self", "kind", "sql", "start", "end", "value"] [.none] := by
  obtain ⟨oc, od, T, kV, doc, pm, an, cdv, ct, osl, rfl, lk, hcd, tc, td, tn, tsl, hT⟩ := F.ex
  intro s us X hl
  have h2 : us.length = 5 := by simpa using hl
  match us, h2 with
  | [_, _, _, _, _], _ => exact BindsTo.of_looks fun M => looks_items (its := #[.none]) X hT rfl (.of_pure rfl)
def kinds : List V := [.str "name", .str "keyword", .str "sign"]
/-- the word of a token -/
def wd (kd t : Str) : Str := if inV (.str kd) kinds = true then Txt.lower t else ""
def TokAt (C : Addr) (H : Hp) (p : Addr) (e : Nat) (w : Str) : Prop := ∃ (dx : Addr) (fs : List (Str × V)), H p = some (.ins C dx fs) ∧ fs.lookup ("end" : Str) = some (.int e) ∧ fs.lookup ("word" : Str) = some (.str w)
def spInit (C : Addr) : Sp := fun vs H Q _ => ∃ (p dx : Addr) (kd x : Str) (a e : Nat) (v : V), vs = [.ref p, .str kd, .str x, .int a, .int e, v] ∧ H p = some (.ins C dx []) ∧ x.length ≤ 640 ∧
  ∀ H', (∀ b o, b ≠ p → H b = some o → H' b = some o) → TokAt C H' p e (wd kd (cutS x (some (a : Int)) (some (e : Int)))) → Q .non H'
theorem ne1 : ¬ (("word" : Str) = "value") := by decide +kernel
theorem ne2 : ¬ (("word" : Str) = "text") := by decide +kernel
theorem ne3 : ¬ (("end" : Str) = "word") := by decide +kernel
theorem ne4 : ¬ (("end" : Str) = "value") := by decide +kernel
theorem ne5 : ¬ (("end" : Str) = "text") := by decide +kernel
theorem ne6 : ¬ (("text" : Str) = "value") := by decide +kernel
theorem len_putF (f : Str) (v : V) : ∀ fs : List (Str × V), (putF f v fs).length ≤ fs.length + 1
  | [] => Nat.le_refl _
  | (g, x) :: r => by
    unfold putF
    split
    · show r.length + 1 ≤ _
      simp
    · show (putF f v r).length + 1 ≤ _
      have z := len_putF f v r
      simp only [List.length_cons]
      omega
section
variable {P : Program} {w : World} {K : PySem.W.Frag} {mg : Str → Option Value} {base : Heap}
theorem ok_init {f C : Addr} {fd : FuncData} (F : FunT K "__init__" "Token.__init__" sInit f fd) (T : TokC K C) : FnOk P w K mg base CX0 1 f fd ["self", "kind", "sql", "start", "end", "value"] (spInit C) := by
  refine F.ok scInit (fun vs H Q E h => ?_) (fun cdv A outer s H vs Q E hr h => ?_)
  · obtain ⟨p, dx, kd, x, a, e, v, rfl, _⟩ := h
    rfl
  · obtain ⟨p, dx, kd, x, a, e, v, rfl, hp, hx, q⟩ := h
    have hz : x.length ≤ sizeLine := Nat.le_trans hx (by decide)
    refine ⟨_, pss_cons (ps_fld (pv 0) (pv 1) rfl) (pss_cons (ps_fld (pv 0) (pv 3) rfl) (pss_cons (ps_fld (pv 0) (pv 4) rfl)
      (pss_cons (ps_fld (pv 0) (pe_slice sl_str (pv 2) (po_some (pv 3)) (po_some (pv 4))) rfl) (pss_cons (ps_fld (pv 0) (pv 5) rfl)
      (pss_one (ps_fld (pv 0) (pe_ifExp (pt_cmpR op_in_seq (pv 1) (pe_tup (pa_cons pe_str (pa_cons pe_str (pa_cons pe_str pa_nil)))) rfl)
        (pe_bm0 PySem.F.plainAttrs_str PySem.F.slot_str_lower PySem.F.type_str_lower mt_lower (pe_fld (pv 0) rfl)) pe_str) rfl)))))), ?_⟩
    have l1 : ∀ {n : Nat} {f : Str} {v : V} {fs : List (Str × V)}, fs.length ≤ n → (putF f v fs).length ≤ n + 1 := fun h => Nat.le_trans (len_putF _ _ _) (by omega)
    have b1 : ([] : List (Str × V)).length ≤ 0 := Nat.le_refl _
    refine ⟨_, rfl, .ref p, rfl, p, C, dx, _, rfl, hp, T.cl, T.n1, (by decide), _, rfl, .ref p, rfl, p, C, dx, _, rfl, upd_same, T.cl, T.n2, Nat.lt_of_le_of_lt (l1 b1) (by decide),
      _, rfl, .ref p, rfl, p, C, dx, _, rfl, upd_same, T.cl, T.n3, Nat.lt_of_le_of_lt (l1 (l1 b1)) (by decide),
      .str x, rfl, .int a, rfl, a, rfl, .int e, rfl, e, rfl, x, rfl, hz, .ref p, rfl, p, C, dx, _, rfl, upd_same, T.cl, T.n4, Nat.lt_of_le_of_lt (l1 (l1 (l1 b1))) (by decide),
      _, rfl, .ref p, rfl, p, C, dx, _, rfl, upd_same, T.cl, T.n5, Nat.lt_of_le_of_lt (l1 (l1 (l1 (l1 b1)))) (by decide), ?_⟩
    have keep : ∀ {H' : Hp} {o : HO}, (∀ b u, b ≠ p → H b = some u → H' b = some u) → ∀ b u, b ≠ p → H b = some u → upd H' p o b = some u := fun h b u n z => by
      rw [upd_ne n]
      exact h b u n z
    refine ⟨.str kd, rfl, by show 3 ≤ sizeLine; decide, fun t nt => ⟨t, kinds, rfl, .inr (sqt upd_same), rfl, rfl, _, rfl, ite2 (fun e1 => ?_) (fun e1 => ?_)⟩⟩
    all_goals
      have tp : p ≠ t := fun z => by
        rw [z, upd_same] at nt
        cases nt
    · have hw : wd kd (cutS x (some (a : Int)) (some (e : Int))) = Txt.lower (cutS x (some (a : Int)) (some (e : Int))) := if_pos e1
      refine ⟨.ref p, rfl, p, C, dx, _, .str (cutS x (some (a : Int)) (some (e : Int))), rfl, (upd_ne tp).trans upd_same, T.cl, T.n4, ?_, rfl, _, rfl, rfl, ?_, ?_⟩
      · rw [lookup_putF, if_neg ne6, lookup_putF, if_pos rfl]
      · have z := cutS_length x (some (a : Int)) (some (e : Int))
        omega
      · refine ⟨.ref p, rfl, p, C, dx, _, rfl, (upd_ne tp).trans upd_same, T.cl, T.n6, Nat.lt_of_le_of_lt (l1 (l1 (l1 (l1 (l1 b1))))) (by decide), ?_⟩
        refine q _ (fun b o n z => ?_) ⟨dx, _, upd_same, ?_, ?_⟩
        · refine (upd_ne n).trans ((upd_ne (ne_of_none (o := o) ?_ nt)).trans ?_)
          all_goals exact keep (keep (keep (keep (keep (fun b u n z => z))))) b o n z
        · rw [lookup_putF, if_neg ne3, lookup_putF, if_neg ne4, lookup_putF, if_neg ne5, lookup_putF, if_pos rfl]
        · rw [lookup_putF, if_pos rfl, hw]
    · have hw : wd kd (cutS x (some (a : Int)) (some (e : Int))) = "" := if_neg e1
      refine ⟨.ref p, rfl, p, C, dx, _, rfl, (upd_ne tp).trans upd_same, T.cl, T.n6, Nat.lt_of_le_of_lt (l1 (l1 (l1 (l1 (l1 b1))))) (by decide), ?_⟩
      refine q _ (fun b o n z => ?_) ⟨dx, _, upd_same, ?_, ?_⟩
      · refine (upd_ne n).trans ((upd_ne (ne_of_none (o := o) ?_ nt)).trans ?_)
        all_goals exact keep (keep (keep (keep (keep (fun b u n z => z))))) b o n z
      · rw [lookup_putF, if_neg ne3, lookup_putF, if_neg ne4, lookup_putF, if_neg ne5, lookup_putF, if_pos rfl]
      · rw [lookup_putF, if_pos rfl, hw]
end
end Ew

namespace Ew
open PySem PySem.Spec PyProof.Rows L2 Drw TL
theorem flat_list (xs : Array (Array Nat)) : xs.flatten.toList = (xs.toList.map Array.toList).flatten := by
  simp
theorem lower_head {t : Str} {c : Nat} {r : List Nat} (h : tl t = c :: r) (hc : c ≠ 0x3A3) : ∃ rest, tl (Txt.lower t) = Unicode.lowerOf c ++ rest := by
  obtain ⟨⟨l⟩⟩ := t
  have hl : l = c :: r := h
  subst hl
  unfold Txt.lower placed
  show ∃ rest, (Array.flatten (Array.mapIdx _ _)).toList = _
  rw [flat_list, Array.toList_mapIdx, List.mapIdx_cons, List.map_cons, List.flatten_cons]
  refine ⟨_, congrArg (· ++ _) ?_⟩
  show (Unicode.lowerAt ⟨c :: r⟩ 0).toArray.toList = _
  rw [List.toList_toArray]
  unfold Unicode.lowerAt
  simp [hc]
def wordSigns : List Nat := tl "abcdefghijklmnopqrstuvwxyzABCDEFGHIJKLMNOPQRSTUVWXYZ_0123456789"
def letters : List Nat := tl "abcdefghijklmnopqrstuvwxyzABCDEFGHIJKLMNOPQRSTUVWXYZ_"
def digits : List Nat := tl "0123456789"
def singles : List Nat := tl "(),.;=<>+-*/"
theorem low_ok : ∀ c ∈ letters ++ singles ++ [124, 33], (Unicode.lowerOf c = [c] ∨ (Unicode.lowerOf c).head? = some (c + 32) ∧ c + 32 ≠ 59) ∧ c ≠ 0x3A3 := by decide +kernel
theorem lower_ne {t : Str} {c : Nat} {r : List Nat} (h : tl t = c :: r) (hm : c ∈ letters ++ singles ++ [124, 33]) (h59 : c ≠ 59) : Txt.lower t ≠ semi := by
  obtain ⟨h1, h2⟩ := low_ok c hm
  obtain ⟨rest, e⟩ := lower_head h h2
  intro z
  rw [z] at e
  have e' : ([59] : List Nat) = Unicode.lowerOf c ++ rest := e
  rcases h1 with h1 | ⟨h1, h3⟩
  · rw [h1] at e'
    injection e' with e1 _
    exact h59 e1.symm
  · cases hL : Unicode.lowerOf c with
    | nil =>
      rw [hL] at h1
      cases h1
    | cons b bs =>
      rw [hL] at h1 e'
      injection e' with e1 _
      injection h1 with h1
      omega
theorem lower_semi : Txt.lower ⟨#[59]⟩ = semi := by decide +kernel
theorem dull_words : ∀ c ∈ wordSigns, Dull c := by
  have h : ∀ c ∈ wordSigns, (c ≠ 39 ∧ c ≠ 34 ∧ c ≠ 32 ∧ c ≠ 10) ∧ c ≠ 45 ∧ c ≠ 47 ∧ c ≠ 59 := by decide +kernel
  exact h
theorem letters_words : ∀ c ∈ letters, c ∈ wordSigns := by decide +kernel
theorem digits_words : ∀ c ∈ digits, c ∈ wordSigns := by decide +kernel
end Ew

namespace Ew
open PySem PySem.Spec PyProof.Rows L2 Drw TL
theorem scWord : FnScope ["sql", "at", "end", "text", "kind"] ["sql", "at"] (defScope sWord) := ⟨rfl, rfl, rfl, by decide +kernel, rfl, by decide +kernel, by decide +kernel⟩
theorem scQuoted : FnScope ["sql", "at", "end"] ["sql", "at"] (defScope sQuoted) := ⟨rfl, rfl, rfl, by decide +kernel, rfl, by decide +kernel, by decide +kernel⟩
theorem scPlace : FnScope ["sql", "at", "end", "kind"] ["sql", "at"] (defScope sPlace) := ⟨rfl, rfl, rfl, by decide +kernel, rfl, by decide +kernel, by decide +kernel⟩
theorem scSign : FnScope ["sql", "at", "kind"] ["sql", "at"] (defScope sSign) := ⟨rfl, rfl, rfl, by decide +kernel, rfl, by decide +kernel, by decide +kernel⟩
/-- a token from a on: its word is the semicolon where the look's last sign is it -/
def TokQ (C : Addr) (x : Str) (a : Nat) (H : Hp) (Q : VK) : Prop := ∀ H' (p : Addr) (e : Nat) (w : Str), Al H H' → H p = none → TokAt C H' p e w → a < e → e ≤ x.length → (∀ l, ∃ m, Goes x a l e m ∧ (w = semi ↔ m = semi)) → Q (.ref p) H'
def spTok (C : Addr) (ok : Nat → Prop) : Sp := fun vs H Q _ => ∃ (x : Str) (a c : Nat), vs = [.str x, .int a] ∧ x.length ≤ 640 ∧ (tl x)[a]? = some c ∧ Free x a ∧ ok c ∧ TokQ C x a H Q
def ini : List Str := ["self", "kind", "sql", "start", "end", "value"]
structure Mks (P : Program) (w : World) (K : PySem.W.Frag) (mg : Str → Option Value) (base : Heap) (C fI : Addr) (fdI : FuncData) : Prop where
  M : Mk K C fI
  g : mg "Token" = some (.ref C)
  b4 : Binds K fdI ini [.none]
  b5 : Binds K fdI ini []
  G : FnOk P w K mg base CX0 1 fI fdI ini (spInit C)
  len : mg "len" = none
theorem al_made {H H' : Hp} {p dx C : Addr} (np : H p = none) (ndx : H dx = none) (keep : ∀ b o, b ≠ p → upd (upd H dx (.own p)) p (.ins C dx []) b = some o → H' b = some o) : Al H H' := fun b o e => by
  refine keep b o (ne_of_none e np) ?_
  rw [upd_ne (ne_of_none e np), upd_ne (ne_of_none e ndx)]
  exact e
/-- a token that is no sign and no name: its word is empty -/
theorem tok_mute {C : Addr} {x : Str} {a : Nat} {H : Hp} {Q : VK} (q : TokQ C x a H Q) {kd : Str} (hk : inV (.str kd) kinds = false) {e : Nat} (h1 : a < e) (h2 : e ≤ x.length) (hg : ∀ l, ∃ m, Goes x a l e m ∧ m ≠ semi)
    {p dx : Addr} (np : H p = none) (ndx : H dx = none) {v : V} (hx : x.length ≤ 640) {E : XK} :
    spInit C [.ref p, .str kd, .str x, .int a, .int e, v] (upd (upd H dx (.own p)) p (.ins C dx [])) (fun v H2 => v = .non ∧ Q (.ref p) H2) E := by
  refine ⟨p, dx, kd, x, a, e, v, rfl, upd_same, hx, fun H' keep tok => ⟨rfl, q H' p e _ (al_made np ndx keep) np tok h1 h2 fun l => ?_⟩⟩
  obtain ⟨m, g, hm⟩ := hg l
  refine ⟨m, g, fun z => ?_, fun z => absurd z hm⟩
  have hw : wd kd (cutS x (some (a : Int)) (some (e : Int))) = "" := if_neg (by rw [hk]; decide)
  rw [hw] at z
  exact absurd z (by decide +kernel)
theorem tok_word {C : Addr} {x : Str} {a : Nat} {H : Hp} {Q : VK} (q : TokQ C x a H Q) {kd : Str} (hk : inV (.str kd) kinds = true) {e : Nat} (h1 : a < e) (h2 : e ≤ x.length)
    (hg : ∀ l, ∃ m, Goes x a l e m ∧ (Txt.lower (cutS x (some (a : Int)) (some (e : Int))) = semi ↔ m = semi))
    {p dx : Addr} (np : H p = none) (ndx : H dx = none) {v : V} (hx : x.length ≤ 640) {E : XK} :
    spInit C [.ref p, .str kd, .str x, .int a, .int e, v] (upd (upd H dx (.own p)) p (.ins C dx [])) (fun v H2 => v = .non ∧ Q (.ref p) H2) E := by
  refine ⟨p, dx, kd, x, a, e, v, rfl, upd_same, hx, fun H' keep tok => ⟨rfl, q H' p e _ (al_made np ndx keep) np tok h1 h2 fun l => ?_⟩⟩
  have hw : wd kd (cutS x (some (a : Int)) (some (e : Int))) = Txt.lower (cutS x (some (a : Int)) (some (e : Int))) := if_pos hk
  rw [hw]
  exact hg l
/-- a slice begins with its first sign -/
theorem cut_head {x : Str} {a e c : Nat} (h : (tl x)[a]? = some c) (he : a < e) : ∃ r, tl (cutS x (some (a : Int)) (some (e : Int))) = c :: r := by
  rw [tl_cut, drop_at h, show e - a = (e - a - 1) + 1 by omega]
  exact ⟨_, rfl⟩
section
variable {P : Program} {w : World} {K : PySem.W.Frag} {mg : Str → Option Value} {base : Heap} {C fI : Addr} {fdI : FuncData}
theorem ok_word {f fR kw : Addr} {fd fdR : FuncData} {tk : Nat} {ks : List V} (F : Fun K "_word_token" "_word_token" sWord f fd) (T : Mks P w K mg base C fI fdI) (FR : Fun K "_run_end" "_run_end" sRun fR fdR) (bR : Binds K fdR ["sql", "at", "letters"] []) (gR : mg "_run_end" = some (.ref fR))
    (hw : mg "WORD_SIGNS" = some (.str "abcdefghijklmnopqrstuvwxyzABCDEFGHIJKLMNOPQRSTUVWXYZ_0123456789" tk)) (hkw : mg "KEYWORDS" = some (.ref kw)) (sk : ∀ H, SqT K H kw ks) (fk : ks.all flatV = true) :
    FnOk P w K mg base CX0 3 f fd ["sql", "at"] (spTok C (· ∈ letters)) := by
  have GR : FnOk P w K mg base CX0 1 fR fdR ["sql", "at", "letters"] spRun := ok_run FR T.len
  refine F.ok scWord (fun vs H Q E h => ?_) (fun cdv A outer s H vs Q E hr h => ?_)
  · obtain ⟨x, a, c, rfl, _⟩ := h
    rfl
  · obtain ⟨x, a, c, rfl, hx, hc, fr, ok, q⟩ := h
    have hz : x.length ≤ sizeLine := Nat.le_trans hx (by decide)
    have hr1 : Room 1 _ := hr.mono (by decide)
    refine ⟨_, pss_cons (ps_set (i := 2) scWord.nd rfl (.inl rfl) (pe_call GR hr1 (by rfl) gR FR.kp bR .nil pass0 (pa_cons (pv 0) (pa_cons (pv 1) (pa_cons (pe_glob (v := .str "abcdefghijklmnopqrstuvwxyzABCDEFGHIJKLMNOPQRSTUVWXYZ_0123456789") (by rfl) hw ⟨tk, rfl⟩) pa_nil)))))
      (pss_cons (ps_set (i := 3) scWord.nd rfl (.inl rfl) (pe_slice sl_str (pv 0) (po_some (pv 1)) (po_some (pv 2))))
      (pss_cons (ps_set (i := 4) scWord.nd rfl (.inl rfl) (pe_ifExp (pt_cmpR op_in_seq (pe_bm0 PySem.F.plainAttrs_str PySem.F.slot_str_lower PySem.F.type_str_lower mt_lower (pv 3)) (pe_glob (v := .ref kw) (by rfl) hkw rfl) rfl) pe_str pe_str))
      (pss_one (ps_ret (pe_make T.M T.G hr (by rfl) T.g T.b5 .nil pass0 (pa_cons (pv 4) (pa_cons (pv 0) (pa_cons (pv 1) (pa_cons (pv 2) (pa_cons (pv 3) pa_nil)))))))))), ?_⟩
    have ha := len_lt hc
    refine ⟨.str x, rfl, .int a, rfl, x, _, a, rfl, hx, by omega, fun n hn hd hp => ?_⟩
    have n0 : 0 < n := hp c hc (letters_words c ok)
    have hg : ∀ l, ∃ m, Goes x a l (a + n) m ∧ m ≠ semi := fun l => by
      obtain ⟨m, g, _, q1⟩ := dull_run n a l fun k h1 h2 => by
        obtain ⟨d, e1, e2⟩ := hd k h1 h2
        exact ⟨d, e1, dull_words d e2⟩
      exact ⟨m, g, q1 n0⟩
    have hlow : Txt.lower (cutS x (some (a : Int)) (some ((a + n : Nat) : Int))) ≠ semi := by
      obtain ⟨r, e⟩ := cut_head hc (show a < a + n by omega)
      refine lower_ne e (List.mem_append_left _ (List.mem_append_left _ ok)) fun z => ?_
      have d := dull_words c (letters_words c ok)
      exact d.2.2.2 z
    refine ⟨.str x, rfl, .int a, rfl, a, rfl, .int _, rfl, _, rfl, x, rfl, hz, .str _, rfl, rfl, _, rfl, rfl, ?_, kw, ks, rfl, .inr (sk _), rfl, fk, _, rfl, ite2 (fun e1 => ?_) (fun e1 => ?_)⟩
    · have z := cutS_length x (some (a : Int)) (some ((a + n : Nat) : Int))
      omega
    all_goals
      refine ⟨.str _, rfl, .str x, rfl, .int a, rfl, .int _, rfl, .str _, rfl, fun p dx np ndx ne => ?_⟩
      refine tok_word q (by rfl) (show a < a + n by omega) hn (fun l => ?_) np ndx hx
      obtain ⟨m, g, hm⟩ := hg l
      exact ⟨m, g, fun z => absurd z hlow, fun z => absurd z hm⟩
end
end Ew

namespace Ew
open PySem PySem.Spec PyProof.Rows L2 Drw TL
theorem dull_place : ∀ c ∈ ([63, 58, 64, 36] : List Nat), Dull c := by
  have h : ∀ c ∈ ([63, 58, 64, 36] : List Nat), (c ≠ 39 ∧ c ≠ 34 ∧ c ≠ 32 ∧ c ≠ 10) ∧ c ≠ 45 ∧ c ≠ 47 ∧ c ≠ 59 := by decide
  exact h
theorem sQ2 : Str.ofString "\"" = ⟨#[34]⟩ := by decide +kernel
theorem sQ1 : Str.ofString "'" = ⟨#[39]⟩ := by decide +kernel
section
variable {P : Program} {w : World} {K : PySem.W.Frag} {mg : Str → Option Value} {base : Heap} {C fI : Addr} {fdI : FuncData}
theorem ok_quoted {f : Addr} {fd : FuncData} (F : Fun K "_quoted_token" "_quoted_token" sQuoted f fd) (T : Mks P w K mg base C fI fdI) : FnOk P w K mg base CX0 3 f fd ["sql", "at"] (spTok C (· = 34)) := by
  refine F.ok scQuoted (fun vs H Q E h => ?_) (fun cdv A outer s H vs Q E hr h => ?_)
  · obtain ⟨x, a, c, rfl, _⟩ := h
    rfl
  · obtain ⟨x, a, c, rfl, hx, hc, fr, rfl, q⟩ := h
    have hz : x.length ≤ sizeLine := Nat.le_trans hx (by decide)
    refine ⟨_, pss_cons (ps_set (i := 2) scQuoted.nd rfl (.inl rfl) (pe_bm PySem.F.plainAttrs_str PySem.F.slot_str_find PySem.F.type_str_find mt_find3 (pv 0) (pa_cons pe_str (pa_cons (pe_op op_add (pv 1) pe_int) pa_nil))))
      (pss_cons (ps_if (pt_cmpR op_lt (pv 2) pe_int (nomark _))
        (pss_one (ps_ret (pe_make T.M T.G hr (by rfl) T.g T.b4 (.cons (show L2.RelV .non .none from rfl) .nil) pass0 (pa_cons pe_str (pa_cons (pv 0) (pa_cons (pv 1) (pa_cons (pe_callB call_len_str (by rfl) T.len PySem.boot_len (pa_cons (pv 0) pa_nil)) pa_nil)))))))
        pss_nil)
      (pss_cons (ps_if (pt_cmpR op_eq (pv 2) (pe_op op_add (pv 1) pe_int) (nomark _))
        (pss_one (ps_ret (pe_make T.M T.G hr (by rfl) T.g T.b4 (.cons (show L2.RelV .non .none from rfl) .nil) pass0 (pa_cons pe_str (pa_cons (pv 0) (pa_cons (pv 1) (pa_cons (pe_op op_add (pv 2) pe_int) pa_nil)))))))
        pss_nil)
      (pss_one (ps_ret (pe_make T.M T.G hr (by rfl) T.g T.b5 .nil pass0 (pa_cons pe_str (pa_cons (pv 0) (pa_cons (pv 1) (pa_cons (pe_op op_add (pv 2) pe_int) (pa_cons (pe_slice sl_str (pv 0) (po_some (pe_op op_add (pv 1) pe_int)) (po_some (pv 2))) pa_nil)))))))))), ?_⟩
    have ha := len_lt hc
    have hn : ∀ l, nxt x a l = (fe x ⟨#[34]⟩ (a + 1), ⟨#[34]⟩) := fun l => by
      unfold nxt
      rw [fr.2.1, fr.2.2, if_neg Bool.false_ne_true, if_neg Bool.false_ne_true, hc, if_neg (by decide), if_pos rfl]
    have up := nxt_up (l := "") hc
    rw [hn] at up
    have hg : ∀ l, ∃ m, Goes x a l (fe x ⟨#[34]⟩ (a + 1)) m ∧ m ≠ semi := fun l => by
      have z := Goes.one (l := l) ha
      rw [hn] at z
      exact ⟨_, z, one_semi (by decide)⟩
    refine ⟨.str x, rfl, rfl, .int a, rfl, a, 1, rfl, rfl, x, _, ((a + 1 : Nat) : Int), rfl, rfl, ?_⟩
    rw [sQ2]
    refine ⟨.int _, rfl, _, 0, rfl, rfl, _, rfl, ite2 (fun e1 => ?_) (fun e1 => ?_)⟩
    · have e3 := fe_no (of_decide_eq_true e1)
      rw [e3] at hg up
      refine ⟨.str x, rfl, .int a, rfl, .str x, rfl, x, rfl, hz, fun p dx np ndx ne => ?_⟩
      exact tok_mute q (by rfl) up.1 up.2 hg np ndx hx
    · have e3 := fe_yes fun z => e1 (decide_eq_true z)
      have e4 : Txt.find3 x ⟨#[34]⟩ ((a + 1 : Nat) : Int) + 1 = ((fe x ⟨#[34]⟩ (a + 1) : Nat) : Int) := e3.symm
      refine ⟨.int _, rfl, .int a, rfl, a, 1, rfl, rfl, rfl, _, rfl, ite2 (fun e2 => ?_) (fun e2 => ?_)⟩
      · refine ⟨.str x, rfl, .int a, rfl, .int _, rfl, _, 1, rfl, rfl, fun p dx np ndx ne => ?_⟩
        show spInit C [.ref p, .str _, .str x, .int a, .int (Txt.find3 x ⟨#[34]⟩ ((a + 1 : Nat) : Int) + 1), _] _ _ _
        rw [e4]
        exact tok_mute q (by rfl) up.1 up.2 hg np ndx hx
      · refine ⟨.str x, rfl, .int a, rfl, .int _, rfl, _, 1, rfl, rfl, .str x, rfl, .int a, rfl, a, 1, rfl, rfl, _, rfl, .int _, rfl, _, rfl, x, rfl, hz, fun p dx np ndx ne => ?_⟩
        show spInit C [.ref p, .str _, .str x, .int a, .int (Txt.find3 x ⟨#[34]⟩ ((a + 1 : Nat) : Int) + 1), _] _ _ _
        rw [e4]
        exact tok_mute q (by rfl) up.1 up.2 hg np ndx hx
theorem ok_place {f fR : Addr} {fd fdR : FuncData} {tk tk2 : Nat} (F : Fun K "_placeholder_token" "_placeholder_token" sPlace f fd) (T : Mks P w K mg base C fI fdI) (FR : Fun K "_run_end" "_run_end" sRun fR fdR) (bR : Binds K fdR ["sql", "at", "letters"] []) (gR : mg "_run_end" = some (.ref fR))
    (hw : mg "WORD_SIGNS" = some (.str "abcdefghijklmnopqrstuvwxyzABCDEFGHIJKLMNOPQRSTUVWXYZ_0123456789" tk)) (hd : mg "DIGITS" = some (.str "0123456789" tk2)) (mm : mg "min" = none) :
    FnOk P w K mg base CX0 3 f fd ["sql", "at"] (spTok C (· ∈ ([63, 58, 64, 36] : List Nat))) := by
  have GR : FnOk P w K mg base CX0 1 fR fdR ["sql", "at", "letters"] spRun := ok_run FR T.len
  refine F.ok scPlace (fun vs H Q E h => ?_) (fun cdv A outer s H vs Q E hr h => ?_)
  · obtain ⟨x, a, c, rfl, _⟩ := h
    rfl
  · obtain ⟨x, a, c, rfl, hx, hc, fr, ok, q⟩ := h
    have hz : x.length ≤ sizeLine := Nat.le_trans hx (by decide)
    have hr1 : Room 1 _ := hr.mono (by decide)
    refine ⟨_, pss_cons (ps_if (pt_cmpR op_eq (pe_ix ix_str (pv 0) (pv 1) (fun _ _ => rfl)) pe_str (nomark _))
        (pss_cons (ps_set (i := 2) scPlace.nd rfl (.inl rfl) (pe_op op_add (pv 1) pe_int))
        (pss_cons (ps_if (pt_cmpR op_ne (pe_slice sl_str (pv 0) (po_some (pv 2)) (po_some (pe_op op_add (pv 2) pe_int))) pe_str (nomark _))
          (pss_one (ps_set (i := 2) scPlace.nd rfl (.inl rfl) (pe_callB (call_min2 rfl) (by rfl) mm (by decide +kernel) (pa_cons (pe_call GR hr1 (by rfl) gR FR.kp bR .nil pass0 (pa_cons (pv 0) (pa_cons (pv 2) (pa_cons (pe_glob (v := .str "0123456789") (by rfl) hd ⟨tk2, rfl⟩) pa_nil)))) (pa_cons (pe_op op_add (pv 1) pe_int) pa_nil)))))
          pss_nil)
        (pss_one (ps_ret (pe_make T.M T.G hr (by rfl) T.g T.b4 (.cons (show L2.RelV .non .none from rfl) .nil) pass0 (pa_cons pe_str (pa_cons (pv 0) (pa_cons (pv 1) (pa_cons (pv 2) pa_nil)))))))))
        pss_nil)
      (pss_cons (ps_set (i := 2) scPlace.nd rfl (.inl rfl) (pe_call GR hr1 (by rfl) gR FR.kp bR .nil pass0 (pa_cons (pv 0) (pa_cons (pe_op op_add (pv 1) pe_int) (pa_cons (pe_glob (v := .str "abcdefghijklmnopqrstuvwxyzABCDEFGHIJKLMNOPQRSTUVWXYZ_0123456789") (by rfl) hw ⟨tk, rfl⟩) pa_nil)))))
      (pss_cons (ps_set (i := 3) scPlace.nd rfl (.inl rfl) (pe_ifExp (pt_cmpR op_eq (pv 2) (pe_op op_add (pv 1) pe_int) (nomark _)) pe_str pe_str))
      (pss_one (ps_ret (pe_make T.M T.G hr (by rfl) T.g T.b4 (.cons (show L2.RelV .non .none from rfl) .nil) pass0 (pa_cons (pv 3) (pa_cons (pv 0) (pa_cons (pv 1) (pa_cons (pv 2) pa_nil))))))))), ?_⟩
    have ha := len_lt hc
    have run : ∀ n, (∀ k, a + 1 ≤ k → k < a + 1 + n → ∃ d, (tl x)[k]? = some d ∧ d ∈ wordSigns) → ∀ l, ∃ m, Goes x a l (a + 1 + n) m ∧ m ≠ semi := fun n hd l => by
      obtain ⟨m, g, q0, q1⟩ := dull_run (x := x) (1 + n) a l fun k h1 h2 => by
        rcases Nat.eq_or_lt_of_le h1 with h3 | h3
        · subst h3
          exact ⟨c, hc, dull_place c ok⟩
        · obtain ⟨d, e1, e2⟩ := hd k (by omega) (by omega)
          exact ⟨d, e1, dull_words d e2⟩
      rw [← Nat.add_assoc] at g
      exact ⟨m, g, q1 (by omega)⟩
    refine ⟨.str x, rfl, .int a, rfl, x, _, c, rfl, rfl, hz, atI_nat hc, rfl, _, rfl, ite2 (fun e1 => ?_) (fun e1 => ?_)⟩
    · refine ⟨.int a, rfl, a, 1, rfl, rfl, .str x, rfl, .int _, rfl, _, rfl, .int _, rfl, _, 1, rfl, rfl, _, rfl, x, rfl, hz, rfl, _, rfl, ite2 (fun e2 => ?_) (fun e2 => ?_)⟩
      · refine ⟨.str x, rfl, .int _, rfl, x, _, a + 1, rfl, hx, by omega, fun n hn hd hp => ?_⟩
        refine ⟨.int a, rfl, a, 3, rfl, rfl, _, _, rfl, ?_⟩
        have hd' : ∀ k, a + 1 ≤ k → k < a + 1 + n → ∃ d, (tl x)[k]? = some d ∧ d ∈ wordSigns := fun k h1 h2 => by
          obtain ⟨d, e3, e4⟩ := hd k h1 h2
          exact ⟨d, e3, digits_words d e4⟩
        have hmin : (if (a : Int) + 3 < ((a + 1 + n : Nat) : Int) then (a : Int) + 3 else ((a + 1 + n : Nat) : Int)) = ((a + 1 + min n 2 : Nat) : Int) := by
          split <;> omega
        refine ⟨.str x, rfl, .int a, rfl, _, rfl, fun p dx np ndx ne => ?_⟩
        show spInit C [.ref p, .str _, .str x, .int a, .int (if (a : Int) + 3 < ((a + 1 + n : Nat) : Int) then (a : Int) + 3 else ((a + 1 + n : Nat) : Int)), _] _ _ _
        rw [hmin]
        exact tok_mute q (by rfl) (by omega) (by omega) (run (min n 2) fun k h1 h2 => hd' k h1 (by omega)) np ndx hx
      · refine ⟨.str x, rfl, .int a, rfl, .int _, rfl, fun p dx np ndx ne => ?_⟩
        exact tok_mute (e := a + 1) q (by rfl) (by omega) (by omega) (run 0 fun k h1 h2 => by omega) np ndx hx
    · refine ⟨.str x, rfl, .int a, rfl, a, 1, rfl, rfl, x, _, a + 1, rfl, hx, by omega, fun n hn hd hp => ?_⟩
      refine ⟨.int _, rfl, .int a, rfl, a, 1, rfl, rfl, rfl, _, rfl, ite2 (fun e2 => ?_) (fun e2 => ?_)⟩
      all_goals
        refine ⟨.str _, rfl, .str x, rfl, .int a, rfl, .int _, rfl, fun p dx np ndx ne => ?_⟩
        exact tok_mute q (by rfl) (by omega) hn (run n hd) np ndx hx
end
end Ew

namespace Ew
open PySem PySem.Spec PyProof.Rows L2 Drw TL
theorem scText : FnScope ["sql", "at", "end"] ["sql", "at"] (defScope sText) := ⟨rfl, rfl, rfl, by decide +kernel, rfl, by decide +kernel, by decide +kernel⟩
def dblL : List (Nat × Nat) := [(124, 124), (60, 61), (62, 61), (60, 62), (33, 61), (61, 61)]
def dbl : List Str := dblL.map fun p => ⟨#[p.1, p.2]⟩
theorem dbl_ok : ∀ p ∈ dblL, p.1 ∈ letters ++ singles ++ [124, 33] ∧ p.1 ≠ 59 ∧ ((p.1 ≠ 39 ∧ p.1 ≠ 34 ∧ p.1 ≠ 32 ∧ p.1 ≠ 10) ∧ p.1 ≠ 45 ∧ p.1 ≠ 47) ∧ ((p.2 ≠ 39 ∧ p.2 ≠ 34 ∧ p.2 ≠ 32 ∧ p.2 ≠ 10) ∧ p.2 ≠ 45 ∧ p.2 ≠ 47 ∧ p.2 ≠ 59) := by decide +kernel
theorem in_dbl {s : Str} (h : inV (.str s) (dbl.map V.str) = true) : ∃ p ∈ dblL, s = ⟨#[p.1, p.2]⟩ := by
  unfold inV at h
  obtain ⟨y, hy, e⟩ := List.any_eq_true.mp h
  obtain ⟨z, hz, rfl⟩ := List.mem_map.mp hy
  obtain ⟨p, hp, rfl⟩ := List.mem_map.mp hz
  exact ⟨p, hp, (eq_of_beq (show ((⟨#[p.1, p.2]⟩ : Str) == s) = true from e)).symm⟩
section
variable {X : Cx} {es : List Expr} {ta : TA} {c : Str} {j : Nat} {cp : Pos}
theorem pa_strT (hr : PAT X es ta) (hs : starEach (.Constant (.str c) j cp :: es) X.env = (false, eval (.Constant (.str c) j cp) X.env) :: starEach es X.env := by rfl) : PA X (.Constant (.str c) j cp :: es) (tCons (tC (.str c)) ta) := by
  refine ⟨fun pos pins s σ H Q I h => ?_⟩
  rw [hs]
  show wpAny _ _ (spliced ((false, eval (.Constant (.str c) j cp) X.env) :: backTo pos (starEach es X.env))) _ _ s
  refine Calls.spliced_cons (Calls.Constant_str ?_)
  exact thn (hr pos pins { s with toks := s.toks + 1 } σ H _ (by show 1 ≤ s.toks + 1; omega) (I.tok _) h) fun us s2 ⟨xs, H2, I2, r2, q2⟩ => ⟨.str c :: xs, H2, I2, .cons ⟨_, rfl⟩ r2, q2⟩
end
section
variable {P : Program} {w : World} {K : PySem.W.Frag} {mg : Str → Option Value} {base : Heap} {C fI : Addr} {fdI : FuncData}
theorem ok_sign {f dw : Addr} {fd : FuncData} {tk : Nat} (F : Fun K "_sign_token" "_sign_token" sSign f fd) (T : Mks P w K mg base C fI fdI) (hd : mg "DOUBLE_SIGNS" = some (.ref dw)) (sd : ∀ H, SqT K H dw (dbl.map V.str)) (hs : mg "SINGLE_SIGNS" = some (.str "(),.;=<>+-*/" tk)) :
    FnOk P w K mg base CX0 3 f fd ["sql", "at"] (spTok C (fun c => c ≠ 39 ∧ c ≠ 34)) := by
  refine F.ok scSign (fun vs H Q E h => ?_) (fun cdv A outer s H vs Q E hr h => ?_)
  · obtain ⟨x, a, c, rfl, _⟩ := h
    rfl
  · obtain ⟨x, a, c, rfl, hx, hc, fr, ok, q⟩ := h
    have hz : x.length ≤ sizeLine := Nat.le_trans hx (by decide)
    refine ⟨_, pss_cons (ps_if (pt_cmpR op_in_seq (pe_slice sl_str (pv 0) (po_some (pv 1)) (po_some (pe_op op_add (pv 1) pe_int))) (pe_glob (v := .ref dw) (by rfl) hd rfl) rfl)
        (pss_one (ps_ret (pe_make T.M T.G hr (by rfl) T.g T.b4 (.cons (show L2.RelV .non .none from rfl) .nil) pass0 (pa_cons pe_str (pa_cons (pv 0) (pa_cons (pv 1) (pa_cons (pe_op op_add (pv 1) pe_int) pa_nil)))))))
        pss_nil)
      (pss_cons (ps_set (i := 2) scSign.nd rfl (.inl rfl) (pe_ifExp (pt_cmpR op_in_sign (pe_ix ix_str (pv 0) (pv 1) (fun _ _ => rfl)) (pe_glob (v := .str "(),.;=<>+-*/") (by rfl) hs ⟨tk, rfl⟩) rfl) pe_str pe_str))
      (pss_one (ps_ret (pe_make T.M T.G hr (by rfl) T.g T.b4 (.cons (show L2.RelV .non .none from rfl) .nil) pass0 (pa_cons (pv 2) (pa_cons (pv 0) (pa_cons (pv 1) (pa_cons (pe_op op_add (pv 1) pe_int) pa_nil)))))))), ?_⟩
    have ha := len_lt hc
    have own : Own c := ⟨ok.1, ok.2, (fr.1 c hc).1, (fr.1 c hc).2⟩
    have g1 : ∀ l, Goes x a l (a + 1) ⟨#[c]⟩ := fun l => own_step hc own fr.2.1 fr.2.2
    refine ⟨.str x, rfl, .int a, rfl, a, rfl, .int a, rfl, a, 2, rfl, rfl, _, rfl, x, rfl, hz, dw, _, rfl, .inr (sd _), rfl, by decide +kernel, _, rfl, ite2 (fun e1 => ?_) (fun e1 => ?_)⟩
    · obtain ⟨⟨c1, d1⟩, hp, es⟩ := in_dbl e1
      obtain ⟨p1, p2, p3, p4⟩ := dbl_ok _ hp
      have hpre := (cut2 x a c1 d1).mp es
      have ht : ((tl x).drop a).take 2 = [c1, d1] := eq_of_beq hpre
      rw [drop_at hc] at ht
      have hcc : c = c1 := by
        injection ht with h1 _
      have hd1 : (tl x)[a + 1]? = some d1 := by
        have h2 : ((tl x).drop (a + 1)).take 1 = [d1] := by
          injection ht with _ h2
        have h3 : (((tl x).drop (a + 1)).take 1)[0]? = some d1 := by
          rw [h2]
          rfl
        rw [List.getElem?_take, if_pos (by decide), List.getElem?_drop] at h3
        exact h3
      refine ⟨.str x, rfl, .int a, rfl, .int a, rfl, a, 2, rfl, rfl, fun p dx np ndx ne => ?_⟩
      have hl := len_lt hd1
      refine tok_word (e := a + 2) q (by rfl) (by omega) (by omega) (fun l => ⟨⟨#[d1]⟩, (g1 l).trans (dull_step hd1 ⟨p4.1, p4.2⟩), ?_, fun z => absurd z (one_semi p4.2.2.2)⟩) np ndx hx
      intro z
      obtain ⟨r, e⟩ := cut_head hc (show a < a + 2 by omega)
      exact absurd z (lower_ne e (by rw [hcc]; exact p1) (by rw [hcc]; exact p2))
    · refine ⟨.str x, rfl, .int a, rfl, x, _, c, rfl, rfl, hz, atI_nat hc, c, _, rfl, rfl, _, rfl, ite2 (fun e2 => ?_) (fun e2 => ?_)⟩
      · have hm : c ∈ singles := of_decide_eq_true e2
        refine ⟨.str _, rfl, .str x, rfl, .int a, rfl, .int a, rfl, a, 1, rfl, rfl, fun p dx np ndx ne => ?_⟩
        refine tok_word (e := a + 1) q (by rfl) (by omega) (by omega) (fun l => ⟨⟨#[c]⟩, g1 l, ?_⟩) np ndx hx
        have hcut : cutS x (some (a : Int)) (some ((a + 1 : Nat) : Int)) = ⟨#[c]⟩ := by
          refine ext_tl ?_
          rw [tl_cut, drop_at hc, show a + 1 - a = 0 + 1 by omega]
          rfl
        by_cases h59 : c = 59
        · subst h59
          exact ⟨fun _ => rfl, fun _ => by rw [hcut]; exact lower_semi⟩
        · refine ⟨fun z => ?_, fun z => absurd z (one_semi h59)⟩
          obtain ⟨r, e⟩ := cut_head hc (show a < a + 1 by omega)
          exact absurd z (lower_ne e (List.mem_append_left _ (List.mem_append_right _ hm)) h59)
      · have hm : ¬ c ∈ singles := fun z => e2 (decide_eq_true z)
        refine ⟨.str _, rfl, .str x, rfl, .int a, rfl, .int a, rfl, a, 1, rfl, rfl, fun p dx np ndx ne => ?_⟩
        refine tok_mute (e := a + 1) q (by rfl) (by omega) (by omega) (fun l => ⟨⟨#[c]⟩, g1 l, one_semi fun z => hm ?_⟩) np ndx hx
        rw [z]
        decide +kernel
end
end Ew

namespace Ew
open PySem PySem.Spec PyProof.Rows L2 Drw TL
section
variable {P : Program} {w : World} {K : PySem.W.Frag} {mg : Str → Option Value} {base : Heap} {C fI : Addr} {fdI : FuncData}
theorem ok_text {f : Addr} {fd : FuncData} (F : Fun K "_text_token" "_text_token" sText f fd) (T : Mks P w K mg base C fI fdI) : FnOk P w K mg base CX0 3 f fd ["sql", "at"] (spTok C (· = 39)) := by
  refine F.ok scText (fun vs H Q E h => ?_) (fun cdv A outer s H vs Q E hr h => ?_)
  · obtain ⟨x, a, c, rfl, _⟩ := h
    rfl
  · obtain ⟨x, a, c, rfl, hx, hc, fr, rfl, q⟩ := h
    have hz : x.length ≤ sizeLine := Nat.le_trans hx (by decide)
    refine ⟨_, pss_cons (ps_set (i := 2) scText.nd rfl (.inl rfl) (pe_bm PySem.F.plainAttrs_str PySem.F.slot_str_find PySem.F.type_str_find mt_find3 (pv 0) (pa_cons pe_str (pa_cons (pe_op op_add (pv 1) pe_int) pa_nil))))
      (pss_cons (ps_while PassesOwn.never (PW.pt (pw_and (pt_cmpR op_ge (pv 2) pe_int (nomark _)) (pw_and1 (pt_val (pe_bm PySem.F.plainAttrs_str PySem.F.slot_str_startswith PySem.F.type_str_startswith mt_startswith3 (pv 0) (pa_cons pe_str (pa_cons (pe_op op_add (pv 2) pe_int) pa_nil)))))))
        (pss_one (ps_set (i := 2) scText.nd rfl (.inl rfl) (pe_bm PySem.F.plainAttrs_str PySem.F.slot_str_find PySem.F.type_str_find mt_find3 (pv 0) (pa_cons pe_str (pa_cons (pe_op op_add (pv 2) pe_int) pa_nil))))))
      (pss_cons (ps_if (pt_cmpR op_lt (pv 2) pe_int (nomark _))
        (pss_one (ps_ret (pe_make T.M T.G hr (by rfl) T.g T.b4 (.cons (show L2.RelV .non .none from rfl) .nil) pass0 (pa_cons pe_str (pa_cons (pv 0) (pa_cons (pv 1) (pa_cons (pe_callB call_len_str (by rfl) T.len PySem.boot_len (pa_cons (pv 0) pa_nil)) pa_nil)))))))
        pss_nil)
      (pss_one (ps_ret (pe_make T.M T.G hr (by rfl) T.g T.b5 .nil pass0 (pa_strT (pat_cons (CwR.PET.of (pv 0)) (pat_cons (CwR.PET.of (pv 1)) (pat_cons (CwR.PET.of (pe_op op_add (pv 2) pe_int))
        (pat_cons (CwR.pet_replC (pe_slice sl_str (pv 0) (po_some (pe_op op_add (pv 1) pe_int)) (po_some (pv 2)))) pat_nil)))))))))), ?_⟩
    have ha := len_lt hc
    have step : ∀ b, (tl x)[b]? = some 39 → ∀ l, nxt x b l = (fe x ⟨#[39]⟩ (b + 1), ⟨#[39]⟩) := fun b hb l => by
      unfold nxt
      rw [pre_not hb (by decide), pre_not hb (by decide), if_neg Bool.false_ne_true, if_neg Bool.false_ne_true, hb, if_pos rfl]
    have up0 := nxt_up (l := "") hc
    rw [step a hc] at up0
    refine ⟨.str x, rfl, rfl, .int a, rfl, a, 1, rfl, rfl, x, _, ((a + 1 : Nat) : Int), rfl, rfl, ?_⟩
    rw [sQ1]
    refine ⟨fun m σ H' => H' = H ∧ ∃ i : Nat, σ = [some (.str x), some (.int a), some (.int (Txt.find3 x ⟨#[39]⟩ (i : Int)))] ∧ i ≤ x.length ∧ a < fe x ⟨#[39]⟩ i ∧ fe x ⟨#[39]⟩ i ≤ x.length ∧ x.length = fe x ⟨#[39]⟩ i + m ∧ ∀ l, Goes x a l (fe x ⟨#[39]⟩ i) ⟨#[39]⟩,
      ⟨x.length - fe x ⟨#[39]⟩ (a + 1), rfl, a + 1, rfl, by omega, up0.1, up0.2, by omega, fun l => ?_⟩, fun m σ H1 hW => ?_⟩
    · have z := Goes.one (l := l) ha
      rw [step a hc] at z
      exact z
    obtain ⟨rfl, i, rfl, hi, hb1, hb2, hm, g⟩ := hW
    have hg : ∀ l, ∃ m, Goes x a l (fe x ⟨#[39]⟩ i) m ∧ m ≠ semi := fun l => ⟨_, g l, one_semi (by decide)⟩
    refine ⟨.int _, rfl, _, 0, rfl, rfl, _, rfl, ite2 (fun e => ?_) (fun e => iteF ?_)⟩
    · have h0 : ¬ Txt.find3 x ⟨#[39]⟩ (i : Int) < 0 := by
        have z := of_decide_eq_true e
        omega
      have e4 : Txt.find3 x ⟨#[39]⟩ (i : Int) + 1 = ((fe x ⟨#[39]⟩ i : Nat) : Int) := (fe_yes h0).symm
      refine ⟨.str x, rfl, rfl, .int _, rfl, _, 1, rfl, rfl, x, _, Txt.find3 x ⟨#[39]⟩ (i : Int) + 1, rfl, rfl, _, rfl, ite2 (fun e1 => ?_) (fun e1 => ?_)⟩
      · rw [e4, sw3 (by decide) hb2] at e1
        have hlt : (tl x)[fe x ⟨#[39]⟩ i]? = some 39 := by
          have h1 : ((tl x).drop (fe x ⟨#[39]⟩ i)).take 1 = [39] := eq_of_beq e1
          have h3 : (((tl x).drop (fe x ⟨#[39]⟩ i)).take 1)[0]? = some 39 := by
            rw [h1]
            rfl
          rw [List.getElem?_take, if_pos (by decide), List.getElem?_drop] at h3
          exact h3
        have up := nxt_up (l := "") hlt
        rw [step _ hlt] at up
        have hl := len_lt hlt
        refine ⟨fun σ H2 => H2 = H1 ∧ σ = [some (.str x), some (.int a), some (.int (Txt.find3 x ⟨#[39]⟩ ((fe x ⟨#[39]⟩ i + 1 : Nat) : Int)))],
          fun σ2 H2 hN => ⟨x.length - fe x ⟨#[39]⟩ (fe x ⟨#[39]⟩ i + 1), by omega, hN.1, fe x ⟨#[39]⟩ i + 1, hN.2, by omega, by omega, up.2, by omega, fun l => (g l).trans ?_⟩, ?_⟩
        · have z := Goes.one (l := (⟨#[39]⟩ : Str)) hl
          rw [step _ hlt] at z
          exact z
        · refine ⟨.str x, rfl, rfl, .int _, rfl, _, 2, rfl, rfl, x, ⟨#[39]⟩, ((fe x ⟨#[39]⟩ i + 1 : Nat) : Int), rfl, ?_, rfl, ?_⟩
          · show [V.str _, V.int (Txt.find3 x ⟨#[39]⟩ (i : Int) + 2)] = _
            rw [show Txt.find3 x ⟨#[39]⟩ (i : Int) + 2 = ((fe x ⟨#[39]⟩ i + 1 : Nat) : Int) by omega]
          · try rw [sQ1]
            rfl
      · refine ⟨.int _, rfl, _, 0, rfl, rfl, _, rfl, ite2 (fun e2 => absurd (of_decide_eq_true e2) h0) (fun e2 => ?_)⟩
        refine ⟨.str x, rfl, .int a, rfl, .int _, rfl, _, 1, rfl, rfl, .str x, rfl, .int a, rfl, a, 1, rfl, rfl, _, rfl, .int _, rfl, _, rfl, x, rfl, hz, _, rfl, ?_, fun p dx np ndx ne => ?_⟩
        · have z1 := cutS_length x (some ((a : Int) + 1)) (some (Txt.find3 x ⟨#[39]⟩ (i : Int)))
          show (cutS x (some ((a : Int) + 1)) (some (Txt.find3 x ⟨#[39]⟩ (i : Int)))).length + ((cutS x (some ((a : Int) + 1)) (some (Txt.find3 x ⟨#[39]⟩ (i : Int)))).length + 1) * 1 ≤ 16777216
          omega
        · show spInit C [.ref p, .str _, .str x, .int a, .int (Txt.find3 x ⟨#[39]⟩ (i : Int) + 1), _] _ _ _
          rw [e4]
          exact tok_mute q (by rfl) hb1 hb2 hg np ndx hx
    · have h0 : Txt.find3 x ⟨#[39]⟩ (i : Int) < 0 := by
        have z : ¬ (0 : Int) ≤ Txt.find3 x ⟨#[39]⟩ (i : Int) := fun z => e (decide_eq_true z)
        omega
      rw [fe_no h0] at hg hb1
      refine ⟨.int _, rfl, _, 0, rfl, rfl, _, rfl, ite2 (fun e2 => ?_) (fun e2 => absurd (decide_eq_true h0) e2)⟩
      refine ⟨.str x, rfl, .int a, rfl, .str x, rfl, x, rfl, hz, fun p dx np ndx ne => ?_⟩
      exact tok_mute q (by rfl) hb1 (Nat.le_refl _) hg np ndx hx
end
end Ew

namespace Ew
open PySem PySem.Spec PyProof.Rows L2 Drw TL
theorem scAt : FnScope ["sql", "at", "first"] ["sql", "at"] (defScope sAt) := ⟨rfl, rfl, rfl, by decide +kernel, rfl, by decide +kernel, by decide +kernel⟩
theorem scScan : FnScope ["sql", "tokens", "at", "token"] ["sql"] (defScope sScan) := ⟨rfl, rfl, rfl, by decide +kernel, rfl, by decide +kernel, by decide +kernel⟩
/-- a def that may be called by its name -/
structure Can (P : Program) (w : World) (K : PySem.W.Frag) (mg : Str → Option Value) (base : Heap) (k : Nat) (name : Str) (ps : List Str) (sp : Sp) (f : Addr) (fd : FuncData) : Prop where
  G : FnOk P w K mg base CX0 k f fd ps sp
  g : mg name = some (.ref f)
  kp : PySem.W.keepIn K (.ref f) = true
  b : Binds K fd ps []
theorem words_place {c : Nat} (h : c ∈ tl (Str.ofString "?:@$")) : c ∈ ([63, 58, 64, 36] : List Nat) := by
  have e : tl (Str.ofString "?:@$") = [63, 58, 64, 36] := by decide +kernel
  rwa [e] at h
theorem eq_one {c d : Nat} {s : Str} (hs : s = ⟨#[d]⟩) : decide (V.str ⟨#[c]⟩ = V.str s) = decide (c = d) := by
  subst hs
  refine decide_eq_decide.mpr ⟨fun z => ?_, fun z => by rw [z]⟩
  have z1 := V.str.inj z
  injection z1 with z2
  simpa using z2
section
variable {P : Program} {w : World} {K : PySem.W.Frag} {mg : Str → Option Value} {base : Heap} {C : Addr}
theorem ok_at {f f1 f2 f3 f4 f5 f6 : Addr} {fd d1 d2 d3 d4 d5 d6 : FuncData} {t1 t2 : Nat} (F : Fun K "_token_at" "_token_at" sAt f fd)
    (W : Can P w K mg base 3 "_word_token" ["sql", "at"] (spTok C (· ∈ letters)) f1 d1) (I : Can P w K mg base 3 "_integer_token" ["sql", "at"] (spTok C (· ∈ digits)) f2 d2)
    (T : Can P w K mg base 3 "_text_token" ["sql", "at"] (spTok C (· = 39)) f3 d3) (U : Can P w K mg base 3 "_quoted_token" ["sql", "at"] (spTok C (· = 34)) f4 d4)
    (L : Can P w K mg base 3 "_placeholder_token" ["sql", "at"] (spTok C (· ∈ ([63, 58, 64, 36] : List Nat))) f5 d5) (S : Can P w K mg base 3 "_sign_token" ["sql", "at"] (spTok C (fun c => c ≠ 39 ∧ c ≠ 34)) f6 d6)
    (hl : mg "LETTERS" = some (.str "abcdefghijklmnopqrstuvwxyzABCDEFGHIJKLMNOPQRSTUVWXYZ_" t1)) (hd : mg "DIGITS" = some (.str "0123456789" t2)) :
    FnOk P w K mg base CX0 4 f fd ["sql", "at"] (spTok C (fun _ => True)) := by
  refine F.ok scAt (fun vs H Q E h => ?_) (fun cdv A outer s H vs Q E hr h => ?_)
  · obtain ⟨x, a, c, rfl, _⟩ := h
    rfl
  · obtain ⟨x, a, c, rfl, hx, hc, fr, _, q⟩ := h
    have hz : x.length ≤ sizeLine := Nat.le_trans hx (by decide)
    refine ⟨_, pss_cons (ps_set (i := 2) scAt.nd rfl (.inl rfl) (pe_ix ix_str (pv 0) (pv 1) (fun _ _ => rfl)))
      (pss_cons (ps_if (pt_cmpR op_in_sign (pv 2) (pe_glob (v := .str "abcdefghijklmnopqrstuvwxyzABCDEFGHIJKLMNOPQRSTUVWXYZ_") (by rfl) hl ⟨t1, rfl⟩) rfl)
        (pss_one (ps_ret (pe_call W.G hr (by rfl) W.g W.kp W.b .nil pass0 (pa_cons (pv 0) (pa_cons (pv 1) pa_nil))))) pss_nil)
      (pss_cons (ps_if (pt_cmpR op_in_sign (pv 2) (pe_glob (v := .str "0123456789") (by rfl) hd ⟨t2, rfl⟩) rfl)
        (pss_one (ps_ret (pe_call I.G hr (by rfl) I.g I.kp I.b .nil pass0 (pa_cons (pv 0) (pa_cons (pv 1) pa_nil))))) pss_nil)
      (pss_cons (ps_if (pt_cmpR op_eq (pv 2) pe_str (nomark _))
        (pss_one (ps_ret (pe_call T.G hr (by rfl) T.g T.kp T.b .nil pass0 (pa_cons (pv 0) (pa_cons (pv 1) pa_nil))))) pss_nil)
      (pss_cons (ps_if (pt_cmpR op_eq (pv 2) pe_str (nomark _))
        (pss_one (ps_ret (pe_call U.G hr (by rfl) U.g U.kp U.b .nil pass0 (pa_cons (pv 0) (pa_cons (pv 1) pa_nil))))) pss_nil)
      (pss_cons (ps_if (pt_cmpR op_in_sign (pv 2) pe_str rfl)
        (pss_one (ps_ret (pe_call L.G hr (by rfl) L.g L.kp L.b .nil pass0 (pa_cons (pv 0) (pa_cons (pv 1) pa_nil))))) pss_nil)
      (pss_one (ps_ret (pe_call S.G hr (by rfl) S.g S.kp S.b .nil pass0 (pa_cons (pv 0) (pa_cons (pv 1) pa_nil)))))))))), ?_⟩
    refine ⟨.str x, rfl, .int a, rfl, x, _, c, rfl, rfl, hz, atI_nat hc, ?_⟩
    refine ⟨.str _, rfl, c, _, rfl, rfl, _, rfl, ite2 (fun e1 => ?_) (fun e1 => ?_)⟩
    · exact ⟨.str x, rfl, .int a, rfl, x, a, c, rfl, hx, hc, fr, of_decide_eq_true e1, q⟩
    refine ⟨.str _, rfl, c, _, rfl, rfl, _, rfl, ite2 (fun e2 => ?_) (fun e2 => ?_)⟩
    · exact ⟨.str x, rfl, .int a, rfl, x, a, c, rfl, hx, hc, fr, of_decide_eq_true e2, q⟩
    refine ⟨.str _, rfl, rfl, _, rfl, ite2 (fun e3 => ?_) (fun e3 => ?_)⟩
    · exact ⟨.str x, rfl, .int a, rfl, x, a, c, rfl, hx, hc, fr, of_decide_eq_true ((eq_one sQ1).symm.trans e3), q⟩
    refine ⟨.str _, rfl, rfl, _, rfl, ite2 (fun e4 => ?_) (fun e4 => ?_)⟩
    · exact ⟨.str x, rfl, .int a, rfl, x, a, c, rfl, hx, hc, fr, of_decide_eq_true ((eq_one sQ2).symm.trans e4), q⟩
    refine ⟨.str _, rfl, c, _, rfl, rfl, _, rfl, ite2 (fun e5 => ?_) (fun e5 => ?_)⟩
    · exact ⟨.str x, rfl, .int a, rfl, x, a, c, rfl, hx, hc, fr, words_place (of_decide_eq_true e5), q⟩
    · exact ⟨.str x, rfl, .int a, rfl, x, a, c, rfl, hx, hc, fr, ⟨fun z => e3 ((eq_one sQ1).trans (decide_eq_true z)), fun z => e4 ((eq_one sQ2).trans (decide_eq_true z))⟩, q⟩
/-- what the last of the tokens tells -/
def LastOk (C : Addr) (H : Hp) (ts : List V) (m : Str) : Prop := (ts = [] ∧ m = "") ∨ ∃ (us : List V) (p : Addr) (e : Nat) (w : Str), ts = us ++ [.ref p] ∧ TokAt C H p e w ∧ (w = semi ↔ m = semi)
def spScan (C : Addr) : Sp := fun vs H Q _ => ∃ x : Str, vs = [.str x] ∧ x.length ≤ 640 ∧
  ∀ H' (t : Addr) (ts : List V) (n : Nat) (m : Str), Al H H' → H t = none → H' t = some (.lst ts) → ts.length ≤ 640 → Goes x 0 "" n m → x.length ≤ n → LastOk C H' ts m → Q (.ref t) H'
theorem TokAt.al {H H' : Hp} {p : Addr} {e : Nat} {w : Str} (h : TokAt C H p e w) (k : H p = H' p) : TokAt C H' p e w := by
  obtain ⟨dx, fs, h1, h2, h3⟩ := h
  exact ⟨dx, fs, k ▸ h1, h2, h3⟩
theorem LastOk.al {H H' : Hp} {ts : List V} {m : Str} (h : LastOk C H ts m) (k : Al H H') : LastOk C H' ts m := by
  rcases h with h | ⟨us, p, e, w, h1, h2, h3⟩
  · exact .inl h
  · obtain ⟨dx, fs, g1, g2, g3⟩ := h2
    exact .inr ⟨us, p, e, w, h1, ⟨dx, fs, k p _ g1, g2, g3⟩, h3⟩
theorem LastOk.goes {H : Hp} {ts : List V} {m m' : Str} (h : LastOk C H ts m) (e : m' = m) : LastOk C H ts m' := e ▸ h
theorem ok_scan {f fN fA : Addr} {fd dN dA : FuncData} (F : Fun K "scan" "scan" sScan f fd) (N : Can P w K mg base 2 "_next_start" ["sql", "at"] spNext fN dN) (A' : Can P w K mg base 4 "_token_at" ["sql", "at"] (spTok C (fun _ => True)) fA dA)
    (T : TokC K C) (ml : mg "len" = none) : FnOk P w K mg base CX0 5 f fd ["sql"] (spScan C) := by
  refine F.ok scScan (fun vs H Q E h => ?_) (fun cdv A outer s H vs Q E hr h => ?_)
  · obtain ⟨x, rfl, _⟩ := h
    rfl
  · obtain ⟨x, rfl, hx, q⟩ := h
    have hz : x.length ≤ sizeLine := Nat.le_trans hx (by decide)
    have hr2 : Room 2 _ := hr.mono (by decide)
    refine ⟨_, pss_cons (ps_set (i := 1) scScan.nd rfl (.inl rfl) (pe_lst pa_nil))
      (pss_cons (ps_set (i := 2) scScan.nd rfl (.inl rfl) (pe_call N.G hr2 (by rfl) N.g N.kp N.b .nil pass0 (pa_cons (pv 0) (pa_cons pe_int pa_nil))))
      (pss_cons (ps_while PassesOwn.never (pt_cmpR op_lt (pv 2) (pe_callB call_len_str (by rfl) ml PySem.boot_len (pa_cons (pv 0) pa_nil)) (nomark _))
        (pss_cons (ps_set (i := 3) scScan.nd rfl (.inl rfl) (pe_call A'.G hr (by rfl) A'.g A'.kp A'.b .nil pass0 (pa_cons (pv 0) (pa_cons (pv 2) pa_nil))))
        (pss_cons (ps_expr (pe_bm PySem.F.plainAttrs_list PySem.F.slot_list_append PySem.F.type_list_append mt_append (pv 1) (pa_cons (pv 3) pa_nil)))
        (pss_one (ps_set (i := 2) scScan.nd rfl (.inl rfl) (pe_call N.G hr2 (by rfl) N.g N.kp N.b .nil pass0 (pa_cons (pv 0) (pa_cons (pe_fld (pv 3) rfl) pa_nil))))))))
      (pss_one (ps_ret (pv 1))))), ?_⟩
    refine ⟨Nat.zero_le _, fun t nt => ?_⟩
    refine ⟨.str x, rfl, x, 0, rfl, hx, Nat.zero_le _, fun b0 hb0 hb1 g0 f0 => ?_⟩
    refine ⟨fun m σ H' => ∃ (b : Nat) (ts : List V) (l : Str) (y3 : Option V), σ = [some (.str x), some (.ref t), some (.int b), y3] ∧ b ≤ x.length ∧ b + m = x.length ∧ Goes x 0 "" b l ∧ (b < x.length → Free x b) ∧
        Al H H' ∧ H' t = some (.lst ts) ∧ ts.length ≤ b ∧ LastOk C H' ts l,
      ⟨x.length - b0, b0, [], "", none, rfl, hb1, by omega, g0 "", f0, Al.refl.new nt, upd_same, Nat.zero_le _, .inl ⟨rfl, rfl⟩⟩, fun m σ H1 hW => ?_⟩
    obtain ⟨b, ts, l, y3, rfl, hb, hm, g, fr, k, ht, hlen, lo⟩ := hW
    refine ⟨.int b, rfl, .str x, rfl, x, rfl, hz, _, _, rfl, rfl, _, rfl, ite2 (fun e => ?_) (fun e => ?_)⟩
    · have hbx : b < x.length := by
        have z := of_decide_eq_true e
        omega
      have hal : b < (tl x).length := by
        rw [← len_tl]
        exact hbx
      refine ⟨fun σ H' => ∃ (b' : Nat) (ts : List V) (l : Str) (y3 : Option V), σ = [some (.str x), some (.ref t), some (.int b'), y3] ∧ b < b' ∧ b' ≤ x.length ∧ Goes x 0 "" b' l ∧ (b' < x.length → Free x b') ∧
        Al H H' ∧ H' t = some (.lst ts) ∧ ts.length ≤ b' ∧ LastOk C H' ts l, fun σ2 H2 hN => ?_, ?_⟩
      · obtain ⟨b', ts', l', y3', rfl, u1, u2, u3, u4, u5, u6, u7, u8⟩ := hN
        exact ⟨x.length - b', by omega, b', ts', l', y3', rfl, u2, by omega, u3, u4, u5, u6, u7, u8⟩
      · refine ⟨.str x, rfl, .int b, rfl, x, b, _, rfl, hx, List.getElem?_eq_getElem hal, fr hbx, trivial, fun H2 p e' w' k2 np tok he1 he2 hgo => ?_⟩
        have ht2 := k2 t _ ht
        have tp : p ≠ t := fun z => by
          rw [z, ht] at np
          cases np
        obtain ⟨m', g', hw'⟩ := hgo l
        refine ⟨.ref t, rfl, .inl ⟨rfl, _, sq ht2⟩, .ref p, rfl, t, ts, _, rfl, rfl, ht2, Nat.lt_of_le_of_lt hlen (Nat.lt_of_le_of_lt hb (Nat.lt_of_le_of_lt hx (by decide))), ?_⟩
        have tok3 : TokAt C (upd H2 t (.lst (ts ++ [.ref p]))) p e' w' := tok.al (upd_ne tp).symm
        obtain ⟨dx, fs, o1, o2, o3⟩ := tok3
        refine ⟨.str x, rfl, .ref p, rfl, p, C, dx, fs, .int e', rfl, o1, T.cl, T.n3, o2, x, e', rfl, hx, he2, fun b' hb1' hb2' g1' f1' => ?_⟩
        refine ⟨b', ts ++ [.ref p], m', _, rfl, by omega, hb2', (g.trans g').trans (g1' m'), f1', ?_, upd_same, by simp; omega, .inr ⟨ts, p, e', w', rfl, ⟨dx, fs, o1, o2, o3⟩, hw'⟩⟩
        intro c o z
        have nc : c ≠ t := fun y => by
          have n0 : H t = none := nt
          rw [y, n0] at z
          cases z
        rw [upd_ne nc]
        exact k2 c o (k c o z)
    · have hle : x.length ≤ b := by
        have z : ¬ (b : Int) < (x.length : Int) := fun z => e (decide_eq_true z)
        omega
      exact ⟨.ref t, rfl, q H1 t ts b l k nt ht (by omega) g hle lo⟩
end
end Ew

namespace Sam
open PySem PySem.Calls PyProof.Rows PySem.Spec L2 Drw
theorem iT {c : Bool} {A B : Prop} (h : c = true) (a : A) : if c = true then A else B := by
  rw [if_pos h]
  exact a
theorem iF {c : Bool} {A B : Prop} (h : c = false) (b : B) : if c = true then A else B := by
  rw [h]
  exact iteF b
theorem scSame : FnScope ["_law_found", "_law_due", "_law_one_here", "_law_two"] ["_law_found", "_law_due"] (defScope sSame) := ⟨rfl, rfl, rfl, by decide +kernel, rfl, by decide +kernel, by decide +kernel⟩
inductive Leaf : V → String → Prop
  | non : Leaf .non "NoneType"
  | bl (b : Bool) : Leaf (.bl b) "bool"
  | int (i : Int) : Leaf (.int i) "int"
  | str (s : Str) : Leaf (.str s) "str"
theorem Leaf.ty {K : PySem.W.Frag} {H : Hp} {x : V} {t : String} (l : Leaf x t) : TyX K H x (.type t) := by
  cases l with
  | non => exact .base .non
  | bl b => exact .base (.bl b)
  | int i => exact .base (.int i)
  | str s => exact .base (.str s)
def spLeaf : Sp := fun vs H Q _ => ∃ (x : V) (t : String), vs = [x, x] ∧ Leaf x t ∧ ∀ H', Al H H' → Q (.bl true) H'
def spList : Sp := fun vs H Q _ => ∃ (a b : Addr) (xs : List V), vs = [.ref a, .ref b] ∧ H a = some (.lst xs) ∧ H b = some (.lst xs) ∧ (∀ x ∈ xs, ∃ t, Leaf x t) ∧ xs.length ≤ 1000 ∧ ∀ H', Al H H' → Q (.bl true) H'
def spSame (deep : Bool) : Sp := fun vs H Q E => spLeaf vs H Q E ∨ (deep = true ∧ spList vs H Q E)
def spRec (deep : Bool) : Sp := fun vs H Q E => deep = true ∧ spLeaf vs H Q E
theorem no1 {K : PySem.W.Frag} {t c : Value} {cs : List Value} {r : Bool} (h : PySem.W.kitOne K t c = some false) (hr : PySem.W.kitAny K t cs = some r) : PySem.W.kitAny K t (c :: cs) = some r :=
  kitAny_cons h (fun _ => hr) (fun z => Bool.noConfusion z)
theorem yes1 {K : PySem.W.Frag} {t c : Value} {cs : List Value} (h : PySem.W.kitOne K t c = some true) : PySem.W.kitAny K t (c :: cs) = some true :=
  kitAny_cons h (fun z => Bool.noConfusion z) (fun _ => rfl)
theorem Leaf.k2 {K : PySem.W.Frag} {x : V} {t : String} (l : Leaf x t) : PySem.W.kitAny K (.type t) [.type "list", .type "tuple"] = some false := by
  cases l <;> exact no1 (kit_ty (by decide +kernel)) (no1 (kit_ty (by decide +kernel)) kitAny_nil)
theorem eq_leaf {x : V} {t : String} (l : Leaf x t) : scal x x = true := by cases l <;> rfl
section
variable {P : Program} {w : World} {K : PySem.W.Frag} {mg : Str → Option Value} {base : Heap}
theorem ok_same1 {f : Addr} {fd : FuncData} {k : Nat} {deep : Bool} (F : Fun K "_law_same" "_law_same" sSame f fd) (bS : Binds K fd ["_law_found", "_law_due"] []) (gS : mg "_law_same" = some (.ref f)) (mi : mg "isinstance" = none) (ml : mg "len" = none) (mz : mg "zip" = none) (m_all : mg "all" = none)
    (m_list : mg "list" = none) (m_tuple : mg "tuple" = none) (m_int : mg "int" = none) (m_bool : mg "bool" = none) (G : FnOk P w K mg base CX0 k f fd ["_law_found", "_law_due"] (spRec deep)) : FnOk P w K mg base CX0 (k + 1) f fd ["_law_found", "_law_due"] (spSame deep) := by
  refine F.ok scSame (fun vs H Q E h => ?_) (fun cdv A outer s H vs Q E hr h => ?_)
  · rcases h with ⟨x, t, rfl, _⟩ | ⟨_, a, b, xs, rfl, _⟩ <;> rfl
  · refine ⟨_, pss_cons (ps_if (pt_val (pe_callB call_isiT (by rfl) mi boot_isinstance (pa_cons (pv 1) (pa_cons (pe_tup (pa_cons (pe_bltn (v := .ty "list") (by rfl) m_list (by decide +kernel) rfl) (pa_cons (pe_bltn (v := .ty "tuple") (by rfl) m_tuple (by decide +kernel) rfl) pa_nil))) pa_nil))))
        (pss_cons (ps_if (PW.pt (pw_or (pt_cmpR op_ne (pe_callB call_isi (by rfl) mi boot_isinstance (pa_cons (pv 0) (pa_cons (pe_bltn (v := .ty "list") (by rfl) m_list (by decide +kernel) rfl) pa_nil))) (pe_callB call_isi (by rfl) mi boot_isinstance (pa_cons (pv 1) (pa_cons (pe_bltn (v := .ty "list") (by rfl) m_list (by decide +kernel) rfl) pa_nil))) (nomark _)) (pw_or1 (pt_cmpR op_ne (pe_callB call_isi (by rfl) mi boot_isinstance (pa_cons (pv 0) (pa_cons (pe_bltn (v := .ty "tuple") (by rfl) m_tuple (by decide +kernel) rfl) pa_nil))) (pe_callB call_isi (by rfl) mi boot_isinstance (pa_cons (pv 1) (pa_cons (pe_bltn (v := .ty "tuple") (by rfl) m_tuple (by decide +kernel) rfl) pa_nil))) (nomark _))))) (pss_one (ps_ret pe_bl)) pss_nil)
        (pss_one (ps_ret (pe_and (pe_cmpR op_eq (pe_callB call_len_seq (by rfl) ml PySem.boot_len (pa_cons (pv 0) pa_nil)) (pe_callB call_len_seq (by rfl) ml PySem.boot_len (pa_cons (pv 1) pa_nil)) (nomark _)) (pe_one (pe_callB (cr_all rfl) (by rfl) m_all boot_all (pa_cons (pe_lc (own := [("_law_one_here", 2), ("_law_two", 3)]) (g := gTup K 2 (gCons (gName 2) (gCons (gName 3) gNil))) (tt := tYes) rfl scSame.nd (pi_zip (by rfl) mz (pa_cons (pv 0) (pa_cons (pv 1) pa_nil))) (blkOk_by (N := ["_law_found", "_law_due", "_law_one_here", "_law_two"]) (sc := defScope sSame) (by decide +kernel)) (fun _ _ _ _ _ => pg_tup rfl (pgs_cons (pg_name (i := 2) scSame.nd rfl (Or.inl rfl)) (pgs_cons (pg_name (i := 3) scSame.nd rfl (Or.inl rfl)) pgs_nil))) (fun _ _ _ _ _ => pts_nil) (fun _ _ _ _ _ => pe_call G hr (by rfl) gS F.kp bS .nil pass0 (pa_cons (pv 2) (pa_cons (pv 3) pa_nil)))) pa_nil))))))) pss_nil)
      (pss_cons (ps_if (pt_val (pe_callB call_isi (by rfl) mi boot_isinstance (pa_cons (pv 1) (pa_cons (pe_bltn (v := .ty "int") (by rfl) m_int (by decide +kernel) rfl) pa_nil))))
        (pss_one (ps_ret (pe_and (pe_callB call_isi (by rfl) mi boot_isinstance (pa_cons (pv 0) (pa_cons (pe_bltn (v := .ty "int") (by rfl) m_int (by decide +kernel) rfl) pa_nil))) (pe_and (pe_cmpR op_eq (pe_callB call_isi (by rfl) mi boot_isinstance (pa_cons (pv 0) (pa_cons (pe_bltn (v := .ty "bool") (by rfl) m_bool (by decide +kernel) rfl) pa_nil))) (pe_callB call_isi (by rfl) mi boot_isinstance (pa_cons (pv 1) (pa_cons (pe_bltn (v := .ty "bool") (by rfl) m_bool (by decide +kernel) rfl) pa_nil))) (nomark _)) (pe_one (pe_cmpR op_eq (pv 0) (pv 1) (nomark _))))))) pss_nil)
      (pss_one (ps_ret (pe_and (pe_cmpR op_isBl (pe_callB call_isiT (by rfl) mi boot_isinstance (pa_cons (pv 0) (pa_cons (pe_tup (pa_cons (pe_bltn (v := .ty "bool") (by rfl) m_bool (by decide +kernel) rfl) (pa_cons (pe_bltn (v := .ty "int") (by rfl) m_int (by decide +kernel) rfl) (pa_cons (pe_bltn (v := .ty "list") (by rfl) m_list (by decide +kernel) rfl) (pa_cons (pe_bltn (v := .ty "tuple") (by rfl) m_tuple (by decide +kernel) rfl) pa_nil))))) pa_nil))) pe_bl (nomark _)) (pe_one (pe_cmpR op_eq (pv 0) (pv 1) (nomark _))))))), ?_⟩
    rcases h with ⟨x, t, rfl, lf, q⟩ | ⟨hd, a, b, xs, rfl, ha, hb, hx, hz, q⟩
    · refine ⟨x, rfl, by show 2 ≤ sizeLine; decide, fun tp ntp => ⟨x, tp, _, .type t, _, false, rfl, upd_same, .cons (.ty _) (.cons (.ty _) .nil), lf.ty, lf.k2, false, rfl, iteF ?_⟩⟩
      have k1 := (Drw.Al.refl (H := H)).new (o := .tup [.ty "list", .ty "tuple"]) ntp
      cases lf with
      | non =>
        refine ⟨_, rfl, _, _, _, .type "int", false, rfl, .ty _, .base .non, kit_ty (by decide +kernel), false, rfl, iteF ?_⟩
        refine ⟨_, rfl, by show 4 ≤ sizeLine; decide, fun t2 n2 => ⟨_, t2, _, _, _, false, rfl, upd_same, .cons (.ty _) (.cons (.ty _) (.cons (.ty _) (.cons (.ty _) .nil))), .base .non,
          no1 (kit_ty (by decide +kernel)) (no1 (kit_ty (by decide +kernel)) (no1 (kit_ty (by decide +kernel)) (no1 (kit_ty (by decide +kernel)) kitAny_nil))), false, false, rfl, rfl, _, rfl, iT (by decide) ⟨_, rfl, _, rfl, rfl, ?_⟩⟩⟩
        exact q _ (k1.new n2)
      | str s =>
        refine ⟨_, rfl, _, _, _, .type "int", false, rfl, .ty _, .base (.str s), kit_ty (by decide +kernel), false, rfl, iteF ?_⟩
        refine ⟨_, rfl, by show 4 ≤ sizeLine; decide, fun t2 n2 => ⟨_, t2, _, _, _, false, rfl, upd_same, .cons (.ty _) (.cons (.ty _) (.cons (.ty _) (.cons (.ty _) .nil))), .base (.str s),
          no1 (kit_ty (by decide +kernel)) (no1 (kit_ty (by decide +kernel)) (no1 (kit_ty (by decide +kernel)) (no1 (kit_ty (by decide +kernel)) kitAny_nil))), false, false, rfl, rfl, _, rfl, iT (by decide) ⟨_, rfl, _, rfl, rfl, ?_⟩⟩⟩
        rw [decide_eq_true rfl]
        exact q _ (k1.new n2)
      | bl c =>
        refine ⟨_, rfl, _, _, _, .type "int", true, rfl, .ty _, .base (.bl c), kit_ty (by decide +kernel), true, rfl, iteT ?_⟩
        refine ⟨_, rfl, _, _, _, .type "int", true, rfl, .ty _, .base (.bl c), kit_ty (by decide +kernel), true, rfl, iteT ?_⟩
        refine ⟨_, rfl, _, _, _, .type "bool", true, rfl, .ty _, .base (.bl c), kit_ty (by decide +kernel), _, rfl, _, _, _, .type "bool", true, rfl, .ty _, .base (.bl c), kit_ty (by decide +kernel), rfl, _, rfl, iT (by decide) ⟨_, rfl, _, rfl, rfl, ?_⟩⟩
        rw [decide_eq_true rfl]
        exact q _ k1
      | int c =>
        refine ⟨_, rfl, _, _, _, .type "int", true, rfl, .ty _, .base (.int c), kit_ty (by decide +kernel), true, rfl, iteT ?_⟩
        refine ⟨_, rfl, _, _, _, .type "int", true, rfl, .ty _, .base (.int c), kit_ty (by decide +kernel), true, rfl, iteT ?_⟩
        refine ⟨_, rfl, _, _, _, .type "bool", false, rfl, .ty _, .base (.int c), kit_ty (by decide +kernel), _, rfl, _, _, _, .type "bool", false, rfl, .ty _, .base (.int c), kit_ty (by decide +kernel), rfl, _, rfl, iT (by decide) ⟨_, rfl, _, rfl, rfl, ?_⟩⟩
        rw [decide_eq_true rfl]
        exact q _ k1
    · refine ⟨.ref b, rfl, by show 2 ≤ sizeLine; decide, fun tp ntp => ?_⟩
      have k1 := (Drw.Al.refl (H := H)).new (o := .tup [.ty "list", .ty "tuple"]) ntp
      have ha1 := k1 _ _ ha
      have hb1 := k1 _ _ hb
      refine ⟨.ref b, tp, _, .type "list", _, true, rfl, upd_same, .cons (.ty _) (.cons (.ty _) .nil), .base (.lst hb1), yes1 (kit_ty (by decide +kernel)), true, rfl, iteT ?_⟩
      refine ⟨.ref a, rfl, _, _, .type "list", .type "list", true, rfl, .ty _, .base (.lst ha1), kit_ty (by decide +kernel), .ref b, rfl, _, _, .type "list", .type "list", true, rfl, .ty _, .base (.lst hb1), kit_ty (by decide +kernel), rfl, _, rfl, iF (by decide) ?_⟩
      refine ⟨.ref a, rfl, _, _, .type "list", .type "tuple", false, rfl, .ty _, .base (.lst ha1), kit_ty (by decide +kernel), .ref b, rfl, _, _, .type "list", .type "tuple", false, rfl, .ty _, .base (.lst hb1), kit_ty (by decide +kernel), rfl, _, rfl, iF (by decide) ?_⟩
      refine ⟨.ref a, rfl, a, xs, rfl, .inl (sq ha1), .ref b, rfl, b, xs, rfl, .inl (sq hb1), rfl, _, rfl, iT (decide_eq_true rfl) ?_⟩
      refine ⟨.ref a, rfl, .ref b, rfl, a, b, xs, xs, rfl, sq ha1, sq hb1, fun D nD => ?_⟩
      refine ⟨fun i m H' => i + m = xs.length ∧ Al H H' ∧ H' D = some (.lst ((List.replicate i true).map V.bl)), ⟨xs.length, by omega, k1.new nD, upd_same⟩, fun i m H' hW => ?_⟩
      obtain ⟨em, kW, eD⟩ := hW
      have haW := kW _ _ ha
      have hbW := kW _ _ hb
      by_cases hi : i < xs.length
      · have gi : xs[i]? = some xs[i] := List.getElem?_eq_getElem hi
        refine .inr ⟨⟨xs, xs, xs[i], xs[i], sq haW, sq hbW, gi, gi⟩, fun H'' => Al H H'' ∧ H'' D = some (.lst ((List.replicate (i + 1) true).map V.bl)), fun H'' hN => ⟨m - 1, by omega, by omega, hN⟩, fun v H'' hy => ?_⟩
        obtain ⟨T, x1, x2, rfl, nT, rfl, f1, f2⟩ := hy
        obtain rfl : x1 = xs[i] := Option.some.inj ((f1 _ (sq haW)).symm.trans gi)
        obtain rfl : x2 = xs[i] := Option.some.inj ((f2 _ (sq hbW)).symm.trans gi)
        obtain ⟨t, lf⟩ := hx xs[i] (List.getElem_mem hi)
        have DT : D ≠ T := ne_of_none eD nT
        refine ⟨T, _, rfl, sqt upd_same, rfl, _, _, rfl, _, _, rfl, rfl, rfl, ?_⟩
        refine ⟨_, rfl, _, rfl, hd, xs[i], t, rfl, lf, fun H2 k2 => ?_⟩
        refine ⟨_, k2 _ _ ((upd_ne DT).trans eD), ?_, fun b o z => ?_, ?_⟩
        · rw [List.length_map, List.length_replicate]
          exact Nat.lt_of_le_of_lt (Nat.le_trans (Nat.le_of_lt hi) hz) (by decide)
        · have nb : b ≠ D := fun e => by
            subst e
            have y := kW _ _ z
            have y0 := k1 _ _ z
            rw [nD] at y0
            cases y0
          rw [upd_ne nb]
          exact k2 _ _ ((kW.new nT) _ _ z)
        · rw [upd_same, List.replicate_succ', List.map_append]
          rfl
      · refine .inl ⟨⟨xs, xs, sq haW, sq hbW, .inl (by omega)⟩, ?_⟩
        refine ⟨D, List.replicate i true, rfl, sq eD, ?_⟩
        have e : (List.replicate i true).all id = true := by simp
        rw [e]
        exact q _ kW
theorem ok_same {f : Addr} {fd : FuncData} (F : Fun K "_law_same" "_law_same" sSame f fd) (bS : Binds K fd ["_law_found", "_law_due"] []) (gS : mg "_law_same" = some (.ref f)) (mi : mg "isinstance" = none) (ml : mg "len" = none) (mz : mg "zip" = none) (m_all : mg "all" = none)
    (m_list : mg "list" = none) (m_tuple : mg "tuple" = none) (m_int : mg "int" = none) (m_bool : mg "bool" = none) : FnOk P w K mg base CX0 3 f fd ["_law_found", "_law_due"] spList := by
  have G0 : FnOk P w K mg base CX0 1 f fd ["_law_found", "_law_due"] (spRec false) := ⟨fun vs H Q E h => Bool.noConfusion h.1, fun A outer s H args us vs Q E _ _ _ _ h => Bool.noConfusion h.1⟩
  have G1 : FnOk P w K mg base CX0 2 f fd ["_law_found", "_law_due"] (spRec true) := (ok_same1 F bS gS mi ml mz m_all m_list m_tuple m_int m_bool G0).imp fun vs H Q E h => .inl h.2
  exact (ok_same1 F bS gS mi ml mz m_all m_list m_tuple m_int m_bool G1).imp fun vs H Q E h => .inr ⟨rfl, h⟩
end
end Sam

namespace Ew
open PySem PySem.Spec PyProof.Rows L2 Drw TL
/-- an expression behind which a token is out -/
def PE1 (X : Cx) (e : Expr) (t : TE) : Prop :=
  ∀ (pins : List (Addr × Obj)) (s : Shared) (σ : L2.St) (H : Hp) (Q : VK), Inv X pins σ H s → t σ H Q → wpAny (model X.prog X.w) X.A (eval e X.env) (fun v s1 => 1 ≤ s1.toks ∧ EP X pins σ Q v s1) X.xe s
section
variable {X : Cx} {e o : Expr} {es : List Expr} {te to : TE} {t : TA} {x y z : Str} {j k i : Nat} {c0 c1 c2 apos cpos pos : Pos} {name : Str} {id : String} {r : V → List V → Hp → VK → Prop}
theorem pe1_bm (slot : Slot "str" name id) (hty : typeOf (.builtin id) = pure (.type "method_descriptor")) (hm : MtR X id r) (ha : PA X (e :: es) t)
    (hbase : attributeBase (.Constant (.str x) i c0) name X.env (eval (.Constant (.str x) i c0) X.env) = eval (.Constant (.str x) i c0) X.env := by rfl)
    (hfew : ((backTo cpos (starEach (e :: es) X.env)).all (fun x => !x.1) && (backToKw cpos (keywordEach [] X.env)).all (fun x => x.1.isSome)
      && decide ((e :: es).length + ([] : List Keyword).length + (if ([] : List Keyword).isEmpty then 0 else 1) < 30)) = true := by rfl)
    (hline : (apos.endLine == cpos.line) = true := by rfl) (hs : starEach (e :: es) X.env = (false, eval e X.env) :: starEach es X.env := by rfl) (hplain : (backTo cpos (starEach es X.env)).any (·.1) = false := by rfl) :
    PE1 X (.Call (.Attribute (.Constant (.str x) i c0) name apos) (e :: es) [] cpos) (tBM X.K "str" r (tC (.str x)) t) := by
  intro pins s σ H Q I h
  refine wpAny_Call_method_late hbase hfew hline rfl (Calls.Constant_str ?_)
  have I1 := I.tok (s.toks + 1)
  have ty : tyV X.K "str" (.str x) H := rfl
  obtain ⟨h1, h2⟩ := tyV_is (x := .str x) (v := .str x s.toks) I1 (show L2.RelV (.str x) (.str x s.toks) from ⟨s.toks, rfl⟩) ty
  refine ⟨"str", id, PySem.F.plainAttrs_str, slot, hty, h1, h2, ?_⟩
  have hA := ha.run cpos pins { s with toks := s.toks + 1 } σ H _ I1 h.2
  rw [hs] at hA ⊢
  refine Calls.callWith_builtin (by show (false || (backTo cpos (starEach es X.env)).any (·.1)) = false; rw [hplain] <;> rfl) (Calls.evalArgs_plain ?_)
  refine wpAny_mono (PySem.wpAny_toks hA) (fun us s2 q => ?_) fun _ _ z => z.2
  obtain ⟨hk, vs, H2, I2, r2, q2⟩ := q
  have hk' : s.toks + 1 ≤ s2.toks := hk
  refine wpAny_mono (PySem.wpAny_toks (hm pins s2 σ H2 (.str x) vs (.str x s.toks) us Q I2 (show L2.RelV (.str x) (.str x s.toks) from ⟨s.toks, rfl⟩) r2 q2)) (fun v s3 q => ⟨by have := q.1; omega, q.2⟩) fun _ _ z => z.2
theorem pe_rep1 (ho : PE1 X o to) (hyz : (y == z) = false := by decide)
    (hst : starEach [.Constant (.str y) j c1, .Constant (.str z) k c2] X.env = [(false, eval (.Constant (.str y) j c1) X.env), (false, eval (.Constant (.str z) k c2) X.env)] := by rfl)
    (hbase : attributeBase o "replace" X.env (eval o X.env) = eval o X.env := by rfl) (hline : (apos.endLine == pos.line) = true := by rfl) :
    PE X (.Call (.Attribute o "replace" apos) [.Constant (.str y) j c1, .Constant (.str z) k c2] [] pos) (CwR.tReplC to y z) := by
  refine ⟨fun pins s σ H Q I h => ?_⟩
  refine PySem.Call_method2 hbase hst hline (thn (ho pins s σ H _ I h) fun v s1 ⟨hk, q⟩ => ?_)
  obtain ⟨v', H1, I1, r1, x, e1, hb, q⟩ := q
  subst e1
  obtain ⟨tx, e2⟩ := r1
  subst e2
  refine ⟨"str", _, PySem.F.plainAttrs_str, PySem.F.slot_str_replace, PySem.F.type_str_replace, typeIs_str _ _ _, (fun _ e => nomatch e), Calls.callWith_builtin rfl (Calls.evalArgs_plain (Calls.spliced_cons ?_))⟩
  refine Calls.Constant_str (Calls.spliced_cons (Calls.Constant_str (Calls.spliced_nil ?_)))
  exact PySem.SC.replace (by show s1.toks ≠ 0; omega) (by show s1.toks + 1 ≠ 0; omega) (by show s1.toks ≠ s1.toks + 1; omega) hyz hb fun t' k => ⟨.str (Txt.replace x y z), H1, I1.tok k, ⟨t', rfl⟩, q⟩
end
end Ew

namespace Ew
open PySem PySem.Spec PyProof.Rows L2 Drw TL Sam
theorem scLaw : FnScope ["_law_script", "_law_state", "_law_some", "_law_turn", "_law_text", "_law_k"] ["_law_script"] (defScope sLaw) := ⟨rfl, rfl, rfl, by decide +kernel, rfl, by decide +kernel, by decide +kernel⟩
theorem _root_.Drw.Stt.up {H H' : Hp} {l c : Addr} {ns : List Int} (h : Stt H l c ns) (k : Al H H') : Stt H' l c ns := by
  obtain ⟨⟨a, b, d, e⟩, f, g, i⟩ := h
  exact ⟨⟨a, b, d, k _ _ e⟩, k _ _ f, g, i⟩
theorem _root_.Drw.Stt.put {H : Hp} {l c D : Addr} {ns : List Int} {o : HO} (h : Stt H l c ns) (hl : D ≠ l) (hc : D ≠ c) : Stt (upd H D o) l c ns := by
  obtain ⟨⟨a, b, d, e⟩, f, g, i⟩ := h
  exact ⟨⟨a, b, d, (upd_ne hl.symm).trans e⟩, (upd_ne hc.symm).trans f, g, i⟩
def spComp : Sp := fun vs H Q _ => ∃ x : Str, vs = [.str x] ∧ x.length ≤ 640 ∧ ∀ H' n m, Al H H' → Goes x 0 "" n m → x.length ≤ n → Q (.bl (decide (m = semi))) H'
def spLaw (K : PySem.W.Frag) : Sp := fun vs H Q _ => ∃ (a : Addr) (ns : List Int), vs = [.ref a] ∧ SqL K H a (ns.map V.int) ∧ ns.length ≤ 63 ∧ ∀ H', Q (.bl true) H'
def some1 : List Str := [";", ";", ";", " ", "\n", "select", "1", "a", "'x;'", "'", "\"n;\"", "-- c;", "--", "/* ; */", "/*", "&"]
def some2 : List Str := ["*/", "/", "-", "#", "''", "'it''s'", "?", ":a", "!", "<=", "(", ")", "create trigger", "end"]
def somes : List Str := some1 ++ some2
def tails : List Str := ["", "", "", " \"", " \"open;"]
theorem somes_len : ∀ s ∈ somes, s.length ≤ 14 := by decide +kernel
theorem tails_len : ∀ s ∈ tails, s.length ≤ 7 := by decide +kernel
theorem of_strs {l : List Str} {d : Nat} {v : V} (h : (l.map V.str)[d]? = some v) : ∃ s ∈ l, v = .str s := by
  obtain ⟨s, hs, e⟩ := List.mem_map.mp (List.mem_of_getElem? h)
  exact ⟨s, hs, e.symm⟩
theorem sum_le {n : Nat} : ∀ l : List Str, (∀ s ∈ l, s.length ≤ n) → (l.map (·.length)).sum ≤ l.length * n
  | [], _ => Nat.zero_le _
  | s :: l, h => by
    have h1 := h s (List.mem_cons_self ..)
    have h2 := sum_le l fun t ht => h t (List.mem_cons_of_mem _ ht)
    rw [List.map_cons, List.sum_cons, List.length_cons, Nat.succ_mul]
    omega
def go (x : Str) : Nat → Nat → Str → Nat × Str
  | 0, a, l => (a, l)
  | n + 1, a, l => if a < x.length then go x n (nxt x a l).1 (nxt x a l).2 else (a, l)
theorem goes_go {x : Str} : ∀ (n a : Nat) (l : Str), Goes x a l (go x n a l).1 (go x n a l).2
  | 0, a, l => .here _ _
  | n + 1, a, l => by
    unfold go
    split
    · rename_i h
      exact .step h (goes_go n _ _)
    · exact .here _ _
theorem go_yes : go "select 1;" 9 0 "" = (9, semi) := by decide +kernel
theorem go_no : go "select 1" 8 0 "" = (8, ⟨#[49]⟩) := by decide +kernel
section
variable {P : Program} {w : World} {K : PySem.W.Frag} {mg : Str → Option Value} {base : Heap} {cs : Nat → Addr}
theorem ok_law {f fF fT fO fS fC fE : Addr} {fd dF dT dO dS dC dE : FuncData} (F : Fun K "law" "law" sLaw f fd)
    (cF : Can P w K mg base 1 "_law_fresh" ["_law_script"] (spFresh K) fF dF) (cT : Can P w K mg base 2 "_law_take" ["_law_state", "_law_many"] spTake fT dT) (cO : Can P w K mg base 3 "_law_one" ["_law_state", "_law_things"] spOne fO dO)
    (cS : Can P w K mg base 2 "_law_same" ["_law_found", "_law_due"] (spSame false) fS dS) (cL : Can P w K mg base 3 "_law_same" ["_law_found", "_law_due"] spList fS dS)
    (cC : Can P w K mg base 6 "complete_statement" ["sql"] spComp fC dC) (cE : Can P w K mg base 1 "_law_ends_well" ["_law_text"] spEnds fE dE) (mr : mg "range" = none) : FnOk P w K mg base CX0 7 f fd ["_law_script"] (spLaw K) := by
  refine F.ok scLaw (fun vs H Q E h => ?_) (fun cdv A outer s H vs Q E hr h => ?_)
  · obtain ⟨a, ns, rfl, _⟩ := h
    rfl
  · obtain ⟨a, ns, rfl, hS, hlen, q⟩ := h
    refine ⟨_, pss_cons (ps_set (i := 1) scLaw.nd rfl (.inr rfl) (pe_call cF.G (hr.mono (by decide)) (by rfl) cF.g cF.kp cF.b .nil pass0 (pa_cons (pv 0) pa_nil)))
      (pss_cons (ps_set (i := 2) scLaw.nd rfl (.inr rfl) (pe_lst (pa_cons pe_str (pa_cons pe_str (pa_cons pe_str (pa_cons pe_str (pa_cons pe_str (pa_cons pe_str (pa_cons pe_str (pa_cons pe_str (pa_cons pe_str (pa_cons pe_str (pa_cons pe_str (pa_cons pe_str (pa_cons pe_str (pa_cons pe_str (pa_cons pe_str (pa_cons pe_str pa_nil))))))))))))))))))
      (pss_cons (ps_set (i := 2) scLaw.nd rfl (.inr rfl) (pe_op op_cat (pv 2) (pe_lst (pa_cons pe_str (pa_cons pe_str (pa_cons pe_str (pa_cons pe_str (pa_cons pe_str (pa_cons pe_str (pa_cons pe_str (pa_cons pe_str (pa_cons pe_str (pa_cons pe_str (pa_cons pe_str (pa_cons pe_str (pa_cons pe_str (pa_cons pe_str pa_nil)))))))))))))))))
      (pss_cons (ps_for PassesOwn.never rfl (pi_range1 (by rfl) mr (pa_cons (pe_op op_add pe_int (pe_call cT.G (hr.mono (by decide)) (by rfl) cT.g cT.kp cT.b .nil pass0 (pa_cons (pv 1) (pa_cons pe_int pa_nil)))) pa_nil)) (pg_name (i := 3) scLaw.nd rfl (Or.inl rfl))
        (pss_cons (ps_set (i := 4) scLaw.nd rfl (.inl rfl) (pe_rep1 (pe1_bm PySem.F.slot_str_join PySem.F.type_str_join mt_join (pa_cons (pe_lc (own := [("_law_k", 5)]) (g := gName 5) (tt := tYes) rfl scLaw.nd (pi_range1 (by rfl) mr (pa_cons (pe_call cT.G (hr.mono (by decide)) (by rfl) cT.g cT.kp cT.b .nil pass0 (pa_cons (pv 1) (pa_cons pe_int pa_nil))) pa_nil)) (blkOk_by (N := ["_law_script", "_law_state", "_law_some", "_law_turn", "_law_text", "_law_k"]) (sc := defScope sLaw) (by decide +kernel)) (fun _ _ _ _ _ => pg_name (i := 5) scLaw.nd rfl (Or.inl rfl)) (fun _ _ _ _ _ => pts_nil)
          (fun _ _ _ _ _ => (pe_call cO.G (hr.mono (by decide)) (by rfl) cO.g cO.kp cO.b .nil pass0 (pa_cons (pv 1) (pa_cons (pv 2) pa_nil))))) pa_nil))))
        (pss_cons (ps_set (i := 4) scLaw.nd rfl (.inl rfl) (pe_op op_add_str (pv 4) (pe_call cO.G (hr.mono (by decide)) (by rfl) cO.g cO.kp cO.b .nil pass0 (pa_cons (pv 1) (pa_cons (pe_lst (pa_cons pe_str (pa_cons pe_str (pa_cons pe_str (pa_cons pe_str (pa_cons pe_str pa_nil)))))) pa_nil)))))
        (pss_one (ps_if (pt_not (pt_val (pe_call cS.G (hr.mono (by decide)) (by rfl) cS.g cS.kp cS.b .nil pass0 (pa_cons (pe_call cC.G (hr.mono (by decide)) (by rfl) cC.g cC.kp cC.b .nil pass0 (pa_cons (pv 4) pa_nil)) (pa_cons (pe_call cE.G (hr.mono (by decide)) (by rfl) cE.g cE.kp cE.b .nil pass0 (pa_cons (pv 4) pa_nil)) pa_nil))))) (pss_one (ps_ret pe_bl)) pss_nil)))))
      (pss_one (ps_ret (pe_call cL.G (hr.mono (by decide)) (by rfl) cL.g cL.kp cL.b .nil pass0 (pa_cons (pe_lst (pa_cons (pe_call cC.G (hr.mono (by decide)) (by rfl) cC.g cC.kp cC.b .nil pass0 (pa_cons pe_str pa_nil)) (pa_cons (pe_call cC.G (hr.mono (by decide)) (by rfl) cC.g cC.kp cC.b .nil pass0 (pa_cons pe_str pa_nil)) pa_nil))) (pa_cons (pe_lst (pa_cons pe_bl (pa_cons pe_bl pa_nil))) pa_nil)))))))), ?_⟩
    refine ⟨.ref a, rfl, a, ns, rfl, hS, hlen, fun H1 l c ns1 k1 st1 nl => ?_⟩
    refine ⟨by show 16 ≤ sizeLine; decide, fun p1 n1 => ?_⟩
    refine ⟨.ref p1, rfl, by show 14 ≤ sizeLine; decide, fun p2 n2 => ?_⟩
    have e12 : p1 ≠ p2 := fun z => by
      rw [← z, upd_same] at n2
      cases n2
    refine ⟨p1, p2, some1.map V.str, some2.map V.str, rfl, rfl, (upd_ne e12).trans upd_same, upd_same, by show 30 ≤ sizeLine; decide, fun sm n3 => ?_⟩
    have k3 := ((Al.refl (H := H1)).new (o := .lst (some1.map V.str)) n1).new (o := .lst (some2.map V.str)) n2
    have k4 := k3.new (o := .lst (somes.map V.str)) n3
    have st4 := st1.up k4
    have sml : sm ≠ l := fun z => by
      obtain ⟨⟨_, _, _, e⟩, _⟩ := st1.up k3
      rw [z] at n3
      have y := n3.symm.trans e
      cases y
    have smc : sm ≠ c := fun z => by
      obtain ⟨_, e, _⟩ := st1.up k3
      rw [z] at n3
      have y := n3.symm.trans e
      cases y
    have es4 : upd (upd (upd H1 p1 (.lst (some1.map V.str))) p2 (.lst (some2.map V.str))) sm (.lst (somes.map V.str)) sm = some (.lst (somes.map V.str)) := upd_same
    -- the turns
    refine ⟨.ref l, rfl, l, c, ns1, 13, rfl, by decide, by decide, st4, fun H5 d k5 st5 d0 d1 => ?_⟩
    obtain ⟨r, rfl⟩ := Int.eq_ofNat_of_zero_le d0
    have es5 := k5 sm _ sml es4
    refine ⟨8, r, rfl, rfl, _, rfl, by omega, by omega, ?_⟩
    refine for_range (n := 8 + r) (fun i σ H' => ∃ y3 y4 y5, σ = [some (.ref a), some (.ref l), some (.ref sm), y3, y4, y5] ∧ Stt H' l c ns1 ∧ H' sm = some (.lst (somes.map V.str))) ⟨none, none, none, rfl, st5, es5⟩ (fun i σ H6 hi hP => ?_) (fun σ H6 hP => ?_)
    · obtain ⟨y3, y4, y5, rfl, st6, es6⟩ := hP
      -- a text of pieces
      refine ⟨rfl, .ref l, rfl, l, c, ns1, 9, rfl, by decide, by decide, st6, fun H7 e k7 st7 e0 e1 => ?_⟩
      obtain ⟨many, rfl⟩ := Int.eq_ofNat_of_zero_le e0
      have es7 := k7 sm _ sml es6
      refine ⟨_, rfl, by omega, by omega, fun D nD => ?_⟩
      have nDm : H7 D = none := nD
      have Dl : D ≠ l := fun z => by
        obtain ⟨⟨_, _, _, e⟩, _⟩ := st7
        rw [z, e] at nDm
        cases nDm
      have Dc : D ≠ c := fun z => by
        obtain ⟨_, e, _⟩ := st7
        rw [z, e] at nDm
        cases nDm
      have Ds : sm ≠ D := ne_of_none es7 nDm
      refine lc_range (n := many) (fun j H' => Stt H' l c ns1 ∧ H' sm = some (.lst (somes.map V.str)) ∧ ∃ ys : List Str, H' D = some (.lst (ys.map V.str)) ∧ ys.length = j ∧ ∀ y ∈ ys, y.length ≤ 14)
        ⟨st7.put Dl Dc, (upd_ne Ds).trans es7, [], upd_same, rfl, fun y hy => by cases hy⟩ (fun j H' hj hP => ?_) (fun H' hP => ?_)
      · obtain ⟨stj, esj, ys, ey, hy, hyl⟩ := hP
        refine ⟨rfl, .ref l, rfl, .ref sm, rfl, l, c, ns1, sm, _, rfl, esj, sml, by decide, by decide, stj, fun H8 d8 x8 k8 st8 hx8 => ?_⟩
        obtain ⟨s8, hs8, rfl⟩ := of_strs hx8
        refine ⟨_, k8 D _ Dl ey, by rw [List.length_map, hy]; exact small1000 (by omega), st8.put Dl Dc, (upd_ne Ds).trans (k8 sm _ sml esj), ys ++ [s8], ?_, by simp [hy], fun y hym => ?_⟩
        · rw [upd_same, List.map_append]
          rfl
        · rcases List.mem_append.mp hym with h | h
          · exact hyl y h
          · obtain rfl : y = s8 := by simpa using h
            exact somes_len y hs8
      · obtain ⟨stj, esj, ys, ey, hy, hyl⟩ := hP
        have hsum := sum_le ys hyl
        have h0 : (Str.ofString "").length = 0 := by decide +kernel
        have hjl : (Txt.join (Str.ofString "") ys).length ≤ 8 * 14 := by
          have z := size_glued (Str.ofString "") ys
          rw [h0, Nat.mul_zero, Nat.add_zero] at z
          show (Builtin.Str.glued (Str.ofString "") ys).length ≤ _
          rw [z]
          omega
        refine ⟨_, D, ys, rfl, rfl, .inl (sq ey), by rw [h0]; omega, _, rfl, ?_, ?_⟩
        · have h3 : (Str.ofString "\" \"").length = 3 := by decide +kernel
          rw [h3]
          omega
        have hrl := TK.replace_len (Txt.join (Str.ofString "") ys) (Str.ofString "\"\"") (Str.ofString "\" \"")
        have h3 : (Str.ofString "\" \"").length = 3 := by decide +kernel
        rw [h3] at hrl
        -- its end
        refine ⟨.str _, rfl, .ref l, rfl, by show 5 ≤ sizeLine; decide, fun D2 n2 => ?_⟩
        have nD2 : H' D2 = none := n2
        have D2l : D2 ≠ l := fun z => by
          obtain ⟨⟨_, _, _, e⟩, _⟩ := stj
          rw [z, e] at nD2
          cases nD2
        have D2c : D2 ≠ c := fun z => by
          obtain ⟨_, e, _⟩ := stj
          rw [z, e] at nD2
          cases nD2
        have D2s : sm ≠ D2 := ne_of_none esj nD2
        refine ⟨l, c, ns1, D2, tails.map V.str, rfl, upd_same, D2l, by decide, by decide, stj.put D2l D2c, fun H9 d9 x9 k9 st9 hx9 => ?_⟩
        obtain ⟨s9, hs9, rfl⟩ := of_strs hx9
        have es9 := k9 sm _ sml ((upd_ne D2s).trans esj)
        have h9 := tails_len s9 hs9
        refine ⟨_, s9, rfl, rfl, Nat.le_trans (Nat.add_le_add hrl h9) (Nat.le_trans (by omega : _ ≤ 640) (by decide)), ?_⟩
        have hlen9 : (Txt.replace (Txt.join (Str.ofString "") ys) (Str.ofString "\"\"") (Str.ofString "\" \"") ++ s9).length ≤ 640 := by
          have z := Str.length_append (Txt.replace (Txt.join (Str.ofString "") ys) (Str.ofString "\"\"") (Str.ofString "\" \"")) s9
          omega
        generalize Txt.replace (Txt.join (Str.ofString "") ys) (Str.ofString "\"\"") (Str.ofString "\" \"") ++ s9 = x at hlen9 ⊢
        refine ⟨.str x, rfl, x, rfl, hlen9, fun Ha na ma ka ga ha => ⟨.str x, rfl, x, rfl, hlen9, fun Hb nb mb kb gb hb => ?_⟩⟩
        obtain rfl : ma = mb := ga.same gb ha hb
        refine .inl ⟨_, _, rfl, .bl _, fun Hc kc => ⟨true, rfl, iF rfl ?_⟩⟩
        exact ⟨_, _, _, rfl, ((st9.up ka).up kb).up kc, kc _ _ (kb _ _ (ka _ _ es9))⟩
    · obtain ⟨y3, y4, y5, rfl, st6, es6⟩ := hP
      have yes : ∀ n m, Goes "select 1;" 0 "" n m → Str.length "select 1;" ≤ n → m = semi := fun n m g h => by
        have z := goes_go (x := "select 1;") 9 0 ""
        rw [go_yes] at z
        exact g.same z h (by decide +kernel)
      have no : ∀ n m, Goes "select 1" 0 "" n m → Str.length "select 1" ≤ n → m ≠ semi := fun n m g h => by
        have z := goes_go (x := "select 1") 8 0 ""
        rw [go_no] at z
        rw [g.same z h (by decide +kernel)]
        exact one_semi (by decide)
      refine ⟨_, rfl, by decide +kernel, fun H7 n7 m7 k7 g7 h7 => ⟨_, rfl, by decide +kernel, fun H8 n8 m8 k8 g8 h8 => ?_⟩⟩
      refine ⟨by show 2 ≤ sizeLine; decide, fun pa npa => ⟨by show 2 ≤ sizeLine; decide, fun pb npb => ?_⟩⟩
      have eb := yes _ _ g7 h7
      have ec : decide (m8 = semi) = false := decide_eq_false (no _ _ g8 h8)
      refine ⟨pa, pb, [.bl true, .bl false], rfl, (upd_ne (fun z => by
          rw [← z, upd_same] at npb
          cases npb)).trans (upd_same.trans (by rw [eb, ec]; rfl)), upd_same, fun v hv => ?_, by show 2 ≤ 1000; decide, fun H9 _ => q H9⟩
      rcases List.mem_cons.mp hv with rfl | hv
      · exact ⟨_, .bl _⟩
      · obtain rfl : v = .bl false := by simpa using hv
        exact ⟨_, .bl _⟩
end
end Ew

namespace Ew
open PySem PySem.Spec PyProof.Rows L2 Drw TL
/-- xs != [] -/
theorem op_ne_nil {X : Cx} (hu : X.A.units + 1 < cLine) : OpR X (compareOp .NotEq) (fun x y H Q => ∃ (a b : Addr) (xs : List V), x = .ref a ∧ y = .ref b ∧ H a = some (.lst xs) ∧ H b = some (.lst []) ∧ Q (.bl (!xs.isEmpty)) H) := by
  intro pins s σ H x y v u Q I rx ry h
  obtain ⟨a, b, xs, rfl, rfl, ha, hb, q⟩ := h
  cases rx
  cases ry
  obtain ⟨its, r1, p1, z1⟩ := I.list (.inl (.inl ha) : SqL X.K H a xs)
  obtain ⟨its2, r2, p2, z2⟩ := I.list (.inl (.inl hb) : SqL X.K H b [])
  have l1 := r1.length
  have l2 := r2.length
  have h2 : its2.toArray.size = 0 := by
    rw [List.size_toArray, ← l2]
    rfl
  have h1 : its.toArray.size = xs.length := by
    rw [List.size_toArray, ← l1]
  refine PySem.EqBoolInt.of_rcne (k := !xs.isEmpty) ?_ ⟨.bl _, H, I, rfl, q⟩
  cases xs with
  | nil =>
    have z : its.toArray.size = 0 := h1
    have w := SeqAt.RcNeAt.lists (A := X.A) (e := fun _ => true) p1.isList p2.isList (by rw [z, h2]) (by omega) (fun j hj => by omega)
    rw [z] at w
    exact w
  | cons y ys =>
    have z : its.toArray.size = ys.length + 1 := h1
    exact SeqAt.RcNeAt.lists_lengths p1.isList p2.isList (by rw [z, h2]; simp) (by omega)
end Ew

namespace Ew
open PySem PySem.Spec PyProof.Rows L2 Drw TL
theorem scComp : FnScope ["sql", "tokens"] ["sql"] (defScope sComp) := ⟨rfl, rfl, rfl, by decide +kernel, rfl, by decide +kernel, by decide +kernel⟩
section
variable {P : Program} {w : World} {K : PySem.W.Frag} {mg : Str → Option Value} {base : Heap} {C : Addr}
theorem ok_comp {f fS : Addr} {fd dS : FuncData} (F : Fun K "complete_statement" "complete_statement" sComp f fd) (S : Can P w K mg base 5 "scan" ["sql"] (spScan C) fS dS) (T : TokC K C) : FnOk P w K mg base CX0 6 f fd ["sql"] spComp := by
  refine F.ok scComp (fun vs H Q E h => ?_) (fun cdv A outer s H vs Q E hr h => ?_)
  · obtain ⟨x, rfl, _⟩ := h
    rfl
  · obtain ⟨x, rfl, hx, q⟩ := h
    refine ⟨_, pss_cons (ps_set (i := 1) scComp.nd rfl (.inl rfl) (pe_call S.G hr (by rfl) S.g S.kp S.b .nil pass0 (pa_cons (pv 0) pa_nil)))
      (pss_one (ps_ret (pe_and (pe_cmpR (op_ne_nil (hu_of hr)) (pv 1) (pe_lst pa_nil) (nomark _)) (pe_one (pe_cmpR op_eq (pe_fld (pe_ix ix_list (pv 1) (pe_un un_neg pe_int) (fun _ _ => rfl)) rfl) pe_str (nomark _)))))), ?_⟩
    refine ⟨.str x, rfl, x, rfl, hx, fun H1 t ts n m k nt ht hlen g hle lo => ?_⟩
    refine ⟨.ref t, rfl, Nat.zero_le _, fun p np => ?_⟩
    have tp : t ≠ p := ne_of_none ht np
    have kp := k.new (o := .lst []) np
    have ht2 : upd H1 p (.lst []) t = some (.lst ts) := (upd_ne tp).trans ht
    refine ⟨t, p, ts, rfl, rfl, ht2, upd_same, ?_⟩
    have w := q _ n m kp g hle
    rcases lo with ⟨rfl, rfl⟩ | ⟨us, pt, e, wo, rfl, tok, hw⟩
    · refine ⟨false, rfl, iteF ?_⟩
      rw [decide_eq_false (by decide +kernel)] at w
      exact w
    · refine ⟨true, by simp, iteT ?_⟩
      have tok2 : TokAt C (upd H1 p (.lst [])) pt e wo := by
        obtain ⟨dx, fs, o1, o2, o3⟩ := tok
        exact ⟨dx, fs, (upd_ne (ne_of_none o1 np)).trans o1, o2, o3⟩
      obtain ⟨dx, fs, o1, o2, o3⟩ := tok2
      refine ⟨.ref t, rfl, 1, rfl, t, us ++ [.ref pt], -1, .ref pt, rfl, rfl, sq ht2, ?_, pt, C, dx, fs, .str wo, rfl, o1, T.cl, T.n6, o3, rfl, ?_⟩
      · exact atI_last _ _
      · rw [dec1, decide_eq_decide.mpr hw]
        exact w
end
end Ew

namespace Ew
open PySem PySem.Spec PyProof.Rows L2 Drw TL
theorem scInteger : FnScope ["sql", "at", "end", "number"] ["sql", "at"] (defScope sInteger) := ⟨rfl, rfl, rfl, by decide +kernel, rfl, by decide +kernel, by decide +kernel⟩
theorem digits_are : ∀ c ∈ digits, 48 ≤ c ∧ c ≤ 57 := by decide +kernel
/-- a slice of digits is digits -/
theorem dig_cut {x : Str} {a n : Nat} (hn : a + n ≤ x.length) (hd : ∀ k, a ≤ k → k < a + n → ∃ c, (tl x)[k]? = some c ∧ c ∈ digits) :
    NumText.AllDigits (tl (cutS x (some (a : Int)) (some ((a + n : Nat) : Int)))) := by
  have e := tl_cut x a (a + n)
  rw [show a + n - a = n by omega] at e
  intro c hc
  rw [e] at hc
  obtain ⟨k, hk⟩ := List.mem_iff_getElem?.mp hc
  rw [List.getElem?_take] at hk
  split at hk
  · rename_i hkn
    rw [List.getElem?_drop] at hk
    obtain ⟨d, h1, h2⟩ := hd (a + k) (by omega) (by omega)
    rw [h1] at hk
    injection hk with hk
    subst hk
    exact digits_are d h2
  · cases hk
/-- digits without their first ones, and without their last ones, are digits -/
theorem dig_bare {y z : Str} {lo hi : Option Int} (h : NumText.AllDigits (tl y)) : NumText.AllDigits (tl (cutS (Txt.lstripChars y z) lo hi)) := by
  intro c hc
  have h1 : c ∈ (Txt.lstripChars y z).cps.toList := List.mem_of_mem_drop (List.mem_of_mem_take (show c ∈ (((Txt.lstripChars y z).cps.toList.drop _).take _) from hc))
  have e : Txt.lstripChars y z = PySem.Builtin.Str.strSub y (stripLo z.cps.contains true y) (stripHi z.cps.contains false y (stripLo z.cps.contains true y)) := stripBy_eq _ _ _ _
  rw [e, PySem.StrLaws.strSub_toList] at h1
  exact h c (List.mem_of_mem_drop (List.mem_of_mem_take h1))
theorem len_bare (y z : Str) (lo hi : Option Int) : (cutS (Txt.lstripChars y z) lo hi).length ≤ y.length := by
  have e : Txt.lstripChars y z = PySem.Builtin.Str.strSub y (stripLo z.cps.contains true y) (stripHi z.cps.contains false y (stripLo z.cps.contains true y)) := stripBy_eq _ _ _ _
  have h1 := cutS_length (Txt.lstripChars y z) lo hi
  have h2 := le_strSub y (stripLo z.cps.contains true y) (stripHi z.cps.contains false y (stripLo z.cps.contains true y))
  rw [← e] at h2
  omega
theorem num_of {y : Str} (h : NumText.AllDigits (tl y)) (hl : y.length ≤ 640) (hn : ¬ y = "") : ∃ z : Int, PySem.intText? y = some z := by
  refine ⟨_, intText_digits h (fun e => hn ?_) (by omega)⟩
  exact ext_tl (y := "") e
theorem scNat : FnScope ["digits", "bare"] ["digits"] (defScope sNat) := ⟨rfl, rfl, rfl, by decide +kernel, rfl, by decide +kernel, by decide +kernel⟩
def spNat : Sp := fun vs H Q _ => ∃ y : Str, vs = [.str y] ∧ y.length ≤ 640 ∧ NumText.AllDigits (tl y) ∧ ∀ z : Int, Q (.int z) H
section
variable {P : Program} {w : World} {K : PySem.W.Frag} {mg : Str → Option Value} {base : Heap}
theorem ok_nat {f : Addr} {fd : FuncData} {tk : Nat} {gr : Int} (F : Fun K "natural_number" "natural_number" sNat f fd) (ht : mg "TOO_MANY_DIGITS" = some (.int gr tk)) (mi : mg "int" = none) :
    FnOk P w K mg base CX0 1 f fd ["digits"] spNat := by
  refine F.ok scNat (fun vs H Q E h => ?_) (fun cdv A outer s H vs Q E hr h => ?_)
  · obtain ⟨y, rfl, _⟩ := h
    rfl
  · obtain ⟨y, rfl, hy, hd, q⟩ := h
    have hz : y.length ≤ sizeLine := Nat.le_trans hy (by decide)
    refine ⟨_, pss_cons (ps_set (i := 1) scNat.nd rfl (.inl rfl) (pe_slice sl_str (pe_bm PySem.F.plainAttrs_str PySem.F.slot_str_lstrip PySem.F.type_str_lstrip mt_lstripChars (pv 0) (pa_cons pe_str pa_nil)) po_none (po_some (pe_glob (v := .int gr) (by rfl) ht ⟨tk, rfl⟩))))
      (pss_one (ps_ret (pe_ifExp (pt_cmpR op_eq (pv 1) pe_str (nomark _)) pe_int (pe_callTy call_int_str (by rfl) mi PySem.Pv.boot_int (pa_cons (pv 1) pa_nil))))), ?_⟩
    refine ⟨.str y, rfl, rfl, y, "0", rfl, rfl, hz, ?_⟩
    delta tNoPart
    refine ⟨gr, rfl, Txt.lstripChars y "0", rfl, Nat.le_trans (show (Txt.lstripChars y "0").length ≤ y.length from ?len) hz, .str _, rfl, rfl, _, rfl, ite2 (fun e => q 0) (fun e => ?_)⟩
    case len =>
      rw [show Txt.lstripChars y "0" = PySem.Builtin.Str.strSub y (stripLo ("0" : Str).cps.contains true y) (stripHi ("0" : Str).cps.contains false y (stripLo ("0" : Str).cps.contains true y)) from stripBy_eq _ _ _ _]
      exact le_strSub _ _ _
    have l1 := len_bare y "0" none (some gr)
    obtain ⟨z, ez⟩ := num_of (dig_bare (z := "0") (lo := none) (hi := some gr) hd) (by omega) fun h => e (by rw [h]; rfl)
    exact ⟨.str _, rfl, _, z, rfl, ez, by omega, q z⟩
end
section
variable {P : Program} {w : World} {K : PySem.W.Frag} {mg : Str → Option Value} {base : Heap} {C fI : Addr} {fdI : FuncData}
theorem ok_integer {f fR fN : Addr} {fd fdR dN : FuncData} {tk tk2 tk3 : Nat} {gr : Int} (F : Fun K "_integer_token" "_integer_token" sInteger f fd) (T : Mks P w K mg base C fI fdI) (FR : Fun K "_run_end" "_run_end" sRun fR fdR) (bR : Binds K fdR ["sql", "at", "letters"] []) (gR : mg "_run_end" = some (.ref fR))
    (hd : mg "DIGITS" = some (.str "0123456789" tk)) (hl : mg "LETTERS" = some (.str "abcdefghijklmnopqrstuvwxyzABCDEFGHIJKLMNOPQRSTUVWXYZ_" tk2)) (hg : mg "GREATEST" = some (.int gr tk3)) (N : Can P w K mg base 1 "natural_number" ["digits"] spNat fN dN) :
    FnOk P w K mg base CX0 3 f fd ["sql", "at"] (spTok C (· ∈ digits)) := by
  have GR : FnOk P w K mg base CX0 1 fR fdR ["sql", "at", "letters"] spRun := ok_run FR T.len
  refine F.ok scInteger (fun vs H Q E h => ?_) (fun cdv A outer s H vs Q E hr h => ?_)
  · obtain ⟨x, a, c, rfl, _⟩ := h
    rfl
  · obtain ⟨x, a, c, rfl, hx, hc, fr, ok, q⟩ := h
    have hz : x.length ≤ sizeLine := Nat.le_trans hx (by decide)
    have hr1 : Room 1 _ := hr.mono (by decide)
    refine ⟨_, pss_cons (ps_set (i := 2) scInteger.nd rfl (.inl rfl) (pe_call GR hr1 (by rfl) gR FR.kp bR .nil pass0 (pa_cons (pv 0) (pa_cons (pv 1) (pa_cons (pe_glob (v := .str "0123456789") (by rfl) hd ⟨tk, rfl⟩) pa_nil)))))
      (pss_cons (ps_set (i := 3) scInteger.nd rfl (.inl rfl) (pe_call N.G hr1 (by rfl) N.g N.kp N.b .nil pass0 (pa_cons (pe_slice sl_str (pv 0) (po_some (pv 1)) (po_some (pv 2))) pa_nil)))
      (pss_cons (ps_if (PW.pt (pw_or (pt_cmpR op_gt (pv 3) (pe_op op_add (pe_glob (v := .int gr) (by rfl) hg ⟨tk3, rfl⟩) pe_int) (nomark _))
          (pw_or1 (PW.pt (pw_and (pt_cmpR op_lt (pv 2) (pe_callB call_len_str (by rfl) T.len PySem.boot_len (pa_cons (pv 0) pa_nil)) (nomark _))
            (pw_and1 (pt_cmpR op_in_sign (pe_ix ix_str (pv 0) (pv 2) (fun _ _ => rfl)) (pe_glob (v := .str "abcdefghijklmnopqrstuvwxyzABCDEFGHIJKLMNOPQRSTUVWXYZ_") (by rfl) hl ⟨tk2, rfl⟩) rfl)))))))
        (pss_one (ps_ret (pe_make T.M T.G hr (by rfl) T.g T.b4 (.cons (show L2.RelV .non .none from rfl) .nil) pass0 (pa_cons pe_str (pa_cons (pv 0) (pa_cons (pv 1) (pa_cons (pv 2) pa_nil))))))) pss_nil)
      (pss_one (ps_ret (pe_make T.M T.G hr (by rfl) T.g T.b5 .nil pass0 (pa_cons pe_str (pa_cons (pv 0) (pa_cons (pv 1) (pa_cons (pv 2) (pa_cons (pv 3) pa_nil)))))))))), ?_⟩
    have ha := len_lt hc
    refine ⟨.str x, rfl, .int a, rfl, x, _, a, rfl, hx, by omega, fun n hn hd hp => ?_⟩
    have n0 : 0 < n := hp c hc ok
    have run : ∀ n', n' ≤ n → 0 < n' → ∀ l, ∃ m, Goes x a l (a + n') m ∧ m ≠ semi := fun n' h1 h2 l => by
      obtain ⟨m, g, _, q1⟩ := dull_run n' a l fun k h3 h4 => by
        obtain ⟨d, e1, e2⟩ := hd k h3 (by omega)
        exact ⟨d, e1, dull_words d (digits_words d e2)⟩
      exact ⟨m, g, q1 h2⟩
    refine ⟨.str x, rfl, .int a, rfl, a, rfl, .int _, rfl, _, rfl, x, rfl, hz, _, rfl, Nat.le_trans (cutS_length x (some (a : Int)) (some ((a + n : Nat) : Int))) hx, dig_cut hn hd, fun z => ?_⟩
    refine ⟨.int z, rfl, _, _, rfl, rfl, _, _, rfl, rfl, _, rfl, ite2 (fun e1 => iteT ?bad1) (fun e1 => ?more)⟩
    case' more => refine ⟨.int _, rfl, .str x, rfl, x, rfl, hz, _, _, rfl, rfl, _, rfl, ite2 (fun e2 => ?more2) (fun e2 => iteF ?good1)⟩
    case' more2 =>
      have hlt : a + n < x.length := by
        have z := of_decide_eq_true e2
        omega
      have hal : a + n < (tl x).length := by
        rw [← len_tl]
        exact hlt
      refine ⟨.str x, rfl, .int _, rfl, x, _, _, rfl, rfl, hz, atI_nat (List.getElem?_eq_getElem hal), _, _, rfl, rfl, _, rfl, ite2 (fun e3 => ?bad2) (fun e3 => ?good2)⟩
    case bad1 | bad2 =>
      refine ⟨.str x, rfl, .int a, rfl, .int _, rfl, fun p dx np ndx ne => ?_⟩
      exact tok_mute q (by rfl) (by omega) hn (run n (Nat.le_refl _) n0) np ndx hx
    case good1 | good2 =>
      refine ⟨.str x, rfl, .int a, rfl, .int _, rfl, .int z, rfl, fun p dx np ndx ne => ?_⟩
      exact tok_mute q (by rfl) (by omega) hn (run n (Nat.le_refl _) n0) np ndx hx
end
end Ew

namespace Ew
open PySem PySem.W PySem.Calls PyProof.Rows PySem.Spec L2 Drw TL Sam
/-- a written tuple of texts -/
theorem tup_strs {K : Frag} {a : Addr} {c : Value} {od : Option Addr} {its : Array Value} {n : Nat} {sl : Array (Option Value)} {xs : List Str} (h : K.lookup a = some ⟨.type "tuple", od, .seq its n, sl⟩) (hz : its.size ≤ sizeLine) (hx : (its.toList.map fun v => match v with | .str x _ => x | _ => Str.empty) = xs)
    (hs : (its.toList.all fun v => match v with | .str _ _ => true | _ => false) = true) (H : Hp) : SqT K H a (xs.map V.str) := by
  refine .inr ⟨_, its, n, h, rfl, rfl, hz, ?_⟩
  subst hx
  have key : ∀ l : List Value, (l.all fun v => match v with | .str _ _ => true | _ => false) = true → Vals ((l.map fun v => match v with | .str x _ => x | _ => Str.empty).map V.str) l := by
    intro l
    induction l with
    | nil => exact fun _ => .nil
    | cons v l ih =>
      intro h
      rw [List.all_cons, Bool.and_eq_true] at h
      cases v with
      | str x t => exact .cons ⟨t, rfl⟩ (ih h.2)
      | _ => cases h.1
  exact key _ hs
theorem flat_strs : ∀ xs : List Str, (xs.map V.str).all flatV = true
  | [] => rfl
  | _ :: xs => flat_strs xs
theorem all_end {l : OpenLaw} {w : World} {K : Frag} {h : Heap} {mg : Str → Option Value} {fa : Addr} (X : K.In h) (G : h.Ns mainGlobals mg) (hfa : mg "law" = some (.ref fa))
    {f0 : Addr} {od0 an0 : Option Addr} {sl0 : Array (Option Value)} {oc0 kV0 dc0 pm0 cd0 ct0 : Value}
    {f1 : Addr} {od1 an1 : Option Addr} {sl1 : Array (Option Value)} {oc1 kV1 dc1 pm1 cd1 ct1 : Value}
    {f2 : Addr} {od2 an2 : Option Addr} {sl2 : Array (Option Value)} {oc2 kV2 dc2 pm2 cd2 ct2 : Value}
    {f3 : Addr} {od3 an3 : Option Addr} {sl3 : Array (Option Value)} {oc3 kV3 dc3 pm3 cd3 ct3 : Value}
    {f4 : Addr} {od4 an4 : Option Addr} {sl4 : Array (Option Value)} {oc4 kV4 dc4 pm4 cd4 ct4 : Value}
    {f5 : Addr} {od5 an5 : Option Addr} {sl5 : Array (Option Value)} {oc5 kV5 dc5 pm5 cd5 ct5 : Value}
    {f6 : Addr} {od6 an6 : Option Addr} {sl6 : Array (Option Value)} {oc6 kV6 dc6 pm6 cd6 ct6 : Value}
    {f7 : Addr} {od7 an7 : Option Addr} {sl7 : Array (Option Value)} {oc7 kV7 dc7 pm7 cd7 ct7 : Value}
    {f8 : Addr} {od8 an8 : Option Addr} {sl8 : Array (Option Value)} {oc8 kV8 dc8 pm8 cd8 ct8 : Value}
    {f9 : Addr} {od9 an9 : Option Addr} {sl9 : Array (Option Value)} {oc9 kV9 dc9 pm9 cd9 ct9 : Value}
    {f10 : Addr} {od10 an10 : Option Addr} {sl10 : Array (Option Value)} {oc10 kV10 dc10 pm10 cd10 ct10 : Value}
    {f11 : Addr} {od11 an11 : Option Addr} {sl11 : Array (Option Value)} {oc11 kV11 dc11 pm11 cd11 ct11 : Value}
    {f12 : Addr} {od12 an12 : Option Addr} {sl12 : Array (Option Value)} {oc12 kV12 dc12 pm12 cd12 ct12 : Value}
    {f13 : Addr} {od13 an13 : Option Addr} {sl13 : Array (Option Value)} {oc13 kV13 dc13 pm13 cd13 ct13 : Value}
    {f14 : Addr} {od14 an14 : Option Addr} {sl14 : Array (Option Value)} {oc14 kV14 dc14 pm14 cd14 ct14 : Value}
    {f15 : Addr} {od15 an15 : Option Addr} {sl15 : Array (Option Value)} {oc15 kV15 dc15 pm15 cd15 ct15 : Value}
    {f16 : Addr} {od16 an16 : Option Addr} {sl16 : Array (Option Value)} {oc16 kV16 dc16 pm16 cd16 ct16 : Value}
    {f17 : Addr} {od17 an17 : Option Addr} {sl17 : Array (Option Value)} {oc17 kV17 dc17 pm17 cd17 ct17 : Value}
    {f18 : Addr} {od18 an18 : Option Addr} {sl18 : Array (Option Value)} {oc18 kV18 dc18 pm18 cd18 ct18 : Value}
    {f19 : Addr} {od19 an19 : Option Addr} {sl19 : Array (Option Value)} {oc19 kV19 dc19 pm19 cd19 ct19 : Value}
    {t0 : Nat}
    {t1 : Nat}
    {t2 : Nat}
    {t3 : Nat}
    {t4 : Nat}
    {gr gr2 : Int} {t9 t10 : Nat} {kw dw C fI T : Addr} {odI anI tdI odk odd : Option Addr} {slI tslI slk sld : Array (Option Value)} {ocI kVI dcI pmI cdI ctI tcI : Value} {tnI nk nd : Nat} {itk itd : Array Value} {xk : List Str}
    (a0 : nsIn K mainGlobals "natural_number" = some (some (.ref f0)))
    (l0 : K.lookup f0 = some ⟨oc0, od0, .func (fnOf "natural_number" "natural_number" (defArgs sNat) (defBody sNat) (defScope sNat) .none kV0 dc0 pm0 an0 cd0 ct0), sl0⟩)
    (c0 : codeIn K cd0 "natural_number" = true) (k0 : keepIn K (.ref f0) = true)
    (a1 : nsIn K mainGlobals "_next_start" = some (some (.ref f1)))
    (l1 : K.lookup f1 = some ⟨oc1, od1, .func (fnOf "_next_start" "_next_start" (defArgs sNext) (defBody sNext) (defScope sNext) .none kV1 dc1 pm1 an1 cd1 ct1), sl1⟩)
    (c1 : codeIn K cd1 "_next_start" = true) (k1 : keepIn K (.ref f1) = true)
    (a2 : nsIn K mainGlobals "_end_behind" = some (some (.ref f2)))
    (l2 : K.lookup f2 = some ⟨oc2, od2, .func (fnOf "_end_behind" "_end_behind" (defArgs sBehind) (defBody sBehind) (defScope sBehind) .none kV2 dc2 pm2 an2 cd2 ct2), sl2⟩)
    (c2 : codeIn K cd2 "_end_behind" = true) (k2 : keepIn K (.ref f2) = true)
    (a3 : nsIn K mainGlobals "_run_end" = some (some (.ref f3)))
    (l3 : K.lookup f3 = some ⟨oc3, od3, .func (fnOf "_run_end" "_run_end" (defArgs sRun) (defBody sRun) (defScope sRun) .none kV3 dc3 pm3 an3 cd3 ct3), sl3⟩)
    (c3 : codeIn K cd3 "_run_end" = true) (k3 : keepIn K (.ref f3) = true)
    (a4 : nsIn K mainGlobals "_token_at" = some (some (.ref f4)))
    (l4 : K.lookup f4 = some ⟨oc4, od4, .func (fnOf "_token_at" "_token_at" (defArgs sAt) (defBody sAt) (defScope sAt) .none kV4 dc4 pm4 an4 cd4 ct4), sl4⟩)
    (c4 : codeIn K cd4 "_token_at" = true) (k4 : keepIn K (.ref f4) = true)
    (a5 : nsIn K mainGlobals "_word_token" = some (some (.ref f5)))
    (l5 : K.lookup f5 = some ⟨oc5, od5, .func (fnOf "_word_token" "_word_token" (defArgs sWord) (defBody sWord) (defScope sWord) .none kV5 dc5 pm5 an5 cd5 ct5), sl5⟩)
    (c5 : codeIn K cd5 "_word_token" = true) (k5 : keepIn K (.ref f5) = true)
    (a6 : nsIn K mainGlobals "_integer_token" = some (some (.ref f6)))
    (l6 : K.lookup f6 = some ⟨oc6, od6, .func (fnOf "_integer_token" "_integer_token" (defArgs sInteger) (defBody sInteger) (defScope sInteger) .none kV6 dc6 pm6 an6 cd6 ct6), sl6⟩)
    (c6 : codeIn K cd6 "_integer_token" = true) (k6 : keepIn K (.ref f6) = true)
    (a7 : nsIn K mainGlobals "_text_token" = some (some (.ref f7)))
    (l7 : K.lookup f7 = some ⟨oc7, od7, .func (fnOf "_text_token" "_text_token" (defArgs sText) (defBody sText) (defScope sText) .none kV7 dc7 pm7 an7 cd7 ct7), sl7⟩)
    (c7 : codeIn K cd7 "_text_token" = true) (k7 : keepIn K (.ref f7) = true)
    (a8 : nsIn K mainGlobals "_quoted_token" = some (some (.ref f8)))
    (l8 : K.lookup f8 = some ⟨oc8, od8, .func (fnOf "_quoted_token" "_quoted_token" (defArgs sQuoted) (defBody sQuoted) (defScope sQuoted) .none kV8 dc8 pm8 an8 cd8 ct8), sl8⟩)
    (c8 : codeIn K cd8 "_quoted_token" = true) (k8 : keepIn K (.ref f8) = true)
    (a9 : nsIn K mainGlobals "_placeholder_token" = some (some (.ref f9)))
    (l9 : K.lookup f9 = some ⟨oc9, od9, .func (fnOf "_placeholder_token" "_placeholder_token" (defArgs sPlace) (defBody sPlace) (defScope sPlace) .none kV9 dc9 pm9 an9 cd9 ct9), sl9⟩)
    (c9 : codeIn K cd9 "_placeholder_token" = true) (k9 : keepIn K (.ref f9) = true)
    (a10 : nsIn K mainGlobals "_sign_token" = some (some (.ref f10)))
    (l10 : K.lookup f10 = some ⟨oc10, od10, .func (fnOf "_sign_token" "_sign_token" (defArgs sSign) (defBody sSign) (defScope sSign) .none kV10 dc10 pm10 an10 cd10 ct10), sl10⟩)
    (c10 : codeIn K cd10 "_sign_token" = true) (k10 : keepIn K (.ref f10) = true)
    (a11 : nsIn K mainGlobals "scan" = some (some (.ref f11)))
    (l11 : K.lookup f11 = some ⟨oc11, od11, .func (fnOf "scan" "scan" (defArgs sScan) (defBody sScan) (defScope sScan) .none kV11 dc11 pm11 an11 cd11 ct11), sl11⟩)
    (c11 : codeIn K cd11 "scan" = true) (k11 : keepIn K (.ref f11) = true)
    (a12 : nsIn K mainGlobals "complete_statement" = some (some (.ref f12)))
    (l12 : K.lookup f12 = some ⟨oc12, od12, .func (fnOf "complete_statement" "complete_statement" (defArgs sComp) (defBody sComp) (defScope sComp) .none kV12 dc12 pm12 an12 cd12 ct12), sl12⟩)
    (c12 : codeIn K cd12 "complete_statement" = true) (k12 : keepIn K (.ref f12) = true)
    (a13 : nsIn K mainGlobals "_law_fresh" = some (some (.ref f13)))
    (l13 : K.lookup f13 = some ⟨oc13, od13, .func (fnOf "_law_fresh" "_law_fresh" (defArgs sFresh) (defBody sFresh) (defScope sFresh) .none kV13 dc13 pm13 an13 cd13 ct13), sl13⟩)
    (c13 : codeIn K cd13 "_law_fresh" = true) (k13 : keepIn K (.ref f13) = true)
    (a14 : nsIn K mainGlobals "_law_fill" = some (some (.ref f14)))
    (l14 : K.lookup f14 = some ⟨oc14, od14, .func (fnOf "_law_fill" "_law_fill" (defArgs sFill) (defBody sFill) (defScope sFill) .none kV14 dc14 pm14 an14 cd14 ct14), sl14⟩)
    (c14 : codeIn K cd14 "_law_fill" = true) (k14 : keepIn K (.ref f14) = true)
    (a15 : nsIn K mainGlobals "_law_take" = some (some (.ref f15)))
    (l15 : K.lookup f15 = some ⟨oc15, od15, .func (fnOf "_law_take" "_law_take" (defArgs sTake) (defBody sTake) (defScope sTake) .none kV15 dc15 pm15 an15 cd15 ct15), sl15⟩)
    (c15 : codeIn K cd15 "_law_take" = true) (k15 : keepIn K (.ref f15) = true)
    (a16 : nsIn K mainGlobals "_law_one" = some (some (.ref f16)))
    (l16 : K.lookup f16 = some ⟨oc16, od16, .func (fnOf "_law_one" "_law_one" (defArgs sOne) (defBody sOne) (defScope sOne) .none kV16 dc16 pm16 an16 cd16 ct16), sl16⟩)
    (c16 : codeIn K cd16 "_law_one" = true) (k16 : keepIn K (.ref f16) = true)
    (a17 : nsIn K mainGlobals "_law_same" = some (some (.ref f17)))
    (l17 : K.lookup f17 = some ⟨oc17, od17, .func (fnOf "_law_same" "_law_same" (defArgs sSame) (defBody sSame) (defScope sSame) .none kV17 dc17 pm17 an17 cd17 ct17), sl17⟩)
    (c17 : codeIn K cd17 "_law_same" = true) (k17 : keepIn K (.ref f17) = true)
    (a18 : nsIn K mainGlobals "_law_ends_well" = some (some (.ref f18)))
    (l18 : K.lookup f18 = some ⟨oc18, od18, .func (fnOf "_law_ends_well" "_law_ends_well" (defArgs sEnds) (defBody sEnds) (defScope sEnds) .none kV18 dc18 pm18 an18 cd18 ct18), sl18⟩)
    (c18 : codeIn K cd18 "_law_ends_well" = true) (k18 : keepIn K (.ref f18) = true)
    (a19 : nsIn K mainGlobals "law" = some (some (.ref f19)))
    (l19 : K.lookup f19 = some ⟨oc19, od19, .func (fnOf "law" "law" (defArgs sLaw) (defBody sLaw) (defScope sLaw) .none kV19 dc19 pm19 an19 cd19 ct19), sl19⟩)
    (c19 : codeIn K cd19 "law" = true) (k19 : keepIn K (.ref f19) = true)
    (z0 : nsIn K mainGlobals "len" = some none)
    (z1 : nsIn K mainGlobals "int" = some none)
    (z2 : nsIn K mainGlobals "enumerate" = some none)
    (z3 : nsIn K mainGlobals "isinstance" = some none)
    (z4 : nsIn K mainGlobals "zip" = some none)
    (z5 : nsIn K mainGlobals "all" = some none)
    (z6 : nsIn K mainGlobals "list" = some none)
    (z7 : nsIn K mainGlobals "tuple" = some none)
    (z8 : nsIn K mainGlobals "bool" = some none)
    (z9 : nsIn K mainGlobals "range" = some none)
    (z10 : nsIn K mainGlobals "min" = some none)
    (s0 : nsIn K mainGlobals "BLANKS" = some (some (.str " \n" t0)))
    (s1 : nsIn K mainGlobals "LETTERS" = some (some (.str "abcdefghijklmnopqrstuvwxyzABCDEFGHIJKLMNOPQRSTUVWXYZ_" t1)))
    (s2 : nsIn K mainGlobals "WORD_SIGNS" = some (some (.str "abcdefghijklmnopqrstuvwxyzABCDEFGHIJKLMNOPQRSTUVWXYZ_0123456789" t2)))
    (s3 : nsIn K mainGlobals "DIGITS" = some (some (.str "0123456789" t3)))
    (s4 : nsIn K mainGlobals "SINGLE_SIGNS" = some (some (.str "(),.;=<>+-*/" t4)))
    (sG : nsIn K mainGlobals "GREATEST" = some (some (.int gr t9)))
    (sT : nsIn K mainGlobals "TOO_MANY_DIGITS" = some (some (.int gr2 t10)))
    (aK : nsIn K mainGlobals "KEYWORDS" = some (some (.ref kw))) (lK : K.lookup kw = some ⟨.type "tuple", odk, .seq itk nk, slk⟩) (yK : itk.size ≤ sizeLine) (xK : (itk.toList.map fun v => match v with | .str x _ => x | _ => Str.empty) = xk) (uK : (itk.toList.all fun v => match v with | .str _ _ => true | _ => false) = true)
    (aD : nsIn K mainGlobals "DOUBLE_SIGNS" = some (some (.ref dw))) (lD : K.lookup dw = some ⟨.type "tuple", odd, .seq itd nd, sld⟩) (yD : itd.size ≤ sizeLine) (xD : (itd.toList.map fun v => match v with | .str x _ => x | _ => Str.empty) = dbl) (uD : (itd.toList.all fun v => match v with | .str _ _ => true | _ => false) = true)
    (aC : nsIn K mainGlobals "Token" = some (some (.ref C))) (aI : findIn K (.ref C) "__init__" = some (some (.ref fI))) (iI : isFn K (.ref fI) = true)
    (lI : K.lookup fI = some ⟨ocI, odI, .func (fnOf "__init__" "Token.__init__" (defArgs sInit) (defBody sInit) (defScope sInit) (.ref T) kVI dcI pmI anI cdI ctI), slI⟩) (lT : K.lookup T = some ⟨tcI, tdI, .seq #[.none] tnI, tslI⟩) (cI : codeIn K cdI "Token.__init__" = true) (kI : keepIn K (.ref fI) = true)
    (pg : plainGet K C Str.empty = true) (hd : hasDictIn K C = true) (po : plainOver K C = true) (sa : findIn K (.ref C) "__setattr__" = some (some (.builtin "object.__setattr__"))) (mk : makesIn K C = true) (kc : keepIn K (.ref C) = true)
    (n0 : findIn K (.ref C) "kind" = some none) (n1 : findIn K (.ref C) "start" = some none) (n2 : findIn K (.ref C) "end" = some none) (n3 : findIn K (.ref C) "text" = some none) (n4 : findIn K (.ref C) "value" = some none) (n5 : findIn K (.ref C) "word" = some none) :
    ∃ fd : FuncData, (∀ (s : Shared) (v : Value), BindsTo s fd ⟨[v], []⟩ [("_law_script", v)]) ∧ ∀ base : Heap, K.In base → base.Ns mainGlobals mg → FnOk l.prog w K mg base CX0 7 fa fd ["_law_script"] (spLaw K) := by
  have e := hfa.symm.trans (mg_of X G a19)
  cases e
  have F0 := fun_mk (st := sNat) l0 c0 k0
  have b0 := F0.binds (ps := ["digits"]) fun _ _ _ _ _ _ us hl => match us, hl with | [_], _ => rfl
  have g0 := mg_of X G a0
  have F1 := fun_mk (st := sNext) l1 c1 k1
  have b1 := F1.binds (ps := ["sql", "at"]) fun _ _ _ _ _ _ us hl => match us, hl with | [_, _], _ => rfl
  have g1 := mg_of X G a1
  have F2 := fun_mk (st := sBehind) l2 c2 k2
  have b2 := F2.binds (ps := ["sql", "sign", "at"]) fun _ _ _ _ _ _ us hl => match us, hl with | [_, _, _], _ => rfl
  have g2 := mg_of X G a2
  have F3 := fun_mk (st := sRun) l3 c3 k3
  have b3 := F3.binds (ps := ["sql", "at", "letters"]) fun _ _ _ _ _ _ us hl => match us, hl with | [_, _, _], _ => rfl
  have g3 := mg_of X G a3
  have F4 := fun_mk (st := sAt) l4 c4 k4
  have b4 := F4.binds (ps := ["sql", "at"]) fun _ _ _ _ _ _ us hl => match us, hl with | [_, _], _ => rfl
  have g4 := mg_of X G a4
  have F5 := fun_mk (st := sWord) l5 c5 k5
  have b5 := F5.binds (ps := ["sql", "at"]) fun _ _ _ _ _ _ us hl => match us, hl with | [_, _], _ => rfl
  have g5 := mg_of X G a5
  have F6 := fun_mk (st := sInteger) l6 c6 k6
  have b6 := F6.binds (ps := ["sql", "at"]) fun _ _ _ _ _ _ us hl => match us, hl with | [_, _], _ => rfl
  have g6 := mg_of X G a6
  have F7 := fun_mk (st := sText) l7 c7 k7
  have b7 := F7.binds (ps := ["sql", "at"]) fun _ _ _ _ _ _ us hl => match us, hl with | [_, _], _ => rfl
  have g7 := mg_of X G a7
  have F8 := fun_mk (st := sQuoted) l8 c8 k8
  have b8 := F8.binds (ps := ["sql", "at"]) fun _ _ _ _ _ _ us hl => match us, hl with | [_, _], _ => rfl
  have g8 := mg_of X G a8
  have F9 := fun_mk (st := sPlace) l9 c9 k9
  have b9 := F9.binds (ps := ["sql", "at"]) fun _ _ _ _ _ _ us hl => match us, hl with | [_, _], _ => rfl
  have g9 := mg_of X G a9
  have F10 := fun_mk (st := sSign) l10 c10 k10
  have b10 := F10.binds (ps := ["sql", "at"]) fun _ _ _ _ _ _ us hl => match us, hl with | [_, _], _ => rfl
  have g10 := mg_of X G a10
  have F11 := fun_mk (st := sScan) l11 c11 k11
  have b11 := F11.binds (ps := ["sql"]) fun _ _ _ _ _ _ us hl => match us, hl with | [_], _ => rfl
  have g11 := mg_of X G a11
  have F12 := fun_mk (st := sComp) l12 c12 k12
  have b12 := F12.binds (ps := ["sql"]) fun _ _ _ _ _ _ us hl => match us, hl with | [_], _ => rfl
  have g12 := mg_of X G a12
  have F13 := fun_mk (st := sFresh) l13 c13 k13
  have b13 := F13.binds (ps := ["_law_script"]) fun _ _ _ _ _ _ us hl => match us, hl with | [_], _ => rfl
  have g13 := mg_of X G a13
  have F14 := fun_mk (st := sFill) l14 c14 k14
  have b14 := F14.binds (ps := ["_law_state"]) fun _ _ _ _ _ _ us hl => match us, hl with | [_], _ => rfl
  have g14 := mg_of X G a14
  have F15 := fun_mk (st := sTake) l15 c15 k15
  have b15 := F15.binds (ps := ["_law_state", "_law_many"]) fun _ _ _ _ _ _ us hl => match us, hl with | [_, _], _ => rfl
  have g15 := mg_of X G a15
  have F16 := fun_mk (st := sOne) l16 c16 k16
  have b16 := F16.binds (ps := ["_law_state", "_law_things"]) fun _ _ _ _ _ _ us hl => match us, hl with | [_, _], _ => rfl
  have g16 := mg_of X G a16
  have F17 := fun_mk (st := sSame) l17 c17 k17
  have b17 := F17.binds (ps := ["_law_found", "_law_due"]) fun _ _ _ _ _ _ us hl => match us, hl with | [_, _], _ => rfl
  have g17 := mg_of X G a17
  have F18 := fun_mk (st := sEnds) l18 c18 k18
  have b18 := F18.binds (ps := ["_law_text"]) fun _ _ _ _ _ _ us hl => match us, hl with | [_], _ => rfl
  have g18 := mg_of X G a18
  have F19 := fun_mk (st := sLaw) l19 c19 k19
  have m0 := mg_none_of X G z0
  have m1 := mg_none_of X G z1
  have m2 := mg_none_of X G z2
  have m3 := mg_none_of X G z3
  have m4 := mg_none_of X G z4
  have m5 := mg_none_of X G z5
  have m6 := mg_none_of X G z6
  have m7 := mg_none_of X G z7
  have m8 := mg_none_of X G z8
  have m9 := mg_none_of X G z9
  have m10 := mg_none_of X G z10
  have q0 := mg_of X G s0
  have q1 := mg_of X G s1
  have q2 := mg_of X G s2
  have q3 := mg_of X G s3
  have q4 := mg_of X G s4
  have TC : TokC K C := ⟨⟨pg, hd, po, sa⟩, n0, n1, n2, n3, n4, n5⟩
  have FI : FunT K "__init__" "Token.__init__" sInit fI (fnOf "__init__" "Token.__init__" (defArgs sInit) (defBody sInit) (defScope sInit) (.ref T) kVI dcI pmI anI cdI ctI) := ⟨⟨ocI, odI, T, kVI, dcI, pmI, anI, cdI, ctI, slI, rfl, lI, cI, tcI, tdI, tnI, tslI, lT⟩, kI⟩
  refine ⟨fnOf "law" "law" (defArgs sLaw) (defBody sLaw) (defScope sLaw) .none kV19 dc19 pm19 an19 cd19 ct19, fun s v => .of_eq rfl, fun base _ _ => ?_⟩
  have M : Mks l.prog w K mg base C fI _ := { M := ⟨mk, aI, iI, kc⟩, g := mg_of X G aC, b4 := FI.b4, b5 := FI.b5, G := ok_init FI TC, len := m0 }
  have sk := tup_strs (c := .none) lK yK xK uK
  have sd := tup_strs (c := .none) lD yD xD uD
  have cW : Can l.prog w K mg base 3 "_word_token" ["sql", "at"] (spTok C (· ∈ letters)) _ _ := ⟨ok_word F5 M F3 b3 g3 q2 (mg_of X G aK) sk (flat_strs _), g5, F5.kp, b5⟩
  have cNt : Can l.prog w K mg base 1 "natural_number" ["digits"] spNat _ _ := ⟨ok_nat F0 (mg_of X G sT) m1, g0, F0.kp, b0⟩
  have cI : Can l.prog w K mg base 3 "_integer_token" ["sql", "at"] (spTok C (· ∈ digits)) _ _ := ⟨ok_integer F6 M F3 b3 g3 q3 q1 (mg_of X G sG) cNt, g6, F6.kp, b6⟩
  have cT : Can l.prog w K mg base 3 "_text_token" ["sql", "at"] (spTok C (· = 39)) _ _ := ⟨ok_text F7 M, g7, F7.kp, b7⟩
  have cQ : Can l.prog w K mg base 3 "_quoted_token" ["sql", "at"] (spTok C (· = 34)) _ _ := ⟨ok_quoted F8 M, g8, F8.kp, b8⟩
  have cP : Can l.prog w K mg base 3 "_placeholder_token" ["sql", "at"] (spTok C (· ∈ ([63, 58, 64, 36] : List Nat))) _ _ := ⟨ok_place F9 M F3 b3 g3 q2 q3 m10, g9, F9.kp, b9⟩
  have cS : Can l.prog w K mg base 3 "_sign_token" ["sql", "at"] (spTok C (fun c => c ≠ 39 ∧ c ≠ 34)) _ _ := ⟨ok_sign F10 M (mg_of X G aD) sd q4, g10, F10.kp, b10⟩
  have cA : Can l.prog w K mg base 4 "_token_at" ["sql", "at"] (spTok C (fun _ => True)) _ _ := ⟨ok_at F4 cW cI cT cQ cP cS q1 q3, g4, F4.kp, b4⟩
  have cN : Can l.prog w K mg base 2 "_next_start" ["sql", "at"] spNext _ _ := ⟨ok_next F1 F2 b2 g2 m0 q0, g1, F1.kp, b1⟩
  have cSc : Can l.prog w K mg base 5 "scan" ["sql"] (spScan C) _ _ := ⟨ok_scan F11 cN cA TC m0, g11, F11.kp, b11⟩
  have cC : Can l.prog w K mg base 6 "complete_statement" ["sql"] spComp _ _ := ⟨ok_comp F12 cSc TC, g12, F12.kp, b12⟩
  have GT : FnOk l.prog w K mg base CX0 2 f15 _ ["_law_state", "_law_many"] spTake := ok_take F15 F14 b14 g14 m0 m1 m2
  have c1 : Can l.prog w K mg base 1 "_law_fresh" ["_law_script"] (spFresh K) _ _ := ⟨ok_fresh F13, g13, F13.kp, b13⟩
  have c2 : Can l.prog w K mg base 2 "_law_take" ["_law_state", "_law_many"] spTake _ _ := ⟨GT, g15, F15.kp, b15⟩
  have c3 : Can l.prog w K mg base 3 "_law_one" ["_law_state", "_law_things"] spOne _ _ := ⟨ok_one F16 F15 b15 g15 m0 GT, g16, F16.kp, b16⟩
  have G0 : ∀ fd, FnOk l.prog w K mg base CX0 1 f17 fd ["_law_found", "_law_due"] (spRec false) := fun fd => ⟨fun vs H Q E h => Bool.noConfusion h.1, fun A outer s H args us vs Q E _ _ _ _ h => Bool.noConfusion h.1⟩
  have c4 : Can l.prog w K mg base 2 "_law_same" ["_law_found", "_law_due"] (spSame false) _ _ := ⟨ok_same1 F17 b17 g17 m3 m0 m4 m5 m6 m7 m1 m8 (G0 _), g17, F17.kp, b17⟩
  have c5 : Can l.prog w K mg base 3 "_law_same" ["_law_found", "_law_due"] spList _ _ := ⟨ok_same F17 b17 g17 m3 m0 m4 m5 m6 m7 m1 m8, g17, F17.kp, b17⟩
  have c6 : Can l.prog w K mg base 1 "_law_ends_well" ["_law_text"] spEnds _ _ := ⟨ok_ends F18 m0, g18, F18.kp, b18⟩
  exact ok_law F19 c1 c2 c3 c4 c5 cC c6 m9
end Ew

open PySem PySem.W PyProof.Rows
set_option maxRecDepth 100000 in
set_option maxHeartbeats 0 in
theorem PySem.Challenge.cw_cursorhouse_k63_complete_statements_holds : PySem.Challenge.rw_cursorhouse_k63_complete_statements.Holds := by
  w_on; o_law; k_head; (case hw => w_witness2)
  k_fill
  refine L2.walk_of (l := PySem.Challenge.rw_cursorhouse_k63_complete_statements) (n := 63) (k := 7) (x := "_law_script") (CX := fun _ => L2.CX0) (sp := fun w => Ew.spLaw _) rfl (by decide) rfl ⟨rfl, by decide, by decide⟩ (fun w h Y => PySem.W.kIn_of Y) ?F (fun _ _ a ns hl _ hS => ⟨a, ns, rfl, hS, hl, fun _ => rfl⟩) (fun _ _ _ _ _ h => h)
  case F =>
    intro w mg fa h KX G hmg
    refine' Ew.all_end KX G hmg ?a0 ?l0 ?c0 ?k0 ?a1 ?l1 ?c1 ?k1 ?a2 ?l2 ?c2 ?k2 ?a3 ?l3 ?c3 ?k3 ?a4 ?l4 ?c4 ?k4 ?a5 ?l5 ?c5 ?k5 ?a6 ?l6 ?c6 ?k6 ?a7 ?l7 ?c7 ?k7 ?a8 ?l8 ?c8 ?k8 ?a9 ?l9 ?c9 ?k9 ?a10 ?l10 ?c10 ?k10 ?a11 ?l11 ?c11 ?k11 ?a12 ?l12 ?c12 ?k12 ?a13 ?l13 ?c13 ?k13 ?a14 ?l14 ?c14 ?k14 ?a15 ?l15 ?c15 ?k15 ?a16 ?l16 ?c16 ?k16 ?a17 ?l17 ?c17 ?k17 ?a18 ?l18 ?c18 ?k18 ?a19 ?l19 ?c19 ?k19 ?z0 ?z1 ?z2 ?z3 ?z4 ?z5 ?z6 ?z7 ?z8 ?z9 ?z10 ?s0 ?s1 ?s2 ?s3 ?s4 ?sG ?sT ?aK ?lK ?yK ?xK ?uK ?aD ?lD ?yD ?xD ?uD ?aC ?aI ?iI ?lI ?lT ?cI ?kI ?pg ?hd ?po ?sa ?mk ?kc ?n0 ?n1 ?n2 ?n3 ?n4 ?n5
    (case a0 => k_is)
    (case l0 => k_is)
    (case c0 => k_is)
    (case k0 => k_is)
    (case a1 => k_is)
    (case l1 => k_is)
    (case c1 => k_is)
    (case k1 => k_is)
    (case a2 => k_is)
    (case l2 => k_is)
    (case c2 => k_is)
    (case k2 => k_is)
    (case a3 => k_is)
    (case l3 => k_is)
    (case c3 => k_is)
    (case k3 => k_is)
    (case a4 => k_is)
    (case l4 => k_is)
    (case c4 => k_is)
    (case k4 => k_is)
    (case a5 => k_is)
    (case l5 => k_is)
    (case c5 => k_is)
    (case k5 => k_is)
    (case a6 => k_is)
    (case l6 => k_is)
    (case c6 => k_is)
    (case k6 => k_is)
    (case a7 => k_is)
    (case l7 => k_is)
    (case c7 => k_is)
    (case k7 => k_is)
    (case a8 => k_is)
    (case l8 => k_is)
    (case c8 => k_is)
    (case k8 => k_is)
    (case a9 => k_is)
    (case l9 => k_is)
    (case c9 => k_is)
    (case k9 => k_is)
    (case a10 => k_is)
    (case l10 => k_is)
    (case c10 => k_is)
    (case k10 => k_is)
    (case a11 => k_is)
    (case l11 => k_is)
    (case c11 => k_is)
    (case k11 => k_is)
    (case a12 => k_is)
    (case l12 => k_is)
    (case c12 => k_is)
    (case k12 => k_is)
    (case a13 => k_is)
    (case l13 => k_is)
    (case c13 => k_is)
    (case k13 => k_is)
    (case a14 => k_is)
    (case l14 => k_is)
    (case c14 => k_is)
    (case k14 => k_is)
    (case a15 => k_is)
    (case l15 => k_is)
    (case c15 => k_is)
    (case k15 => k_is)
    (case a16 => k_is)
    (case l16 => k_is)
    (case c16 => k_is)
    (case k16 => k_is)
    (case a17 => k_is)
    (case l17 => k_is)
    (case c17 => k_is)
    (case k17 => k_is)
    (case a18 => k_is)
    (case l18 => k_is)
    (case c18 => k_is)
    (case k18 => k_is)
    (case a19 => k_is)
    (case l19 => k_is)
    (case c19 => k_is)
    (case k19 => k_is)
    (case z0 => k_is)
    (case z1 => k_is)
    (case z2 => k_is)
    (case z3 => k_is)
    (case z4 => k_is)
    (case z5 => k_is)
    (case z6 => k_is)
    (case z7 => k_is)
    (case z8 => k_is)
    (case z9 => k_is)
    (case z10 => k_is)
    (case s0 => k_is)
    (case s1 => k_is)
    (case s2 => k_is)
    (case s3 => k_is)
    (case s4 => k_is)
    (case sG => k_is)
    (case sT => k_is)
    (case aK => k_is)
    (case lK => k_is)
    (case yK => decide +kernel)
    (case xK => rfl)
    (case uK => rfl)
    (case aD => k_is)
    (case lD => k_is)
    (case yD => decide +kernel)
    (case xD => decide +kernel)
    (case uD => rfl)
    (case aC => k_is)
    (case aI => k_is)
    (case iI => k_is)
    (case lI => k_is)
    (case lT => k_is)
    (case cI => k_is)
    (case kI => k_is)
    (case pg => k_is)
    (case hd => k_is)
    (case po => k_is)
    (case sa => k_is)
    (case mk => k_is)
    (case kc => k_is)
    (case n0 => k_is)
    (case n1 => k_is)
    (case n2 => k_is)
    (case n3 => k_is)
    (case n4 => k_is)
    (case n5 => k_is)

