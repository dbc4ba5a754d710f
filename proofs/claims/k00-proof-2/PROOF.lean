import PyProof.Rows.All
import Wide.All
import OpenK.AllK
import Wide.FinOn
import HandS.ForMost
import KE.GoesEnum
import KE.KExcTry
import KE.KExcStr
import KE.RegKSuper
import HandS.ForExc
import HandS.ExcInit
import HandS.ExcValue
import HandS.IsInst
import KE.KExcIs
import HandS.Style
import HandS.Defaults
import HandS.ExcIs
import KE.RegKIsAll
import PySem.Challenge.RW_cursorhouse_k00_errors_made
set_option Elab.async false
set_option linter.all false
set_option maxRecDepth 100000
set_option maxHeartbeats 8000000
/-! enumerate over a tuple, one argument. -/
namespace Drw
open PySem PySem.Spec PyProof.Rows L2
section
open Sem (wp)
theorem new_enum {v : Value} {o : Obj} {H : Heap → Prop} (B : Begins v o H) :
    Meets (Builtin.«enumerate.__new__» ⟨[.type "enumerate", v], []⟩) (fun _ R s => H s.heap ∧
      R (.ok (.ret (.ref (s.heap.push o).objs.size)))
        { s with heap := (s.heap.push o).push { cls := .type "enumerate", data := .fields #[.none, .bool false, .ref s.heap.objs.size, rawInt 0, .none, .none] } }) := by
  refine .of_wp fun prog w A R s h => ?_
  obtain ⟨hp, g, d, tk, os⟩ := s
  obtain ⟨h1, h⟩ := h
  have se := sub_enumerate
  have it : ∀ {A' : Around} {E : Value → Shared → Prop} {Q : Value → Shared → Prop}, Q (.ref hp.objs.size) ⟨hp.push o, g, d, tk, os⟩ →
      wpAny (model prog w) A' (pyIter v) Q E ⟨hp, g, d, tk, os⟩ := fun q => B.iter prog w _ _ _ _ h1 q
  wp_walk using it
  refine wpAny_stack_any fun st => wpAny_pure ?_
  split
  · rename_i c _ _ _ _ _
    cases (c == Value.type "enumerate") <;> (wp_walk using it; exact ⟨_, rfl, h⟩)
  · wp_walk using it
    exact ⟨_, rfl, h⟩
theorem call_enum {prog : Program} {w : World} {A : Around} {E : Value → Shared → Prop} {s : Shared} {v : Value} {o : Obj} {H : Heap → Prop} {Q : Value → Shared → Prop}
    (B : Begins v o H) (h1 : H s.heap)
    (h : ∀ h', IsEnum h' (s.heap.objs.size + 1) s.heap.objs.size 0 .none → h'.get? s.heap.objs.size = some o →
      (∀ b o, s.heap.get? b = some o → h'.get? b = some o) → Q (.ref (s.heap.objs.size + 1)) { s with heap := h' }) :
    wpAny (model prog w) A (call (.type "enumerate") [v]) Q E s := by
  refine callType_new F.called_enumerate (by decide) (F.typeCall_enumerate_1 _) (F.newCall_enumerate_1 _)
    (fun obj => F.args_object_init_2 obj _) F.entry_enumerate_new (new_enum B) ⟨h1, ?_⟩
  have hz : (s.heap.push o).objs.size = s.heap.objs.size + 1 := Heap.size_push ..
  have he := Heap.get?_push_size (s.heap.push o) (o := { cls := .type "enumerate", data := .fields #[.none, .bool false, .ref s.heap.objs.size, rawInt 0, .none, .none] }) rfl
  rw [hz] at he
  show _ ∧ _
  rw [hz]
  exact ⟨⟨_, he, rfl⟩, h _ he (Heap.get?_push_of_some _ (Heap.get?_push_size _ B.free)) fun b o x => Heap.get?_push_of_some _ (Heap.get?_push_of_some _ x)⟩
end
/-- the tuple at a, each item in a new pair with its place -/
def Ipt (K : PySem.W.Frag) (a : Addr) (xs : List V) : It where
  go := fun i H => SqT K H a xs ∧ i < xs.length
  yld := fun i H v H' => ∃ T x, v = .ref T ∧ H T = none ∧ xs[i]? = some x ∧ H' = upd H T (.tup [.int (i : Nat), x])
  stop := fun i H => SqT K H a xs ∧ xs.length = i
/-- where an enumerate e over a tuple iterator it stands -/
def EnT (e it a : Addr) (its : List Value) (i : Nat) (h : Heap) : Prop :=
  (∃ old, IsEnum h e it ((i : Nat) : Int) old) ∧ h.IsTupleIter it a i ∧ h.IsTuple a its.toArray
end Drw

namespace Drw
open PySem PySem.Spec PyProof.Rows L2
/-- an enumerate e over the tuple iterator it, i items taken -/
def EnI (e it a : Addr) (i : Nat) (h : Heap) : Prop := (∃ old, IsEnum h e it ((i : Nat) : Int) old) ∧ h.IsTupleIter it a i ∧ e ≠ it
theorem two {b e it : Addr} (hb : b ∈ [e, it]) : b = e ∨ b = it := by simpa using hb
theorem enI_lt {e it a : Addr} {i : Nat} {h : Heap} (st : EnI e it a i h) : ∀ b ∈ [e, it], b < h.objs.size := fun b hb => by
  obtain ⟨⟨old, he⟩, ⟨o, ho, _⟩, _⟩ := st
  rcases two hb with rfl | rfl
  · exact Heap.lt_size he
  · exact Heap.lt_size ho
theorem apart_tup {e it a : Addr} {i : Nat} {h : Heap} {its : Array Value} (st : EnI e it a i h) (t : h.IsTuple a its) : a ≠ it := fun z => by
  obtain ⟨_, ⟨o, ho, hc, _⟩, _⟩ := st
  obtain ⟨o', ho', hc', _⟩ := t
  rw [z, ho] at ho'
  cases ho'
  rw [hc] at hc'
  exact absurd (Value.type.inj hc') (by decide)
theorem turn_ipt {P : Program} {w : World} {K : PySem.W.Frag} {elts : List Expr} {kk : Nat} {tpos : Pos} (a e it : Addr) (xs : List V) :
    Turn P w K (.Tuple elts kk tpos) (Ipt K a xs) [e, it] e (EnI e it a) where
  mem := List.mem_cons_self
  obj := fun i h st b hb => by
    obtain ⟨⟨old, he⟩, ⟨o, ho, _, hd⟩, _⟩ := st
    rcases two hb with rfl | rfl
    · exact ⟨_, he, fun v q => nomatch q⟩
    · exact ⟨o, ho, fun v q => by rw [hd] at q; cases q⟩
  keep := fun i h h' ⟨⟨old, he⟩, hi, hne⟩ k => ⟨⟨old, k e (by simp) _ he⟩, hi.at fun o q => k it (by simp) o q, hne⟩
  item := by
    intro X hP hw hK hc i pins s σ H E I hf st hg
    subst hP hw hK
    obtain ⟨hq, hi⟩ := hg
    obtain ⟨its, rv, tp, _⟩ := I.tuple hq
    have tp' : s.heap.IsTuple a its.toArray := tp
    have old_lt := enI_lt st
    have hat := apart_tup st tp'
    obtain ⟨⟨old, he⟩, hit, hne⟩ := st
    have hx : xs[i]? = some xs[i] := List.getElem?_eq_getElem hi
    have hl := rv.length
    have D : Draws X.prog X.w X.A.in1 it [it, a] its.toArray.size _ _ := Draws.tuple (A := X.A.in1) (I.ok.hd hc) it a hat its.toArray
    have hea : e ∉ [it, a] := fun z => by
      rcases two z with z | z
      · exact hne z
      · rw [z] at he
        obtain ⟨o', ho', hc', _⟩ := tp'
        have y := Option.some.inj (he.symm.trans ho')
        rw [← y] at hc'
        exact absurd (Value.type.inj hc') (by decide)
    refine wpAny_pyNext_enum_itemC D he ⟨hit, tp'⟩ (by simp; omega) hne hea fun u h' tk hu ho st' hT hsz hk => ?_
    refine ⟨_, rfl, wpAny_letOwnedTupleGo_enum (s := ⟨h', s.gens, s.drawn, tk + 1, s.os⟩) ho fun h2 he2 sb => ?_⟩
    have hel : e < s.heap.objs.size := old_lt e (by simp)
    have hT2 : h2.get? s.heap.objs.size = some { cls := .type "tuple", data := .seq #[.int i tk, u] } := (sb.2 _ (Nat.ne_of_gt hel)).trans hT
    obtain ⟨u', hu', ru⟩ := rv.get hx
    have eu : u' = u := by
      have y : its[i]? = some u := by simpa using hu
      exact Option.some.inj (hu'.symm.trans y)
    subst eu
    have new : ObjOk X.prog X.w (upd H s.heap.objs.size (.tup [.int (i : Nat), xs[i]])) h2 s.heap.objs.size (.tup [.int (i : Nat), xs[i]]) :=
      ⟨by show 2 ≤ sizeLine; decide, [.int i tk, u'], .cons ⟨_, rfl⟩ (.cons ru .nil), ⟨_, hT2, rfl, _, rfl⟩⟩
    have kk' : ∀ b ob, b ∉ [e, it] → s.heap.get? b = some ob → h2.get? b = some ob := fun b ob hb q =>
      (sb.2 b fun z => hb (by simp [z])).trans (hk b ob (fun z => hb (by simp [z])) (fun z => hb (by simp [z])) q)
    have J := I.turnedNew (t' := tk + 1) kk' hf (Nat.le_refl _) new
    refine ⟨.ref s.heap.objs.size, _, J, rfl, ⟨_, xs[i], rfl, I.hok.fresh (Nat.le_refl _), hx, rfl⟩, ⟨⟨u', ?_⟩, ?_, hne⟩, fun b hb => ?_⟩
    · have e1 : ((i + 1 : Nat) : Int) = (i : Int) + 1 := by omega
      rw [e1]
      exact he2
    · exact st'.1.at fun o q => (sb.2 it (Ne.symm hne)).trans q
    · rw [upd_ne (Nat.ne_of_lt (old_lt b hb))]
      exact (hf b hb).1
  done := by
    intro X hP hw hK hc i pins s σ H E I hf st hg
    subst hP hw hK
    obtain ⟨hq, hi⟩ := hg
    obtain ⟨its, rv, tp, _⟩ := I.tuple hq
    have tp' : s.heap.IsTuple a its.toArray := tp
    have hat := apart_tup st tp'
    obtain ⟨⟨old, he⟩, hit, hne⟩ := st
    have hl := rv.length
    have D : Draws X.prog X.w X.A.in1 it [it, a] its.toArray.size _ _ := Draws.tuple (A := X.A.in1) (I.ok.hd hc) it a hat its.toArray
    have hi' : i = its.toArray.size := by simp; omega
    subst hi'
    obtain ⟨f0, f1, f2, f3, f4, f5⟩ := hf it (by simp)
    exact wpAny_pyNext_enum_endD D he ⟨hit, tp'⟩ fun h' eb => ⟨rfl, I.turned (t' := s.toks) (fun b o hb q => eb b o hb q) f0 f1 f3 f4 f5⟩
  self := fun A i s Q E st h => by
    obtain ⟨⟨_, he⟩, _⟩ := st
    exact wpAny_pyIter_enum he h
def iEnT (K : PySem.W.Frag) (ta : TA) : TI := fun σ H R => ta σ H fun vs H1 => ∃ a xs, vs = [.ref a] ∧ SqT K H1 a xs ∧ R (Ipt K a xs) H1
theorem pi_enT {X : Cx} {e : Expr} {ta : TA} {p pos tpos : Pos} {elts : List Expr} {kk : Nat} (hg : Gl X "enumerate") (hm : X.mg "enumerate" = none) (ha : PA X [e] ta)
    (hs : starEach [e] X.env = [(false, eval e X.env)] := by rfl) : PI X (.Tuple elts kk tpos) (.Call (.Name "enumerate" p) [e] [] pos) (iEnT X.K ta) := by
  refine ⟨fun pins s σ H R I h => ?_⟩
  refine Call_ (ld_blt I hg hm boot_enumerate ?_)
  refine PyProof.Rows.callWith_type1 (thn (ha.run pos pins s σ H _ I h) fun us s1 ⟨vs, H1, I1, r1, q1⟩ => ?_) hs rfl
  obtain ⟨a, xs, rfl, hq, q⟩ := q1
  obtain ⟨u, rfl, ru⟩ : ∃ u, us = [u] ∧ RelV (.ref a) u := by
    cases r1 with
    | cons r rr =>
      cases rr
      exact ⟨_, rfl, r⟩
  obtain rfl : u = Value.ref a := ru
  obtain ⟨its, rv, tp, _⟩ := I1.tuple hq
  refine call_enum (begins_tuple a its.toArray) tp fun h' he hit hk => wpAny_pyIter_enum he ?_
  refine ⟨s1.heap.objs.size + 1, [s1.heap.objs.size + 1, s1.heap.objs.size], _, _, H1, rfl, I1.kept (t' := s1.toks) hk,
    turn_ipt a (s1.heap.objs.size + 1) s1.heap.objs.size xs, ⟨⟨.none, he⟩, ⟨_, hit, rfl, rfl⟩, Nat.succ_ne_self _⟩, fun b hb => ?_, q⟩
  have hle : s1.heap.objs.size ≤ b := by
    rcases two hb with rfl | rfl
    · exact Nat.le_succ _
    · exact Nat.le_refl _
  exact I1.fpOk hle (I1.hok.fresh hle)
end Drw

namespace Drw
open PySem PySem.Spec PyProof.Rows L2
def topS (i : Nat) : Stmt := PySem.Challenge.pw_cursorhouse_k00_errors_made.main.body.getD i (.Pass ⟨0, 0, 0, 0⟩)
abbrev sFresh : Stmt := topS 11
abbrev sFill : Stmt := topS 12
abbrev sTake : Stmt := topS 13
abbrev sOne : Stmt := topS 14
theorem scFresh : FnScope ["_law_script"] ["_law_script"] (defScope sFresh) := ⟨rfl, rfl, rfl, by decide +kernel, rfl, by decide +kernel, by decide +kernel⟩
theorem scFill : FnScope ["_law_state", "_law_cells", "_law_nth", "_law_seed", "_law_k", "_law_prime", "_law_far"] ["_law_state"] (defScope sFill) := ⟨rfl, rfl, rfl, by decide +kernel, rfl, by decide +kernel, by decide +kernel⟩
theorem scTake : FnScope ["_law_state", "_law_many", "_law_turns", "_law_digit"] ["_law_state", "_law_many"] (defScope sTake) := ⟨rfl, rfl, rfl, by decide +kernel, rfl, by decide +kernel, by decide +kernel⟩
theorem scOne : FnScope ["_law_state", "_law_things"] ["_law_state", "_law_things"] (defScope sOne) := ⟨rfl, rfl, rfl, by decide +kernel, rfl, by decide +kernel, by decide +kernel⟩
/-- a list of a state for draws stands at l, its cells at c -/
structure Stt (H : Hp) (l c : Addr) (ns : List Int) : Prop where
  ex : ∃ (nth left : Int) (mix : Bool), H l = some (.lst [.ref c, .int nth, .int left, .bl mix])
  cs : H c = some (.lst (ns.map V.int))
  ne : l ≠ c
  few : ns.length ≤ 63
/-- what was tracked stands, but at l -/
def Kp (l : Addr) (H H' : Hp) : Prop := ∀ b o, b ≠ l → H b = some o → H' b = some o
theorem Kp.refl {l : Addr} {H : Hp} : Kp l H H := fun _ _ _ e => e
theorem Kp.trans {l : Addr} {H H' H'' : Hp} (h : Kp l H H') (k : Kp l H' H'') : Kp l H H'' := fun b o n e => k b o n (h b o n e)
theorem Kp.put {l : Addr} {H H' : Hp} {o : HO} (h : Kp l H H') : Kp l H (upd H' l o) := fun b u n e => by
  rw [upd_ne n]
  exact h b u n e
theorem Kp.new {l p : Addr} {H H' : Hp} {o : HO} (h : Kp l H H') (hp : H' p = none) : Kp l H (upd H' p o) := fun b u n e => by
  have z := h b u n e
  rw [upd_ne (ne_of_none z hp)]
  exact z
def spFill : Sp := fun vs H Q _ => ∃ (l c : Addr) (ns : List Int), vs = [.ref l] ∧ Stt H l c ns ∧ ∀ H', Kp l H H' → Stt H' l c ns → Q .non H'
section
variable {P : Program} {w : World} {K : PySem.W.Frag} {mg : Str → Option Value} {base : Heap}
theorem sq {H : Hp} {p : Addr} {xs : List V} (h : H p = some (.lst xs)) : SqL K H p xs := .inl (.inl h)
theorem sqt {H : Hp} {p : Addr} {xs : List V} (h : H p = some (.tup xs)) : SqT K H p xs := .inl (.inl h)
/-- item i of the state's list, and its store -/
theorem at3 {a b c d : V} (i : Nat) (v : V) (h : [a, b, c, d][i]? = some v) : atI [a, b, c, d] (i : Int) = some v := atI_nat h
def primes : List Int := [2147483647, 2147483629, 2147483587, 2147483579, 2147483563]
theorem prime_at {i : Nat} {x : V} (h : (primes.map V.int)[i]? = some x) : ∃ p : Int, x = .int p ∧ 0 < p ∧ p < 2 ^ 32 := by
  rw [List.getElem?_map] at h
  cases e : primes[i]? with
  | none => rw [e] at h; cases h
  | some p =>
    rw [e] at h
    have hm := List.mem_of_getElem? e
    have all : ∀ q ∈ primes, 0 < q ∧ q < 2 ^ 32 := by decide
    exact ⟨p, (Option.some.inj h).symm, all p hm⟩
theorem ok_fill {f : Addr} {fd : FuncData} (F : Fun K "_law_fill" "_law_fill" sFill f fd) (ml : mg "len" = none) (mi : mg "int" = none) (me : mg "enumerate" = none) :
    FnOk P w K mg base CX0 1 f fd ["_law_state"] spFill := by
  refine F.ok scFill (fun vs H Q E h => ?_) (fun cdv A outer s H vs Q E hr h => ?_)
  · obtain ⟨l, c, ns, rfl, _⟩ := h
    rfl
  · obtain ⟨l, c, ns, rfl, ⟨⟨nth, left, mix, hl⟩, hc, hlc, hn⟩, q⟩ := h
    refine ⟨_, pss_cons (ps_par (i := 1) (j := 2) rfl scFill.nd rfl rfl (by decide) rfl rfl (pa_cons (pe_ix ix_list (pv 0) pe_int (fun _ _ => rfl)) (pa_cons (pe_ix ix_list (pv 0) pe_int (fun _ _ => rfl)) pa_nil)) rfl)
      (pss_cons (ps_set (i := 3) scFill.nd rfl (.inl rfl) (pe_op op_add (pe_op op_mul pe_int (pv 2)) pe_int))
      (pss_cons (ps_if (pt_cmpR op_gt (pe_callB call_len_seq (by rfl) ml PySem.boot_len (pa_cons (pv 1) pa_nil)) pe_int (nomark _))
        (pss_one (ps_set (i := 3) scFill.nd rfl (.inl rfl) (pe_op op_add
          (pe_op op_mul pe_int (pe_op op_fdiv (pv 2) (pe_callB call_len_seq (by rfl) ml PySem.boot_len (pa_cons (pv 1) pa_nil))))
          (pe_ix ix_list (pv 1) (pe_op op_mod (pe_callTy call_int1 (by rfl) mi PySem.Pv.boot_int (pa_cons (pv 2) pa_nil)) (pe_callB call_len_seq (by rfl) ml PySem.boot_len (pa_cons (pv 1) pa_nil))) (fun _ _ => rfl))))) pss_nil)
      (pss_cons (ps_asg (pe_op op_add (pv 2) pe_int) (pg_sub (pv 0) pe_int set_list))
      (pss_cons (ps_asg (pe_or (pe_cmpR op_ge (pv 2) (pe_callB call_len_seq (by rfl) ml PySem.boot_len (pa_cons (pv 1) pa_nil)) (nomark _))
          (pe_one (pe_cmpR op_lt (pv 3) (pe_op op_pow pe_int pe_int) (nomark _)))) (pg_sub (pv 0) pe_int set_list))
      (pss_cons (ps_asg (pe_op op_sub (pv 3) (pe_op op_pow pe_int pe_int)) (pg_sub (pv 0) pe_int set_list))
      (pss_one (ps_if (pt_truth (pe_ix ix_list (pv 0) pe_int (fun _ _ => rfl)) (fun _ => rfl))
        (pss_cons (ps_asg pe_int (pg_sub (pv 0) pe_int set_list))
        (pss_one (ps_for PassesOwn.never rfl (pi_enT (by rfl) me (pa_cons (pe_tup (pa_cons pe_int (pa_cons pe_int (pa_cons pe_int (pa_cons pe_int (pa_cons pe_int pa_nil)))))) pa_nil))
            (pg_tup rfl (pgs_cons (pg_name (i := 4) scFill.nd rfl (.inl rfl)) (pgs_cons (pg_name (i := 5) scFill.nd rfl (.inl rfl)) pgs_nil)))
          (pss_cons (ps_set (i := 6) scFill.nd rfl (.inl rfl) (pe_op op_mod (pe_callTy call_int1 (by rfl) mi PySem.Pv.boot_int (pa_cons
              (pe_op op_mul (pe_op op_add (pe_op op_add (pv 3) (pe_op op_mul (pe_op op_mul pe_int (pv 4)) (pv 4))) (pe_op op_mul pe_int (pv 4))) (pe_op op_add pe_int (pe_op op_mul pe_int (pv 4)))) pa_nil)) (pv 5)))
          (pss_one (ps_asg (pe_op op_add (pe_op op_mul (pe_ix ix_list (pv 0) pe_int (fun _ _ => rfl)) (pv 5))
              (pe_op op_mod (pe_callTy call_int1 (by rfl) mi PySem.Pv.boot_int (pa_cons (pe_op op_pow (pv 6) pe_int) pa_nil)) (pv 5))) (pg_sub (pv 0) pe_int set_list)))))))
        pss_nil))))))), ?_⟩
    have hlen : (ns.map V.int).length = ns.length := List.length_map ..
    -- the two names
    refine ⟨.ref l, rfl, l, _, 0, .ref c, rfl, rfl, sq hl, atI_nat (j := 0) rfl, .ref l, rfl, l, _, 1, .int nth, rfl, rfl, sq hl, atI_nat (j := 1) rfl, _, _, rfl, ?_⟩
    -- the seed
    refine ⟨.int nth, rfl, 31, nth, rfl, rfl, .inl ⟨by decide, by decide⟩, _, 7, rfl, rfl, ?_⟩
    refine ⟨.ref c, rfl, c, _, rfl, .inl (sq hc), _, 0, rfl, rfl, _, rfl, ite2 (fun e => ?ga) (fun e => ?gb)⟩
    case' ga =>
      have h0 : (0 : Int) < ((ns.map V.int).length : Int) := of_decide_eq_true e
      have hpos : 0 < ns.length := by omega
      have hsm : ((ns.map V.int).length : Int) < 1073741824 := by omega
      obtain ⟨j, hj⟩ : ∃ j : Nat, nth % ((ns.map V.int).length : Int) = j := Int.eq_ofNat_of_zero_le (Int.emod_nonneg _ (by omega))
      have hjl : j < ns.length := by
        have z := Int.emod_lt_of_pos nth h0
        omega
      have hat : atI (ns.map V.int) (nth % ((ns.map V.int).length : Int)) = some (.int ns[j]) := by
        rw [hj]
        refine atI_nat ?_
        rw [List.getElem?_map, List.getElem?_eq_getElem hjl]
        rfl
      refine ⟨.int nth, rfl, .ref c, rfl, c, _, rfl, .inl (sq hc), nth, _, rfl, rfl, ⟨h0, hsm⟩, 104729, _, rfl, rfl, .inl ⟨by decide, by decide⟩, ?_⟩
      refine ⟨.ref c, rfl, .int nth, rfl, .inl ⟨nth, rfl, .ref c, rfl, c, _, rfl, .inl (sq hc), nth, _, rfl, rfl, h0, c, _, _, .int ns[j], rfl, rfl, sq hc, hat, _, _, rfl, rfl, ?_⟩⟩
    all_goals
      -- the state: one draw more
      refine ⟨.int nth, rfl, nth, 1, rfl, rfl, .ref l, rfl, l, _, 1, 1, rfl, rfl, hl, rfl, ?_⟩
      have k1 : Kp l H (upd H l (.lst [.ref c, .int (nth + 1), .int left, .bl mix])) := Kp.refl.put
      have c1 := k1 c _ (Ne.symm hlc) hc
      refine ⟨.int nth, rfl, .ref c, rfl, c, _, rfl, .inl (sq c1), nth, _, rfl, rfl, _, rfl, ite2 (fun e2 => ?_) (fun e2 => ?_)⟩
      · refine ⟨.ref l, rfl, l, _, 3, 3, rfl, rfl, upd_same, rfl, ?_⟩
        refine ⟨_, rfl, 10, 18, rfl, rfl, ⟨by decide, by decide, by decide⟩, _, _, rfl, rfl, .ref l, rfl, l, _, 2, 2, rfl, rfl, upd_same, rfl, ?_⟩
        refine ⟨.ref l, rfl, l, _, 3, .bl _, rfl, rfl, sq upd_same, atI_nat (j := 3) rfl, _, rfl, ite2 (fun e3 => ?_) (fun e3 => ?_)⟩
        · refine ⟨.ref l, rfl, l, _, 2, 2, rfl, rfl, upd_same, rfl, ?_⟩
          refine ⟨by show 5 ≤ sizeLine; decide, fun t nt => ⟨t, _, rfl, sqt upd_same, ?_⟩⟩
          have k3 := Kp.new (l := l) (H := H) (o := .tup (primes.map V.int)) (by exact k1.put.put.put) nt
          have tl : t ≠ l := fun z => by
            rw [z, upd_same] at nt
            cases nt
          refine ⟨fun i m σ H' => ∃ (y3 : Int) (y4 y5 y6 : Option V) (left' : Int) (mix' : Bool), σ = [some (.ref l), some (.ref c), some (.int nth), some (.int y3), y4, y5, y6] ∧ i + m = 5 ∧ Kp l H H' ∧
              H' t = some (.tup (primes.map V.int)) ∧ H' l = some (.lst [.ref c, .int (nth + 1), .int left', .bl mix']),
            ⟨5, _, none, none, none, 0, _, rfl, rfl, k3, upd_same, (upd_ne tl.symm).trans upd_same⟩, fun i m σ H' hW => ?_⟩
          obtain ⟨y3, y4, y5, y6, left', mix', rfl, em, kW, tW, lW⟩ := hW
          by_cases hi : i < 5
          · refine .inr ⟨⟨sqt tW, hi⟩, fun σ' H'' => ∃ (y4 y5 y6 : Option V) (left' : Int), σ' = [some (.ref l), some (.ref c), some (.int nth), some (.int y3), y4, y5, y6] ∧ Kp l H H'' ∧
                H'' t = some (.tup (primes.map V.int)) ∧ H'' l = some (.lst [.ref c, .int (nth + 1), .int left', .bl mix']), fun σ' H'' hN => ?_, fun x H'' hy => ?_⟩
            · obtain ⟨z4, z5, z6, z, e, k', t', l'⟩ := hN
              exact ⟨m - 1, by omega, y3, z4, z5, z6, z, mix', e, by omega, k', t', l'⟩
            · obtain ⟨T, x, rfl, nT, hx, rfl⟩ := hy
              obtain ⟨p, rfl, p0, p1⟩ := prime_at hx
              have lT : l ≠ T := ne_of_none lW nT
              have tT : t ≠ T := ne_of_none tW nT
              refine ⟨T, _, rfl, sqt upd_same, rfl, _, _, rfl, _, _, rfl, rfl, ?_⟩
              have b4 : -(2 ^ 64) < (i : Int) ∧ (i : Int) < 2 ^ 64 := ⟨by omega, by omega⟩
              have b5 : -(2 ^ 64) < (48271 + 2 * (i : Int)) ∧ (48271 + 2 * (i : Int)) < 2 ^ 64 := ⟨by omega, by omega⟩
              have b6 : -(2 ^ 64) < p ∧ p < 2 ^ 64 := ⟨by omega, by omega⟩
              refine ⟨.int y3, rfl, .int i, rfl, 10007, i, rfl, rfl, .inl ⟨by decide, by decide⟩, .int i, rfl, _, i, rfl, rfl, .inr b4, y3, _, rfl, rfl, .int i, rfl, 101, i, rfl, rfl, .inl ⟨by decide, by decide⟩, _, _, rfl, rfl,
                .int i, rfl, 2, i, rfl, rfl, .inl ⟨by decide, by decide⟩, 48271, _, rfl, rfl, _, _, rfl, rfl, .inr b5, .inl ⟨_, rfl, .int p, rfl, _, p, rfl, rfl, p0, ?_⟩⟩
              have far0 : ∀ z : Int, (z % p).natAbs < 2 ^ 64 := fun z => by
                have h1 := Int.emod_nonneg z (by omega : p ≠ 0)
                have h2 := Int.emod_lt_of_pos z p0
                omega
              refine ⟨.ref l, rfl, l, _, 2, .int left', rfl, rfl, sq ((upd_ne lT).trans lW), atI_nat (j := 2) rfl, .int p, rfl, left', p, rfl, rfl, .inr b6, _, rfl, _, 5, rfl, rfl, ⟨by decide, by decide, far0 _⟩, .inl ⟨_, rfl, .int p, rfl, _, p, rfl, rfl, p0, _, _, rfl, rfl,
                .ref l, rfl, l, _, 2, 2, rfl, rfl, (upd_ne lT).trans lW, rfl, ?_⟩⟩
              exact ⟨some (.int i), some (.int p), _, _, rfl, (kW.new nT).put, (upd_ne tl).trans ((upd_ne tT).trans tW), upd_same⟩
          · refine .inl ⟨⟨sqt tW, by show 5 = i; omega⟩, ?_⟩
            exact q _ kW ⟨⟨_, _, _, lW⟩, kW c _ (Ne.symm hlc) hc, hlc, hn⟩
        · exact q _ k1.put.put ⟨⟨_, _, _, upd_same⟩, k1.put.put c _ (Ne.symm hlc) hc, hlc, hn⟩
      · refine ⟨_, rfl, 10, 18, rfl, rfl, ⟨by decide, by decide, by decide⟩, _, _, rfl, rfl, .ref l, rfl, l, _, 3, 3, rfl, rfl, upd_same, rfl, ?_⟩
        refine ⟨_, rfl, 10, 18, rfl, rfl, ⟨by decide, by decide, by decide⟩, _, _, rfl, rfl, .ref l, rfl, l, _, 2, 2, rfl, rfl, upd_same, rfl, ?_⟩
        refine ⟨.ref l, rfl, l, _, 3, .bl _, rfl, rfl, sq upd_same, atI_nat (j := 3) rfl, _, rfl, ite2 (fun e3 => ?_) (fun e3 => ?_)⟩
        · refine ⟨.ref l, rfl, l, _, 2, 2, rfl, rfl, upd_same, rfl, ?_⟩
          refine ⟨by show 5 ≤ sizeLine; decide, fun t nt => ⟨t, _, rfl, sqt upd_same, ?_⟩⟩
          have k3 := Kp.new (l := l) (H := H) (o := .tup (primes.map V.int)) (by exact k1.put.put.put) nt
          have tl : t ≠ l := fun z => by
            rw [z, upd_same] at nt
            cases nt
          refine ⟨fun i m σ H' => ∃ (y3 : Int) (y4 y5 y6 : Option V) (left' : Int) (mix' : Bool), σ = [some (.ref l), some (.ref c), some (.int nth), some (.int y3), y4, y5, y6] ∧ i + m = 5 ∧ Kp l H H' ∧
              H' t = some (.tup (primes.map V.int)) ∧ H' l = some (.lst [.ref c, .int (nth + 1), .int left', .bl mix']),
            ⟨5, _, none, none, none, 0, _, rfl, rfl, k3, upd_same, (upd_ne tl.symm).trans upd_same⟩, fun i m σ H' hW => ?_⟩
          obtain ⟨y3, y4, y5, y6, left', mix', rfl, em, kW, tW, lW⟩ := hW
          by_cases hi : i < 5
          · refine .inr ⟨⟨sqt tW, hi⟩, fun σ' H'' => ∃ (y4 y5 y6 : Option V) (left' : Int), σ' = [some (.ref l), some (.ref c), some (.int nth), some (.int y3), y4, y5, y6] ∧ Kp l H H'' ∧
                H'' t = some (.tup (primes.map V.int)) ∧ H'' l = some (.lst [.ref c, .int (nth + 1), .int left', .bl mix']), fun σ' H'' hN => ?_, fun x H'' hy => ?_⟩
            · obtain ⟨z4, z5, z6, z, e, k', t', l'⟩ := hN
              exact ⟨m - 1, by omega, y3, z4, z5, z6, z, mix', e, by omega, k', t', l'⟩
            · obtain ⟨T, x, rfl, nT, hx, rfl⟩ := hy
              obtain ⟨p, rfl, p0, p1⟩ := prime_at hx
              have lT : l ≠ T := ne_of_none lW nT
              have tT : t ≠ T := ne_of_none tW nT
              refine ⟨T, _, rfl, sqt upd_same, rfl, _, _, rfl, _, _, rfl, rfl, ?_⟩
              have b4 : -(2 ^ 64) < (i : Int) ∧ (i : Int) < 2 ^ 64 := ⟨by omega, by omega⟩
              have b5 : -(2 ^ 64) < (48271 + 2 * (i : Int)) ∧ (48271 + 2 * (i : Int)) < 2 ^ 64 := ⟨by omega, by omega⟩
              have b6 : -(2 ^ 64) < p ∧ p < 2 ^ 64 := ⟨by omega, by omega⟩
              refine ⟨.int y3, rfl, .int i, rfl, 10007, i, rfl, rfl, .inl ⟨by decide, by decide⟩, .int i, rfl, _, i, rfl, rfl, .inr b4, y3, _, rfl, rfl, .int i, rfl, 101, i, rfl, rfl, .inl ⟨by decide, by decide⟩, _, _, rfl, rfl,
                .int i, rfl, 2, i, rfl, rfl, .inl ⟨by decide, by decide⟩, 48271, _, rfl, rfl, _, _, rfl, rfl, .inr b5, .inl ⟨_, rfl, .int p, rfl, _, p, rfl, rfl, p0, ?_⟩⟩
              have far0 : ∀ z : Int, (z % p).natAbs < 2 ^ 64 := fun z => by
                have h1 := Int.emod_nonneg z (by omega : p ≠ 0)
                have h2 := Int.emod_lt_of_pos z p0
                omega
              refine ⟨.ref l, rfl, l, _, 2, .int left', rfl, rfl, sq ((upd_ne lT).trans lW), atI_nat (j := 2) rfl, .int p, rfl, left', p, rfl, rfl, .inr b6, _, rfl, _, 5, rfl, rfl, ⟨by decide, by decide, far0 _⟩, .inl ⟨_, rfl, .int p, rfl, _, p, rfl, rfl, p0, _, _, rfl, rfl,
                .ref l, rfl, l, _, 2, 2, rfl, rfl, (upd_ne lT).trans lW, rfl, ?_⟩⟩
              exact ⟨some (.int i), some (.int p), _, _, rfl, (kW.new nT).put, (upd_ne tl).trans ((upd_ne tT).trans tW), upd_same⟩
          · refine .inl ⟨⟨sqt tW, by show 5 = i; omega⟩, ?_⟩
            exact q _ kW ⟨⟨_, _, _, lW⟩, kW c _ (Ne.symm hlc) hc, hlc, hn⟩
        · exact q _ k1.put.put ⟨⟨_, _, _, upd_same⟩, k1.put.put c _ (Ne.symm hlc) hc, hlc, hn⟩
end
end Drw

namespace Drw
open PySem PySem.Spec PyProof.Rows L2
def spTake : Sp := fun vs H Q _ => ∃ (l c : Addr) (ns : List Int) (many : Int), vs = [.ref l, .int many] ∧ 0 < many ∧ many < 536870912 ∧ Stt H l c ns ∧
  ∀ H' d, Kp l H H' → Stt H' l c ns → 0 ≤ d → d < many → Q (.int d) H'
section
variable {P : Program} {w : World} {K : PySem.W.Frag} {mg : Str → Option Value} {base : Heap}
theorem ok_take {f fF : Addr} {fd fdF : FuncData} (F : Fun K "_law_take" "_law_take" sTake f fd) (FF : Fun K "_law_fill" "_law_fill" sFill fF fdF) (bF : Binds K fdF ["_law_state"] []) (gF : mg "_law_fill" = some (.ref fF))
    (ml : mg "len" = none) (mi : mg "int" = none) (me : mg "enumerate" = none) : FnOk P w K mg base CX0 2 f fd ["_law_state", "_law_many"] spTake := by
  have GF : FnOk P w K mg base CX0 1 fF fdF ["_law_state"] spFill := ok_fill FF ml mi me
  refine F.ok scTake (fun vs H Q E h => ?_) (fun cdv A outer s H vs Q E hr h => ?_)
  · obtain ⟨l, c, ns, many, rfl, _⟩ := h
    rfl
  · obtain ⟨l, c, ns, many, rfl, m0, m1, st, q⟩ := h
    have mb : -(2 ^ 64) < many ∧ many < 2 ^ 64 := ⟨by omega, by omega⟩
    have mb2 : -(2 ^ 64) < many * 4096 ∧ many * 4096 < 2 ^ 64 := ⟨by omega, by omega⟩
    refine ⟨_, pss_cons (ps_set (i := 2) scTake.nd rfl (.inl rfl) pe_int)
      (pss_cons (ps_while PassesOwn.never (PW.pt (pw_and (pt_cmpR op_lt (pv 2) pe_int (nomark _)) (pw_and1 (PW.pt (pw_or (pt_cmpR op_eq (pe_ix ix_list (pv 0) pe_int (fun _ _ => rfl)) pe_int (nomark _))
          (pw_or1 (PW.pt (pw_and (pt_truth (pe_ix ix_list (pv 0) pe_int (fun _ _ => rfl)) (fun _ => rfl)) (pw_and1 (pt_cmpR op_lt (pe_ix ix_list (pv 0) pe_int (fun _ _ => rfl)) (pe_op op_mul (pv 1) pe_int) (nomark _)))))))))))
        (pss_cons (ps_expr (pe_call GF hr (by rfl) gF FF.kp bF .nil pass0 (pa_cons (pv 0) pa_nil)))
        (pss_cons (ps_aug (i := 2) scTake.nd rfl (.inl rfl) pe_int ip_add)
        (pss_one (ps_if (PW.pt (pw_and (pt_truth (pe_ix ix_list (pv 0) pe_int (fun _ _ => rfl)) (fun _ => rfl)) (pw_and1 (pt_cmpR op_lt (pe_ix ix_list (pv 0) pe_int (fun _ _ => rfl)) (pe_op op_mul (pv 1) pe_int) (nomark _)))))
          (pss_one (ps_asg (pe_op op_add (pe_ix ix_list (pv 0) pe_int (fun _ _ => rfl)) (pe_op op_mul (pe_op op_mul (pv 1) pe_int) (pe_op op_add pe_int (pe_op op_mod (pe_callTy call_int1 (by rfl) mi PySem.Pv.boot_int (pa_cons (pe_ix ix_list (pv 0) pe_int (fun _ _ => rfl)) pa_nil)) pe_int)))) (pg_sub (pv 0) pe_int set_list)))
          pss_nil)))))
      (pss_cons (ps_set (i := 3) scTake.nd rfl (.inl rfl) (pe_op op_mod (pe_callTy call_int1 (by rfl) mi PySem.Pv.boot_int (pa_cons (pe_ix ix_list (pv 0) pe_int (fun _ _ => rfl)) pa_nil)) (pv 1)))
      (pss_cons (ps_asg (pe_op op_fdiv (pe_ix ix_list (pv 0) pe_int (fun _ _ => rfl)) (pv 1)) (pg_sub (pv 0) pe_int set_list))
      (pss_one (ps_ret (pv 3)))))), ?_⟩
    refine ⟨fun m σ H' => ∃ tn : Nat, σ = [some (.ref l), some (.int many), some (.int tn), none] ∧ tn + m = 64 ∧ Kp l H H' ∧ Stt H' l c ns, ⟨64, 0, rfl, rfl, Kp.refl, st⟩, fun m σ H1 hW => ?_⟩
    obtain ⟨tn, rfl, em, k1, ⟨⟨nth, left, mix, hl⟩, hc, hlc, hn⟩⟩ := hW
    refine ⟨.int tn, rfl, _, _, rfl, rfl, _, rfl, ite2 (fun e1 => ?g1) (fun e1 => iteF ?exit1)⟩
    case' g1 => refine ⟨.ref l, rfl, l, _, 2, .int left, rfl, rfl, sq hl, atI_nat (j := 2) rfl, rfl, _, rfl, ite2 (fun e2 => iteT ?body1) (fun e2 => ?g2)⟩
    case' g2 => refine ⟨.ref l, rfl, l, _, 3, .bl mix, rfl, rfl, sq hl, atI_nat (j := 3) rfl, mix, rfl, ite2 (fun e3 => ?g3) (fun e3 => iteF ?exit2)⟩
    case' g3 => refine ⟨.ref l, rfl, l, _, 2, .int left, rfl, rfl, sq hl, atI_nat (j := 2) rfl, .int many, rfl, many, 4096, rfl, rfl, .inl mb, left, _, rfl, rfl, _, rfl, ite2 (fun e4 => ?body2) (fun e4 => ?exit3)⟩
    case exit1 | exit2 | exit3 =>
      refine ⟨.ref l, rfl, l, _, 2, .int left, rfl, rfl, sq hl, atI_nat (j := 2) rfl, .inl ⟨left, rfl, .int many, rfl, left, many, rfl, rfl, m0, ?_⟩⟩
      refine ⟨.ref l, rfl, l, _, 2, .int left, rfl, rfl, sq hl, atI_nat (j := 2) rfl, .int many, rfl, left, many, rfl, rfl, ⟨m0, by omega⟩, .ref l, rfl, l, _, 2, 2, rfl, rfl, hl, rfl, ?_⟩
      refine ⟨_, rfl, q _ _ k1.put ⟨⟨_, _, _, upd_same⟩, (upd_ne (Ne.symm hlc)).trans hc, hlc, hn⟩ (Int.emod_nonneg _ (by omega)) (Int.emod_lt_of_pos _ m0)⟩
    case body1 | body2 =>
      have tl : tn < 64 := by
        have z : (tn : Int) < 64 := of_decide_eq_true e1
        omega
      refine ⟨fun σ H' => σ = [some (.ref l), some (.int many), some (.int (tn + 1 : Nat)), none] ∧ Kp l H H' ∧ Stt H' l c ns, fun σ' H' hN => ⟨m - 1, by omega, tn + 1, hN.1, by omega, hN.2⟩, ?_⟩
      refine ⟨.ref l, rfl, l, c, ns, rfl, ⟨⟨_, _, _, hl⟩, hc, hlc, hn⟩, fun H2 k2 st2 => ?_⟩
      have k3 := k1.trans k2
      refine ⟨.int tn, rfl, tn, 1, rfl, rfl, ?_⟩
      obtain ⟨⟨nth2, left2, mix2, hl2⟩, hc2, _, _⟩ := st2
      refine ⟨.ref l, rfl, l, _, 3, .bl mix2, rfl, rfl, sq hl2, atI_nat (j := 3) rfl, mix2, rfl, ite2 (fun e5 => ?_) (fun e5 => ?_)⟩
      · refine ⟨.ref l, rfl, l, _, 2, .int left2, rfl, rfl, sq hl2, atI_nat (j := 2) rfl, .int many, rfl, many, 4096, rfl, rfl, .inl mb, left2, _, rfl, rfl, _, rfl, ite2 (fun e6 => ?_) (fun e6 => ?_)⟩
        · refine ⟨.ref l, rfl, l, _, 2, .int left2, rfl, rfl, sq hl2, atI_nat (j := 2) rfl, .int many, rfl, many, 4096, rfl, rfl, .inl mb, .ref l, rfl, l, _, 2, .int left2, rfl, rfl, sq hl2, atI_nat (j := 2) rfl,
            .inl ⟨left2, rfl, left2, 4093, rfl, rfl, (by show (0 : Int) < 4093; decide), 1, _, rfl, rfl, _, _, rfl, rfl, .inl mb2, left2, _, rfl, rfl, .ref l, rfl, l, _, 2, 2, rfl, rfl, hl2, rfl, ?_⟩⟩
          exact ⟨rfl, k3.put, ⟨⟨_, _, _, upd_same⟩, (upd_ne (Ne.symm hlc)).trans hc2, hlc, hn⟩⟩
        · exact ⟨rfl, k3, ⟨⟨_, _, _, hl2⟩, hc2, hlc, hn⟩⟩
      · exact iteF ⟨rfl, k3, ⟨⟨_, _, _, hl2⟩, hc2, hlc, hn⟩⟩
end
end Drw

namespace Drw
open PySem PySem.Spec PyProof.Rows L2
def spOne : Sp := fun vs H Q _ => ∃ (l c : Addr) (ns : List Int) (t : Addr) (xs : List V), vs = [.ref l, .ref t] ∧ H t = some (.tup xs) ∧ 0 < xs.length ∧ xs.length < 1000 ∧ Stt H l c ns ∧
  ∀ H' (d : Nat) x, Kp l H H' → Stt H' l c ns → xs[d]? = some x → Q x H'
/-- what was tracked stands -/
def Al (H H' : Hp) : Prop := ∀ b o, H b = some o → H' b = some o
def spFresh (K : PySem.W.Frag) : Sp := fun vs H Q _ => ∃ (a : Addr) (ns : List Int), vs = [.ref a] ∧ SqL K H a (ns.map V.int) ∧ ns.length ≤ 63 ∧
  ∀ H' l c ns', Al H H' → Stt H' l c ns' → H l = none → Q (.ref l) H'
section
variable {P : Program} {w : World} {K : PySem.W.Frag} {mg : Str → Option Value} {base : Heap}
theorem ok_one {f fT : Addr} {fd fdT : FuncData} (F : Fun K "_law_one" "_law_one" sOne f fd) (FT : Fun K "_law_take" "_law_take" sTake fT fdT) (bT : Binds K fdT ["_law_state", "_law_many"] []) (gT : mg "_law_take" = some (.ref fT))
    (ml : mg "len" = none) (GT : FnOk P w K mg base CX0 2 fT fdT ["_law_state", "_law_many"] spTake) : FnOk P w K mg base CX0 3 f fd ["_law_state", "_law_things"] spOne := by
  refine F.ok scOne (fun vs H Q E h => ?_) (fun cdv A outer s H vs Q E hr h => ?_)
  · obtain ⟨l, c, ns, t, xs, rfl, _⟩ := h
    rfl
  · obtain ⟨l, c, ns, t, xs, rfl, ht, x0, x1, st, q⟩ := h
    refine ⟨_, pss_one (ps_ret (pe_ix ix_tup (pv 1) (pe_call GT hr (by rfl) gT FT.kp bT .nil pass0 (pa_cons (pv 0) (pa_cons (pe_callB call_len_seq (by rfl) ml PySem.boot_len (pa_cons (pv 1) pa_nil)) pa_nil))) (fun _ _ => rfl))), ?_⟩
    refine ⟨.ref t, rfl, .ref l, rfl, .ref t, rfl, t, xs, rfl, .inr (sqt ht), l, c, ns, _, rfl, by omega, by omega, st, fun H' d k st' d0 d1 => ?_⟩
    have tl : t ≠ l := fun z => by
      obtain ⟨⟨_, _, _, hl⟩, _⟩ := st
      rw [z, hl] at ht
      cases ht
    obtain ⟨j, rfl⟩ := Int.eq_ofNat_of_zero_le d0
    have hj : j < xs.length := by omega
    refine ⟨t, xs, j, xs[j], rfl, rfl, sqt (k t _ tl ht), atI_nat (List.getElem?_eq_getElem hj), ?_⟩
    exact q _ j _ k st' (List.getElem?_eq_getElem hj)
theorem cut_ints (ns : List Int) (lo hi : Option Int) : ∃ ns' : List Int, cutV (ns.map V.int) lo hi = ns'.map V.int ∧ ns'.length ≤ ns.length := by
  refine ⟨(ns.drop (HT.sIx (ns.map V.int).length 0 lo)).take (HT.sIx (ns.map V.int).length (ns.map V.int).length hi - HT.sIx (ns.map V.int).length 0 lo), ?_, ?_⟩
  · unfold cutV
    rw [List.map_take, List.map_drop]
  · rw [List.length_take, List.length_drop]
    omega
theorem ok_fresh {f : Addr} {fd : FuncData} (F : Fun K "_law_fresh" "_law_fresh" sFresh f fd) : FnOk P w K mg base CX0 1 f fd ["_law_script"] (spFresh K) := by
  refine F.ok scFresh (fun vs H Q E h => ?_) (fun cdv A outer s H vs Q E hr h => ?_)
  · obtain ⟨a, ns, rfl, _⟩ := h
    rfl
  · obtain ⟨a, ns, rfl, hS, hn, q⟩ := h
    refine ⟨_, pss_one (ps_ret (pe_lst (pa_cons (pe_slice sl_list (pv 0) po_none (po_some pe_int)) (pa_cons pe_int (pa_cons pe_int (pa_cons pe_bl pa_nil)))))), ?_⟩
    obtain ⟨ns', e, hn'⟩ := cut_ints ns none (some 63)
    refine ⟨.ref a, rfl, 63, rfl, a, _, rfl, hS, fun c nc => ?_⟩
    refine ⟨by show 4 ≤ sizeLine; decide, fun l nl => ?_⟩
    have cl : c ≠ l := fun z => by
      rw [z, upd_same] at nl
      cases nl
    refine q _ l c ns' (fun b o z => ?_) ⟨⟨_, _, _, upd_same⟩, ?_, cl.symm, by omega⟩ ?_
    · have z1 := upd_ne (H := H) (o := .lst (cutV (ns.map V.int) none (some 63))) (ne_of_none z nc)
      rw [upd_ne (ne_of_none (z1.trans z) nl), z1]
      exact z
    · rw [upd_ne cl, upd_same, e]
    · rw [upd_ne cl.symm] at nl
      exact nl
end
end Drw

/-! Errors whose __init__ stores one field, or hands it on by super().__init__: made, at the level of the machine. -/
namespace Err
open PySem PySem.W PySem.Calls PyProof.Rows
abbrev exB : List Value := [.type "Exception", .type "BaseException", .type "object"]
abbrev fld : Str := PySem.Str.ofString "sqlite_errorname"
abbrev exc0 (C t : Addr) : Obj := { cls := .ref C, data := .fields #[.ref t, .none, .none, .none, .bool false, .none] }
/-- a fresh error at x has got its dict, at dx, with the one field -/
structure Laid (h h' : Heap) (x C dx t1 : Addr) (v : Value) : Prop where
  old : ∀ b o, b ≠ x → h.get? b = some o → h'.get? b = some o
  here : h'.get? x = some { cls := .ref C, dict := some dx, data := .fields #[.ref t1, .none, .none, .none, .bool false, .none] }
  big : h.objs.size ≤ dx
  off : dx ≠ x
  cell : h'.Ns1 dx (fun y => if y = fld then some v else none)
theorem Laid.up {h g h' : Heap} {x C dx t1 : Addr} {v : Value} (k : ∀ b o, h.get? b = some o → g.get? b = some o) (z : h.objs.size ≤ g.objs.size) (l : Laid g h' x C dx t1 v) : Laid h h' x C dx t1 v :=
  ⟨fun b o n e => l.old b o n (k b o e), l.here, Nat.le_trans z l.big, l.off, l.cell⟩
/-- what stands of the machine while errors are made -/
structure Stands (K : Frag) (h : Heap) : Prop where
  kin : K.In h
  lim : h.NoLimit
  top : ∃ mg mb, h.Ns mainGlobals mg ∧ mg "super" = none ∧ h.Ns builtinsNs mb ∧ mb "super" = some (.type "super")
theorem Stands.up {K : Frag} {h g : Heap} (S : Stands K h) (k : ∀ b o, h.get? b = some o → g.get? b = some o) : Stands K g := by
  obtain ⟨x, l, mg, mb, a, b, c, d⟩ := S
  exact ⟨x.keeps k, l.keeps k, mg, mb, a.keeps k, b, c.keeps k, d⟩
def InitOk (prog : Program) (w : World) (K : Frag) (C f : Addr) (fd : FuncData) (n : Nat) : Prop :=
  ∀ (A : Around) (R : Result → Shared → Prop) (s : Shared) (args : Args) (x t0 : Addr) (v : Value), Stands K s.heap → s.heap.get? x = some (exc0 C t0) → A.depth + n < recursionLimit →
    BindsTo s fd args [(PySem.Str.ofString "self", .ref x), (fld, v)] → (∀ h' tk dx, Laid s.heap h' x C dx t0 v → R (.ok (.ret .none)) { s with heap := h', toks := tk }) →
    codeAny (model prog w) A (.call (.ref f) args) R s
/-- what the class says, for a store to its fresh instance -/
structure Cl (K : Frag) (C : Addr) : Prop where
  cls : excInitIn K C exB "Exception.__new__" = true
  over : excOver K C exB = true
  tk : takerIn K C fld = some none
  hd : hasDictIn K C = true
  sa : findIn K (.ref C) "__setattr__" = some (some (.builtin "object.__setattr__"))
section
variable {prog : Program} {w : World} {A : Around} {E : Value → Shared → Prop} {R : Result → Shared → Prop} {K : Frag} {C f : Addr}
theorem store_first {hp : Heap} {g : Array GenState} {d : Drawn} {t : Nat} {os : OsState} {x t0 : Addr} {v : Value} {tk : Tok} (T : Cl K C) (X : K.In hp) (hx : hp.get? x = some (exc0 C t0))
    (hq : ∀ h' tk' dx, Laid hp h' x C dx t0 v → R (.ok (.ret .none)) ⟨h', g, d, tk', os⟩) :
    codeAny (model prog w) A (.call (.builtin "object.__setattr__") ⟨[.ref x, .str fld tk, v], []⟩) R ⟨hp, g, d, t, os⟩ := by
  have hxs : x ≠ hp.objs.size := Nat.ne_of_lt (Heap.lt_size hx)
  refine osa_openX (od := none) F.store_Exception X ⟨hx, rfl, rfl, trivial⟩ T.over T.tk fun b => ?_
  obtain ⟨cd, hc, hd'⟩ := any_some T.hd
  refine wpAny_bind (wpAny_pure (wpAny_bind (instanceDict_exc hx (looks_clsIn X hc) hd' ?_)))
  refine PySem.PX.store_in_new ?_ ?_
  · exact ⟨_, #[], _, (Heap.get?_update_ne _ _ _ _ hxs.symm).trans (Heap.get?_push_at rfl rfl), rfl, fun e he => absurd he (by simp), fun _ => rfl⟩
  · intro h' tk' hn sb
    have hx1 : (hp.push (dictOf [] 0)).get? x = some (exc0 C t0) := Heap.get?_push_of_some _ hx
    refine hq h' tk' hp.objs.size ⟨fun b o hb ho => ?_, ?_, Nat.le_refl _, hxs.symm, hn⟩
    · exact (sb.2 b (Nat.ne_of_lt (Heap.lt_size ho))).trans ((Heap.get?_update_ne _ _ _ _ hb).trans (Heap.get?_push_of_some _ ho))
    · exact (sb.2 x hxs).trans (Heap.get?_update_self _ hx1 rfl)
end
end Err

namespace Err
open PySem PySem.W PySem.Calls PyProof.Rows
abbrev me : Str := PySem.Str.ofString "self"
def iA (p1 p2 pd : Pos) : Arguments := { posonlyargs := [], args := [{ arg := me, annotation := none, pos := p1 }, { arg := fld, annotation := none, pos := p2 }], vararg := none, kwonlyargs := [], kw_defaults := [], kwarg := none, defaults := [.Constant .none 0 pd] }
def iB (q1 q2 q3 q4 : Pos) : List Stmt := [.Assign [.Attribute (.Name me q1) fld q2] (.Name fld q3) q4]
def iS : Scope := { kind := .function, names := [(me, .local), (fld, .local)], isGenerator := false, isCoroutine := false, more := [] }
def jB (q1 q2 q3 q4 q5 q6 : Pos) : List Stmt := [.Expr (.Call (.Attribute (.Call (.Name "super" q1) [] [] q2) "__init__" q3) [.Name fld q4] [] q5) q6]
def jS : Scope := { kind := .function, names := [(me, .local), (fld, .local), ("__class__", .free), ("super", .globalImplicit)], isGenerator := false, isCoroutine := false, more := [] }
section
variable {prog : Program} {w : World} {K : Frag} {C f : Addr}
theorem ld {M : Model} {A : Around} {E : Value → Shared → Prop} {s : Shared} {env : Env} {m : Str → Option Value} {x : Str} {pos : Pos} {v : Value} {Q : Value → Shared → Prop} (hn : s.heap.Ns env.locals m) (hv : m x = some v) (h : Q v s)
    (hk : env.scope.kind = .function := by rfl) (hl : env.kindOf x = some .local := by rfl) (hd : (x == ("__debug__" : Str)) = false := by decide) : wpAny M A (eval (.Name x pos) env) Q E s :=
  wpAny_Name (wpAny_loadName_local hk hl hn hv h) hd
theorem init_first {qual : Str} {dV kV doc pm cdv ct oc : Value} {od an : Option Addr} {osl : Array (Option Value)} {p1 p2 pd q1 q2 q3 q4 : Pos} (T : Cl K C)
    (ho : K.lookup f = some ⟨oc, od, .func (fnOf "__init__" qual (iA p1 p2 pd) (iB q1 q2 q3 q4) iS dV kV doc pm an cdv ct), osl⟩) (hcd : codeIn K cdv qual = true) :
    InitOk prog w K C f (fnOf "__init__" qual (iA p1 p2 pd) (iB q1 q2 q3 q4) iS dV kV doc pm an cdv ct) 1 := by
  intro A R s args x t0 v S hx hroom hb hq
  refine Att.call_fn (binds := [(me, .ref x), (fld, v)]) S.kin S.lim ho hcd (by omega) hb (by first | rfl | decide) (fun s₁ IC => ?_) rfl rfl rfl
  obtain ⟨h₁, tk₁, rfl⟩ := IC.toInCall.same
  have k : ∀ b o, s.heap.get? b = some o → h₁.get? b = some o := IC.toInCall.keep
  have hn := IC.toInCall.ns
  have z : s.heap.objs.size < h₁.objs.size := hn.lt
  have S1 := S.up k
  refine wpAny_execs_cons (plainObj_wpAny_Assign_Attribute ?_)
  refine ld (v := v) hn (by first | rfl | with_unfolding_all rfl | kernel_rfl) (ld (v := .ref x) hn (by first | rfl | with_unfolding_all rfl | kernel_rfl) ?_)
  refine set_plain S1.kin (ox := exc0 C t0) (od := none) ⟨k _ _ hx, rfl, rfl, trivial⟩ T.sa ?_
  refine store_first T S1.kin (k _ _ hx) fun h' tk' dx L => ?_
  exact wpAny_execs_nil (hq h' tk' dx (L.up k (Nat.le_of_lt z)))
theorem init_next {qual : Str} {dV kV doc pm ct oc ccl cl : Value} {od an cdd cld : Option Addr} {osl ccs csl : Array (Option Value)} {p1 p2 pd q1 q2 q3 q4 q5 q6 : Pos} {cda cc D f2 : Addr} {vs : Array Value} {file : Str} {tf : Tok} {cdD : ClassData} {fd2 : FuncData} {n : Nat}
    (ho : K.lookup f = some ⟨oc, od, .func (ksFn "__init__" qual (iA p1 p2 pd) (jB q1 q2 q3 q4 q5 q6) jS dV kV doc pm an (.ref cda) ct cc), osl⟩) (hcd : codeIn K (.ref cda) qual = true)
    (hcode : K.lookup cda = some ⟨ccl, cdd, .fields vs, ccs⟩) (hvs : vs[2]? = some (.str file tf)) (hfile : ((prog.main.file : Str) == file) = true) (htop : (prog.main.scope.names.lookup ("super" : Str)).isSome = false)
    (hcell : K.lookup cc = some ⟨cl, cld, .cell (some (.ref D)), csl⟩) (hD : clsIn K D = some cdD) (hsub : mroIn K C (.ref D) = some true) (hop : nsIn K cStatics "thirdparty.any" = some none)
    (hm : ks_superIn K C D "__init__" = some (some (.ref f2))) (hf2 : fnIn K f2 = true) (ht2 : typeIn K (.ref f2) = some (.type "function"))
    {pl : Sem Bool} (hE : ∀ env : Env, eval (.Call (.Attribute (.Call (.Name "super" q1) [] [] q2) "__init__" q3) [.Name fld q4] [] q5) env = (do
      let ov ← attributeBase (.Call (.Name "super" q1) [] [] q2) "__init__" env (eval (.Call (.Name "super" q1) [] [] q2) env)
      standAt q3.atName
      let (g, first) ← holding [ov] (getMethod ov "__init__" pl)
      callWith q5 g first (backTo q5 (starEach [.Name fld q4] env)) []))
    (b2 : ∀ (s : Shared) (x : Addr) (v : Value), K.In s.heap → BindsTo s fd2 ⟨[.ref x, v], []⟩ [(me, .ref x), (fld, v)]) (G : InitOk prog w K C f2 fd2 n) :
    InitOk prog w K C f (ksFn "__init__" qual (iA p1 p2 pd) (jB q1 q2 q3 q4 q5 q6) jS dV kV doc pm an (.ref cda) ct cc) (n + 1) := by
  intro A R s args x t0 v S hx hroom hb hq
  have X := S.kin
  refine ks_codeAny_call_defAt (fd := ksFn "__init__" qual (iA p1 p2 pd) (jB q1 q2 q3 q4 q5 q6) jS dV kV doc pm an (.ref cda) ct cc) (body := jB q1 q2 q3 q4 q5 q6) (binds := [(me, .ref x), (fld, v)])
    (by omega) (X _ _ ho) rfl S.lim (codeRec_of X hcd) rfl hb
    (show ∀ y ∈ jS.names, y.2 ≠ .cell by decide) (fun y hy => by
      have e : y = (me, .ref x) ∨ y = (fld, v) := by simpa using hy
      rcases e with rfl | rfl <;> rfl) (fun h₀ hns hk => ?_)
  have S0 := S.up hk
  obtain ⟨X0, lim0, mg, mb, g1, g2, g3, g4⟩ := id S0
  have hx0 := hk _ _ hx
  refine ks_wpAt_execs_cons (ks_wpAt_Expr_any (ks_wpAt_MethodCall ?_ (hE _)))
  obtain ⟨oD, hD1, hD2⟩ : ∃ oD, h₀.get? D = some oD ∧ oD.data = .cls cdD := by
    unfold clsIn at hD
    split at hD
    · rename_i c d cd' sl e
      cases hD
      exact ⟨_, X0 _ _ e, rfl⟩
    · cases hD
  refine ks_wpAt_super_base (ar := { arg := me, annotation := none, pos := p1 }) rfl rfl rfl rfl (X0 _ _ ho) rfl rfl rfl (X0 _ _ hcode) rfl hvs hfile htop ?_
  refine ks_loadName_global rfl rfl (loadGlobal_builtin g1 g2 g3 g4 ⟨rfl, ?_⟩)
  refine wpAny_loadName_free rfl rfl rfl ⟨_, X0 _ _ hcell, rfl⟩ ?_
  refine wpAny_loadName_local rfl rfl hns (by first | rfl | with_unfolding_all rfl | kernel_rfl) ?_
  refine ks_wpAny_isType_cls hD1 hD2 ⟨rfl, ?_⟩
  refine ks_wpAny_call_super hD1 hD2 hx0 rfl (fun c e => nomatch e) (looks_mroIn X0 hsub) (fun h1 e1 k1 => ?_)
  have X1 := X0.keeps k1
  cases hc : clsIn K C with
  | none =>
    unfold ks_superIn at hm
    rw [hc] at hm
    cases hm
  | some cd =>
    unfold ks_superIn at hm
    rw [hc] at hm
    obtain ⟨of, hof, hofc⟩ : ∃ of, h1.get? f2 = some of ∧ of.cls = .type "function" := by
      have y : (K.lookup f2).map (·.cls) = some (.type "function") := ht2
      cases z : K.lookup f2 with
      | none =>
        rw [z] at y
        cases y
      | some of =>
        rw [z] at y
        exact ⟨of, X1 _ _ z, Option.some.inj y⟩
    have I1 : InstAt h1 x (exc0 C t0) C none := ⟨k1 _ _ hx0, rfl, rfl, trivial⟩
    refine ks_wpAny_getMethod_super e1 (looks_opaque X1 hop) (l₀ := cd.mro) (fun A Q E s k q => wpAny_bind ((looks_clsIn X1 hc) A _ E s k (wpAny_pure q))) rfl X1 hm hof hofc (ks_ne X1 I1 hc) rfl ?_
    have k2 : ∀ b o, h1.get? b = some o → (h1.push (methodObj (.ref f2) (.ref x))).get? b = some o := fun b o e => Heap.get?_push_of_some _ e
    have hq2 : (h1.push (methodObj (.ref f2) (.ref x))).get? h1.objs.size = some (methodObj (.ref f2) (.ref x)) := Heap.get?_push_at rfl rfl
    have nw : News h1 (h1.objs.size + 1) (h1.push (methodObj (.ref f2) (.ref x))) [(h1.objs.size, methodObj (.ref f2) (.ref x))] := fun p hp => by
      obtain rfl : p = (h1.objs.size, methodObj (.ref f2) (.ref x)) := by simpa using hp
      refine ⟨hq2, Nat.ne_of_lt (Nat.lt_succ_self _), ?_⟩
      cases z : h1.get? h1.objs.size with
      | none => rfl
      | some o => exact absurd (Heap.lt_size z) (Nat.lt_irrefl _)
    refine callWith_M X1 nw List.mem_cons_self hf2 ?_
    have S2 := (S0.up k1).up k2
    refine Calls.spliced_cons (ld (v := v) ((hns.keeps k1).keeps k2) (by first | rfl | with_unfolding_all rfl | kernel_rfl) ?_)
    refine Calls.spliced_nil ⟨⟨hq2, S2.kin⟩, ?_⟩
    refine wpAny_call (ks_codeAny_call_bound hq2 ?_)
    refine G _ _ _ _ x t0 v S2 (k2 _ _ (k1 _ _ hx0)) ?_ (b2 _ x v S2.kin) fun h' tk dx L => ?_
    · show A.depth + 1 + n < recursionLimit
      omega
    · have z0 : s.heap.objs.size < h₀.objs.size := hns.lt
      have z1 : h₀.objs.size < h1.objs.size := Heap.lt_size e1
      have z2 : (h1.push (methodObj (.ref f2) (.ref x))).objs.size = h1.objs.size + 1 := Heap.size_push ..
      have L' : Laid s.heap h' x C dx t0 v := L.up (fun b o e => k2 _ _ (k1 _ _ (hk b o e))) (by
        show s.heap.objs.size ≤ (h1.push (methodObj (.ref f2) (.ref x))).objs.size
        omega)
      exact wpAt_of_wpAny (wpAny_execs_nil (hq h' tk dx L'))
end
end Err

namespace Err
open PySem PySem.W PySem.Calls PyProof.Rows PySem.Spec L2
theorem InitOk.mono {prog : Program} {w : World} {K : Frag} {C f : Addr} {fd : FuncData} {n m : Nat} (G : InitOk prog w K C f fd n) (h : n ≤ m) : InitOk prog w K C f fd m :=
  fun A R s args x t0 v S hx hr hb hq => G A R s args x t0 v S hx (by omega) hb hq
/-- what the written part says of one of the classes of errors -/
structure EC (P : Program) (w : World) (K : Frag) (mg : Str → Option Value) (nm : Str) (C : Addr) : Prop where
  g : mg nm = some (.ref C)
  kC : keepIn K (.ref C) = true
  cl : Cl K C
  ini : ∃ fI fd, findIn K (.ref C) "__init__" = some (some (.ref fI)) ∧ typeIn K (.ref fI) = some (.type "function") ∧ InitOk P w K C fI fd 4 ∧
    (∀ s e v, K.In s.heap → BindsTo s fd ⟨[.ref e, v], []⟩ [(me, .ref e), (fld, v)]) ∧ (∀ s e, K.In s.heap → BindsTo s fd ⟨[.ref e], []⟩ [(me, .ref e), (fld, .none)])
  iso : (clsIn K C).isSome = true
  ga : findIn K (.ref C) "__getattribute__" = some (some (.builtin "BaseException.__getattribute__"))
  gg : findIn K (.ref C) "__getattr__" = some none
  ex : subIn K (.ref C) (.type "BaseException") = some true
  ty : typeIn K (.ref C) = some (.type "type")
  ha : findIn K (.ref C) "__class__" = some (some (.builtin "object.__class__"))
  hn : specialIn K (.builtin "object.__class__") "__get__" = some (some (.builtin "getset_descriptor.__get__"))
  ht : takesIn K (.builtin "object.__class__") = some true
  hm : mroIn K C (.type "object") = some true
  no : findIn K (.ref C) fld = some none
  su : mg "super" = none
section
variable {prog : Program} {w : World} {A : Around} {E : Value → Shared → Prop} {R : Result → Shared → Prop} {K : Frag} {mg : Str → Option Value} {C : Addr} {nm : Str}
/-- a made error -/
structure Made (h h' : Heap) (e C dx t1 : Addr) (v : Value) : Prop where
  old : ∀ b o, h.get? b = some o → h'.get? b = some o
  new : h.objs.size ≤ e
  here : h'.get? e = some { cls := .ref C, dict := some dx, data := .fields #[.ref t1, .none, .none, .none, .bool false, .none] }
  big : h.objs.size ≤ dx
  off : dx ≠ e
  cell : h'.Ns1 dx (fun y => if y = fld then some v else none)
theorem made (T : EC prog w K mg nm C) {s : Shared} (S : Stands K s.heap) {us : List Value} {v : Value} (hus : us = [v] ∨ us = [] ∧ v = .none) (hroom : A.depth + 5 < recursionLimit)
    (hq : ∀ h' tk e dx t1, Made s.heap h' e C dx t1 v → R (.ok (.ret (.ref e))) { s with heap := h', toks := tk }) :
    codeAny (model prog w) A (.call (.ref C) ⟨us, []⟩) R s := by
  obtain ⟨fI, fd, hi, tI, G, b1, b0⟩ := T.ini
  obtain ⟨nm', N', qn, bs, bm, hdct, sn, sub, ab, col, dd, k0, k1, k2, k3, k5, hC, hT⟩ := excInit_of S.kin T.cl.cls
  obtain ⟨hp, g, d, tk, os⟩ := s
  have hlen : us.length ≤ sizeLine := by
    rcases hus with rfl | ⟨rfl, _⟩
    · show 1 ≤ sizeLine
      rw [sizeLine_eq]
      omega
    · exact Nat.zero_le _
  refine PySem.PX.call_own F.excBase_Exception hT hC (looks_findIn S.kin hi) (fun self => bind_fn S.kin self tI) hlen ?_
  have k : ∀ b o, hp.get? b = some o → ((hp.push (kdv_tup us)).push (exc0 C hp.objs.size)).get? b = some o := fun b o e => Heap.get?_push_of_some _ (Heap.get?_push_of_some _ e)
  have z1 : (hp.push (kdv_tup us)).objs.size = hp.objs.size + 1 := Heap.size_push ..
  have z2 : ((hp.push (kdv_tup us)).push (exc0 C hp.objs.size)).objs.size = hp.objs.size + 1 + 1 := by rw [Heap.size_push, z1]
  have hget : ((hp.push (kdv_tup us)).push (exc0 C hp.objs.size)).get? (hp.objs.size + 1) = some (exc0 C hp.objs.size) := by
    have y := Heap.get?_push_size (hp.push (kdv_tup us)) (o := exc0 C hp.objs.size) rfl
    rw [z1] at y
    exact y
  have S2 : Stands K ((hp.push (kdv_tup us)).push (exc0 C hp.objs.size)) := S.up k
  refine G _ _ ⟨(hp.push (kdv_tup us)).push (exc0 C hp.objs.size), g, d, tk, os⟩ _ (hp.objs.size + 1) hp.objs.size v S2 hget (by show A.depth + 1 + 4 < recursionLimit; exact hroom) ?_ fun h' tk' dx L => ?_
  · rcases hus with rfl | ⟨rfl, rfl⟩
    · exact b1 _ _ v S2.kin
    · exact b0 _ _ S2.kin
  · have big : hp.objs.size + 1 + 1 ≤ dx := by
      have q := L.big
      rw [z2] at q
      exact q
    refine ⟨rfl, hq h' tk' (hp.objs.size + 1) dx hp.objs.size ⟨fun b o e => L.old b o (Nat.ne_of_lt (Nat.lt_succ_of_lt (Heap.lt_size e))) (k b o e), Nat.le_succ _, L.here, Nat.le_trans (Nat.le_trans (Nat.le_succ _) (Nat.le_succ _)) big, L.off, L.cell⟩⟩
end
section
variable {X : Cx} {C : Addr} {nm : Str}
theorem stands {pins : List (Addr × Obj)} {σ : L2.St} {H : Hp} {s : Shared} (I : Inv X pins σ H s) (su : X.mg "super" = none) : Stands X.K s.heap := by
  obtain ⟨mb, h1, h2⟩ := I.mod.blt
  exact ⟨I.kIn, I.nolimit, X.mg, mb, I.mod.glob.keeps I.bk, su, h1.keeps I.bk, (h2 "super" (by decide)).trans (by decide +kernel)⟩
theorem room4 {k : Nat} (hr : Room k X.A) : X.A.depth + 5 < recursionLimit := by
  have := hr.dp
  omega
/-- an error stands at e, its dict at dx, with the one field v -/
structure ErrAt (H : Hp) (e C dx : Addr) (v : V) : Prop where
  obj : H e = some (exo e C (some dx))
  own : H dx = some (exd dx [(fld, v)])
theorem ErrAt.up {H H' : Hp} {e C dx : Addr} {v : V} (h : ErrAt H e C dx v) (k : ∀ b o, H b = some o → H' b = some o) : ErrAt H' e C dx v := ⟨k _ _ h.obj, k _ _ h.own⟩
/-- the inner end of C(..): the new error is tracked -/
theorem track {pins : List (Addr × Obj)} {σ : L2.St} {H : Hp} {s : Shared} {h' : Heap} {tk : Nat} {e dx t1 : Addr} {v : V} {u : Value} (I : Inv X pins σ H s) (r : RelV v u) (M : Made s.heap h' e C dx t1 u) :
    H e = none ∧ H dx = none ∧ Inv X pins σ (upd (upd H dx (exd dx [(fld, v)])) e (exo e C (some dx))) { s with heap := h', toks := tk } := by
  have ne := I.hok.fresh M.new
  have nd := I.hok.fresh M.big
  refine ⟨ne, nd, ?_⟩
  obtain ⟨G, g1, g2⟩ := restrict h' fun b => decide (b ≠ e)
  have gk : ∀ b, b ≠ e → G.get? b = h'.get? b := fun b hb => g1 b (decide_eq_true hb)
  have ge : G.get? e = none := g2 e (by simp)
  have old : ∀ b o, s.heap.get? b = some o → G.get? b = some o := fun b o q => (gk b (Nat.ne_of_lt (Nat.lt_of_lt_of_le (Heap.lt_size q) M.new))).trans (M.old b o q)
  have sub : ∀ b o, G.get? b = some o → h'.get? b = some o := fun b o q => by
    by_cases hb : b = e
    · rw [hb, ge] at q
      cases q
    · rw [← gk b hb]
      exact q
  have nsG : G.Ns1 dx (fun y => if y = fld then some u else none) := M.cell.at fun o q => (gk dx M.off).trans q
  have J1 := I.laid (t' := tk) (a := dx) (o := exd dx [(fld, v)]) (h' := G) old M.big (exd_ok nsG (relO_put (fs := []) r fun g => True.intro))
  exact J1.laidN (t' := tk) (a := e) (o := exo e C (some dx)) (h' := h') sub ge (by rw [upd_ne (Ne.symm M.off)]; exact ne) (exo_ok M.here)
def tMkE (C : Addr) (ta : TA) : TE := fun σ H Q => ta σ H fun vs H1 => ∃ v, (vs = [v] ∨ vs = [] ∧ v = .non) ∧ ∀ e dx, H1 e = none → H1 dx = none → dx ≠ e → Q (.ref e) (upd (upd H1 dx (exd dx [(fld, v)])) e (exo e C (some dx)))
theorem call_err {pins : List (Addr × Obj)} {σ : L2.St} {H1 : Hp} {s1 : Shared} {us : List Value} {vs : List V} {Q : VK} {E : Value → Shared → Prop} (T : EC X.prog X.w X.K X.mg nm C) (hd : X.A.depth + 5 < recursionLimit) (I1 : Inv X pins σ H1 s1) (r1 : Vals vs us)
    (q : ∃ v, (vs = [v] ∨ vs = [] ∧ v = .non) ∧ ∀ e dx, H1 e = none → H1 dx = none → dx ≠ e → Q (.ref e) (upd (upd H1 dx (exd dx [(fld, v)])) e (exo e C (some dx)))) :
    wpAny (model X.prog X.w) X.A (call (.ref C) us) (EP X pins σ Q) E s1 := by
  obtain ⟨v, hv, q⟩ := q
  obtain ⟨u, hu, ru⟩ : ∃ u, (us = [u] ∨ us = [] ∧ u = .none) ∧ RelV v u := by
    rcases hv with rfl | ⟨rfl, rfl⟩
    · cases r1 with
      | cons r rr =>
        cases rr
        exact ⟨_, .inl rfl, r⟩
    · cases r1
      exact ⟨.none, .inr ⟨rfl, rfl⟩, rfl⟩
  refine wpAny_call (made T (stands I1 T.su) hu hd fun h' tk e dx t1 M => ?_)
  obtain ⟨ne, nd, J⟩ := track (tk := tk) I1 ru M
  exact ⟨.ref e, _, J, rfl, q e dx ne nd M.off⟩
theorem pe_mkE {e : Expr} {es : List Expr} {ta : TA} {p pos : Pos} {k : Nat} (T : EC X.prog X.w X.K X.mg nm C) (hr : Room k X.A) (hg : Gl X nm) (ha : PA X (e :: es) ta) (hdb : (nm == ("__debug__" : Str)) = false := by decide)
    (he : starEach (e :: es) X.env = (false, eval e X.env) :: starEach es X.env := by rfl) (hpl : (backTo pos (starEach es X.env)).any (·.1) = false := by rfl) :
    PE X (.Call (.Name nm p) (e :: es) [] pos) (tMkE C ta) := by
  refine ⟨fun pins s σ H Q I h => ?_⟩
  refine wpAny_Call_Name_kw (ld_glob I hg T.g ?_ hdb)
  refine callWith_K (h₀ := X.base) I.ok.mod.kin T.kC (thn (ha.run pos pins s σ H _ I h) fun us s1 ⟨vs, H1, I1, r1, q⟩ => ⟨I1.kIn, ?_⟩) he hpl
  exact call_err T (room4 hr) I1 r1 q
theorem pe_mkE0 {p pos : Pos} {k : Nat} (T : EC X.prog X.w X.K X.mg nm C) (hr : Room k X.A) (hg : Gl X nm) (hdb : (nm == ("__debug__" : Str)) = false := by decide) :
    PE X (.Call (.Name nm p) [] [] pos) (tMkE C tNil) := by
  refine ⟨fun pins s σ H Q I h => ?_⟩
  refine wpAny_Call_Name_kw (ld_glob I hg T.g ?_ hdb)
  refine callWith_K0 I.kIn T.kC ?_
  exact call_err T (room4 hr) I .nil h
end
end Err

namespace Err
open PySem PySem.W PySem.Calls PyProof.Rows PySem.Spec L2
section
variable {X : Cx} {C : Addr} {nm : Str}
/-- the error as an instance -/
theorem inst {pins : List (Addr × Obj)} {σ : L2.St} {H : Hp} {s : Shared} {e dx : Addr} {v : V} (I : Inv X pins σ H s) (h : ErrAt H e C dx v) :
    ∃ (t1 : Addr) (od : Obj) (u : Value), RelV v u ∧ InstAt s.heap e { cls := .ref C, dict := some dx, data := .fields #[.ref t1, .none, .none, .none, .bool false, .none] } C (some od) ∧ lookIn fld od = some (some u) := by
  obtain ⟨t1, ho⟩ := exo_at I.hok h.obj
  obtain ⟨mA, hns, rel⟩ := exd_at I.hok h.own
  obtain ⟨od, hod, hl⟩ := lookIn_ns hns
  obtain ⟨u, hu, ru⟩ := RelO.some_of (v := v) (o := mA fld) (by
    have q := rel fld
    have y : List.lookup fld [(fld, v)] = some v := by simp [List.lookup]
    rw [y] at q
    exact q)
  exact ⟨t1, od, u, ru, ⟨ho, rfl, rfl, hod⟩, by rw [hl, hu]⟩
theorem kit {T : EC X.prog X.w X.K X.mg nm C} {x : Addr} {ox : Obj} {od : Option Obj} : KitX X.K (.ref x) (.ref C) (fun h => InstAt h x ox C od) :=
  kitx_exc T.iso T.ga T.gg T.ex T.ha T.hn T.ht T.hm
/-- isinstance(e, D), e a tracked error of the class at C -/
def rIsV (K : Frag) (C : Addr) : List V → Hp → VK → Prop := fun xs H Q => ∃ (a dx : Addr) (v c : V) (cv : Value) (b : Bool), xs = [.ref a, c] ∧ ErrAt H a C dx v ∧ ClsV c cv ∧ kitOne K (.ref C) cv = some b ∧ Q (.bl b) H
theorem call_isV (T : EC X.prog X.w X.K X.mg nm C) : CallR X (.builtin "isinstance") (rIsV X.K C) := by
  intro pins s σ H xs us Q I r h
  obtain ⟨a, dx, v, c, cv, b, rfl, he, k, e, q⟩ := h
  obtain ⟨u1, u2, rfl, r1, r2⟩ := vals2 r
  obtain rfl : u2 = cv := k.eq r2
  obtain rfl : u1 = Value.ref a := r1
  obtain ⟨t1, od, u, ru, J, _⟩ := inst I he
  exact kia_one (kit (T := T)) I.kIn J e (fun z => nomatch z) fun tk => ⟨.bl b, H, I.tok tk, rfl, q⟩
/-- isinstance(e, (c1, c2, ..)), the tuple just laid -/
def rIsVT (K : Frag) (C : Addr) : List V → Hp → VK → Prop := fun xs H Q => ∃ (a dx tp : Addr) (v : V) (cs : List V) (us : List Value) (b : Bool), xs = [.ref a, .ref tp] ∧ ErrAt H a C dx v ∧ H tp = some (.tup cs) ∧ Paired ClsV cs us ∧ kitAny K (.ref C) us = some b ∧ Q (.bl b) H
theorem call_isVT (T : EC X.prog X.w X.K X.mg nm C) : CallR X (.builtin "isinstance") (rIsVT X.K C) := by
  intro pins s σ H xs us Q I r h
  obtain ⟨a, dx, tp, v, cs, ws, b, rfl, he, hT, k, e, q⟩ := h
  obtain ⟨u1, u2, rfl, r1, r2⟩ := vals2 r
  obtain rfl : u1 = Value.ref a := r1
  obtain rfl : u2 = Value.ref tp := r2
  obtain ⟨t1, od, u, ru, J, _⟩ := inst I he
  have z : ObjOk X.prog X.w H s.heap tp (.tup cs) := I.hok tp _ hT
  obtain ⟨_, its, rv, ⟨oc, od', dt, sl⟩, g1, g2, n, g3⟩ := z
  obtain rfl : its = ws := ClsV.all k rv
  dsimp only at g2 g3
  subst g2 g3
  exact kia_tup (kit (T := T)) I.kIn J g1 e (fun z => nomatch z) fun tk => ⟨.bl b, H, I.tok tk, rfl, q⟩
/-- e.sqlite_errorname -/
def tFldE (C : Addr) (te : TE) : TE := fun σ H Q => te σ H fun x H1 => ∃ (a dx : Addr) (v : V), x = .ref a ∧ ErrAt H1 a C dx v ∧ Q v H1
theorem pe_fldE {e : Expr} {te : TE} {pos : Pos} (T : EC X.prog X.w X.K X.mg nm C) (he : PE X e te) (hb : attributeBase e fld X.env (eval e X.env) = eval e X.env := by rfl) : PE X (.Attribute e fld pos) (tFldE C te) := by
  refine ⟨fun pins s σ H Q I h => ?_⟩
  refine attr_of hb (thn (he.run pins s σ H _ I h) fun u s1 ⟨x, H1, I1, rx, a, dx, v, ex, hE, q⟩ => ?_)
  subst ex
  obtain rfl : u = Value.ref a := rx
  obtain ⟨t1, od, u, ru, J, hl⟩ := inst I1 hE
  exact PySem.PX.exc_get I1.kIn J T.ga T.gg T.ex (findObj_own T.cl.hd T.no rfl hl) (handed_of ru) ⟨v, H1, I1.tok _, ru, q⟩
/-- raise C(e) -/
def tMkR (C : Addr) (ta : TA) : L2.St → Hp → XK → Prop := fun σ H Q => ta σ H fun vs H1 => ∃ v, (vs = [v] ∨ vs = [] ∧ v = .non) ∧ ∀ d, H1 d = none → Q (.ref C) (some d) (upd H1 d (.xd [(fld, v)]))
theorem pmk_err {e : Expr} {es : List Expr} {ta : TA} {p pos : Pos} {k : Nat} (T : EC X.prog X.w X.K X.mg nm C) (hr : Room k X.A) (hg : Gl X nm) (ha : PA X (e :: es) ta) (hdb : (nm == ("__debug__" : Str)) = false := by decide)
    (he : starEach (e :: es) X.env = (false, eval e X.env) :: starEach es X.env := by rfl) (hpl : (backTo pos (starEach es X.env)).any (·.1) = false := by rfl) : PMk X (.Call (.Name nm p) (e :: es) [] pos) (tMkR C ta) := by
  intro pins s σ H Q I h
  refine wpAny_Call_Name_kw (ld_glob I hg T.g ?_ hdb)
  refine callWith_K (h₀ := X.base) I.ok.mod.kin T.kC (thn (ha.run pos pins s σ H _ I h) fun us s1 ⟨vs, H1, I1, r1, v, hv, q⟩ => ⟨I1.kIn, ?_⟩) he hpl
  obtain ⟨u, hu, ru⟩ : ∃ u, (us = [u] ∨ us = [] ∧ u = .none) ∧ RelV v u := by
    rcases hv with rfl | ⟨rfl, rfl⟩
    · cases r1 with
      | cons r rr =>
        cases rr
        exact ⟨_, .inl rfl, r⟩
    · cases r1
      exact ⟨.none, .inr ⟨rfl, rfl⟩, rfl⟩
  refine wpAny_call (made T (stands I1 T.su) hu (room4 hr) fun h' tk e dx t1 M => ?_)
  obtain ⟨G, g1, g2⟩ := restrict h' fun b => decide (b ≠ e)
  have gk : ∀ b, b ≠ e → G.get? b = h'.get? b := fun b hb => g1 b (decide_eq_true hb)
  have ge : G.get? e = none := g2 e (by simp)
  have old : ∀ b o, s1.heap.get? b = some o → G.get? b = some o := fun b o q => (gk b (Nat.ne_of_lt (Nat.lt_of_lt_of_le (Heap.lt_size q) M.new))).trans (M.old b o q)
  have nsG : G.Ns1 dx (fun y => if y = fld then some u else none) := M.cell.at fun o q => (gk dx M.off).trans q
  have new : ObjOk X.prog X.w (upd H1 dx (.xd [(fld, v)])) G dx (.xd [(fld, v)]) := ⟨_, nsG, relO_put (fs := []) ru fun g => True.intro⟩
  have J := I1.laid (t' := tk) (a := dx) (o := .xd [(fld, v)]) (h' := G) old M.big new
  refine ⟨e, _, _, { s1 with heap := G, toks := tk }, _, .ref C, some dx, rfl, J, fun b o q => ?_, ge, M.here, ⟨rfl, rfl⟩, rfl, rfl, ?_, rfl, I1.bare, raises_own T.ex T.ty, q dx (I1.hok.fresh M.big)⟩
  · by_cases hb : b = e
    · have q' : G.get? b = some o := q
      rw [hb, ge] at q'
      cases q'
    · exact (gk b hb).symm.trans q
  · rw [upd_ne (Ne.symm M.off)]
    exact I1.hok.fresh M.new
end
end Err

/-! try with two clauses, each «except X as n». -/
namespace Err
open PySem PySem.Calls PyProof.Rows PySem.Spec L2
/-- behind a suite the name is gone -/
def lessSlot (i : Nat) (D : Ends) : Ends := { nx := fun τ G => D.nx (τ.set i none) G, rt := D.rt, bk := fun τ G => D.bk (τ.set i none) G, ct := fun τ G => D.ct (τ.set i none) G }
abbrev Suite := Addr → Value → Option Addr → TS
def wTwo (K : PySem.W.Frag) (i : Nat) (Wout : WX) (D : Ends) : List (Value × Suite) → WX
  | [] => Wout
  | (c, ts) :: r => fun cls d τ G => ∃ b, PySem.W.exmOne K cls c = some b ∧ (b = true → ∀ z, G z = none → ts z cls d (lessSlot i D) (τ.set i (some (.ref z))) G) ∧ (b = false → wTwo K i Wout D r cls d τ G)
inductive Clauses (X : Cx) (n : Str) : List ExceptHandler → List (Value × Suite) → Prop
  | none : Clauses X n [] []
  | more {x : Str} {c : Value} {ts : Suite} {st : Stmt} {sts : List Stmt} {p1 p2 : Pos} {hs : List ExceptHandler} {l : List (Value × Suite)} (nm : Names X x c)
      (ok : ∀ (z : Addr) (oz : Obj) (cls : Value) (d : Option Addr) (pn : List (Addr × Obj)), Zc cls d oz → (∃ fs, oz.data = .fields fs) → PSs (X.suite z ((z, oz) :: pn)) (st :: sts) (ts z cls d)) (r : Clauses X n hs l) :
      Clauses X n (.ExceptHandler (some (.Name x p1)) (some n) (st :: sts) p2 :: hs) ((c, ts) :: l)
section
variable {X : Cx} {n : Str} {i : Nat} {body : List Stmt} {h₁ : ExceptHandler} {hs : List ExceptHandler} {l : List (Value × Suite)} {pos : Pos} {tb : WX → TS} {Wout : WX}
theorem ps_try_twoAs (st : X.stack = X.env :: X.outer) (fr : X.env.frame = some X.env.locals) (nd : X.N.Nodup) (at_ : X.N[i]? = some n) (lo : X.env.kindOf n = some .local) (tk : Takes X Wout)
    (hb : ∀ (W : WX) (pn : List (Addr × Obj)) (xe : Value → Shared → Prop), Takes (X.tr pn xe) W → PassesOwn (model X.prog X.w) X.A X.env xe → PSs (X.tr pn xe) body (tb W)) (cl : Clauses X n (h₁ :: hs) l) :
    PS X (.Try body (h₁ :: hs) [] [] pos) (fun D τ G => tb (wTwo X.K i Wout D l) D τ G) := by
  refine ⟨fun pins s₀ τ G D I want => ?_⟩
  have fine := I.ok
  have frames : X.A.frames = some (X.env :: X.outer) := fine.frames.trans (congrArg some st)
  refine wpAny_Try_except ?_
  let thrown : Value → Shared → Prop := fun e s₁ => wpAny (model X.prog X.w) X.A (noteFrame e X.env)
    (fun _ s₂ => wpAny (model X.prog X.w) X.A (setFlight e none) (fun _ s₃ => wpAny (model X.prog X.w) X.A (handleBy e X.env (h₁ :: hs)) (SP X pins D) X.xe s₃) X.xe s₂) X.xe s₁
  have ran := (hb (wTwo X.K i Wout D l) (X.pn ++ pins) thrown (fun u sx got => ?_) PassesOwn.looking).run [] s₀ τ G D (I.toTry _) want
  · refine wpAny_mono ran (fun fl sy went => ?_) fun _ _ q => q
    cases fl with
    | ret v =>
      obtain ⟨y, τ', G', J, r, q⟩ := went
      exact ⟨y, τ', G', J.ofTry fine, r, q⟩
    | next =>
      obtain ⟨τ', G', J, q⟩ := went
      exact wpAny_execs_nil ⟨τ', G', J.ofTry fine, q⟩
    | brk =>
      obtain ⟨τ', G', J, q⟩ := went
      exact ⟨τ', G', J.ofTry fine, q⟩
    | cont =>
      obtain ⟨τ', G', J, q⟩ := went
      exact ⟨τ', G', J.ofTry fine, q⟩
  · obtain ⟨z, ground, sI, pins', τ', G', cls, d, rfl, Jt, nb, up, sky, nz, os, ag, wish⟩ := got
    have J : Inv X pins τ' G' sI := Jt.ofTry fine
    show wpAny (model X.prog X.w) X.A (noteFrame (.ref z) X.env) _ _ _
    refine Sky.land Zc.steady frames fr (st ▸ sky) fun g3 fl3 up3 => ?_
    have J3 : Inv X pins τ' G' { sx with heap := g3 } := J.landed nb fl3.1 (up.trans up3) os ag
    obtain ⟨oz, fs, he3, hz3, hd3⟩ := fl3.there
    have far : z ∉ frs (X.env :: X.outer) := fun m => by
      obtain ⟨_, o', e', no⟩ := fl3.2.2.1.mem m
      obtain rfl := Option.some.inj (he3.symm.trans e')
      exact no _ hd3
    have farL : z ≠ X.env.locals := fun q => far (List.mem_filterMap.mpr ⟨X.env, .head _, fr.trans (congrArg some q.symm)⟩)
    have farF : z ∉ X.fs := fun m => by
      obtain ⟨v, hv, q⟩ := List.mem_filterMap.mp m
      exact far (List.mem_filterMap.mpr ⟨v, .tail _ hv, q⟩)
    have S3 := J3.suite he3 hd3 nz farL farF
    have ask : ∀ {hs' : List ExceptHandler} {l' : List (Value × Suite)}, Clauses X n hs' l' → wTwo X.K i Wout D l' cls d τ' G' →
        wpAny (model X.prog X.w) X.A (handleBy (.ref z) X.env hs') (SP X pins D) X.xe { sx with heap := g3 } := fun {hs' l'} k => by
      induction k with
      | none =>
        intro wish
        refine wpAny_handleBy_nil ?_
        obtain ⟨_, _, _, oe, vs, T, oT, ts', he, hz, hd, h1, hr⟩ := id fl3
        unfold PySem.passOn
        refine wpAny_bind (wpAny_field he hd h1 ?_)
        have out : wpAny (model X.prog X.w) X.A (setFlight (.ref z) X.env.frame) (fun _ s4 => wpAny (model X.prog X.w) X.A (throw (.ref z) : Sem Flow) (SP X pins D) X.xe s4) X.xe { sx with heap := g3 } := by
          rw [fr]
          refine HandSPX.setFlight_upZ fl3 fun g4 up4' up4 => wpAny_throw (tk _ _ ?_)
          exact ⟨z, ground, sI, pins, τ', G', cls, d, rfl, J, nb, (up.trans up3).trans up4, .inr (.inr (st ▸ up4')), nz, os, ag, wish⟩
        have isRef : ¬ ((Value.ref T == Value.none) = true) := by simp
        rw [if_neg isRef]
        first
          | exact wpAny_bind (wpAny_pure (wpAny_bind out))
          | exact wpAny_bind out
      | @more x c ts b0 bs p1 p2 hs2 l2 nm ok r ih =>
        intro wish
        obtain ⟨hit, is, yes, no⟩ := wish
        refine wpAny_handleBy_cons (codeAny_handlers_test ?_) (fun q => by cases q)
        have ty : PySem.W.Looks (model X.prog X.w) g3 (typeOf (.ref z)) cls := fun _ _ _ _ k q => wpAny_typeOf_ref (k _ _ he3) (hz3.1 ▸ q)
        have match_ := PySem.W.exm_one (M := model X.prog X.w) J3.kIn ty is
        have named : ∀ {Q E : Value → Shared → Prop}, Q c { sx with heap := g3 } → wpAny (model X.prog X.w) (X.A.mark (some (.ref z))) (eval (.Name x p1) X.env) Q E { sx with heap := g3 } := fun {Q E} q => by
          obtain ⟨hg, hdbg, hm | ⟨hm, hv, hnn⟩⟩ := nm
          · exact ld_glob (X := X.suite z ((z, oz) :: (X.pn ++ pins))) S3 hg hm q hdbg
          · exact ld_blt (X := X.suite z ((z, oz) :: (X.pn ++ pins))) S3 hg hm hv q hnn hdbg
        refine named (match_.here ?_)
        cases hit with
        | false => exact ih (no rfl)
        | true =>
          refine codeAny_handlers_suite_as (HandSPX.lands_againZ fl3 fun g4 fl4 up4 => ?_)
          have J4 : Inv X pins τ' G' { sx with heap := g4 } := J.landed nb fl4.1 ((up.trans up3).trans up4) os ag
          obtain ⟨o4, fs4, he4, hz4, hd4⟩ := fl4.there
          have S4 := J4.suite he4 hd4 nz farL farF
          refine store_ok (X := X.suite z ((z, o4) :: (X.pn ++ pins))) (v := .ref z) S4 nd at_ (.inl lo) rfl (fun s5 S5 => ?_) (.inr lo)
          refine wpAny_mono ((ok z o4 cls d (X.pn ++ pins) hz4 ⟨_, hd4⟩).run [] s5 _ G' _ S5 (yes rfl z nz)) (fun fl s6 went => ?_) fun _ _ q => q.elim
          have off : ∀ {τ6 : L2.St} {G6 : Hp} {Q : Shared → Prop}, Inv (X.suite z ((z, o4) :: (X.pn ++ pins))) [] τ6 G6 s6 → (∀ s7, Inv X pins (τ6.set i none) G6 s7 → Q s7) →
              wpAny (model X.prog X.w) X.A (do bindName X.env n .none; unbindBehindTheSuite X.env n p2) (fun _ s7 => Q s7) X.xe s6 := fun S6 q => gone_ok (S6.unsuite fine) nd at_ lo q
          cases fl with
          | ret u =>
            obtain ⟨v6, τ6, G6, S6, r6, q6⟩ := went
            exact off S6 fun s7 J7 => ⟨_, _, _, J7, r6, q6⟩
          | next =>
            obtain ⟨τ6, G6, S6, q6⟩ := went
            exact off S6 fun s7 J7 => ⟨_, _, J7, q6⟩
          | brk =>
            obtain ⟨τ6, G6, S6, q6⟩ := went
            exact off S6 fun s7 J7 => ⟨_, _, J7, q6⟩
          | cont =>
            obtain ⟨τ6, G6, S6, q6⟩ := went
            exact off S6 fun s7 J7 => ⟨_, _, J7, q6⟩
    exact ask cl wish
end
end Err

namespace Err
open PySem PySem.Calls PyProof.Rows PySem.Spec L2 Drw
abbrev sKinds : Stmt := topS 16
abbrev sMade : Stmt := topS 17
abbrev sRaised : Stmt := topS 18
abbrev sCaught : Stmt := topS 19
theorem scKinds : FnScope ["_law_e", "_law_found"] ["_law_e"] (defScope sKinds) := ⟨rfl, rfl, rfl, by decide +kernel, rfl, by decide +kernel, by decide +kernel⟩
theorem scMade : FnScope ["_law_nth", "_law_name", "_law_way"] ["_law_nth", "_law_name", "_law_way"] (defScope sMade) := ⟨rfl, rfl, rfl, by decide +kernel, rfl, by decide +kernel, by decide +kernel⟩
theorem scRaised : FnScope ["_law_nth"] ["_law_nth"] (defScope sRaised) := ⟨rfl, rfl, rfl, by decide +kernel, rfl, by decide +kernel, by decide +kernel⟩
theorem scCaught : FnScope ["_law_nth", "_law_found", "_law_e"] ["_law_nth"] (defScope sCaught) := ⟨rfl, rfl, rfl, by decide +kernel, rfl, by decide +kernel, by decide +kernel⟩
def nms : Nat → Str
  | 0 => "Error"
  | 1 => "InterfaceError"
  | 2 => "DatabaseError"
  | 3 => "DataError"
  | 4 => "OperationalError"
  | 5 => "IntegrityError"
  | 6 => "InternalError"
  | 7 => "ProgrammingError"
  | _ => "NotSupportedError"
/-- an error of the n-th class is one of the j-th -/
def isa (n j : Nat) : Bool := j == n || j == 0 || (j == 2 && decide (2 < n))
structure Nine (P : Program) (w : World) (K : PySem.W.Frag) (mg : Str → Option Value) (cs : Nat → Addr) : Prop where
  ec : ∀ n, n < 9 → EC P w K mg (nms n) (cs n)
  kit : ∀ n, n < 9 → ∀ j, j < 9 → PySem.W.kitOne K (.ref (cs n)) (.ref (cs j)) = some (isa n j)
  kit4 : ∀ n, n < 9 → PySem.W.kitAny K (.ref (cs n)) [.type "ValueError", .type "KeyError", .type "LookupError", .type "ArithmeticError"] = some false
  ex2 : ∀ n, n < 9 → PySem.W.exmOne K (.ref (cs n)) (.ref (cs 2)) = some (isa n 2)
  ex0 : ∀ n, n < 9 → PySem.W.exmOne K (.ref (cs n)) (.ref (cs 0)) = some true
theorem iT {c : Bool} {A B : Prop} (h : c = true) (a : A) : if c = true then A else B := by
  rw [if_pos h]
  exact a
theorem iF {c : Bool} {A B : Prop} (h : c = false) (b : B) : if c = true then A else B := by
  rw [h]
  exact iteF b
def nineB (n : Nat) : List Bool := [isa n 0, isa n 1, isa n 2, isa n 3, isa n 4, isa n 5, isa n 6, isa n 7, isa n 8]
def spKinds (cs : Nat → Addr) : Sp := fun vs H Q _ => ∃ (a dx : Addr) (v : V) (n : Nat), vs = [.ref a] ∧ n < 9 ∧ ErrAt H a (cs n) dx v ∧ ∀ H' l, Al H H' → H' l = some (.lst ((nineB n).map V.bl)) → H l = none → Q (.ref l) H'
theorem _root_.Drw.Al.refl {H : Hp} : Al H H := fun _ _ e => e
theorem _root_.Drw.Al.new {H H' : Hp} {p : Addr} {o : HO} (k : Al H H') (h : H' p = none) : Al H (upd H' p o) := fun b u e => by
  have z := k b u e
  rw [upd_ne (ne_of_none z h)]
  exact z
theorem _root_.Drw.Al.trans {H H' H'' : Hp} (k : Al H H') (k' : Al H' H'') : Al H H'' := fun b o e => k' b o (k b o e)
theorem _root_.Drw.Al.gone {H H' : Hp} {p : Addr} (k : Al H H') (h : H' p = none) : H p = none := by
  cases e : H p with
  | none => rfl
  | some o =>
    rw [k p o e] at h
    cases h
section
variable {P : Program} {w : World} {K : PySem.W.Frag} {mg : Str → Option Value} {base : Heap} {cs : Nat → Addr}
theorem ok_kinds {f : Addr} {fd : FuncData} (F : Fun K "_law_kinds" "_law_kinds" sKinds f fd) (T : Nine P w K mg cs) (mi : mg "isinstance" = none) : FnOk P w K mg base CX0 1 f fd ["_law_e"] (spKinds cs) := by
  refine F.ok scKinds (fun vs H Q E h => ?_) (fun cdv A outer s H vs Q E hr h => ?_)
  · obtain ⟨a, dx, v, n, rfl, _⟩ := h
    rfl
  · obtain ⟨a, dx, v, n, rfl, hn, hE, q⟩ := h
    have g : ∀ j (h : j < 9), mg (nms j) = some (.ref (cs j)) := fun j h => (T.ec j h).g
    have c := fun {X : Cx} (T' : EC X.prog X.w X.K X.mg (nms n) (cs n)) => call_isV (X := X) T'
    refine ⟨_, pss_cons (ps_set (i := 1) scKinds.nd rfl (.inl rfl) (pe_lst (pa_cons (pe_callB (call_isV (T.ec n hn)) (by rfl) mi boot_isinstance (pa_cons (pv 0) (pa_cons (pe_glob (v := .ref (cs 0)) (by rfl) (g 0 (by decide)) rfl) pa_nil)))
        (pa_cons (pe_callB (call_isV (T.ec n hn)) (by rfl) mi boot_isinstance (pa_cons (pv 0) (pa_cons (pe_glob (v := .ref (cs 1)) (by rfl) (g 1 (by decide)) rfl) pa_nil)))
        (pa_cons (pe_callB (call_isV (T.ec n hn)) (by rfl) mi boot_isinstance (pa_cons (pv 0) (pa_cons (pe_glob (v := .ref (cs 2)) (by rfl) (g 2 (by decide)) rfl) pa_nil))) pa_nil)))))
      (pss_cons (ps_set (i := 1) scKinds.nd rfl (.inl rfl) (pe_op op_cat (pv 1) (pe_lst (pa_cons (pe_callB (call_isV (T.ec n hn)) (by rfl) mi boot_isinstance (pa_cons (pv 0) (pa_cons (pe_glob (v := .ref (cs 3)) (by rfl) (g 3 (by decide)) rfl) pa_nil)))
        (pa_cons (pe_callB (call_isV (T.ec n hn)) (by rfl) mi boot_isinstance (pa_cons (pv 0) (pa_cons (pe_glob (v := .ref (cs 4)) (by rfl) (g 4 (by decide)) rfl) pa_nil)))
        (pa_cons (pe_callB (call_isV (T.ec n hn)) (by rfl) mi boot_isinstance (pa_cons (pv 0) (pa_cons (pe_glob (v := .ref (cs 5)) (by rfl) (g 5 (by decide)) rfl) pa_nil))) pa_nil))))))
      (pss_cons (ps_set (i := 1) scKinds.nd rfl (.inl rfl) (pe_op op_cat (pv 1) (pe_lst (pa_cons (pe_callB (call_isV (T.ec n hn)) (by rfl) mi boot_isinstance (pa_cons (pv 0) (pa_cons (pe_glob (v := .ref (cs 6)) (by rfl) (g 6 (by decide)) rfl) pa_nil)))
        (pa_cons (pe_callB (call_isV (T.ec n hn)) (by rfl) mi boot_isinstance (pa_cons (pv 0) (pa_cons (pe_glob (v := .ref (cs 7)) (by rfl) (g 7 (by decide)) rfl) pa_nil))) pa_nil)))))
      (pss_one (ps_ret (pe_op op_cat (pv 1) (pe_lst (pa_cons (pe_callB (call_isV (T.ec n hn)) (by rfl) mi boot_isinstance (pa_cons (pv 0) (pa_cons (pe_glob (v := .ref (cs 8)) (by rfl) (g 8 (by decide)) rfl) pa_nil))) pa_nil))))))), ?_⟩
    have own : ∀ j, ClsV (.ref (cs j)) (.ref (cs j)) := fun j => .own _
    have kt := T.kit n hn
    refine ⟨.ref a, rfl, a, dx, v, _, _, _, rfl, hE, own 0, kt 0 (by decide), .ref a, rfl, a, dx, v, _, _, _, rfl, hE, own 1, kt 1 (by decide), .ref a, rfl, a, dx, v, _, _, _, rfl, hE, own 2, kt 2 (by decide), by show 3 ≤ sizeLine; decide, fun p1 n1 => ?_⟩
    have k1 := (Drw.Al.refl (H := H)).new (o := .lst [.bl (isa n 0), .bl (isa n 1), .bl (isa n 2)]) n1
    have E1 := hE.up k1
    refine ⟨.ref p1, rfl, .ref a, rfl, a, dx, v, _, _, _, rfl, E1, own 3, kt 3 (by decide), .ref a, rfl, a, dx, v, _, _, _, rfl, E1, own 4, kt 4 (by decide), .ref a, rfl, a, dx, v, _, _, _, rfl, E1, own 5, kt 5 (by decide), by show 3 ≤ sizeLine; decide, fun p2 n2 => ?_⟩
    have k2 := k1.new (o := .lst [.bl (isa n 3), .bl (isa n 4), .bl (isa n 5)]) n2
    have d21 : p1 ≠ p2 := fun z => by
      rw [← z, upd_same] at n2
      cases n2
    refine ⟨p1, p2, _, _, rfl, rfl, (upd_ne d21).trans upd_same, upd_same, by show 6 ≤ sizeLine; decide, fun p3 n3 => ?_⟩
    have k3 := k2.new (o := .lst [.bl (isa n 0), .bl (isa n 1), .bl (isa n 2), .bl (isa n 3), .bl (isa n 4), .bl (isa n 5)]) n3
    have E3 := hE.up k3
    refine ⟨.ref p3, rfl, .ref a, rfl, a, dx, v, _, _, _, rfl, E3, own 6, kt 6 (by decide), .ref a, rfl, a, dx, v, _, _, _, rfl, E3, own 7, kt 7 (by decide), by show 2 ≤ sizeLine; decide, fun p4 n4 => ?_⟩
    have k4 := k3.new (o := .lst [.bl (isa n 6), .bl (isa n 7)]) n4
    have d34 : p3 ≠ p4 := fun z => by
      rw [← z] at n4
      rw [show _ = some _ from upd_same] at n4
      cases n4
    refine ⟨p3, p4, _, _, rfl, rfl, (upd_ne d34).trans upd_same, upd_same, by show 8 ≤ sizeLine; decide, fun p5 n5 => ?_⟩
    have k5 := k4.new (o := .lst [.bl (isa n 0), .bl (isa n 1), .bl (isa n 2), .bl (isa n 3), .bl (isa n 4), .bl (isa n 5), .bl (isa n 6), .bl (isa n 7)]) n5
    have E5 := hE.up k5
    refine ⟨.ref p5, rfl, .ref a, rfl, a, dx, v, _, _, _, rfl, E5, own 8, kt 8 (by decide), by show 1 ≤ sizeLine; decide, fun p6 n6 => ?_⟩
    have k6 := k5.new (o := .lst [.bl (isa n 8)]) n6
    have d56 : p5 ≠ p6 := fun z => by
      rw [← z] at n6
      rw [show _ = some _ from upd_same] at n6
      cases n6
    refine ⟨p5, p6, _, _, rfl, rfl, (upd_ne d56).trans upd_same, upd_same, by show 9 ≤ sizeLine; decide, fun p7 n7 => ?_⟩
    exact q _ p7 (k6.new n7) upd_same (k6.gone n7)
end
end Err

namespace Err
open PySem PySem.Calls PyProof.Rows PySem.Spec L2 Drw
/-- what is passed on -/
def told (way : Int) (name : V) : V := if way = 0 then .non else name
def spMade (cs : Nat → Addr) : Sp := fun vs H Q _ => ∃ (n : Nat) (name : V) (way : Int), vs = [.int n, name, .int way] ∧ n < 9 ∧
  ∀ e dx H', Al H H' → ErrAt H' e (cs n) dx (told way name) → H e = none → Q (.ref e) H'
def spRaised (cs : Nat → Addr) : Sp := fun vs H _ E => ∃ n : Nat, vs = [.int n] ∧ n < 9 ∧ ∀ d, H d = none → E (.ref (cs n)) (some d) (upd H d (.xd [(fld, .str "x")]))
theorem err_new {H : Hp} {e dx C : Addr} {v : V} (ne : H e = none) (nd : H dx = none) (off : dx ≠ e) :
    Al H (upd (upd H dx (exd dx [(fld, v)])) e (exo e C (some dx))) ∧ ErrAt (upd (upd H dx (exd dx [(fld, v)])) e (exo e C (some dx))) e C dx v := by
  refine ⟨fun b o z => ?_, upd_same, ?_⟩
  · rw [upd_ne (ne_of_none z ne), upd_ne (ne_of_none z nd)]
    exact z
  · rw [upd_ne off]
    exact upd_same
section
variable {P : Program} {w : World} {K : PySem.W.Frag} {mg : Str → Option Value} {base : Heap} {cs : Nat → Addr}
theorem ok_made {f : Addr} {fd : FuncData} (F : Fun K "_law_made" "_law_made" sMade f fd) (T : Nine P w K mg cs) : FnOk P w K mg base CX0 2 f fd ["_law_nth", "_law_name", "_law_way"] (spMade cs) := by
  refine F.ok scMade (fun vs H Q E h => ?_) (fun cdv A outer s H vs Q E hr h => ?_)
  · obtain ⟨n, name, way, rfl, _⟩ := h
    rfl
  · obtain ⟨n, name, way, rfl, hn, q⟩ := h
    refine ⟨_, pss_cons (ps_if (pt_cmpR op_eq (pv 0) pe_int (nomark _)) (pss_one (ps_ret (pe_ifExp (pt_cmpR op_eq (pv 2) pe_int (nomark _)) (pe_mkE0 (T.ec 0 (by decide)) hr (by rfl)) (pe_mkE (T.ec 0 (by decide)) hr (by rfl) (pa_cons (pv 1) pa_nil))))) pss_nil)
      (pss_cons (ps_if (pt_cmpR op_eq (pv 0) pe_int (nomark _)) (pss_one (ps_ret (pe_ifExp (pt_cmpR op_eq (pv 2) pe_int (nomark _)) (pe_mkE0 (T.ec 1 (by decide)) hr (by rfl)) (pe_mkE (T.ec 1 (by decide)) hr (by rfl) (pa_cons (pv 1) pa_nil))))) pss_nil)
      (pss_cons (ps_if (pt_cmpR op_eq (pv 0) pe_int (nomark _)) (pss_one (ps_ret (pe_ifExp (pt_cmpR op_eq (pv 2) pe_int (nomark _)) (pe_mkE0 (T.ec 2 (by decide)) hr (by rfl)) (pe_mkE (T.ec 2 (by decide)) hr (by rfl) (pa_cons (pv 1) pa_nil))))) pss_nil)
      (pss_cons (ps_if (pt_cmpR op_eq (pv 0) pe_int (nomark _)) (pss_one (ps_ret (pe_ifExp (pt_cmpR op_eq (pv 2) pe_int (nomark _)) (pe_mkE0 (T.ec 3 (by decide)) hr (by rfl)) (pe_mkE (T.ec 3 (by decide)) hr (by rfl) (pa_cons (pv 1) pa_nil))))) pss_nil)
      (pss_cons (ps_if (pt_cmpR op_eq (pv 0) pe_int (nomark _)) (pss_one (ps_ret (pe_ifExp (pt_cmpR op_eq (pv 2) pe_int (nomark _)) (pe_mkE0 (T.ec 4 (by decide)) hr (by rfl)) (pe_mkE (T.ec 4 (by decide)) hr (by rfl) (pa_cons (pv 1) pa_nil))))) pss_nil)
      (pss_cons (ps_if (pt_cmpR op_eq (pv 0) pe_int (nomark _)) (pss_one (ps_ret (pe_ifExp (pt_cmpR op_eq (pv 2) pe_int (nomark _)) (pe_mkE0 (T.ec 5 (by decide)) hr (by rfl)) (pe_mkE (T.ec 5 (by decide)) hr (by rfl) (pa_cons (pv 1) pa_nil))))) pss_nil)
      (pss_cons (ps_if (pt_cmpR op_eq (pv 0) pe_int (nomark _)) (pss_one (ps_ret (pe_ifExp (pt_cmpR op_eq (pv 2) pe_int (nomark _)) (pe_mkE0 (T.ec 6 (by decide)) hr (by rfl)) (pe_mkE (T.ec 6 (by decide)) hr (by rfl) (pa_cons (pv 1) pa_nil))))) pss_nil)
      (pss_cons (ps_if (pt_cmpR op_eq (pv 0) pe_int (nomark _)) (pss_one (ps_ret (pe_ifExp (pt_cmpR op_eq (pv 2) pe_int (nomark _)) (pe_mkE0 (T.ec 7 (by decide)) hr (by rfl)) (pe_mkE (T.ec 7 (by decide)) hr (by rfl) (pa_cons (pv 1) pa_nil))))) pss_nil)
      (pss_one (ps_ret (pe_ifExp (pt_cmpR op_eq (pv 2) pe_int (nomark _)) (pe_mkE0 (T.ec 8 (by decide)) hr (by rfl)) (pe_mkE (T.ec 8 (by decide)) hr (by rfl) (pa_cons (pv 1) pa_nil)))))))))))), ?_⟩
    have fin : ∀ (C : Addr), C = cs n → ∀ e dx, H e = none → H dx = none → dx ≠ e → ∀ v, v = told way name → Q (.ref e) (upd (upd H dx (exd dx [(fld, v)])) e (exo e C (some dx))) := fun C hC e dx ne nd off v hv => by
      subst hC hv
      obtain ⟨k, E⟩ := err_new (C := cs n) (v := told way name) ne nd off
      exact q e dx _ k E ne
    have t0 : ∀ h : decide (V.int way = V.int 0) = true, V.non = told way name := fun h => by
      have z : way = 0 := V.int.inj (of_decide_eq_true h)
      unfold told
      rw [if_pos z]
    have t1 : ¬ decide (V.int way = V.int 0) = true → name = told way name := fun h => by
      have z : ¬ way = 0 := fun e => h (decide_eq_true (by rw [e]))
      unfold told
      rw [if_neg z]
    rcases n with _ | _ | _ | _ | _ | _ | _ | _ | _ | n
    · skip
      refine ⟨_, rfl, rfl, _, rfl, iT (by decide) ?_⟩
      refine ⟨_, rfl, rfl, _, rfl, ite2 (fun y => ?_) (fun y => ?_)⟩
      · exact ⟨_, .inr ⟨rfl, rfl⟩, fun e dx ne nd off => fin _ rfl e dx ne nd off _ (t0 y)⟩
      · exact ⟨_, rfl, _, .inl rfl, fun e dx ne nd off => fin _ rfl e dx ne nd off _ (t1 y)⟩
    · skip
      refine ⟨_, rfl, rfl, _, rfl, iF (by decide) ?_⟩
      refine ⟨_, rfl, rfl, _, rfl, iT (by decide) ?_⟩
      refine ⟨_, rfl, rfl, _, rfl, ite2 (fun y => ?_) (fun y => ?_)⟩
      · exact ⟨_, .inr ⟨rfl, rfl⟩, fun e dx ne nd off => fin _ rfl e dx ne nd off _ (t0 y)⟩
      · exact ⟨_, rfl, _, .inl rfl, fun e dx ne nd off => fin _ rfl e dx ne nd off _ (t1 y)⟩
    · skip
      refine ⟨_, rfl, rfl, _, rfl, iF (by decide) ?_⟩
      refine ⟨_, rfl, rfl, _, rfl, iF (by decide) ?_⟩
      refine ⟨_, rfl, rfl, _, rfl, iT (by decide) ?_⟩
      refine ⟨_, rfl, rfl, _, rfl, ite2 (fun y => ?_) (fun y => ?_)⟩
      · exact ⟨_, .inr ⟨rfl, rfl⟩, fun e dx ne nd off => fin _ rfl e dx ne nd off _ (t0 y)⟩
      · exact ⟨_, rfl, _, .inl rfl, fun e dx ne nd off => fin _ rfl e dx ne nd off _ (t1 y)⟩
    · skip
      refine ⟨_, rfl, rfl, _, rfl, iF (by decide) ?_⟩
      refine ⟨_, rfl, rfl, _, rfl, iF (by decide) ?_⟩
      refine ⟨_, rfl, rfl, _, rfl, iF (by decide) ?_⟩
      refine ⟨_, rfl, rfl, _, rfl, iT (by decide) ?_⟩
      refine ⟨_, rfl, rfl, _, rfl, ite2 (fun y => ?_) (fun y => ?_)⟩
      · exact ⟨_, .inr ⟨rfl, rfl⟩, fun e dx ne nd off => fin _ rfl e dx ne nd off _ (t0 y)⟩
      · exact ⟨_, rfl, _, .inl rfl, fun e dx ne nd off => fin _ rfl e dx ne nd off _ (t1 y)⟩
    · skip
      refine ⟨_, rfl, rfl, _, rfl, iF (by decide) ?_⟩
      refine ⟨_, rfl, rfl, _, rfl, iF (by decide) ?_⟩
      refine ⟨_, rfl, rfl, _, rfl, iF (by decide) ?_⟩
      refine ⟨_, rfl, rfl, _, rfl, iF (by decide) ?_⟩
      refine ⟨_, rfl, rfl, _, rfl, iT (by decide) ?_⟩
      refine ⟨_, rfl, rfl, _, rfl, ite2 (fun y => ?_) (fun y => ?_)⟩
      · exact ⟨_, .inr ⟨rfl, rfl⟩, fun e dx ne nd off => fin _ rfl e dx ne nd off _ (t0 y)⟩
      · exact ⟨_, rfl, _, .inl rfl, fun e dx ne nd off => fin _ rfl e dx ne nd off _ (t1 y)⟩
    · skip
      refine ⟨_, rfl, rfl, _, rfl, iF (by decide) ?_⟩
      refine ⟨_, rfl, rfl, _, rfl, iF (by decide) ?_⟩
      refine ⟨_, rfl, rfl, _, rfl, iF (by decide) ?_⟩
      refine ⟨_, rfl, rfl, _, rfl, iF (by decide) ?_⟩
      refine ⟨_, rfl, rfl, _, rfl, iF (by decide) ?_⟩
      refine ⟨_, rfl, rfl, _, rfl, iT (by decide) ?_⟩
      refine ⟨_, rfl, rfl, _, rfl, ite2 (fun y => ?_) (fun y => ?_)⟩
      · exact ⟨_, .inr ⟨rfl, rfl⟩, fun e dx ne nd off => fin _ rfl e dx ne nd off _ (t0 y)⟩
      · exact ⟨_, rfl, _, .inl rfl, fun e dx ne nd off => fin _ rfl e dx ne nd off _ (t1 y)⟩
    · skip
      refine ⟨_, rfl, rfl, _, rfl, iF (by decide) ?_⟩
      refine ⟨_, rfl, rfl, _, rfl, iF (by decide) ?_⟩
      refine ⟨_, rfl, rfl, _, rfl, iF (by decide) ?_⟩
      refine ⟨_, rfl, rfl, _, rfl, iF (by decide) ?_⟩
      refine ⟨_, rfl, rfl, _, rfl, iF (by decide) ?_⟩
      refine ⟨_, rfl, rfl, _, rfl, iF (by decide) ?_⟩
      refine ⟨_, rfl, rfl, _, rfl, iT (by decide) ?_⟩
      refine ⟨_, rfl, rfl, _, rfl, ite2 (fun y => ?_) (fun y => ?_)⟩
      · exact ⟨_, .inr ⟨rfl, rfl⟩, fun e dx ne nd off => fin _ rfl e dx ne nd off _ (t0 y)⟩
      · exact ⟨_, rfl, _, .inl rfl, fun e dx ne nd off => fin _ rfl e dx ne nd off _ (t1 y)⟩
    · skip
      refine ⟨_, rfl, rfl, _, rfl, iF (by decide) ?_⟩
      refine ⟨_, rfl, rfl, _, rfl, iF (by decide) ?_⟩
      refine ⟨_, rfl, rfl, _, rfl, iF (by decide) ?_⟩
      refine ⟨_, rfl, rfl, _, rfl, iF (by decide) ?_⟩
      refine ⟨_, rfl, rfl, _, rfl, iF (by decide) ?_⟩
      refine ⟨_, rfl, rfl, _, rfl, iF (by decide) ?_⟩
      refine ⟨_, rfl, rfl, _, rfl, iF (by decide) ?_⟩
      refine ⟨_, rfl, rfl, _, rfl, iT (by decide) ?_⟩
      refine ⟨_, rfl, rfl, _, rfl, ite2 (fun y => ?_) (fun y => ?_)⟩
      · exact ⟨_, .inr ⟨rfl, rfl⟩, fun e dx ne nd off => fin _ rfl e dx ne nd off _ (t0 y)⟩
      · exact ⟨_, rfl, _, .inl rfl, fun e dx ne nd off => fin _ rfl e dx ne nd off _ (t1 y)⟩
    · skip
      refine ⟨_, rfl, rfl, _, rfl, iF (by decide) ?_⟩
      refine ⟨_, rfl, rfl, _, rfl, iF (by decide) ?_⟩
      refine ⟨_, rfl, rfl, _, rfl, iF (by decide) ?_⟩
      refine ⟨_, rfl, rfl, _, rfl, iF (by decide) ?_⟩
      refine ⟨_, rfl, rfl, _, rfl, iF (by decide) ?_⟩
      refine ⟨_, rfl, rfl, _, rfl, iF (by decide) ?_⟩
      refine ⟨_, rfl, rfl, _, rfl, iF (by decide) ?_⟩
      refine ⟨_, rfl, rfl, _, rfl, iF (by decide) ?_⟩
      refine ⟨_, rfl, rfl, _, rfl, ite2 (fun y => ?_) (fun y => ?_)⟩
      · exact ⟨_, .inr ⟨rfl, rfl⟩, fun e dx ne nd off => fin _ rfl e dx ne nd off _ (t0 y)⟩
      · exact ⟨_, rfl, _, .inl rfl, fun e dx ne nd off => fin _ rfl e dx ne nd off _ (t1 y)⟩
    · omega
theorem ok_raised {f : Addr} {fd : FuncData} (F : Fun K "_law_raised" "_law_raised" sRaised f fd) (T : Nine P w K mg cs) : FnOk P w K mg base (L2.CX P w) 2 f fd ["_law_nth"] (spRaised cs) := by
  refine F.okX scRaised (fun vs H Q E h => ?_) (fun cdv A outer s H vs Q E hr h => ?_)
  · obtain ⟨n, rfl, _⟩ := h
    rfl
  · obtain ⟨n, rfl, hn, q⟩ := h
    refine ⟨_, pss_cons (ps_if (pt_cmpR op_eq (pv 0) pe_int (nomark _)) (pss_one (ps_raise rfl (takes_of rfl rfl rfl rfl) (pmk_err (T.ec 0 (by decide)) hr (by rfl) (by exact (pa_cons pe_str pa_nil))))) pss_nil)
      (pss_cons (ps_if (pt_cmpR op_eq (pv 0) pe_int (nomark _)) (pss_one (ps_raise rfl (takes_of rfl rfl rfl rfl) (pmk_err (T.ec 1 (by decide)) hr (by rfl) (by exact (pa_cons pe_str pa_nil))))) pss_nil)
      (pss_cons (ps_if (pt_cmpR op_eq (pv 0) pe_int (nomark _)) (pss_one (ps_raise rfl (takes_of rfl rfl rfl rfl) (pmk_err (T.ec 2 (by decide)) hr (by rfl) (by exact (pa_cons pe_str pa_nil))))) pss_nil)
      (pss_cons (ps_if (pt_cmpR op_eq (pv 0) pe_int (nomark _)) (pss_one (ps_raise rfl (takes_of rfl rfl rfl rfl) (pmk_err (T.ec 3 (by decide)) hr (by rfl) (by exact (pa_cons pe_str pa_nil))))) pss_nil)
      (pss_cons (ps_if (pt_cmpR op_eq (pv 0) pe_int (nomark _)) (pss_one (ps_raise rfl (takes_of rfl rfl rfl rfl) (pmk_err (T.ec 4 (by decide)) hr (by rfl) (by exact (pa_cons pe_str pa_nil))))) pss_nil)
      (pss_cons (ps_if (pt_cmpR op_eq (pv 0) pe_int (nomark _)) (pss_one (ps_raise rfl (takes_of rfl rfl rfl rfl) (pmk_err (T.ec 5 (by decide)) hr (by rfl) (by exact (pa_cons pe_str pa_nil))))) pss_nil)
      (pss_cons (ps_if (pt_cmpR op_eq (pv 0) pe_int (nomark _)) (pss_one (ps_raise rfl (takes_of rfl rfl rfl rfl) (pmk_err (T.ec 6 (by decide)) hr (by rfl) (by exact (pa_cons pe_str pa_nil))))) pss_nil)
      (pss_cons (ps_if (pt_cmpR op_eq (pv 0) pe_int (nomark _)) (pss_one (ps_raise rfl (takes_of rfl rfl rfl rfl) (pmk_err (T.ec 7 (by decide)) hr (by rfl) (by exact (pa_cons pe_str pa_nil))))) pss_nil)
      (pss_one (ps_raise rfl (takes_of rfl rfl rfl rfl) (pmk_err (T.ec 8 (by decide)) hr (by rfl) (by exact (pa_cons pe_str pa_nil)))))))))))), ?_⟩
    rcases n with _ | _ | _ | _ | _ | _ | _ | _ | _ | n
    · skip
      refine ⟨_, rfl, rfl, _, rfl, iT (by decide) ?_⟩
      exact ⟨_, .inl rfl, fun d hd => q d hd⟩
    · skip
      refine ⟨_, rfl, rfl, _, rfl, iF (by decide) ?_⟩
      refine ⟨_, rfl, rfl, _, rfl, iT (by decide) ?_⟩
      exact ⟨_, .inl rfl, fun d hd => q d hd⟩
    · skip
      refine ⟨_, rfl, rfl, _, rfl, iF (by decide) ?_⟩
      refine ⟨_, rfl, rfl, _, rfl, iF (by decide) ?_⟩
      refine ⟨_, rfl, rfl, _, rfl, iT (by decide) ?_⟩
      exact ⟨_, .inl rfl, fun d hd => q d hd⟩
    · skip
      refine ⟨_, rfl, rfl, _, rfl, iF (by decide) ?_⟩
      refine ⟨_, rfl, rfl, _, rfl, iF (by decide) ?_⟩
      refine ⟨_, rfl, rfl, _, rfl, iF (by decide) ?_⟩
      refine ⟨_, rfl, rfl, _, rfl, iT (by decide) ?_⟩
      exact ⟨_, .inl rfl, fun d hd => q d hd⟩
    · skip
      refine ⟨_, rfl, rfl, _, rfl, iF (by decide) ?_⟩
      refine ⟨_, rfl, rfl, _, rfl, iF (by decide) ?_⟩
      refine ⟨_, rfl, rfl, _, rfl, iF (by decide) ?_⟩
      refine ⟨_, rfl, rfl, _, rfl, iF (by decide) ?_⟩
      refine ⟨_, rfl, rfl, _, rfl, iT (by decide) ?_⟩
      exact ⟨_, .inl rfl, fun d hd => q d hd⟩
    · skip
      refine ⟨_, rfl, rfl, _, rfl, iF (by decide) ?_⟩
      refine ⟨_, rfl, rfl, _, rfl, iF (by decide) ?_⟩
      refine ⟨_, rfl, rfl, _, rfl, iF (by decide) ?_⟩
      refine ⟨_, rfl, rfl, _, rfl, iF (by decide) ?_⟩
      refine ⟨_, rfl, rfl, _, rfl, iF (by decide) ?_⟩
      refine ⟨_, rfl, rfl, _, rfl, iT (by decide) ?_⟩
      exact ⟨_, .inl rfl, fun d hd => q d hd⟩
    · skip
      refine ⟨_, rfl, rfl, _, rfl, iF (by decide) ?_⟩
      refine ⟨_, rfl, rfl, _, rfl, iF (by decide) ?_⟩
      refine ⟨_, rfl, rfl, _, rfl, iF (by decide) ?_⟩
      refine ⟨_, rfl, rfl, _, rfl, iF (by decide) ?_⟩
      refine ⟨_, rfl, rfl, _, rfl, iF (by decide) ?_⟩
      refine ⟨_, rfl, rfl, _, rfl, iF (by decide) ?_⟩
      refine ⟨_, rfl, rfl, _, rfl, iT (by decide) ?_⟩
      exact ⟨_, .inl rfl, fun d hd => q d hd⟩
    · skip
      refine ⟨_, rfl, rfl, _, rfl, iF (by decide) ?_⟩
      refine ⟨_, rfl, rfl, _, rfl, iF (by decide) ?_⟩
      refine ⟨_, rfl, rfl, _, rfl, iF (by decide) ?_⟩
      refine ⟨_, rfl, rfl, _, rfl, iF (by decide) ?_⟩
      refine ⟨_, rfl, rfl, _, rfl, iF (by decide) ?_⟩
      refine ⟨_, rfl, rfl, _, rfl, iF (by decide) ?_⟩
      refine ⟨_, rfl, rfl, _, rfl, iF (by decide) ?_⟩
      refine ⟨_, rfl, rfl, _, rfl, iT (by decide) ?_⟩
      exact ⟨_, .inl rfl, fun d hd => q d hd⟩
    · skip
      refine ⟨_, rfl, rfl, _, rfl, iF (by decide) ?_⟩
      refine ⟨_, rfl, rfl, _, rfl, iF (by decide) ?_⟩
      refine ⟨_, rfl, rfl, _, rfl, iF (by decide) ?_⟩
      refine ⟨_, rfl, rfl, _, rfl, iF (by decide) ?_⟩
      refine ⟨_, rfl, rfl, _, rfl, iF (by decide) ?_⟩
      refine ⟨_, rfl, rfl, _, rfl, iF (by decide) ?_⟩
      refine ⟨_, rfl, rfl, _, rfl, iF (by decide) ?_⟩
      refine ⟨_, rfl, rfl, _, rfl, iF (by decide) ?_⟩
      exact ⟨_, .inl rfl, fun d hd => q d hd⟩
    · omega
end
end Err

namespace Err
open PySem PySem.Calls PyProof.Rows PySem.Spec L2 Drw
def caughtBy (n : Nat) : Str := if isa n 2 = true then "database" else "error"
def spCaught : Sp := fun vs H Q _ => ∃ n : Nat, vs = [.int n] ∧ n < 9 ∧ ∀ H', Al H H' → Q (.str (caughtBy n)) H'
def tsDb : Suite := fun _ _ _ => tAsg (tC (.str "database")) (gName 1)
def tsEr : Suite := fun _ _ _ => tAsg (tC (.str "error")) (gName 1)
section
variable {P : Program} {w : World} {K : PySem.W.Frag} {mg : Str → Option Value} {base : Heap} {cs : Nat → Addr}
theorem ok_caught {f fR : Addr} {fd fdR : FuncData} (F : Fun K "_law_caught" "_law_caught" sCaught f fd) (FR : Fun K "_law_raised" "_law_raised" sRaised fR fdR) (bR : Binds K fdR ["_law_nth"] []) (gR : mg "_law_raised" = some (.ref fR)) (T : Nine P w K mg cs) :
    FnOk P w K mg base CX0 4 f fd ["_law_nth"] spCaught := by
  have GR : FnOk P w K mg base (L2.CX P w) 2 fR fdR ["_law_nth"] (spRaised cs) := ok_raised FR T
  refine F.ok scCaught (fun vs H Q E h => ?_) (fun cdv A outer s H vs Q E hr h => ?_)
  · obtain ⟨n, rfl, _⟩ := h
    rfl
  · obtain ⟨n, rfl, hn, q⟩ := h
    have hr1 : Room 2 _ := hr.mono (by decide)
    refine ⟨_, pss_cons (ps_set (i := 1) scCaught.nd rfl (.inl rfl) pe_str)
      (pss_cons (ps_try_twoAs (i := 2) (Wout := fun _ _ _ _ => False) (tb := fun W => tDrop (tCallS (spRaised cs) (WE W) (tCons (tVar 0) tNil))) rfl rfl scCaught.nd rfl rfl takes0
        (fun W pn xe tk _ => pss_one (ps_expr (by exact (pe_callS GR hr1 rfl gR FR.kp bR (fun σ => passAt tk σ) (by exact (pa_cons (pv 0) pa_nil))))))
        (.more (ts := tsDb) (c := .ref (cs 2)) ⟨rfl, by decide, .inl (T.ec 2 (by decide)).g⟩ (fun z oz cls d pn hz hf => pss_one (ps_set (i := 1) scCaught.nd rfl (.inl rfl) pe_str))
          (.more (ts := tsEr) (c := .ref (cs 0)) ⟨rfl, by decide, .inl (T.ec 0 (by decide)).g⟩ (fun z oz cls d pn hz hf => pss_one (ps_set (i := 1) scCaught.nd rfl (.inl rfl) pe_str)) .none)))
      (pss_one (ps_ret (pv 1)))), ?_⟩
    refine ⟨.int n, rfl, n, rfl, hn, fun d hd => ?_⟩
    have k := (Drw.Al.refl (H := H)).new (o := .xd [(fld, .str "x")]) hd
    refine ⟨isa n 2, T.ex2 n hn, fun e z nz => ?_, fun e => ⟨true, T.ex0 n hn, fun _ z nz => ?_, fun y => Bool.noConfusion y⟩⟩
    · refine ⟨_, rfl, ?_⟩
      have w := q _ k
      unfold caughtBy at w
      rw [if_pos e] at w
      exact w
    · refine ⟨_, rfl, ?_⟩
      have w := q _ k
      unfold caughtBy at w
      rw [e, if_neg Bool.false_ne_true] at w
      exact w
end
end Err

namespace Err
open PySem PySem.Calls PyProof.Rows PySem.Spec L2 Drw
abbrev sSame : Stmt := topS 15
theorem scSame : FnScope ["_law_found", "_law_due", "_law_alike", "_law_a", "_law_b"] ["_law_found", "_law_due"] (defScope sSame) := ⟨rfl, rfl, rfl, by decide +kernel, rfl, by decide +kernel, by decide +kernel⟩
inductive Leaf : V → String → Prop
  | non : Leaf .non "NoneType"
  | bl (b : Bool) : Leaf (.bl b) "bool"
  | int (i : Int) : Leaf (.int i) "int"
  | str (s : Str) : Leaf (.str s) "str"
theorem Leaf.ty {K : PySem.W.Frag} {H : Hp} {x : V} {t : String} (l : Leaf x t) : TyX K H x (.type t) := by
  cases l with
  | non => exact .base .non
  | bl b => exact .base (.bl b)
  | int i => exact .base (.int i)
  | str s => exact .base (.str s)
def spLeaf : Sp := fun vs H Q _ => ∃ (x : V) (t : String), vs = [x, x] ∧ Leaf x t ∧ ∀ H', Al H H' → Q (.bl true) H'
def spList : Sp := fun vs H Q _ => ∃ (a b : Addr) (xs : List V), vs = [.ref a, .ref b] ∧ H a = some (.lst xs) ∧ H b = some (.lst xs) ∧ (∀ x ∈ xs, ∃ t, Leaf x t) ∧ xs.length ≤ 1000 ∧ ∀ H', Al H H' → Q (.bl true) H'
def spSame (deep : Bool) : Sp := fun vs H Q E => spLeaf vs H Q E ∨ (deep = true ∧ spList vs H Q E)
def spRec (deep : Bool) : Sp := fun vs H Q E => deep = true ∧ spLeaf vs H Q E
theorem no1 {K : PySem.W.Frag} {t c : Value} {cs : List Value} {r : Bool} (h : PySem.W.kitOne K t c = some false) (hr : PySem.W.kitAny K t cs = some r) : PySem.W.kitAny K t (c :: cs) = some r :=
  kitAny_cons h (fun _ => hr) (fun z => Bool.noConfusion z)
theorem yes1 {K : PySem.W.Frag} {t c : Value} {cs : List Value} (h : PySem.W.kitOne K t c = some true) : PySem.W.kitAny K t (c :: cs) = some true :=
  kitAny_cons h (fun z => Bool.noConfusion z) (fun _ => rfl)
theorem Leaf.k2 {K : PySem.W.Frag} {x : V} {t : String} (l : Leaf x t) : PySem.W.kitAny K (.type t) [.type "list", .type "tuple"] = some false := by
  cases l <;> exact no1 (kit_ty (by decide +kernel)) (no1 (kit_ty (by decide +kernel)) kitAny_nil)
theorem eq_leaf {x : V} {t : String} (l : Leaf x t) : scal x x = true := by cases l <;> rfl
section
variable {P : Program} {w : World} {K : PySem.W.Frag} {mg : Str → Option Value} {base : Heap}
theorem ok_same1 {f : Addr} {fd : FuncData} {k : Nat} {deep : Bool} (F : Fun K "_law_same" "_law_same" sSame f fd) (bS : Binds K fd ["_law_found", "_law_due"] []) (gS : mg "_law_same" = some (.ref f)) (mi : mg "isinstance" = none) (ml : mg "len" = none) (mz : mg "zip" = none) (m_all : mg "all" = none)
    (m_list : mg "list" = none) (m_tuple : mg "tuple" = none) (m_int : mg "int" = none) (m_bool : mg "bool" = none) (G : FnOk P w K mg base CX0 k f fd ["_law_found", "_law_due"] (spRec deep)) : FnOk P w K mg base CX0 (k + 1) f fd ["_law_found", "_law_due"] (spSame deep) := by
  refine F.ok scSame (fun vs H Q E h => ?_) (fun cdv A outer s H vs Q E hr h => ?_)
  · rcases h with ⟨x, t, rfl, _⟩ | ⟨_, a, b, xs, rfl, _⟩ <;> rfl
  · refine ⟨_, pss_cons (ps_if (pt_val (pe_callB call_isiT (by rfl) mi boot_isinstance (pa_cons (pv 1) (pa_cons (pe_tup (pa_cons (pe_bltn (v := .ty "list") (by rfl) m_list (by decide +kernel) rfl) (pa_cons (pe_bltn (v := .ty "tuple") (by rfl) m_tuple (by decide +kernel) rfl) pa_nil))) pa_nil))))
        (pss_cons (ps_if (PW.pt (pw_or (pt_cmpR op_ne (pe_callB call_isi (by rfl) mi boot_isinstance (pa_cons (pv 0) (pa_cons (pe_bltn (v := .ty "list") (by rfl) m_list (by decide +kernel) rfl) pa_nil))) (pe_callB call_isi (by rfl) mi boot_isinstance (pa_cons (pv 1) (pa_cons (pe_bltn (v := .ty "list") (by rfl) m_list (by decide +kernel) rfl) pa_nil))) (nomark _)) (pw_or1 (pt_cmpR op_ne (pe_callB call_isi (by rfl) mi boot_isinstance (pa_cons (pv 0) (pa_cons (pe_bltn (v := .ty "tuple") (by rfl) m_tuple (by decide +kernel) rfl) pa_nil))) (pe_callB call_isi (by rfl) mi boot_isinstance (pa_cons (pv 1) (pa_cons (pe_bltn (v := .ty "tuple") (by rfl) m_tuple (by decide +kernel) rfl) pa_nil))) (nomark _))))) (pss_one (ps_ret pe_bl)) pss_nil)
        (pss_one (ps_ret (pe_and (pe_cmpR op_eq (pe_callB call_len_seq (by rfl) ml PySem.boot_len (pa_cons (pv 0) pa_nil)) (pe_callB call_len_seq (by rfl) ml PySem.boot_len (pa_cons (pv 1) pa_nil)) (nomark _)) (pe_one (pe_callB (cr_all rfl) (by rfl) m_all boot_all (pa_cons (pe_lc (own := [("_law_a", 3), ("_law_b", 4)]) (g := gTup K 2 (gCons (gName 3) (gCons (gName 4) gNil))) (tt := tYes) rfl scSame.nd (pi_zip (by rfl) mz (pa_cons (pv 0) (pa_cons (pv 1) pa_nil))) (blkOk_by (N := ["_law_found", "_law_due", "_law_alike", "_law_a", "_law_b"]) (sc := defScope sSame) (by decide +kernel)) (fun _ _ _ _ _ => pg_tup rfl (pgs_cons (pg_name (i := 3) scSame.nd rfl (Or.inl rfl)) (pgs_cons (pg_name (i := 4) scSame.nd rfl (Or.inl rfl)) pgs_nil))) (fun _ _ _ _ _ => pts_nil) (fun _ _ _ _ _ => pe_call G hr (by rfl) gS F.kp bS .nil pass0 (pa_cons (pv 3) (pa_cons (pv 4) pa_nil)))) pa_nil))))))) pss_nil)
      (pss_cons (ps_if (pt_val (pe_callB call_isi (by rfl) mi boot_isinstance (pa_cons (pv 1) (pa_cons (pe_bltn (v := .ty "int") (by rfl) m_int (by decide +kernel) rfl) pa_nil))))
        (pss_cons (ps_set (i := 2) scSame.nd rfl (.inl rfl) (pe_cmpR op_eq (pe_callB call_isi (by rfl) mi boot_isinstance (pa_cons (pv 0) (pa_cons (pe_bltn (v := .ty "bool") (by rfl) m_bool (by decide +kernel) rfl) pa_nil))) (pe_callB call_isi (by rfl) mi boot_isinstance (pa_cons (pv 1) (pa_cons (pe_bltn (v := .ty "bool") (by rfl) m_bool (by decide +kernel) rfl) pa_nil))) (nomark _)))
        (pss_one (ps_ret (pe_and (pv 2) (pe_and (pe_callB call_isi (by rfl) mi boot_isinstance (pa_cons (pv 0) (pa_cons (pe_bltn (v := .ty "int") (by rfl) m_int (by decide +kernel) rfl) pa_nil))) (pe_one (pe_cmpR op_eq (pv 0) (pv 1) (nomark _)))))))) pss_nil)
      (pss_one (ps_ret (pe_and (pe_cmpR op_isBl (pe_callB call_isiT (by rfl) mi boot_isinstance (pa_cons (pv 0) (pa_cons (pe_tup (pa_cons (pe_bltn (v := .ty "bool") (by rfl) m_bool (by decide +kernel) rfl) (pa_cons (pe_bltn (v := .ty "int") (by rfl) m_int (by decide +kernel) rfl) (pa_cons (pe_bltn (v := .ty "list") (by rfl) m_list (by decide +kernel) rfl) (pa_cons (pe_bltn (v := .ty "tuple") (by rfl) m_tuple (by decide +kernel) rfl) pa_nil))))) pa_nil))) pe_bl (nomark _)) (pe_one (pe_cmpR op_eq (pv 0) (pv 1) (nomark _))))))), ?_⟩
    rcases h with ⟨x, t, rfl, lf, q⟩ | ⟨hd, a, b, xs, rfl, ha, hb, hx, hz, q⟩
    · refine ⟨x, rfl, by show 2 ≤ sizeLine; decide, fun tp ntp => ⟨x, tp, _, .type t, _, false, rfl, upd_same, .cons (.ty _) (.cons (.ty _) .nil), lf.ty, lf.k2, false, rfl, iteF ?_⟩⟩
      have k1 := (Drw.Al.refl (H := H)).new (o := .tup [.ty "list", .ty "tuple"]) ntp
      cases lf with
      | non =>
        refine ⟨_, rfl, _, _, _, .type "int", false, rfl, .ty _, .base .non, kit_ty (by decide +kernel), false, rfl, iteF ?_⟩
        refine ⟨_, rfl, by show 4 ≤ sizeLine; decide, fun t2 n2 => ⟨_, t2, _, _, _, false, rfl, upd_same, .cons (.ty _) (.cons (.ty _) (.cons (.ty _) (.cons (.ty _) .nil))), .base .non,
          no1 (kit_ty (by decide +kernel)) (no1 (kit_ty (by decide +kernel)) (no1 (kit_ty (by decide +kernel)) (no1 (kit_ty (by decide +kernel)) kitAny_nil))), false, false, rfl, rfl, _, rfl, iT (by decide) ⟨_, rfl, _, rfl, rfl, ?_⟩⟩⟩
        exact q _ (k1.new n2)
      | str s =>
        refine ⟨_, rfl, _, _, _, .type "int", false, rfl, .ty _, .base (.str s), kit_ty (by decide +kernel), false, rfl, iteF ?_⟩
        refine ⟨_, rfl, by show 4 ≤ sizeLine; decide, fun t2 n2 => ⟨_, t2, _, _, _, false, rfl, upd_same, .cons (.ty _) (.cons (.ty _) (.cons (.ty _) (.cons (.ty _) .nil))), .base (.str s),
          no1 (kit_ty (by decide +kernel)) (no1 (kit_ty (by decide +kernel)) (no1 (kit_ty (by decide +kernel)) (no1 (kit_ty (by decide +kernel)) kitAny_nil))), false, false, rfl, rfl, _, rfl, iT (by decide) ⟨_, rfl, _, rfl, rfl, ?_⟩⟩⟩
        rw [decide_eq_true rfl]
        exact q _ (k1.new n2)
      | bl c =>
        refine ⟨_, rfl, _, _, _, .type "int", true, rfl, .ty _, .base (.bl c), kit_ty (by decide +kernel), true, rfl, iteT ?_⟩
        refine ⟨_, rfl, _, _, _, .type "bool", true, rfl, .ty _, .base (.bl c), kit_ty (by decide +kernel), _, rfl, _, _, _, .type "bool", true, rfl, .ty _, .base (.bl c), kit_ty (by decide +kernel), rfl, ?_⟩
        refine ⟨_, rfl, _, rfl, iT (by decide) ⟨_, rfl, _, _, _, .type "int", true, rfl, .ty _, .base (.bl c), kit_ty (by decide +kernel), true, rfl, iteT ⟨_, rfl, _, rfl, rfl, ?_⟩⟩⟩
        rw [decide_eq_true rfl]
        exact q _ k1
      | int c =>
        refine ⟨_, rfl, _, _, _, .type "int", true, rfl, .ty _, .base (.int c), kit_ty (by decide +kernel), true, rfl, iteT ?_⟩
        refine ⟨_, rfl, _, _, _, .type "bool", false, rfl, .ty _, .base (.int c), kit_ty (by decide +kernel), _, rfl, _, _, _, .type "bool", false, rfl, .ty _, .base (.int c), kit_ty (by decide +kernel), rfl, ?_⟩
        refine ⟨_, rfl, _, rfl, iT (by decide) ⟨_, rfl, _, _, _, .type "int", true, rfl, .ty _, .base (.int c), kit_ty (by decide +kernel), true, rfl, iteT ⟨_, rfl, _, rfl, rfl, ?_⟩⟩⟩
        rw [decide_eq_true rfl]
        exact q _ k1
    · refine ⟨.ref b, rfl, by show 2 ≤ sizeLine; decide, fun tp ntp => ?_⟩
      have k1 := (Drw.Al.refl (H := H)).new (o := .tup [.ty "list", .ty "tuple"]) ntp
      have ha1 := k1 _ _ ha
      have hb1 := k1 _ _ hb
      refine ⟨.ref b, tp, _, .type "list", _, true, rfl, upd_same, .cons (.ty _) (.cons (.ty _) .nil), .base (.lst hb1), yes1 (kit_ty (by decide +kernel)), true, rfl, iteT ?_⟩
      refine ⟨.ref a, rfl, _, _, .type "list", .type "list", true, rfl, .ty _, .base (.lst ha1), kit_ty (by decide +kernel), .ref b, rfl, _, _, .type "list", .type "list", true, rfl, .ty _, .base (.lst hb1), kit_ty (by decide +kernel), rfl, _, rfl, iF (by decide) ?_⟩
      refine ⟨.ref a, rfl, _, _, .type "list", .type "tuple", false, rfl, .ty _, .base (.lst ha1), kit_ty (by decide +kernel), .ref b, rfl, _, _, .type "list", .type "tuple", false, rfl, .ty _, .base (.lst hb1), kit_ty (by decide +kernel), rfl, _, rfl, iF (by decide) ?_⟩
      refine ⟨.ref a, rfl, a, xs, rfl, .inl (sq ha1), .ref b, rfl, b, xs, rfl, .inl (sq hb1), rfl, _, rfl, iT (decide_eq_true rfl) ?_⟩
      refine ⟨.ref a, rfl, .ref b, rfl, a, b, xs, xs, rfl, sq ha1, sq hb1, fun D nD => ?_⟩
      refine ⟨fun i m H' => i + m = xs.length ∧ Al H H' ∧ H' D = some (.lst ((List.replicate i true).map V.bl)), ⟨xs.length, by omega, k1.new nD, upd_same⟩, fun i m H' hW => ?_⟩
      obtain ⟨em, kW, eD⟩ := hW
      have haW := kW _ _ ha
      have hbW := kW _ _ hb
      by_cases hi : i < xs.length
      · have gi : xs[i]? = some xs[i] := List.getElem?_eq_getElem hi
        refine .inr ⟨⟨xs, xs, xs[i], xs[i], sq haW, sq hbW, gi, gi⟩, fun H'' => Al H H'' ∧ H'' D = some (.lst ((List.replicate (i + 1) true).map V.bl)), fun H'' hN => ⟨m - 1, by omega, by omega, hN⟩, fun v H'' hy => ?_⟩
        obtain ⟨T, x1, x2, rfl, nT, rfl, f1, f2⟩ := hy
        obtain rfl : x1 = xs[i] := Option.some.inj ((f1 _ (sq haW)).symm.trans gi)
        obtain rfl : x2 = xs[i] := Option.some.inj ((f2 _ (sq hbW)).symm.trans gi)
        obtain ⟨t, lf⟩ := hx xs[i] (List.getElem_mem hi)
        have DT : D ≠ T := ne_of_none eD nT
        refine ⟨T, _, rfl, sqt upd_same, rfl, _, _, rfl, _, _, rfl, rfl, rfl, ?_⟩
        refine ⟨_, rfl, _, rfl, hd, xs[i], t, rfl, lf, fun H2 k2 => ?_⟩
        refine ⟨_, k2 _ _ ((upd_ne DT).trans eD), ?_, fun b o z => ?_, ?_⟩
        · rw [List.length_map, List.length_replicate]
          exact Nat.lt_of_le_of_lt (Nat.le_trans (Nat.le_of_lt hi) hz) (by decide)
        · have nb : b ≠ D := fun e => by
            subst e
            have y := kW _ _ z
            have y0 := k1 _ _ z
            rw [nD] at y0
            cases y0
          rw [upd_ne nb]
          exact k2 _ _ ((kW.new nT) _ _ z)
        · rw [upd_same, List.replicate_succ', List.map_append]
          rfl
      · refine .inl ⟨⟨xs, xs, sq haW, sq hbW, .inl (by omega)⟩, ?_⟩
        refine ⟨D, List.replicate i true, rfl, sq eD, ?_⟩
        have e : (List.replicate i true).all id = true := by simp
        rw [e]
        exact q _ kW
theorem ok_same {f : Addr} {fd : FuncData} (F : Fun K "_law_same" "_law_same" sSame f fd) (bS : Binds K fd ["_law_found", "_law_due"] []) (gS : mg "_law_same" = some (.ref f)) (mi : mg "isinstance" = none) (ml : mg "len" = none) (mz : mg "zip" = none) (m_all : mg "all" = none)
    (m_list : mg "list" = none) (m_tuple : mg "tuple" = none) (m_int : mg "int" = none) (m_bool : mg "bool" = none) : FnOk P w K mg base CX0 3 f fd ["_law_found", "_law_due"] spList := by
  have G0 : FnOk P w K mg base CX0 1 f fd ["_law_found", "_law_due"] (spRec false) := ⟨fun vs H Q E h => Bool.noConfusion h.1, fun A outer s H args us vs Q E _ _ _ _ h => Bool.noConfusion h.1⟩
  have G1 : FnOk P w K mg base CX0 2 f fd ["_law_found", "_law_due"] (spRec true) := (ok_same1 F bS gS mi ml mz m_all m_list m_tuple m_int m_bool G0).imp fun vs H Q E h => .inl h.2
  exact (ok_same1 F bS gS mi ml mz m_all m_list m_tuple m_int m_bool G1).imp fun vs H Q E h => .inr ⟨rfl, h⟩
end
end Err

namespace Err
open PySem PySem.Calls PyProof.Rows PySem.Spec L2 Drw
abbrev sLaw : Stmt := topS 20
theorem scLaw : FnScope ["_law_script", "_law_state", "_law_turn", "_law_nth", "_law_way", "_law_name", "_law_e", "_law_due", "_law_place"] ["_law_script"] (defScope sLaw) := ⟨rfl, rfl, rfl, by decide +kernel, rfl, by decide +kernel, by decide +kernel⟩
theorem _root_.Drw.Stt.up {H H' : Hp} {l c : Addr} {ns : List Int} (h : Stt H l c ns) (k : Al H H') : Stt H' l c ns := by
  obtain ⟨⟨a, b, d, e⟩, f, g, i⟩ := h
  exact ⟨⟨a, b, d, k _ _ e⟩, k _ _ f, g, i⟩
def spLaw (K : PySem.W.Frag) : Sp := fun vs H Q _ => ∃ (a : Addr) (ns : List Int), vs = [.ref a] ∧ SqL K H a (ns.map V.int) ∧ ns.length ≤ 63 ∧ ∀ H', Q (.bl true) H'
section
variable {X : Cx} {cs : Nat → Addr}
theorem call_isN (T : Nine X.prog X.w X.K X.mg cs) : CallR X (.builtin "isinstance") (fun xs H Q => ∃ n, n < 9 ∧ rIsVT X.K (cs n) xs H Q) := by
  intro pins s σ H xs us Q I r h
  obtain ⟨n, hn, h⟩ := h
  exact call_isVT (T.ec n hn) pins s σ H xs us Q I r h
def tFldN (cs : Nat → Addr) (te : TE) : TE := fun σ H Q => te σ H fun x H1 => ∃ n, n < 9 ∧ ∃ (a dx : Addr) (v : V), x = .ref a ∧ ErrAt H1 a (cs n) dx v ∧ Q v H1
theorem pe_fldN {e : Expr} {te : TE} {pos : Pos} (T : Nine X.prog X.w X.K X.mg cs) (he : PE X e te) (hb : attributeBase e fld X.env (eval e X.env) = eval e X.env := by rfl) : PE X (.Attribute e fld pos) (tFldN cs te) := by
  refine ⟨fun pins s σ H Q I h => ?_⟩
  refine attr_of hb (thn (he.run pins s σ H _ I h) fun u s1 ⟨x, H1, I1, rx, n, hn, a, dx, v, ex, hE, q⟩ => ?_)
  have T1 := T.ec n hn
  subst ex
  obtain rfl : u = Value.ref a := rx
  obtain ⟨t1, od, u, ru, J, hl⟩ := inst I1 hE
  exact PySem.PX.exc_get I1.kIn J T1.ga T1.gg T1.ex (PySem.W.findObj_own T1.cl.hd T1.no rfl hl) (handed_of ru) ⟨v, H1, I1.tok _, ru, q⟩
end
def names6 : List V := [.str "SQLITE_ERROR", .str "", .str "x", .non, .int 7, .str "SQLITE_BUSY"]
theorem leaf6 {d : Nat} {x : V} (h : names6[d]? = some x) : ∃ t, Leaf x t := by
  have m := List.mem_of_getElem? h
  have all : ∀ y ∈ names6, ∃ t, Leaf y t := fun y hy => by
    have e : y = .str "SQLITE_ERROR" ∨ y = .str "" ∨ y = .str "x" ∨ y = .non ∨ y = .int 7 ∨ y = .str "SQLITE_BUSY" := by simpa [names6] using hy
    rcases e with rfl | rfl | rfl | rfl | rfl | rfl
    · exact ⟨_, .str _⟩
    · exact ⟨_, .str _⟩
    · exact ⟨_, .str _⟩
    · exact ⟨_, .non⟩
    · exact ⟨_, .int _⟩
    · exact ⟨_, .str _⟩
  exact all x m
theorem told_leaf {way : Int} {x : V} (h : ∃ t, Leaf x t) : ∃ t, Leaf (told way x) t := by
  unfold told
  split
  · exact ⟨_, .non⟩
  · exact h
def dues (n j : Nat) : List V := (List.range j).map fun i => V.bl (isa n i)
theorem dues9 (n : Nat) : dues n 9 = (nineB n).map V.bl := rfl
section
variable {P : Program} {w : World} {K : PySem.W.Frag} {mg : Str → Option Value} {base : Heap} {cs : Nat → Addr}
theorem ok_law {f fF fT fO fM fS fK fC : Addr} {fd dF dT dO dM dS dK dC : FuncData} (F : Fun K "law" "law" sLaw f fd) (FF : Fun K "_law_fresh" "_law_fresh" sFresh fF dF) (FT : Fun K "_law_take" "_law_take" sTake fT dT) (FO : Fun K "_law_one" "_law_one" sOne fO dO)
    (FM : Fun K "_law_made" "_law_made" sMade fM dM) (FS : Fun K "_law_same" "_law_same" sSame fS dS) (FK : Fun K "_law_kinds" "_law_kinds" sKinds fK dK) (FC : Fun K "_law_caught" "_law_caught" sCaught fC dC)
    (bF : Binds K dF ["_law_script"] []) (bT : Binds K dT ["_law_state", "_law_many"] []) (bO : Binds K dO ["_law_state", "_law_things"] []) (bM : Binds K dM ["_law_nth", "_law_name", "_law_way"] []) (bS : Binds K dS ["_law_found", "_law_due"] []) (bK : Binds K dK ["_law_e"] []) (bC : Binds K dC ["_law_nth"] [])
    (gF : mg "_law_fresh" = some (.ref fF)) (gT : mg "_law_take" = some (.ref fT)) (gO : mg "_law_one" = some (.ref fO)) (gM : mg "_law_made" = some (.ref fM)) (gS : mg "_law_same" = some (.ref fS)) (gK : mg "_law_kinds" = some (.ref fK)) (gC : mg "_law_caught" = some (.ref fC))
    (GF : FnOk P w K mg base CX0 1 fF dF ["_law_script"] (spFresh K)) (GT : FnOk P w K mg base CX0 2 fT dT ["_law_state", "_law_many"] spTake) (GO : FnOk P w K mg base CX0 3 fO dO ["_law_state", "_law_things"] spOne) (GM : FnOk P w K mg base CX0 2 fM dM ["_law_nth", "_law_name", "_law_way"] (spMade cs))
    (GS : FnOk P w K mg base CX0 3 fS dS ["_law_found", "_law_due"] spList) (GK : FnOk P w K mg base CX0 1 fK dK ["_law_e"] (spKinds cs)) (GC : FnOk P w K mg base CX0 4 fC dC ["_law_nth"] spCaught) (T : Nine P w K mg cs)
    (mi : mg "isinstance" = none) (mr : mg "range" = none) (mValueError : mg "ValueError" = none) (mKeyError : mg "KeyError" = none) (mLookupError : mg "LookupError" = none) (mArithmeticError : mg "ArithmeticError" = none) : FnOk P w K mg base CX0 5 f fd ["_law_script"] (spLaw K) := by
  refine F.ok scLaw (fun vs H Q E h => ?_) (fun cdv A outer s H vs Q E hr h => ?_)
  · obtain ⟨a, ns, rfl, _⟩ := h
    rfl
  · obtain ⟨a, ns, rfl, hS, hlen, q⟩ := h
    refine ⟨_, pss_cons (ps_set (i := 1) scLaw.nd rfl (.inl rfl) (pe_call GF (hr.mono (by decide)) (by rfl) gF FF.kp bF .nil pass0 (pa_cons (pv 0) pa_nil)))
      (pss_cons (ps_for PassesOwn.never rfl (pi_range1 (by rfl) mr (pa_cons pe_int pa_nil)) (pg_name (i := 2) scLaw.nd rfl (Or.inl rfl))
        (pss_cons (ps_asg (pe_tup (pa_cons (pe_call GT (hr.mono (by decide)) (by rfl) gT FT.kp bT .nil pass0 (pa_cons (pv 1) (pa_cons pe_int pa_nil))) (pa_cons (pe_call GT (hr.mono (by decide)) (by rfl) gT FT.kp bT .nil pass0 (pa_cons (pv 1) (pa_cons pe_int pa_nil))) pa_nil))) (pg_tup rfl (pgs_cons (pg_name (i := 3) scLaw.nd rfl (Or.inr rfl)) (pgs_cons (pg_name (i := 4) scLaw.nd rfl (Or.inl rfl)) pgs_nil))))
        (pss_cons (ps_set (i := 5) scLaw.nd rfl (.inl rfl) (pe_call GO (hr.mono (by decide)) (by rfl) gO FO.kp bO .nil pass0 (pa_cons (pv 1) (pa_cons (pe_tup (pa_cons pe_str (pa_cons pe_str (pa_cons pe_str (pa_cons pe_non (pa_cons pe_int (pa_cons pe_str pa_nil))))))) pa_nil))))
        (pss_cons (ps_set (i := 6) scLaw.nd rfl (.inl rfl) (pe_call GM (hr.mono (by decide)) (by rfl) gM FM.kp bM .nil pass0 (pa_cons (pv 3) (pa_cons (pv 5) (pa_cons (pv 4) pa_nil)))))
        (pss_cons (ps_setLc (i := 7) (own := [("_law_place", 8)]) (g := gName 8) (tt := tYes) rfl scLaw.nd rfl rfl (sw_true rfl rfl rfl (by decide +kernel)) (pi_range1 (by rfl) mr (pa_cons pe_int pa_nil)) (blkOk_by (N := ["_law_script", "_law_state", "_law_turn", "_law_nth", "_law_way", "_law_name", "_law_e", "_law_due", "_law_place"]) (sc := defScope sLaw) (by decide +kernel)) (fun _ _ _ _ _ => pg_name (i := 8) scLaw.nd rfl (Or.inl rfl)) (fun _ _ _ _ _ => pts_nil)
          (fun _ _ _ _ _ => pe_or (pe_cmpR op_eq (pv 8) (pv 3) (nomark _)) (pe_or (pe_cmpR op_eq (pv 8) pe_int (nomark _)) (pe_one (pe_and (pe_cmpR op_eq (pv 8) pe_int (nomark _)) (pe_one (pe_cmpR op_gt (pv 3) pe_int (nomark _))))))))
        (pss_cons (ps_if (PW.pt (pw_or (pt_not (pt_val (pe_call GS (hr.mono (by decide)) (by rfl) gS FS.kp bS .nil pass0 (pa_cons (pe_call GK (hr.mono (by decide)) (by rfl) gK FK.kp bK .nil pass0 (pa_cons (pv 6) pa_nil)) (pa_cons (pv 7) pa_nil))))) (pw_or1 (pt_val (pe_callB (call_isN T) (by rfl) mi boot_isinstance (pa_cons (pv 6) (pa_cons (pe_tup (pa_cons (pe_bltn (v := .ty "ValueError") (by rfl) mValueError (by decide +kernel) rfl) (pa_cons (pe_bltn (v := .ty "KeyError") (by rfl) mKeyError (by decide +kernel) rfl) (pa_cons (pe_bltn (v := .ty "LookupError") (by rfl) mLookupError (by decide +kernel) rfl) (pa_cons (pe_bltn (v := .ty "ArithmeticError") (by rfl) mArithmeticError (by decide +kernel) rfl) pa_nil))))) pa_nil))))))) (pss_one (ps_ret pe_bl)) pss_nil)
        (pss_cons (ps_if (pt_not (pt_val (pe_call GS (hr.mono (by decide)) (by rfl) gS FS.kp bS .nil pass0 (pa_cons (pe_lst (pa_cons (pe_fldN T (pv 6)) pa_nil)) (pa_cons (pe_lst (pa_cons (pe_ifExp (pt_cmpR op_eq (pv 4) pe_int (nomark _)) pe_non (pv 5)) pa_nil)) pa_nil))))) (pss_one (ps_ret pe_bl)) pss_nil)
        (pss_one (ps_if (pt_cmpR op_ne (pe_call GC (hr.mono (by decide)) (by rfl) gC FC.kp bC .nil pass0 (pa_cons (pv 3) pa_nil)) (pe_ifExp (pt_cmpR op_gt (pv 3) pe_int (nomark _)) pe_str pe_str) (nomark _)) (pss_one (ps_ret pe_bl)) pss_nil)))))))))
      (pss_one (ps_ret pe_bl))), ?_⟩
    refine ⟨.ref a, rfl, a, ns, rfl, hS, hlen, fun H1 l c ns1 k1 st1 nl => ?_⟩
    refine ⟨12, rfl, by decide, by decide, for_range (n := 12) (fun i σ H' => ∃ y2 y3 y4 y5 y6 y7 y8, σ = [some (.ref a), some (.ref l), y2, y3, y4, y5, y6, y7, y8] ∧ Stt H' l c ns1) ⟨none, none, none, none, none, none, none, rfl, st1⟩ (fun i σ H2 hi hP => ?_) (fun σ H2 hP => q _)⟩
    obtain ⟨y2, y3, y4, y5, y6, y7, y8, rfl, st2⟩ := hP
    -- the two draws
    refine ⟨.ref l, rfl, l, c, ns1, 9, rfl, by decide, by decide, st2, fun Ha d1 ka sta p0 p1 => ?_⟩
    refine ⟨.ref l, rfl, l, c, ns1, 2, rfl, by decide, by decide, sta, fun Hb d2 kb stb r0 r1 => ?_⟩
    refine ⟨by show 2 ≤ sizeLine; decide, fun t nt => ⟨t, _, rfl, sqt upd_same, rfl, _, _, rfl, _, _, rfl, rfl, ?_⟩⟩
    obtain ⟨n, rfl⟩ := Int.eq_ofNat_of_zero_le p0
    have hn : n < 9 := by omega
    have st3 := stb.up ((Drw.Al.refl (H := Hb)).new (o := .tup [.int n, .int d2]) nt)
    -- the name
    refine ⟨.ref l, rfl, by show 6 ≤ sizeLine; decide, fun t2 n2 => ?_⟩
    have st4 := st3.up ((Drw.Al.refl).new (o := .tup names6) n2)
    refine ⟨l, c, ns1, t2, names6, rfl, upd_same, by decide, by decide, st4, fun Hc d x kc stc hx => ?_⟩
    have lx := leaf6 hx
    have lt : ∃ t, Leaf (told d2 x) t := told_leaf lx
    -- the error
    refine ⟨_, rfl, _, rfl, _, rfl, n, x, d2, rfl, hn, fun e dx Hd kd Ed ne => ?_⟩
    -- what is due
    refine ⟨9, rfl, by decide, by decide, fun D nD => lc_range (n := 9) (fun j H' => Al Hd H' ∧ H' D = some (.lst (dues n j))) ⟨(Drw.Al.refl (H := Hd)).new nD, upd_same⟩ (fun j H' hj hP => ?_) (fun H' hP => ?_)⟩
    · obtain ⟨kj, eD⟩ := hP
      have fin : ∀ b, b = isa n j → ∃ acc, H' D = some (.lst acc) ∧ acc.length < sizeLine ∧ Al Hd (upd H' D (.lst (acc ++ [V.bl b]))) ∧ (upd H' D (.lst (acc ++ [V.bl b]))) D = some (.lst (dues n (j + 1))) := fun b hb => by
        subst hb
        refine ⟨_, eD, ?_, fun y o z => ?_, ?_⟩
        · have z : (dues n j).length = j := by simp [dues]
          rw [z]
          exact small1000 (by omega)
        · have yD : y ≠ D := ne_of_none z nD
          rw [upd_ne yD]
          exact kj _ _ z
        · rw [upd_same]
          unfold dues
          rw [List.range_succ, List.map_append]
          rfl
      refine ⟨rfl, ?_⟩
      refine ⟨_, rfl, _, rfl, rfl, _, rfl, ite2 (fun h1 => ?_) (fun h1 => ?_)⟩
      · have e1 : (0 + (j : Int)) = (n : Int) := V.int.inj (of_decide_eq_true h1)
        refine fin true ?_
        have e2 : j = n := by omega
        subst e2
        simp [isa]
      · have e1 : j ≠ n := fun z => h1 (decide_eq_true (by subst z; rw [Int.zero_add]))
        refine ⟨_, rfl, rfl, _, rfl, ite2 (fun h2 => ?_) (fun h2 => ?_)⟩
        · have e2 : (0 + (j : Int)) = 0 := V.int.inj (of_decide_eq_true h2)
          refine fin true ?_
          have e3 : j = 0 := by omega
          subst e3
          simp [isa]
        · have e2 : j ≠ 0 := fun z => h2 (decide_eq_true (by subst z; rfl))
          refine ⟨_, rfl, rfl, _, rfl, ite2 (fun h3 => ?_) (fun h3 => ?_)⟩
          · have e3 : (0 + (j : Int)) = 2 := V.int.inj (of_decide_eq_true h3)
            have e4 : j = 2 := by omega
            subst e4
            refine ⟨.int n, rfl, _, _, rfl, rfl, fin _ ?_⟩
            have e5 : (2 == n) = false := by simpa using e1
            simp [isa, e5]
            omega
          · have e3 : j ≠ 2 := fun z => h3 (decide_eq_true (by subst z; rfl))
            refine fin false ?_
            have a1 : (j == n) = false := by simpa using e1
            have a2 : (j == 0) = false := by simpa using e2
            have a3 : (j == 2) = false := by simpa using e3
            simp [isa, a1, a2, a3]
    · obtain ⟨k5, eD⟩ := hP
      have E5 := Ed.up k5
      have st5 := (stc.up kd).up k5
      -- its kinds
      refine ⟨.ref e, rfl, e, dx, _, n, rfl, hn, E5, fun Hf kl kf ef nk => ⟨.ref D, rfl, kl, D, (nineB n).map V.bl, rfl, ef, kf _ _ eD, fun v hv => ?_, by show 9 ≤ 1000; decide, fun Hg kg => ⟨true, rfl, iF rfl ?_⟩⟩⟩
      · obtain ⟨b, _, rfl⟩ := List.mem_map.mp hv
        exact ⟨_, .bl b⟩
      have E6 := (E5.up kf).up kg
      have st6 := (st5.up kf).up kg
      refine ⟨.ref e, rfl, by show 4 ≤ sizeLine; decide, fun t3 n3 => ?_⟩
      have k7 := (Drw.Al.refl (H := Hg)).new (o := .tup [.ty "ValueError", .ty "KeyError", .ty "LookupError", .ty "ArithmeticError"]) n3
      have E7 := E6.up k7
      have st7 := st6.up k7
      refine ⟨n, hn, e, dx, t3, _, _, _, false, rfl, E7, upd_same, .cons (.ty _) (.cons (.ty _) (.cons (.ty _) (.cons (.ty _) .nil))), T.kit4 n hn, false, rfl, iteF ?_⟩
      -- its name
      refine ⟨.ref e, rfl, n, hn, e, dx, _, rfl, E7, by show 1 ≤ sizeLine; decide, fun q1 m1 => ⟨.int d2, rfl, rfl, _, rfl, ite2 (fun y => ?u1) (fun y => ?u2)⟩⟩
      case' u1 =>
        have ht : told d2 x = .non := by
          have z : d2 = 0 := V.int.inj (of_decide_eq_true y)
          unfold told
          rw [if_pos z]
        have k8 := (Drw.Al.refl).new (o := .lst [told d2 x]) m1
        refine ⟨by show 1 ≤ sizeLine; decide, fun q2 m2 => ⟨q1, q2, [told d2 x], rfl, (upd_ne (fun z => by
          rw [← z, upd_same] at m2
          cases m2)).trans upd_same, upd_same.trans (by rw [ht]), fun v hv => ?u3, by show 1 ≤ 1000; decide, fun Hh kh => ⟨true, rfl, iF rfl ?u4⟩⟩⟩
        case u3 =>
          obtain rfl : v = told d2 x := by simpa using hv
          exact lt
        have st8 := (st7.up (k8.new m2)).up kh
      case' u2 =>
        have ht : told d2 x = x := by
          have z : ¬ d2 = 0 := fun e => y (decide_eq_true (by rw [e]))
          unfold told
          rw [if_neg z]
        have k8 := (Drw.Al.refl).new (o := .lst [told d2 x]) m1
        refine ⟨x, rfl, by show 1 ≤ sizeLine; decide, fun q2 m2 => ⟨q1, q2, [told d2 x], rfl, (upd_ne (fun z => by
          rw [← z, upd_same] at m2
          cases m2)).trans upd_same, upd_same.trans (by rw [ht]), fun v hv => ?u5, by show 1 ≤ 1000; decide, fun Hh kh => ⟨true, rfl, iF rfl ?u6⟩⟩⟩
        case u5 =>
          obtain rfl : v = told d2 x := by simpa using hv
          exact lt
        have st8 := (st7.up (k8.new m2)).up kh
      -- what catches it
      all_goals
        refine ⟨.int n, rfl, n, rfl, hn, fun Hz kz => ?_⟩
        have st9 := st8.up kz
        refine ⟨.int n, rfl, _, _, rfl, rfl, _, rfl, ?_⟩
        by_cases h1 : 1 < n
        · have z : caughtBy n = "database" := by
            have e0 : isa n 2 = true := by
              have z2 : n = 2 ∨ 2 < n := by omega
              rcases z2 with rfl | z2
              · rfl
              · simp [isa, z2]
            unfold caughtBy
            rw [if_pos e0]
          refine iT (decide_eq_true (by omega)) ⟨rfl, _, rfl, iF (by rw [z]; rfl) ?_⟩
          exact ⟨_, _, _, _, _, _, _, rfl, st9⟩
        · have z : caughtBy n = "error" := by
            have z2 : n = 0 ∨ n = 1 := by omega
            rcases z2 with rfl | rfl <;> rfl
          refine iF (decide_eq_false (by omega)) ⟨rfl, _, rfl, iF (by rw [z]; rfl) ?_⟩
          exact ⟨_, _, _, _, _, _, _, rfl, st9⟩
end
end Err

namespace Err
open PySem PySem.W PySem.Calls PyProof.Rows PySem.Spec L2 Drw
def B2 (K : Frag) (fd : FuncData) : Prop := ∀ (s : Shared) (x : Addr) (v : Value), K.In s.heap → BindsTo s fd ⟨[.ref x, v], []⟩ [(me, .ref x), (fld, v)]
def B1 (K : Frag) (fd : FuncData) : Prop := ∀ (s : Shared) (x : Addr), K.In s.heap → BindsTo s fd ⟨[.ref x], []⟩ [(me, .ref x), (fld, .none)]
/-- the init at f (its class at D) hands on to the next one -/
def Hands (prog : Program) (w : World) (K : Frag) (f D : Addr) (fd : FuncData) : Prop := ∀ (C f2 : Addr) (fd2 : FuncData) (n : Nat), mroIn K C (.ref D) = some true → ks_superIn K C D "__init__" = some (some (.ref f2)) → fnIn K f2 = true → typeIn K (.ref f2) = some (.type "function") →
  B2 K fd2 → InitOk prog w K C f2 fd2 n → InitOk prog w K C f fd (n + 1)
theorem hands_mk {prog : Program} {w : World} {K : Frag} {f : Addr} {qual : Str} {kV doc pm ct oc ccl cl tc : Value} {od an cdd cld td : Option Addr} {osl ccs csl tsl : Array (Option Value)} {p1 p2 pd q1 q2 q3 q4 q5 q6 : Pos} {cda cc D T : Addr} {vs : Array Value} {file : Str} {tf : Tok} {tn : Nat}
    (ho : K.lookup f = some ⟨oc, od, .func (ksFn "__init__" qual (iA p1 p2 pd) (jB q1 q2 q3 q4 q5 q6) jS (.ref T) kV doc pm an (.ref cda) ct cc), osl⟩) (hT : K.lookup T = some ⟨tc, td, .seq #[.none] tn, tsl⟩) (hcd : codeIn K (.ref cda) qual = true)
    (hcode : K.lookup cda = some ⟨ccl, cdd, .fields vs, ccs⟩) (hvs : vs[2]? = some (.str file tf)) (hfile : ((prog.main.file : Str) == file) = true) (htop : (prog.main.scope.names.lookup ("super" : Str)).isSome = false)
    (hcell : K.lookup cc = some ⟨cl, cld, .cell (some (.ref D)), csl⟩) (hD : (clsIn K D).isSome = true) (hop : nsIn K cStatics "thirdparty.any" = some none)
    {pl : Sem Bool} (hE : ∀ env : Env, eval (.Call (.Attribute (.Call (.Name "super" q1) [] [] q2) "__init__" q3) [.Name fld q4] [] q5) env = (do
      let ov ← attributeBase (.Call (.Name "super" q1) [] [] q2) "__init__" env (eval (.Call (.Name "super" q1) [] [] q2) env)
      standAt q3.atName
      let (g, first) ← holding [ov] (getMethod ov "__init__" pl)
      callWith q5 g first (backTo q5 (starEach [.Name fld q4] env)) [])) :
    ∃ fd, Hands prog w K f D fd ∧ B2 K fd ∧ B1 K fd := by
  refine ⟨ksFn "__init__" qual (iA p1 p2 pd) (jB q1 q2 q3 q4 q5 q6) jS (.ref T) kV doc pm an (.ref cda) ct cc, fun C f2 fd2 n hs hm h2 t2 b2 G => ?_, fun s x v X => BindsTo.of_looks fun M => ?_, fun s x X => BindsTo.of_looks fun M => ?_⟩
  · obtain ⟨cdD, hD⟩ := Option.isSome_iff_exists.mp hD
    exact init_next ho hcd hcode hvs hfile htop hcell hD hs hop hm h2 t2 hE b2 G
  · exact looks_items (its := #[.none]) X hT rfl (.of_pure rfl)
  · exact looks_items (its := #[.none]) X hT rfl (.of_pure rfl)
theorem first_mk {prog : Program} {w : World} {K : Frag} {f : Addr} {qual : Str} {kV doc pm cdv ct oc tc : Value} {od an td : Option Addr} {osl tsl : Array (Option Value)} {p1 p2 pd q1 q2 q3 q4 : Pos} {T : Addr} {tn : Nat}
    (ho : K.lookup f = some ⟨oc, od, .func (fnOf "__init__" qual (iA p1 p2 pd) (iB q1 q2 q3 q4) iS (.ref T) kV doc pm an cdv ct), osl⟩) (hT : K.lookup T = some ⟨tc, td, .seq #[.none] tn, tsl⟩) (hcd : codeIn K cdv qual = true) :
    ∃ fd, (∀ C, Cl K C → InitOk prog w K C f fd 1) ∧ B2 K fd ∧ B1 K fd := by
  refine ⟨fnOf "__init__" qual (iA p1 p2 pd) (iB q1 q2 q3 q4) iS (.ref T) kV doc pm an cdv ct, fun C T => init_first T ho hcd, fun s x v X => BindsTo.of_looks fun M => ?_, fun s x X => BindsTo.of_looks fun M => ?_⟩
  · exact looks_items (its := #[.none]) X hT rfl (.of_pure rfl)
  · exact looks_items (its := #[.none]) X hT rfl (.of_pure rfl)
/-- one look at a class -/
def okC (K : Frag) (C : Addr) : Bool :=
  excInitIn K C exB "Exception.__new__" && (excOver K C exB && (decide (takerIn K C fld = some none) && (hasDictIn K C && (decide (findIn K (.ref C) "__setattr__" = some (some (.builtin "object.__setattr__"))) && (keepIn K (.ref C) && ((clsIn K C).isSome &&
  (decide (findIn K (.ref C) "__getattribute__" = some (some (.builtin "BaseException.__getattribute__"))) && (decide (findIn K (.ref C) "__getattr__" = some none) && (decide (subIn K (.ref C) (.type "BaseException") = some true) && (decide (typeIn K (.ref C) = some (.type "type")) &&
  (decide (findIn K (.ref C) "__class__" = some (some (.builtin "object.__class__"))) && (decide (specialIn K (.builtin "object.__class__") "__get__" = some (some (.builtin "getset_descriptor.__get__"))) && (decide (takesIn K (.builtin "object.__class__") = some true) &&
  (decide (mroIn K C (.type "object") = some true) && (decide (findIn K (.ref C) fld = some none) && decide (kitAny K (.ref C) [.type "ValueError", .type "KeyError", .type "LookupError", .type "ArithmeticError"] = some false))))))))))))))))
structure CF (K : Frag) (C : Addr) : Prop where
  cl : Cl K C
  kC : keepIn K (.ref C) = true
  iso : (clsIn K C).isSome = true
  ga : findIn K (.ref C) "__getattribute__" = some (some (.builtin "BaseException.__getattribute__"))
  gg : findIn K (.ref C) "__getattr__" = some none
  ex : subIn K (.ref C) (.type "BaseException") = some true
  ty : typeIn K (.ref C) = some (.type "type")
  ha : findIn K (.ref C) "__class__" = some (some (.builtin "object.__class__"))
  hn : specialIn K (.builtin "object.__class__") "__get__" = some (some (.builtin "getset_descriptor.__get__"))
  ht : takesIn K (.builtin "object.__class__") = some true
  hm : mroIn K C (.type "object") = some true
  no : findIn K (.ref C) fld = some none
  k4 : kitAny K (.ref C) [.type "ValueError", .type "KeyError", .type "LookupError", .type "ArithmeticError"] = some false
theorem okC_ok {K : Frag} {C : Addr} (h : okC K C = true) : CF K C := by
  unfold okC at h
  simp only [Bool.and_eq_true, decide_eq_true_eq] at h
  obtain ⟨a1, a2, a3, a4, a5, a6, a7, a8, a9, a10, a11, a12, a13, a14, a15, a16, a17⟩ := h
  exact ⟨⟨a1, a2, a3, a4, a5⟩, a6, a7, a8, a9, a10, a11, a12, a13, a14, a15, a16, a17⟩
theorem ec_mk {prog : Program} {w : World} {K : Frag} {mg : Str → Option Value} {nm : Str} {C fI : Addr} {fd : FuncData} (c : CF K C) (g : mg nm = some (.ref C)) (su : mg "super" = none) (hi : findIn K (.ref C) "__init__" = some (some (.ref fI))) (tI : typeIn K (.ref fI) = some (.type "function"))
    (G : InitOk prog w K C fI fd 4) (b2 : B2 K fd) (b1 : B1 K fd) : EC prog w K mg nm C :=
  { g := g, kC := c.kC, cl := c.cl, ini := ⟨fI, fd, hi, tI, G, b2, b1⟩, iso := c.iso, ga := c.ga, gg := c.gg, ex := c.ex, ty := c.ty, ha := c.ha, hn := c.hn, ht := c.ht, hm := c.hm, no := c.no, su := su }
end Err

namespace Err
open PySem PySem.W PySem.Calls PyProof.Rows PySem.Spec L2 Drw
def pick (c0 c1 c2 c3 c4 c5 c6 c7 c8 : Addr) : Nat → Addr
  | 0 => c0
  | 1 => c1
  | 2 => c2
  | 3 => c3
  | 4 => c4
  | 5 => c5
  | 6 => c6
  | 7 => c7
  | _ => c8
def par (n : Nat) : Nat := if n < 3 then 0 else 2
/-- all that is looked up of the classes -/
def look (K : Frag) (c f : Nat → Addr) : Bool := (List.range 9).all fun n =>
  okC K (c n) && (decide (findIn K (.ref (c n)) "__init__" = some (some (.ref (f n)))) && (decide (typeIn K (.ref (f n)) = some (.type "function")) && (fnIn K (f n) && (((List.range 9).all fun j => decide (kitOne K (.ref (c n)) (.ref (c j)) = some (isa n j))) &&
  (decide (subIn K (.ref (c n)) (.ref (c 2)) = some (isa n 2)) && (decide (subIn K (.ref (c n)) (.ref (c 0)) = some true) && ((n == 0 || (decide (mroIn K (c n) (.ref (c n)) = some true) && decide (ks_superIn K (c n) (c n) "__init__" = some (some (.ref (f (par n))))))) &&
  (decide (n < 3) || (decide (mroIn K (c n) (.ref (c 2)) = some true) && decide (ks_superIn K (c n) (c 2) "__init__" = some (some (.ref (f 0)))))))))))))
structure LF (K : Frag) (c f : Nat → Addr) (n : Nat) : Prop where
  ok : CF K (c n)
  hi : findIn K (.ref (c n)) "__init__" = some (some (.ref (f n)))
  ti : typeIn K (.ref (f n)) = some (.type "function")
  fi : fnIn K (f n) = true
  kit : ∀ j, j < 9 → kitOne K (.ref (c n)) (.ref (c j)) = some (isa n j)
  s2 : subIn K (.ref (c n)) (.ref (c 2)) = some (isa n 2)
  s0 : subIn K (.ref (c n)) (.ref (c 0)) = some true
  own : n ≠ 0 → mroIn K (c n) (.ref (c n)) = some true ∧ ks_superIn K (c n) (c n) "__init__" = some (some (.ref (f (par n))))
  two : 3 ≤ n → mroIn K (c n) (.ref (c 2)) = some true ∧ ks_superIn K (c n) (c 2) "__init__" = some (some (.ref (f 0)))
theorem look_ok {K : Frag} {c f : Nat → Addr} (h : look K c f = true) (n : Nat) (hn : n < 9) : LF K c f n := by
  unfold look at h
  have h1 := List.all_eq_true.mp h n (List.mem_range.mpr hn)
  simp only [Bool.and_eq_true, Bool.or_eq_true, decide_eq_true_eq, List.all_eq_true, List.mem_range, beq_iff_eq] at h1
  obtain ⟨a1, a2, a3, a4, a5, a6, a7, a8, a9⟩ := h1
  refine ⟨okC_ok a1, a2, a3, a4, a5, a6, a7, fun h0 => ?_, fun h3 => ?_⟩
  · rcases a8 with z | z
    · exact absurd z h0
    · exact z
  · rcases a9 with z | z
    · omega
    · exact z
section
variable {P : Program} {w : World} {K : Frag} {mg : Str → Option Value} {c f : Nat → Addr}
theorem nine_mk (L : look K c f = true) (g : ∀ n, n < 9 → mg (nms n) = some (.ref (c n))) (su : mg "super" = none) (E0 : ∃ fd, (∀ C, Cl K C → InitOk P w K C (f 0) fd 1) ∧ B2 K fd ∧ B1 K fd)
    (En : ∀ n, n < 9 → n ≠ 0 → ∃ fd, Hands P w K (f n) (c n) fd ∧ B2 K fd ∧ B1 K fd) : Nine P w K mg c := by
  have l := look_ok L
  have l0 := l 0 (by decide)
  have l2 := l 2 (by decide)
  obtain ⟨d0, i0, b20, b10⟩ := E0
  obtain ⟨d2, h2, b22, b12⟩ := En 2 (by decide) (by decide)
  have ec : ∀ n, n < 9 → EC P w K mg (nms n) (c n) := fun n hn => by
    have ln := l n hn
    by_cases e0 : n = 0
    · subst e0
      exact ec_mk ln.ok (g 0 hn) su ln.hi ln.ti ((i0 _ ln.ok.cl).mono (by decide)) b20 b10
    · obtain ⟨dn, hh, b2n, b1n⟩ := En n hn e0
      obtain ⟨m1, s1⟩ := ln.own e0
      by_cases e3 : n < 3
      · have pn : par n = 0 := if_pos e3
        rw [pn] at s1
        exact ec_mk ln.ok (g n hn) su ln.hi ln.ti ((hh (c n) (f 0) d0 1 m1 s1 l0.fi l0.ti b20 (i0 _ ln.ok.cl)).mono (by decide)) b2n b1n
      · have pn : par n = 2 := if_neg e3
        rw [pn] at s1
        obtain ⟨m2, s2⟩ := ln.two (by omega)
        have i2 : InitOk P w K (c n) (f 2) d2 2 := h2 (c n) (f 0) d0 1 m2 s2 l0.fi l0.ti b20 (i0 _ ln.ok.cl)
        exact ec_mk ln.ok (g n hn) su ln.hi ln.ti ((hh (c n) (f 2) d2 2 m1 s1 l2.fi l2.ti b22 i2).mono (by decide)) b2n b1n
  exact { ec := ec, kit := fun n hn => (l n hn).kit, kit4 := fun n hn => (l n hn).ok.k4, ex2 := fun n hn => exm_ref l2.ok.ex l2.ok.cl.hd l2.ok.ty (l n hn).s2, ex0 := fun n hn => exm_ref l0.ok.ex l0.ok.cl.hd l0.ok.ty (l n hn).s0 }
end
theorem all_end {l : OpenLaw} {w : World} {K : Frag} {h : Heap} {mg : Str → Option Value} {fa : Addr} {cs : Nat → Addr} (X : K.In h) (G : h.Ns mainGlobals mg) (hfa : mg "law" = some (.ref fa))
    {f0 : Addr} {od0 an0 : Option Addr} {sl0 : Array (Option Value)} {oc0 kV0 dc0 pm0 cd0 ct0 : Value}
    {f1 : Addr} {od1 an1 : Option Addr} {sl1 : Array (Option Value)} {oc1 kV1 dc1 pm1 cd1 ct1 : Value}
    {f2 : Addr} {od2 an2 : Option Addr} {sl2 : Array (Option Value)} {oc2 kV2 dc2 pm2 cd2 ct2 : Value}
    {f3 : Addr} {od3 an3 : Option Addr} {sl3 : Array (Option Value)} {oc3 kV3 dc3 pm3 cd3 ct3 : Value}
    {f4 : Addr} {od4 an4 : Option Addr} {sl4 : Array (Option Value)} {oc4 kV4 dc4 pm4 cd4 ct4 : Value}
    {f5 : Addr} {od5 an5 : Option Addr} {sl5 : Array (Option Value)} {oc5 kV5 dc5 pm5 cd5 ct5 : Value}
    {f6 : Addr} {od6 an6 : Option Addr} {sl6 : Array (Option Value)} {oc6 kV6 dc6 pm6 cd6 ct6 : Value}
    {f7 : Addr} {od7 an7 : Option Addr} {sl7 : Array (Option Value)} {oc7 kV7 dc7 pm7 cd7 ct7 : Value}
    {f8 : Addr} {od8 an8 : Option Addr} {sl8 : Array (Option Value)} {oc8 kV8 dc8 pm8 cd8 ct8 : Value}
    {f9 : Addr} {od9 an9 : Option Addr} {sl9 : Array (Option Value)} {oc9 kV9 dc9 pm9 cd9 ct9 : Value}
    (a0 : nsIn K mainGlobals "_law_fresh" = some (some (.ref f0)))
    (l0 : K.lookup f0 = some ⟨oc0, od0, .func (fnOf "_law_fresh" "_law_fresh" (defArgs sFresh) (defBody sFresh) (defScope sFresh) .none kV0 dc0 pm0 an0 cd0 ct0), sl0⟩)
    (c0 : codeIn K cd0 "_law_fresh" = true) (k0 : keepIn K (.ref f0) = true)
    (a1 : nsIn K mainGlobals "_law_fill" = some (some (.ref f1)))
    (l1 : K.lookup f1 = some ⟨oc1, od1, .func (fnOf "_law_fill" "_law_fill" (defArgs sFill) (defBody sFill) (defScope sFill) .none kV1 dc1 pm1 an1 cd1 ct1), sl1⟩)
    (c1 : codeIn K cd1 "_law_fill" = true) (k1 : keepIn K (.ref f1) = true)
    (a2 : nsIn K mainGlobals "_law_take" = some (some (.ref f2)))
    (l2 : K.lookup f2 = some ⟨oc2, od2, .func (fnOf "_law_take" "_law_take" (defArgs sTake) (defBody sTake) (defScope sTake) .none kV2 dc2 pm2 an2 cd2 ct2), sl2⟩)
    (c2 : codeIn K cd2 "_law_take" = true) (k2 : keepIn K (.ref f2) = true)
    (a3 : nsIn K mainGlobals "_law_one" = some (some (.ref f3)))
    (l3 : K.lookup f3 = some ⟨oc3, od3, .func (fnOf "_law_one" "_law_one" (defArgs sOne) (defBody sOne) (defScope sOne) .none kV3 dc3 pm3 an3 cd3 ct3), sl3⟩)
    (c3 : codeIn K cd3 "_law_one" = true) (k3 : keepIn K (.ref f3) = true)
    (a4 : nsIn K mainGlobals "_law_same" = some (some (.ref f4)))
    (l4 : K.lookup f4 = some ⟨oc4, od4, .func (fnOf "_law_same" "_law_same" (defArgs sSame) (defBody sSame) (defScope sSame) .none kV4 dc4 pm4 an4 cd4 ct4), sl4⟩)
    (c4 : codeIn K cd4 "_law_same" = true) (k4 : keepIn K (.ref f4) = true)
    (a5 : nsIn K mainGlobals "_law_kinds" = some (some (.ref f5)))
    (l5 : K.lookup f5 = some ⟨oc5, od5, .func (fnOf "_law_kinds" "_law_kinds" (defArgs sKinds) (defBody sKinds) (defScope sKinds) .none kV5 dc5 pm5 an5 cd5 ct5), sl5⟩)
    (c5 : codeIn K cd5 "_law_kinds" = true) (k5 : keepIn K (.ref f5) = true)
    (a6 : nsIn K mainGlobals "_law_made" = some (some (.ref f6)))
    (l6 : K.lookup f6 = some ⟨oc6, od6, .func (fnOf "_law_made" "_law_made" (defArgs sMade) (defBody sMade) (defScope sMade) .none kV6 dc6 pm6 an6 cd6 ct6), sl6⟩)
    (c6 : codeIn K cd6 "_law_made" = true) (k6 : keepIn K (.ref f6) = true)
    (a7 : nsIn K mainGlobals "_law_raised" = some (some (.ref f7)))
    (l7 : K.lookup f7 = some ⟨oc7, od7, .func (fnOf "_law_raised" "_law_raised" (defArgs sRaised) (defBody sRaised) (defScope sRaised) .none kV7 dc7 pm7 an7 cd7 ct7), sl7⟩)
    (c7 : codeIn K cd7 "_law_raised" = true) (k7 : keepIn K (.ref f7) = true)
    (a8 : nsIn K mainGlobals "_law_caught" = some (some (.ref f8)))
    (l8 : K.lookup f8 = some ⟨oc8, od8, .func (fnOf "_law_caught" "_law_caught" (defArgs sCaught) (defBody sCaught) (defScope sCaught) .none kV8 dc8 pm8 an8 cd8 ct8), sl8⟩)
    (c8 : codeIn K cd8 "_law_caught" = true) (k8 : keepIn K (.ref f8) = true)
    (a9 : nsIn K mainGlobals "law" = some (some (.ref f9)))
    (l9 : K.lookup f9 = some ⟨oc9, od9, .func (fnOf "law" "law" (defArgs sLaw) (defBody sLaw) (defScope sLaw) .none kV9 dc9 pm9 an9 cd9 ct9), sl9⟩)
    (c9 : codeIn K cd9 "law" = true) (k9 : keepIn K (.ref f9) = true)
    (z0 : nsIn K mainGlobals "len" = some none)
    (z1 : nsIn K mainGlobals "int" = some none)
    (z2 : nsIn K mainGlobals "enumerate" = some none)
    (z3 : nsIn K mainGlobals "isinstance" = some none)
    (z4 : nsIn K mainGlobals "zip" = some none)
    (z5 : nsIn K mainGlobals "all" = some none)
    (z6 : nsIn K mainGlobals "list" = some none)
    (z7 : nsIn K mainGlobals "tuple" = some none)
    (z8 : nsIn K mainGlobals "bool" = some none)
    (z9 : nsIn K mainGlobals "range" = some none)
    (z10 : nsIn K mainGlobals "ValueError" = some none)
    (z11 : nsIn K mainGlobals "KeyError" = some none)
    (z12 : nsIn K mainGlobals "LookupError" = some none)
    (z13 : nsIn K mainGlobals "ArithmeticError" = some none)
    (T : Nine l.prog w K mg cs) :
    ∃ fd : FuncData, (∀ (s : Shared) (v : Value), BindsTo s fd ⟨[v], []⟩ [("_law_script", v)]) ∧ ∀ base : Heap, K.In base → base.Ns mainGlobals mg → FnOk l.prog w K mg base CX0 5 fa fd ["_law_script"] (spLaw K) := by
  have e := hfa.symm.trans (mg_of X G a9)
  cases e
  have F0 := fun_mk (st := sFresh) l0 c0 k0
  have b0 := F0.binds (ps := ["_law_script"]) fun _ _ _ _ _ _ us hl => match us, hl with | [_], _ => rfl
  have g0 := mg_of X G a0
  have F1 := fun_mk (st := sFill) l1 c1 k1
  have b1 := F1.binds (ps := ["_law_state"]) fun _ _ _ _ _ _ us hl => match us, hl with | [_], _ => rfl
  have g1 := mg_of X G a1
  have F2 := fun_mk (st := sTake) l2 c2 k2
  have b2 := F2.binds (ps := ["_law_state", "_law_many"]) fun _ _ _ _ _ _ us hl => match us, hl with | [_, _], _ => rfl
  have g2 := mg_of X G a2
  have F3 := fun_mk (st := sOne) l3 c3 k3
  have b3 := F3.binds (ps := ["_law_state", "_law_things"]) fun _ _ _ _ _ _ us hl => match us, hl with | [_, _], _ => rfl
  have g3 := mg_of X G a3
  have F4 := fun_mk (st := sSame) l4 c4 k4
  have b4 := F4.binds (ps := ["_law_found", "_law_due"]) fun _ _ _ _ _ _ us hl => match us, hl with | [_, _], _ => rfl
  have g4 := mg_of X G a4
  have F5 := fun_mk (st := sKinds) l5 c5 k5
  have b5 := F5.binds (ps := ["_law_e"]) fun _ _ _ _ _ _ us hl => match us, hl with | [_], _ => rfl
  have g5 := mg_of X G a5
  have F6 := fun_mk (st := sMade) l6 c6 k6
  have b6 := F6.binds (ps := ["_law_nth", "_law_name", "_law_way"]) fun _ _ _ _ _ _ us hl => match us, hl with | [_, _, _], _ => rfl
  have g6 := mg_of X G a6
  have F7 := fun_mk (st := sRaised) l7 c7 k7
  have b7 := F7.binds (ps := ["_law_nth"]) fun _ _ _ _ _ _ us hl => match us, hl with | [_], _ => rfl
  have g7 := mg_of X G a7
  have F8 := fun_mk (st := sCaught) l8 c8 k8
  have b8 := F8.binds (ps := ["_law_nth"]) fun _ _ _ _ _ _ us hl => match us, hl with | [_], _ => rfl
  have g8 := mg_of X G a8
  have F9 := fun_mk (st := sLaw) l9 c9 k9
  have m0 := mg_none_of X G z0
  have m1 := mg_none_of X G z1
  have m2 := mg_none_of X G z2
  have m3 := mg_none_of X G z3
  have m4 := mg_none_of X G z4
  have m5 := mg_none_of X G z5
  have m6 := mg_none_of X G z6
  have m7 := mg_none_of X G z7
  have m8 := mg_none_of X G z8
  have m9 := mg_none_of X G z9
  have m10 := mg_none_of X G z10
  have m11 := mg_none_of X G z11
  have m12 := mg_none_of X G z12
  have m13 := mg_none_of X G z13
  refine ⟨fnOf "law" "law" (defArgs sLaw) (defBody sLaw) (defScope sLaw) .none kV9 dc9 pm9 an9 cd9 ct9, fun s v => .of_eq rfl, fun base _ _ => ?_⟩
  have GT : FnOk l.prog w K mg base CX0 2 f2 _ ["_law_state", "_law_many"] spTake := ok_take F2 F1 b1 g1 m0 m1 m2
  exact ok_law F9 F0 F2 F3 F6 F4 F5 F8 b0 b2 b3 b6 b4 b5 b8 g0 g2 g3 g6 g4 g5 g8 (ok_fresh F0) GT (ok_one F3 F2 b2 g2 m0 GT) (ok_made F6 T) (ok_same F4 b4 g4 m3 m0 m4 m5 m6 m7 m1 m8) (ok_kinds F5 T m3) (ok_caught F8 F7 b7 g7 T) T m3 m9 m10 m11 m12 m13

theorem nine_end {P : Program} {w : World} {K : Frag} {h : Heap} {mg : Str → Option Value} {c0 c1 c2 c3 c4 c5 c6 c7 c8 f0 f1 f2 f3 f4 f5 f6 f7 f8 : Addr} (X : K.In h) (G : h.Ns mainGlobals mg)
    (A0 : nsIn K mainGlobals "Error" = some (some (.ref c0))) (A1 : nsIn K mainGlobals "InterfaceError" = some (some (.ref c1))) (A2 : nsIn K mainGlobals "DatabaseError" = some (some (.ref c2))) (A3 : nsIn K mainGlobals "DataError" = some (some (.ref c3))) (A4 : nsIn K mainGlobals "OperationalError" = some (some (.ref c4))) (A5 : nsIn K mainGlobals "IntegrityError" = some (some (.ref c5))) (A6 : nsIn K mainGlobals "InternalError" = some (some (.ref c6))) (A7 : nsIn K mainGlobals "ProgrammingError" = some (some (.ref c7))) (A8 : nsIn K mainGlobals "NotSupportedError" = some (some (.ref c8)))
    (i0 : findIn K (.ref c0) "__init__" = some (some (.ref f0))) (i1 : findIn K (.ref c1) "__init__" = some (some (.ref f1))) (i2 : findIn K (.ref c2) "__init__" = some (some (.ref f2))) (i3 : findIn K (.ref c3) "__init__" = some (some (.ref f3))) (i4 : findIn K (.ref c4) "__init__" = some (some (.ref f4))) (i5 : findIn K (.ref c5) "__init__" = some (some (.ref f5))) (i6 : findIn K (.ref c6) "__init__" = some (some (.ref f6))) (i7 : findIn K (.ref c7) "__init__" = some (some (.ref f7))) (i8 : findIn K (.ref c8) "__init__" = some (some (.ref f8)))
    (S : nsIn K mainGlobals "super" = some none) (L : look K (pick c0 c1 c2 c3 c4 c5 c6 c7 c8) (pick f0 f1 f2 f3 f4 f5 f6 f7 f8) = true)
    (E0 : ∃ fd, (∀ C, Cl K C → InitOk P w K C f0 fd 1) ∧ B2 K fd ∧ B1 K fd)
    (E1 : ∃ fd, Hands P w K f1 c1 fd ∧ B2 K fd ∧ B1 K fd) (E2 : ∃ fd, Hands P w K f2 c2 fd ∧ B2 K fd ∧ B1 K fd) (E3 : ∃ fd, Hands P w K f3 c3 fd ∧ B2 K fd ∧ B1 K fd) (E4 : ∃ fd, Hands P w K f4 c4 fd ∧ B2 K fd ∧ B1 K fd) (E5 : ∃ fd, Hands P w K f5 c5 fd ∧ B2 K fd ∧ B1 K fd) (E6 : ∃ fd, Hands P w K f6 c6 fd ∧ B2 K fd ∧ B1 K fd) (E7 : ∃ fd, Hands P w K f7 c7 fd ∧ B2 K fd ∧ B1 K fd) (E8 : ∃ fd, Hands P w K f8 c8 fd ∧ B2 K fd ∧ B1 K fd) : Nine P w K mg (pick c0 c1 c2 c3 c4 c5 c6 c7 c8) := by
  refine nine_mk (f := pick f0 f1 f2 f3 f4 f5 f6 f7 f8) L (fun n hn => ?_) (mg_none_of X G S) E0 (fun n hn h0 => ?_)
  · rcases n with _ | _ | _ | _ | _ | _ | _ | _ | _ | n
    · exact mg_of X G A0
    · exact mg_of X G A1
    · exact mg_of X G A2
    · exact mg_of X G A3
    · exact mg_of X G A4
    · exact mg_of X G A5
    · exact mg_of X G A6
    · exact mg_of X G A7
    · exact mg_of X G A8
    · omega
  · rcases n with _ | _ | _ | _ | _ | _ | _ | _ | _ | n
    · exact absurd rfl h0
    · exact E1
    · exact E2
    · exact E3
    · exact E4
    · exact E5
    · exact E6
    · exact E7
    · exact E8
    · omega
end Err

open PySem PySem.W PyProof.Rows
set_option maxRecDepth 100000 in
set_option maxHeartbeats 0 in
theorem PySem.Challenge.cw_cursorhouse_k00_errors_made_holds : PySem.Challenge.rw_cursorhouse_k00_errors_made.Holds := by
  w_on; o_law; k_head; (case hw => w_witness2)
  k_fill
  refine L2.walk_of (l := PySem.Challenge.rw_cursorhouse_k00_errors_made) (n := 63) (k := 5) (x := "_law_script") (CX := fun _ => L2.CX0) (sp := fun w => Err.spLaw _) rfl (by decide) rfl ⟨rfl, by decide, by decide⟩ (fun w h Y => PySem.W.kIn_of Y) ?F (fun _ _ a ns hl _ hS => ⟨a, ns, rfl, hS, hl, fun _ => rfl⟩) (fun _ _ _ _ _ h => h)
  case F =>
    intro w mg fa h KX G hmg
    refine' Err.all_end (cs := Err.pick ?C0 ?C1 ?C2 ?C3 ?C4 ?C5 ?C6 ?C7 ?C8) KX G hmg ?a0 ?l0 ?c0 ?k0 ?a1 ?l1 ?c1 ?k1 ?a2 ?l2 ?c2 ?k2 ?a3 ?l3 ?c3 ?k3 ?a4 ?l4 ?c4 ?k4 ?a5 ?l5 ?c5 ?k5 ?a6 ?l6 ?c6 ?k6 ?a7 ?l7 ?c7 ?k7 ?a8 ?l8 ?c8 ?k8 ?a9 ?l9 ?c9 ?k9 ?z0 ?z1 ?z2 ?z3 ?z4 ?z5 ?z6 ?z7 ?z8 ?z9 ?z10 ?z11 ?z12 ?z13 ?T
    (case a0 => k_is)
    (case l0 => k_is)
    (case c0 => k_is)
    (case k0 => k_is)
    (case a1 => k_is)
    (case l1 => k_is)
    (case c1 => k_is)
    (case k1 => k_is)
    (case a2 => k_is)
    (case l2 => k_is)
    (case c2 => k_is)
    (case k2 => k_is)
    (case a3 => k_is)
    (case l3 => k_is)
    (case c3 => k_is)
    (case k3 => k_is)
    (case a4 => k_is)
    (case l4 => k_is)
    (case c4 => k_is)
    (case k4 => k_is)
    (case a5 => k_is)
    (case l5 => k_is)
    (case c5 => k_is)
    (case k5 => k_is)
    (case a6 => k_is)
    (case l6 => k_is)
    (case c6 => k_is)
    (case k6 => k_is)
    (case a7 => k_is)
    (case l7 => k_is)
    (case c7 => k_is)
    (case k7 => k_is)
    (case a8 => k_is)
    (case l8 => k_is)
    (case c8 => k_is)
    (case k8 => k_is)
    (case a9 => k_is)
    (case l9 => k_is)
    (case c9 => k_is)
    (case k9 => k_is)
    (case z0 => k_is)
    (case z1 => k_is)
    (case z2 => k_is)
    (case z3 => k_is)
    (case z4 => k_is)
    (case z5 => k_is)
    (case z6 => k_is)
    (case z7 => k_is)
    (case z8 => k_is)
    (case z9 => k_is)
    (case z10 => k_is)
    (case z11 => k_is)
    (case z12 => k_is)
    (case z13 => k_is)
    case T =>
      refine' Err.nine_end KX G ?A0 ?A1 ?A2 ?A3 ?A4 ?A5 ?A6 ?A7 ?A8 ?i0 ?i1 ?i2 ?i3 ?i4 ?i5 ?i6 ?i7 ?i8 ?S ?L ?E0 ?E1 ?E2 ?E3 ?E4 ?E5 ?E6 ?E7 ?E8
      (case A0 => k_is)
      (case A1 => k_is)
      (case A2 => k_is)
      (case A3 => k_is)
      (case A4 => k_is)
      (case A5 => k_is)
      (case A6 => k_is)
      (case A7 => k_is)
      (case A8 => k_is)
      (case i0 => k_is)
      (case i1 => k_is)
      (case i2 => k_is)
      (case i3 => k_is)
      (case i4 => k_is)
      (case i5 => k_is)
      (case i6 => k_is)
      (case i7 => k_is)
      (case i8 => k_is)
      (case S => k_is)
      (case L => kernel_rfl)
      case E0 => refine' Err.first_mk ?ho ?hT ?hcd; (case ho => k_is); (case hT => k_is); (case hcd => k_is)
      case E1 => refine' Err.hands_mk ?ho ?hT ?hcd ?hcode ?hvs ?hfile ?htop ?hcell ?hD ?hop ?hE; (case ho => k_is); (case hT => k_is); (case hcd => k_is); (case hcode => k_is); (case hcell => k_is); (case hop => k_is); (case hD => kernel_rfl); (case hvs => rfl); (case hfile => decide +kernel); (case htop => decide +kernel); (case hE => exact fun _ => rfl)
      case E2 => refine' Err.hands_mk ?ho ?hT ?hcd ?hcode ?hvs ?hfile ?htop ?hcell ?hD ?hop ?hE; (case ho => k_is); (case hT => k_is); (case hcd => k_is); (case hcode => k_is); (case hcell => k_is); (case hop => k_is); (case hD => kernel_rfl); (case hvs => rfl); (case hfile => decide +kernel); (case htop => decide +kernel); (case hE => exact fun _ => rfl)
      case E3 => refine' Err.hands_mk ?ho ?hT ?hcd ?hcode ?hvs ?hfile ?htop ?hcell ?hD ?hop ?hE; (case ho => k_is); (case hT => k_is); (case hcd => k_is); (case hcode => k_is); (case hcell => k_is); (case hop => k_is); (case hD => kernel_rfl); (case hvs => rfl); (case hfile => decide +kernel); (case htop => decide +kernel); (case hE => exact fun _ => rfl)
      case E4 => refine' Err.hands_mk ?ho ?hT ?hcd ?hcode ?hvs ?hfile ?htop ?hcell ?hD ?hop ?hE; (case ho => k_is); (case hT => k_is); (case hcd => k_is); (case hcode => k_is); (case hcell => k_is); (case hop => k_is); (case hD => kernel_rfl); (case hvs => rfl); (case hfile => decide +kernel); (case htop => decide +kernel); (case hE => exact fun _ => rfl)
      case E5 => refine' Err.hands_mk ?ho ?hT ?hcd ?hcode ?hvs ?hfile ?htop ?hcell ?hD ?hop ?hE; (case ho => k_is); (case hT => k_is); (case hcd => k_is); (case hcode => k_is); (case hcell => k_is); (case hop => k_is); (case hD => kernel_rfl); (case hvs => rfl); (case hfile => decide +kernel); (case htop => decide +kernel); (case hE => exact fun _ => rfl)
      case E6 => refine' Err.hands_mk ?ho ?hT ?hcd ?hcode ?hvs ?hfile ?htop ?hcell ?hD ?hop ?hE; (case ho => k_is); (case hT => k_is); (case hcd => k_is); (case hcode => k_is); (case hcell => k_is); (case hop => k_is); (case hD => kernel_rfl); (case hvs => rfl); (case hfile => decide +kernel); (case htop => decide +kernel); (case hE => exact fun _ => rfl)
      case E7 => refine' Err.hands_mk ?ho ?hT ?hcd ?hcode ?hvs ?hfile ?htop ?hcell ?hD ?hop ?hE; (case ho => k_is); (case hT => k_is); (case hcd => k_is); (case hcode => k_is); (case hcell => k_is); (case hop => k_is); (case hD => kernel_rfl); (case hvs => rfl); (case hfile => decide +kernel); (case htop => decide +kernel); (case hE => exact fun _ => rfl)
      case E8 => refine' Err.hands_mk ?ho ?hT ?hcd ?hcode ?hvs ?hfile ?htop ?hcell ?hD ?hop ?hE; (case ho => k_is); (case hT => k_is); (case hcd => k_is); (case hcode => k_is); (case hcell => k_is); (case hop => k_is); (case hD => kernel_rfl); (case hvs => rfl); (case hfile => decide +kernel); (case htop => decide +kernel); (case hE => exact fun _ => rfl)

