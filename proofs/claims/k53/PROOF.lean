import PyProof.Rows.All
import Wide.All
import OpenK.AllK
import Wide.FinOn
import KE.KStateDown
import KE.KExcIs
import Lean
import HandS.ForMost
import HandS.ForExc
import HandS.ExcInit
import HandS.ExcValue
import HandS.ExcField
import HandS.ExcIs
import HandS.IsInst
import HandS.Defaults
import HandS.Property
import HandS.OwnEq
import HandS.Wide
import HandS.Flow
import HandS.Walk
import HandS.Head0
import HandS.Head1
import HandS.Head2
import HandS.HeadEnd
import HandS.HeadHook1
import HandS.HeadHook2
import HandS.HeadHook3
import HandS.HeadHook4
import PySem.Challenge.RW_leafsplits_k53_errors_made
set_option Elab.async false
set_option linter.all false
set_option maxRecDepth 100000
set_option maxHeartbeats 4000000
namespace Z
open PySem PySem.Spec L2
open PyProof.Rows hiding St

/-! ### a def as its callers see it -/
structure CallOk (P : Program) (w : World) (K : PySem.W.Frag) (mg : Str → Option Value) (base : Heap) (CX : CXT) (k : Nat) (x : Str) (ps : List Str) (sp : Sp) : Prop where
  ex : ∃ (f : Addr) (fd : FuncData), FnOk P w K mg base CX k f fd ps sp ∧ mg x = some (.ref f) ∧ PySem.W.keepIn K (.ref f) = true ∧ Binds K fd ps []
section
variable {X : Cx} {CX : CXT} {k : Nat} {x : Str} {ps : List Str} {sp : Sp} {E : XK} {p pos : Pos} {e : Expr} {es : List Expr} {t : TA}
theorem pe_own (C : CallOk X.prog X.w X.K X.mg X.base CX k x ps sp) (hr : Room k X.A) (hg : Gl X x) (hx : Passes CX X E) (ha : PA X (e :: es) t)
    (hdb : (x == ("__debug__" : Str)) = false := by decide) (he : starEach (e :: es) X.env = (false, eval e X.env) :: starEach es X.env := by rfl) (hpl : (backTo pos (starEach es X.env)).any (·.1) = false := by rfl) :
    PE X (.Call (.Name x p) (e :: es) [] pos) (tCall sp [] E t) := by
  obtain ⟨f, fd, F, hm, hk, hb⟩ := C.ex
  exact pe_call F hr hg hm hk hb .nil hx ha hdb he hpl
end

/-- a def of the text as it stands behind the top -/
abbrev FnP (K : PySem.W.Frag) (x : Str) (st : Stmt) (f : Addr) (fd : FuncData) : Prop := FunD K x x (defArgs st) (defBody st) (defScope st) [] [] f fd
def Def (K : PySem.W.Frag) (mg : Str → Option Value) (x : Str) (st : Stmt) : Prop := ∃ (f : Addr) (fd : FuncData), FnP K x st f fd ∧ mg x = some (.ref f)
theorem def_ok {P : Program} {w : World} {K : PySem.W.Frag} {mg : Str → Option Value} {base : Heap} {CX : CXT} {x : Str} {st : Stmt} {N ps : List Str} {k : Nat} {sp : Sp} (D : Def K mg x st) (S : FnScope N ps (defScope st)) (len : ∀ vs H Q E, sp vs H Q E → vs.length = ps.length)
    (hbind : ∀ (kV doc pm : Value) (an : Option Addr) (cdv ct : Value) (us : List Value), us.length = ps.length → bindArgs (PySem.W.fnOf x x (defArgs st) (defBody st) (defScope st) .none kV doc pm an cdv ct) ⟨us, []⟩ = pure (ps.zip us))
    (hbody : ∀ (f : Addr) (cdv : Value) (A : Around) (outer : List Env) (s : Shared) (H : Hp) (vs : List V) (Q : VK) (E : XK), Room k (A.deeper (envOfC x (defScope st) s.heap.objs.size f cdv)) → sp vs H Q E →
      ∃ t, PSs (cxOf CX P w K mg base N x (defScope st) f cdv A outer s H E) (defBody st) t ∧ t { nx := fun _ H' => Q .non H', rt := Q } (start N vs) H) : CallOk P w K mg base CX (k + 1) x ps sp := by
  obtain ⟨f, fd, F, g⟩ := D
  exact ⟨⟨f, fd, F.ok S len (fun cdv A outer s H vs Q E hr h => hbody f cdv A outer s H vs Q E hr h), g, F.kp, F.bindsN hbind⟩⟩
/-- for a def that lets nothing out -/
theorem fn_ok0 {P : Program} {w : World} {K : PySem.W.Frag} {mg : Str → Option Value} {base : Heap} {x : Str} {st : Stmt} {N ps : List Str} {k : Nat} {sp : Sp} {f : Addr} {fd : FuncData} (F : FnP K x st f fd) (S : FnScope N ps (defScope st)) (len : ∀ vs H Q E, sp vs H Q E → vs.length = ps.length)
    (hbody : ∀ (cdv : Value) (A : Around) (outer : List Env) (s : Shared) (H : Hp) (vs : List V) (Q : VK) (E : XK), Room k (A.deeper (envOfC x (defScope st) s.heap.objs.size f cdv)) → sp vs H Q E →
      ∃ t, PSs (cxOf CX0 P w K mg base N x (defScope st) f cdv A outer s H E).nox (defBody st) t ∧ t { nx := fun _ H' => Q .non H', rt := Q } (start N vs) H) : FnOk P w K mg base CX0 (k + 1) f fd ps sp :=
  F.ok S len fun cdv A outer s H vs Q E hr h => by
    obtain ⟨t, h1, h2⟩ := hbody cdv A outer s H vs Q E hr h
    exact ⟨t, h1.nox, h2⟩
theorem def_ok0 {P : Program} {w : World} {K : PySem.W.Frag} {mg : Str → Option Value} {base : Heap} {x : Str} {st : Stmt} {N ps : List Str} {k : Nat} {sp : Sp} (D : Def K mg x st) (S : FnScope N ps (defScope st)) (len : ∀ vs H Q E, sp vs H Q E → vs.length = ps.length)
    (hbind : ∀ (kV doc pm : Value) (an : Option Addr) (cdv ct : Value) (us : List Value), us.length = ps.length → bindArgs (PySem.W.fnOf x x (defArgs st) (defBody st) (defScope st) .none kV doc pm an cdv ct) ⟨us, []⟩ = pure (ps.zip us))
    (hbody : ∀ (f : Addr) (cdv : Value) (A : Around) (outer : List Env) (s : Shared) (H : Hp) (vs : List V) (Q : VK) (E : XK), Room k (A.deeper (envOfC x (defScope st) s.heap.objs.size f cdv)) → sp vs H Q E →
      ∃ t, PSs (cxOf CX0 P w K mg base N x (defScope st) f cdv A outer s H E).nox (defBody st) t ∧ t { nx := fun _ H' => Q .non H', rt := Q } (start N vs) H) : CallOk P w K mg base CX0 (k + 1) x ps sp := by
  obtain ⟨f, fd, F, g⟩ := D
  exact ⟨⟨f, fd, fn_ok0 F S len (fun cdv A outer s H vs Q E hr h => hbody f cdv A outer s H vs Q E hr h), g, F.kp, F.bindsN hbind⟩⟩
theorem CallOk.mono {P : Program} {w : World} {K : PySem.W.Frag} {mg : Str → Option Value} {base : Heap} {CX : CXT} {j k : Nat} {x : Str} {ps : List Str} {sp : Sp} (C : CallOk P w K mg base CX j x ps sp) (h : j ≤ k) : CallOk P w K mg base CX k x ps sp := by
  obtain ⟨f, fd, F, r⟩ := C.ex
  exact ⟨⟨f, fd, F.mono h, r⟩⟩
/-! ### built-ins whose readings bear names -/
def rInt1 : List V → Hp → VK → Prop := fun xs H Q => (∃ i, xs = [.int i] ∧ Q (.int i) H) ∨ ∃ k, xs = [.bl k] ∧ Q (.int (if k then 1 else 0)) H
def rMax2 : List V → Hp → VK → Prop := fun xs H Q => ∃ i j, xs = [.int i, .int j] ∧ Q (.int (if j > i then j else i)) H
def rMin2 : List V → Hp → VK → Prop := fun xs H Q => ∃ i j, xs = [.int i, .int j] ∧ Q (.int (if j < i then j else i)) H
def rLenS (K : PySem.W.Frag) : List V → Hp → VK → Prop := fun xs H Q => ∃ p ys, xs = [.ref p] ∧ (SqL K H p ys ∨ SqT K H p ys) ∧ Q (.int ys.length) H
section
variable {X : Cx}
theorem cInt : CallR X (.type "int") rInt1 := call_int1
theorem cMax (hc : X.calm = true) : CallR X (.builtin "max") rMax2 := call_max2 hc
theorem cMin (hc : X.calm = true) : CallR X (.builtin "min") rMin2 := call_min2 hc
theorem cLen : CallR X (.builtin "len") (rLenS X.K) := call_len_seq
end
/-! ### readings, one step at a time -/
inductive SetTo : St → Nat → V → St → Prop where
  | zero {a : Option V} {l : St} {v : V} : SetTo (a :: l) 0 v (some v :: l)
  | succ {a : Option V} {l l' : St} {i : Nat} {v : V} (h : SetTo l i v l') : SetTo (a :: l) (i + 1) v (a :: l')
theorem SetTo.eq {σ σ' : St} {i : Nat} {v : V} (h : SetTo σ i v σ') : σ.set i (some v) = σ' := by
  induction h with
  | zero => rfl
  | succ _ ih => rw [List.set_cons_succ, ih]
section
variable {σ σ' : St} {H : Hp} {Q : VK} {QT : Bool → Hp → Prop} {v x y : V} {i : Nat} {nx bk ct : St → Hp → Prop} {rt : VK} {t u : TS} {te ta tb tc : TE} {g : TG} {gs : TGs} {c : TT} {tc2 : TT} {r r' : R2} {b : Bool} {tA : TA} {QA : List V → Hp → Prop}
theorem z_var (e : σ[i]? = some (some v)) (h : Q v H) : tVar i σ H Q := ⟨v, e, h⟩
theorem z_c (h : Q v H) : tC v σ H Q := h
theorem z_op (h : ta σ H fun x H1 => tb σ H1 fun y H2 => r x y H2 Q) : tOp r ta tb σ H Q := h
theorem z_un {ru : V → Hp → VK → Prop} (h : ta σ H fun x H1 => ru x H1 Q) : tUn ru ta σ H Q := h
theorem z_I0 {f : Int → Int → V} {m n : Int} (h : Q (f m n) H) : rI0 f (.int m) (.int n) H Q := ⟨m, n, rfl, rfl, h⟩
theorem z_I {C : Int → Int → Prop} {f : Int → Int → V} {m n : Int} (hc : C m n) (h : Q (f m n) H) : rI C f (.int m) (.int n) H Q := ⟨m, n, rfl, rfl, hc, h⟩
theorem z_U {f : Int → V} {m : Int} (h : Q (f m) H) : rU f (.int m) H Q := ⟨m, rfl, h⟩
theorem z_eq (hs : scal x y = true) (h : Q (.bl (decide (x = y))) H) : rEq x y H Q := ⟨hs, h⟩
theorem z_ne (hs : scal x y = true) (h : Q (.bl (!decide (x = y))) H) : rNe x y H Q := ⟨hs, h⟩
theorem z_eqI {m n : Int} (h : Q (.bl (decide (m = n))) H) : rEq (.int m) (.int n) H Q := ⟨rfl, by
  have e : decide (V.int m = V.int n) = decide (m = n) := by simp
  rw [e]; exact h⟩
theorem z_neI {m n : Int} (h : Q (.bl (!decide (m = n))) H) : rNe (.int m) (.int n) H Q := ⟨rfl, by
  have e : decide (V.int m = V.int n) = decide (m = n) := by simp
  rw [e]; exact h⟩
theorem z_test (h : te σ H fun x H' => ∃ k, x = .bl k ∧ QT k H') : tTest te σ H QT := h
theorem z_B (h : te σ H fun x H' => ∃ k, x = .bl k ∧ QT k H') : tB te σ H QT := h
theorem z_ex (P : Bool → Prop) (h : P b) : ∃ k, V.bl b = .bl k ∧ P k := ⟨b, rfl, h⟩
theorem z_and (h : c σ H fun d H1 => if d = true then tc2 σ H1 QT else QT false H1) : tAnd c tc2 σ H QT := h
theorem z_or (h : c σ H fun d H1 => if d = true then QT true H1 else tc2 σ H1 QT) : tOr c tc2 σ H QT := h
theorem z_not (h : c σ H fun d H1 => QT (!d) H1) : tNot c σ H QT := h
theorem z_andV (h : ta σ H fun x H1 => ∃ d, x = .bl d ∧ if d = true then tb σ H1 Q else Q (.bl false) H1) : tAndV ta tb σ H Q := h
theorem z_orV (h : ta σ H fun x H1 => ∃ d, x = .bl d ∧ if d = true then Q (.bl true) H1 else tb σ H1 Q) : tOrV ta tb σ H Q := h
theorem z_notV (h : ta σ H fun x H1 => ∃ d, x = .bl d ∧ Q (.bl (!d)) H1) : tNotV ta σ H Q := h
theorem z_ifE (h : c σ H fun d H1 => if d = true then ta σ H1 Q else tb σ H1 Q) : tIf c ta tb σ H Q := h
theorem z_chain (h : ta σ H fun x H1 => tb σ H1 fun y H2 => r x y H2 fun z H3 => ∃ k, z = .bl k ∧ (if k = true then tc σ H3 fun w' H4 => r' y w' H4 Q else Q (.bl false) H3)) : tChain r r' ta tb tc σ H Q := h
theorem z_seq (h : t ⟨u ⟨nx, rt, bk, ct⟩, rt, bk, ct⟩ σ H) : tSeq t u ⟨nx, rt, bk, ct⟩ σ H := h
theorem z_next (h : nx σ H) : tNext ⟨nx, rt, bk, ct⟩ σ H := h
theorem z_brk (h : bk σ H) : tBreak ⟨nx, rt, bk, ct⟩ σ H := h
theorem z_cont (h : ct σ H) : tCont ⟨nx, rt, bk, ct⟩ σ H := h
theorem z_asg (h : te σ H fun x H1 => g x σ H1 nx) : tAsg te g ⟨nx, rt, bk, ct⟩ σ H := h
theorem z_drop (h : te σ H fun _ H1 => nx σ H1) : tDrop te ⟨nx, rt, bk, ct⟩ σ H := h
theorem z_ret (h : te σ H rt) : tRet te ⟨nx, rt, bk, ct⟩ σ H := h
theorem z_retN (h : rt .non H) : tRetN ⟨nx, rt, bk, ct⟩ σ H := h
theorem z_if (h : c σ H fun d H1 => if d = true then t ⟨nx, rt, bk, ct⟩ σ H1 else u ⟨nx, rt, bk, ct⟩ σ H1) : tIfS c t u ⟨nx, rt, bk, ct⟩ σ H := h
theorem z_name {R : St → Hp → Prop} (e : SetTo σ i v σ') (h : R σ' H) : gName i v σ H R := by
  show R (σ.set i (some v)) H
  rw [e.eq]
  exact h
theorem z_sub {to ti : TE} {ts : TSet} {R : St → Hp → Prop} (h : to σ H fun o H1 => ti σ H1 fun j H2 => ts o j v H2 fun H3 => R σ H3) : gSub to ti ts v σ H R := h
theorem z_par {j : Nat} (h : tA σ H fun vs H1 => ∃ v w, vs = [v, w] ∧ nx ((σ.set i (some v)).set j (some w)) H1) : tPar i j tA ⟨nx, rt, bk, ct⟩ σ H := h
theorem z_par2 {j : Nat} {σ1 σ2 : St} {w : V} {R : St → Hp → Prop} (e1 : SetTo σ i v σ1) (e2 : SetTo σ1 j w σ2) (h : R σ2 H) : ∃ v' w', [v, w] = [v', w'] ∧ R ((σ.set i (some v')).set j (some w')) H :=
  ⟨v, w, rfl, by rw [e1.eq, e2.eq]; exact h⟩
theorem z_nil (h : QA [] H) : tNil σ H QA := h
theorem z_cons (h : ta σ H fun x H1 => tA σ H1 fun xs H2 => QA (x :: xs) H2) : tCons ta tA σ H QA := h
theorem z_cb {rc : List V → Hp → VK → Prop} (h : tA σ H fun vs H1 => rc vs H1 Q) : tCB rc tA σ H Q := h
theorem z_call {sp : Sp} {E : XK} (h : tA σ H fun vs H1 => sp (vs ++ []) H1 Q E) : tCall sp [] E tA σ H Q := h
theorem z_lst (h : tA σ H fun xs H1 => xs.length ≤ sizeLine ∧ ∀ p, H1 p = none → Q (.ref p) (upd H1 p (.lst xs))) : tLst tA σ H Q := h
theorem z_tup (h : tA σ H fun xs H1 => xs.length ≤ sizeLine ∧ ∀ p, H1 p = none → Q (.ref p) (upd H1 p (.tup xs))) : tTup tA σ H Q := h
theorem z_ixL {K : PySem.W.Frag} {p : Addr} {xs : List V} {n : Int} (h : SqL K H p xs) (e : atI xs n = some v) (q : Q v H) : rIxL K (.ref p) (.int n) H Q := ⟨p, xs, n, v, rfl, rfl, h, e, q⟩
theorem z_ixT {K : PySem.W.Frag} {p : Addr} {xs : List V} {n : Int} (h : SqT K H p xs) (e : atI xs n = some v) (q : Q v H) : rIxT K (.ref p) (.int n) H Q := ⟨p, xs, n, v, rfl, rfl, h, e, q⟩
theorem z_setL {p : Addr} {xs : List V} {n : Int} {j : Nat} {R : Hp → Prop} (h : H p = some (.lst xs)) (e : ixN xs.length n = some j) (q : R (upd H p (.lst (xs.set j v)))) : rSetL (.ref p) (.int n) v H R := ⟨p, xs, n, j, rfl, rfl, h, e, q⟩
theorem z_int1 {n : Int} (h : Q (.int n) H) : rInt1 [.int n] H Q := .inl ⟨n, rfl, h⟩
theorem z_max2 {m n : Int} (h : Q (.int (if n > m then n else m)) H) : rMax2 [.int m, .int n] H Q := ⟨m, n, rfl, h⟩
theorem z_min2 {m n : Int} (h : Q (.int (if n < m then n else m)) H) : rMin2 [.int m, .int n] H Q := ⟨m, n, rfl, h⟩
theorem z_len {K : PySem.W.Frag} {p : Addr} {xs : List V} (h : SqL K H p xs) (q : Q (.int xs.length) H) : rLenS K [.ref p] H Q := ⟨p, xs, rfl, .inl h, q⟩
theorem z_lenT {K : PySem.W.Frag} {p : Addr} {xs : List V} (h : SqT K H p xs) (q : Q (.int xs.length) H) : rLenS K [.ref p] H Q := ⟨p, xs, rfl, .inr h, q⟩
theorem z_pow {m n : Int} (h0 : 0 ≤ n) (h1 : n ≤ 1000000) (h2 : m.natAbs < 2 ^ 64) : CPow m n := ⟨h0, h1, h2⟩
theorem z_modG {m n : Int} (hn : 0 < n) (h : ∀ r : Int, 0 ≤ r → r < n → Q (.int r) H) : rI (fun _ j => 0 < j) (fun i j => .int (i % j)) (.int m) (.int n) H Q := ⟨m, n, rfl, rfl, hn, h _ (Int.emod_nonneg _ (by omega)) (Int.emod_lt_of_pos _ hn)⟩
theorem z_start {D : Ends} (e : σ = σ') (h : t D σ' H) : t D σ H := by
  rw [e]
  exact h
theorem z_iteT {A B : Prop} (h : A) : if true = true then A else B := iteT h
theorem z_iteF {A B : Prop} (h : B) : if false = true then A else B := iteF h
end

/-! ### lists: the left one may be locked, or of the written part -/
theorem list_add_sl (l : Addr) (items : Array Value) (n : Nat) (sl : Array (Option Value)) (b : Addr) (items2 : Array Value) (n2 : Nat) (hc0 : items.size + items2.size ≤ sizeLine) :
    Meets (Builtin.«list.__add__» ⟨[.ref l, .ref b], []⟩) (fun _ R s => s.heap.get? l = some { cls := .type "list", dict := none, data := .seq items n, slots := sl } ∧ s.heap.get? b = some { cls := .type "list", dict := none, data := .seq items2 n2, slots := #[] } ∧
      R (.ok (.ret (Value.ref s.heap.objs.size))) { s with heap := s.heap.push { cls := Value.type "list", data := Data.seq (items ++ items2) }, toks := s.toks }) :=
  .of_wp fun prog w A R s h => by
    obtain ⟨hp, g, d, tk, os⟩ := s
    obtain ⟨hl, hb, h⟩ := h
    have f1 := AutoSeq1.idx_int
    have f3 := AutoSeq1.sub_list_list
    wp_walk using wpAny_loadPart' hl, wpAny_loadPart' hb
    exact ⟨_, rfl, h⟩
def rCatS (K : PySem.W.Frag) : R2 := fun x y H Q => ∃ l b xs zs, x = .ref l ∧ y = .ref b ∧ SqL K H l xs ∧ H b = some (.lst zs) ∧ xs.length + zs.length ≤ sizeLine ∧ ∀ p, H p = none → Q (.ref p) (upd H p (.lst (xs ++ zs)))
theorem op_catS {X : Cx} : OpR X (binaryOp .Add) (rCatS X.K) := by
  intro pins s σ H x y v u Q I rx ry h
  obtain ⟨l, b, xs, zs, rfl, rfl, hL, hB, hz, q⟩ := h
  cases rx
  cases ry
  obtain ⟨its, r, ⟨o, n, ho, hc, hd, hs⟩, hl⟩ := I.list hL
  obtain ⟨oc, od, dt, sl⟩ := o
  simp only at hc hd hs
  subst hc hd hs
  obtain ⟨z2, its2, n2, r2, hl2, e2⟩ := I.lstM hB
  have h1 := r.length
  refine concat_meets ⟨_, ho, rfl⟩ ⟨_, e2, rfl⟩ noFill_list_add seq_list_add F.slot_list_add F.entry_list_add (F.args_list_add_2 _ _) (list_add_sl l its.toArray n sl b its2.toArray n2 (by rw [List.size_toArray, List.size_toArray]; omega)) ⟨ho, e2, ?_⟩
  have ea : its.toArray ++ its2.toArray = (its ++ its2).toArray := by simp
  rw [ea]
  exact ⟨.ref _, _, I.lnew (t' := s.toks) (r.append r2) (by rw [List.length_append]; omega), rfl, q _ I.fresh⟩

/-! ### lists of plain things compared -/
def plainV : V → Bool
  | .non => true
  | .bl _ => true
  | .int _ => true
  | _ => false
def datV : V → PyData
  | .bl b => .bool b
  | .int i => .int i
  | _ => .none
theorem dp_plain {K : PySem.W.Frag} {H : Hp} : ∀ {v : V}, plainV v = true → Dp K H v (datV v)
  | .non, _ => .non
  | .bl b, _ => .bl b
  | .int i, _ => .int i
  | .str _, h => nomatch h
  | .byt _, h => nomatch h
  | .flt _, h => nomatch h
  | .ref _, h => nomatch h
  | .ty _, h => nomatch h
theorem dpAll_plain {K : PySem.W.Frag} {H : Hp} : ∀ {vs : List V}, vs.all plainV = true → DpAll K H vs (vs.map datV)
  | [], _ => .nil
  | v :: vs, h => by
    rw [List.all_cons, Bool.and_eq_true] at h
    exact .cons (dp_plain h.1) (dpAll_plain h.2)
theorem can_datV (v : V) : (datV v).canLay0 = true ∧ (datV v).depth ≤ 1 := by cases v <;> exact ⟨rfl, by simp [datV, PyData.depth]⟩
theorem can_all : ∀ vs : List V, PyData.canLayAll0 (vs.map datV) = true ∧ PyData.depthAll (vs.map datV) ≤ 1
  | [] => ⟨rfl, by simp [PyData.depthAll]⟩
  | v :: vs => by
    obtain ⟨h1, h2⟩ := can_datV v
    obtain ⟨h3, h4⟩ := can_all vs
    refine ⟨by simp [PyData.canLayAll0, h1, h3], ?_⟩
    rw [List.map_cons, PyData.depthAll]
    omega
theorem shaped_list (vs : List V) : SeqAt.shaped (.list (vs.map datV)) = true := by
  obtain ⟨h3, h4⟩ := can_all vs
  have hd : (PyData.list (vs.map datV)).depth ≤ 64 := by
    rw [PyData.depth]
    omega
  unfold SeqAt.shaped
  rw [decide_eq_true hd, Bool.and_true]
  exact h3
theorem dp_lst {K : PySem.W.Frag} {H : Hp} {p : Addr} {vs : List V} (h : SqL K H p vs) (hp : vs.all plainV = true) : Dp K H (.ref p) (.list (vs.map datV)) := .lst h (dpAll_plain hp)
theorem eqv_same (vs : List V) : PyData.eqv (.list (vs.map datV)) (.list (vs.map datV)) = true := SeqAt.eqv_refl _ (can_all vs).1
/-- two lists that hold the same -/
theorem z_neSame {K : PySem.W.Frag} {H : Hp} {Q : VK} {p q : Addr} {vs : List V} (h1 : SqL K H p vs) (h2 : SqL K H q vs) (hp : vs.all plainV = true) (h : Q (.bl false) H) : rNeD K (.ref p) (.ref q) H Q :=
  ⟨_, _, dp_lst h1 hp, dp_lst h2 hp, shaped_list vs, shaped_list vs, by rw [eqv_same]; exact h⟩
theorem z_eqSame {K : PySem.W.Frag} {H : Hp} {Q : VK} {p q : Addr} {vs : List V} (h1 : SqL K H p vs) (h2 : SqL K H q vs) (hp : vs.all plainV = true) (h : Q (.bl true) H) : rEqD K (.ref p) (.ref q) H Q :=
  ⟨_, _, dp_lst h1 hp, dp_lst h2 hp, shaped_list vs, shaped_list vs, by rw [eqv_same]; exact h⟩

/-! ### exceptions held as values -/
theorem findObj_E {K : PySem.W.Frag} {C : Addr} {od : Option Obj} {name : Str} {a g : Value} (hc : (PySem.W.clsIn K C).isSome = true) (ha : PySem.W.findIn K (.ref C) name = some (some a)) (hg : PySem.W.specialIn K a "__get__" = some (some g)) (ht : PySem.W.takesIn K a = some true) :
    PySem.W.findObj K C od name = some (.bind g a) := PySem.W.findObj_dataE hc ha hg ht
/-- what stands at a: an exception of the class at C, made without fields, or with its dict at d -/
def ExAt (H : Hp) (a C : Addr) : Prop := H a = some (ExO (.ref C) a) ∨ ∃ (d : Addr) (fs : List (Str × V)), H a = some (exo a C (some d)) ∧ H d = some (exd d fs)
theorem exAt_inst {P : Program} {w : World} {H : Hp} {h : Heap} {a C : Addr} (hok : HOk P w H h) (e : ExAt H a C) : ∃ (ox : Obj) (od : Option Obj), PySem.W.InstAt h a ox C od := by
  rcases e with e | ⟨d, fs, e, ed⟩
  · obtain ⟨⟨oe, vs, ho, hz, hd, _⟩, _, _⟩ := hok a _ e
    obtain ⟨oc, odd, dt, sl⟩ := oe
    obtain ⟨h1, h2⟩ := hz
    dsimp only at h1 h2 hd
    subst h1 h2 hd
    exact ⟨_, none, ho, rfl, rfl, trivial⟩
  · obtain ⟨t1, ho⟩ := exo_at hok e
    obtain ⟨mA, hns, _⟩ := exd_at hok ed
    obtain ⟨o, es, ep, e1, _⟩ := hns
    exact ⟨_, some o, ho, rfl, rfl, e1⟩
def rIsQ (K : PySem.W.Frag) : List V → Hp → VK → Prop := fun xs H Q => ∃ (a C : Addr) (c : V) (cv : Value) (b : Bool), xs = [.ref a, c] ∧ ExAt H a C ∧ ExcC K C ∧ ClsV c cv ∧ PySem.W.kitOne K (.ref C) cv = some b ∧ Q (.bl b) H
section
variable {X : Cx}
theorem call_isQ : CallR X (.builtin "isinstance") (rIsQ X.K) := by
  intro pins s σ H xs us Q I r h
  obtain ⟨a, C, c, cv, b, rfl, ea, T, k, e, q⟩ := h
  obtain ⟨u1, u2, rfl, r1, r2⟩ := vals2 r
  cases (show u1 = Value.ref a from r1)
  have e2 := k.eq r2
  subst e2
  obtain ⟨ox, od, J⟩ := exAt_inst I.hok ea
  have hcl : (PySem.W.clsIn X.K C).isSome = true := by
    obtain ⟨cd, hc, _⟩ := PySem.W.any_some T.hd
    rw [hc]; rfl
  exact PySem.W.kia_one (PySem.W.kitx_exc hcl T.hg T.hk T.hs T.ha T.hn T.ht T.hm) I.kIn J e (fun z => nomatch z) fun tk => ⟨.bl b, H, I.tok tk, rfl, q⟩
/-- e.f of a held exception with fields -/
def tXfV (K : PySem.W.Frag) (f : Str) (te : TE) : TE := fun σ H Q => te σ H fun x H1 => ∃ (a C d : Addr) (fs : List (Str × V)) (v : V), x = .ref a ∧ H1 a = some (exo a C (some d)) ∧ H1 d = some (exd d fs) ∧ XfC K C ∧ PySem.W.findIn K (.ref C) f = some none ∧ fs.lookup f = some v ∧ Q v H1
theorem pe_xfV {e : Expr} {te : TE} {pos : Pos} {n : Str} (he : PE X e te) (hb : attributeBase e n X.env (eval e X.env) = eval e X.env := by rfl) : PE X (.Attribute e n pos) (tXfV X.K n te) := by
  refine ⟨fun pins s σ H Q I h => ?_⟩
  refine attr_of hb (thn (he.run pins s σ H _ I h) fun u s1 hh => ?_)
  obtain ⟨x, H1, I1, rx, a, C, d, fs, v, ex, ea, ed, T, hno, l, q⟩ := hh
  subst ex
  obtain rfl : u = Value.ref a := rx
  obtain ⟨t1, ho⟩ := exo_at I1.hok ea
  obtain ⟨mA, hns, hr⟩ := exd_at I1.hok ed
  obtain ⟨od, hod, hl⟩ := lookIn_ns hns
  obtain ⟨u, hu, ru⟩ := RelO.some_of (v := v) (o := mA n) (by rw [← l]; exact hr n)
  have J : PySem.W.InstAt s1.heap a { cls := .ref C, dict := some d, data := .fields #[.ref t1, .none, .none, .none, .bool false, .none] } C (some od) := ⟨ho, rfl, rfl, hod⟩
  exact HandSPX.exc_get I1.kIn J T.ga T.gg T.exC (PySem.W.findObj_own T.hdC hno rfl (by rw [hl, hu])) (handed_of ru) ⟨v, H1, I1.tok _, ru, q⟩
/-- X(e, ..) as a value, X an own exception class with its own __init__ -/
def tMkV (C : Addr) (sp : Sp) (ta : TA) : TE := fun σ H Q => ta σ H fun vs H1 => vs.length ≤ 1000 ∧ ∀ a, H1 a = none → sp (.ref a :: vs) (upd H1 a (exo a C none)) (fun v H2 => v = .non ∧ Q (.ref a) H2) (fun _ _ _ => False)
theorem pe_excV {CX : CXT} {x : Str} {C fI : Addr} {k : Nat} {fd : FuncData} {ps : List Str} {sp : Sp} {e : Expr} {es : List Expr} {ta : TA} {p pos : Pos} (T : OexC X.K C) (iC : PySem.W.findIn X.K (.ref C) "__init__" = some (some (.ref fI))) (tI : PySem.W.typeIn X.K (.ref fI) = some (.type "function"))
    (F1 : FnOk X.prog X.w X.K X.mg X.base CX k fI fd ps sp) (hr : Room (k + 1) X.A) (hb : Binds X.K fd ps []) (hx : Passes CX X (fun _ _ _ => False)) (hg : Gl X x) (hm : X.mg x = some (.ref C)) (ha : PA X (e :: es) ta)
    (hdb : (x == ("__debug__" : Str)) = false := by decide) (he : starEach (e :: es) X.env = (false, eval e X.env) :: starEach es X.env := by rfl) (hpl : (backTo pos (starEach es X.env)).any (·.1) = false := by rfl) :
    PE X (.Call (.Name x p) (e :: es) [] pos) (tMkV C sp ta) := by
  refine ⟨fun pins s σ H Q I h => ?_⟩
  obtain ⟨nm, q, N, bs, bm, sn, sub, ab, col, dd, k0, k1, k2, k3, k5, hC, hbm⟩ := T.cls
  refine wpAny_Call_Name_kw (ld_glob I hg hm ?_ hdb)
  refine PySem.W.callWith_K (h₀ := X.base) I.ok.mod.kin T.kC (thn (ha.run pos pins s σ H _ I h) fun us s1 ⟨vs, H1, I1, r1, hz, q1⟩ => ⟨I1.kIn, ?_⟩) he hpl
  show wpAny _ _ (call (.ref C) us) _ _ _
  obtain ⟨hp, g, dr, tk, os⟩ := s1
  have hsz : hp.objs.size ≤ hp.objs.size + 1 := Nat.le_succ _
  have hn : H1 (hp.objs.size + 1) = none := I1.hok.fresh hsz
  have hq := q1 (hp.objs.size + 1) hn
  have kk : ∀ b o, hp.get? b = some o → ((hp.push (PySem.W.kdv_tup us)).push (PySem.HandSPX.excO C hp.objs.size)).get? b = some o := fun b o e => Heap.get?_push_of_some _ (Heap.get?_push_of_some _ e)
  have hget : ((hp.push (PySem.W.kdv_tup us)).push (PySem.HandSPX.excO C hp.objs.size)).get? (hp.objs.size + 1) = some (PySem.HandSPX.excO C hp.objs.size) := by heap_get
  have I2 : Inv X pins σ (upd H1 (hp.objs.size + 1) (exo (hp.objs.size + 1) C none)) ⟨(hp.push (PySem.W.kdv_tup us)).push (PySem.HandSPX.excO C hp.objs.size), g, dr, tk, os⟩ :=
    I1.laid (t' := tk) (a := hp.objs.size + 1) (o := exo (hp.objs.size + 1) C none) (h' := (hp.push (PySem.W.kdv_tup us)).push (PySem.HandSPX.excO C hp.objs.size)) kk hsz (exo_ok hget)
  have r2 : Vals (V.ref (hp.objs.size + 1) :: vs) (Value.ref (hp.objs.size + 1) :: us) := .cons rfl r1
  have hl : (Value.ref (hp.objs.size + 1) :: us).length = ps.length := by
    have e := r2.length
    rw [F1.len _ _ _ _ hq] at e
    exact e.symm
  have hus : us.length ≤ sizeLine := by
    rw [← Paired.length r1, sizeLine_eq]
    omega
  have hb' : BindsTo ⟨(hp.push (PySem.W.kdv_tup us)).push (PySem.HandSPX.excO C hp.objs.size), g, dr, tk, os⟩ fd ⟨Value.ref (hp.objs.size + 1) :: us, []⟩ (ps.zip (Value.ref (hp.objs.size + 1) :: us)) := by
    have z := hb _ (Value.ref (hp.objs.size + 1) :: us) I2.kIn (by rw [List.append_nil]; exact hl)
    rw [List.append_nil] at z
    exact z
  refine wpAny_call (PySem.HandSPX.call_own F.excBase_ValueError (fun Y => PySem.HandSPX.refsVE_contains Y bm hbm) (I1.kIn _ _ hC) (PySem.W.looks_findIn I1.kIn iC) (fun self => PySem.W.bind_fn I1.kIn self tI) hus
    (codeAny_mono (F1.run _ X.stack _ _ ⟨Value.ref (hp.objs.size + 1) :: us, []⟩ (Value.ref (hp.objs.size + 1) :: us) _ _ (fun _ _ _ => False) (hr.make C us []) (I2.env0.make C us []) hb' r2 hq) fun r s' hq' => ?_))
  cases r with
  | error er => exact hx pins σ _ _ er s' I2 hq'
  | ok fl =>
    cases fl with
    | ret u =>
      obtain ⟨v, H', I3, rv, ev, q3⟩ := I2.after hq'
      subst ev
      exact ⟨rv, ⟨V.ref (hp.objs.size + 1), H', I3, rfl, q3⟩⟩
    | next => exact False.elim hq'
    | brk => exact False.elim hq'
    | cont => exact False.elim hq'
end

/-- the promise of «self.f = v» -/
def spX (C : Addr) (f : Str) : Sp := fun vs H Q _ => ∃ (a : Addr) (v : V), vs = [.ref a, v] ∧ H a = some (exo a C none) ∧ ∀ dx, H dx = none → dx ≠ a → Q .non (upd (upd H dx (exd dx [(f, v)])) a (exo a C (some dx)))
/-! ### made and held: what a row of such values leaves -/
theorem same_new {H H' : Hp} {p : Addr} {o : HO} (s : Same H H') (h : H' p = none) : Same H (upd H' p o) := fun a u e => by
  rw [upd_ne (ne_of_none (s a u e) h)]
  exact s a u e
def HasX (H : Hp) (e : V) (C : Addr) (o : Option (Str × V)) : Prop := ∃ a, e = .ref a ∧ (match o with
  | none => H a = some (ExO (.ref C) a)
  | some (f, v) => ∃ d, H a = some (exo a C (some d)) ∧ H d = some (exd d [(f, v)]))
theorem HasX.mono {H H' : Hp} {e : V} {C : Addr} {o : Option (Str × V)} (s : Same H H') (h : HasX H e C o) : HasX H' e C o := by
  obtain ⟨a, ea, h⟩ := h
  refine ⟨a, ea, ?_⟩
  cases o with
  | none => exact s _ _ h
  | some q =>
    obtain ⟨f, v⟩ := q
    obtain ⟨d, h1, h2⟩ := h
    exact ⟨d, s _ _ h1, s _ _ h2⟩
theorem HasX.at {H : Hp} {a C : Addr} {o : Option (Str × V)} (h : HasX H (.ref a) C o) : ExAt H a C := by
  obtain ⟨a', ea, h⟩ := h
  cases ea
  cases o with
  | none => exact .inl h
  | some q =>
    obtain ⟨f, v⟩ := q
    obtain ⟨d, h1, h2⟩ := h
    exact .inr ⟨d, _, h1, h2⟩
abbrev HasAll (H : Hp) : List V → List (Addr × Option (Str × V)) → Prop := Paired fun e c => HasX H e c.1 c.2
theorem HasAll.mono {H H' : Hp} {es : List V} {cs : List (Addr × Option (Str × V))} (s : Same H H') (h : HasAll H es cs) : HasAll H' es cs := Paired.mapP h fun _ _ q => q.mono s
theorem paired_append {α β : Type} {F : α → β → Prop} : ∀ {a : List α} {b : List β} {c : List α} {d : List β}, Paired F a b → Paired F c d → Paired F (a ++ c) (b ++ d)
  | _, _, _, _, .nil, s => s
  | _, _, _, _, .cons r t, s => .cons r (paired_append t s)
theorem paired_get2 {α β : Type} {F : α → β → Prop} : ∀ {a : List α} {b : List β} {i : Nat} {y : β}, Paired F a b → b[i]? = some y → ∃ x, a[i]? = some x ∧ F x y
  | _, _, _, _, .nil, e => by simp at e
  | _, _, 0, _, .cons r _, e => by simp at e; subst e; exact ⟨_, rfl, r⟩
  | _, _, i + 1, x, .cons _ t, e => by
    obtain ⟨u, h1, h2⟩ := paired_get2 (i := i) (y := x) t (by simpa using e)
    exact ⟨u, by simpa using h1, h2⟩
def MkT (te : TE) (σ : St) (C : Addr) (o : Option (Str × V)) : Prop := ∀ (H : Hp) (Q : VK), (∀ e H', Same H H' → HasX H' e C o → Q e H') → te σ H Q
def MkA (ta : TA) (σ : St) (cs : List (Addr × Option (Str × V))) : Prop := ∀ (H : Hp) (Q : List V → Hp → Prop), (∀ es H', Same H H' → HasAll H' es cs → Q es H') → ta σ H Q
theorem MkA.nil {σ : St} : MkA tNil σ [] := fun H Q q => q [] H (Same.refl H) .nil
theorem MkA.cons {te : TE} {ta : TA} {σ : St} {C : Addr} {o : Option (Str × V)} {cs : List (Addr × Option (Str × V))} (h : MkT te σ C o) (t : MkA ta σ cs) : MkA (tCons te ta) σ ((C, o) :: cs) := fun H Q q =>
  h H _ fun e H1 s1 x => t H1 _ fun es H2 s2 xs => q (e :: es) H2 (s1.trans s2) (.cons (x.mono s2) xs)
theorem MkA.lst {ta : TA} {σ : St} {cs : List (Addr × Option (Str × V))} (h : MkA ta σ cs) (hl : cs.length ≤ 1000) {H : Hp} {Q : VK} (q : ∀ p es H', Same H H' → H p = none → H' p = some (.lst es) → HasAll H' es cs → Q (.ref p) H') : tLst ta σ H Q :=
  h H _ fun es H1 s1 xs => ⟨Nat.le_trans (Nat.le_of_eq (Paired.length xs)) (Nat.le_trans hl (by decide)), fun p hp => q p es _ (same_new s1 hp) (s1.free hp) upd_same (xs.mono (same_new (Same.refl _) hp))⟩
theorem MkA.cat {ta : TA} {σ : St} {cs cs2 : List (Addr × Option (Str × V))} {i : Nat} {p : Addr} {es : List V} (h : MkA ta σ cs2) (hl : cs.length + cs2.length ≤ 1000) {H : Hp} {Q : VK} (e : σ[i]? = some (some (.ref p))) (hp : H p = some (.lst es)) (hx : HasAll H es cs)
    (q : ∀ r zs H', Same H H' → H r = none → H' r = some (.lst zs) → HasAll H' zs (cs ++ cs2) → Q (.ref r) H') : tOp rCat (tVar i) (tLst ta) σ H Q := by
  refine ⟨_, e, h.lst (by omega) fun p2 es2 H2 s2 n2 h2 x2 => ?_⟩
  refine ⟨p, p2, es, es2, rfl, rfl, s2 _ _ hp, h2, ?_, fun r hr => ?_⟩
  · rw [Paired.length hx, Paired.length x2]
    exact Nat.le_trans hl (by decide)
  · have s3 : Same H2 (upd H2 r (.lst (es ++ es2))) := same_new (Same.refl _) hr
    exact q r (es ++ es2) _ (s2.trans s3) (s2.free hr) upd_same (HasAll.mono s3 (paired_append (hx.mono s2) x2))
/-- values that leave the heap as it is, whatever has come to it -/
def PuT (te : TE) (σ : St) (H : Hp) (v : V) : Prop := ∀ H', Same H H' → ∀ Q : VK, Q v H' → te σ H' Q
def PuA (ta : TA) (σ : St) (H : Hp) (vs : List V) : Prop := ∀ H', Same H H' → ∀ Q : List V → Hp → Prop, Q vs H' → ta σ H' Q
theorem PuA.nil {σ : St} {H : Hp} : PuA tNil σ H [] := fun _ _ _ q => q
theorem PuA.cons {te : TE} {ta : TA} {σ : St} {H : Hp} {v : V} {vs : List V} (h : PuT te σ H v) (t : PuA ta σ H vs) : PuA (tCons te ta) σ H (v :: vs) := fun H' s Q q => h H' s _ (t H' s _ q)
theorem PuT.var {σ : St} {H : Hp} {i : Nat} {v : V} (e : σ[i]? = some (some v)) : PuT (tVar i) σ H v := fun _ _ _ q => ⟨v, e, q⟩
theorem PuT.c {σ : St} {H : Hp} {v : V} : PuT (tC v) σ H v := fun _ _ _ q => q
theorem PuT.mono {te : TE} {σ : St} {H H' : Hp} {v : V} (s : Same H H') (h : PuT te σ H v) : PuT te σ H' v := fun H2 s2 Q q => h H2 (s.trans s2) Q q
theorem PuA.mono {te : TA} {σ : St} {H H' : Hp} {v : List V} (s : Same H H') (h : PuA te σ H v) : PuA te σ H' v := fun H2 s2 Q q => h H2 (s.trans s2) Q q
theorem PuA.lst {ta : TA} {σ : St} {H : Hp} {vs : List V} (h : PuA ta σ H vs) (hl : vs.length ≤ 1000) {Q : VK} (q : ∀ p H', Same H H' → H p = none → H' p = some (.lst vs) → Q (.ref p) H') : tLst ta σ H Q :=
  h H (Same.refl H) _ ⟨Nat.le_trans hl (by decide), fun p hp => q p _ (same_new (Same.refl H) hp) hp upd_same⟩
theorem PuA.cat {ta : TA} {σ : St} {H : Hp} {vs ws : List V} {i : Nat} {p : Addr} (h : PuA ta σ H ws) (hl : vs.length + ws.length ≤ 1000) (e : σ[i]? = some (some (.ref p))) (hp : H p = some (.lst vs)) {Q : VK}
    (q : ∀ r H', Same H H' → H r = none → H' r = some (.lst (vs ++ ws)) → Q (.ref r) H') : tOp rCat (tVar i) (tLst ta) σ H Q := by
  refine ⟨_, e, h.lst (by omega) fun p2 H2 s2 n2 h2 => ?_⟩
  refine ⟨p, p2, vs, ws, rfl, rfl, s2 _ _ hp, h2, Nat.le_trans hl (by decide), fun r hr => ?_⟩
  exact q r _ (s2.trans (same_new (Same.refl _) hr)) (s2.free hr) upd_same
theorem pu_ix {K : PySem.W.Frag} {σ : St} {H : Hp} {i : Nat} {p : Addr} {xs : List V} {k : Int} {v : V} (e : σ[i]? = some (some (.ref p))) (h : H p = some (.lst xs)) (hk : atI xs k = some v) : PuT (tOp (rIxL K) (tVar i) (tC (.int k))) σ H v := fun _ s _ q =>
  ⟨_, e, z_ixL (SqL.of (s _ _ h)) hk q⟩
theorem pu_len {K : PySem.W.Frag} {σ : St} {H : Hp} {i : Nat} {p : Addr} {xs : List V} {n : Int} (e : σ[i]? = some (some (.ref p))) (h : H p = some (.lst xs)) (hn : (xs.length : Int) = n) : PuT (tCB (rLenS K) (tCons (tVar i) tNil)) σ H (.int n) := fun _ s _ q =>
  ⟨_, e, z_len (SqL.of (s _ _ h)) (by rw [hn]; exact q)⟩
theorem pu_xf {K : PySem.W.Frag} {te : TE} {σ : St} {H : Hp} {e0 C d : Addr} {f : Str} {v : V} (h : PuT te σ H (.ref e0)) (h1 : H e0 = some (exo e0 C (some d))) (h2 : H d = some (exd d [(f, v)])) (T : XfC K C) (no : PySem.W.findIn K (.ref C) f = some none) :
    PuT (tXfV K f te) σ H v := fun H' s Q q => h H' s _ ⟨e0, C, d, _, v, rfl, s _ _ h1, s _ _ h2, T, no, by simp [List.lookup], q⟩
/-- values on whose way new things may be made -/
def GrT (te : TE) (σ : St) (v : V) : Prop := ∀ (H : Hp) (Q : VK), (∀ H', Same H H' → Q v H') → te σ H Q
def GrA (ta : TA) (σ : St) (vs : List V) : Prop := ∀ (H : Hp) (Q : List V → Hp → Prop), (∀ H', Same H H' → Q vs H') → ta σ H Q
theorem GrA.nil {σ : St} : GrA tNil σ [] := fun H _ q => q H (Same.refl H)
theorem GrA.cons {te : TE} {ta : TA} {σ : St} {v : V} {vs : List V} (h : GrT te σ v) (t : GrA ta σ vs) : GrA (tCons te ta) σ (v :: vs) := fun H Q q => h H _ fun H1 s1 => t H1 _ fun H2 s2 => q H2 (s1.trans s2)
theorem GrA.lst {ta : TA} {σ : St} {vs : List V} (h : GrA ta σ vs) (hl : vs.length ≤ 1000) {H : Hp} {Q : VK} (q : ∀ p H', Same H H' → H p = none → H' p = some (.lst vs) → Q (.ref p) H') : tLst ta σ H Q :=
  h H _ fun H1 s1 => ⟨Nat.le_trans hl (by decide), fun p hp => q p _ (same_new s1 hp) (s1.free hp) upd_same⟩
theorem GrA.cat {ta : TA} {σ : St} {vs ws : List V} {i : Nat} {p : Addr} (h : GrA ta σ ws) (hl : vs.length + ws.length ≤ 1000) (e : σ[i]? = some (some (.ref p))) {H : Hp} (hp : H p = some (.lst vs)) {Q : VK}
    (q : ∀ r H', Same H H' → H r = none → H' r = some (.lst (vs ++ ws)) → Q (.ref r) H') : tOp rCat (tVar i) (tLst ta) σ H Q := by
  refine ⟨_, e, h.lst (by omega) fun p2 H2 s2 n2 h2 => ?_⟩
  exact ⟨p, p2, vs, ws, rfl, rfl, s2 _ _ hp, h2, Nat.le_trans hl (by decide), fun r hr => q r _ (s2.trans (same_new (Same.refl _) hr)) (s2.free hr) upd_same⟩
theorem gr_xf {K : PySem.W.Frag} {te : TE} {σ : St} {C : Addr} {f : Str} {v : V} (h : MkT te σ C (some (f, v))) (T : XfC K C) (no : PySem.W.findIn K (.ref C) f = some none) : GrT (tXfV K f te) σ v := fun H Q q =>
  h H _ fun e H' s x => by
    obtain ⟨a, ea, d, h1, h2⟩ := x
    exact ⟨a, C, d, _, v, ea, h1, h2, T, no, by simp [List.lookup], q H' s⟩
/-- [e for i in range(n)], e pure -/
theorem lc_pure {ta : TA} {te : TE} {sl : Nat} {σ : St} {H : Hp} {Q : VK} {n : Nat} {f : Nat → V} (hn : n ≤ 10000) (ha : PuA ta σ H [.int n])
    (he : ∀ i < n, ∀ H', Same H H' → ∀ Q' : VK, Q' (f i) H' → te ((wipe σ [sl]).set sl (some (.int (0 + (i : Int))))) H' Q') (hw : ∀ x : V, wipe ((wipe σ [sl]).set sl (some x)) [sl] = wipe σ [sl])
    (q : ∀ p H', Same H H' → H p = none → H' p = some (.lst ((List.range n).map f)) → Q (.ref p) H') : tLc (iRng1 ta) (gName sl) tYes te [sl] σ H Q := by
  refine ha H (Same.refl H) _ ⟨n, rfl, by omega, by omega, fun D hD => ?_⟩
  have e0 : ((n : Int)).toNat = n := by omega
  rw [e0]
  refine lc_range (fun i H' => Same H H' ∧ H' D = some (.lst ((List.range i).map f))) ⟨same_new (Same.refl H) hD, upd_same⟩ (fun i H' hi ⟨s1, h1⟩ => ?_) (fun H' ⟨s1, h1⟩ => q D H' s1 hD h1)
  refine ⟨hw _, ?_⟩
  show te _ H' _
  refine he i hi H' s1 _ ?_
  refine ⟨_, h1, ?_, fun b o e => ?_, ?_⟩
  · rw [List.length_map, List.length_range]
    exact Nat.lt_of_lt_of_le (by omega : i < 10001) (by decide)
  · rw [upd_ne (ne_of_none e hD)]
    exact s1 b o e
  · rw [upd_same, List.range_succ, List.map_append]
    rfl
/-- X('m') where X has no __init__ of its own -/
def tMk1 (C : Addr) (ta : TE) : TE := fun σ H Q => ta σ H fun _ H1 => ∀ a, H1 a = none → Q (.ref a) (upd H1 a (ExO (.ref C) a))
theorem mk_1 {te : TE} {σ : St} {C : Addr} {v : V} (h : ∀ H, PuT te σ H v) : MkT (tMk1 C te) σ C none := fun H Q q =>
  h H H (Same.refl H) _ fun a ha => q _ _ (same_new (Same.refl H) ha) ⟨a, rfl, upd_same⟩
theorem mk_V {ta : TA} {σ : St} {C : Addr} {f : Str} {v : V} (h : ∀ H, PuA ta σ H [v]) : MkT (tMkV C (spX C f) ta) σ C (some (f, v)) := fun H Q q =>
  h H H (Same.refl H) _ ⟨by show 1 ≤ 1000; decide, fun a ha => ⟨a, v, rfl, upd_same, fun dx hdx hne => ⟨rfl, q _ _ (fun b o e => by
    have n1 : b ≠ a := ne_of_none e ha
    have hd0 : H dx = none := by rw [upd_ne hne] at hdx; exact hdx
    rw [upd_ne n1, upd_ne (ne_of_none e hd0), upd_ne n1]
    exact e) ⟨a, rfl, dx, upd_same, by rw [upd_ne hne, upd_same]⟩⟩⟩⟩
theorem pu_isQ {K : PySem.W.Frag} {ta : TA} {σ : St} {H : Hp} {a C : Addr} {c : V} {cv : Value} {b : Bool} (h : PuA ta σ H [.ref a, c]) (ea : ExAt H a C) (T : ExcC K C) (k : ClsV c cv) (e : PySem.W.kitOne K (.ref C) cv = some b) : PuT (tCB (rIsQ K) ta) σ H (.bl b) := fun H' s Q q =>
  h H' s _ ⟨a, C, c, cv, b, rfl, by
    rcases ea with h | ⟨d, fs, h1, h2⟩
    · exact .inl (s _ _ h)
    · exact .inr ⟨d, fs, s _ _ h1, s _ _ h2⟩, T, k, e, q⟩
theorem ExAt.mono {H H' : Hp} {a C : Addr} (s : Same H H') (h : ExAt H a C) : ExAt H' a C := by
  rcases h with h | ⟨d, fs, h1, h2⟩
  · exact .inl (s _ _ h)
  · exact .inr ⟨d, fs, s _ _ h1, s _ _ h2⟩
theorem z_isQ {K : PySem.W.Frag} {H : Hp} {Q : VK} {a C : Addr} {c : V} {cv : Value} {b : Bool} (ea : ExAt H a C) (T : ExcC K C) (k : ClsV c cv) (e : PySem.W.kitOne K (.ref C) cv = some b) (q : Q (.bl b) H) : rIsQ K [.ref a, c] H Q := ⟨a, C, c, cv, b, rfl, ea, T, k, e, q⟩
/-- an own exception class with one field, as the text has it -/
structure ClsX (P : Program) (w : World) (K : PySem.W.Frag) (mg : Str → Option Value) (base : Heap) (x f : Str) : Prop where
  T : OexC K (He.ga K x)
  g : mg x = some (.ref (He.ga K x))
  i : PySem.W.findIn K (.ref (He.ga K x)) "__init__" = some (some (.ref (He.ma K (He.ga K x) "__init__")))
  t : PySem.W.typeIn K (.ref (He.ma K (He.ga K x) "__init__")) = some (.type "function")
  fn : ∃ fd, FnOk P w K mg base CX0 1 (He.ma K (He.ga K x) "__init__") fd ["self", f] (spX (He.ga K x) f) ∧ Binds K fd ["self", f] []
  no : PySem.W.findIn K (.ref (He.ga K x)) f = some none
/-- one without fields -/
structure Cls0 (K : PySem.W.Frag) (mg : Str → Option Value) (x : Str) : Prop where
  q : PySem.W.excIn K (He.ga K x) He.veBase "ValueError.__new__" = true
  g : mg x = some (.ref (He.ga K x))
  k : PySem.W.keepIn K (.ref (He.ga K x)) = true
section
variable {X : Cx} {x f : Str} {e : Expr} {es : List Expr} {ta : TA} {te : TE} {p pos : Pos}
theorem pe_clsX (C : ClsX X.prog X.w X.K X.mg X.base x f) (hr : Room 2 X.A) (hg : Gl X x) (ha : PA X (e :: es) ta) (hdb : (x == ("__debug__" : Str)) = false := by decide) (he : starEach (e :: es) X.env = (false, eval e X.env) :: starEach es X.env := by rfl)
    (hpl : (backTo pos (starEach es X.env)).any (·.1) = false := by rfl) : PE X (.Call (.Name x p) (e :: es) [] pos) (tMkV (He.ga X.K x) (spX (He.ga X.K x) f) ta) := by
  obtain ⟨fd, F, b⟩ := C.fn
  exact pe_excV C.T C.i C.t F hr b pass0 hg C.g ha hdb he hpl
theorem pe_cls0 (C : Cls0 X.K X.mg x) (hg : Gl X x) (he : PE X e te) (hs : starEach [e] X.env = (false, eval e X.env) :: starEach [] X.env := by rfl) (hdb : (x == ("__debug__" : Str)) = false := by decide) :
    PE X (.Call (.Name x p) [e] [] pos) (tMk1 (He.ga X.K x) te) := pe_exc1 PySem.F.excBase_ValueError C.q C.g C.k hg he hs hdb
end
/-- the __init__ of such a class -/
theorem init_ok {P : Program} {w : World} {K : PySem.W.Frag} {mg : Str → Option Value} {base : Heap} {x f qual : Str} {st : Stmt} {fd : FuncData} (F : FunD K "__init__" qual (defArgs st) (defBody st) (defScope st) [] [] (He.ma K (He.ga K x) "__init__") fd) (S : FnScope ["self", f] ["self", f] (defScope st))
    (T : OexC K (He.ga K x)) (no : PySem.W.findIn K (.ref (He.ga K x)) f = some none)
    (hbody : ∀ (cdv : Value) (A : Around) (outer : List Env) (s : Shared) (H : Hp) (E : XK), PSs (cxOf CX0 P w K mg base ["self", f] qual (defScope st) (He.ma K (He.ga K x) "__init__") cdv A outer s H E) (defBody st) (tOst K f (tVar 0) (tVar 1))) :
    FnOk P w K mg base CX0 1 (He.ma K (He.ga K x) "__init__") fd ["self", f] (spX (He.ga K x) f) := by
  refine F.ok S (fun vs H Q E h => ?_) (fun cdv A outer s H vs Q E hr h => ⟨_, hbody cdv A outer s H E, ?_⟩)
  · obtain ⟨a, v, rfl, _⟩ := h
    rfl
  · obtain ⟨a, v, rfl, ea, k⟩ := h
    exact ⟨v, rfl, .ref a, rfl, a, _, rfl, T, no, .inl ⟨ea, fun dx hd hne => k dx hd hne⟩⟩
/-! ### facts of the head, as one test -/
def xcB (K : PySem.W.Frag) (D : Addr) : Bool :=
  decide (PySem.W.findIn K (.ref D) "__getattribute__" = some (some (.builtin "BaseException.__getattribute__"))) && (decide (PySem.W.findIn K (.ref D) "__getattr__" = some none) && (decide (PySem.W.subIn K (.ref D) (.type "BaseException") = some true) &&
  (PySem.W.hasDictIn K D && (decide (PySem.W.findIn K (.ref D) "__class__" = some (some (.builtin "object.__class__"))) && (decide (PySem.W.specialIn K (.builtin "object.__class__") "__get__" = some (some (.builtin "getset_descriptor.__get__"))) &&
  (decide (PySem.W.takesIn K (.builtin "object.__class__") = some true) && decide (PySem.W.mroIn K D (.type "object") = some true)))))))
theorem xcB_ok {K : PySem.W.Frag} {D : Addr} (h : xcB K D = true) : ExcC K D := by
  obtain ⟨h1, h⟩ := He.ba h
  obtain ⟨h2, h⟩ := He.ba h
  obtain ⟨h3, h⟩ := He.ba h
  obtain ⟨h4, h⟩ := He.ba h
  obtain ⟨h5, h⟩ := He.ba h
  obtain ⟨h6, h⟩ := He.ba h
  obtain ⟨h7, h8⟩ := He.ba h
  exact ⟨of_decide_eq_true h1, of_decide_eq_true h2, of_decide_eq_true h3, h4, of_decide_eq_true h5, of_decide_eq_true h6, of_decide_eq_true h7, of_decide_eq_true h8⟩
theorem xf_of {K : PySem.W.Frag} {D : Addr} (h : ExcC K D) : XfC K D := ⟨h.hg, h.hk, h.hs, h.hd⟩
def oexB (K : PySem.W.Frag) (C : Addr) : Bool := (match K.lookup C with
  | some ⟨.type "type", _, .cls cd, sl⟩ => (match cd.mro, sl.toList with
    | .ref C' :: bm, [_, _, _, _, some (.builtin n), _] => C' == C && (n == "ValueError.__new__" && (!cd.hasDel && (cd.hasDict && PySem.HandSPX.refsVE bm)))
    | _, _ => false)
  | _ => false) && (decide (PySem.W.findIn K (.ref C) "__setattr__" = some (some (.builtin "object.__setattr__"))) && (decide (PySem.W.subIn K (.ref C) (.type "BaseException") = some true) && (decide (PySem.W.typeIn K (.ref C) = some (.type "type")) && PySem.W.keepIn K (.ref C))))
theorem oexB_ok {K : PySem.W.Frag} {C : Addr} (h : oexB K C = true) : OexC K C := by
  obtain ⟨q, h⟩ := He.ba h
  obtain ⟨h2, h⟩ := He.ba h
  obtain ⟨h3, h⟩ := He.ba h
  obtain ⟨h4, h5⟩ := He.ba h
  refine ⟨?_, of_decide_eq_true h2, of_decide_eq_true h3, of_decide_eq_true h4, h5⟩
  split at q
  · rename_i dd cd sl ho
    split at q
    · rename_i C' bm k0 k1 k2 k3 n k5 hm hs
      simp only [Bool.and_eq_true, beq_iff_eq, Bool.not_eq_true'] at q
      obtain ⟨rfl, rfl, hdel, hdct, ht⟩ := q
      obtain ⟨nm, bs, mro, ns, qn, hd, sn, sub, ab, col, del⟩ := cd
      dsimp only at hm hdel hdct
      subst hm hdel hdct
      have hsl : sl = #[k0, k1, k2, k3, some (.builtin "ValueError.__new__"), k5] := by
        obtain ⟨l⟩ := sl
        simp only at hs
        rw [hs]
      subst hsl
      exact ⟨nm, qn, ns, bs, bm, sn, sub, ab, col, dd, k0, k1, k2, k3, k5, ho, ht⟩
    · cases q
  · cases q
end Z

set_option Elab.async false
set_option linter.all false
set_option maxRecDepth 100000
set_option maxHeartbeats 4000000
namespace K53
open PySem PySem.Spec L2 Z
open PyProof.Rows hiding St
def top (i : Nat) : Stmt := PySem.Challenge.pw_leafsplits_k53_errors_made.main.body.getD i (.Pass ⟨0, 0, 0, 0⟩)
abbrev s_InvalidRule_init : Stmt := inClass (top 2) 0
theorem sc_InvalidRule_init : FnScope ["self", "item"] ["self", "item"] (defScope s_InvalidRule_init) := ⟨rfl, rfl, rfl, by decide +kernel, rfl, by decide +kernel, by decide +kernel⟩
abbrev s_InvalidLevels_init : Stmt := inClass (top 3) 0
theorem sc_InvalidLevels_init : FnScope ["self", "level"] ["self", "level"] (defScope s_InvalidLevels_init) := ⟨rfl, rfl, rfl, by decide +kernel, rfl, by decide +kernel, by decide +kernel⟩
abbrev s_InvalidScript_init : Stmt := inClass (top 4) 0
theorem sc_InvalidScript_init : FnScope ["self", "step"] ["self", "step"] (defScope s_InvalidScript_init) := ⟨rfl, rfl, rfl, by decide +kernel, rfl, by decide +kernel, by decide +kernel⟩
abbrev s_InvalidRuns_init : Stmt := inClass (top 5) 0
theorem sc_InvalidRuns_init : FnScope ["self", "item"] ["self", "item"] (defScope s_InvalidRuns_init) := ⟨rfl, rfl, rfl, by decide +kernel, rfl, by decide +kernel, by decide +kernel⟩
abbrev s_InvalidSeen_init : Stmt := inClass (top 6) 0
theorem sc_InvalidSeen_init : FnScope ["self", "item"] ["self", "item"] (defScope s_InvalidSeen_init) := ⟨rfl, rfl, rfl, by decide +kernel, rfl, by decide +kernel, by decide +kernel⟩
abbrev s_InvalidText_init : Stmt := inClass (top 7) 0
theorem sc_InvalidText_init : FnScope ["self", "part"] ["self", "part"] (defScope s_InvalidText_init) := ⟨rfl, rfl, rfl, by decide +kernel, rfl, by decide +kernel, by decide +kernel⟩
abbrev s_OverBudget_init : Stmt := inClass (top 8) 0
theorem sc_OverBudget_init : FnScope ["self", "count"] ["self", "count"] (defScope s_OverBudget_init) := ⟨rfl, rfl, rfl, by decide +kernel, rfl, by decide +kernel, by decide +kernel⟩
abbrev s_law_bag : Stmt := top 25
theorem sc_law_bag : FnScope ["cell"] ["cell"] (defScope s_law_bag) := ⟨rfl, rfl, rfl, by decide +kernel, rfl, by decide +kernel, by decide +kernel⟩
abbrev s_law_pick : Stmt := top 26
theorem sc_law_pick : FnScope ["bag", "many", "told", "seed", "turn", "first", "second", "drawn"] ["bag", "many"] (defScope s_law_pick) := ⟨rfl, rfl, rfl, by decide +kernel, rfl, by decide +kernel, by decide +kernel⟩
abbrev s_law_made : Stmt := top 27
theorem sc_law_made : FnScope ["number", "found"] ["number"] (defScope s_law_made) := ⟨rfl, rfl, rfl, by decide +kernel, rfl, by decide +kernel, by decide +kernel⟩
abbrev s_law_classes : Stmt := top 28
theorem sc_law_classes : FnScope ["one", "found"] ["one"] (defScope s_law_classes) := ⟨rfl, rfl, rfl, by decide +kernel, rfl, by decide +kernel, by decide +kernel⟩
abbrev s_law : Stmt := top 29
theorem sc_law : FnScope ["script", "bag", "turn", "number", "made", "k", "one", "told", "base", "some", "j"] ["script"] (defScope s_law) := ⟨rfl, rfl, rfl, by decide +kernel, rfl, by decide +kernel, by decide +kernel⟩
def d_InvalidRule_init : He.DefD := ⟨("InvalidRule", some "__init__"), "__init__", "InvalidRule.__init__", defArgs s_InvalidRule_init, defBody s_InvalidRule_init, defScope s_InvalidRule_init, [], []⟩
def d_InvalidLevels_init : He.DefD := ⟨("InvalidLevels", some "__init__"), "__init__", "InvalidLevels.__init__", defArgs s_InvalidLevels_init, defBody s_InvalidLevels_init, defScope s_InvalidLevels_init, [], []⟩
def d_InvalidScript_init : He.DefD := ⟨("InvalidScript", some "__init__"), "__init__", "InvalidScript.__init__", defArgs s_InvalidScript_init, defBody s_InvalidScript_init, defScope s_InvalidScript_init, [], []⟩
def d_InvalidRuns_init : He.DefD := ⟨("InvalidRuns", some "__init__"), "__init__", "InvalidRuns.__init__", defArgs s_InvalidRuns_init, defBody s_InvalidRuns_init, defScope s_InvalidRuns_init, [], []⟩
def d_InvalidSeen_init : He.DefD := ⟨("InvalidSeen", some "__init__"), "__init__", "InvalidSeen.__init__", defArgs s_InvalidSeen_init, defBody s_InvalidSeen_init, defScope s_InvalidSeen_init, [], []⟩
def d_InvalidText_init : He.DefD := ⟨("InvalidText", some "__init__"), "__init__", "InvalidText.__init__", defArgs s_InvalidText_init, defBody s_InvalidText_init, defScope s_InvalidText_init, [], []⟩
def d_OverBudget_init : He.DefD := ⟨("OverBudget", some "__init__"), "__init__", "OverBudget.__init__", defArgs s_OverBudget_init, defBody s_OverBudget_init, defScope s_OverBudget_init, [], []⟩
def d_law_bag : He.DefD := ⟨("_law_bag", none), "_law_bag", "_law_bag", defArgs s_law_bag, defBody s_law_bag, defScope s_law_bag, [], []⟩
def d_law_pick : He.DefD := ⟨("_law_pick", none), "_law_pick", "_law_pick", defArgs s_law_pick, defBody s_law_pick, defScope s_law_pick, [], []⟩
def d_law_made : He.DefD := ⟨("_law_made", none), "_law_made", "_law_made", defArgs s_law_made, defBody s_law_made, defScope s_law_made, [], []⟩
def d_law_classes : He.DefD := ⟨("_law_classes", none), "_law_classes", "_law_classes", defArgs s_law_classes, defBody s_law_classes, defScope s_law_classes, [], []⟩
def d_law : He.DefD := ⟨("law", none), "law", "law", defArgs s_law, defBody s_law, defScope s_law, [], []⟩
def fn : List He.DefD := [d_InvalidRule_init, d_InvalidLevels_init, d_InvalidScript_init, d_InvalidRuns_init, d_InvalidSeen_init, d_InvalidText_init, d_OverBudget_init, d_law_bag, d_law_pick, d_law_made, d_law_classes, d_law]
def fa : List He.Fa := [.glo "_law_bag", .glo "_law_pick", .glo "_law_made", .glo "_law_classes", .glo "law", .glo "PageError", .glo "InvalidRule", .glo "InvalidLevels", .glo "InvalidScript", .glo "InvalidRuns", .glo "InvalidSeen", .glo "InvalidText", .glo "OverBudget", .glo "InvalidIndex", .glo "InvalidKind", .glo "InvalidGap", .glo "InvalidNumber", .glo "InvalidLevel", .glo "InvalidPage", .glo "InvalidEntry", .glo "InvalidLength", .glo "InvalidHeight", .glo "InvalidLeaves", .glo "InvalidBudget", .glo "UnlikeRules", .glo "InvalidOperation", .glo "Nothing", .glo "InvalidCommand", .free "max", .free "int", .free "range", .free "enumerate", .free "len", .free "isinstance", .free "ValueError", .exc "PageError", .exc "InvalidIndex", .exc "InvalidKind", .exc "InvalidGap", .exc "InvalidNumber", .exc "InvalidLevel", .exc "InvalidPage", .exc "InvalidEntry", .exc "InvalidLength", .exc "InvalidHeight", .exc "InvalidLeaves", .exc "InvalidBudget", .exc "UnlikeRules", .exc "InvalidOperation", .exc "Nothing", .exc "InvalidCommand"]
def fielded : List (Str × Str) := [("InvalidRule", "item"), ("InvalidLevels", "level"), ("InvalidScript", "step"), ("InvalidRuns", "item"), ("InvalidSeen", "item"), ("InvalidText", "part"), ("OverBudget", "count")]
def excs : List Str := ["InvalidRule", "InvalidLevels", "InvalidScript", "InvalidRuns", "InvalidSeen", "InvalidText", "OverBudget", "PageError", "InvalidIndex", "InvalidKind", "InvalidGap", "InvalidNumber", "InvalidLevel", "InvalidPage", "InvalidEntry", "InvalidLength", "InvalidHeight", "InvalidLeaves", "InvalidBudget", "UnlikeRules", "InvalidOperation", "Nothing", "InvalidCommand"]
def exA (K : PySem.W.Frag) : Bool := (excs.all fun x => Z.xcB K (He.ga K x)) &&
  (fielded.all fun q => Z.oexB K (He.ga K q.1) && (decide (PySem.W.findIn K (.ref (He.ga K q.1)) "__init__" = some (some (.ref (He.ma K (He.ga K q.1) "__init__")))) && (decide (PySem.W.typeIn K (.ref (He.ma K (He.ga K q.1) "__init__")) = some (.type "function")) && decide (PySem.W.findIn K (.ref (He.ga K q.1)) q.2 = some none))))
def errs : List Str := ["InvalidRule", "InvalidLevels", "InvalidScript", "InvalidRuns", "InvalidSeen", "InvalidText", "OverBudget", "InvalidIndex", "InvalidKind", "InvalidGap", "InvalidNumber", "InvalidLevel", "InvalidPage", "InvalidEntry", "InvalidLength", "InvalidHeight", "InvalidLeaves", "InvalidBudget", "UnlikeRules", "InvalidOperation", "Nothing", "InvalidCommand"]
def exB (K : PySem.W.Frag) : Bool := (("PageError" : Str) :: errs).all fun x => decide (PySem.W.kitOne K (.ref (He.ga K x)) (.type "ValueError") = some true) && (decide (PySem.W.kitOne K (.ref (He.ga K x)) (.ref (He.ga K "PageError")) = some true) &&
  errs.all fun y => decide (PySem.W.kitOne K (.ref (He.ga K x)) (.ref (He.ga K y)) = some (decide (x = y))))
def ex (K : PySem.W.Frag) : Bool := exA K && exB K
abbrev R : PySem.W.OpenRow := PySem.W.OpenLaw.row PySem.Challenge.rw_leafsplits_k53_errors_made
abbrev hk : PySem.W.Hook := He.hookX 6 fa fn [] [] ex
def ob (s : PySem.W.SharedT) : He.AlX := He.obsX 6 fa fn [] [] ex (HandSHeadRun.getT s)
theorem ob_eq (s : PySem.W.SharedT) : ob s = hk.obs s.abs := He.obsX_eq (HandSHeadRun.getT_eq s)

def loose0 : List Str := ["PageError", "InvalidRule", "InvalidLevels", "InvalidScript", "InvalidRuns", "InvalidSeen", "InvalidText", "OverBudget", "InvalidIndex", "InvalidKind", "InvalidGap", "InvalidNumber", "InvalidLevel", "InvalidPage", "InvalidEntry", "InvalidLength", "InvalidHeight", "InvalidLeaves", "InvalidBudget", "UnlikeRules", "InvalidOperation", "Nothing", "InvalidCommand", "_law_bag", "_law_pick", "_law_made", "_law_classes"]
def loose : List Str := loose0
theorem run (w : World) : HandSHeadRun.RunEq R (PySem.W.view R.prog [29]) hk ob 20000 loose w := by
  intro os
  kernel_rfl
structure Txt (K : PySem.W.Frag) (mg : Str → Option Value) : Prop where
  max : mg "max" = none
  int : mg "int" = none
  range : mg "range" = none
  enumerate : mg "enumerate" = none
  len : mg "len" = none
  isinstance : mg "isinstance" = none
  ValueError : mg "ValueError" = none
  c_PageError : mg "PageError" = some (.ref (He.ga K "PageError"))
  c_InvalidRule : mg "InvalidRule" = some (.ref (He.ga K "InvalidRule"))
  c_InvalidLevels : mg "InvalidLevels" = some (.ref (He.ga K "InvalidLevels"))
  c_InvalidScript : mg "InvalidScript" = some (.ref (He.ga K "InvalidScript"))
  c_InvalidRuns : mg "InvalidRuns" = some (.ref (He.ga K "InvalidRuns"))
  c_InvalidSeen : mg "InvalidSeen" = some (.ref (He.ga K "InvalidSeen"))
  c_InvalidText : mg "InvalidText" = some (.ref (He.ga K "InvalidText"))
  c_OverBudget : mg "OverBudget" = some (.ref (He.ga K "OverBudget"))
  c_InvalidIndex : mg "InvalidIndex" = some (.ref (He.ga K "InvalidIndex"))
  c_InvalidKind : mg "InvalidKind" = some (.ref (He.ga K "InvalidKind"))
  c_InvalidGap : mg "InvalidGap" = some (.ref (He.ga K "InvalidGap"))
  c_InvalidNumber : mg "InvalidNumber" = some (.ref (He.ga K "InvalidNumber"))
  c_InvalidLevel : mg "InvalidLevel" = some (.ref (He.ga K "InvalidLevel"))
  c_InvalidPage : mg "InvalidPage" = some (.ref (He.ga K "InvalidPage"))
  c_InvalidEntry : mg "InvalidEntry" = some (.ref (He.ga K "InvalidEntry"))
  c_InvalidLength : mg "InvalidLength" = some (.ref (He.ga K "InvalidLength"))
  c_InvalidHeight : mg "InvalidHeight" = some (.ref (He.ga K "InvalidHeight"))
  c_InvalidLeaves : mg "InvalidLeaves" = some (.ref (He.ga K "InvalidLeaves"))
  c_InvalidBudget : mg "InvalidBudget" = some (.ref (He.ga K "InvalidBudget"))
  c_UnlikeRules : mg "UnlikeRules" = some (.ref (He.ga K "UnlikeRules"))
  c_InvalidOperation : mg "InvalidOperation" = some (.ref (He.ga K "InvalidOperation"))
  c_Nothing : mg "Nothing" = some (.ref (He.ga K "Nothing"))
  c_InvalidCommand : mg "InvalidCommand" = some (.ref (He.ga K "InvalidCommand"))
  x_PageError : Z.Cls0 K mg "PageError"
  x_InvalidIndex : Z.Cls0 K mg "InvalidIndex"
  x_InvalidKind : Z.Cls0 K mg "InvalidKind"
  x_InvalidGap : Z.Cls0 K mg "InvalidGap"
  x_InvalidNumber : Z.Cls0 K mg "InvalidNumber"
  x_InvalidLevel : Z.Cls0 K mg "InvalidLevel"
  x_InvalidPage : Z.Cls0 K mg "InvalidPage"
  x_InvalidEntry : Z.Cls0 K mg "InvalidEntry"
  x_InvalidLength : Z.Cls0 K mg "InvalidLength"
  x_InvalidHeight : Z.Cls0 K mg "InvalidHeight"
  x_InvalidLeaves : Z.Cls0 K mg "InvalidLeaves"
  x_InvalidBudget : Z.Cls0 K mg "InvalidBudget"
  x_UnlikeRules : Z.Cls0 K mg "UnlikeRules"
  x_InvalidOperation : Z.Cls0 K mg "InvalidOperation"
  x_Nothing : Z.Cls0 K mg "Nothing"
  x_InvalidCommand : Z.Cls0 K mg "InvalidCommand"
theorem txt_ok {K : PySem.W.Frag} {mg : Str → Option Value} {h : Heap} {w : World} (X : K.In h) (G : h.Ns mainGlobals mg) (c : He.SaysX fa fn [] [] ex w h K) : Txt K mg where
  max := He.free_ok X G (c.t.d.fact 28 (f := .free "max") rfl)
  int := He.free_ok X G (c.t.d.fact 29 (f := .free "int") rfl)
  range := He.free_ok X G (c.t.d.fact 30 (f := .free "range") rfl)
  enumerate := He.free_ok X G (c.t.d.fact 31 (f := .free "enumerate") rfl)
  len := He.free_ok X G (c.t.d.fact 32 (f := .free "len") rfl)
  isinstance := He.free_ok X G (c.t.d.fact 33 (f := .free "isinstance") rfl)
  ValueError := He.free_ok X G (c.t.d.fact 34 (f := .free "ValueError") rfl)
  c_PageError := He.glo_ok X G (c.t.d.fact 5 (f := .glo "PageError") rfl)
  c_InvalidRule := He.glo_ok X G (c.t.d.fact 6 (f := .glo "InvalidRule") rfl)
  c_InvalidLevels := He.glo_ok X G (c.t.d.fact 7 (f := .glo "InvalidLevels") rfl)
  c_InvalidScript := He.glo_ok X G (c.t.d.fact 8 (f := .glo "InvalidScript") rfl)
  c_InvalidRuns := He.glo_ok X G (c.t.d.fact 9 (f := .glo "InvalidRuns") rfl)
  c_InvalidSeen := He.glo_ok X G (c.t.d.fact 10 (f := .glo "InvalidSeen") rfl)
  c_InvalidText := He.glo_ok X G (c.t.d.fact 11 (f := .glo "InvalidText") rfl)
  c_OverBudget := He.glo_ok X G (c.t.d.fact 12 (f := .glo "OverBudget") rfl)
  c_InvalidIndex := He.glo_ok X G (c.t.d.fact 13 (f := .glo "InvalidIndex") rfl)
  c_InvalidKind := He.glo_ok X G (c.t.d.fact 14 (f := .glo "InvalidKind") rfl)
  c_InvalidGap := He.glo_ok X G (c.t.d.fact 15 (f := .glo "InvalidGap") rfl)
  c_InvalidNumber := He.glo_ok X G (c.t.d.fact 16 (f := .glo "InvalidNumber") rfl)
  c_InvalidLevel := He.glo_ok X G (c.t.d.fact 17 (f := .glo "InvalidLevel") rfl)
  c_InvalidPage := He.glo_ok X G (c.t.d.fact 18 (f := .glo "InvalidPage") rfl)
  c_InvalidEntry := He.glo_ok X G (c.t.d.fact 19 (f := .glo "InvalidEntry") rfl)
  c_InvalidLength := He.glo_ok X G (c.t.d.fact 20 (f := .glo "InvalidLength") rfl)
  c_InvalidHeight := He.glo_ok X G (c.t.d.fact 21 (f := .glo "InvalidHeight") rfl)
  c_InvalidLeaves := He.glo_ok X G (c.t.d.fact 22 (f := .glo "InvalidLeaves") rfl)
  c_InvalidBudget := He.glo_ok X G (c.t.d.fact 23 (f := .glo "InvalidBudget") rfl)
  c_UnlikeRules := He.glo_ok X G (c.t.d.fact 24 (f := .glo "UnlikeRules") rfl)
  c_InvalidOperation := He.glo_ok X G (c.t.d.fact 25 (f := .glo "InvalidOperation") rfl)
  c_Nothing := He.glo_ok X G (c.t.d.fact 26 (f := .glo "Nothing") rfl)
  c_InvalidCommand := He.glo_ok X G (c.t.d.fact 27 (f := .glo "InvalidCommand") rfl)
  x_PageError := ⟨(He.exc_ok (c.t.d.fact 35 (f := .exc "PageError") rfl)).1, He.glo_ok X G (c.t.d.fact 5 (f := .glo "PageError") rfl), (He.exc_ok (c.t.d.fact 35 (f := .exc "PageError") rfl)).2.1⟩
  x_InvalidIndex := ⟨(He.exc_ok (c.t.d.fact 36 (f := .exc "InvalidIndex") rfl)).1, He.glo_ok X G (c.t.d.fact 13 (f := .glo "InvalidIndex") rfl), (He.exc_ok (c.t.d.fact 36 (f := .exc "InvalidIndex") rfl)).2.1⟩
  x_InvalidKind := ⟨(He.exc_ok (c.t.d.fact 37 (f := .exc "InvalidKind") rfl)).1, He.glo_ok X G (c.t.d.fact 14 (f := .glo "InvalidKind") rfl), (He.exc_ok (c.t.d.fact 37 (f := .exc "InvalidKind") rfl)).2.1⟩
  x_InvalidGap := ⟨(He.exc_ok (c.t.d.fact 38 (f := .exc "InvalidGap") rfl)).1, He.glo_ok X G (c.t.d.fact 15 (f := .glo "InvalidGap") rfl), (He.exc_ok (c.t.d.fact 38 (f := .exc "InvalidGap") rfl)).2.1⟩
  x_InvalidNumber := ⟨(He.exc_ok (c.t.d.fact 39 (f := .exc "InvalidNumber") rfl)).1, He.glo_ok X G (c.t.d.fact 16 (f := .glo "InvalidNumber") rfl), (He.exc_ok (c.t.d.fact 39 (f := .exc "InvalidNumber") rfl)).2.1⟩
  x_InvalidLevel := ⟨(He.exc_ok (c.t.d.fact 40 (f := .exc "InvalidLevel") rfl)).1, He.glo_ok X G (c.t.d.fact 17 (f := .glo "InvalidLevel") rfl), (He.exc_ok (c.t.d.fact 40 (f := .exc "InvalidLevel") rfl)).2.1⟩
  x_InvalidPage := ⟨(He.exc_ok (c.t.d.fact 41 (f := .exc "InvalidPage") rfl)).1, He.glo_ok X G (c.t.d.fact 18 (f := .glo "InvalidPage") rfl), (He.exc_ok (c.t.d.fact 41 (f := .exc "InvalidPage") rfl)).2.1⟩
  x_InvalidEntry := ⟨(He.exc_ok (c.t.d.fact 42 (f := .exc "InvalidEntry") rfl)).1, He.glo_ok X G (c.t.d.fact 19 (f := .glo "InvalidEntry") rfl), (He.exc_ok (c.t.d.fact 42 (f := .exc "InvalidEntry") rfl)).2.1⟩
  x_InvalidLength := ⟨(He.exc_ok (c.t.d.fact 43 (f := .exc "InvalidLength") rfl)).1, He.glo_ok X G (c.t.d.fact 20 (f := .glo "InvalidLength") rfl), (He.exc_ok (c.t.d.fact 43 (f := .exc "InvalidLength") rfl)).2.1⟩
  x_InvalidHeight := ⟨(He.exc_ok (c.t.d.fact 44 (f := .exc "InvalidHeight") rfl)).1, He.glo_ok X G (c.t.d.fact 21 (f := .glo "InvalidHeight") rfl), (He.exc_ok (c.t.d.fact 44 (f := .exc "InvalidHeight") rfl)).2.1⟩
  x_InvalidLeaves := ⟨(He.exc_ok (c.t.d.fact 45 (f := .exc "InvalidLeaves") rfl)).1, He.glo_ok X G (c.t.d.fact 22 (f := .glo "InvalidLeaves") rfl), (He.exc_ok (c.t.d.fact 45 (f := .exc "InvalidLeaves") rfl)).2.1⟩
  x_InvalidBudget := ⟨(He.exc_ok (c.t.d.fact 46 (f := .exc "InvalidBudget") rfl)).1, He.glo_ok X G (c.t.d.fact 23 (f := .glo "InvalidBudget") rfl), (He.exc_ok (c.t.d.fact 46 (f := .exc "InvalidBudget") rfl)).2.1⟩
  x_UnlikeRules := ⟨(He.exc_ok (c.t.d.fact 47 (f := .exc "UnlikeRules") rfl)).1, He.glo_ok X G (c.t.d.fact 24 (f := .glo "UnlikeRules") rfl), (He.exc_ok (c.t.d.fact 47 (f := .exc "UnlikeRules") rfl)).2.1⟩
  x_InvalidOperation := ⟨(He.exc_ok (c.t.d.fact 48 (f := .exc "InvalidOperation") rfl)).1, He.glo_ok X G (c.t.d.fact 25 (f := .glo "InvalidOperation") rfl), (He.exc_ok (c.t.d.fact 48 (f := .exc "InvalidOperation") rfl)).2.1⟩
  x_Nothing := ⟨(He.exc_ok (c.t.d.fact 49 (f := .exc "Nothing") rfl)).1, He.glo_ok X G (c.t.d.fact 26 (f := .glo "Nothing") rfl), (He.exc_ok (c.t.d.fact 49 (f := .exc "Nothing") rfl)).2.1⟩
  x_InvalidCommand := ⟨(He.exc_ok (c.t.d.fact 50 (f := .exc "InvalidCommand") rfl)).1, He.glo_ok X G (c.t.d.fact 27 (f := .glo "InvalidCommand") rfl), (He.exc_ok (c.t.d.fact 50 (f := .exc "InvalidCommand") rfl)).2.1⟩
theorem D_law_bag {K : PySem.W.Frag} {mg : Str → Option Value} {h : Heap} {w : World} (X : K.In h) (G : h.Ns mainGlobals mg) (c : He.SaysX fa fn [] [] ex w h K) : Def K mg "_law_bag" s_law_bag := by
  obtain ⟨fd, F⟩ := c.t.d.def_ 7 (d := d_law_bag) rfl
  exact ⟨_, fd, F, He.glo_ok X G (c.t.d.fact 0 (f := .glo "_law_bag") rfl)⟩
theorem D_law_pick {K : PySem.W.Frag} {mg : Str → Option Value} {h : Heap} {w : World} (X : K.In h) (G : h.Ns mainGlobals mg) (c : He.SaysX fa fn [] [] ex w h K) : Def K mg "_law_pick" s_law_pick := by
  obtain ⟨fd, F⟩ := c.t.d.def_ 8 (d := d_law_pick) rfl
  exact ⟨_, fd, F, He.glo_ok X G (c.t.d.fact 1 (f := .glo "_law_pick") rfl)⟩
theorem D_law_made {K : PySem.W.Frag} {mg : Str → Option Value} {h : Heap} {w : World} (X : K.In h) (G : h.Ns mainGlobals mg) (c : He.SaysX fa fn [] [] ex w h K) : Def K mg "_law_made" s_law_made := by
  obtain ⟨fd, F⟩ := c.t.d.def_ 9 (d := d_law_made) rfl
  exact ⟨_, fd, F, He.glo_ok X G (c.t.d.fact 2 (f := .glo "_law_made") rfl)⟩
theorem D_law_classes {K : PySem.W.Frag} {mg : Str → Option Value} {h : Heap} {w : World} (X : K.In h) (G : h.Ns mainGlobals mg) (c : He.SaysX fa fn [] [] ex w h K) : Def K mg "_law_classes" s_law_classes := by
  obtain ⟨fd, F⟩ := c.t.d.def_ 10 (d := d_law_classes) rfl
  exact ⟨_, fd, F, He.glo_ok X G (c.t.d.fact 3 (f := .glo "_law_classes") rfl)⟩
theorem D_law {K : PySem.W.Frag} {mg : Str → Option Value} {h : Heap} {w : World} (X : K.In h) (G : h.Ns mainGlobals mg) (c : He.SaysX fa fn [] [] ex w h K) : Def K mg "law" s_law := by
  obtain ⟨fd, F⟩ := c.t.d.def_ 11 (d := d_law) rfl
  exact ⟨_, fd, F, He.glo_ok X G (c.t.d.fact 4 (f := .glo "law") rfl)⟩
theorem exA_ok {K : PySem.W.Frag} {h : Heap} {w : World} (c : He.SaysX fa fn [] [] ex w h K) : exA K = true := (He.ba c.more).1
theorem exB_ok {K : PySem.W.Frag} {h : Heap} {w : World} (c : He.SaysX fa fn [] [] ex w h K) : exB K = true := (He.ba c.more).2
theorem exc_ok {K : PySem.W.Frag} (c : exA K = true) (x : Str) (hx : x ∈ excs) : ExcC K (He.ga K x) := Z.xcB_ok (List.all_eq_true.mp (He.ba c).1 x hx)
theorem X_InvalidRule {P : Program} {w w2 : World} {K : PySem.W.Frag} {mg : Str → Option Value} {h base : Heap} (X : K.In h) (G : h.Ns mainGlobals mg) (c : He.SaysX fa fn [] [] ex w h K) : ClsX P w2 K mg base "InvalidRule" "item" := by
  obtain ⟨fd, F⟩ := c.t.d.def_ 0 (d := d_InvalidRule_init) rfl
  obtain ⟨c1, c2⟩ := He.ba (List.all_eq_true.mp (He.ba (exA_ok c)).2 (("InvalidRule" : Str), ("item" : Str)) (by decide +kernel))
  obtain ⟨c2, c3⟩ := He.ba c2
  obtain ⟨c3, c4⟩ := He.ba c3
  exact ⟨Z.oexB_ok c1, He.glo_ok X G (c.t.d.fact 6 (f := .glo "InvalidRule") rfl), of_decide_eq_true c2, of_decide_eq_true c3, ⟨fd, init_ok (qual := "InvalidRule.__init__") (st := s_InvalidRule_init) F sc_InvalidRule_init (Z.oexB_ok c1) (of_decide_eq_true c4) (fun _ _ _ _ _ _ => pss_one (ps_ost (pv 0) (pv 1))), F.bindsN fun _ _ _ _ _ _ us hl => match us, hl with | [_, _], _ => rfl⟩, of_decide_eq_true c4⟩
theorem X_InvalidLevels {P : Program} {w w2 : World} {K : PySem.W.Frag} {mg : Str → Option Value} {h base : Heap} (X : K.In h) (G : h.Ns mainGlobals mg) (c : He.SaysX fa fn [] [] ex w h K) : ClsX P w2 K mg base "InvalidLevels" "level" := by
  obtain ⟨fd, F⟩ := c.t.d.def_ 1 (d := d_InvalidLevels_init) rfl
  obtain ⟨c1, c2⟩ := He.ba (List.all_eq_true.mp (He.ba (exA_ok c)).2 (("InvalidLevels" : Str), ("level" : Str)) (by decide +kernel))
  obtain ⟨c2, c3⟩ := He.ba c2
  obtain ⟨c3, c4⟩ := He.ba c3
  exact ⟨Z.oexB_ok c1, He.glo_ok X G (c.t.d.fact 7 (f := .glo "InvalidLevels") rfl), of_decide_eq_true c2, of_decide_eq_true c3, ⟨fd, init_ok (qual := "InvalidLevels.__init__") (st := s_InvalidLevels_init) F sc_InvalidLevels_init (Z.oexB_ok c1) (of_decide_eq_true c4) (fun _ _ _ _ _ _ => pss_one (ps_ost (pv 0) (pv 1))), F.bindsN fun _ _ _ _ _ _ us hl => match us, hl with | [_, _], _ => rfl⟩, of_decide_eq_true c4⟩
theorem X_InvalidScript {P : Program} {w w2 : World} {K : PySem.W.Frag} {mg : Str → Option Value} {h base : Heap} (X : K.In h) (G : h.Ns mainGlobals mg) (c : He.SaysX fa fn [] [] ex w h K) : ClsX P w2 K mg base "InvalidScript" "step" := by
  obtain ⟨fd, F⟩ := c.t.d.def_ 2 (d := d_InvalidScript_init) rfl
  obtain ⟨c1, c2⟩ := He.ba (List.all_eq_true.mp (He.ba (exA_ok c)).2 (("InvalidScript" : Str), ("step" : Str)) (by decide +kernel))
  obtain ⟨c2, c3⟩ := He.ba c2
  obtain ⟨c3, c4⟩ := He.ba c3
  exact ⟨Z.oexB_ok c1, He.glo_ok X G (c.t.d.fact 8 (f := .glo "InvalidScript") rfl), of_decide_eq_true c2, of_decide_eq_true c3, ⟨fd, init_ok (qual := "InvalidScript.__init__") (st := s_InvalidScript_init) F sc_InvalidScript_init (Z.oexB_ok c1) (of_decide_eq_true c4) (fun _ _ _ _ _ _ => pss_one (ps_ost (pv 0) (pv 1))), F.bindsN fun _ _ _ _ _ _ us hl => match us, hl with | [_, _], _ => rfl⟩, of_decide_eq_true c4⟩
theorem X_InvalidRuns {P : Program} {w w2 : World} {K : PySem.W.Frag} {mg : Str → Option Value} {h base : Heap} (X : K.In h) (G : h.Ns mainGlobals mg) (c : He.SaysX fa fn [] [] ex w h K) : ClsX P w2 K mg base "InvalidRuns" "item" := by
  obtain ⟨fd, F⟩ := c.t.d.def_ 3 (d := d_InvalidRuns_init) rfl
  obtain ⟨c1, c2⟩ := He.ba (List.all_eq_true.mp (He.ba (exA_ok c)).2 (("InvalidRuns" : Str), ("item" : Str)) (by decide +kernel))
  obtain ⟨c2, c3⟩ := He.ba c2
  obtain ⟨c3, c4⟩ := He.ba c3
  exact ⟨Z.oexB_ok c1, He.glo_ok X G (c.t.d.fact 9 (f := .glo "InvalidRuns") rfl), of_decide_eq_true c2, of_decide_eq_true c3, ⟨fd, init_ok (qual := "InvalidRuns.__init__") (st := s_InvalidRuns_init) F sc_InvalidRuns_init (Z.oexB_ok c1) (of_decide_eq_true c4) (fun _ _ _ _ _ _ => pss_one (ps_ost (pv 0) (pv 1))), F.bindsN fun _ _ _ _ _ _ us hl => match us, hl with | [_, _], _ => rfl⟩, of_decide_eq_true c4⟩
theorem X_InvalidSeen {P : Program} {w w2 : World} {K : PySem.W.Frag} {mg : Str → Option Value} {h base : Heap} (X : K.In h) (G : h.Ns mainGlobals mg) (c : He.SaysX fa fn [] [] ex w h K) : ClsX P w2 K mg base "InvalidSeen" "item" := by
  obtain ⟨fd, F⟩ := c.t.d.def_ 4 (d := d_InvalidSeen_init) rfl
  obtain ⟨c1, c2⟩ := He.ba (List.all_eq_true.mp (He.ba (exA_ok c)).2 (("InvalidSeen" : Str), ("item" : Str)) (by decide +kernel))
  obtain ⟨c2, c3⟩ := He.ba c2
  obtain ⟨c3, c4⟩ := He.ba c3
  exact ⟨Z.oexB_ok c1, He.glo_ok X G (c.t.d.fact 10 (f := .glo "InvalidSeen") rfl), of_decide_eq_true c2, of_decide_eq_true c3, ⟨fd, init_ok (qual := "InvalidSeen.__init__") (st := s_InvalidSeen_init) F sc_InvalidSeen_init (Z.oexB_ok c1) (of_decide_eq_true c4) (fun _ _ _ _ _ _ => pss_one (ps_ost (pv 0) (pv 1))), F.bindsN fun _ _ _ _ _ _ us hl => match us, hl with | [_, _], _ => rfl⟩, of_decide_eq_true c4⟩
theorem X_InvalidText {P : Program} {w w2 : World} {K : PySem.W.Frag} {mg : Str → Option Value} {h base : Heap} (X : K.In h) (G : h.Ns mainGlobals mg) (c : He.SaysX fa fn [] [] ex w h K) : ClsX P w2 K mg base "InvalidText" "part" := by
  obtain ⟨fd, F⟩ := c.t.d.def_ 5 (d := d_InvalidText_init) rfl
  obtain ⟨c1, c2⟩ := He.ba (List.all_eq_true.mp (He.ba (exA_ok c)).2 (("InvalidText" : Str), ("part" : Str)) (by decide +kernel))
  obtain ⟨c2, c3⟩ := He.ba c2
  obtain ⟨c3, c4⟩ := He.ba c3
  exact ⟨Z.oexB_ok c1, He.glo_ok X G (c.t.d.fact 11 (f := .glo "InvalidText") rfl), of_decide_eq_true c2, of_decide_eq_true c3, ⟨fd, init_ok (qual := "InvalidText.__init__") (st := s_InvalidText_init) F sc_InvalidText_init (Z.oexB_ok c1) (of_decide_eq_true c4) (fun _ _ _ _ _ _ => pss_one (ps_ost (pv 0) (pv 1))), F.bindsN fun _ _ _ _ _ _ us hl => match us, hl with | [_, _], _ => rfl⟩, of_decide_eq_true c4⟩
theorem X_OverBudget {P : Program} {w w2 : World} {K : PySem.W.Frag} {mg : Str → Option Value} {h base : Heap} (X : K.In h) (G : h.Ns mainGlobals mg) (c : He.SaysX fa fn [] [] ex w h K) : ClsX P w2 K mg base "OverBudget" "count" := by
  obtain ⟨fd, F⟩ := c.t.d.def_ 6 (d := d_OverBudget_init) rfl
  obtain ⟨c1, c2⟩ := He.ba (List.all_eq_true.mp (He.ba (exA_ok c)).2 (("OverBudget" : Str), ("count" : Str)) (by decide +kernel))
  obtain ⟨c2, c3⟩ := He.ba c2
  obtain ⟨c3, c4⟩ := He.ba c3
  exact ⟨Z.oexB_ok c1, He.glo_ok X G (c.t.d.fact 12 (f := .glo "OverBudget") rfl), of_decide_eq_true c2, of_decide_eq_true c3, ⟨fd, init_ok (qual := "OverBudget.__init__") (st := s_OverBudget_init) F sc_OverBudget_init (Z.oexB_ok c1) (of_decide_eq_true c4) (fun _ _ _ _ _ _ => pss_one (ps_ost (pv 0) (pv 1))), F.bindsN fun _ _ _ _ _ _ us hl => match us, hl with | [_, _], _ => rfl⟩, of_decide_eq_true c4⟩
end K53
set_option Elab.async false
set_option linter.all false
set_option maxRecDepth 100000
set_option maxHeartbeats 4000000
namespace K53
open PySem PySem.Spec L2 Z
open PyProof.Rows hiding St
local macro_rules | `(tactic| walk_at "z") => `(tactic| first
  | with_reducible refine Z.z_seq ?_
  | with_reducible refine Z.z_asg ?_
  | with_reducible refine Z.z_op ?_
  | with_reducible refine Z.z_cons ?_
  | with_reducible refine Z.z_nil ?_
  | with_reducible refine Z.z_c ?_
  | ((with_reducible refine' Z.z_var ?e ?_); (case e => exact rfl))
  | ((with_reducible refine' Z.z_name ?e ?_); (case e => repeat constructor))
  | with_reducible refine Z.z_sub ?_
  | with_reducible refine Z.z_I0 ?_
  | with_reducible refine Z.z_eqI ?_
  | with_reducible refine Z.z_neI ?_
  | with_reducible refine Z.z_cb ?_
  | with_reducible refine Z.z_int1 ?_
  | with_reducible refine Z.z_max2 ?_
  | with_reducible refine Z.z_min2 ?_
  | with_reducible refine Z.z_call ?_
  | with_reducible refine Z.z_test ?_
  | with_reducible refine Z.z_B ?_
  | with_reducible refine Z.z_ex _ ?_
  | with_reducible refine Z.z_and ?_
  | with_reducible refine Z.z_or ?_
  | with_reducible refine Z.z_not ?_
  | with_reducible refine Z.z_andV ?_
  | with_reducible refine Z.z_orV ?_
  | with_reducible refine Z.z_notV ?_
  | with_reducible refine Z.z_ifE ?_
  | with_reducible refine Z.z_chain ?_
  | with_reducible refine Z.z_if ?_
  | with_reducible refine Z.z_ret ?_
  | with_reducible refine Z.z_retN ?_
  | with_reducible refine Z.z_next ?_
  | with_reducible refine Z.z_brk ?_
  | with_reducible refine Z.z_cont ?_
  | with_reducible refine Z.z_drop ?_
  | with_reducible refine Z.z_un ?_
  | with_reducible refine Z.z_U ?_
  | with_reducible refine Z.z_lst ?_
  | with_reducible refine Z.z_tup ?_
  | with_reducible refine Z.z_par ?_
  | ((with_reducible refine' Z.z_par2 ?e1 ?e2 ?_); (case e1 => repeat constructor); (case e2 => repeat constructor))
  | with_reducible refine Z.z_iteT ?_
  | with_reducible refine Z.z_iteF ?_)

section
variable {P : Program} {w : World} {K : PySem.W.Frag} {mg : Str → Option Value} {base : Heap}
def spBag : Sp := fun vs H Q _ => ∃ cell : Int, vs = [.int cell] ∧ ∀ p z, H p = none → Q (.ref p) (upd H p (.lst [.int z, .int cell, .int 0]))
def spPick : Sp := fun vs H Q _ => ∃ (b : Addr) (x c t many : Int), vs = [.ref b, .int many] ∧ H b = some (.lst [.int x, .int c, .int t]) ∧ 0 < many ∧ many.natAbs < 2 ^ 9000 ∧
  ∀ r z : Int, 0 ≤ r → r < many → Q (.int r) (upd H b (.lst [.int z, .int c, .int (t + 1)]))
theorem ok_bag (D : Def K mg "_law_bag" s_law_bag) (T : Txt K mg) : CallOk P w K mg base CX0 1 "_law_bag" ["cell"] spBag := by
  refine def_ok D sc_law_bag (fun vs H Q E h => ?_) (fun _ _ _ _ _ _ us hl => match us, hl with | [_], _ => rfl) (fun f cdv A outer s H vs Q E hr h => ?_)
  · obtain ⟨cell, rfl, _⟩ := h
    rfl
  · obtain ⟨cell, rfl, k⟩ := h
    refine ⟨_, (pss_one (ps_ret (pe_lst (pa_cons (pe_callB (cMax rfl) (by rfl) T.max (by decide +kernel) (pa_cons pe_int (pa_cons (pe_op op_sub (pv 0) (pe_op op_pow pe_int pe_int)) pa_nil))) (pa_cons (pv 0) (pa_cons pe_int pa_nil)))))), ?_⟩
    refine z_start (σ' := [some _]) rfl ?_
    repeat walk_at "z"
    refine z_I (z_pow (by decide) (by decide) (by decide)) ?_
    repeat walk_at "z"
    exact ⟨by show 3 ≤ sizeLine; decide, fun p hp => k p _ hp⟩
theorem ok_pick (D : Def K mg "_law_pick" s_law_pick) (T : Txt K mg) : CallOk P w K mg base CX0 1 "_law_pick" ["bag", "many"] spPick := by
  refine def_ok D sc_law_pick (fun vs H Q E h => ?_) (fun _ _ _ _ _ _ us hl => match us, hl with | [_, _], _ => rfl) (fun f cdv A outer s H vs Q E hr h => ?_)
  · obtain ⟨b, x, c, t, many, rfl, _⟩ := h
    rfl
  · obtain ⟨b, x, c, t, many, rfl, hb, hp, h9, k⟩ := h
    refine ⟨_, (pss_cons (ps_asg (pe_op op_add (pe_ix ix_list (pv 0) pe_int (fun _ _ => rfl)) pe_int) (pg_sub (pv 0) pe_int set_list))
  (pss_cons (ps_if (pt_cmpR op_gt (pe_ix ix_list (pv 0) pe_int (fun _ _ => rfl)) pe_int (nomark _)) (pss_cons (ps_set (i := 2) sc_law_pick.nd rfl (Or.inl rfl) (pe_op op_mod (pe_callTy cInt (by rfl) T.int (by decide +kernel) (pa_cons (pe_ix ix_list (pv 0) pe_int (fun _ _ => rfl)) pa_nil)) (pv 1)))
  (pss_cons (ps_asg (pe_op op_fdivW (pe_callTy cInt (by rfl) T.int (by decide +kernel) (pa_cons (pe_ix ix_list (pv 0) pe_int (fun _ _ => rfl)) pa_nil)) (pv 1)) (pg_sub (pv 0) pe_int set_list))
  (pss_one (ps_ret (pv 2))))) pss_nil)
  (pss_cons (ps_par (i := 3) (j := 4) (by rfl) sc_law_pick.nd rfl rfl (by decide) rfl rfl (pa_cons (pe_callTy cInt (by rfl) T.int (by decide +kernel) (pa_cons (pe_ix ix_list (pv 0) pe_int (fun _ _ => rfl)) pa_nil)) (pa_cons (pe_callTy cInt (by rfl) T.int (by decide +kernel) (pa_cons (pe_ix ix_list (pv 0) pe_int (fun _ _ => rfl)) pa_nil)) pa_nil)) (by rfl))
  (pss_cons (ps_set (i := 5) sc_law_pick.nd rfl (Or.inl rfl) (pe_op op_mod (pe_callTy cInt (by rfl) T.int (by decide +kernel) (pa_cons (pe_op op_add (pe_op op_add (pe_op op_mul (pe_op op_mod (pv 3) pe_int) pe_int) (pe_op op_mul (pv 4) pe_int)) pe_int) pa_nil)) pe_int))
  (pss_cons (ps_set (i := 6) sc_law_pick.nd rfl (Or.inl rfl) (pe_op op_mod (pe_callTy cInt (by rfl) T.int (by decide +kernel) (pa_cons (pe_op op_add (pe_op op_mul (pv 5) (pv 5)) (pe_op op_mul (pv 4) pe_int)) pa_nil)) pe_int))
  (pss_cons (ps_set (i := 7) sc_law_pick.nd rfl (Or.inl rfl) (pe_op op_fdivW (pe_callTy cInt (by rfl) T.int (by decide +kernel) (pa_cons (pe_op op_add (pe_op op_mul (pv 5) pe_int) (pv 6)) pa_nil)) pe_int))
  (pss_cons (ps_if (pt_cmpR op_gt (pv 1) (pe_op op_pow pe_int pe_int) (nomark _)) (pss_one (ps_set (i := 7) sc_law_pick.nd rfl (Or.inl rfl) (pe_op op_add (pe_op op_pow (pv 7) pe_int) (pv 6)))) pss_nil)
  (pss_one (ps_ret (pe_op op_mod (pe_callTy cInt (by rfl) T.int (by decide +kernel) (pa_cons (pv 7) pa_nil)) (pv 1))))))))))), ?_⟩
    refine z_start (σ' := [some _, some _, none, none, none, none, none, none]) rfl ?_
    repeat walk_at "z"
    refine z_ixL (SqL.of hb) rfl ?_
    repeat walk_at "z"
    refine z_setL hb rfl ?_
    have hb1 : (upd H b (.lst [.int x, .int c, .int (t + 1)])) b = some (.lst [.int x, .int c, .int (t + 1)]) := upd_same
    repeat walk_at "z"
    refine z_ixL (SqL.of hb1) rfl ?_
    repeat walk_at "z"
    refine ite2 (fun hx => ?_) (fun hx => ?_)
    · repeat walk_at "z"
      refine z_ixL (SqL.of hb1) rfl ?_
      repeat walk_at "z"
      refine z_I hp ?_
      repeat walk_at "z"
      refine z_ixL (SqL.of hb1) rfl ?_
      repeat walk_at "z"
      refine z_I (wide_div hp h9 (by decide) (by decide)) ?_
      repeat walk_at "z"
      refine z_setL hb1 rfl ?_
      repeat walk_at "z"
      rw [upd_upd]
      exact k _ _ (Int.emod_nonneg _ (by omega)) (Int.emod_lt_of_pos _ hp)
    · have cm : ∀ (i j : Int), -(2 ^ 64) < j ∧ j < 2 ^ 64 → CMul i j := fun i j h => .inr h
      repeat walk_at "z"
      refine z_ixL (SqL.of hb1) rfl ?_
      repeat walk_at "z"
      refine z_ixL (SqL.of hb1) rfl ?_
      repeat walk_at "z"
      refine z_modG (by decide) fun r0 _ _ => ?_
      repeat walk_at "z"
      refine z_I (cm _ _ (by decide)) ?_
      repeat walk_at "z"
      refine z_I (cm _ _ (by decide)) ?_
      repeat walk_at "z"
      refine z_modG (by decide) fun r1 h1 h1' => ?_
      repeat walk_at "z"
      refine z_I (cm _ _ (by omega)) ?_
      repeat walk_at "z"
      refine z_I (cm _ _ (by decide)) ?_
      repeat walk_at "z"
      refine z_modG (by decide) fun r2 h2 h2' => ?_
      repeat walk_at "z"
      refine z_I (cm _ _ (by decide)) ?_
      repeat walk_at "z"
      refine z_I (⟨by decide, by decide⟩ : CDivW _ _) ?_
      repeat walk_at "z"
      refine z_I (z_pow (by decide) (by decide) (by decide)) ?_
      repeat walk_at "z"
      refine ite2 (fun hm => ?_) (fun hm => ?_)
      · repeat walk_at "z"
        refine z_I (z_pow (by decide) (by decide) (by omega)) ?_
        repeat walk_at "z"
        refine z_modG hp fun r3 h3 h3' => ?_
        exact k _ _ h3 h3'
      · repeat walk_at "z"
        refine z_modG hp fun r3 h3 h3' => ?_
        exact k _ _ h3 h3'

def csOf (K : PySem.W.Frag) (n : Int) : List (Addr × Option (Str × V)) := [(He.ga K "InvalidRule", some ("item", .int n)), (He.ga K "InvalidLevels", some ("level", .int n)), (He.ga K "InvalidScript", some ("step", .int n)), (He.ga K "InvalidRuns", some ("item", .int n)), (He.ga K "InvalidSeen", some ("item", .int n)), (He.ga K "InvalidText", some ("part", .int n)), (He.ga K "OverBudget", some ("count", .int n)), (He.ga K "InvalidIndex", none), (He.ga K "InvalidKind", none), (He.ga K "InvalidGap", none), (He.ga K "InvalidNumber", none), (He.ga K "InvalidLevel", none), (He.ga K "InvalidPage", none), (He.ga K "InvalidEntry", none), (He.ga K "InvalidLength", none), (He.ga K "InvalidHeight", none), (He.ga K "InvalidLeaves", none), (He.ga K "InvalidBudget", none), (He.ga K "UnlikeRules", none), (He.ga K "InvalidOperation", none), (He.ga K "Nothing", none), (He.ga K "InvalidCommand", none)]
def spMade (K : PySem.W.Frag) : Sp := fun vs H Q _ => ∃ n : Int, vs = [.int n] ∧ ∀ p es H', Same H H' → H p = none → H' p = some (.lst es) → HasAll H' es (csOf K n) → Q (.ref p) H'
structure Xs (P : Program) (w : World) (K : PySem.W.Frag) (mg : Str → Option Value) (base : Heap) : Prop where
  X_InvalidRule : ClsX P w K mg base "InvalidRule" "item"
  X_InvalidLevels : ClsX P w K mg base "InvalidLevels" "level"
  X_InvalidScript : ClsX P w K mg base "InvalidScript" "step"
  X_InvalidRuns : ClsX P w K mg base "InvalidRuns" "item"
  X_InvalidSeen : ClsX P w K mg base "InvalidSeen" "item"
  X_InvalidText : ClsX P w K mg base "InvalidText" "part"
  X_OverBudget : ClsX P w K mg base "OverBudget" "count"
theorem ok_made (D : Def K mg "_law_made" s_law_made) (T : Txt K mg) (X : Xs P w K mg base) : CallOk P w K mg base CX0 3 "_law_made" ["number"] (spMade K) := by
  refine def_ok D sc_law_made (fun vs H Q E h => ?_) (fun _ _ _ _ _ _ us hl => match us, hl with | [_], _ => rfl) (fun f cdv A outer s H vs Q E hr h => ?_)
  · obtain ⟨n, rfl, _⟩ := h
    rfl
  · obtain ⟨n, rfl, k⟩ := h
    refine ⟨_, (pss_cons (ps_set (i := 1) sc_law_made.nd rfl (Or.inl rfl) (pe_lst (pa_cons (pe_clsX X.X_InvalidRule (hr.mono (by decide)) rfl (pa_cons (pv 0) pa_nil)) (pa_cons (pe_clsX X.X_InvalidLevels (hr.mono (by decide)) rfl (pa_cons (pv 0) pa_nil)) (pa_cons (pe_clsX X.X_InvalidScript (hr.mono (by decide)) rfl (pa_cons (pv 0) pa_nil)) (pa_cons (pe_clsX X.X_InvalidRuns (hr.mono (by decide)) rfl (pa_cons (pv 0) pa_nil)) pa_nil))))))
  (pss_cons (ps_set (i := 1) sc_law_made.nd rfl (Or.inl rfl) (pe_op op_cat (pv 1) (pe_lst (pa_cons (pe_clsX X.X_InvalidSeen (hr.mono (by decide)) rfl (pa_cons (pv 0) pa_nil)) (pa_cons (pe_clsX X.X_InvalidText (hr.mono (by decide)) rfl (pa_cons (pv 0) pa_nil)) (pa_cons (pe_clsX X.X_OverBudget (hr.mono (by decide)) rfl (pa_cons (pv 0) pa_nil)) (pa_cons (pe_cls0 T.x_InvalidIndex rfl pe_str) (pa_cons (pe_cls0 T.x_InvalidKind rfl pe_str) pa_nil))))))))
  (pss_cons (ps_set (i := 1) sc_law_made.nd rfl (Or.inl rfl) (pe_op op_cat (pv 1) (pe_lst (pa_cons (pe_cls0 T.x_InvalidGap rfl pe_str) (pa_cons (pe_cls0 T.x_InvalidNumber rfl pe_str) (pa_cons (pe_cls0 T.x_InvalidLevel rfl pe_str) (pa_cons (pe_cls0 T.x_InvalidPage rfl pe_str) (pa_cons (pe_cls0 T.x_InvalidEntry rfl pe_str) pa_nil))))))))
  (pss_cons (ps_set (i := 1) sc_law_made.nd rfl (Or.inl rfl) (pe_op op_cat (pv 1) (pe_lst (pa_cons (pe_cls0 T.x_InvalidLength rfl pe_str) (pa_cons (pe_cls0 T.x_InvalidHeight rfl pe_str) (pa_cons (pe_cls0 T.x_InvalidLeaves rfl pe_str) (pa_cons (pe_cls0 T.x_InvalidBudget rfl pe_str) (pa_cons (pe_cls0 T.x_UnlikeRules rfl pe_str) pa_nil))))))))
  (pss_one (ps_ret (pe_op op_cat (pv 1) (pe_lst (pa_cons (pe_cls0 T.x_InvalidOperation rfl pe_str) (pa_cons (pe_cls0 T.x_Nothing rfl pe_str) (pa_cons (pe_cls0 T.x_InvalidCommand rfl pe_str) pa_nil))))))))))), ?_⟩
    refine z_start (σ' := [some _, none]) rfl ?_
    have mV : ∀ {C : Addr} {f : Str} {o : Option V}, MkT (tMkV C (spX C f) (tCons (tVar 0) tNil)) [some (.int n), o] C (some (f, .int n)) := mk_V fun H => PuA.cons (PuT.var rfl) .nil
    have m1 : ∀ {C : Addr} {x : Str} {o : Option V}, MkT (tMk1 C (tC (.str x))) [some (.int n), o] C none := mk_1 fun H => PuT.c
    refine z_seq (z_asg (MkA.lst (MkA.cons mV (MkA.cons mV (MkA.cons mV (MkA.cons mV MkA.nil)))) (Nat.le_of_ble_eq_true rfl) fun p0 e0 H0 s0 n0 h0 x0 => ?_))
    walk_at "z"
    walk_at "z"
    refine z_asg (MkA.cat (MkA.cons mV (MkA.cons mV (MkA.cons mV (MkA.cons m1 (MkA.cons m1 MkA.nil))))) (Nat.le_of_ble_eq_true rfl) rfl h0 x0 fun p1 e1 H1 s1 n1 h1 x1 => ?_)
    walk_at "z"
    walk_at "z"
    refine z_asg (MkA.cat (MkA.cons m1 (MkA.cons m1 (MkA.cons m1 (MkA.cons m1 (MkA.cons m1 MkA.nil))))) (Nat.le_of_ble_eq_true rfl) rfl h1 x1 fun p2 e2 H2 s2 n2 h2 x2 => ?_)
    walk_at "z"
    walk_at "z"
    refine z_asg (MkA.cat (MkA.cons m1 (MkA.cons m1 (MkA.cons m1 (MkA.cons m1 (MkA.cons m1 MkA.nil))))) (Nat.le_of_ble_eq_true rfl) rfl h2 x2 fun p3 e3 H3 s3 n3 h3 x3 => ?_)
    walk_at "z"
    walk_at "z"
    refine MkA.cat (MkA.cons m1 (MkA.cons m1 (MkA.cons m1 MkA.nil))) (Nat.le_of_ble_eq_true rfl) rfl h3 x3 fun p4 e4 H4 s4 n4 h4 x4 => ?_
    exact k p4 e4 H4 ((((s0.trans s1).trans s2).trans s3).trans s4) ((((s0.trans s1).trans s2).trans s3).free n4) h4 x4

def spClasses (K : PySem.W.Frag) : Sp := fun vs H Q _ => ∃ (a : Addr) (x : Str), vs = [.ref a] ∧ x ∈ (("PageError" : Str) :: errs) ∧ ExAt H a (He.ga K x) ∧ ∀ p H', Same H H' → H p = none → H' p = some (.lst (errs.map fun y => V.bl (decide (x = y)))) → Q (.ref p) H'
theorem is_of {K : PySem.W.Frag} (c : exB K = true) {x : Str} (hx : x ∈ (("PageError" : Str) :: errs)) {y : Str} (hy : y ∈ errs) : PySem.W.kitOne K (.ref (He.ga K x)) (.ref (He.ga K y)) = some (decide (x = y)) :=
  of_decide_eq_true (List.all_eq_true.mp (He.ba (He.ba (List.all_eq_true.mp c x hx)).2).2 y hy)
theorem is_ve {K : PySem.W.Frag} (c : exB K = true) {x : Str} (hx : x ∈ (("PageError" : Str) :: errs)) : PySem.W.kitOne K (.ref (He.ga K x)) (.type "ValueError") = some true := of_decide_eq_true (He.ba (List.all_eq_true.mp c x hx)).1
theorem is_pe {K : PySem.W.Frag} (c : exB K = true) {x : Str} (hx : x ∈ (("PageError" : Str) :: errs)) : PySem.W.kitOne K (.ref (He.ga K x)) (.ref (He.ga K "PageError")) = some true := of_decide_eq_true (He.ba (He.ba (List.all_eq_true.mp c x hx)).2).1
theorem in_excs : ∀ x ∈ (("PageError" : Str) :: errs), x ∈ excs := by decide +kernel
theorem ok_classes (D : Def K mg "_law_classes" s_law_classes) (T : Txt K mg) (cA : exA K = true) (cB : exB K = true) : CallOk P w K mg base CX0 1 "_law_classes" ["one"] (spClasses K) := by
  refine def_ok D sc_law_classes (fun vs H Q E h => ?_) (fun _ _ _ _ _ _ us hl => match us, hl with | [_], _ => rfl) (fun f cdv A outer s H vs Q E hr h => ?_)
  · obtain ⟨a, x, rfl, _⟩ := h
    rfl
  · obtain ⟨a, x, rfl, hx, ea, k⟩ := h
    refine ⟨_, (pss_cons (ps_set (i := 1) sc_law_classes.nd rfl (Or.inl rfl) (pe_lst (pa_cons (pe_callB call_isQ (by rfl) T.isinstance (by decide +kernel) (pa_cons (pv 0) (pa_cons (pe_glob (v := .ref _) rfl T.c_InvalidRule rfl) pa_nil))) (pa_cons (pe_callB call_isQ (by rfl) T.isinstance (by decide +kernel) (pa_cons (pv 0) (pa_cons (pe_glob (v := .ref _) rfl T.c_InvalidLevels rfl) pa_nil))) (pa_cons (pe_callB call_isQ (by rfl) T.isinstance (by decide +kernel) (pa_cons (pv 0) (pa_cons (pe_glob (v := .ref _) rfl T.c_InvalidScript rfl) pa_nil))) pa_nil)))))
  (pss_cons (ps_set (i := 1) sc_law_classes.nd rfl (Or.inl rfl) (pe_op op_cat (pv 1) (pe_lst (pa_cons (pe_callB call_isQ (by rfl) T.isinstance (by decide +kernel) (pa_cons (pv 0) (pa_cons (pe_glob (v := .ref _) rfl T.c_InvalidRuns rfl) pa_nil))) (pa_cons (pe_callB call_isQ (by rfl) T.isinstance (by decide +kernel) (pa_cons (pv 0) (pa_cons (pe_glob (v := .ref _) rfl T.c_InvalidSeen rfl) pa_nil))) (pa_cons (pe_callB call_isQ (by rfl) T.isinstance (by decide +kernel) (pa_cons (pv 0) (pa_cons (pe_glob (v := .ref _) rfl T.c_InvalidText rfl) pa_nil))) pa_nil))))))
  (pss_cons (ps_set (i := 1) sc_law_classes.nd rfl (Or.inl rfl) (pe_op op_cat (pv 1) (pe_lst (pa_cons (pe_callB call_isQ (by rfl) T.isinstance (by decide +kernel) (pa_cons (pv 0) (pa_cons (pe_glob (v := .ref _) rfl T.c_OverBudget rfl) pa_nil))) (pa_cons (pe_callB call_isQ (by rfl) T.isinstance (by decide +kernel) (pa_cons (pv 0) (pa_cons (pe_glob (v := .ref _) rfl T.c_InvalidIndex rfl) pa_nil))) (pa_cons (pe_callB call_isQ (by rfl) T.isinstance (by decide +kernel) (pa_cons (pv 0) (pa_cons (pe_glob (v := .ref _) rfl T.c_InvalidKind rfl) pa_nil))) pa_nil))))))
  (pss_cons (ps_set (i := 1) sc_law_classes.nd rfl (Or.inl rfl) (pe_op op_cat (pv 1) (pe_lst (pa_cons (pe_callB call_isQ (by rfl) T.isinstance (by decide +kernel) (pa_cons (pv 0) (pa_cons (pe_glob (v := .ref _) rfl T.c_InvalidGap rfl) pa_nil))) (pa_cons (pe_callB call_isQ (by rfl) T.isinstance (by decide +kernel) (pa_cons (pv 0) (pa_cons (pe_glob (v := .ref _) rfl T.c_InvalidNumber rfl) pa_nil))) (pa_cons (pe_callB call_isQ (by rfl) T.isinstance (by decide +kernel) (pa_cons (pv 0) (pa_cons (pe_glob (v := .ref _) rfl T.c_InvalidLevel rfl) pa_nil))) pa_nil))))))
  (pss_cons (ps_set (i := 1) sc_law_classes.nd rfl (Or.inl rfl) (pe_op op_cat (pv 1) (pe_lst (pa_cons (pe_callB call_isQ (by rfl) T.isinstance (by decide +kernel) (pa_cons (pv 0) (pa_cons (pe_glob (v := .ref _) rfl T.c_InvalidPage rfl) pa_nil))) (pa_cons (pe_callB call_isQ (by rfl) T.isinstance (by decide +kernel) (pa_cons (pv 0) (pa_cons (pe_glob (v := .ref _) rfl T.c_InvalidEntry rfl) pa_nil))) (pa_cons (pe_callB call_isQ (by rfl) T.isinstance (by decide +kernel) (pa_cons (pv 0) (pa_cons (pe_glob (v := .ref _) rfl T.c_InvalidLength rfl) pa_nil))) pa_nil))))))
  (pss_cons (ps_set (i := 1) sc_law_classes.nd rfl (Or.inl rfl) (pe_op op_cat (pv 1) (pe_lst (pa_cons (pe_callB call_isQ (by rfl) T.isinstance (by decide +kernel) (pa_cons (pv 0) (pa_cons (pe_glob (v := .ref _) rfl T.c_InvalidHeight rfl) pa_nil))) (pa_cons (pe_callB call_isQ (by rfl) T.isinstance (by decide +kernel) (pa_cons (pv 0) (pa_cons (pe_glob (v := .ref _) rfl T.c_InvalidLeaves rfl) pa_nil))) (pa_cons (pe_callB call_isQ (by rfl) T.isinstance (by decide +kernel) (pa_cons (pv 0) (pa_cons (pe_glob (v := .ref _) rfl T.c_InvalidBudget rfl) pa_nil))) pa_nil))))))
  (pss_cons (ps_set (i := 1) sc_law_classes.nd rfl (Or.inl rfl) (pe_op op_cat (pv 1) (pe_lst (pa_cons (pe_callB call_isQ (by rfl) T.isinstance (by decide +kernel) (pa_cons (pv 0) (pa_cons (pe_glob (v := .ref _) rfl T.c_UnlikeRules rfl) pa_nil))) (pa_cons (pe_callB call_isQ (by rfl) T.isinstance (by decide +kernel) (pa_cons (pv 0) (pa_cons (pe_glob (v := .ref _) rfl T.c_InvalidOperation rfl) pa_nil))) (pa_cons (pe_callB call_isQ (by rfl) T.isinstance (by decide +kernel) (pa_cons (pv 0) (pa_cons (pe_glob (v := .ref _) rfl T.c_Nothing rfl) pa_nil))) pa_nil))))))
  (pss_one (ps_ret (pe_op op_cat (pv 1) (pe_lst (pa_cons (pe_callB call_isQ (by rfl) T.isinstance (by decide +kernel) (pa_cons (pv 0) (pa_cons (pe_glob (v := .ref _) rfl T.c_InvalidCommand rfl) pa_nil))) pa_nil)))))))))))), ?_⟩
    refine z_start (σ' := [some _, none]) rfl ?_
    have isP : ∀ (H' : Hp) (y : Str), y ∈ errs → ∀ (σ : L2.St), σ[0]? = some (some (V.ref a)) → ExAt H' a (He.ga K x) → PuT (tCB (rIsQ K) (tCons (tVar 0) (tCons (tC (.ref (He.ga K y))) tNil))) σ H' (.bl (decide (x = y))) := fun H' y hy σ e0 ea' =>
      pu_isQ (PuA.cons (PuT.var e0) (PuA.cons PuT.c .nil)) ea' (exc_ok cA x (in_excs x hx)) (ClsV.own _) (is_of cB hx hy)
    refine z_seq (z_asg (PuA.lst (PuA.cons (isP _ "InvalidRule" (by decide +kernel) _ (by rfl) ea) (PuA.cons (isP _ "InvalidLevels" (by decide +kernel) _ (by rfl) ea) (PuA.cons (isP _ "InvalidScript" (by decide +kernel) _ (by rfl) ea) PuA.nil))) (Nat.le_of_ble_eq_true rfl) fun p0 H0 s0 n0 h0 => ?_))
    have ea0 := ExAt.mono s0 ea
    walk_at "z"
    walk_at "z"
    refine z_asg (PuA.cat (PuA.cons (isP _ "InvalidRuns" (by decide +kernel) _ (by rfl) ea0) (PuA.cons (isP _ "InvalidSeen" (by decide +kernel) _ (by rfl) ea0) (PuA.cons (isP _ "InvalidText" (by decide +kernel) _ (by rfl) ea0) PuA.nil))) (Nat.le_of_ble_eq_true rfl) rfl h0 fun p1 H1 s1 n1 h1 => ?_)
    have ea1 := ExAt.mono s1 ea0
    have s1 := Same.trans s0 s1
    walk_at "z"
    walk_at "z"
    refine z_asg (PuA.cat (PuA.cons (isP _ "OverBudget" (by decide +kernel) _ (by rfl) ea1) (PuA.cons (isP _ "InvalidIndex" (by decide +kernel) _ (by rfl) ea1) (PuA.cons (isP _ "InvalidKind" (by decide +kernel) _ (by rfl) ea1) PuA.nil))) (Nat.le_of_ble_eq_true rfl) rfl h1 fun p2 H2 s2 n2 h2 => ?_)
    have ea2 := ExAt.mono s2 ea1
    have s2 := Same.trans s1 s2
    walk_at "z"
    walk_at "z"
    refine z_asg (PuA.cat (PuA.cons (isP _ "InvalidGap" (by decide +kernel) _ (by rfl) ea2) (PuA.cons (isP _ "InvalidNumber" (by decide +kernel) _ (by rfl) ea2) (PuA.cons (isP _ "InvalidLevel" (by decide +kernel) _ (by rfl) ea2) PuA.nil))) (Nat.le_of_ble_eq_true rfl) rfl h2 fun p3 H3 s3 n3 h3 => ?_)
    have ea3 := ExAt.mono s3 ea2
    have s3 := Same.trans s2 s3
    walk_at "z"
    walk_at "z"
    refine z_asg (PuA.cat (PuA.cons (isP _ "InvalidPage" (by decide +kernel) _ (by rfl) ea3) (PuA.cons (isP _ "InvalidEntry" (by decide +kernel) _ (by rfl) ea3) (PuA.cons (isP _ "InvalidLength" (by decide +kernel) _ (by rfl) ea3) PuA.nil))) (Nat.le_of_ble_eq_true rfl) rfl h3 fun p4 H4 s4 n4 h4 => ?_)
    have ea4 := ExAt.mono s4 ea3
    have s4 := Same.trans s3 s4
    walk_at "z"
    walk_at "z"
    refine z_asg (PuA.cat (PuA.cons (isP _ "InvalidHeight" (by decide +kernel) _ (by rfl) ea4) (PuA.cons (isP _ "InvalidLeaves" (by decide +kernel) _ (by rfl) ea4) (PuA.cons (isP _ "InvalidBudget" (by decide +kernel) _ (by rfl) ea4) PuA.nil))) (Nat.le_of_ble_eq_true rfl) rfl h4 fun p5 H5 s5 n5 h5 => ?_)
    have ea5 := ExAt.mono s5 ea4
    have s5 := Same.trans s4 s5
    walk_at "z"
    walk_at "z"
    refine z_asg (PuA.cat (PuA.cons (isP _ "UnlikeRules" (by decide +kernel) _ (by rfl) ea5) (PuA.cons (isP _ "InvalidOperation" (by decide +kernel) _ (by rfl) ea5) (PuA.cons (isP _ "Nothing" (by decide +kernel) _ (by rfl) ea5) PuA.nil))) (Nat.le_of_ble_eq_true rfl) rfl h5 fun p6 H6 s6 n6 h6 => ?_)
    have ea6 := ExAt.mono s6 ea5
    have s6 := Same.trans s5 s6
    walk_at "z"
    walk_at "z"
    refine PuA.cat (PuA.cons (isP _ "InvalidCommand" (by decide +kernel) _ (by rfl) ea6) PuA.nil) (Nat.le_of_ble_eq_true rfl) rfl h6 fun p7 H7 s7 n7 h7 => ?_
    exact k p7 H7 (s6.trans s7) (s6.free n7) h7
end
end K53
set_option Elab.async false
set_option linter.all false
set_option maxRecDepth 100000
set_option maxHeartbeats 4000000
namespace K53
open PySem PySem.Spec L2 Z
open PyProof.Rows hiding St
local macro_rules | `(tactic| walk_at "z") => `(tactic| first
  | with_reducible refine Z.z_seq ?_
  | with_reducible refine Z.z_asg ?_
  | with_reducible refine Z.z_op ?_
  | with_reducible refine Z.z_cons ?_
  | with_reducible refine Z.z_nil ?_
  | with_reducible refine Z.z_c ?_
  | ((with_reducible refine' Z.z_var ?e ?_); (case e => exact rfl))
  | ((with_reducible refine' Z.z_name ?e ?_); (case e => repeat constructor))
  | with_reducible refine Z.z_sub ?_
  | with_reducible refine Z.z_I0 ?_
  | with_reducible refine Z.z_eqI ?_
  | with_reducible refine Z.z_neI ?_
  | with_reducible refine Z.z_cb ?_
  | with_reducible refine Z.z_int1 ?_
  | with_reducible refine Z.z_max2 ?_
  | with_reducible refine Z.z_min2 ?_
  | with_reducible refine Z.z_call ?_
  | with_reducible refine Z.z_test ?_
  | with_reducible refine Z.z_B ?_
  | with_reducible refine Z.z_ex _ ?_
  | with_reducible refine Z.z_and ?_
  | with_reducible refine Z.z_or ?_
  | with_reducible refine Z.z_not ?_
  | with_reducible refine Z.z_andV ?_
  | with_reducible refine Z.z_orV ?_
  | with_reducible refine Z.z_notV ?_
  | with_reducible refine Z.z_ifE ?_
  | with_reducible refine Z.z_chain ?_
  | with_reducible refine Z.z_if ?_
  | with_reducible refine Z.z_ret ?_
  | with_reducible refine Z.z_retN ?_
  | with_reducible refine Z.z_next ?_
  | with_reducible refine Z.z_brk ?_
  | with_reducible refine Z.z_cont ?_
  | with_reducible refine Z.z_drop ?_
  | with_reducible refine Z.z_un ?_
  | with_reducible refine Z.z_U ?_
  | with_reducible refine Z.z_lst ?_
  | with_reducible refine Z.z_tup ?_
  | with_reducible refine Z.z_par ?_
  | ((with_reducible refine' Z.z_par2 ?e1 ?e2 ?_); (case e1 => repeat constructor); (case e2 => repeat constructor))
  | with_reducible refine Z.z_iteT ?_
  | with_reducible refine Z.z_iteF ?_)

section
variable {P : Program} {w : World} {K : PySem.W.Frag} {mg : Str → Option Value} {base : Heap}
def spLaw (K : PySem.W.Frag) : Sp := fun vs H Q _ => ∃ (a : Addr) (ns : List Int), vs = [.ref a] ∧ SqL K H a (ns.map V.int) ∧ ns.length ≤ 63 ∧ ∀ H', Q (.bl true) H'
theorem cs_fst (n : Int) : (csOf K n).map (·.1) = errs.map (He.ga K) := rfl
theorem cs_get {K : PySem.W.Frag} {n : Int} {i : Nat} {c : Addr × Option (Str × V)} (h : (csOf K n)[i]? = some c) : ∃ y, errs[i]? = some y ∧ c.1 = He.ga K y := by
  have e : ((csOf K n).map (·.1))[i]? = some c.1 := by rw [List.getElem?_map, h]; rfl
  rw [cs_fst, List.getElem?_map] at e
  cases q : errs[i]? with
  | none => rw [q] at e; cases e
  | some y => rw [q] at e; exact ⟨y, rfl, (Option.some.inj e).symm⟩
theorem rows_eq : ∀ i < 22, (errs.map fun (y : Str) => decide (errs[i]?.getD ("" : Str) = y)) = (List.range 22).map fun j => decide (j = i) := by decide +kernel
theorem row_eq {i : Nat} {y : Str} (h : errs[i]? = some y) : (errs.map fun z => V.bl (decide (y = z))) = (List.range 22).map fun (j : Nat) => V.bl (decide ((0 : Int) + (j : Int) = ((i : Nat) : Int))) := by
  have hi : i < 22 := (List.getElem?_eq_some_iff.mp h).1
  have e := rows_eq i hi
  rw [h, Option.getD_some] at e
  have e2 := congrArg (List.map V.bl) e
  rw [List.map_map, List.map_map] at e2
  refine Eq.trans e2 (List.map_congr_left fun j _ => ?_)
  show V.bl (decide (j = i)) = V.bl (decide ((0 : Int) + (j : Int) = ((i : Nat) : Int)))
  congr 1
  rw [decide_eq_decide]
  omega
theorem all_plain_bl (l : List Str) (f : Str → Bool) : (l.map fun y => V.bl (f y)).all plainV = true := by
  rw [List.all_map]
  exact List.all_eq_true.mpr fun _ _ => rfl
theorem ok_law {f : Addr} {fd : FuncData} (F : FnP K "law" s_law f fd) (T : Txt K mg) (X : Xs P w K mg base) (cA : exA K = true) (cB : exB K = true)
    (C_law_bag : CallOk P w K mg base CX0 1 "_law_bag" ["cell"] spBag) (C_law_pick : CallOk P w K mg base CX0 1 "_law_pick" ["bag", "many"] spPick) (C_law_made : CallOk P w K mg base CX0 3 "_law_made" ["number"] (spMade K))
    (C_law_classes : CallOk P w K mg base CX0 1 "_law_classes" ["one"] (spClasses K)) : FnOk P w K mg base CX0 4 f fd ["script"] (spLaw K) := by
  refine fn_ok0 F sc_law (fun vs H Q E h => ?_) (fun cdv A outer s H vs Q E hr h => ?_)
  · obtain ⟨a, ns, rfl, _⟩ := h
    rfl
  · obtain ⟨a, ns, rfl, hS, hlen, k⟩ := h
    refine ⟨_, (pss_cons (ps_set (i := 1) sc_law.nd rfl (Or.inl rfl) (pe_own C_law_bag (hr.mono (by decide)) rfl pass0 (pa_cons (pe_ix ix_list (pe_op op_catS (pv 0) (pe_lst (pa_cons pe_int pa_nil))) pe_int (fun _ _ => rfl)) pa_nil)))
  (pss_cons (ps_for PassesOwn.never rfl (pi_range1 rfl T.range (pa_cons pe_int pa_nil)) (pg_name (i := 2) sc_law.nd rfl (Or.inl rfl)) (pss_cons (ps_set (i := 3) sc_law.nd rfl (Or.inl rfl) (pe_own C_law_pick (hr.mono (by decide)) rfl pass0 (pa_cons (pv 1) (pa_cons (pe_ix ix_list (pe_lst (pa_cons pe_int (pa_cons (pe_op op_pow pe_int pe_int) pa_nil))) (pe_op op_mod (pv 2) pe_int) (fun _ _ => rfl)) pa_nil))))
  (pss_cons (ps_set (i := 4) sc_law.nd rfl (Or.inl rfl) (pe_own C_law_made (hr.mono (by decide)) rfl pass0 (pa_cons (pv 3) pa_nil)))
  (pss_cons (ps_for PassesOwn.never rfl (pi_enum (by rfl) T.enumerate (pa_cons (pv 4) pa_nil)) (pg_tup (by rfl) (pgs_cons (pg_name (i := 5) sc_law.nd rfl (Or.inr rfl)) (pgs_cons (pg_name (i := 6) sc_law.nd rfl (Or.inl rfl)) pgs_nil))) (pss_cons (ps_if (PW.pt (pw_or (pt_not (pt_val (pe_callB call_isQ (by rfl) T.isinstance (by decide +kernel) (pa_cons (pv 6) (pa_cons (pe_glob (v := .ref _) rfl T.c_PageError rfl) pa_nil))))) (pw_or1 (pt_not (pt_val (pe_callB call_isQ (by rfl) T.isinstance (by decide +kernel) (pa_cons (pv 6) (pa_cons (pe_bltn (v := .ty "ValueError") rfl T.ValueError (by decide +kernel) rfl) pa_nil)))))))) (pss_one (ps_ret pe_bl)) pss_nil)
  (pss_one (ps_if (pt_cmpR (op_neD hr.units) (pe_own C_law_classes (hr.mono (by decide)) rfl pass0 (pa_cons (pv 6) pa_nil)) (pe_lc (own := [("j", 10)]) (g := gName 10) (tt := tYes) rfl sc_law.nd (pi_range1 rfl T.range (pa_cons (pe_callB cLen (by rfl) T.len PySem.boot_len (pa_cons (pv 4) pa_nil)) pa_nil)) (blkOk_by (own := [("j", 10)]) (N := ["script", "bag", "turn", "number", "made", "k", "one", "told", "base", "some", "j"]) (sc := defScope s_law) (by decide +kernel)) (fun _ _ _ _ _ => (pg_name (i := 10) sc_law.nd rfl (Or.inl rfl))) (fun _ _ _ _ _ => pts_nil) (fun _ _ _ _ _ => (pe_cmpR op_eq (pv 10) (pv 5) (nomark _)))) (nomark _)) (pss_one (ps_ret pe_bl)) pss_nil))))
  (pss_cons (ps_set (i := 7) sc_law.nd rfl (Or.inl rfl) (pe_lst (pa_cons (pe_xfV (pe_ix ix_list (pv 4) pe_int (fun _ _ => rfl))) (pa_cons (pe_xfV (pe_ix ix_list (pv 4) pe_int (fun _ _ => rfl))) (pa_cons (pe_xfV (pe_ix ix_list (pv 4) pe_int (fun _ _ => rfl))) (pa_cons (pe_xfV (pe_ix ix_list (pv 4) pe_int (fun _ _ => rfl))) (pa_cons (pe_xfV (pe_ix ix_list (pv 4) pe_int (fun _ _ => rfl))) (pa_cons (pe_xfV (pe_ix ix_list (pv 4) pe_int (fun _ _ => rfl))) (pa_cons (pe_xfV (pe_ix ix_list (pv 4) pe_int (fun _ _ => rfl))) pa_nil)))))))))
  (pss_one (ps_if (pt_cmpR (op_neD hr.units) (pv 7) (pe_op op_rep (pe_lst (pa_cons (pv 3) pa_nil)) pe_int) (nomark _)) (pss_one (ps_ret pe_bl)) pss_nil)))))))
  (pss_cons (ps_set (i := 8) sc_law.nd rfl (Or.inl rfl) (pe_cls0 T.x_PageError rfl pe_str))
  (pss_cons (ps_set (i := 9) sc_law.nd rfl (Or.inl rfl) (pe_lst (pa_cons (pe_xfV (pe_clsX X.X_InvalidRule (hr.mono (by decide)) rfl (pa_cons pe_non pa_nil))) (pa_cons (pe_xfV (pe_clsX X.X_InvalidLevels (hr.mono (by decide)) rfl (pa_cons pe_non pa_nil))) (pa_cons (pe_xfV (pe_clsX X.X_InvalidScript (hr.mono (by decide)) rfl (pa_cons pe_non pa_nil))) (pa_cons (pe_xfV (pe_clsX X.X_InvalidRuns (hr.mono (by decide)) rfl (pa_cons pe_non pa_nil))) pa_nil))))))
  (pss_cons (ps_set (i := 9) sc_law.nd rfl (Or.inl rfl) (pe_op op_cat (pv 9) (pe_lst (pa_cons (pe_xfV (pe_clsX X.X_InvalidSeen (hr.mono (by decide)) rfl (pa_cons pe_non pa_nil))) (pa_cons (pe_xfV (pe_clsX X.X_InvalidText (hr.mono (by decide)) rfl (pa_cons pe_non pa_nil))) pa_nil)))))
  (pss_one (ps_ret (pe_and (pe_cmpR (op_eqD hr.units) (pv 9) (pe_op op_rep (pe_lst (pa_cons pe_non pa_nil)) pe_int) (nomark _)) (pe_and (pe_cmpR op_notIn_seq pe_bl (pe_own C_law_classes (hr.mono (by decide)) rfl pass0 (pa_cons (pv 8) pa_nil)) (by rfl)) (pe_one (pe_callB call_isQ (by rfl) T.isinstance (by decide +kernel) (pa_cons (pv 8) (pa_cons (pe_bltn (v := .ty "ValueError") rfl T.ValueError (by decide +kernel) rfl) pa_nil))))))))))))), ?_⟩
    refine z_start (σ' := [some _, none, none, none, none, none, none, none, none, none, none]) rfl ?_
    obtain ⟨c0, hc0⟩ : ∃ c : Int, atI (ns.map V.int ++ [V.int 0]) 0 = some (.int c) := by
      cases ns with
      | nil => exact ⟨0, atI_nat (j := 0) rfl⟩
      | cons n r => exact ⟨n, atI_nat (j := 0) rfl⟩
    -- bag = _law_bag((script + [0])[0])
    repeat walk_at "z"
    refine ⟨by show 1 ≤ sizeLine; decide, fun p1 hp1 => ?_⟩
    refine ⟨a, p1, _, _, rfl, rfl, (same_new (Same.refl H) hp1).seq hS, upd_same, ?_, fun p2 hp2 => ?_⟩
    · rw [List.length_map]
      show ns.length + 1 ≤ sizeLine
      exact Nat.le_trans (by omega : ns.length + 1 ≤ 64) (by decide)
    repeat walk_at "z"
    refine z_ixL (SqL.of upd_same) hc0 ?_
    repeat walk_at "z"
    refine ⟨c0, rfl, fun b z0 hb => ?_⟩
    repeat walk_at "z"
    -- for turn in range(4)
    refine ⟨4, rfl, by decide, by decide, for_range (lo := 0) (n := 4) (fun i σ H' => ∃ (x t : Int) (v2 v3 v4 v5 v6 v7 v8 v9 v10 : Option V), σ = [some (.ref a), some (.ref b), v2, v3, v4, v5, v6, v7, v8, v9, v10] ∧ H' b = some (.lst [.int x, .int c0, .int t]))
      ⟨_, _, _, _, _, _, _, _, _, _, _, rfl, upd_same⟩ ?_ ?_⟩
    · rintro turn σ H1 hturn ⟨x, t, v2, v3, v4, v5, v6, v7, v8, v9, v10, rfl, hb1⟩
      repeat walk_at "z"
      refine z_I (z_pow (by decide) (by decide) (by decide)) ?_
      repeat walk_at "z"
      refine ⟨by show 2 ≤ sizeLine; decide, fun q1 hq1 => ?_⟩
      repeat walk_at "z"
      refine z_modG (by decide) fun r hr0 hr1 => ?_
      obtain ⟨m, hm, hm0, hm1⟩ : ∃ m : Int, atI [V.int 9, V.int (10 ^ Int.toNat 60)] r = some (.int m) ∧ 0 < m ∧ m.natAbs < 2 ^ 9000 := by
        have : r = 0 ∨ r = 1 := by omega
        rcases this with rfl | rfl
        · exact ⟨_, rfl, by decide, by decide +kernel⟩
        · exact ⟨_, rfl, by decide +kernel, by decide +kernel⟩
      refine z_ixL (SqL.of upd_same) hm ?_
      repeat walk_at "z"
      refine ⟨b, x, c0, t, m, rfl, by rw [upd_ne (ne_of_none hb1 hq1)]; exact hb1, hm0, hm1, fun num z hn0 hn1 => ?_⟩
      have hb2 : ∀ H2 : Hp, upd H2 b (.lst [.int z, .int c0, .int (t + 1)]) b = some (.lst [.int z, .int c0, .int (t + 1)]) := fun _ => upd_same
      repeat walk_at "z"
      refine ⟨num, rfl, fun p es H2 s2 n2 hp es2 => ?_⟩
      have hb3 := s2 _ _ (hb2 _)
      have hes : es.length = 22 := Paired.length es2
      repeat walk_at "z"
      -- for k, one in enumerate(made)
      refine ⟨_, rfl, p, es, rfl, SqL.of hp, for_it (walk_enum (xs := es)) (fun i σ H' => ∃ (v5 v6 v7 v8 v9 v10 : Option V), σ = [some (.ref a), some (.ref b), some (.int (0 + (turn : Int))), some (.int num), some (.ref p), v5, v6, v7, v8, v9, v10] ∧
        H' b = some (.lst [.int z, .int c0, .int (t + 1)]) ∧ H' p = some (.lst es) ∧ HasAll H' es (csOf K num)) ⟨_, _, _, _, _, _, rfl, hb3, hp, es2⟩ (fun i σ H' _ ⟨_, _, _, _, _, _, _, _, h, _⟩ => SqL.of h) ?_ ?_⟩
      · rintro i v σ H3 H4 hi ⟨v5, v6, v7, v8, v9, v10, rfl, hb4, hp4, es4⟩ ⟨Tp, x0, e, rfl, hT, rfl, hx0, he⟩
        cases (Option.some.inj hx0)
        obtain ⟨c, hc, hX⟩ := paired_get es4 he
        obtain ⟨y, hy, hcy⟩ := cs_get hc
        have sT : Same H3 (upd H3 Tp (.tup [.int (i : Nat), e])) := same_new (Same.refl _) hT
        obtain ⟨e0, rfl⟩ : ∃ e0, e = V.ref e0 := ⟨_, hX.choose_spec.1⟩
        have ea := (hX.mono sT).at
        rw [hcy] at ea
        have hyE : y ∈ (("PageError" : Str) :: errs) := List.mem_cons_of_mem _ (List.mem_of_getElem? hy)
        refine ⟨Tp, _, rfl, SqT.of upd_same, rfl, _, _, rfl, ?_⟩
        walk_at "z"
        refine ⟨_, _, rfl, ?_⟩
        walk_at "z"
        refine ⟨rfl, ?_⟩
        repeat walk_at "z"
        refine z_isQ ea (exc_ok cA y (in_excs y hyE)) (ClsV.own _) (is_pe cB hyE) ?_
        repeat walk_at "z"
        refine iteF ?_
        repeat walk_at "z"
        refine z_isQ ea (exc_ok cA y (in_excs y hyE)) (ClsV.ty _) (is_ve cB hyE) ?_
        repeat walk_at "z"
        refine iteF ?_
        repeat walk_at "z"
        refine ⟨e0, y, rfl, hyE, ea, fun q5 H5 s5 n5 h5 => ?_⟩
        have s35 := sT.trans s5
        refine lc_pure (n := 22) (f := fun j => V.bl (decide ((0 : Int) + (j : Int) = ((i : Nat) : Int)))) (by decide) (PuA.cons (pu_len rfl (s35 _ _ hp4) (by rw [hes])) .nil) (fun j hj H6 s6 Q' q' => ?_) (fun _ => rfl) fun q6 H6 s6 n6 h6 => ?_
        · repeat walk_at "z"
          exact q'
        · refine z_neSame (SqL.of (s6 _ _ h5)) (SqL.of (by rw [h6, ← row_eq hy])) (all_plain_bl _ _) ?_
          repeat walk_at "z"
          have s36 := s35.trans s6
          exact ⟨_, _, _, _, _, _, rfl, s36 _ _ hb4, s36 _ _ hp4, es4.mono s36⟩
      · rintro σ H3 ⟨v5, v6, v7, v8, v9, v10, rfl, hb4, hp4, es4⟩
        have fk : ∀ (σ : L2.St) (k : Nat) (C : Addr) (f : Str), σ[4]? = some (some (V.ref p)) → (csOf K num)[k]? = some (C, some (f, V.int num)) → XfC K C → PySem.W.findIn K (.ref C) f = some none → PuT (tXfV K f (tOp (rIxL K) (tVar 4) (tC (.int (k : Int))))) σ H3 (.int num) := by
          intro σ k C f e4 hk T no
          obtain ⟨e, he, hX⟩ := paired_get2 es4 hk
          obtain ⟨e0, rfl, d, h1, h2⟩ := hX
          exact pu_xf (pu_ix e4 hp4 (atI_nat he)) h1 h2 T no
        walk_at "z"
        refine z_asg (PuA.lst (PuA.cons (fk _ 0 _ "item" rfl rfl (xf_of (exc_ok cA "InvalidRule" (by decide +kernel))) X.X_InvalidRule.no) (PuA.cons (fk _ 1 _ "level" rfl rfl (xf_of (exc_ok cA "InvalidLevels" (by decide +kernel))) X.X_InvalidLevels.no)
          (PuA.cons (fk _ 2 _ "step" rfl rfl (xf_of (exc_ok cA "InvalidScript" (by decide +kernel))) X.X_InvalidScript.no) (PuA.cons (fk _ 3 _ "item" rfl rfl (xf_of (exc_ok cA "InvalidRuns" (by decide +kernel))) X.X_InvalidRuns.no)
          (PuA.cons (fk _ 4 _ "item" rfl rfl (xf_of (exc_ok cA "InvalidSeen" (by decide +kernel))) X.X_InvalidSeen.no) (PuA.cons (fk _ 5 _ "part" rfl rfl (xf_of (exc_ok cA "InvalidText" (by decide +kernel))) X.X_InvalidText.no)
          (PuA.cons (fk _ 6 _ "count" rfl rfl (xf_of (exc_ok cA "OverBudget" (by decide +kernel))) X.X_OverBudget.no) .nil))))))) (Nat.le_of_ble_eq_true rfl) fun q7 H7 s7 n7 h7 => ?_)
        repeat walk_at "z"
        refine ⟨by show 1 ≤ sizeLine; decide, fun q8 hq8 => ?_⟩
        repeat walk_at "z"
        refine ⟨q8, 7, _, rfl, rfl, upd_same, by decide, by decide, by show 1 * 7 ≤ sizeLine; decide, fun q9 hq9 => ?_⟩
        have s8 : Same H7 (upd H7 q8 (.lst [.int num])) := same_new (Same.refl _) hq8
        refine z_neSame (SqL.of ((same_new s8 hq9) _ _ h7)) (SqL.of upd_same) rfl ?_
        repeat walk_at "z"
        exact ⟨_, _, _, _, _, _, _, _, _, _, _, rfl, (same_new s8 hq9) _ _ (s7 _ _ hb4)⟩
    · rintro σ H1 ⟨x, t, v2, v3, v4, v5, v6, v7, v8, v9, v10, rfl, hb1⟩
      -- base = PageError("x")
      walk_at "z"
      refine z_asg (mk_1 (fun H => PuT.c) _ _ fun e2 H2 s2 x2 => ?_)
      obtain ⟨e0, rfl⟩ : ∃ e0, e2 = V.ref e0 := ⟨_, x2.choose_spec.1⟩
      have ea := x2.at
      walk_at "z"
      walk_at "z"
      have gf : ∀ {σ : L2.St} {x f : Str}, ClsX P w K mg base x f → x ∈ excs → GrT (tXfV K f (tMkV (He.ga K x) (spX (He.ga K x) f) (tCons (tC .non) tNil))) σ .non := fun C hx => gr_xf (mk_V fun H => PuA.cons PuT.c .nil) (xf_of (exc_ok cA _ hx)) C.no
      have gA : ∀ {σ : L2.St}, GrA (tCons (tXfV K "item" (tMkV (He.ga K "InvalidRule") (spX (He.ga K "InvalidRule") "item") (tCons (tC .non) tNil))) (tCons (tXfV K "level" (tMkV (He.ga K "InvalidLevels") (spX (He.ga K "InvalidLevels") "level") (tCons (tC .non) tNil)))
          (tCons (tXfV K "step" (tMkV (He.ga K "InvalidScript") (spX (He.ga K "InvalidScript") "step") (tCons (tC .non) tNil))) (tCons (tXfV K "item" (tMkV (He.ga K "InvalidRuns") (spX (He.ga K "InvalidRuns") "item") (tCons (tC .non) tNil))) tNil)))) σ [.non, .non, .non, .non] :=
        GrA.cons (gf X.X_InvalidRule (by decide +kernel)) (GrA.cons (gf X.X_InvalidLevels (by decide +kernel)) (GrA.cons (gf X.X_InvalidScript (by decide +kernel)) (GrA.cons (gf X.X_InvalidRuns (by decide +kernel)) .nil)))
      have gB : ∀ {σ : L2.St}, GrA (tCons (tXfV K "item" (tMkV (He.ga K "InvalidSeen") (spX (He.ga K "InvalidSeen") "item") (tCons (tC .non) tNil))) (tCons (tXfV K "part" (tMkV (He.ga K "InvalidText") (spX (He.ga K "InvalidText") "part") (tCons (tC .non) tNil))) tNil)) σ [.non, .non] :=
        GrA.cons (gf X.X_InvalidSeen (by decide +kernel)) (GrA.cons (gf X.X_InvalidText (by decide +kernel)) .nil)
      refine z_asg (GrA.lst gA (Nat.le_of_ble_eq_true rfl) fun p3 H3 s3 n3 h3 => ?_)
      walk_at "z"
      walk_at "z"
      refine z_asg (GrA.cat gB (Nat.le_of_ble_eq_true rfl) rfl h3 fun p4 H4 s4 n4 h4 => ?_)
      repeat walk_at "z"
      refine ⟨by show 1 ≤ sizeLine; decide, fun q8 hq8 => ?_⟩
      repeat walk_at "z"
      refine ⟨q8, 6, _, rfl, rfl, upd_same, by decide, by decide, by show 1 * 6 ≤ sizeLine; decide, fun q9 hq9 => ?_⟩
      have s8 : Same H4 (upd H4 q8 (.lst [.non])) := same_new (Same.refl _) hq8
      have s9 := s8.trans (same_new (o := .lst [.non, .non, .non, .non, .non, .non]) (Same.refl _) hq9)
      refine z_eqSame (SqL.of (s9 _ _ h4)) (SqL.of upd_same) rfl ?_
      repeat walk_at "z"
      refine ⟨e0, "PageError", rfl, List.mem_cons_self, ((ea.mono s3).mono s4).mono s9, fun q5 H5 s5 n5 h5 => ?_⟩
      refine ⟨q5, _, rfl, .inl (SqL.of h5), rfl, by decide +kernel, ?_⟩
      have ev : (if true = true then !inV (V.bl true) (errs.map fun y => V.bl (decide (("PageError" : Str) = y))) else inV (V.bl true) (errs.map fun y => V.bl (decide (("PageError" : Str) = y)))) = true := by decide +kernel
      rw [ev]
      repeat walk_at "z"
      refine z_isQ ((((ea.mono s3).mono s4).mono s9).mono s5) (exc_ok cA "PageError" (by decide +kernel)) (ClsV.ty _) (is_ve cB List.mem_cons_self) ?_
      exact k _
theorem facts {h : Heap} {f : Addr} (X : K.In h) (G : h.Ns mainGlobals mg) (hfa : mg ("law" : Str) = some (.ref f)) (c : He.SaysX fa fn [] [] ex w h K) :
    ∃ fd : FuncData, (∀ (s : Shared) (v : Value), BindsTo s fd ⟨[v], []⟩ [("script", v)]) ∧ ∀ base : Heap, K.In base → base.Ns mainGlobals mg → FnOk P w K mg base CX0 4 f fd ["script"] (spLaw K) := by
  obtain ⟨f', fd, F, g⟩ := D_law X G c
  have e := hfa.symm.trans g
  cases e
  have T := txt_ok X G c
  refine ⟨fd, fun s v => FunD.bindsA (ps := ["script"]) F (fun _ _ _ _ _ _ us hl => match us, hl with | [_], _ => rfl) s [v] rfl, fun base _ _ => ?_⟩
  have Xb : Xs P w K mg base := ⟨X_InvalidRule (w := w) X G c, X_InvalidLevels (w := w) X G c, X_InvalidScript (w := w) X G c, X_InvalidRuns (w := w) X G c, X_InvalidSeen (w := w) X G c, X_InvalidText (w := w) X G c, X_OverBudget (w := w) X G c⟩
  exact ok_law F T Xb (exA_ok c) (exB_ok c) (ok_bag (D_law_bag X G c) T) (ok_pick (D_law_pick X G c) T) (ok_made (D_law_made X G c) T Xb) (ok_classes (D_law_classes X G c) T (exA_ok c) (exB_ok c))
end

end K53
open PySem PySem.W PySem.Calls PyProof.Rows
set_option maxRecDepth 100000 in
set_option maxHeartbeats 0 in
theorem PySem.Challenge.cw_leafsplits_k53_errors_made_holds : PySem.Challenge.rw_leafsplits_k53_errors_made.Holds := by
  w_on; o_law
  refine HandSHeadRun.head_any (r := OpenLaw.row PySem.Challenge.rw_leafsplits_k53_errors_made) (q := view (OpenLaw.row PySem.Challenge.rw_leafsplits_k53_errors_made).prog [29]) (H := K53.hk) (ob := K53.ob) (M := 20000) (loose := K53.loose) (d := HandSHeadRun.topDef (OpenLaw.row PySem.Challenge.rw_leafsplits_k53_errors_made).prog 29) (kwd := []) K53.ob_eq
    (by kernel_rfl) (fun s => by kernel_rfl) K53.run (by kernel_rfl) (by kernel_rfl) (by kernel_rfl) (by rfl) (by first | assumption | decide +kernel) (by decide +kernel) ⟨rfl, rfl, rfl, rfl, rfl, by decide +kernel⟩ ?hw ?hc
  case hw => w_witness2
  case hc =>
    refine L2.walk_ofE (l := PySem.Challenge.rw_leafsplits_k53_errors_made) (n := 63) (k := 4) (x := "script") (CX := L2.CX0) rfl (by decide) (by kernel_rfl) ⟨rfl, by decide, by decide⟩ ?F (fun _ _ _ _ z => z)
    intro w mg fa h Y G hmg0
    obtain ⟨K, KX, c⟩ := Y
    have hmg : mg ("law" : PySem.Str) = some (.ref fa) := by
      have e : (HandSHeadRun.topDef (OpenLaw.row PySem.Challenge.rw_leafsplits_k53_errors_made).prog 29).name = ("law" : PySem.Str) := by kernel_rfl
      rw [← e]
      exact hmg0
    obtain ⟨fd, hb, hF⟩ := K53.facts (P := (PySem.Challenge.rw_leafsplits_k53_errors_made).prog) (w := w) KX G hmg c
    exact ⟨K, fd, K53.spLaw K, KX, hb, fun H a ns hl hO hS => ⟨a, ns, rfl, hS, hl, fun _ => rfl⟩, hF⟩
