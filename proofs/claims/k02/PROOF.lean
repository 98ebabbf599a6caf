import PyProof.Rows.All
import Wide.All
import OpenK.AllK
import Wide.FinOn
import KE.KStateDown
import KE.KExcIs
import Lean
import HandS.ForMost
import HandS.ForExc
import HandS.ExcInit
import HandS.ExcValue
import HandS.ExcField
import HandS.ExcIs
import HandS.IsInst
import HandS.Defaults
import HandS.Property
import HandS.OwnEq
import HandS.Wide
import HandS.Flow
import HandS.Walk
import HandS.Head0
import HandS.Head1
import HandS.Head2
import HandS.HeadEnd
import HandS.HeadHook1
import HandS.HeadHook2
import HandS.HeadHook3
import HandS.HeadHook4
import PyProof.ReprRoads
import HandS.RaiseMore
import PyProof.InstNe
import PyProof.Rows.RuleB_pow
import KE.DatumOrd
import HandS.NoneIn
import HandS.ExcOwn
import PyProof.ReprLen
import PyProof.FitsInt
import HandS.WordsExc
import PySem.Challenge.RW_leafsplits_k02_errors_of_rules
set_option Elab.async false
set_option linter.all false
set_option maxRecDepth 100000
set_option maxHeartbeats 4000000
namespace Z
open PySem PySem.Spec L2
open PyProof.Rows hiding St

/-! ### a def as its callers see it -/
structure CallOk (P : Program) (w : World) (K : PySem.W.Frag) (mg : Str → Option Value) (base : Heap) (CX : CXT) (k : Nat) (x : Str) (ps : List Str) (sp : Sp) : Prop where
  ex : ∃ (f : Addr) (fd : FuncData), FnOk P w K mg base CX k f fd ps sp ∧ mg x = some (.ref f) ∧ PySem.W.keepIn K (.ref f) = true ∧ Binds K fd ps []
section
variable {X : Cx} {CX : CXT} {k : Nat} {x : Str} {ps : List Str} {sp : Sp} {E : XK} {p pos : Pos} {e : Expr} {es : List Expr} {t : TA}
theorem pe_own (C : CallOk X.prog X.w X.K X.mg X.base CX k x ps sp) (hr : Room k X.A) (hg : Gl X x) (hx : Passes CX X E) (ha : PA X (e :: es) t)
    (hdb : (x == ("__debug__" : Str)) = false := by decide) (he : starEach (e :: es) X.env = (false, eval e X.env) :: starEach es X.env := by rfl) (hpl : (backTo pos (starEach es X.env)).any (·.1) = false := by rfl) :
    PE X (.Call (.Name x p) (e :: es) [] pos) (tCall sp [] E t) := by
  obtain ⟨f, fd, F, hm, hk, hb⟩ := C.ex
  exact pe_call F hr hg hm hk hb .nil hx ha hdb he hpl
end

/-- a def of the text as it stands behind the top -/
abbrev FnP (K : PySem.W.Frag) (x : Str) (st : Stmt) (f : Addr) (fd : FuncData) : Prop := FunD K x x (defArgs st) (defBody st) (defScope st) [] [] f fd
def Def (K : PySem.W.Frag) (mg : Str → Option Value) (x : Str) (st : Stmt) : Prop := ∃ (f : Addr) (fd : FuncData), FnP K x st f fd ∧ mg x = some (.ref f)
theorem def_ok {P : Program} {w : World} {K : PySem.W.Frag} {mg : Str → Option Value} {base : Heap} {CX : CXT} {x : Str} {st : Stmt} {N ps : List Str} {k : Nat} {sp : Sp} (D : Def K mg x st) (S : FnScope N ps (defScope st)) (len : ∀ vs H Q E, sp vs H Q E → vs.length = ps.length)
    (hbind : ∀ (kV doc pm : Value) (an : Option Addr) (cdv ct : Value) (us : List Value), us.length = ps.length → bindArgs (PySem.W.fnOf x x (defArgs st) (defBody st) (defScope st) .none kV doc pm an cdv ct) ⟨us, []⟩ = pure (ps.zip us))
    (hbody : ∀ (f : Addr) (cdv : Value) (A : Around) (outer : List Env) (s : Shared) (H : Hp) (vs : List V) (Q : VK) (E : XK), Room k (A.deeper (envOfC x (defScope st) s.heap.objs.size f cdv)) → sp vs H Q E →
      ∃ t, PSs (cxOf CX P w K mg base N x (defScope st) f cdv A outer s H E) (defBody st) t ∧ t { nx := fun _ H' => Q .non H', rt := Q } (start N vs) H) : CallOk P w K mg base CX (k + 1) x ps sp := by
  obtain ⟨f, fd, F, g⟩ := D
  exact ⟨⟨f, fd, F.ok S len (fun cdv A outer s H vs Q E hr h => hbody f cdv A outer s H vs Q E hr h), g, F.kp, F.bindsN hbind⟩⟩
/-- for a def that lets nothing out -/
theorem fn_ok0 {P : Program} {w : World} {K : PySem.W.Frag} {mg : Str → Option Value} {base : Heap} {x : Str} {st : Stmt} {N ps : List Str} {k : Nat} {sp : Sp} {f : Addr} {fd : FuncData} (F : FnP K x st f fd) (S : FnScope N ps (defScope st)) (len : ∀ vs H Q E, sp vs H Q E → vs.length = ps.length)
    (hbody : ∀ (cdv : Value) (A : Around) (outer : List Env) (s : Shared) (H : Hp) (vs : List V) (Q : VK) (E : XK), Room k (A.deeper (envOfC x (defScope st) s.heap.objs.size f cdv)) → sp vs H Q E →
      ∃ t, PSs (cxOf CX0 P w K mg base N x (defScope st) f cdv A outer s H E).nox (defBody st) t ∧ t { nx := fun _ H' => Q .non H', rt := Q } (start N vs) H) : FnOk P w K mg base CX0 (k + 1) f fd ps sp :=
  F.ok S len fun cdv A outer s H vs Q E hr h => by
    obtain ⟨t, h1, h2⟩ := hbody cdv A outer s H vs Q E hr h
    exact ⟨t, h1.nox, h2⟩
theorem def_ok0 {P : Program} {w : World} {K : PySem.W.Frag} {mg : Str → Option Value} {base : Heap} {x : Str} {st : Stmt} {N ps : List Str} {k : Nat} {sp : Sp} (D : Def K mg x st) (S : FnScope N ps (defScope st)) (len : ∀ vs H Q E, sp vs H Q E → vs.length = ps.length)
    (hbind : ∀ (kV doc pm : Value) (an : Option Addr) (cdv ct : Value) (us : List Value), us.length = ps.length → bindArgs (PySem.W.fnOf x x (defArgs st) (defBody st) (defScope st) .none kV doc pm an cdv ct) ⟨us, []⟩ = pure (ps.zip us))
    (hbody : ∀ (f : Addr) (cdv : Value) (A : Around) (outer : List Env) (s : Shared) (H : Hp) (vs : List V) (Q : VK) (E : XK), Room k (A.deeper (envOfC x (defScope st) s.heap.objs.size f cdv)) → sp vs H Q E →
      ∃ t, PSs (cxOf CX0 P w K mg base N x (defScope st) f cdv A outer s H E).nox (defBody st) t ∧ t { nx := fun _ H' => Q .non H', rt := Q } (start N vs) H) : CallOk P w K mg base CX0 (k + 1) x ps sp := by
  obtain ⟨f, fd, F, g⟩ := D
  exact ⟨⟨f, fd, fn_ok0 F S len (fun cdv A outer s H vs Q E hr h => hbody f cdv A outer s H vs Q E hr h), g, F.kp, F.bindsN hbind⟩⟩
theorem CallOk.mono {P : Program} {w : World} {K : PySem.W.Frag} {mg : Str → Option Value} {base : Heap} {CX : CXT} {j k : Nat} {x : Str} {ps : List Str} {sp : Sp} (C : CallOk P w K mg base CX j x ps sp) (h : j ≤ k) : CallOk P w K mg base CX k x ps sp := by
  obtain ⟨f, fd, F, r⟩ := C.ex
  exact ⟨⟨f, fd, F.mono h, r⟩⟩
/-! ### built-ins whose readings bear names -/
def rInt1 : List V → Hp → VK → Prop := fun xs H Q => (∃ i, xs = [.int i] ∧ Q (.int i) H) ∨ ∃ k, xs = [.bl k] ∧ Q (.int (if k then 1 else 0)) H
def rMax2 : List V → Hp → VK → Prop := fun xs H Q => ∃ i j, xs = [.int i, .int j] ∧ Q (.int (if j > i then j else i)) H
def rMin2 : List V → Hp → VK → Prop := fun xs H Q => ∃ i j, xs = [.int i, .int j] ∧ Q (.int (if j < i then j else i)) H
def rLenS (K : PySem.W.Frag) : List V → Hp → VK → Prop := fun xs H Q => ∃ p ys, xs = [.ref p] ∧ (SqL K H p ys ∨ SqT K H p ys) ∧ Q (.int ys.length) H
section
variable {X : Cx}
theorem cInt : CallR X (.type "int") rInt1 := call_int1
theorem cMax (hc : X.calm = true) : CallR X (.builtin "max") rMax2 := call_max2 hc
theorem cMin (hc : X.calm = true) : CallR X (.builtin "min") rMin2 := call_min2 hc
theorem cLen : CallR X (.builtin "len") (rLenS X.K) := call_len_seq
end
/-! ### readings, one step at a time -/
inductive SetTo : St → Nat → V → St → Prop where
  | zero {a : Option V} {l : St} {v : V} : SetTo (a :: l) 0 v (some v :: l)
  | succ {a : Option V} {l l' : St} {i : Nat} {v : V} (h : SetTo l i v l') : SetTo (a :: l) (i + 1) v (a :: l')
theorem SetTo.eq {σ σ' : St} {i : Nat} {v : V} (h : SetTo σ i v σ') : σ.set i (some v) = σ' := by
  induction h with
  | zero => rfl
  | succ _ ih => rw [List.set_cons_succ, ih]
section
variable {σ σ' : St} {H : Hp} {Q : VK} {QT : Bool → Hp → Prop} {v x y : V} {i : Nat} {nx bk ct : St → Hp → Prop} {rt : VK} {t u : TS} {te ta tb tc : TE} {g : TG} {gs : TGs} {c : TT} {tc2 : TT} {r r' : R2} {b : Bool} {tA : TA} {QA : List V → Hp → Prop}
theorem z_var (e : σ[i]? = some (some v)) (h : Q v H) : tVar i σ H Q := ⟨v, e, h⟩
theorem z_c (h : Q v H) : tC v σ H Q := h
theorem z_op (h : ta σ H fun x H1 => tb σ H1 fun y H2 => r x y H2 Q) : tOp r ta tb σ H Q := h
theorem z_un {ru : V → Hp → VK → Prop} (h : ta σ H fun x H1 => ru x H1 Q) : tUn ru ta σ H Q := h
theorem z_I0 {f : Int → Int → V} {m n : Int} (h : Q (f m n) H) : rI0 f (.int m) (.int n) H Q := ⟨m, n, rfl, rfl, h⟩
theorem z_I {C : Int → Int → Prop} {f : Int → Int → V} {m n : Int} (hc : C m n) (h : Q (f m n) H) : rI C f (.int m) (.int n) H Q := ⟨m, n, rfl, rfl, hc, h⟩
theorem z_U {f : Int → V} {m : Int} (h : Q (f m) H) : rU f (.int m) H Q := ⟨m, rfl, h⟩
theorem z_eq (hs : scal x y = true) (h : Q (.bl (decide (x = y))) H) : rEq x y H Q := ⟨hs, h⟩
theorem z_ne (hs : scal x y = true) (h : Q (.bl (!decide (x = y))) H) : rNe x y H Q := ⟨hs, h⟩
theorem z_eqI {m n : Int} (h : Q (.bl (decide (m = n))) H) : rEq (.int m) (.int n) H Q := ⟨rfl, by
  have e : decide (V.int m = V.int n) = decide (m = n) := by simp
  rw [e]; exact h⟩
theorem z_neI {m n : Int} (h : Q (.bl (!decide (m = n))) H) : rNe (.int m) (.int n) H Q := ⟨rfl, by
  have e : decide (V.int m = V.int n) = decide (m = n) := by simp
  rw [e]; exact h⟩
theorem z_test (h : te σ H fun x H' => ∃ k, x = .bl k ∧ QT k H') : tTest te σ H QT := h
theorem z_B (h : te σ H fun x H' => ∃ k, x = .bl k ∧ QT k H') : tB te σ H QT := h
theorem z_ex (P : Bool → Prop) (h : P b) : ∃ k, V.bl b = .bl k ∧ P k := ⟨b, rfl, h⟩
theorem z_and (h : c σ H fun d H1 => if d = true then tc2 σ H1 QT else QT false H1) : tAnd c tc2 σ H QT := h
theorem z_or (h : c σ H fun d H1 => if d = true then QT true H1 else tc2 σ H1 QT) : tOr c tc2 σ H QT := h
theorem z_not (h : c σ H fun d H1 => QT (!d) H1) : tNot c σ H QT := h
theorem z_andV (h : ta σ H fun x H1 => ∃ d, x = .bl d ∧ if d = true then tb σ H1 Q else Q (.bl false) H1) : tAndV ta tb σ H Q := h
theorem z_orV (h : ta σ H fun x H1 => ∃ d, x = .bl d ∧ if d = true then Q (.bl true) H1 else tb σ H1 Q) : tOrV ta tb σ H Q := h
theorem z_notV (h : ta σ H fun x H1 => ∃ d, x = .bl d ∧ Q (.bl (!d)) H1) : tNotV ta σ H Q := h
theorem z_ifE (h : c σ H fun d H1 => if d = true then ta σ H1 Q else tb σ H1 Q) : tIf c ta tb σ H Q := h
theorem z_chain (h : ta σ H fun x H1 => tb σ H1 fun y H2 => r x y H2 fun z H3 => ∃ k, z = .bl k ∧ (if k = true then tc σ H3 fun w' H4 => r' y w' H4 Q else Q (.bl false) H3)) : tChain r r' ta tb tc σ H Q := h
theorem z_seq (h : t ⟨u ⟨nx, rt, bk, ct⟩, rt, bk, ct⟩ σ H) : tSeq t u ⟨nx, rt, bk, ct⟩ σ H := h
theorem z_next (h : nx σ H) : tNext ⟨nx, rt, bk, ct⟩ σ H := h
theorem z_brk (h : bk σ H) : tBreak ⟨nx, rt, bk, ct⟩ σ H := h
theorem z_cont (h : ct σ H) : tCont ⟨nx, rt, bk, ct⟩ σ H := h
theorem z_asg (h : te σ H fun x H1 => g x σ H1 nx) : tAsg te g ⟨nx, rt, bk, ct⟩ σ H := h
theorem z_drop (h : te σ H fun _ H1 => nx σ H1) : tDrop te ⟨nx, rt, bk, ct⟩ σ H := h
theorem z_ret (h : te σ H rt) : tRet te ⟨nx, rt, bk, ct⟩ σ H := h
theorem z_retN (h : rt .non H) : tRetN ⟨nx, rt, bk, ct⟩ σ H := h
theorem z_if (h : c σ H fun d H1 => if d = true then t ⟨nx, rt, bk, ct⟩ σ H1 else u ⟨nx, rt, bk, ct⟩ σ H1) : tIfS c t u ⟨nx, rt, bk, ct⟩ σ H := h
theorem z_name {R : St → Hp → Prop} (e : SetTo σ i v σ') (h : R σ' H) : gName i v σ H R := by
  show R (σ.set i (some v)) H
  rw [e.eq]
  exact h
theorem z_sub {to ti : TE} {ts : TSet} {R : St → Hp → Prop} (h : to σ H fun o H1 => ti σ H1 fun j H2 => ts o j v H2 fun H3 => R σ H3) : gSub to ti ts v σ H R := h
theorem z_par {j : Nat} (h : tA σ H fun vs H1 => ∃ v w, vs = [v, w] ∧ nx ((σ.set i (some v)).set j (some w)) H1) : tPar i j tA ⟨nx, rt, bk, ct⟩ σ H := h
theorem z_par2 {j : Nat} {σ1 σ2 : St} {w : V} {R : St → Hp → Prop} (e1 : SetTo σ i v σ1) (e2 : SetTo σ1 j w σ2) (h : R σ2 H) : ∃ v' w', [v, w] = [v', w'] ∧ R ((σ.set i (some v')).set j (some w')) H :=
  ⟨v, w, rfl, by rw [e1.eq, e2.eq]; exact h⟩
theorem z_nil (h : QA [] H) : tNil σ H QA := h
theorem z_cons (h : ta σ H fun x H1 => tA σ H1 fun xs H2 => QA (x :: xs) H2) : tCons ta tA σ H QA := h
theorem z_cb {rc : List V → Hp → VK → Prop} (h : tA σ H fun vs H1 => rc vs H1 Q) : tCB rc tA σ H Q := h
theorem z_call {sp : Sp} {E : XK} (h : tA σ H fun vs H1 => sp (vs ++ []) H1 Q E) : tCall sp [] E tA σ H Q := h
theorem z_lst (h : tA σ H fun xs H1 => xs.length ≤ sizeLine ∧ ∀ p, H1 p = none → Q (.ref p) (upd H1 p (.lst xs))) : tLst tA σ H Q := h
theorem z_tup (h : tA σ H fun xs H1 => xs.length ≤ sizeLine ∧ ∀ p, H1 p = none → Q (.ref p) (upd H1 p (.tup xs))) : tTup tA σ H Q := h
theorem z_ixL {K : PySem.W.Frag} {p : Addr} {xs : List V} {n : Int} (h : SqL K H p xs) (e : atI xs n = some v) (q : Q v H) : rIxL K (.ref p) (.int n) H Q := ⟨p, xs, n, v, rfl, rfl, h, e, q⟩
theorem z_ixT {K : PySem.W.Frag} {p : Addr} {xs : List V} {n : Int} (h : SqT K H p xs) (e : atI xs n = some v) (q : Q v H) : rIxT K (.ref p) (.int n) H Q := ⟨p, xs, n, v, rfl, rfl, h, e, q⟩
theorem z_setL {p : Addr} {xs : List V} {n : Int} {j : Nat} {R : Hp → Prop} (h : H p = some (.lst xs)) (e : ixN xs.length n = some j) (q : R (upd H p (.lst (xs.set j v)))) : rSetL (.ref p) (.int n) v H R := ⟨p, xs, n, j, rfl, rfl, h, e, q⟩
theorem z_int1 {n : Int} (h : Q (.int n) H) : rInt1 [.int n] H Q := .inl ⟨n, rfl, h⟩
theorem z_max2 {m n : Int} (h : Q (.int (if n > m then n else m)) H) : rMax2 [.int m, .int n] H Q := ⟨m, n, rfl, h⟩
theorem z_min2 {m n : Int} (h : Q (.int (if n < m then n else m)) H) : rMin2 [.int m, .int n] H Q := ⟨m, n, rfl, h⟩
theorem z_len {K : PySem.W.Frag} {p : Addr} {xs : List V} (h : SqL K H p xs) (q : Q (.int xs.length) H) : rLenS K [.ref p] H Q := ⟨p, xs, rfl, .inl h, q⟩
theorem z_lenT {K : PySem.W.Frag} {p : Addr} {xs : List V} (h : SqT K H p xs) (q : Q (.int xs.length) H) : rLenS K [.ref p] H Q := ⟨p, xs, rfl, .inr h, q⟩
theorem z_pow {m n : Int} (h0 : 0 ≤ n) (h1 : n ≤ 1000000) (h2 : m.natAbs < 2 ^ 64) : CPow m n := ⟨h0, h1, h2⟩
theorem z_modG {m n : Int} (hn : 0 < n) (h : ∀ r : Int, 0 ≤ r → r < n → Q (.int r) H) : rI (fun _ j => 0 < j) (fun i j => .int (i % j)) (.int m) (.int n) H Q := ⟨m, n, rfl, rfl, hn, h _ (Int.emod_nonneg _ (by omega)) (Int.emod_lt_of_pos _ hn)⟩
theorem z_start {D : Ends} (e : σ = σ') (h : t D σ' H) : t D σ H := by
  rw [e]
  exact h
theorem z_iteT {A B : Prop} (h : A) : if true = true then A else B := iteT h
theorem z_iteF {A B : Prop} (h : B) : if false = true then A else B := iteF h
end

/-! ### lists: the left one may be locked, or of the written part -/
theorem list_add_sl (l : Addr) (items : Array Value) (n : Nat) (sl : Array (Option Value)) (b : Addr) (items2 : Array Value) (n2 : Nat) (hc0 : items.size + items2.size ≤ sizeLine) :
    Meets (Builtin.«list.__add__» ⟨[.ref l, .ref b], []⟩) (fun _ R s => s.heap.get? l = some { cls := .type "list", dict := none, data := .seq items n, slots := sl } ∧ s.heap.get? b = some { cls := .type "list", dict := none, data := .seq items2 n2, slots := #[] } ∧
      R (.ok (.ret (Value.ref s.heap.objs.size))) { s with heap := s.heap.push { cls := Value.type "list", data := Data.seq (items ++ items2) }, toks := s.toks }) :=
  .of_wp fun prog w A R s h => by
    obtain ⟨hp, g, d, tk, os⟩ := s
    obtain ⟨hl, hb, h⟩ := h
    have f1 := AutoSeq1.idx_int
    have f3 := AutoSeq1.sub_list_list
    wp_walk using wpAny_loadPart' hl, wpAny_loadPart' hb
    exact ⟨_, rfl, h⟩
def rCatS (K : PySem.W.Frag) : R2 := fun x y H Q => ∃ l b xs zs, x = .ref l ∧ y = .ref b ∧ SqL K H l xs ∧ H b = some (.lst zs) ∧ xs.length + zs.length ≤ sizeLine ∧ ∀ p, H p = none → Q (.ref p) (upd H p (.lst (xs ++ zs)))
theorem op_catS {X : Cx} : OpR X (binaryOp .Add) (rCatS X.K) := by
  intro pins s σ H x y v u Q I rx ry h
  obtain ⟨l, b, xs, zs, rfl, rfl, hL, hB, hz, q⟩ := h
  cases rx
  cases ry
  obtain ⟨its, r, ⟨o, n, ho, hc, hd, hs⟩, hl⟩ := I.list hL
  obtain ⟨oc, od, dt, sl⟩ := o
  simp only at hc hd hs
  subst hc hd hs
  obtain ⟨z2, its2, n2, r2, hl2, e2⟩ := I.lstM hB
  have h1 := r.length
  refine concat_meets ⟨_, ho, rfl⟩ ⟨_, e2, rfl⟩ noFill_list_add seq_list_add F.slot_list_add F.entry_list_add (F.args_list_add_2 _ _) (list_add_sl l its.toArray n sl b its2.toArray n2 (by rw [List.size_toArray, List.size_toArray]; omega)) ⟨ho, e2, ?_⟩
  have ea : its.toArray ++ its2.toArray = (its ++ its2).toArray := by simp
  rw [ea]
  exact ⟨.ref _, _, I.lnew (t' := s.toks) (r.append r2) (by rw [List.length_append]; omega), rfl, q _ I.fresh⟩

/-! ### lists of plain things compared -/
def plainV : V → Bool
  | .non => true
  | .bl _ => true
  | .int _ => true
  | _ => false
def datV : V → PyData
  | .bl b => .bool b
  | .int i => .int i
  | _ => .none
theorem dp_plain {K : PySem.W.Frag} {H : Hp} : ∀ {v : V}, plainV v = true → Dp K H v (datV v)
  | .non, _ => .non
  | .bl b, _ => .bl b
  | .int i, _ => .int i
  | .str _, h => nomatch h
  | .byt _, h => nomatch h
  | .flt _, h => nomatch h
  | .ref _, h => nomatch h
  | .ty _, h => nomatch h
theorem dpAll_plain {K : PySem.W.Frag} {H : Hp} : ∀ {vs : List V}, vs.all plainV = true → DpAll K H vs (vs.map datV)
  | [], _ => .nil
  | v :: vs, h => by
    rw [List.all_cons, Bool.and_eq_true] at h
    exact .cons (dp_plain h.1) (dpAll_plain h.2)
theorem can_datV (v : V) : (datV v).canLay0 = true ∧ (datV v).depth ≤ 1 := by cases v <;> exact ⟨rfl, by simp [datV, PyData.depth]⟩
theorem can_all : ∀ vs : List V, PyData.canLayAll0 (vs.map datV) = true ∧ PyData.depthAll (vs.map datV) ≤ 1
  | [] => ⟨rfl, by simp [PyData.depthAll]⟩
  | v :: vs => by
    obtain ⟨h1, h2⟩ := can_datV v
    obtain ⟨h3, h4⟩ := can_all vs
    refine ⟨by simp [PyData.canLayAll0, h1, h3], ?_⟩
    rw [List.map_cons, PyData.depthAll]
    omega
theorem shaped_list (vs : List V) : SeqAt.shaped (.list (vs.map datV)) = true := by
  obtain ⟨h3, h4⟩ := can_all vs
  have hd : (PyData.list (vs.map datV)).depth ≤ 64 := by
    rw [PyData.depth]
    omega
  unfold SeqAt.shaped
  rw [decide_eq_true hd, Bool.and_true]
  exact h3
theorem dp_lst {K : PySem.W.Frag} {H : Hp} {p : Addr} {vs : List V} (h : SqL K H p vs) (hp : vs.all plainV = true) : Dp K H (.ref p) (.list (vs.map datV)) := .lst h (dpAll_plain hp)
theorem eqv_same (vs : List V) : PyData.eqv (.list (vs.map datV)) (.list (vs.map datV)) = true := SeqAt.eqv_refl _ (can_all vs).1
/-- two lists that hold the same -/
theorem z_neSame {K : PySem.W.Frag} {H : Hp} {Q : VK} {p q : Addr} {vs : List V} (h1 : SqL K H p vs) (h2 : SqL K H q vs) (hp : vs.all plainV = true) (h : Q (.bl false) H) : rNeD K (.ref p) (.ref q) H Q :=
  ⟨_, _, dp_lst h1 hp, dp_lst h2 hp, shaped_list vs, shaped_list vs, by rw [eqv_same]; exact h⟩
theorem z_eqSame {K : PySem.W.Frag} {H : Hp} {Q : VK} {p q : Addr} {vs : List V} (h1 : SqL K H p vs) (h2 : SqL K H q vs) (hp : vs.all plainV = true) (h : Q (.bl true) H) : rEqD K (.ref p) (.ref q) H Q :=
  ⟨_, _, dp_lst h1 hp, dp_lst h2 hp, shaped_list vs, shaped_list vs, by rw [eqv_same]; exact h⟩

/-! ### exceptions held as values -/
theorem findObj_E {K : PySem.W.Frag} {C : Addr} {od : Option Obj} {name : Str} {a g : Value} (hc : (PySem.W.clsIn K C).isSome = true) (ha : PySem.W.findIn K (.ref C) name = some (some a)) (hg : PySem.W.specialIn K a "__get__" = some (some g)) (ht : PySem.W.takesIn K a = some true) :
    PySem.W.findObj K C od name = some (.bind g a) := PySem.W.findObj_dataE hc ha hg ht
/-- what stands at a: an exception of the class at C, made without fields, or with its dict at d -/
def ExAt (H : Hp) (a C : Addr) : Prop := H a = some (ExO (.ref C) a) ∨ ∃ (d : Addr) (fs : List (Str × V)), H a = some (exo a C (some d)) ∧ H d = some (exd d fs)
theorem exAt_inst {P : Program} {w : World} {H : Hp} {h : Heap} {a C : Addr} (hok : HOk P w H h) (e : ExAt H a C) : ∃ (ox : Obj) (od : Option Obj), PySem.W.InstAt h a ox C od := by
  rcases e with e | ⟨d, fs, e, ed⟩
  · obtain ⟨⟨oe, vs, ho, hz, hd, _⟩, _, _⟩ := hok a _ e
    obtain ⟨oc, odd, dt, sl⟩ := oe
    obtain ⟨h1, h2⟩ := hz
    dsimp only at h1 h2 hd
    subst h1 h2 hd
    exact ⟨_, none, ho, rfl, rfl, trivial⟩
  · obtain ⟨t1, ho⟩ := exo_at hok e
    obtain ⟨mA, hns, _⟩ := exd_at hok ed
    obtain ⟨o, es, ep, e1, _⟩ := hns
    exact ⟨_, some o, ho, rfl, rfl, e1⟩
def rIsQ (K : PySem.W.Frag) : List V → Hp → VK → Prop := fun xs H Q => ∃ (a C : Addr) (c : V) (cv : Value) (b : Bool), xs = [.ref a, c] ∧ ExAt H a C ∧ ExcC K C ∧ ClsV c cv ∧ PySem.W.kitOne K (.ref C) cv = some b ∧ Q (.bl b) H
section
variable {X : Cx}
theorem call_isQ : CallR X (.builtin "isinstance") (rIsQ X.K) := by
  intro pins s σ H xs us Q I r h
  obtain ⟨a, C, c, cv, b, rfl, ea, T, k, e, q⟩ := h
  obtain ⟨u1, u2, rfl, r1, r2⟩ := vals2 r
  cases (show u1 = Value.ref a from r1)
  have e2 := k.eq r2
  subst e2
  obtain ⟨ox, od, J⟩ := exAt_inst I.hok ea
  have hcl : (PySem.W.clsIn X.K C).isSome = true := by
    obtain ⟨cd, hc, _⟩ := PySem.W.any_some T.hd
    rw [hc]; rfl
  exact PySem.W.kia_one (PySem.W.kitx_exc hcl T.hg T.hk T.hs T.ha T.hn T.ht T.hm) I.kIn J e (fun z => nomatch z) fun tk => ⟨.bl b, H, I.tok tk, rfl, q⟩
/-- e.f of a held exception with fields -/
def tXfV (K : PySem.W.Frag) (f : Str) (te : TE) : TE := fun σ H Q => te σ H fun x H1 => ∃ (a C d : Addr) (fs : List (Str × V)) (v : V), x = .ref a ∧ H1 a = some (exo a C (some d)) ∧ H1 d = some (exd d fs) ∧ XfC K C ∧ PySem.W.findIn K (.ref C) f = some none ∧ fs.lookup f = some v ∧ Q v H1
theorem pe_xfV {e : Expr} {te : TE} {pos : Pos} {n : Str} (he : PE X e te) (hb : attributeBase e n X.env (eval e X.env) = eval e X.env := by rfl) : PE X (.Attribute e n pos) (tXfV X.K n te) := by
  refine ⟨fun pins s σ H Q I h => ?_⟩
  refine attr_of hb (thn (he.run pins s σ H _ I h) fun u s1 hh => ?_)
  obtain ⟨x, H1, I1, rx, a, C, d, fs, v, ex, ea, ed, T, hno, l, q⟩ := hh
  subst ex
  obtain rfl : u = Value.ref a := rx
  obtain ⟨t1, ho⟩ := exo_at I1.hok ea
  obtain ⟨mA, hns, hr⟩ := exd_at I1.hok ed
  obtain ⟨od, hod, hl⟩ := lookIn_ns hns
  obtain ⟨u, hu, ru⟩ := RelO.some_of (v := v) (o := mA n) (by rw [← l]; exact hr n)
  have J : PySem.W.InstAt s1.heap a { cls := .ref C, dict := some d, data := .fields #[.ref t1, .none, .none, .none, .bool false, .none] } C (some od) := ⟨ho, rfl, rfl, hod⟩
  exact HandSPX.exc_get I1.kIn J T.ga T.gg T.exC (PySem.W.findObj_own T.hdC hno rfl (by rw [hl, hu])) (handed_of ru) ⟨v, H1, I1.tok _, ru, q⟩
/-- X(e, ..) as a value, X an own exception class with its own __init__ -/
def tMkV (C : Addr) (sp : Sp) (ta : TA) : TE := fun σ H Q => ta σ H fun vs H1 => vs.length ≤ 1000 ∧ ∀ a, H1 a = none → sp (.ref a :: vs) (upd H1 a (exo a C none)) (fun v H2 => v = .non ∧ Q (.ref a) H2) (fun _ _ _ => False)
theorem pe_excV {CX : CXT} {x : Str} {C fI : Addr} {k : Nat} {fd : FuncData} {ps : List Str} {sp : Sp} {e : Expr} {es : List Expr} {ta : TA} {p pos : Pos} (T : OexC X.K C) (iC : PySem.W.findIn X.K (.ref C) "__init__" = some (some (.ref fI))) (tI : PySem.W.typeIn X.K (.ref fI) = some (.type "function"))
    (F1 : FnOk X.prog X.w X.K X.mg X.base CX k fI fd ps sp) (hr : Room (k + 1) X.A) (hb : Binds X.K fd ps []) (hx : Passes CX X (fun _ _ _ => False)) (hg : Gl X x) (hm : X.mg x = some (.ref C)) (ha : PA X (e :: es) ta)
    (hdb : (x == ("__debug__" : Str)) = false := by decide) (he : starEach (e :: es) X.env = (false, eval e X.env) :: starEach es X.env := by rfl) (hpl : (backTo pos (starEach es X.env)).any (·.1) = false := by rfl) :
    PE X (.Call (.Name x p) (e :: es) [] pos) (tMkV C sp ta) := by
  refine ⟨fun pins s σ H Q I h => ?_⟩
  obtain ⟨nm, q, N, bs, bm, sn, sub, ab, col, dd, k0, k1, k2, k3, k5, hC, hbm⟩ := T.cls
  refine wpAny_Call_Name_kw (ld_glob I hg hm ?_ hdb)
  refine PySem.W.callWith_K (h₀ := X.base) I.ok.mod.kin T.kC (thn (ha.run pos pins s σ H _ I h) fun us s1 ⟨vs, H1, I1, r1, hz, q1⟩ => ⟨I1.kIn, ?_⟩) he hpl
  show wpAny _ _ (call (.ref C) us) _ _ _
  obtain ⟨hp, g, dr, tk, os⟩ := s1
  have hsz : hp.objs.size ≤ hp.objs.size + 1 := Nat.le_succ _
  have hn : H1 (hp.objs.size + 1) = none := I1.hok.fresh hsz
  have hq := q1 (hp.objs.size + 1) hn
  have kk : ∀ b o, hp.get? b = some o → ((hp.push (PySem.W.kdv_tup us)).push (PySem.HandSPX.excO C hp.objs.size)).get? b = some o := fun b o e => Heap.get?_push_of_some _ (Heap.get?_push_of_some _ e)
  have hget : ((hp.push (PySem.W.kdv_tup us)).push (PySem.HandSPX.excO C hp.objs.size)).get? (hp.objs.size + 1) = some (PySem.HandSPX.excO C hp.objs.size) := by heap_get
  have I2 : Inv X pins σ (upd H1 (hp.objs.size + 1) (exo (hp.objs.size + 1) C none)) ⟨(hp.push (PySem.W.kdv_tup us)).push (PySem.HandSPX.excO C hp.objs.size), g, dr, tk, os⟩ :=
    I1.laid (t' := tk) (a := hp.objs.size + 1) (o := exo (hp.objs.size + 1) C none) (h' := (hp.push (PySem.W.kdv_tup us)).push (PySem.HandSPX.excO C hp.objs.size)) kk hsz (exo_ok hget)
  have r2 : Vals (V.ref (hp.objs.size + 1) :: vs) (Value.ref (hp.objs.size + 1) :: us) := .cons rfl r1
  have hl : (Value.ref (hp.objs.size + 1) :: us).length = ps.length := by
    have e := r2.length
    rw [F1.len _ _ _ _ hq] at e
    exact e.symm
  have hus : us.length ≤ sizeLine := by
    rw [← Paired.length r1, sizeLine_eq]
    omega
  have hb' : BindsTo ⟨(hp.push (PySem.W.kdv_tup us)).push (PySem.HandSPX.excO C hp.objs.size), g, dr, tk, os⟩ fd ⟨Value.ref (hp.objs.size + 1) :: us, []⟩ (ps.zip (Value.ref (hp.objs.size + 1) :: us)) := by
    have z := hb _ (Value.ref (hp.objs.size + 1) :: us) I2.kIn (by rw [List.append_nil]; exact hl)
    rw [List.append_nil] at z
    exact z
  refine wpAny_call (PySem.HandSPX.call_own F.excBase_ValueError (fun Y => PySem.HandSPX.refsVE_contains Y bm hbm) (I1.kIn _ _ hC) (PySem.W.looks_findIn I1.kIn iC) (fun self => PySem.W.bind_fn I1.kIn self tI) hus
    (codeAny_mono (F1.run _ X.stack _ _ ⟨Value.ref (hp.objs.size + 1) :: us, []⟩ (Value.ref (hp.objs.size + 1) :: us) _ _ (fun _ _ _ => False) (hr.make C us []) (I2.env0.make C us []) hb' r2 hq) fun r s' hq' => ?_))
  cases r with
  | error er => exact hx pins σ _ _ er s' I2 hq'
  | ok fl =>
    cases fl with
    | ret u =>
      obtain ⟨v, H', I3, rv, ev, q3⟩ := I2.after hq'
      subst ev
      exact ⟨rv, ⟨V.ref (hp.objs.size + 1), H', I3, rfl, q3⟩⟩
    | next => exact False.elim hq'
    | brk => exact False.elim hq'
    | cont => exact False.elim hq'
end

/-- the promise of «self.f = v» -/
def spX (C : Addr) (f : Str) : Sp := fun vs H Q _ => ∃ (a : Addr) (v : V), vs = [.ref a, v] ∧ H a = some (exo a C none) ∧ ∀ dx, H dx = none → dx ≠ a → Q .non (upd (upd H dx (exd dx [(f, v)])) a (exo a C (some dx)))
/-! ### made and held: what a row of such values leaves -/
theorem same_new {H H' : Hp} {p : Addr} {o : HO} (s : Same H H') (h : H' p = none) : Same H (upd H' p o) := fun a u e => by
  rw [upd_ne (ne_of_none (s a u e) h)]
  exact s a u e
def HasX (H : Hp) (e : V) (C : Addr) (o : Option (Str × V)) : Prop := ∃ a, e = .ref a ∧ (match o with
  | none => H a = some (ExO (.ref C) a)
  | some (f, v) => ∃ d, H a = some (exo a C (some d)) ∧ H d = some (exd d [(f, v)]))
theorem HasX.mono {H H' : Hp} {e : V} {C : Addr} {o : Option (Str × V)} (s : Same H H') (h : HasX H e C o) : HasX H' e C o := by
  obtain ⟨a, ea, h⟩ := h
  refine ⟨a, ea, ?_⟩
  cases o with
  | none => exact s _ _ h
  | some q =>
    obtain ⟨f, v⟩ := q
    obtain ⟨d, h1, h2⟩ := h
    exact ⟨d, s _ _ h1, s _ _ h2⟩
theorem HasX.at {H : Hp} {a C : Addr} {o : Option (Str × V)} (h : HasX H (.ref a) C o) : ExAt H a C := by
  obtain ⟨a', ea, h⟩ := h
  cases ea
  cases o with
  | none => exact .inl h
  | some q =>
    obtain ⟨f, v⟩ := q
    obtain ⟨d, h1, h2⟩ := h
    exact .inr ⟨d, _, h1, h2⟩
abbrev HasAll (H : Hp) : List V → List (Addr × Option (Str × V)) → Prop := Paired fun e c => HasX H e c.1 c.2
theorem HasAll.mono {H H' : Hp} {es : List V} {cs : List (Addr × Option (Str × V))} (s : Same H H') (h : HasAll H es cs) : HasAll H' es cs := Paired.mapP h fun _ _ q => q.mono s
theorem paired_append {α β : Type} {F : α → β → Prop} : ∀ {a : List α} {b : List β} {c : List α} {d : List β}, Paired F a b → Paired F c d → Paired F (a ++ c) (b ++ d)
  | _, _, _, _, .nil, s => s
  | _, _, _, _, .cons r t, s => .cons r (paired_append t s)
theorem paired_get2 {α β : Type} {F : α → β → Prop} : ∀ {a : List α} {b : List β} {i : Nat} {y : β}, Paired F a b → b[i]? = some y → ∃ x, a[i]? = some x ∧ F x y
  | _, _, _, _, .nil, e => by simp at e
  | _, _, 0, _, .cons r _, e => by simp at e; subst e; exact ⟨_, rfl, r⟩
  | _, _, i + 1, x, .cons _ t, e => by
    obtain ⟨u, h1, h2⟩ := paired_get2 (i := i) (y := x) t (by simpa using e)
    exact ⟨u, by simpa using h1, h2⟩
def MkT (te : TE) (σ : St) (C : Addr) (o : Option (Str × V)) : Prop := ∀ (H : Hp) (Q : VK), (∀ e H', Same H H' → HasX H' e C o → Q e H') → te σ H Q
def MkA (ta : TA) (σ : St) (cs : List (Addr × Option (Str × V))) : Prop := ∀ (H : Hp) (Q : List V → Hp → Prop), (∀ es H', Same H H' → HasAll H' es cs → Q es H') → ta σ H Q
theorem MkA.nil {σ : St} : MkA tNil σ [] := fun H Q q => q [] H (Same.refl H) .nil
theorem MkA.cons {te : TE} {ta : TA} {σ : St} {C : Addr} {o : Option (Str × V)} {cs : List (Addr × Option (Str × V))} (h : MkT te σ C o) (t : MkA ta σ cs) : MkA (tCons te ta) σ ((C, o) :: cs) := fun H Q q =>
  h H _ fun e H1 s1 x => t H1 _ fun es H2 s2 xs => q (e :: es) H2 (s1.trans s2) (.cons (x.mono s2) xs)
theorem MkA.lst {ta : TA} {σ : St} {cs : List (Addr × Option (Str × V))} (h : MkA ta σ cs) (hl : cs.length ≤ 1000) {H : Hp} {Q : VK} (q : ∀ p es H', Same H H' → H p = none → H' p = some (.lst es) → HasAll H' es cs → Q (.ref p) H') : tLst ta σ H Q :=
  h H _ fun es H1 s1 xs => ⟨Nat.le_trans (Nat.le_of_eq (Paired.length xs)) (Nat.le_trans hl (by decide)), fun p hp => q p es _ (same_new s1 hp) (s1.free hp) upd_same (xs.mono (same_new (Same.refl _) hp))⟩
theorem MkA.cat {ta : TA} {σ : St} {cs cs2 : List (Addr × Option (Str × V))} {i : Nat} {p : Addr} {es : List V} (h : MkA ta σ cs2) (hl : cs.length + cs2.length ≤ 1000) {H : Hp} {Q : VK} (e : σ[i]? = some (some (.ref p))) (hp : H p = some (.lst es)) (hx : HasAll H es cs)
    (q : ∀ r zs H', Same H H' → H r = none → H' r = some (.lst zs) → HasAll H' zs (cs ++ cs2) → Q (.ref r) H') : tOp rCat (tVar i) (tLst ta) σ H Q := by
  refine ⟨_, e, h.lst (by omega) fun p2 es2 H2 s2 n2 h2 x2 => ?_⟩
  refine ⟨p, p2, es, es2, rfl, rfl, s2 _ _ hp, h2, ?_, fun r hr => ?_⟩
  · rw [Paired.length hx, Paired.length x2]
    exact Nat.le_trans hl (by decide)
  · have s3 : Same H2 (upd H2 r (.lst (es ++ es2))) := same_new (Same.refl _) hr
    exact q r (es ++ es2) _ (s2.trans s3) (s2.free hr) upd_same (HasAll.mono s3 (paired_append (hx.mono s2) x2))
/-- values that leave the heap as it is, whatever has come to it -/
def PuT (te : TE) (σ : St) (H : Hp) (v : V) : Prop := ∀ H', Same H H' → ∀ Q : VK, Q v H' → te σ H' Q
def PuA (ta : TA) (σ : St) (H : Hp) (vs : List V) : Prop := ∀ H', Same H H' → ∀ Q : List V → Hp → Prop, Q vs H' → ta σ H' Q
theorem PuA.nil {σ : St} {H : Hp} : PuA tNil σ H [] := fun _ _ _ q => q
theorem PuA.cons {te : TE} {ta : TA} {σ : St} {H : Hp} {v : V} {vs : List V} (h : PuT te σ H v) (t : PuA ta σ H vs) : PuA (tCons te ta) σ H (v :: vs) := fun H' s Q q => h H' s _ (t H' s _ q)
theorem PuT.var {σ : St} {H : Hp} {i : Nat} {v : V} (e : σ[i]? = some (some v)) : PuT (tVar i) σ H v := fun _ _ _ q => ⟨v, e, q⟩
theorem PuT.c {σ : St} {H : Hp} {v : V} : PuT (tC v) σ H v := fun _ _ _ q => q
theorem PuT.mono {te : TE} {σ : St} {H H' : Hp} {v : V} (s : Same H H') (h : PuT te σ H v) : PuT te σ H' v := fun H2 s2 Q q => h H2 (s.trans s2) Q q
theorem PuA.mono {te : TA} {σ : St} {H H' : Hp} {v : List V} (s : Same H H') (h : PuA te σ H v) : PuA te σ H' v := fun H2 s2 Q q => h H2 (s.trans s2) Q q
theorem PuA.lst {ta : TA} {σ : St} {H : Hp} {vs : List V} (h : PuA ta σ H vs) (hl : vs.length ≤ 1000) {Q : VK} (q : ∀ p H', Same H H' → H p = none → H' p = some (.lst vs) → Q (.ref p) H') : tLst ta σ H Q :=
  h H (Same.refl H) _ ⟨Nat.le_trans hl (by decide), fun p hp => q p _ (same_new (Same.refl H) hp) hp upd_same⟩
theorem PuA.cat {ta : TA} {σ : St} {H : Hp} {vs ws : List V} {i : Nat} {p : Addr} (h : PuA ta σ H ws) (hl : vs.length + ws.length ≤ 1000) (e : σ[i]? = some (some (.ref p))) (hp : H p = some (.lst vs)) {Q : VK}
    (q : ∀ r H', Same H H' → H r = none → H' r = some (.lst (vs ++ ws)) → Q (.ref r) H') : tOp rCat (tVar i) (tLst ta) σ H Q := by
  refine ⟨_, e, h.lst (by omega) fun p2 H2 s2 n2 h2 => ?_⟩
  refine ⟨p, p2, vs, ws, rfl, rfl, s2 _ _ hp, h2, Nat.le_trans hl (by decide), fun r hr => ?_⟩
  exact q r _ (s2.trans (same_new (Same.refl _) hr)) (s2.free hr) upd_same
theorem pu_ix {K : PySem.W.Frag} {σ : St} {H : Hp} {i : Nat} {p : Addr} {xs : List V} {k : Int} {v : V} (e : σ[i]? = some (some (.ref p))) (h : H p = some (.lst xs)) (hk : atI xs k = some v) : PuT (tOp (rIxL K) (tVar i) (tC (.int k))) σ H v := fun _ s _ q =>
  ⟨_, e, z_ixL (SqL.of (s _ _ h)) hk q⟩
theorem pu_len {K : PySem.W.Frag} {σ : St} {H : Hp} {i : Nat} {p : Addr} {xs : List V} {n : Int} (e : σ[i]? = some (some (.ref p))) (h : H p = some (.lst xs)) (hn : (xs.length : Int) = n) : PuT (tCB (rLenS K) (tCons (tVar i) tNil)) σ H (.int n) := fun _ s _ q =>
  ⟨_, e, z_len (SqL.of (s _ _ h)) (by rw [hn]; exact q)⟩
theorem pu_xf {K : PySem.W.Frag} {te : TE} {σ : St} {H : Hp} {e0 C d : Addr} {f : Str} {v : V} (h : PuT te σ H (.ref e0)) (h1 : H e0 = some (exo e0 C (some d))) (h2 : H d = some (exd d [(f, v)])) (T : XfC K C) (no : PySem.W.findIn K (.ref C) f = some none) :
    PuT (tXfV K f te) σ H v := fun H' s Q q => h H' s _ ⟨e0, C, d, _, v, rfl, s _ _ h1, s _ _ h2, T, no, by simp [List.lookup], q⟩
/-- values on whose way new things may be made -/
def GrT (te : TE) (σ : St) (v : V) : Prop := ∀ (H : Hp) (Q : VK), (∀ H', Same H H' → Q v H') → te σ H Q
def GrA (ta : TA) (σ : St) (vs : List V) : Prop := ∀ (H : Hp) (Q : List V → Hp → Prop), (∀ H', Same H H' → Q vs H') → ta σ H Q
theorem GrA.nil {σ : St} : GrA tNil σ [] := fun H _ q => q H (Same.refl H)
theorem GrA.cons {te : TE} {ta : TA} {σ : St} {v : V} {vs : List V} (h : GrT te σ v) (t : GrA ta σ vs) : GrA (tCons te ta) σ (v :: vs) := fun H Q q => h H _ fun H1 s1 => t H1 _ fun H2 s2 => q H2 (s1.trans s2)
theorem GrA.lst {ta : TA} {σ : St} {vs : List V} (h : GrA ta σ vs) (hl : vs.length ≤ 1000) {H : Hp} {Q : VK} (q : ∀ p H', Same H H' → H p = none → H' p = some (.lst vs) → Q (.ref p) H') : tLst ta σ H Q :=
  h H _ fun H1 s1 => ⟨Nat.le_trans hl (by decide), fun p hp => q p _ (same_new s1 hp) (s1.free hp) upd_same⟩
theorem GrA.cat {ta : TA} {σ : St} {vs ws : List V} {i : Nat} {p : Addr} (h : GrA ta σ ws) (hl : vs.length + ws.length ≤ 1000) (e : σ[i]? = some (some (.ref p))) {H : Hp} (hp : H p = some (.lst vs)) {Q : VK}
    (q : ∀ r H', Same H H' → H r = none → H' r = some (.lst (vs ++ ws)) → Q (.ref r) H') : tOp rCat (tVar i) (tLst ta) σ H Q := by
  refine ⟨_, e, h.lst (by omega) fun p2 H2 s2 n2 h2 => ?_⟩
  exact ⟨p, p2, vs, ws, rfl, rfl, s2 _ _ hp, h2, Nat.le_trans hl (by decide), fun r hr => q r _ (s2.trans (same_new (Same.refl _) hr)) (s2.free hr) upd_same⟩
theorem gr_xf {K : PySem.W.Frag} {te : TE} {σ : St} {C : Addr} {f : Str} {v : V} (h : MkT te σ C (some (f, v))) (T : XfC K C) (no : PySem.W.findIn K (.ref C) f = some none) : GrT (tXfV K f te) σ v := fun H Q q =>
  h H _ fun e H' s x => by
    obtain ⟨a, ea, d, h1, h2⟩ := x
    exact ⟨a, C, d, _, v, ea, h1, h2, T, no, by simp [List.lookup], q H' s⟩
/-- [e for i in range(n)], e pure -/
theorem lc_pure {ta : TA} {te : TE} {sl : Nat} {σ : St} {H : Hp} {Q : VK} {n : Nat} {f : Nat → V} (hn : n ≤ 10000) (ha : PuA ta σ H [.int n])
    (he : ∀ i < n, ∀ H', Same H H' → ∀ Q' : VK, Q' (f i) H' → te ((wipe σ [sl]).set sl (some (.int (0 + (i : Int))))) H' Q') (hw : ∀ x : V, wipe ((wipe σ [sl]).set sl (some x)) [sl] = wipe σ [sl])
    (q : ∀ p H', Same H H' → H p = none → H' p = some (.lst ((List.range n).map f)) → Q (.ref p) H') : tLc (iRng1 ta) (gName sl) tYes te [sl] σ H Q := by
  refine ha H (Same.refl H) _ ⟨n, rfl, by omega, by omega, fun D hD => ?_⟩
  have e0 : ((n : Int)).toNat = n := by omega
  rw [e0]
  refine lc_range (fun i H' => Same H H' ∧ H' D = some (.lst ((List.range i).map f))) ⟨same_new (Same.refl H) hD, upd_same⟩ (fun i H' hi ⟨s1, h1⟩ => ?_) (fun H' ⟨s1, h1⟩ => q D H' s1 hD h1)
  refine ⟨hw _, ?_⟩
  show te _ H' _
  refine he i hi H' s1 _ ?_
  refine ⟨_, h1, ?_, fun b o e => ?_, ?_⟩
  · rw [List.length_map, List.length_range]
    exact Nat.lt_of_lt_of_le (by omega : i < 10001) (by decide)
  · rw [upd_ne (ne_of_none e hD)]
    exact s1 b o e
  · rw [upd_same, List.range_succ, List.map_append]
    rfl
/-- X('m') where X has no __init__ of its own -/
def tMk1 (C : Addr) (ta : TE) : TE := fun σ H Q => ta σ H fun _ H1 => ∀ a, H1 a = none → Q (.ref a) (upd H1 a (ExO (.ref C) a))
theorem mk_1 {te : TE} {σ : St} {C : Addr} {v : V} (h : ∀ H, PuT te σ H v) : MkT (tMk1 C te) σ C none := fun H Q q =>
  h H H (Same.refl H) _ fun a ha => q _ _ (same_new (Same.refl H) ha) ⟨a, rfl, upd_same⟩
theorem mk_V {ta : TA} {σ : St} {C : Addr} {f : Str} {v : V} (h : ∀ H, PuA ta σ H [v]) : MkT (tMkV C (spX C f) ta) σ C (some (f, v)) := fun H Q q =>
  h H H (Same.refl H) _ ⟨by show 1 ≤ 1000; decide, fun a ha => ⟨a, v, rfl, upd_same, fun dx hdx hne => ⟨rfl, q _ _ (fun b o e => by
    have n1 : b ≠ a := ne_of_none e ha
    have hd0 : H dx = none := by rw [upd_ne hne] at hdx; exact hdx
    rw [upd_ne n1, upd_ne (ne_of_none e hd0), upd_ne n1]
    exact e) ⟨a, rfl, dx, upd_same, by rw [upd_ne hne, upd_same]⟩⟩⟩⟩
theorem pu_isQ {K : PySem.W.Frag} {ta : TA} {σ : St} {H : Hp} {a C : Addr} {c : V} {cv : Value} {b : Bool} (h : PuA ta σ H [.ref a, c]) (ea : ExAt H a C) (T : ExcC K C) (k : ClsV c cv) (e : PySem.W.kitOne K (.ref C) cv = some b) : PuT (tCB (rIsQ K) ta) σ H (.bl b) := fun H' s Q q =>
  h H' s _ ⟨a, C, c, cv, b, rfl, by
    rcases ea with h | ⟨d, fs, h1, h2⟩
    · exact .inl (s _ _ h)
    · exact .inr ⟨d, fs, s _ _ h1, s _ _ h2⟩, T, k, e, q⟩
theorem ExAt.mono {H H' : Hp} {a C : Addr} (s : Same H H') (h : ExAt H a C) : ExAt H' a C := by
  rcases h with h | ⟨d, fs, h1, h2⟩
  · exact .inl (s _ _ h)
  · exact .inr ⟨d, fs, s _ _ h1, s _ _ h2⟩
theorem z_isQ {K : PySem.W.Frag} {H : Hp} {Q : VK} {a C : Addr} {c : V} {cv : Value} {b : Bool} (ea : ExAt H a C) (T : ExcC K C) (k : ClsV c cv) (e : PySem.W.kitOne K (.ref C) cv = some b) (q : Q (.bl b) H) : rIsQ K [.ref a, c] H Q := ⟨a, C, c, cv, b, rfl, ea, T, k, e, q⟩
/-- an own exception class with one field, as the text has it -/
structure ClsX (P : Program) (w : World) (K : PySem.W.Frag) (mg : Str → Option Value) (base : Heap) (x f : Str) : Prop where
  T : OexC K (He.ga K x)
  g : mg x = some (.ref (He.ga K x))
  i : PySem.W.findIn K (.ref (He.ga K x)) "__init__" = some (some (.ref (He.ma K (He.ga K x) "__init__")))
  t : PySem.W.typeIn K (.ref (He.ma K (He.ga K x) "__init__")) = some (.type "function")
  fn : ∃ fd, FnOk P w K mg base CX0 1 (He.ma K (He.ga K x) "__init__") fd ["self", f] (spX (He.ga K x) f) ∧ Binds K fd ["self", f] []
  no : PySem.W.findIn K (.ref (He.ga K x)) f = some none
/-- one without fields -/
structure Cls0 (K : PySem.W.Frag) (mg : Str → Option Value) (x : Str) : Prop where
  q : PySem.W.excIn K (He.ga K x) He.veBase "ValueError.__new__" = true
  g : mg x = some (.ref (He.ga K x))
  k : PySem.W.keepIn K (.ref (He.ga K x)) = true
section
variable {X : Cx} {x f : Str} {e : Expr} {es : List Expr} {ta : TA} {te : TE} {p pos : Pos}
theorem pe_clsX (C : ClsX X.prog X.w X.K X.mg X.base x f) (hr : Room 2 X.A) (hg : Gl X x) (ha : PA X (e :: es) ta) (hdb : (x == ("__debug__" : Str)) = false := by decide) (he : starEach (e :: es) X.env = (false, eval e X.env) :: starEach es X.env := by rfl)
    (hpl : (backTo pos (starEach es X.env)).any (·.1) = false := by rfl) : PE X (.Call (.Name x p) (e :: es) [] pos) (tMkV (He.ga X.K x) (spX (He.ga X.K x) f) ta) := by
  obtain ⟨fd, F, b⟩ := C.fn
  exact pe_excV C.T C.i C.t F hr b pass0 hg C.g ha hdb he hpl
theorem pe_cls0 (C : Cls0 X.K X.mg x) (hg : Gl X x) (he : PE X e te) (hs : starEach [e] X.env = (false, eval e X.env) :: starEach [] X.env := by rfl) (hdb : (x == ("__debug__" : Str)) = false := by decide) :
    PE X (.Call (.Name x p) [e] [] pos) (tMk1 (He.ga X.K x) te) := pe_exc1 PySem.F.excBase_ValueError C.q C.g C.k hg he hs hdb
end
/-- the __init__ of such a class -/
theorem init_ok {P : Program} {w : World} {K : PySem.W.Frag} {mg : Str → Option Value} {base : Heap} {x f qual : Str} {st : Stmt} {fd : FuncData} (F : FunD K "__init__" qual (defArgs st) (defBody st) (defScope st) [] [] (He.ma K (He.ga K x) "__init__") fd) (S : FnScope ["self", f] ["self", f] (defScope st))
    (T : OexC K (He.ga K x)) (no : PySem.W.findIn K (.ref (He.ga K x)) f = some none)
    (hbody : ∀ (cdv : Value) (A : Around) (outer : List Env) (s : Shared) (H : Hp) (E : XK), PSs (cxOf CX0 P w K mg base ["self", f] qual (defScope st) (He.ma K (He.ga K x) "__init__") cdv A outer s H E) (defBody st) (tOst K f (tVar 0) (tVar 1))) :
    FnOk P w K mg base CX0 1 (He.ma K (He.ga K x) "__init__") fd ["self", f] (spX (He.ga K x) f) := by
  refine F.ok S (fun vs H Q E h => ?_) (fun cdv A outer s H vs Q E hr h => ⟨_, hbody cdv A outer s H E, ?_⟩)
  · obtain ⟨a, v, rfl, _⟩ := h
    rfl
  · obtain ⟨a, v, rfl, ea, k⟩ := h
    exact ⟨v, rfl, .ref a, rfl, a, _, rfl, T, no, .inl ⟨ea, fun dx hd hne => k dx hd hne⟩⟩
/-! ### facts of the head, as one test -/
def xcB (K : PySem.W.Frag) (D : Addr) : Bool :=
  decide (PySem.W.findIn K (.ref D) "__getattribute__" = some (some (.builtin "BaseException.__getattribute__"))) && (decide (PySem.W.findIn K (.ref D) "__getattr__" = some none) && (decide (PySem.W.subIn K (.ref D) (.type "BaseException") = some true) &&
  (PySem.W.hasDictIn K D && (decide (PySem.W.findIn K (.ref D) "__class__" = some (some (.builtin "object.__class__"))) && (decide (PySem.W.specialIn K (.builtin "object.__class__") "__get__" = some (some (.builtin "getset_descriptor.__get__"))) &&
  (decide (PySem.W.takesIn K (.builtin "object.__class__") = some true) && decide (PySem.W.mroIn K D (.type "object") = some true)))))))
theorem xcB_ok {K : PySem.W.Frag} {D : Addr} (h : xcB K D = true) : ExcC K D := by
  obtain ⟨h1, h⟩ := He.ba h
  obtain ⟨h2, h⟩ := He.ba h
  obtain ⟨h3, h⟩ := He.ba h
  obtain ⟨h4, h⟩ := He.ba h
  obtain ⟨h5, h⟩ := He.ba h
  obtain ⟨h6, h⟩ := He.ba h
  obtain ⟨h7, h8⟩ := He.ba h
  exact ⟨of_decide_eq_true h1, of_decide_eq_true h2, of_decide_eq_true h3, h4, of_decide_eq_true h5, of_decide_eq_true h6, of_decide_eq_true h7, of_decide_eq_true h8⟩
theorem xf_of {K : PySem.W.Frag} {D : Addr} (h : ExcC K D) : XfC K D := ⟨h.hg, h.hk, h.hs, h.hd⟩
def oexB (K : PySem.W.Frag) (C : Addr) : Bool := (match K.lookup C with
  | some ⟨.type "type", _, .cls cd, sl⟩ => (match cd.mro, sl.toList with
    | .ref C' :: bm, [_, _, _, _, some (.builtin n), _] => C' == C && (n == "ValueError.__new__" && (!cd.hasDel && (cd.hasDict && PySem.HandSPX.refsVE bm)))
    | _, _ => false)
  | _ => false) && (decide (PySem.W.findIn K (.ref C) "__setattr__" = some (some (.builtin "object.__setattr__"))) && (decide (PySem.W.subIn K (.ref C) (.type "BaseException") = some true) && (decide (PySem.W.typeIn K (.ref C) = some (.type "type")) && PySem.W.keepIn K (.ref C))))
theorem oexB_ok {K : PySem.W.Frag} {C : Addr} (h : oexB K C = true) : OexC K C := by
  obtain ⟨q, h⟩ := He.ba h
  obtain ⟨h2, h⟩ := He.ba h
  obtain ⟨h3, h⟩ := He.ba h
  obtain ⟨h4, h5⟩ := He.ba h
  refine ⟨?_, of_decide_eq_true h2, of_decide_eq_true h3, of_decide_eq_true h4, h5⟩
  split at q
  · rename_i dd cd sl ho
    split at q
    · rename_i C' bm k0 k1 k2 k3 n k5 hm hs
      simp only [Bool.and_eq_true, beq_iff_eq, Bool.not_eq_true'] at q
      obtain ⟨rfl, rfl, hdel, hdct, ht⟩ := q
      obtain ⟨nm, bs, mro, ns, qn, hd, sn, sub, ab, col, del⟩ := cd
      dsimp only at hm hdel hdct
      subst hm hdel hdct
      have hsl : sl = #[k0, k1, k2, k3, some (.builtin "ValueError.__new__"), k5] := by
        obtain ⟨l⟩ := sl
        simp only at hs
        rw [hs]
      subst hsl
      exact ⟨nm, qn, ns, bs, bm, sn, sub, ab, col, dd, k0, k1, k2, k3, k5, ho, ht⟩
    · cases q
  · cases q
end Z

set_option Elab.async false
set_option linter.all false
set_option maxRecDepth 100000
set_option maxHeartbeats 4000000
namespace Z
open PySem PySem.Spec L2
open PyProof.Rows hiding St
/-! ### defs that are called where no repr is under way -/
structure FnOkG (P : Program) (w : World) (K : PySem.W.Frag) (mg : Str → Option Value) (base : Heap) (CX : CXT) (k : Nat) (f : Addr) (fd : FuncData) (ps : List Str) (sp : Sp) : Prop where
  len : ∀ vs H Q E, sp vs H Q E → vs.length = ps.length
  run : ∀ (A : Around) (outer : List Env) (s : Shared) (H : Hp) (args : Args) (us : List Value) (vs : List V) (Q : VK) (E : XK), Room k A → A.guards = some [] → Env0 P w K mg base A outer s H → BindsTo s fd args (ps.zip us) → Vals vs us → sp vs H Q E →
    codeAny (model P w) A (.call (.ref f) args) (CR CX outer P w H s Q E) s
section
variable {P : Program} {w : World} {K : PySem.W.Frag} {mg : Str → Option Value} {base : Heap} {CX : CXT} {k : Nat}
theorem FnOkG.of {f : Addr} {fd : FuncData} {ps : List Str} {sp : Sp} (F : FnOk P w K mg base CX k f fd ps sp) : FnOkG P w K mg base CX k f fd ps sp := ⟨F.len, fun A o s H a us vs Q E hr _ e b v h => F.run A o s H a us vs Q E hr e b v h⟩
theorem FnOkG.mono {j : Nat} {f : Addr} {fd : FuncData} {ps : List Str} {sp : Sp} (F : FnOkG P w K mg base CX j f fd ps sp) (h : j ≤ k) : FnOkG P w K mg base CX k f fd ps sp := ⟨F.len, fun A o s H a us vs Q E hr => F.run A o s H a us vs Q E (hr.mono h)⟩
theorem fn_okG {x : Str} {st : Stmt} {N ps : List Str} {sp : Sp} {f : Addr} {fd : FuncData} (F : FnP K x st f fd) (S : FnScope N ps (defScope st)) (len : ∀ vs H Q E, sp vs H Q E → vs.length = ps.length)
    (hbody : ∀ (cdv : Value) (A : Around) (outer : List Env) (s : Shared) (H : Hp) (vs : List V) (Q : VK) (E : XK), Room k (A.deeper (envOfC x (defScope st) s.heap.objs.size f cdv)) → (A.deeper (envOfC x (defScope st) s.heap.objs.size f cdv)).guards = some [] → sp vs H Q E →
      ∃ t, PSs (cxOf CX P w K mg base N x (defScope st) f cdv A outer s H E) (defBody st) t ∧ t { nx := fun _ H' => Q .non H', rt := Q } (start N vs) H) : FnOkG P w K mg base CX (k + 1) f fd ps sp := by
  obtain ⟨oc, od, dV, kV, doc, pm, an, cdv, ct, osl, rfl, lk, hcd, _, _⟩ := F.ex
  refine ⟨len, fun A outer s H args us vs Q E hr hgd e0 hb r hsp => ?_⟩
  have hl : vs.length = ps.length := len _ _ _ _ hsp
  have KX : K.In s.heap := e0.mod.kin.keeps fun b o e => (e0.bs b o e).1
  have lim : s.heap.NoLimit := e0.mod.nolimit.keeps fun b o e => (e0.bs b o e).1
  have names : ∀ y ∈ ps.zip us, (defScope st).names.lookup y.1 = some .local ∨ ((defScope st).names.lookup y.1 = some .cell ∧ ((cellsFrom (s.heap.objs.size + 1) (defScope st).names []).lookup y.1).isSome = true) := fun y hy =>
    (S.par y.1 (List.of_mem_zip hy).1).imp id fun q => ⟨q, PySem.W.cellsFrom_some _ _ _ (.inl q)⟩
  refine codeAny_call_function hr.depth (KX _ _ lk) rfl S.co S.gen rfl (PySem.W.codeRec_of KX hcd) (hb _ _ _ _ (wpAny_newFunctionEnv_cells S.kind names fun env he s1 y => ?_))
  subst he
  refine ⟨lim.keeps y.toInCall.keep, codeAny_func ?_⟩
  obtain ⟨t, ht, hq⟩ := hbody cdv A outer s H vs Q E (hr.deeper _) hgd hsp
  refine wpAny_mono (ht.run [] s1 (start N vs) H _ (inv_start S hr.hd e0 hl r y) hq) (fun fl s' hs => ?_) fun _ _ z => z
  cases fl with
  | ret u =>
    obtain ⟨v, _, H', J, rv, q⟩ := hs
    exact ⟨v, H', J.os, J.bare, J.base, J.hok, rv, q⟩
  | next =>
    obtain ⟨_, H', J, q⟩ := hs
    exact ⟨.non, H', J.os, J.bare, J.base, J.hok, rfl, q⟩
  | brk => exact hs.choose_spec.choose_spec.2.elim
  | cont => exact hs.choose_spec.choose_spec.2.elim
structure CallOkG (P : Program) (w : World) (K : PySem.W.Frag) (mg : Str → Option Value) (base : Heap) (CX : CXT) (k : Nat) (x : Str) (ps : List Str) (sp : Sp) : Prop where
  ex : ∃ (f : Addr) (fd : FuncData), FnOkG P w K mg base CX k f fd ps sp ∧ mg x = some (.ref f) ∧ PySem.W.keepIn K (.ref f) = true ∧ Binds K fd ps []
theorem fn_okG0 {x : Str} {st : Stmt} {N ps : List Str} {sp : Sp} {f : Addr} {fd : FuncData} (F : FnP K x st f fd) (S : FnScope N ps (defScope st)) (len : ∀ vs H Q E, sp vs H Q E → vs.length = ps.length)
    (hbody : ∀ (cdv : Value) (A : Around) (outer : List Env) (s : Shared) (H : Hp) (vs : List V) (Q : VK) (E : XK), Room k (A.deeper (envOfC x (defScope st) s.heap.objs.size f cdv)) → (A.deeper (envOfC x (defScope st) s.heap.objs.size f cdv)).guards = some [] → sp vs H Q E →
      ∃ t, PSs (cxOf CX0 P w K mg base N x (defScope st) f cdv A outer s H E).nox (defBody st) t ∧ t { nx := fun _ H' => Q .non H', rt := Q } (start N vs) H) : FnOkG P w K mg base CX0 (k + 1) f fd ps sp :=
  fn_okG F S len fun cdv A outer s H vs Q E hr hgd h => by
    obtain ⟨t, h1, h2⟩ := hbody cdv A outer s H vs Q E hr hgd h
    exact ⟨t, h1.nox, h2⟩
theorem def_okG0 {x : Str} {st : Stmt} {N ps : List Str} {sp : Sp} (D : Def K mg x st) (S : FnScope N ps (defScope st)) (len : ∀ vs H Q E, sp vs H Q E → vs.length = ps.length)
    (hbind : ∀ (kV doc pm : Value) (an : Option Addr) (cdv ct : Value) (us : List Value), us.length = ps.length → bindArgs (PySem.W.fnOf x x (defArgs st) (defBody st) (defScope st) .none kV doc pm an cdv ct) ⟨us, []⟩ = pure (ps.zip us))
    (hbody : ∀ (f : Addr) (cdv : Value) (A : Around) (outer : List Env) (s : Shared) (H : Hp) (vs : List V) (Q : VK) (E : XK), Room k (A.deeper (envOfC x (defScope st) s.heap.objs.size f cdv)) → (A.deeper (envOfC x (defScope st) s.heap.objs.size f cdv)).guards = some [] → sp vs H Q E →
      ∃ t, PSs (cxOf CX0 P w K mg base N x (defScope st) f cdv A outer s H E).nox (defBody st) t ∧ t { nx := fun _ H' => Q .non H', rt := Q } (start N vs) H) : CallOkG P w K mg base CX0 (k + 1) x ps sp := by
  obtain ⟨f, fd, F, g⟩ := D
  exact ⟨⟨f, fd, fn_okG0 F S len (fun cdv A outer s H vs Q E hr hgd h => hbody f cdv A outer s H vs Q E hr hgd h), g, F.kp, F.bindsN hbind⟩⟩
end
section
variable {X : Cx} {CX : CXT} {k : Nat} {x : Str} {ps : List Str} {sp : Sp} {E : XK} {p pos : Pos} {e : Expr} {es : List Expr} {t : TA}
theorem pe_ownG (C : CallOkG X.prog X.w X.K X.mg X.base CX k x ps sp) (hgd : X.A.guards = some []) (hr : Room k X.A) (hg : Gl X x) (hx : Passes CX X E) (ha : PA X (e :: es) t)
    (hdb : (x == ("__debug__" : Str)) = false := by decide) (he : starEach (e :: es) X.env = (false, eval e X.env) :: starEach es X.env := by rfl) (hpl : (backTo pos (starEach es X.env)).any (·.1) = false := by rfl) :
    PE X (.Call (.Name x p) (e :: es) [] pos) (tCall sp [] E t) := by
  obtain ⟨f, fd, F, hm, hk, hb⟩ := C.ex
  refine ⟨fun pins s σ H Q I h => wpAny_Call_Name_kw (ld_glob I hg hm ?_ hdb)⟩
  refine PySem.W.callWith_K (h₀ := X.base) I.ok.mod.kin hk (thn (ha.run pos pins s σ H _ I h) fun us s1 ⟨vs, H1, I1, r, q⟩ => ⟨I1.kIn, ?_⟩) he hpl
  have q' : sp vs H1 Q E := by
    have z : sp (vs ++ []) H1 Q E := q
    rw [List.append_nil] at z
    exact z
  have b' : BindsTo s1 fd ⟨us, []⟩ (ps.zip us) := by
    have z := hb s1 us I1.kIn (by rw [List.append_nil, ← r.length]; exact F.len _ _ _ _ q')
    rw [List.append_nil] at z
    exact z
  refine wpAny_call (codeAny_mono (F.run X.A X.stack s1 H1 ⟨us, []⟩ us vs Q E hr hgd I1.env0 b' r q') fun r s' hq => ?_)
  cases r with
  | error e => exact hx pins σ H1 s1 e s' I1 hq
  | ok fl =>
    cases fl with
    | ret u => exact I1.after hq
    | _ => exact False.elim hq
/-- repr of data -/
def rReprD (K : PySem.W.Frag) : List V → Hp → VK → Prop := fun xs H Q => ∃ (a : Addr) (d : PyData), xs = [.ref a] ∧ Dp K H (.ref a) d ∧ d.showable = true ∧ d.hasDict = false ∧ d.depth ≤ 60 ∧ d.shown.length ≤ sizeLine ∧ Q (.str d.shown) H
theorem cReprD (hgd : X.A.guards = some []) (hu : X.A.units + 64 < cLine) : CallR X (.builtin "repr") (rReprD X.K) := by
  intro pins s σ H xs us Q I r h
  obtain ⟨a, d, rfl, hd, hs, hn, hdp, hz, q⟩ := h
  obtain ⟨u, rfl, ru⟩ := vals1 r
  cases (show u = Value.ref a from ru)
  obtain ⟨as, R⟩ := Dp.reads I d _ _ hd ru
  exact repr_of_reads' R hs (PyData.noDict_hsm hn) hgd (by omega) (fun _ _ e => e) (fun h' u tk k => ⟨.str d.shown, H, I.kept k, ⟨u, rfl⟩, q⟩) hz
end
/-! ### the law's end -/
theorem law_callG {P : Program} {w : World} {K : PySem.W.Frag} {mg mb : Str → Option Value} {k : Nat} {fa a : Addr} {fd : FuncData} {x : Str} {sp : Sp} {s₁ : Shared} {vs : List Value} {ns : List Int}
    (KX : K.In s₁.heap) (hns : s₁.heap.Ns mainGlobals mg) (hb : s₁.heap.Ns builtinsNs mb) (hbb : ∀ x : Str, x ≠ "__name__" → mb x = bootBuiltins x) (hlim : s₁.heap.NoLimit) (hg : s₁.gens = #[])
    (ha : s₁.heap.get? a = some { cls := .type "list", data := .seq vs.toArray }) (hi : IntsAre vs ns) (hl : ns.length ≤ sizeLine) (hr : Room k callerA)
    (F : ∀ base : Heap, K.In base → base.Ns mainGlobals mg → FnOkG P w K mg base CX0 k fa fd [x] sp) (hbind : ∀ (s : Shared) (u : Value), BindsTo s fd ⟨[u], []⟩ [(x, u)])
    (hsp : ∀ H : Hp, SqL K H a (ns.map V.int) → sp [.ref a] H (fun v _ => v = .bl true) fun _ _ _ => False) :
    codeAny (model P w) callerA (.call (.ref fa) ⟨[.ref a], []⟩) (fun r s' => r = .ok (.ret (.bool true)) ∧ OldK s₁.heap s'.heap ∧ s'.os = s₁.os ∧ AllBare s'.gens) s₁ := by
  have rv : Vals (ns.map V.int) vs := vals_of_ints hi
  -- at a heap of which the script alone may be tracked
  have core : ∀ H : Hp, (∀ b u, H b = some u → b = a ∧ ∃ o xs, u = .frz o (.lst xs)) → SqL K H a (ns.map V.int) → HOk P w H s₁.heap → (H a = none ∨ K.lookup a = none) →
      codeAny (model P w) callerA (.call (.ref fa) ⟨[.ref a], []⟩) (fun r s' => r = .ok (.ret (.bool true)) ∧ OldK s₁.heap s'.heap ∧ s'.os = s₁.os ∧ AllBare s'.gens) s₁ := by
    intro H hO hS hok hK
    have dict0 : ∀ {b : Addr} {o : Obj} {es : Array DictEntry} {ep : Nat}, s₁.heap.get? b = some o → o.data = .dict es ep → H b = none := fun {b o es ep} e d => by
      cases q : H b with
      | none => rfl
      | some u =>
        obtain ⟨rfl, _⟩ := hO b u q
        rw [ha] at e
        cases e
        exact absurd (show Data.seq vs.toArray _ = Data.dict es ep from d) (fun z => by cases z)
    have ns' : ∀ {b : Addr} {m : Str → Option Value}, s₁.heap.Ns b m → (hidT s₁.heap H).Ns b m := fun ⟨o, es, ep, e, d, r⟩ => ⟨o, es, ep, hidT_get e (dict0 e d), d, r⟩
    have K' : K.In (hidT s₁.heap H) := fun b o e => hidT_get (KX b o e) (by
      cases q : H b with
      | none => rfl
      | some u =>
        obtain ⟨rfl, _⟩ := hO b u q
        rcases hK with z | z
        · rw [q] at z
          cases z
        · rw [z] at e
          cases e)
    have lim' : (hidT s₁.heap H).NoLimit := by
      obtain ⟨mc, h1, h2⟩ := hlim
      exact ⟨mc, ns' h1, h2⟩
    have e0 : Env0 P w K mg (hidT s₁.heap H) callerA [] s₁ H := ⟨rfl, ⟨K', ns' hns, ⟨mb, ns' hb, hbb⟩, lim'⟩, fun _ _ e => of_hidT e, Nat.le_of_eq (hidT_size _ _), trivial, (fun b z => absurd z (by simp [frs])), hok, .of_eq hg⟩
    refine codeAny_mono ((F _ K' (ns' hns)).run callerA [] s₁ H ⟨[.ref a], []⟩ [.ref a] [.ref a] _ _ hr rfl e0 (hbind s₁ (.ref a)) (.cons rfl .nil) (hsp H hS)) fun r s' h => ?_
    cases r with
    | error e => exact False.elim h
    | ok fl =>
      cases fl with
      | ret u =>
        obtain ⟨v, H', os, bare, un, hok', rvu, q⟩ := h
        cases (show v = .bl true from q)
        cases (show u = Value.bool true from rvu)
        refine ⟨rfl, OldK.of_keep fun b o e => ?_, os, bare⟩
        cases q : H b with
        | none => exact un.keep b o e q (by simp [frs]) (by simp)
        | some u =>
          obtain ⟨rfl, ob, xs, rfl⟩ := hO b u q
          obtain ⟨e1, _⟩ := hok b _ q
          obtain ⟨e2, _⟩ := hok' b _ (un.frzs b ob _ q)
          exact e2.trans (e1.symm.trans e)
      | _ => exact False.elim h
  cases hk : K.lookup a with
  | some o =>
    have e := KX a o hk
    rw [ha] at e
    cases e
    exact core (fun _ => none) (fun b u z => by cases z) (.inr ⟨_, vs.toArray, _, hk, rfl, rfl, rfl, by rw [List.size_toArray, hi.length]; exact hl, by simpa using rv⟩) (fun b u z => by cases z) (.inl rfl)
  | none =>
    have at_ : ∀ b u, (if b = a then some (HO.frz { cls := .type "list", data := .seq vs.toArray } (.lst (ns.map V.int))) else none) = some u → b = a ∧ u = HO.frz { cls := .type "list", data := .seq vs.toArray } (.lst (ns.map V.int)) := fun b u z => by
      by_cases hba : b = a
      · rw [if_pos hba] at z
        exact ⟨hba, (Option.some.inj z).symm⟩
      · rw [if_neg hba] at z
        cases z
    refine core (fun b => if b = a then some (.frz { cls := .type "list", data := .seq vs.toArray } (.lst (ns.map V.int))) else none) (fun b u z => ⟨(at_ b u z).1, _, _, (at_ b u z).2⟩) (.inl (.inr ⟨_, if_pos rfl⟩)) (fun b u z => ?_) (.inr hk)
    obtain ⟨rfl, rfl⟩ := at_ b u z
    exact ⟨ha, by rw [List.length_map]; exact hl, vs, _, rv, ha⟩
theorem walk_G {l : PySem.W.OpenLaw} {n k : Nat} {q : Program} {loose : List Str} {XP : (Str → Option Value) → Heap → Prop} {YP : World → Heap → Prop} {d : DefRec} {x : Str}
    (hn : l.most = some n) (hn2 : n ≤ sizeLine) (hdf : d.params.defaults = []) (hr : Room k callerA)
    (F : ∀ (w : World) (mg : Str → Option Value) (fa : Addr) (h : Heap), YP w h → h.Ns mainGlobals mg → mg d.name = some (.ref fa) →
      ∃ (K : PySem.W.Frag) (fd : FuncData) (sp : Sp), K.In h ∧ (∀ (s : Shared) (u : Value), BindsTo s fd ⟨[u], []⟩ [(x, u)]) ∧
        (∀ (H : Hp) (a : Addr) (ns : List Int), ns.length ≤ n → SqL K H a (ns.map V.int) → sp [.ref a] H (fun v _ => v = .bl true) fun _ _ _ => False) ∧
        ∀ base : Heap, K.In base → base.Ns mainGlobals mg → FnOkG l.prog w K mg base CX0 k fa fd [x] sp) :
    PySem.W.WalkO q loose XP YP l.row.toRowW d [] (fun f vs => PySem.call f vs) := by
  refine Att.attach_call hn hdf fun w s₀ s₁ mg mb fa o pm cd doc a vs ns G Y ho hd hcd hmg hobj hints hlen hg => ?_
  obtain ⟨K, fd, sp, KX, hb, hsp, hF⟩ := F w mg fa _ Y G.T.g hmg
  exact law_callG KX G.T.g G.T.b G.T.builtins G.T.nolimit hg hobj hints (Nat.le_trans hlen hn2) hr hF hb fun H hS => hsp H a ns hlen hS
end Z

set_option Elab.async false
set_option linter.all false
set_option maxRecDepth 100000
set_option maxHeartbeats 4000000
namespace Z
open PySem PySem.Spec L2
open PyProof.Rows hiding St
/-! ### powers of great numbers -/
def CPowW (i j : Int) : Prop := 0 ≤ j ∧ (Builtin.Int.intBits i : Int) * j ≤ 2 ^ 27
theorem powW_of {i j : Int} {b : Nat} (h0 : 0 ≤ j) (hb : i.natAbs < 2 ^ b) (h1 : 0 < b) (h : ((b : Int) + 1) * j ≤ 2 ^ 27) : CPowW i j := by
  refine ⟨h0, Int.le_trans (Int.mul_le_mul_of_nonneg_right ?_ h0) h⟩
  have q := PySem.Flt.log2_lt_of h1 hb
  unfold Builtin.Int.intBits
  split <;> omega
section
variable {X : Cx}
theorem op_powW : OpR X (binaryOp .Pow) (rI CPowW fun i j => .int (i ^ j.toNat)) := opI fun _ _ _ _ _ _ _ hc q => pow_int hc.1 hc.2 q
/-! ### max of a tuple of whole numbers -/
def rMaxT (K : PySem.W.Frag) : List V → Hp → VK → Prop := fun xs H Q => ∃ (a : Addr) (n : Int) (ns : List Int), xs = [.ref a] ∧ SqT K H a ((n :: ns).map V.int) ∧ ∀ m, m ∈ n :: ns → Q (.int m) H
end
/-! ### == and != of own instances -/
def rEqO (K : PySem.W.Frag) (C : Addr) (sp : Sp) : R2 := fun x y H Q => ∃ (a dx : Addr) (fs : List (Str × V)) (t : Value), x = .ref a ∧ H a = some (.ins C dx fs) ∧ TyX K H y t ∧ PySem.W.notFirst K C t = true ∧ sp [.ref a, y] H (fun v H' => ∃ b, v = .bl b ∧ Q (.bl b) H') (fun _ _ _ => False)
def rNeO (C : Addr) (sp : Sp) : R2 := fun x y H Q => ∃ (a b dx dy : Addr) (fs gs : List (Str × V)), x = .ref a ∧ y = .ref b ∧ H a = some (.ins C dx fs) ∧ H b = some (.ins C dy gs) ∧ sp [.ref a, .ref b] H (fun v H' => ∃ b, v = .bl b ∧ Q (.bl (!b)) H') (fun _ _ _ => False)
/-- the class's own ==, no != of its own, no other base -/
def neB (K : PySem.W.Frag) (C f : Addr) : Bool := match K.lookup C with
  | some ⟨.type "type", _, .cls cd, sl⟩ => (match cd.mro, sl.toList with
    | [.ref C', .type "object"], [_, _, _, _, some (.builtin n), _] => C' == C && (!cd.hasDel && (PySem.W.nsOkIn K cd.ns && (decide (PySem.W.nsIn K cd.ns "__eq__" = some (some (.ref f))) && decide (PySem.W.nsIn K cd.ns "__ne__" = some none))))
    | _, _ => false)
  | _ => false
theorem ns_some_of {K : PySem.W.Frag} {h : Heap} {N : Addr} {mg : Str → Option Value} {n : Str} {v : Value} (X : K.In h) (G : h.Ns N mg) (e : PySem.W.nsIn K N n = some (some v)) : mg n = some v := by
  obtain ⟨o, es, ep, ho, hd, _, hf⟩ := G
  unfold PySem.W.nsIn at e
  split at e
  · rename_i c d es' n' sl q
    have q2 := X _ _ q
    rw [ho] at q2
    cases q2
    cases hd
    split at e
    · rename_i en he
      cases e
      rw [← hf]
      unfold nsFind findBy
      rw [← Array.find?_toList, he]
      rfl
    · split at e <;> cases e
  · cases e
theorem ownNe_of {K : PySem.W.Frag} {h : Heap} {C f x dx : Addr} {od : Option Obj} {ox : Obj} (X : K.In h) (q : neB K C f = true) (hf : PySem.W.isFn K (.ref f) = true) (I : PySem.W.InstAt h x ox C od) : h.OwnEqNoNe x C f "object" [.type "object"] := by
  unfold neB at q
  split at q
  · rename_i dd cd sl ho
    split at q
    · rename_i C' k0 k1 k2 k3 n k5 hm hs
      simp only [Bool.and_eq_true, beq_iff_eq, Bool.not_eq_true', decide_eq_true_eq] at q
      obtain ⟨rfl, hdel, hok, heq, hne⟩ := q
      obtain ⟨nm, bs, mro, ns, qn, hd, sn, sub, ab, col, del⟩ := cd
      dsimp only at hm hdel hok heq hne
      subst hm hdel
      have hsl : sl = #[k0, k1, k2, k3, some (.builtin n), k5] := by
        obtain ⟨l⟩ := sl
        simp only at hs
        rw [hs]
      subst hsl
      have hfn : (K.lookup f).map (·.cls) = some (.type "function") := beq_iff_eq.mp hf
      obtain ⟨ofn, hlf, hcf⟩ := Option.map_eq_some_iff.mp hfn
      have G : h.Ns ns (h.nsMap ns) := .of_isNs (PySem.W.isNs_of_in X hok)
      exact ⟨ox, ofn, nm, qn, ns, bs, hd, sn, sub, ab, col, dd, k0, k1, k2, k3, k5, n, h.nsMap ns, _, I.1, I.2, X _ _ ho, G, ns_some_of X G heq, X _ _ hlf, hcf, F.cmp_object.mro, F.cmp_object.eq.lookup, PySem.W.ns_none_of X G hne⟩
    · cases q
  · cases q
section
variable {X : Cx} {C f : Addr} {k : Nat} {fd : FuncData} {ps : List Str} {sp : Sp}
theorem op_eqO (F : FnOk X.prog X.w X.K X.mg X.base CX0 k f fd ps sp) (hs : PySem.W.findIn X.K (.ref C) "__eq__" = some (some (.ref f))) (hf : PySem.W.isFn X.K (.ref f) = true) (hb : Binds X.K fd ps []) (hr : Room k X.A) : OpR X (compareOp .Eq) (rEqO X.K C sp) := by
  intro pins s σ H x y v u Q I rx ry hq
  obtain ⟨a, dx, fs, t, rfl, ha, ty, hn, q⟩ := hq
  cases rx
  obtain ⟨P, Z, p, _⟩ := kit_of I ry ty
  obtain ⟨mA, J, _⟩ := ins_get I.hok ha
  obtain ⟨od, J, _⟩ := J.look
  obtain ⟨m, hF⟩ := I.fr
  show wpAny (model X.prog X.w) X.A (richCompare .Eq (.ref a) u) (EP X pins σ Q) X.xe s
  refine PySem.W.cmp_K (op := .Eq) (tb := t) hr.units0 hF I.ok.mod.kin J (Z.ty _ _ I.kIn p) hn hs hf ?_
  refine wpAny_mono (run_fn (us := [.ref a, u]) (vs := [.ref a, y]) (E := fun _ _ _ => False) F hr hb .nil pass0 I (.cons rfl (.cons ry .nil)) (by rw [List.append_nil]; exact q)) (fun r s' h => ?_) fun _ _ z => z
  obtain ⟨z, H', I', rz, b, ez, q'⟩ := h
  subst ez
  cases rz
  exact ⟨.bl b, H', I', rfl, q'⟩
theorem op_neO (F : FnOk X.prog X.w X.K X.mg X.base CX0 k f fd ps sp) (q0 : neB X.K C f = true) (hf : PySem.W.isFn X.K (.ref f) = true) (hb : Binds X.K fd ps []) (hr : Room (k + 1) X.A) : OpR X (compareOp .NotEq) (rNeO C sp) := by
  intro pins s σ H x y v u Q I rx ry hq
  obtain ⟨a, b, dx, dy, fs, gs, rfl, rfl, ha, hb', q⟩ := hq
  cases rx
  cases ry
  obtain ⟨mA, J, _⟩ := ins_get I.hok ha
  obtain ⟨od, J, _⟩ := J.look
  obtain ⟨mB, J2, _⟩ := ins_get I.hok hb'
  obtain ⟨od2, J2, _⟩ := J2.look
  have W := ownNe_of (dx := dx) I.kIn q0 hf J
  have e0 : Env0 X.prog X.w X.K X.mg X.base X.A.in1 X.stack s H := I.env0.in1
  have bd : BindsTo s fd ⟨[.ref a, .ref b], []⟩ (ps.zip [.ref a, .ref b]) := by
    have z := hb s [.ref a, .ref b] I.kIn (by
      have l := F.len _ _ _ _ q
      rw [← l]
      rfl)
    rw [List.append_nil] at z
    exact z
  obtain ⟨h, g, d, t, os⟩ := s
  refine compareOp_ne_ownEq PySem.F.cmp_object W (oy := PySem.W.instObj C dy) J2.1 rfl (by have := hr.un; omega) ?_
  refine wpAny_call (codeAny_mono (F.run X.A.in1 X.stack _ H ⟨[.ref a, .ref b], []⟩ [.ref a, .ref b] [.ref a, .ref b] _ _ hr.in1 e0 bd (.cons rfl (.cons rfl .nil)) q) fun r s' hq => ?_)
  cases r with
  | error e => exact hq.elim
  | ok fl =>
    cases fl with
    | ret w =>
      obtain ⟨z, H', I', rz, c, ez, q'⟩ := I.after hq
      subst ez
      cases rz
      exact ⟨c, rfl, ⟨.bl (!c), H', I', rfl, q'⟩⟩
    | _ => exact False.elim hq
end
/-! ### properties -/
structure PropOk (P : Program) (w : World) (K : PySem.W.Frag) (mg : Str → Option Value) (base : Heap) (k : Nat) (C : Addr) (f : Str) (sp : Sp) : Prop where
  ex : ∃ (p g : Addr) (fd : FuncData), PropOf K C f p g ∧ FnOk P w K mg base CX0 k g fd ["self"] sp ∧ Binds K fd ["self"] []
theorem pe_propO {X : Cx} {k : Nat} {C : Addr} {f : Str} {sp : Sp} {e : Expr} {pos : Pos} {ta : TE} (Po : PropOk X.prog X.w X.K X.mg X.base k C f sp) (c : Cls X.K C) (hr : Room (k + 1) X.A) (he : PE X e ta) (hab : attributeBase e f X.env (eval e X.env) = eval e X.env := by rfl) :
    PE X (.Attribute e f pos) (tProp C sp [] E0 ta) := by
  obtain ⟨p, g, fd, hp, F, hb⟩ := Po.ex
  exact pe_prop he c hp F hr hb .nil pass0 hab
/-- a property of the class whose getter gives an attribute -/
def propB (K : PySem.W.Frag) (C : Addr) (f : Str) (g : Addr) : Bool := match PySem.W.findIn K (.ref C) f with
  | some (some (.ref p)) => decide (PySem.W.specialIn K (.ref p) "__get__" = some (some (.builtin "property.__get__"))) && (decide (PySem.W.takesIn K (.ref p) = some true) && (match PySem.W.recIn K p "property" with
    | some (.ref g' :: _) => decide (g' = g)
    | _ => false))
  | _ => false
theorem propB_ok {K : PySem.W.Frag} {C : Addr} {f : Str} {g : Addr} (h : propB K C f g = true) : ∃ p, PropOf K C f p g := by
  unfold propB at h
  split at h
  · rename_i p e
    obtain ⟨h1, h⟩ := He.ba h
    obtain ⟨h2, h3⟩ := He.ba h
    split at h3
    · rename_i g' r e2
      have eg := of_decide_eq_true h3
      subst eg
      exact ⟨p, e, of_decide_eq_true h1, of_decide_eq_true h2, _, e2⟩
    · cases h3
  · cases h
/-- where a property's getter stands -/
def getterAt (K : PySem.W.Frag) (C : Addr) (f : Str) : Addr := match PySem.W.findIn K (.ref C) f with
  | some (some (.ref p)) => (match PySem.W.recIn K p "property" with
    | some (.ref g :: _) => g
    | _ => 0)
  | _ => 0
end Z

set_option Elab.async false
set_option linter.all false
set_option maxRecDepth 100000
set_option maxHeartbeats 4000000
namespace Z
open PySem PySem.Spec L2
open PyProof.Rows hiding St
/-! ### the head's facts, the getters of properties too -/
abbrev GW : Type := Option (Str × Str × Arguments × FuncBody × Scope × Addr × List (Str × Addr) × Value × Addr)
def gW (K : PySem.W.Frag) (a : Addr) : GW := match K.lookup a with
  | some ⟨_, _, .func fd, _⟩ => some (fd.name, fd.qualname, fd.params, fd.body, fd.scope, fd.globals, fd.closure, fd.defaults, fd.builtins)
  | _ => none
structure GetD where
  cls : Str
  prop : Str
  qual : Str
  st : Stmt
def GetD.at_ (d : GetD) (K : PySem.W.Frag) : Addr := getterAt K (He.ga K d.cls) d.prop
def GetD.val (d : GetD) : GW := some (d.prop, d.qual, defArgs d.st, .stmts (defBody d.st), defScope d.st, mainGlobals, [], .none, builtinsNs)
def GetD.ok (d : GetD) (K : PySem.W.Frag) : Bool := propB K (He.ga K d.cls) d.prop (d.at_ K) && (match K.lookup (d.at_ K) with
  | some ⟨_, _, .func fd, _⟩ => PySem.W.codeIn K fd.code d.qual
  | _ => false)
abbrev AlG : Type := He.AlX × (Bool × List GW)
def obsG (n : Nat) (fa : List He.Fa) (fn : List He.DefD) (gs : List GetD) (ex : PySem.W.Frag → Bool) (g : Addr → Option Obj) : AlG :=
  (He.obsX n fa fn [] [] ex g, (gs.all fun d => d.ok (He.frT g (He.asD g n)), gs.map fun d => gW (He.frT g (He.asD g n)) (d.at_ (He.frT g (He.asD g n)))))
def valG (fn : List He.DefD) (gs : List GetD) (w : World) : AlG := (He.valX fn [] w, (true, gs.map GetD.val))
structure SaysG (fa : List He.Fa) (fn : List He.DefD) (gs : List GetD) (ex : PySem.W.Frag → Bool) (w : World) (h : Heap) (K : PySem.W.Frag) : Prop where
  x : He.SaysX fa fn [] [] ex w h K
  okG : (gs.all fun d => d.ok K) = true
  eqG : (gs.map fun d => gW K (d.at_ K)) = gs.map GetD.val
def hookG (n : Nat) (fa : List He.Fa) (fn : List He.DefD) (gs : List GetD) (ex : PySem.W.Frag → Bool) : PySem.W.Hook where
  α := AlG
  obs := fun s => obsG n fa fn gs ex s.heap.get?
  val := fun w => valG fn gs w
  says := fun w h => ∃ K : PySem.W.Frag, K.In h ∧ SaysG fa fn gs ex w h K
  of := fun _ _ e => ⟨_, He.frT_in, He.saysX_of (congrArg (fun z : AlG => z.1) e), congrArg (fun z : AlG => z.2.1) e, congrArg (fun z : AlG => z.2.2) e⟩
  keeps := fun _ _ _ ⟨K, hK, c⟩ k => ⟨K, PySem.W.Frag.In.keeps hK k, ⟨⟨c.x.t, c.x.more, c.x.hd, c.x.out, fun p hp => nomatch hp⟩, c.okG, c.eqG⟩⟩
theorem obsG_eq {n : Nat} {fa : List He.Fa} {fn : List He.DefD} {gs : List GetD} {ex : PySem.W.Frag → Bool} {g : Addr → Option Obj} {s : Shared} (h : ∀ a, g a = s.heap.get? a) : obsG n fa fn gs ex g = (hookG n fa fn gs ex).obs s := by
  have e : g = s.heap.get? := funext h
  rw [e] <;> rfl
theorem SaysG.get {fa : List He.Fa} {fn : List He.DefD} {gs : List GetD} {ex : PySem.W.Frag → Bool} {w : World} {h : Heap} {K : PySem.W.Frag} (c : SaysG fa fn gs ex w h K) (i : Nat) {d : GetD} (e : gs[i]? = some d := by rfl) :
    (∃ p, PropOf K (He.ga K d.cls) d.prop p (d.at_ K)) ∧ ∃ oc od osl kV doc pm an cdv ct, K.lookup (d.at_ K) = some ⟨oc, od, .func (PySem.W.fnOf d.prop d.qual (defArgs d.st) (defBody d.st) (defScope d.st) .none kV doc pm an cdv ct), osl⟩ ∧ PySem.W.codeIn K cdv d.qual = true := by
  obtain ⟨c1, c2⟩ := He.ba (List.all_eq_true.mp c.okG d (List.mem_of_getElem? e))
  refine ⟨propB_ok c1, ?_⟩
  have e2 : (gs.map fun d => gW K (d.at_ K))[i]? = (gs.map GetD.val)[i]? := by rw [c.eqG]
  rw [List.getElem?_map, List.getElem?_map, e] at e2
  have e3 : gW K (d.at_ K) = d.val := Option.some.inj e2
  unfold gW at e3
  cases q : K.lookup (d.at_ K) with
  | none =>
    rw [q] at c2
    cases c2
  | some o =>
    obtain ⟨oc, od, dt, osl⟩ := o
    rw [q] at c2 e3
    cases dt with
    | func fd =>
      obtain ⟨n1, n2, n3, n4, n5, n6, n7, n8, n9, n10, n11, n12, n13, n14, n15⟩ := fd
      have e4 : (some (n1, n2, n3, n4, n5, n6, n7, n8, n15) : GW) = some (d.prop, d.qual, defArgs d.st, .stmts (defBody d.st), defScope d.st, mainGlobals, [], .none, builtinsNs) := e3
      simp only [Option.some.injEq, Prod.mk.injEq] at e4
      obtain ⟨h1, h2, h3, h4, h5, h6, h7, h8, h9⟩ := e4
      subst h1 h2 h3 h4 h5 h6 h7 h8 h9
      exact ⟨oc, od, osl, n9, n10, n11, n12, n13, n14, rfl, c2⟩
    | _ => cases c2
/-- a getter by its body -/
theorem prop_ok {P : Program} {w w2 : World} {K : PySem.W.Frag} {mg : Str → Option Value} {base h : Heap} {fa : List He.Fa} {fn : List He.DefD} {gs : List GetD} {ex : PySem.W.Frag → Bool} {k : Nat} {sp : Sp} (c : SaysG fa fn gs ex w h K) (i : Nat) {d : GetD} (e : gs[i]? = some d) (S : FnScope ["self"] ["self"] (defScope d.st))
    (len : ∀ vs H Q E, sp vs H Q E → vs.length = 1) (hbind : ∀ (kV doc pm : Value) (an : Option Addr) (cdv ct : Value) (us : List Value), us.length = (["self"] : List Str).length → bindArgs (PySem.W.fnOf d.prop d.qual (defArgs d.st) (defBody d.st) (defScope d.st) .none kV doc pm an cdv ct) ⟨us, []⟩ = pure ((["self"] : List Str).zip us))
    (hbody : ∀ (g : Addr) (cdv : Value) (A : Around) (outer : List Env) (s : Shared) (H : Hp) (vs : List V) (Q : VK) (E : XK), Room k (A.deeper (envOfC d.qual (defScope d.st) s.heap.objs.size g cdv)) → sp vs H Q E →
      ∃ t, PSs (cxOf CX0 P w2 K mg base ["self"] d.qual (defScope d.st) g cdv A outer s H E) (defBody d.st) t ∧ t { nx := fun _ H' => Q .non H', rt := Q } (start ["self"] vs) H) : PropOk P w2 K mg base (k + 1) (He.ga K d.cls) d.prop sp := by
  obtain ⟨⟨p, hp⟩, oc, od, osl, kV, doc, pm, an, cdv, ct, lk, hcd⟩ := c.get i e
  exact ⟨⟨p, _, _, hp, fn_of lk hcd S len (fun A outer s H vs Q E hr h => hbody _ cdv A outer s H vs Q E hr h), .all (hbind kV doc pm an cdv ct)⟩⟩
/-! ### methods of a class (its own ==, its __init__) -/
abbrev MtP (K : PySem.W.Frag) (C m qual : Str) (st : Stmt) (fd : FuncData) : Prop := FunD K m qual (defArgs st) (defBody st) (defScope st) [] [] (He.ma K (He.ga K C) m) fd
/-! ### readings of fields -/
section
variable {K : PySem.W.Frag} {σ : St} {H : Hp} {Q : VK} {i : Nat} {a C dx : Addr} {fs : List (Str × V)} {f : Str} {v : V}
theorem z_fld (e : σ[i]? = some (some (.ref a))) (h : H a = some (.ins C dx fs)) (c : Cls K C) (n : NoAttr K C f) (l : fs.lookup f = some v) (q : Q v H) : tFld K (tVar i) f σ H Q := ⟨_, e, a, C, dx, fs, v, rfl, h, c, n, l, q⟩
theorem z_prop {sp : Sp} {E : XK} (e : σ[i]? = some (some (.ref a))) (h : H a = some (.ins C dx fs)) (q : sp [.ref a] H Q E) : tProp C sp [] E (tVar i) σ H Q := ⟨_, e, a, dx, fs, rfl, h, q⟩
theorem z_make {sp : Sp} {E : XK} {t : TA} (h : t σ H fun vs H1 => ∀ x dx, H1 x = none → H1 dx = none → dx ≠ x → sp (.ref x :: (vs ++ [])) (upd (upd H1 dx (.own x)) x (.ins C dx [])) (fun v H2 => v = .non ∧ Q (.ref x) H2) E) : tMake C sp [] E t σ H Q := h
theorem z_sfld {tv : TE} {nx bk ct : St → Hp → Prop} {rt : VK} (h : tv σ H fun y H1 => ∃ v, σ[i]? = some (some v) ∧ ∃ a C dx fs, v = .ref a ∧ H1 a = some (.ins C dx fs) ∧ Cls K C ∧ NoAttr K C f ∧ fs.length < 1000 ∧ nx σ (upd H1 a (.ins C dx (putF f y fs)))) : sFld K (tVar i) tv f ⟨nx, rt, bk, ct⟩ σ H := h
end
/-! ### all but one place -/
def SameBut (b : Addr) (H H' : Hp) : Prop := ∀ c o, c ≠ b → H c = some o → H' c = some o
theorem SameBut.refl (b : Addr) (H : Hp) : SameBut b H H := fun _ _ _ h => h
theorem SameBut.trans {b : Addr} {H H1 H2 : Hp} (a : SameBut b H H1) (c : SameBut b H1 H2) : SameBut b H H2 := fun x o n h => c x o n (a x o n h)
theorem SameBut.same {b : Addr} {H H' : Hp} (s : Same H H') : SameBut b H H' := fun x o _ h => s x o h
theorem SameBut.upd {b : Addr} {H : Hp} {o : HO} : SameBut b H (L2.upd H b o) := fun x u n h => by rw [upd_ne n]; exact h
theorem SameBut.free {b : Addr} {H H' : Hp} (s : SameBut b H H') {l : Addr} (n : l ≠ b) (h : H' l = none) : H l = none := by
  cases q : H l with
  | none => rfl
  | some o =>
    rw [s l o n q] at h
    cases h
/-! ### lists and tuples of whole numbers compared -/
theorem eqvAll_ints : ∀ xs ys : List Int, PyData.eqvAll (xs.map PyData.int) (ys.map PyData.int) = decide (xs = ys)
  | [], [] => by simp [PyData.eqvAll]
  | [], _ :: _ => by simp [PyData.eqvAll]
  | _ :: _, [] => by simp [PyData.eqvAll]
  | x :: xs, y :: ys => by
    rw [List.map_cons, List.map_cons, PyData.eqvAll, eqvAll_ints xs ys]
    by_cases h : x = y
    · subst h
      simp [PyData.eqv]
    · simp [PyData.eqv, h]
theorem dat_ints (xs : List Int) : (xs.map V.int).map datV = xs.map PyData.int := by
  rw [List.map_map]
  rfl
theorem plain_ints (xs : List Int) : (xs.map V.int).all plainV = true := by
  rw [List.all_map]
  exact List.all_eq_true.mpr fun _ _ => rfl
theorem shaped_tup (vs : List V) : SeqAt.shaped (.tuple (vs.map datV)) = true := by
  obtain ⟨h3, h4⟩ := can_all vs
  have hd : (PyData.tuple (vs.map datV)).depth ≤ 64 := by
    rw [PyData.depth]
    omega
  unfold SeqAt.shaped
  rw [decide_eq_true hd, Bool.and_true]
  exact h3
theorem z_eqTI {K : PySem.W.Frag} {H : Hp} {Q : VK} {p q : Addr} {xs ys : List Int} (h1 : SqT K H p (xs.map V.int)) (h2 : SqT K H q (ys.map V.int)) (h : Q (.bl (decide (xs = ys))) H) : rEqD K (.ref p) (.ref q) H Q :=
  ⟨_, _, .tup h1 (dpAll_plain (plain_ints xs)), .tup h2 (dpAll_plain (plain_ints ys)), shaped_tup _, shaped_tup _, by
    have e : PyData.eqv (.tuple ((xs.map V.int).map datV)) (.tuple ((ys.map V.int).map datV)) = decide (xs = ys) := by rw [PyData.eqv, dat_ints, dat_ints, eqvAll_ints]
    rw [e]; exact h⟩
theorem z_neLI {K : PySem.W.Frag} {H : Hp} {Q : VK} {p q : Addr} {xs ys : List Int} (h1 : SqL K H p (xs.map V.int)) (h2 : SqL K H q (ys.map V.int)) (h : Q (.bl (!decide (xs = ys))) H) : rNeD K (.ref p) (.ref q) H Q :=
  ⟨_, _, dp_lst h1 (plain_ints xs), dp_lst h2 (plain_ints ys), shaped_list _, shaped_list _, by
    have e : PyData.eqv (.list ((xs.map V.int).map datV)) (.list ((ys.map V.int).map datV)) = decide (xs = ys) := by rw [PyData.eqv, dat_ints, dat_ints, eqvAll_ints]
    rw [e]; exact h⟩
theorem z_eqLI {K : PySem.W.Frag} {H : Hp} {Q : VK} {p q : Addr} {xs ys : List Int} (h1 : SqL K H p (xs.map V.int)) (h2 : SqL K H q (ys.map V.int)) (h : Q (.bl (decide (xs = ys))) H) : rEqD K (.ref p) (.ref q) H Q :=
  ⟨_, _, dp_lst h1 (plain_ints xs), dp_lst h2 (plain_ints ys), shaped_list _, shaped_list _, by
    have e : PyData.eqv (.list ((xs.map V.int).map datV)) (.list ((ys.map V.int).map datV)) = decide (xs = ys) := by rw [PyData.eqv, dat_ints, dat_ints, eqvAll_ints]
    rw [e]; exact h⟩
/-! ### repr of a list of whole numbers -/
theorem shown_len : ∀ ns : List Int, (∀ n ∈ ns, n.natAbs.log2 < 1000) → PyData.showableAll (ns.map PyData.int) = true ∧ PyData.hasDictAll (ns.map PyData.int) = false ∧ PyData.depthAll (ns.map PyData.int) ≤ 0
  | [], _ => by simp [PyData.showableAll, PyData.hasDictAll, PyData.depthAll]
  | n :: ns, h => by
    obtain ⟨h1, h2, h3⟩ := shown_len ns fun m hm => h m (List.mem_cons_of_mem _ hm)
    have hn : n.natAbs.log2 < 1920 := Nat.lt_trans (h n List.mem_cons_self) (by decide)
    refine ⟨by simp [PyData.showableAll, PyData.showable, h1, hn], by simp [PyData.hasDictAll, PyData.hasDict, h2], ?_⟩
    rw [List.map_cons, PyData.depthAll, PyData.depth]
    omega
theorem z_reprLI {K : PySem.W.Frag} {H : Hp} {Q : VK} {p : Addr} {ns : List Int} (h : SqL K H p (ns.map V.int)) (hn : ∀ n ∈ ns, n.natAbs.log2 < 1000) (hz : (PyData.list (ns.map PyData.int)).shown.length ≤ sizeLine) (q : Q (.str (PyData.list (ns.map PyData.int)).shown) H) : rReprD K [.ref p] H Q := by
  obtain ⟨h1, h2, h3⟩ := shown_len ns hn
  refine ⟨p, .list (ns.map PyData.int), rfl, ?_, by rw [PyData.showable]; exact h1, by rw [PyData.hasDict]; exact h2, by rw [PyData.depth]; omega, hz, q⟩
  have d := dp_lst h (plain_ints ns)
  rw [dat_ints] at d
  exact d
end Z

set_option Elab.async false
set_option linter.all false
set_option maxRecDepth 100000
set_option maxHeartbeats 4000000
namespace Z
open PySem PySem.Spec L2
open PyProof.Rows hiding St
/-! ### max of a tuple of whole numbers -/
theorem maxOf_ge : ∀ (xs : List Int) (x : Int), x ≤ PySem.W.maxOf x xs ∧ ∀ y ∈ xs, y ≤ PySem.W.maxOf x xs
  | [], x => ⟨Int.le_refl _, fun _ h => nomatch h⟩
  | z :: zs, x => by
    have e : PySem.W.maxOf x (z :: zs) = PySem.W.maxOf (if PySem.W.DatumOrd.lt x z = true then z else x) zs := rfl
    have e2 : (PySem.W.DatumOrd.lt x z) = decide (x < z) := rfl
    rw [e, e2]
    obtain ⟨h1, h2⟩ := maxOf_ge zs (if decide (x < z) = true then z else x)
    by_cases c : x < z
    · simp only [c, decide_true, if_true] at h1 h2 ⊢
      refine ⟨by omega, fun y hy => ?_⟩
      cases hy with
      | head => exact h1
      | tail _ h => exact h2 y h
    · simp only [c, decide_false, Bool.false_eq_true, if_false] at h1 h2 ⊢
      refine ⟨h1, fun y hy => ?_⟩
      cases hy with
      | head => omega
      | tail _ h => exact h2 y h
theorem hold_ints {h : Heap} : ∀ {ns : List Int} {us : List Value}, Vals (ns.map V.int) us → PySem.W.HoldAll h us ns
  | [], _, .nil => PySem.W.HoldAll.nil
  | n :: ns, _, .cons r rs => by
    obtain ⟨t, rfl⟩ := r
    exact PySem.W.HoldAll.cons ⟨_, .int n t⟩ (hold_ints rs)
def rMaxTI (K : PySem.W.Frag) : List V → Hp → VK → Prop := fun xs H Q => ∃ (a : Addr) (n : Int) (ns : List Int), xs = [.ref a] ∧ SqT K H a ((n :: ns).map V.int) ∧ ∀ m, (∀ y, y ∈ n :: ns → y ≤ m) → Q (.int m) H
theorem cMaxT {X : Cx} (hc : X.calm = true) (hu : X.A.units + 64 < cLine) : CallR X (.builtin "max") (rMaxTI X.K) := by
  intro pins s σ H vs us Q I r h
  obtain ⟨a, n, ns, rfl, hs, q⟩ := h
  obtain ⟨its, rv, ht, _⟩ := I.tuple hs
  rw [Vals.ref1 r]
  refine PySem.W.max_tuple_datum (I.ok.hd hc) ht (hold_ints (ns := n :: ns) (by simpa using rv)) (by show X.A.units + 1 + 0 < cLine; omega) fun i v h' tk _ hv hk => ?_
  obtain ⟨as, rd⟩ := hv
  generalize he : PySem.W.Datum.toD (PySem.W.maxOf n ns) = d at rd
  have he2 : PyData.int (PySem.W.maxOf n ns) = d := he
  subst he2
  cases rd with
  | int _ t =>
    refine ⟨.int _, H, I.kept hk, ⟨_, rfl⟩, q _ fun y hy => ?_⟩
    obtain ⟨h1, h2⟩ := maxOf_ge ns n
    cases hy with
    | head => exact h1
    | tail _ hy => exact h2 y hy
/-! ### own instances' kinds -/
def insB (K : PySem.W.Frag) (C : Addr) : Bool := decide (PySem.W.findIn K (.ref C) "__class__" = some (some (.builtin "object.__class__"))) && (decide (PySem.W.specialIn K (.builtin "object.__class__") "__get__" = some (some (.builtin "getset_descriptor.__get__"))) &&
  (decide (PySem.W.takesIn K (.builtin "object.__class__") = some true) && decide (PySem.W.mroIn K C (.type "object") = some true)))
theorem insB_ok {K : PySem.W.Frag} {C : Addr} (h : insB K C = true) (cl : Cls K C) {H : Hp} {a dx : Addr} {fs : List (Str × V)} (e : H a = some (.ins C dx fs)) : TyX K H (.ref a) (.ref C) := by
  obtain ⟨h1, h⟩ := He.ba h
  obtain ⟨h2, h⟩ := He.ba h
  obtain ⟨h3, h4⟩ := He.ba h
  exact .base (.ins e cl (of_decide_eq_true h1) (of_decide_eq_true h2) (of_decide_eq_true h3) (of_decide_eq_true h4))
/-- a kind that is not the class's -/
def offB (K : PySem.W.Frag) (C : Addr) (t : Value) : Bool := PySem.W.notFirst K C t && decide (PySem.W.kitOne K t (.ref C) = some false)
def onB (K : PySem.W.Frag) (C : Addr) : Bool := PySem.W.notFirst K C (.ref C) && decide (PySem.W.kitOne K (.ref C) (.ref C) = some true)
theorem z_isi {K : PySem.W.Frag} {H : Hp} {Q : VK} {x c : V} {t u : Value} {b : Bool} (k : ClsV c u) (ty : TyX K H x t) (e : PySem.W.kitOne K t u = some b) (q : Q (.bl b) H) : rIsi K [x, c] H Q := ⟨x, c, t, u, b, rfl, k, ty, e, q⟩
/-! ### own classes' calls -/
structure MakeOk (P : Program) (w : World) (K : PySem.W.Frag) (mg : Str → Option Value) (base : Heap) (k : Nat) (x : Str) (ps : List Str) (sp : Sp) : Prop where
  ex : ∃ (f : Addr) (fd : FuncData), Mk K (He.ga K x) f ∧ FnOk P w K mg base CX0 k f fd ps sp ∧ mg x = some (.ref (He.ga K x)) ∧ Binds K fd ps []
theorem pe_makeO {X : Cx} {k : Nat} {x : Str} {ps : List Str} {sp : Sp} {e : Expr} {es : List Expr} {t : TA} {p pos : Pos} (M : MakeOk X.prog X.w X.K X.mg X.base k x ps sp) (hr : Room (k + 1) X.A) (hg : Gl X x) (ha : PA X (e :: es) t)
    (hdb : (x == ("__debug__" : Str)) = false := by decide) (he : starEach (e :: es) X.env = (false, eval e X.env) :: starEach es X.env := by rfl) (hpl : (backTo pos (starEach es X.env)).any (·.1) = false := by rfl) :
    PE X (.Call (.Name x p) (e :: es) [] pos) (tMake (He.ga X.K x) sp [] E0 t) := by
  obtain ⟨f, fd, M, F, hm, hb⟩ := M.ex
  exact pe_make M F hr hg hm hb .nil pass0 ha hdb he hpl
/-- a class's own == -/
structure EqOk (P : Program) (w : World) (K : PySem.W.Frag) (mg : Str → Option Value) (base : Heap) (k : Nat) (C : Addr) (sp : Sp) : Prop where
  ex : ∃ (f : Addr) (fd : FuncData), FnOk P w K mg base CX0 k f fd ["self", "other"] sp ∧ PySem.W.findIn K (.ref C) "__eq__" = some (some (.ref f)) ∧ PySem.W.isFn K (.ref f) = true ∧ neB K C f = true ∧ Binds K fd ["self", "other"] []
section
variable {X : Cx} {C : Addr} {k : Nat} {sp : Sp}
theorem op_eqE (F : EqOk X.prog X.w X.K X.mg X.base k C sp) (hr : Room k X.A) : OpR X (compareOp .Eq) (rEqO X.K C sp) := by
  obtain ⟨f, fd, F, h1, h2, h3, h4⟩ := F.ex
  exact op_eqO F h1 h2 h4 hr
theorem op_eqK {K : PySem.W.Frag} (hK : X.K = K) (F : EqOk X.prog X.w K X.mg X.base k C sp) (hr : Room k X.A) : OpR X (compareOp .Eq) (rEqO K C sp) := by
  subst hK
  exact op_eqE F hr
theorem op_neE (F : EqOk X.prog X.w X.K X.mg X.base k C sp) (hr : Room (k + 1) X.A) : OpR X (compareOp .NotEq) (rNeO C sp) := by
  obtain ⟨f, fd, F, h1, h2, h3, h4⟩ := F.ex
  exact op_neO F h3 h2 h4 hr
end
theorem z_eqO {K : PySem.W.Frag} {C : Addr} {sp : Sp} {a dx : Addr} {fs : List (Str × V)} {y : V} {t : Value} {H : Hp} {Q : VK} (ha : H a = some (.ins C dx fs)) (ty : TyX K H y t) (n : PySem.W.notFirst K C t = true)
    (q : sp [.ref a, y] H (fun v H' => ∃ b, v = .bl b ∧ Q (.bl b) H') (fun _ _ _ => False)) : rEqO K C sp (.ref a) y H Q := ⟨a, dx, fs, t, rfl, ha, ty, n, q⟩
theorem z_neO {C : Addr} {sp : Sp} {a b dx dy : Addr} {fs gs : List (Str × V)} {H : Hp} {Q : VK} (ha : H a = some (.ins C dx fs)) (hb : H b = some (.ins C dy gs))
    (q : sp [.ref a, .ref b] H (fun v H' => ∃ b, v = .bl b ∧ Q (.bl (!b)) H') (fun _ _ _ => False)) : rNeO C sp (.ref a) (.ref b) H Q := ⟨a, b, dx, dy, fs, gs, rfl, rfl, ha, hb, q⟩
theorem shown_ints_len : ∀ ns : List Int, (∀ n ∈ ns, n.natAbs.log2 < 1000) → (((PyData.shownAll (ns.map PyData.int)).map (·.length)).sum ≤ 1001 * ns.length ∧ (PyData.shownAll (ns.map PyData.int)).length = ns.length)
  | [], _ => ⟨Nat.le_refl _, rfl⟩
  | n :: ns, h => by
    obtain ⟨h1, h2⟩ := shown_ints_len ns fun m hm => h m (List.mem_cons_of_mem _ hm)
    have h3 := int_text_length_le (k := 1000) (by decide) (h n List.mem_cons_self)
    have h4 : (Str.ofString (toString n)).length ≤ 1001 := by
      rw [PySem.ofString_length]
      exact h3
    constructor
    · show ((Str.ofString (toString n)).length :: (PyData.shownAll (ns.map PyData.int)).map (·.length)).sum ≤ 1001 * (ns.length + 1)
      rw [List.sum_cons]
      omega
    · show (PyData.shownAll (ns.map PyData.int)).length + 1 = ns.length + 1
      omega
theorem shown_list_fits {ns : List Int} (h : ∀ n ∈ ns, n.natAbs.log2 < 1000) (hl : ns.length ≤ 1000) : (PyData.list (ns.map PyData.int)).shown.length ≤ sizeLine := by
  obtain ⟨h1, h2⟩ := shown_ints_len ns h
  have h3 := listText_len_le (PyData.shownAll (ns.map PyData.int))
  have e : (PyData.list (ns.map PyData.int)).shown = listText (PyData.shownAll (ns.map PyData.int)) := by
    rw [PyData.shown]
  rw [e]
  have hs : sizeLine = 16777216 := sizeLine_eq
  omega
section
variable {K : PySem.W.Frag} {tl : TE} {wi : TI} {g : TG} {tt : TT} {te : TE} {vs : List Nat} {σ : St} {H : Hp} {Q : VK} {R : It → Hp → Prop}
theorem z_iTup (h : tl σ H fun x H1 => ∃ a, x = .ref a ∧ (∃ xs, SqT K H1 a xs) ∧ R (Itt K a) H1) : iTup K tl σ H R := h
theorem z_iList (h : tl σ H fun x H1 => ∃ a, x = .ref a ∧ (∃ xs, SqL K H1 a xs) ∧ R (Itl K a) H1) : iList K tl σ H R := h
theorem z_for {tb : TS} {D : Ends} (h : wi σ H fun J H1 => ∃ W : Nat → Nat → St → Hp → Prop, (∃ m, W 0 m σ H1) ∧ ∀ i m σ H, W i m σ H →
  (J.stop i H ∧ D.nx σ H) ∨ (J.go i H ∧ ∃ N : St → Hp → Prop, (∀ σ' H', N σ' H' → ∃ m', m' < m ∧ W (i + 1) m' σ' H') ∧ ∀ x H', J.yld i H x H' → g x σ H' fun σ2 H2 => tb { D with nx := N, ct := N, bk := D.nx } σ2 H2)) : tFor wi g tb D σ H := h
theorem z_lc (h : wi σ H fun J H1 => ∀ D, H1 D = none → ∃ W : Nat → Nat → Hp → Prop, (∃ m, W 0 m (upd H1 D (.lst []))) ∧ ∀ i m H, W i m H →
  (J.stop i H ∧ Q (.ref D) H) ∨ (J.go i H ∧ ∃ Nx : Hp → Prop, (∀ H', Nx H' → ∃ m', m' < m ∧ W (i + 1) m' H') ∧ ∀ x H', J.yld i H x H' → g x (wipe σ vs) H' fun σ2 H2 => wipe σ2 vs = wipe σ vs ∧ tt σ2 H2 fun b H3 =>
    if b = true then te σ2 H3 fun y H4 => ∃ acc, H4 D = some (.lst acc) ∧ acc.length < sizeLine ∧ Nx (upd H4 D (.lst (acc ++ [y]))) else Nx H3)) : tLc wi g tt te vs σ H Q := h
end
theorem z_iteNT {A B : Prop} (h : B) : if (!true) = true then A else B := iteF h
theorem z_iteNF {A B : Prop} (h : A) : if (!false) = true then A else B := iteT h
end Z

set_option Elab.async false
set_option linter.all false
set_option maxRecDepth 100000
set_option maxHeartbeats 4000000
namespace Z
open PySem PySem.Spec L2
open PyProof.Rows hiding St
/-! ### a caught exception that stays known behind its clause -/
/-- at a there is an exception, its class and its dict -/
def exz (a : Addr) (cls : Value) (d : Option Addr) : HO := .ext fun h => ∃ (o : Obj) (v : Array Value), h.get? a = some o ∧ Zc cls d o ∧ o.data = .fields v
theorem exz_ok {P : Program} {w : World} {H : Hp} {h : Heap} {a : Addr} {cls : Value} {d : Option Addr} {o : Obj} {v : Array Value} (e : h.get? a = some o) (z : Zc cls d o) (f : o.data = .fields v) : ObjOk P w H h a (exz a cls d) :=
  ⟨⟨o, v, e, z, f⟩, ⟨o, e⟩, fun _ _ ⟨o1, v1, e1, r⟩ k => ⟨o1, v1, k _ e1, r⟩⟩
/-- something new, not yet looked at, is looked at from now on -/
theorem inv_take {X : Cx} {pins : List (Addr × Obj)} {σ : St} {H : Hp} {s : Shared} {a : Addr} {u : HO} (I : Inv X pins σ H s) (na : H a = none) (nL : a ≠ X.env.locals) (nC : ∀ y c, X.env.cells.lookup y = some c → c ≠ a)
    (nP : ∀ p ∈ X.pn ++ pins, p.1 ≠ a) (n0 : X.s_0.heap.get? a = none) (ok : ObjOk X.prog X.w (upd H a u) s.heap a u) : Inv X pins σ (upd H a u) s := by
  have other : ∀ {b : Addr} {v : HO}, H b = some v → upd H a u b = some v := fun {b v} e => by
    rw [upd_ne (ne_of_none e na)]
    exact e
  have base : Un X.fs X.ex X.H_0 (upd H a u) X.s_0.heap s.heap := {
    keep := I.base.keep
    slot := I.base.slot
    free := fun b o e n x => by
      have ne : b ≠ a := fun q => by
        rw [q, n0] at e
        cases e
      rw [upd_ne ne]
      exact I.base.free b o e n x
    there := I.base.there
    tups := fun b xs e => other (I.base.tups b xs e)
    frzs := fun b o v e => other (I.base.frzs b o v e)
    tbls := fun b ps e => by
      obtain ⟨m, q⟩ := I.base.tbls b ps e
      exact ⟨m, other q⟩ }
  refine ⟨I.ok, I.os, I.bare, base, I.loc, I.cell, by rw [upd_ne nL.symm]; exact I.free, fun y c e => by rw [upd_ne (nC y c e)]; exact I.freeC y c e, fun p hp => ?_, fun b v e => ?_, I.len⟩
  · obtain ⟨q1, q2, q3⟩ := I.pin p hp
    exact ⟨q1, by rw [upd_ne (nP p hp)]; exact q2, q3⟩
  · by_cases eb : b = a
    · subst eb
      rw [upd_same] at e
      cases e
      exact ok
    · rw [upd_ne eb] at e
      exact (I.hok b v e).stay (fun _ _ _ z => z) (fun _ z => other z) fun _ _ z => other z
/-- what a clause that takes all there is asks of an exception; i: the slot of its name -/
def wK (K : PySem.W.Frag) (c : Value) (i : Nat) (ts : TS) (nx : St → Hp → Prop) : WX := fun cls d σ H => PySem.W.exmOne K cls c = some true ∧
  ∀ a, H a = none → ts { nx := fun τ G => nx (τ.set i none) (upd G a (exz a cls d)), rt := fun _ _ => False } (σ.set i (some (.ref a))) H
section
variable {X : Cx} {x n : Str} {c : Value} {i : Nat} {body suite : List Stmt} {b0 : Stmt} {q1 q2 q3 : Pos} {tb : WX → TS} {ts : TS}
theorem ps_tryK (hs : X.stack = X.env :: X.outer) (hf : X.env.frame = some X.env.locals) (hex : X.ex = []) (hN : X.N.Nodup) (hi : X.N[i]? = some n) (hl : X.env.kindOf n = some .local) (hc : Names X x c)
    (hb : ∀ (W : WX) (pn : List (Addr × Obj)) (xe : Value → Shared → Prop), Takes (X.tr pn xe) W → PSs (X.tr pn xe) body (tb W))
    (hsu : ∀ (a : Addr) (oe : Obj) (pn : List (Addr × Obj)), PSs (X.suite a ((a, oe) :: pn)) (b0 :: suite) ts) :
    PS X (.Try body [.ExceptHandler (some (.Name x q1)) (some n) (b0 :: suite) q2] [] [] q3) (fun D σ H => tb (wK X.K c i ts D.nx) D σ H) := by
  refine ⟨fun pins s σ H D I h => ?_⟩
  have fr : X.A.frames = some (X.env :: X.outer) := I.ok.frames.trans (congrArg some hs)
  refine wpAny_Try_except (wpAny_mono ((hb (wK X.K c i ts D.nx) (X.pn ++ pins) _ ?tk).run [] s σ H D (I.toTry _) h) ?fine fun _ _ z => z)
  case fine =>
    intro f s1 r
    match f, r with
    | .next, ⟨τ, G, J, q⟩ => exact wpAny_execs_nil ⟨τ, G, J.ofTry I.ok, q⟩
    | .brk, ⟨τ, G, J, q⟩ => exact ⟨τ, G, J.ofTry I.ok, q⟩
    | .cont, ⟨τ, G, J, q⟩ => exact ⟨τ, G, J.ofTry I.ok, q⟩
    | .ret u, ⟨v, τ, G, J, rv, q⟩ => exact ⟨v, τ, G, J.ofTry I.ok, rv, q⟩
  case tk =>
    rintro u t ⟨a, B, sI, p1, τ, G, cls, d, rfl, J0, nb, up, sky, na, os, ag, hm, hts⟩
    have J := J0.ofTry I.ok
    refine Sky.land (B := B) (Z := Zc cls d) (L := X.env.locals) Zc.steady fr hf (by have z := sky; rw [show (X.tr (X.pn ++ pins) _).stack = X.env :: X.outer from hs] at z; exact z) fun h3 fl up3 => ?_
    -- it is none of what was there
    obtain ⟨o3, v3, e3, z3, d3⟩ := fl.there
    have off : a ∉ frs (X.env :: X.outer) := fun m => by
      obtain ⟨_, o, e, z⟩ := fl.2.2.1.mem m
      rw [e3] at e
      cases e
      exact z _ d3
    have newI : sI.heap.get? a = none := by
      cases e : sI.heap.get? a with
      | none => rfl
      | some o =>
        have z := nb a o e (by show a ∉ frs X.stack; rw [hs]; exact off)
        rw [fl.2.1] at z
        cases z
    have new0 : X.s_0.heap.get? a = none := by
      cases e : X.s_0.heap.get? a with
      | none => rfl
      | some o =>
        obtain ⟨o', z⟩ := J.base.there a o e (by rw [hex]; exact List.not_mem_nil)
        rw [newI] at z
        cases z
    have nL : a ≠ X.env.locals := fun z => off (List.mem_filterMap.mpr ⟨X.env, List.mem_cons_self, hf.trans (congrArg some z.symm)⟩)
    have nF : a ∉ X.fs := fun m => by
      obtain ⟨e, me, q⟩ := List.mem_filterMap.mp m
      exact off (List.mem_filterMap.mpr ⟨e, List.mem_cons_of_mem _ me, q⟩)
    have nP : ∀ p ∈ X.pn ++ pins, p.1 ≠ a := fun p hp z => by
      have w := (J0.pin p (List.mem_append_left _ hp)).1
      rw [z, newI] at w
      cases w
    have nC : ∀ y k, X.env.cells.lookup y = some k → k ≠ a := fun y k e z => by
      obtain ⟨v, o, w, _⟩ := J.cell y k e
      rw [z, newI] at w
      cases w
    have J3 : Inv X pins τ G { t with heap := h3 } := J.landed nb fl.1 (up.trans up3) os ag
    have S3 := J3.suite e3 d3 na nL nF
    refine wpAny_handleBy_cons (codeAny_handlers_test ?_) (fun z => nomatch z)
    have name : ∀ {R : Value → Shared → Prop} {E : Value → Shared → Prop}, R c { t with heap := h3 } → wpAny (model X.prog X.w) (X.A.mark (some (.ref a))) (eval (.Name x q1) X.env) R E { t with heap := h3 } := fun {R E} r => by
      obtain ⟨hg, hd, ⟨m⟩ | ⟨m, v, ne⟩⟩ := hc
      · exact ld_glob (X := X.suite a ((a, o3) :: (X.pn ++ pins))) S3 hg (by assumption) r hd
      · exact ld_blt (X := X.suite a ((a, o3) :: (X.pn ++ pins))) S3 hg m v r ne hd
    have type : PySem.W.Looks (model X.prog X.w) h3 (typeOf (.ref a)) cls := fun _ _ _ _ k r => wpAny_typeOf_ref (k _ _ e3) (by rw [z3.1]; exact r)
    refine name ((PySem.W.exm_one J3.kIn type hm).here ?_)
    refine codeAny_handlers_suite_as (HandSPX.lands_againZ fl fun h4 fl4 up4 => ?_)
    obtain ⟨o4, v4, e4, z4, d4⟩ := fl4.there
    have S4 := (J.landed nb fl4.1 ((up.trans up3).trans up4) os ag : Inv X pins τ G { t with heap := h4 }).suite e4 d4 na nL nF
    refine store_ok (X := X.suite a ((a, o4) :: (X.pn ++ pins))) (v := .ref a) S4 hN hi (.inl hl) rfl (fun s5 S5 => ?_) (.inr hl)
    refine wpAny_mono ((hsu a o4 (X.pn ++ pins)).run [] s5 _ G _ S5 (hts a na)) (fun f s6 r => ?_) fun _ _ z => z.elim
    match f, r with
    | .next, ⟨τ6, G6, S6, q6⟩ =>
      obtain ⟨e6, n6, _⟩ := S6.pin (a, o4) (List.mem_append_left _ List.mem_cons_self)
      exact gone_ok (inv_take (S6.unsuite I.ok) n6 nL nC nP new0 (exz_ok e6 z4 d4)) hN hi hl fun s7 J7 => ⟨_, _, J7, q6⟩
    | .brk, ⟨_, _, _, z⟩ => exact z.elim
    | .cont, ⟨_, _, _, z⟩ => exact z.elim
    | .ret u, ⟨_, _, _, _, _, z⟩ => exact z.elim
end
end Z

set_option Elab.async false
set_option linter.all false
set_option maxRecDepth 100000
set_option maxHeartbeats 4000000
namespace Z
open PySem PySem.Spec L2
open PyProof.Rows hiding St
/-! ### what was caught: its class, its field -/
def Caught (H : Hp) (a C : Addr) : Option (Str × V) → Prop
  | none => H a = some (exz a (.ref C) none)
  | some q => ∃ dd, H a = some (exz a (.ref C) (some dd)) ∧ H dd = some (.xd [q])
theorem Caught.mono {H H' : Hp} {a C : Addr} {q : Option (Str × V)} (s : Same H H') (h : Caught H a C q) : Caught H' a C q := by
  cases q with
  | none => exact s _ _ h
  | some q =>
    obtain ⟨dd, h1, h2⟩ := h
    exact ⟨dd, s _ _ h1, s _ _ h2⟩
theorem caught_obj {P : Program} {w : World} {H : Hp} {h : Heap} {a : Addr} {cls : Value} {d : Option Addr} (hok : HOk P w H h) (e : H a = some (exz a cls d)) : ∃ (vs : Array Value) (sl : Array (Option Value)), h.get? a = some ⟨cls, d, .fields vs, sl⟩ := by
  obtain ⟨⟨⟨c, dd, dt, sl⟩, vs, ho, ⟨h1, h2⟩, h3⟩, _, _⟩ := hok a _ e
  dsimp only at h1 h2 h3
  subst h1 h2 h3
  exact ⟨vs, sl, ho⟩
theorem caught_inst {P : Program} {w : World} {H : Hp} {h : Heap} {a C : Addr} {q : Option (Str × V)} (hok : HOk P w H h) (e : Caught H a C q) : ∃ (ox : Obj) (od : Option Obj), PySem.W.InstAt h a ox C od := by
  cases q with
  | none =>
    obtain ⟨vs, sl, ho⟩ := caught_obj hok e
    exact ⟨_, none, ho, rfl, rfl, trivial⟩
  | some q =>
    obtain ⟨dd, e, ed⟩ := e
    obtain ⟨vs, sl, ho⟩ := caught_obj hok e
    obtain ⟨mA, hns, _⟩ := hok dd _ ed
    obtain ⟨od, hod, _⟩ := lookIn_ns hns
    exact ⟨_, some od, ho, rfl, rfl, hod⟩
def rIsC (K : PySem.W.Frag) : List V → Hp → VK → Prop := fun xs H Q => ∃ (a C : Addr) (f : Option (Str × V)) (c : V) (cv : Value) (b : Bool), xs = [.ref a, c] ∧ Caught H a C f ∧ ExcC K C ∧ ClsV c cv ∧ PySem.W.kitOne K (.ref C) cv = some b ∧ Q (.bl b) H
def tXfC (K : PySem.W.Frag) (f : Str) (te : TE) : TE := fun σ H Q => te σ H fun x H1 => ∃ (a C : Addr) (v : V), x = .ref a ∧ Caught H1 a C (some (f, v)) ∧ XfC K C ∧ PySem.W.findIn K (.ref C) f = some none ∧ Q v H1
section
variable {X : Cx}
theorem call_isC : CallR X (.builtin "isinstance") (rIsC X.K) := by
  intro pins s σ H xs us Q I r ⟨a, C, f, c, cv, b, ex, ea, T, k, e, q⟩
  subst ex
  obtain ⟨u1, u2, rfl, r1, r2⟩ := vals2 r
  cases (show u1 = Value.ref a from r1)
  cases k.eq r2
  obtain ⟨ox, od, J⟩ := caught_inst I.hok ea
  obtain ⟨cd, hc, _⟩ := PySem.W.any_some T.hd
  exact PySem.W.kia_one (PySem.W.kitx_exc (by rw [hc]; rfl) T.hg T.hk T.hs T.ha T.hn T.ht T.hm) I.kIn J e (fun z => nomatch z) fun tk => ⟨.bl b, H, I.tok tk, rfl, q⟩
theorem pe_xfC {e : Expr} {te : TE} {pos : Pos} {n : Str} (he : PE X e te) (hb : attributeBase e n X.env (eval e X.env) = eval e X.env := by rfl) : PE X (.Attribute e n pos) (tXfC X.K n te) := by
  refine ⟨fun pins s σ H Q I h => attr_of hb (thn (he.run pins s σ H _ I h) fun u s1 ⟨x, H1, I1, rx, a, C, v, ex, ⟨dd, ea, ed⟩, T, hno, q⟩ => ?_)⟩
  subst ex
  cases (show u = Value.ref a from rx)
  obtain ⟨vs, sl, ho⟩ := caught_obj I1.hok ea
  obtain ⟨mA, hns, hr⟩ := I1.hok dd _ ed
  obtain ⟨od, hod, hl⟩ := lookIn_ns hns
  obtain ⟨u2, hu, ru⟩ := RelO.some_of (v := v) (o := mA n) (by have z := hr n; rw [show List.lookup n [(n, v)] = some v from by simp [List.lookup]] at z; exact z)
  have J : PySem.W.InstAt s1.heap a ⟨.ref C, some dd, .fields vs, sl⟩ C (some od) := ⟨ho, rfl, rfl, hod⟩
  exact HandSPX.exc_get I1.kIn J T.ga T.gg T.exC (PySem.W.findObj_own T.hdC hno rfl (by rw [hl, hu])) (handed_of ru) ⟨v, H1, I1.tok _, ru, q⟩
end
theorem z_isC {K : PySem.W.Frag} {H : Hp} {Q : VK} {a C : Addr} {f : Option (Str × V)} {c : V} {cv : Value} {b : Bool} (ea : Caught H a C f) (T : ExcC K C) (k : ClsV c cv) (e : PySem.W.kitOne K (.ref C) cv = some b) (q : Q (.bl b) H) : rIsC K [.ref a, c] H Q := ⟨a, C, f, c, cv, b, rfl, ea, T, k, e, q⟩
theorem pu_isC {K : PySem.W.Frag} {ta : TA} {σ : St} {H : Hp} {a C : Addr} {f : Option (Str × V)} {c : V} {cv : Value} {b : Bool} (h : PuA ta σ H [.ref a, c]) (ea : Caught H a C f) (T : ExcC K C) (k : ClsV c cv) (e : PySem.W.kitOne K (.ref C) cv = some b) : PuT (tCB (rIsC K) ta) σ H (.bl b) :=
  fun H' s Q q => h H' s _ (z_isC (ea.mono s) T k e q)
/-! ### calls that may raise, inside a try -/
/-- raised at whatever slots there may be -/
def EL (n : Nat) (W : WX) : XK := fun cls d H => ∀ τ : St, τ.length = n → W cls d τ H
theorem pass_len {X : Cx} {n : Nat} {W : WX} (hn : X.N.length = n) (tk : Takes X W) : Passes (L2.CX X.prog X.w) X (EL n W) := fun _ τ _ _ e s' I c => tk e s' (XE.of_call I (fun _ _ _ h => h τ (I.len.trans hn)) c)
structure MakeX (P : Program) (w : World) (K : PySem.W.Frag) (mg : Str → Option Value) (base : Heap) (k : Nat) (x : Str) (ps : List Str) (sp : Sp) : Prop where
  ex : ∃ (f : Addr) (fd : FuncData), Mk K (He.ga K x) f ∧ FnOk P w K mg base (L2.CX P w) k f fd ps sp ∧ mg x = some (.ref (He.ga K x)) ∧ Binds K fd ps []
theorem pe_makeX {X : Cx} {K : PySem.W.Frag} {k n : Nat} {x : Str} {ps : List Str} {sp : Sp} {W : WX} {e : Expr} {es : List Expr} {t : TA} {p pos : Pos} (hK : X.K = K) (hn : X.N.length = n) (tk : Takes X W) (M : MakeX X.prog X.w K X.mg X.base k x ps sp) (hr : Room (k + 1) X.A) (hg : Gl X x) (ha : PA X (e :: es) t)
    (hdb : (x == ("__debug__" : Str)) = false := by decide) (he : starEach (e :: es) X.env = (false, eval e X.env) :: starEach es X.env := by rfl) (hpl : (backTo pos (starEach es X.env)).any (·.1) = false := by rfl) :
    PE X (.Call (.Name x p) (e :: es) [] pos) (tMake (He.ga K x) sp [] (EL n W) t) := by
  subst hK
  obtain ⟨f, fd, M, F, hm, hb⟩ := M.ex
  exact pe_make M F hr hg hm hb .nil (pass_len hn tk) ha hdb he hpl
/-! ### raise X(e) -/
def sRaise (C : Addr) (sp : Sp) (ta : TA) (E : XK) : TS := fun _ σ H => tMkO C sp [] ta σ H E
theorem ps_raiseX {X : Cx} {E : XK} {x f : Str} {e : Expr} {es : List Expr} {ta : TA} {p pos pos2 : Pos} (hc : X.calm = true) (tk : Takes X fun cls d _ H => E cls d H) (C : ClsX X.prog X.w X.K X.mg X.base x f) (hr : Room 2 X.A) (hg : Gl X x) (ha : PA X (e :: es) ta)
    (hdb : (x == ("__debug__" : Str)) = false := by decide) (he : starEach (e :: es) X.env = (false, eval e X.env) :: starEach es X.env := by rfl) (hpl : (backTo pos (starEach es X.env)).any (·.1) = false := by rfl) :
    PS X (.Raise (some (.Call (.Name x p) (e :: es) [] pos)) none pos2) (sRaise (He.ga X.K x) (spX (He.ga X.K x) f) ta E) := by
  obtain ⟨fd, F, b⟩ := C.fn
  exact ps_raise hc tk (pmk_oex C.T C.i C.t F hr b .nil pass0 hg C.g ha hdb he hpl)
theorem z_raiseX {C : Addr} {f : Str} {ta : TA} {E : XK} {D : Ends} {σ : St} {H : Hp} {v : V} (h : PuA ta σ H [v]) (q : ∀ d H', Same H H' → H d = none → H' d = some (.xd [(f, v)]) → E (.ref C) (some d) H') : sRaise C (spX C f) ta E D σ H := by
  refine h H (Same.refl H) _ ⟨by show 1 ≤ 1000; decide, fun a ha => ⟨a, v, rfl, upd_same, fun dx hd hne => ⟨rfl, dx, [(f, v)], upd_same, ?_, ?_, ?_⟩⟩⟩
  · rw [upd_ne hne, upd_same]
  · rw [upd_ne hne] at hd
    exact hd
  · rw [upd_ne hne] at hd
    refine q dx _ (fun b o e => ?_) hd upd_same
    rw [upd_ne (ne_of_none e hd), del_ne (ne_of_none e ha), upd_ne (ne_of_none e ha), upd_ne (ne_of_none e hd), upd_ne (ne_of_none e ha)]
    exact e
/-! ### kinds stay -/
theorem TyX.mono {K : PySem.W.Frag} {H H' : Hp} {x : V} {t : Value} (s : Same H H') (h : TyX K H x t) : TyX K H' x t := by
  cases h with
  | base b =>
    refine .base ?_
    cases b with
    | non => exact .non
    | bl x => exact .bl x
    | int i => exact .int i
    | str x => exact .str x
    | flt x => exact .flt x
    | lst e => exact .lst (s _ _ e)
    | frz e => exact .frz (s _ _ e)
    | tup e => exact .tup (s _ _ e)
    | dK e => exact .dK (s _ _ e)
    | dT e => exact .dT (s _ _ e)
    | ins e cl ha hn htk hm => exact .ins (s _ _ e) cl ha hn htk hm
  | byt b => exact .byt b
  | set e => exact .set (s _ _ e)
  | kList e c => exact .kList e c
  | kTuple e c => exact .kTuple e c
  | kDict e c => exact .kDict e c
  | fTuple e => exact .fTuple (s _ _ e)
  | fDict e => exact .fDict (s _ _ e)
/-- a def that may raise -/
theorem fn_okX {P : Program} {w : World} {K : PySem.W.Frag} {mg : Str → Option Value} {base : Heap} {x qual : Str} {st : Stmt} {N ps : List Str} {k : Nat} {sp : Sp} {f : Addr} {fd : FuncData} (F : FunD K x qual (defArgs st) (defBody st) (defScope st) [] [] f fd) (S : FnScope N ps (defScope st)) (len : ∀ vs H Q E, sp vs H Q E → vs.length = ps.length)
    (hbody : ∀ (cdv : Value) (A : Around) (outer : List Env) (s : Shared) (H : Hp) (vs : List V) (Q : VK) (E : XK), Room k (A.deeper (envOfC qual (defScope st) s.heap.objs.size f cdv)) → sp vs H Q E →
      (Takes (cxOf (L2.CX P w) P w K mg base N qual (defScope st) f cdv A outer s H E) fun cls d _ G => E cls d G) →
      ∃ t, PSs (cxOf (L2.CX P w) P w K mg base N qual (defScope st) f cdv A outer s H E) (defBody st) t ∧ t { nx := fun _ H' => Q .non H', rt := Q } (start N vs) H) : FnOk P w K mg base (L2.CX P w) (k + 1) f fd ps sp :=
  F.ok S len fun cdv A outer s H vs Q E hr h => hbody cdv A outer s H vs Q E hr h (takes_of rfl rfl rfl rfl)
theorem z_expr {te : TE} {nx bk ct : St → Hp → Prop} {rt : VK} {σ : St} {H : Hp} (h : te σ H fun _ H1 => nx σ H1) : tDrop te ⟨nx, rt, bk, ct⟩ σ H := h
theorem z_dnew {σ : St} {H : Hp} {Q : VK} (h : ∀ p, H p = none → Q (.ref p) (upd H p (.dK []))) : tDNewK σ H Q := h
section
variable {r : V → Option Int → Option Int → Hp → VK → Prop} {te : TE} {tl th : TO} {σ : St} {H : Hp} {Q : VK} {R : Option Int → Hp → Prop}
theorem z_sl (h : te σ H fun x H1 => tl σ H1 fun l H2 => th σ H2 fun u H3 => r x l u H3 Q) : L2.tSl r te tl th σ H Q := h
theorem z_noPart (h : R none H) : tNoPart σ H R := h
theorem z_part (h : te σ H fun x H1 => ∃ i, x = .int i ∧ R (some i) H1) : tPart te σ H R := h
theorem z_partI {i : Int} {P : Int → Prop} (h : P i) : ∃ j, V.int i = .int j ∧ P j := ⟨i, rfl, h⟩
end
/-! ### named readings -/
def rTxtI : List V → Hp → VK → Prop := fun xs H Q => ∃ i, xs = [.int i] ∧ i.natAbs.log2 < 1920 ∧ Q (.str (toString i)) H
theorem cReprI {X : Cx} : CallR X (.builtin "repr") rTxtI := SkE.call_repr_int
theorem cStrI {X : Cx} : CallR X (.type "str") rTxtI := call_str_int
def rAddS : R2 := fun x y H Q => ∃ i j, x = .str i ∧ y = .str j ∧ i.length + j.length ≤ sizeLine ∧ Q (.str (i ++ j)) H
theorem op_addS {X : Cx} : OpR X (binaryOp .Add) rAddS := op_add_str
def rNil : R2 := fun x y H Q => y = .non ∧ Q (.bl (decide (x = .non))) H
theorem op_nil {X : Cx} : OpR X (compareOp .Is) rNil := op_isN
theorem ix_listK {X : Cx} {K : PySem.W.Frag} (hK : X.K = K) : IxR X (rIxL K) := by
  subst hK
  exact ix_list
/-! ### tuples (text, bool) that are made -/
def Two (H : Hp) (e : V) (q : Str × Bool) : Prop := ∃ t, e = .ref t ∧ H t = some (.tup [.str q.1, .bl q.2])
theorem Two.mono {H H' : Hp} {e : V} {q : Str × Bool} (s : Same H H') (h : Two H e q) : Two H' e q := by
  obtain ⟨t, e1, e2⟩ := h
  exact ⟨t, e1, s _ _ e2⟩
abbrev Twos (H : Hp) : List V → List (Str × Bool) → Prop := Paired (Two H)
theorem Twos.mono {H H' : Hp} {es : List V} {qs : List (Str × Bool)} (s : Same H H') (h : Twos H es qs) : Twos H' es qs := Paired.mapP h fun _ _ q => q.mono s
def TwT (te : TE) (σ : St) (H : Hp) (q : Str × Bool) : Prop := ∀ H1, Same H H1 → ∀ Q : VK, (∀ e H2, Same H1 H2 → Two H2 e q → Q e H2) → te σ H1 Q
def TwA (ta : TA) (σ : St) (H : Hp) (qs : List (Str × Bool)) : Prop := ∀ H1, Same H H1 → ∀ Q : List V → Hp → Prop, (∀ es H2, Same H1 H2 → Twos H2 es qs → Q es H2) → ta σ H1 Q
theorem TwA.nil {σ : St} {H : Hp} : TwA tNil σ H [] := fun H1 _ _ q => q [] H1 (Same.refl _) .nil
theorem TwA.cons {te : TE} {ta : TA} {σ : St} {H : Hp} {q : Str × Bool} {qs : List (Str × Bool)} (h : TwT te σ H q) (t : TwA ta σ H qs) : TwA (tCons te ta) σ H (q :: qs) := fun H1 s Q k =>
  h H1 s _ fun e H2 s2 x => t H2 (s.trans s2) _ fun es H3 s3 y => k (e :: es) H3 (s2.trans s3) (.cons (x.mono s3) y)
theorem tw_tup {ta : TA} {σ : St} {H : Hp} {x : Str} {b : Bool} (h : PuA ta σ H [.str x, .bl b]) : TwT (tTup ta) σ H (x, b) := fun H1 s Q k =>
  h H1 s _ ⟨by show 2 ≤ sizeLine; decide, fun p hp => k _ _ (same_new (Same.refl _) hp) ⟨p, rfl, upd_same⟩⟩
theorem TwA.lst {ta : TA} {σ : St} {H : Hp} {qs : List (Str × Bool)} (h : TwA ta σ H qs) (hl : qs.length ≤ 1000) {Q : VK} (k : ∀ p es H', Same H H' → H p = none → H' p = some (.lst es) → Twos H' es qs → Q (.ref p) H') : tLst ta σ H Q :=
  h H (Same.refl H) _ fun es H1 s1 x => ⟨by rw [Paired.length x]; exact Nat.le_trans hl (by decide), fun p hp => k p es _ (same_new s1 hp) (s1.free hp) upd_same (Twos.mono (same_new (Same.refl _) hp) x)⟩
theorem TwA.cat {ta : TA} {σ : St} {H : Hp} {qs rs : List (Str × Bool)} {i : Nat} {p : Addr} {es : List V} (h : TwA ta σ H rs) (hl : qs.length + rs.length ≤ 1000) (e : σ[i]? = some (some (.ref p))) (hp : H p = some (.lst es)) (hx : Twos H es qs) {Q : VK}
    (k : ∀ r fs H', Same H H' → H r = none → H' r = some (.lst fs) → Twos H' fs (qs ++ rs) → Q (.ref r) H') : tOp rCat (tVar i) (tLst ta) σ H Q := by
  refine ⟨_, e, h.lst (by omega) fun p2 fs H2 s2 n2 h2 x2 => ?_⟩
  refine ⟨p, p2, es, fs, rfl, rfl, s2 _ _ hp, h2, ?_, fun r hr => ?_⟩
  · rw [Paired.length hx, Paired.length x2]
    exact Nat.le_trans hl (by decide)
  · have s3 := same_new (o := .lst (es ++ fs)) (Same.refl H2) hr
    exact k r _ _ (s2.trans s3) (s2.free hr) upd_same (paired_append (Twos.mono (s2.trans s3) hx) (Twos.mono s3 x2))
end Z

set_option Elab.async false
set_option linter.all false
set_option maxRecDepth 100000
set_option maxHeartbeats 4000000
namespace K02
open PySem PySem.Spec L2 Z
open PyProof.Rows hiding St
def top (i : Nat) : Stmt := PySem.Challenge.pw_leafsplits_k02_errors_of_rules.main.body.getD i (.Pass ⟨0, 0, 0, 0⟩)
abbrev s_wall : Stmt := top 0
theorem sc_wall : FnScope ["k"] ["k"] (defScope s_wall) := ⟨rfl, rfl, rfl, by decide +kernel, rfl, by decide +kernel, by decide +kernel⟩
abbrev s_is_integer : Stmt := top 2
theorem sc_is_integer : FnScope ["value"] ["value"] (defScope s_is_integer) := ⟨rfl, rfl, rfl, by decide +kernel, rfl, by decide +kernel, by decide +kernel⟩
abbrev s_is_between : Stmt := top 3
theorem sc_is_between : FnScope ["value", "least", "most"] ["value", "least", "most"] (defScope s_is_between) := ⟨rfl, rfl, rfl, by decide +kernel, rfl, by decide +kernel, by decide +kernel⟩
abbrev s_InvalidRule_init : Stmt := inClass (top 6) 0
theorem sc_InvalidRule_init : FnScope ["self", "item"] ["self", "item"] (defScope s_InvalidRule_init) := ⟨rfl, rfl, rfl, by decide +kernel, rfl, by decide +kernel, by decide +kernel⟩
abbrev s_InvalidLevels_init : Stmt := inClass (top 7) 0
theorem sc_InvalidLevels_init : FnScope ["self", "level"] ["self", "level"] (defScope s_InvalidLevels_init) := ⟨rfl, rfl, rfl, by decide +kernel, rfl, by decide +kernel, by decide +kernel⟩
abbrev s_InvalidScript_init : Stmt := inClass (top 8) 0
theorem sc_InvalidScript_init : FnScope ["self", "step"] ["self", "step"] (defScope s_InvalidScript_init) := ⟨rfl, rfl, rfl, by decide +kernel, rfl, by decide +kernel, by decide +kernel⟩
abbrev s_InvalidRuns_init : Stmt := inClass (top 9) 0
theorem sc_InvalidRuns_init : FnScope ["self", "item"] ["self", "item"] (defScope s_InvalidRuns_init) := ⟨rfl, rfl, rfl, by decide +kernel, rfl, by decide +kernel, by decide +kernel⟩
abbrev s_InvalidSeen_init : Stmt := inClass (top 10) 0
theorem sc_InvalidSeen_init : FnScope ["self", "item"] ["self", "item"] (defScope s_InvalidSeen_init) := ⟨rfl, rfl, rfl, by decide +kernel, rfl, by decide +kernel, by decide +kernel⟩
abbrev s_InvalidText_init : Stmt := inClass (top 11) 0
theorem sc_InvalidText_init : FnScope ["self", "part"] ["self", "part"] (defScope s_InvalidText_init) := ⟨rfl, rfl, rfl, by decide +kernel, rfl, by decide +kernel, by decide +kernel⟩
abbrev s_OverBudget_init : Stmt := inClass (top 12) 0
theorem sc_OverBudget_init : FnScope ["self", "count"] ["self", "count"] (defScope s_OverBudget_init) := ⟨rfl, rfl, rfl, by decide +kernel, rfl, by decide +kernel, by decide +kernel⟩
abbrev s_can_hold : Stmt := top 31
theorem sc_can_hold : FnScope ["held"] ["held"] (defScope s_can_hold) := ⟨rfl, rfl, rfl, by decide +kernel, rfl, by decide +kernel, by decide +kernel⟩
abbrev s_can_stay : Stmt := top 32
theorem sc_can_stay : FnScope ["held", "stays", "smaller"] ["held", "stays"] (defScope s_can_stay) := ⟨rfl, rfl, rfl, by decide +kernel, rfl, by decide +kernel, by decide +kernel⟩
abbrev s_Rule_init : Stmt := inClass (top 33) 0
theorem sc_Rule_init : FnScope ["self", "leaf", "leaf_stays", "inner", "inner_stays"] ["self", "leaf", "leaf_stays", "inner", "inner_stays"] (defScope s_Rule_init) := ⟨rfl, rfl, rfl, by decide +kernel, rfl, by decide +kernel, by decide +kernel⟩
abbrev s_Rule_leaf : Stmt := inClass (top 33) 1
theorem sc_Rule_leaf : FnScope ["self"] ["self"] (defScope s_Rule_leaf) := ⟨rfl, rfl, rfl, by decide +kernel, rfl, by decide +kernel, by decide +kernel⟩
abbrev s_Rule_leaf_stays : Stmt := inClass (top 33) 2
theorem sc_Rule_leaf_stays : FnScope ["self"] ["self"] (defScope s_Rule_leaf_stays) := ⟨rfl, rfl, rfl, by decide +kernel, rfl, by decide +kernel, by decide +kernel⟩
abbrev s_Rule_leaf_goes : Stmt := inClass (top 33) 3
theorem sc_Rule_leaf_goes : FnScope ["self"] ["self"] (defScope s_Rule_leaf_goes) := ⟨rfl, rfl, rfl, by decide +kernel, rfl, by decide +kernel, by decide +kernel⟩
abbrev s_Rule_inner : Stmt := inClass (top 33) 4
theorem sc_Rule_inner : FnScope ["self"] ["self"] (defScope s_Rule_inner) := ⟨rfl, rfl, rfl, by decide +kernel, rfl, by decide +kernel, by decide +kernel⟩
abbrev s_Rule_inner_stays : Stmt := inClass (top 33) 5
theorem sc_Rule_inner_stays : FnScope ["self"] ["self"] (defScope s_Rule_inner_stays) := ⟨rfl, rfl, rfl, by decide +kernel, rfl, by decide +kernel, by decide +kernel⟩
abbrev s_Rule_inner_goes : Stmt := inClass (top 33) 6
theorem sc_Rule_inner_goes : FnScope ["self"] ["self"] (defScope s_Rule_inner_goes) := ⟨rfl, rfl, rfl, by decide +kernel, rfl, by decide +kernel, by decide +kernel⟩
abbrev s_Rule_eq : Stmt := inClass (top 33) 7
theorem sc_Rule_eq : FnScope ["self", "other"] ["self", "other"] (defScope s_Rule_eq) := ⟨rfl, rfl, rfl, by decide +kernel, rfl, by decide +kernel, by decide +kernel⟩
abbrev s_law_wound : Stmt := top 35
theorem sc_law_wound : FnScope ["script", "k", "cell"] ["script", "k"] (defScope s_law_wound) := ⟨rfl, rfl, rfl, by decide +kernel, rfl, by decide +kernel, by decide +kernel⟩
abbrev s_law_spin : Stmt := top 36
theorem sc_law_spin : FnScope ["reel", "many", "drawn", "mixed"] ["reel", "many"] (defScope s_law_spin) := ⟨rfl, rfl, rfl, by decide +kernel, rfl, by decide +kernel, by decide +kernel⟩
abbrev s_law_rule : Stmt := top 37
theorem sc_law_rule : FnScope ["reel", "wide", "found", "turn", "most", "least"] ["reel", "wide"] (defScope s_law_rule) := ⟨rfl, rfl, rfl, by decide +kernel, rfl, by decide +kernel, by decide +kernel⟩
abbrev s_law_kind : Stmt := top 38
theorem sc_law_kind : FnScope ["e", "found", "key", "told"] ["e"] (defScope s_law_kind) := ⟨rfl, rfl, rfl, by decide +kernel, rfl, by decide +kernel, by decide +kernel⟩
abbrev s_law_kinds : Stmt := top 39
theorem sc_law_kinds : FnScope ["e", "found"] ["e"] (defScope s_law_kinds) := ⟨rfl, rfl, rfl, by decide +kernel, rfl, by decide +kernel, by decide +kernel⟩
abbrev s_law_called : Stmt := top 40
theorem sc_law_called : FnScope ["numbers", "caught", "e"] ["numbers"] (defScope s_law_called) := ⟨rfl, rfl, rfl, by decide +kernel, rfl, by decide +kernel, by decide +kernel⟩
abbrev s_law_with : Stmt := top 41
theorem sc_law_with : FnScope ["numbers", "spot", "value"] ["numbers", "spot", "value"] (defScope s_law_with) := ⟨rfl, rfl, rfl, by decide +kernel, rfl, by decide +kernel, by decide +kernel⟩
abbrev s_law_bad_parts : Stmt := top 42
theorem sc_law_bad_parts : FnScope ["most", "found", "stays"] ["most"] (defScope s_law_bad_parts) := ⟨rfl, rfl, rfl, by decide +kernel, rfl, by decide +kernel, by decide +kernel⟩
abbrev s_law_right : Stmt := top 43
theorem sc_law_right : FnScope ["reel", "wide", "good", "spot", "bad", "most", "least", "stays"] ["reel", "wide"] (defScope s_law_right) := ⟨rfl, rfl, rfl, by decide +kernel, rfl, by decide +kernel, by decide +kernel⟩
abbrev s_law : Stmt := top 44
theorem sc_law : FnScope ["script", "k", "reel", "wide", "rows", "numbers"] ["script"] (defScope s_law) := ⟨rfl, rfl, rfl, by decide +kernel, rfl, by decide +kernel, by decide +kernel⟩
def d_wall : He.DefD := ⟨("_wall", none), "_wall", "_wall", defArgs s_wall, defBody s_wall, defScope s_wall, [], []⟩
def d_is_integer : He.DefD := ⟨("is_integer", none), "is_integer", "is_integer", defArgs s_is_integer, defBody s_is_integer, defScope s_is_integer, [], []⟩
def d_is_between : He.DefD := ⟨("is_between", none), "is_between", "is_between", defArgs s_is_between, defBody s_is_between, defScope s_is_between, [], []⟩
def d_InvalidRule_init : He.DefD := ⟨("InvalidRule", some "__init__"), "__init__", "InvalidRule.__init__", defArgs s_InvalidRule_init, defBody s_InvalidRule_init, defScope s_InvalidRule_init, [], []⟩
def d_InvalidLevels_init : He.DefD := ⟨("InvalidLevels", some "__init__"), "__init__", "InvalidLevels.__init__", defArgs s_InvalidLevels_init, defBody s_InvalidLevels_init, defScope s_InvalidLevels_init, [], []⟩
def d_InvalidScript_init : He.DefD := ⟨("InvalidScript", some "__init__"), "__init__", "InvalidScript.__init__", defArgs s_InvalidScript_init, defBody s_InvalidScript_init, defScope s_InvalidScript_init, [], []⟩
def d_InvalidRuns_init : He.DefD := ⟨("InvalidRuns", some "__init__"), "__init__", "InvalidRuns.__init__", defArgs s_InvalidRuns_init, defBody s_InvalidRuns_init, defScope s_InvalidRuns_init, [], []⟩
def d_InvalidSeen_init : He.DefD := ⟨("InvalidSeen", some "__init__"), "__init__", "InvalidSeen.__init__", defArgs s_InvalidSeen_init, defBody s_InvalidSeen_init, defScope s_InvalidSeen_init, [], []⟩
def d_InvalidText_init : He.DefD := ⟨("InvalidText", some "__init__"), "__init__", "InvalidText.__init__", defArgs s_InvalidText_init, defBody s_InvalidText_init, defScope s_InvalidText_init, [], []⟩
def d_OverBudget_init : He.DefD := ⟨("OverBudget", some "__init__"), "__init__", "OverBudget.__init__", defArgs s_OverBudget_init, defBody s_OverBudget_init, defScope s_OverBudget_init, [], []⟩
def d_can_hold : He.DefD := ⟨("_can_hold", none), "_can_hold", "_can_hold", defArgs s_can_hold, defBody s_can_hold, defScope s_can_hold, [], []⟩
def d_can_stay : He.DefD := ⟨("_can_stay", none), "_can_stay", "_can_stay", defArgs s_can_stay, defBody s_can_stay, defScope s_can_stay, [], []⟩
def d_Rule_init : He.DefD := ⟨("Rule", some "__init__"), "__init__", "Rule.__init__", defArgs s_Rule_init, defBody s_Rule_init, defScope s_Rule_init, [], []⟩
def d_Rule_eq : He.DefD := ⟨("Rule", some "__eq__"), "__eq__", "Rule.__eq__", defArgs s_Rule_eq, defBody s_Rule_eq, defScope s_Rule_eq, [], []⟩
def d_law_wound : He.DefD := ⟨("_law_wound", none), "_law_wound", "_law_wound", defArgs s_law_wound, defBody s_law_wound, defScope s_law_wound, [], []⟩
def d_law_spin : He.DefD := ⟨("_law_spin", none), "_law_spin", "_law_spin", defArgs s_law_spin, defBody s_law_spin, defScope s_law_spin, [], []⟩
def d_law_rule : He.DefD := ⟨("_law_rule", none), "_law_rule", "_law_rule", defArgs s_law_rule, defBody s_law_rule, defScope s_law_rule, [], []⟩
def d_law_kind : He.DefD := ⟨("_law_kind", none), "_law_kind", "_law_kind", defArgs s_law_kind, defBody s_law_kind, defScope s_law_kind, [], []⟩
def d_law_kinds : He.DefD := ⟨("_law_kinds", none), "_law_kinds", "_law_kinds", defArgs s_law_kinds, defBody s_law_kinds, defScope s_law_kinds, [], []⟩
def d_law_called : He.DefD := ⟨("_law_called", none), "_law_called", "_law_called", defArgs s_law_called, defBody s_law_called, defScope s_law_called, [], []⟩
def d_law_with : He.DefD := ⟨("_law_with", none), "_law_with", "_law_with", defArgs s_law_with, defBody s_law_with, defScope s_law_with, [], []⟩
def d_law_bad_parts : He.DefD := ⟨("_law_bad_parts", none), "_law_bad_parts", "_law_bad_parts", defArgs s_law_bad_parts, defBody s_law_bad_parts, defScope s_law_bad_parts, [], []⟩
def d_law_right : He.DefD := ⟨("_law_right", none), "_law_right", "_law_right", defArgs s_law_right, defBody s_law_right, defScope s_law_right, [], []⟩
def d_law : He.DefD := ⟨("law", none), "law", "law", defArgs s_law, defBody s_law, defScope s_law, [], []⟩
def fn : List He.DefD := [d_wall, d_is_integer, d_is_between, d_InvalidRule_init, d_InvalidLevels_init, d_InvalidScript_init, d_InvalidRuns_init, d_InvalidSeen_init, d_InvalidText_init, d_OverBudget_init, d_can_hold, d_can_stay, d_Rule_init, d_Rule_eq, d_law_wound, d_law_spin, d_law_rule, d_law_kind, d_law_kinds, d_law_called, d_law_with, d_law_bad_parts, d_law_right, d_law]
def gs : List Z.GetD := [⟨"Rule", "leaf", "Rule.leaf", s_Rule_leaf⟩, ⟨"Rule", "leaf_stays", "Rule.leaf_stays", s_Rule_leaf_stays⟩, ⟨"Rule", "leaf_goes", "Rule.leaf_goes", s_Rule_leaf_goes⟩, ⟨"Rule", "inner", "Rule.inner", s_Rule_inner⟩, ⟨"Rule", "inner_stays", "Rule.inner_stays", s_Rule_inner_stays⟩, ⟨"Rule", "inner_goes", "Rule.inner_goes", s_Rule_inner_goes⟩]
def fa : List He.Fa := [.glo "_wall", .glo "is_integer", .glo "is_between", .glo "_can_hold", .glo "_can_stay", .glo "_law_wound", .glo "_law_spin", .glo "_law_rule", .glo "_law_kind", .glo "_law_kinds", .glo "_law_called", .glo "_law_with", .glo "_law_bad_parts", .glo "_law_right", .glo "law", .glo "PageError", .glo "InvalidRule", .glo "InvalidLevels", .glo "InvalidScript", .glo "InvalidRuns", .glo "InvalidSeen", .glo "InvalidText", .glo "OverBudget", .glo "InvalidIndex", .glo "InvalidKind", .glo "InvalidGap", .glo "InvalidNumber", .glo "InvalidLevel", .glo "InvalidPage", .glo "InvalidEntry", .glo "InvalidLength", .glo "InvalidHeight", .glo "InvalidLeaves", .glo "InvalidBudget", .glo "UnlikeRules", .glo "InvalidOperation", .glo "Nothing", .glo "InvalidCommand", .glo "Rule", .free "max", .free "min", .free "int", .free "bool", .free "range", .free "len", .free "isinstance", .free "repr", .free "str", .free "ValueError", .exc "PageError", .exc "InvalidIndex", .exc "InvalidKind", .exc "InvalidGap", .exc "InvalidNumber", .exc "InvalidLevel", .exc "InvalidPage", .exc "InvalidEntry", .exc "InvalidLength", .exc "InvalidHeight", .exc "InvalidLeaves", .exc "InvalidBudget", .exc "UnlikeRules", .exc "InvalidOperation", .exc "Nothing", .exc "InvalidCommand", .int "LEAST_HELD" (3), .int "MOST_HELD" (1000000000000000000000000000000), .cls "Rule", .mkr "Rule", .noat "Rule" "_leaf", .noat "Rule" "_leaf_stays", .noat "Rule" "_inner", .noat "Rule" "_inner_stays"]
def fielded : List (Str × Str) := [("InvalidRule", "item"), ("InvalidLevels", "level"), ("InvalidScript", "step"), ("InvalidRuns", "item"), ("InvalidSeen", "item"), ("InvalidText", "part"), ("OverBudget", "count")]
def excs : List Str := ["InvalidRule", "InvalidLevels", "InvalidScript", "InvalidRuns", "InvalidSeen", "InvalidText", "OverBudget", "PageError", "InvalidIndex", "InvalidKind", "InvalidGap", "InvalidNumber", "InvalidLevel", "InvalidPage", "InvalidEntry", "InvalidLength", "InvalidHeight", "InvalidLeaves", "InvalidBudget", "UnlikeRules", "InvalidOperation", "Nothing", "InvalidCommand"]
def exA (K : PySem.W.Frag) : Bool := (excs.all fun x => Z.xcB K (He.ga K x)) &&
  (fielded.all fun q => Z.oexB K (He.ga K q.1) && (decide (PySem.W.findIn K (.ref (He.ga K q.1)) "__init__" = some (some (.ref (He.ma K (He.ga K q.1) "__init__")))) && (decide (PySem.W.typeIn K (.ref (He.ma K (He.ga K q.1) "__init__")) = some (.type "function")) && decide (PySem.W.findIn K (.ref (He.ga K q.1)) q.2 = some none))))
def RC (K : PySem.W.Frag) : Addr := He.ga K "Rule"
def kinds : List (Str × Str) := [("rule", "InvalidRule"), ("levels", "InvalidLevels"), ("script", "InvalidScript"), ("runs", "InvalidRuns"), ("seen", "InvalidSeen"), ("text", "InvalidText"), ("over", "OverBudget"), ("index", "InvalidIndex"), ("kind", "InvalidKind"), ("gap", "InvalidGap"), ("number", "InvalidNumber"), ("level", "InvalidLevel"), ("page", "InvalidPage"), ("entry", "InvalidEntry"), ("length", "InvalidLength"), ("height", "InvalidHeight"), ("leaves", "InvalidLeaves"), ("budget", "InvalidBudget"), ("unlike", "UnlikeRules"), ("operation", "InvalidOperation"), ("nothing", "Nothing"), ("command", "InvalidCommand")]
def kitsB (K : PySem.W.Frag) : Bool := decide (PySem.W.kitOne K (.type "int") (.type "int") = some true) && decide (PySem.W.kitOne K (.type "int") (.type "bool") = some false)
def isB (K : PySem.W.Frag) (x : Str) : Bool := decide (PySem.W.kitOne K (.ref (He.ga K x)) (.type "ValueError") = some true) && (decide (PySem.W.exmOne K (.ref (He.ga K x)) (.ref (He.ga K "PageError")) = some true) && kinds.all fun q => decide (PySem.W.kitOne K (.ref (He.ga K x)) (.ref (He.ga K q.2)) = some (decide (x = q.2))))
def exB (K : PySem.W.Frag) : Bool := kitsB K && kinds.all fun q => isB K q.2
def ex (K : PySem.W.Frag) : Bool := exA K && exB K
abbrev R : PySem.W.OpenRow := PySem.W.OpenLaw.row PySem.Challenge.rw_leafsplits_k02_errors_of_rules
abbrev hk : PySem.W.Hook := Z.hookG 7 fa fn gs ex
def ob (s : PySem.W.SharedT) : Z.AlG := Z.obsG 7 fa fn gs ex (HandSHeadRun.getT s)
theorem ob_eq (s : PySem.W.SharedT) : ob s = hk.obs s.abs := Z.obsG_eq (HandSHeadRun.getT_eq s)

def loose0 : List Str := ["_wall", "is_integer", "is_between", "PageError", "InvalidRule", "InvalidLevels", "InvalidScript", "InvalidRuns", "InvalidSeen", "InvalidText", "OverBudget", "InvalidIndex", "InvalidKind", "InvalidGap", "InvalidNumber", "InvalidLevel", "InvalidPage", "InvalidEntry", "InvalidLength", "InvalidHeight", "InvalidLeaves", "InvalidBudget", "UnlikeRules", "InvalidOperation", "Nothing", "InvalidCommand", "LEAST_HELD", "MOST_HELD", "_can_hold", "_can_stay"]
def loose1 : List Str := ["Rule", "_law_wound", "_law_spin", "_law_rule", "_law_kind", "_law_kinds", "_law_called", "_law_with", "_law_bad_parts", "_law_right"]
def loose : List Str := loose0 ++ loose1
theorem run (w : World) : HandSHeadRun.RunEq R (PySem.W.view R.prog [44]) hk ob 20000 loose w := by
  intro os
  kernel_rfl
structure Txt (K : PySem.W.Frag) (mg : Str → Option Value) : Prop where
  max : mg "max" = none
  min : mg "min" = none
  int : mg "int" = none
  bool : mg "bool" = none
  range : mg "range" = none
  len : mg "len" = none
  isinstance : mg "isinstance" = none
  repr : mg "repr" = none
  str : mg "str" = none
  ValueError : mg "ValueError" = none
  c_PageError : mg "PageError" = some (.ref (He.ga K "PageError"))
  c_InvalidRule : mg "InvalidRule" = some (.ref (He.ga K "InvalidRule"))
  c_InvalidLevels : mg "InvalidLevels" = some (.ref (He.ga K "InvalidLevels"))
  c_InvalidScript : mg "InvalidScript" = some (.ref (He.ga K "InvalidScript"))
  c_InvalidRuns : mg "InvalidRuns" = some (.ref (He.ga K "InvalidRuns"))
  c_InvalidSeen : mg "InvalidSeen" = some (.ref (He.ga K "InvalidSeen"))
  c_InvalidText : mg "InvalidText" = some (.ref (He.ga K "InvalidText"))
  c_OverBudget : mg "OverBudget" = some (.ref (He.ga K "OverBudget"))
  c_InvalidIndex : mg "InvalidIndex" = some (.ref (He.ga K "InvalidIndex"))
  c_InvalidKind : mg "InvalidKind" = some (.ref (He.ga K "InvalidKind"))
  c_InvalidGap : mg "InvalidGap" = some (.ref (He.ga K "InvalidGap"))
  c_InvalidNumber : mg "InvalidNumber" = some (.ref (He.ga K "InvalidNumber"))
  c_InvalidLevel : mg "InvalidLevel" = some (.ref (He.ga K "InvalidLevel"))
  c_InvalidPage : mg "InvalidPage" = some (.ref (He.ga K "InvalidPage"))
  c_InvalidEntry : mg "InvalidEntry" = some (.ref (He.ga K "InvalidEntry"))
  c_InvalidLength : mg "InvalidLength" = some (.ref (He.ga K "InvalidLength"))
  c_InvalidHeight : mg "InvalidHeight" = some (.ref (He.ga K "InvalidHeight"))
  c_InvalidLeaves : mg "InvalidLeaves" = some (.ref (He.ga K "InvalidLeaves"))
  c_InvalidBudget : mg "InvalidBudget" = some (.ref (He.ga K "InvalidBudget"))
  c_UnlikeRules : mg "UnlikeRules" = some (.ref (He.ga K "UnlikeRules"))
  c_InvalidOperation : mg "InvalidOperation" = some (.ref (He.ga K "InvalidOperation"))
  c_Nothing : mg "Nothing" = some (.ref (He.ga K "Nothing"))
  c_InvalidCommand : mg "InvalidCommand" = some (.ref (He.ga K "InvalidCommand"))
  c_Rule : mg "Rule" = some (.ref (He.ga K "Rule"))
  k_LEAST_HELD : ∃ t, mg "LEAST_HELD" = some (.int (3) t)
  k_MOST_HELD : ∃ t, mg "MOST_HELD" = some (.int (1000000000000000000000000000000) t)
  x_PageError : Z.Cls0 K mg "PageError"
  x_InvalidIndex : Z.Cls0 K mg "InvalidIndex"
  x_InvalidKind : Z.Cls0 K mg "InvalidKind"
  x_InvalidGap : Z.Cls0 K mg "InvalidGap"
  x_InvalidNumber : Z.Cls0 K mg "InvalidNumber"
  x_InvalidLevel : Z.Cls0 K mg "InvalidLevel"
  x_InvalidPage : Z.Cls0 K mg "InvalidPage"
  x_InvalidEntry : Z.Cls0 K mg "InvalidEntry"
  x_InvalidLength : Z.Cls0 K mg "InvalidLength"
  x_InvalidHeight : Z.Cls0 K mg "InvalidHeight"
  x_InvalidLeaves : Z.Cls0 K mg "InvalidLeaves"
  x_InvalidBudget : Z.Cls0 K mg "InvalidBudget"
  x_UnlikeRules : Z.Cls0 K mg "UnlikeRules"
  x_InvalidOperation : Z.Cls0 K mg "InvalidOperation"
  x_Nothing : Z.Cls0 K mg "Nothing"
  x_InvalidCommand : Z.Cls0 K mg "InvalidCommand"
  n_Rule_leaf : NoAttr K (He.ga K "Rule") "_leaf"
  n_Rule_leaf_stays : NoAttr K (He.ga K "Rule") "_leaf_stays"
  n_Rule_inner : NoAttr K (He.ga K "Rule") "_inner"
  n_Rule_inner_stays : NoAttr K (He.ga K "Rule") "_inner_stays"
  l_Rule : Cls K (He.ga K "Rule")
  m_Rule : Mk K (He.ga K "Rule") (He.ma K (He.ga K "Rule") "__init__")
theorem txt_ok {K : PySem.W.Frag} {mg : Str → Option Value} {h : Heap} {w : World} (X : K.In h) (G : h.Ns mainGlobals mg) (c : Z.SaysG fa fn gs ex w h K) : Txt K mg where
  max := He.free_ok X G (c.x.t.d.fact 39 (f := .free "max") rfl)
  min := He.free_ok X G (c.x.t.d.fact 40 (f := .free "min") rfl)
  int := He.free_ok X G (c.x.t.d.fact 41 (f := .free "int") rfl)
  bool := He.free_ok X G (c.x.t.d.fact 42 (f := .free "bool") rfl)
  range := He.free_ok X G (c.x.t.d.fact 43 (f := .free "range") rfl)
  len := He.free_ok X G (c.x.t.d.fact 44 (f := .free "len") rfl)
  isinstance := He.free_ok X G (c.x.t.d.fact 45 (f := .free "isinstance") rfl)
  repr := He.free_ok X G (c.x.t.d.fact 46 (f := .free "repr") rfl)
  str := He.free_ok X G (c.x.t.d.fact 47 (f := .free "str") rfl)
  ValueError := He.free_ok X G (c.x.t.d.fact 48 (f := .free "ValueError") rfl)
  c_PageError := He.glo_ok X G (c.x.t.d.fact 15 (f := .glo "PageError") rfl)
  c_InvalidRule := He.glo_ok X G (c.x.t.d.fact 16 (f := .glo "InvalidRule") rfl)
  c_InvalidLevels := He.glo_ok X G (c.x.t.d.fact 17 (f := .glo "InvalidLevels") rfl)
  c_InvalidScript := He.glo_ok X G (c.x.t.d.fact 18 (f := .glo "InvalidScript") rfl)
  c_InvalidRuns := He.glo_ok X G (c.x.t.d.fact 19 (f := .glo "InvalidRuns") rfl)
  c_InvalidSeen := He.glo_ok X G (c.x.t.d.fact 20 (f := .glo "InvalidSeen") rfl)
  c_InvalidText := He.glo_ok X G (c.x.t.d.fact 21 (f := .glo "InvalidText") rfl)
  c_OverBudget := He.glo_ok X G (c.x.t.d.fact 22 (f := .glo "OverBudget") rfl)
  c_InvalidIndex := He.glo_ok X G (c.x.t.d.fact 23 (f := .glo "InvalidIndex") rfl)
  c_InvalidKind := He.glo_ok X G (c.x.t.d.fact 24 (f := .glo "InvalidKind") rfl)
  c_InvalidGap := He.glo_ok X G (c.x.t.d.fact 25 (f := .glo "InvalidGap") rfl)
  c_InvalidNumber := He.glo_ok X G (c.x.t.d.fact 26 (f := .glo "InvalidNumber") rfl)
  c_InvalidLevel := He.glo_ok X G (c.x.t.d.fact 27 (f := .glo "InvalidLevel") rfl)
  c_InvalidPage := He.glo_ok X G (c.x.t.d.fact 28 (f := .glo "InvalidPage") rfl)
  c_InvalidEntry := He.glo_ok X G (c.x.t.d.fact 29 (f := .glo "InvalidEntry") rfl)
  c_InvalidLength := He.glo_ok X G (c.x.t.d.fact 30 (f := .glo "InvalidLength") rfl)
  c_InvalidHeight := He.glo_ok X G (c.x.t.d.fact 31 (f := .glo "InvalidHeight") rfl)
  c_InvalidLeaves := He.glo_ok X G (c.x.t.d.fact 32 (f := .glo "InvalidLeaves") rfl)
  c_InvalidBudget := He.glo_ok X G (c.x.t.d.fact 33 (f := .glo "InvalidBudget") rfl)
  c_UnlikeRules := He.glo_ok X G (c.x.t.d.fact 34 (f := .glo "UnlikeRules") rfl)
  c_InvalidOperation := He.glo_ok X G (c.x.t.d.fact 35 (f := .glo "InvalidOperation") rfl)
  c_Nothing := He.glo_ok X G (c.x.t.d.fact 36 (f := .glo "Nothing") rfl)
  c_InvalidCommand := He.glo_ok X G (c.x.t.d.fact 37 (f := .glo "InvalidCommand") rfl)
  c_Rule := He.glo_ok X G (c.x.t.d.fact 38 (f := .glo "Rule") rfl)
  k_LEAST_HELD := He.int_ok X G (c.x.t.d.fact 65 (f := .int "LEAST_HELD" (3)) rfl)
  k_MOST_HELD := He.int_ok X G (c.x.t.d.fact 66 (f := .int "MOST_HELD" (1000000000000000000000000000000)) rfl)
  x_PageError := ⟨(He.exc_ok (c.x.t.d.fact 49 (f := .exc "PageError") rfl)).1, He.glo_ok X G (c.x.t.d.fact 15 (f := .glo "PageError") rfl), (He.exc_ok (c.x.t.d.fact 49 (f := .exc "PageError") rfl)).2.1⟩
  x_InvalidIndex := ⟨(He.exc_ok (c.x.t.d.fact 50 (f := .exc "InvalidIndex") rfl)).1, He.glo_ok X G (c.x.t.d.fact 23 (f := .glo "InvalidIndex") rfl), (He.exc_ok (c.x.t.d.fact 50 (f := .exc "InvalidIndex") rfl)).2.1⟩
  x_InvalidKind := ⟨(He.exc_ok (c.x.t.d.fact 51 (f := .exc "InvalidKind") rfl)).1, He.glo_ok X G (c.x.t.d.fact 24 (f := .glo "InvalidKind") rfl), (He.exc_ok (c.x.t.d.fact 51 (f := .exc "InvalidKind") rfl)).2.1⟩
  x_InvalidGap := ⟨(He.exc_ok (c.x.t.d.fact 52 (f := .exc "InvalidGap") rfl)).1, He.glo_ok X G (c.x.t.d.fact 25 (f := .glo "InvalidGap") rfl), (He.exc_ok (c.x.t.d.fact 52 (f := .exc "InvalidGap") rfl)).2.1⟩
  x_InvalidNumber := ⟨(He.exc_ok (c.x.t.d.fact 53 (f := .exc "InvalidNumber") rfl)).1, He.glo_ok X G (c.x.t.d.fact 26 (f := .glo "InvalidNumber") rfl), (He.exc_ok (c.x.t.d.fact 53 (f := .exc "InvalidNumber") rfl)).2.1⟩
  x_InvalidLevel := ⟨(He.exc_ok (c.x.t.d.fact 54 (f := .exc "InvalidLevel") rfl)).1, He.glo_ok X G (c.x.t.d.fact 27 (f := .glo "InvalidLevel") rfl), (He.exc_ok (c.x.t.d.fact 54 (f := .exc "InvalidLevel") rfl)).2.1⟩
  x_InvalidPage := ⟨(He.exc_ok (c.x.t.d.fact 55 (f := .exc "InvalidPage") rfl)).1, He.glo_ok X G (c.x.t.d.fact 28 (f := .glo "InvalidPage") rfl), (He.exc_ok (c.x.t.d.fact 55 (f := .exc "InvalidPage") rfl)).2.1⟩
  x_InvalidEntry := ⟨(He.exc_ok (c.x.t.d.fact 56 (f := .exc "InvalidEntry") rfl)).1, He.glo_ok X G (c.x.t.d.fact 29 (f := .glo "InvalidEntry") rfl), (He.exc_ok (c.x.t.d.fact 56 (f := .exc "InvalidEntry") rfl)).2.1⟩
  x_InvalidLength := ⟨(He.exc_ok (c.x.t.d.fact 57 (f := .exc "InvalidLength") rfl)).1, He.glo_ok X G (c.x.t.d.fact 30 (f := .glo "InvalidLength") rfl), (He.exc_ok (c.x.t.d.fact 57 (f := .exc "InvalidLength") rfl)).2.1⟩
  x_InvalidHeight := ⟨(He.exc_ok (c.x.t.d.fact 58 (f := .exc "InvalidHeight") rfl)).1, He.glo_ok X G (c.x.t.d.fact 31 (f := .glo "InvalidHeight") rfl), (He.exc_ok (c.x.t.d.fact 58 (f := .exc "InvalidHeight") rfl)).2.1⟩
  x_InvalidLeaves := ⟨(He.exc_ok (c.x.t.d.fact 59 (f := .exc "InvalidLeaves") rfl)).1, He.glo_ok X G (c.x.t.d.fact 32 (f := .glo "InvalidLeaves") rfl), (He.exc_ok (c.x.t.d.fact 59 (f := .exc "InvalidLeaves") rfl)).2.1⟩
  x_InvalidBudget := ⟨(He.exc_ok (c.x.t.d.fact 60 (f := .exc "InvalidBudget") rfl)).1, He.glo_ok X G (c.x.t.d.fact 33 (f := .glo "InvalidBudget") rfl), (He.exc_ok (c.x.t.d.fact 60 (f := .exc "InvalidBudget") rfl)).2.1⟩
  x_UnlikeRules := ⟨(He.exc_ok (c.x.t.d.fact 61 (f := .exc "UnlikeRules") rfl)).1, He.glo_ok X G (c.x.t.d.fact 34 (f := .glo "UnlikeRules") rfl), (He.exc_ok (c.x.t.d.fact 61 (f := .exc "UnlikeRules") rfl)).2.1⟩
  x_InvalidOperation := ⟨(He.exc_ok (c.x.t.d.fact 62 (f := .exc "InvalidOperation") rfl)).1, He.glo_ok X G (c.x.t.d.fact 35 (f := .glo "InvalidOperation") rfl), (He.exc_ok (c.x.t.d.fact 62 (f := .exc "InvalidOperation") rfl)).2.1⟩
  x_Nothing := ⟨(He.exc_ok (c.x.t.d.fact 63 (f := .exc "Nothing") rfl)).1, He.glo_ok X G (c.x.t.d.fact 36 (f := .glo "Nothing") rfl), (He.exc_ok (c.x.t.d.fact 63 (f := .exc "Nothing") rfl)).2.1⟩
  x_InvalidCommand := ⟨(He.exc_ok (c.x.t.d.fact 64 (f := .exc "InvalidCommand") rfl)).1, He.glo_ok X G (c.x.t.d.fact 37 (f := .glo "InvalidCommand") rfl), (He.exc_ok (c.x.t.d.fact 64 (f := .exc "InvalidCommand") rfl)).2.1⟩
  n_Rule_leaf := He.noat_ok (c.x.t.d.fact 69 (f := .noat "Rule" "_leaf") rfl)
  n_Rule_leaf_stays := He.noat_ok (c.x.t.d.fact 70 (f := .noat "Rule" "_leaf_stays") rfl)
  n_Rule_inner := He.noat_ok (c.x.t.d.fact 71 (f := .noat "Rule" "_inner") rfl)
  n_Rule_inner_stays := He.noat_ok (c.x.t.d.fact 72 (f := .noat "Rule" "_inner_stays") rfl)
  l_Rule := He.cls_ok (c.x.t.d.fact 67 (f := .cls "Rule") rfl)
  m_Rule := He.mkr_ok (c.x.t.d.fact 68 (f := .mkr "Rule") rfl)
theorem D_wall {K : PySem.W.Frag} {mg : Str → Option Value} {h : Heap} {w : World} (X : K.In h) (G : h.Ns mainGlobals mg) (c : Z.SaysG fa fn gs ex w h K) : Def K mg "_wall" s_wall := by
  obtain ⟨fd, F⟩ := c.x.t.d.def_ 0 (d := d_wall) rfl
  exact ⟨_, fd, F, He.glo_ok X G (c.x.t.d.fact 0 (f := .glo "_wall") rfl)⟩
theorem D_is_integer {K : PySem.W.Frag} {mg : Str → Option Value} {h : Heap} {w : World} (X : K.In h) (G : h.Ns mainGlobals mg) (c : Z.SaysG fa fn gs ex w h K) : Def K mg "is_integer" s_is_integer := by
  obtain ⟨fd, F⟩ := c.x.t.d.def_ 1 (d := d_is_integer) rfl
  exact ⟨_, fd, F, He.glo_ok X G (c.x.t.d.fact 1 (f := .glo "is_integer") rfl)⟩
theorem D_is_between {K : PySem.W.Frag} {mg : Str → Option Value} {h : Heap} {w : World} (X : K.In h) (G : h.Ns mainGlobals mg) (c : Z.SaysG fa fn gs ex w h K) : Def K mg "is_between" s_is_between := by
  obtain ⟨fd, F⟩ := c.x.t.d.def_ 2 (d := d_is_between) rfl
  exact ⟨_, fd, F, He.glo_ok X G (c.x.t.d.fact 2 (f := .glo "is_between") rfl)⟩
theorem D_can_hold {K : PySem.W.Frag} {mg : Str → Option Value} {h : Heap} {w : World} (X : K.In h) (G : h.Ns mainGlobals mg) (c : Z.SaysG fa fn gs ex w h K) : Def K mg "_can_hold" s_can_hold := by
  obtain ⟨fd, F⟩ := c.x.t.d.def_ 10 (d := d_can_hold) rfl
  exact ⟨_, fd, F, He.glo_ok X G (c.x.t.d.fact 3 (f := .glo "_can_hold") rfl)⟩
theorem D_can_stay {K : PySem.W.Frag} {mg : Str → Option Value} {h : Heap} {w : World} (X : K.In h) (G : h.Ns mainGlobals mg) (c : Z.SaysG fa fn gs ex w h K) : Def K mg "_can_stay" s_can_stay := by
  obtain ⟨fd, F⟩ := c.x.t.d.def_ 11 (d := d_can_stay) rfl
  exact ⟨_, fd, F, He.glo_ok X G (c.x.t.d.fact 4 (f := .glo "_can_stay") rfl)⟩
theorem D_Rule_init {K : PySem.W.Frag} {mg : Str → Option Value} {h : Heap} {w : World} (X : K.In h) (G : h.Ns mainGlobals mg) (c : Z.SaysG fa fn gs ex w h K) : ∃ fd, FunD K "__init__" "Rule.__init__" (defArgs s_Rule_init) (defBody s_Rule_init) (defScope s_Rule_init) [] [] (He.ma K (He.ga K "Rule") "__init__") fd :=
  c.x.t.d.def_ 12 (d := d_Rule_init) rfl
theorem D_Rule_eq {K : PySem.W.Frag} {mg : Str → Option Value} {h : Heap} {w : World} (X : K.In h) (G : h.Ns mainGlobals mg) (c : Z.SaysG fa fn gs ex w h K) : ∃ fd, FunD K "__eq__" "Rule.__eq__" (defArgs s_Rule_eq) (defBody s_Rule_eq) (defScope s_Rule_eq) [] [] (He.ma K (He.ga K "Rule") "__eq__") fd :=
  c.x.t.d.def_ 13 (d := d_Rule_eq) rfl
theorem D_law_wound {K : PySem.W.Frag} {mg : Str → Option Value} {h : Heap} {w : World} (X : K.In h) (G : h.Ns mainGlobals mg) (c : Z.SaysG fa fn gs ex w h K) : Def K mg "_law_wound" s_law_wound := by
  obtain ⟨fd, F⟩ := c.x.t.d.def_ 14 (d := d_law_wound) rfl
  exact ⟨_, fd, F, He.glo_ok X G (c.x.t.d.fact 5 (f := .glo "_law_wound") rfl)⟩
theorem D_law_spin {K : PySem.W.Frag} {mg : Str → Option Value} {h : Heap} {w : World} (X : K.In h) (G : h.Ns mainGlobals mg) (c : Z.SaysG fa fn gs ex w h K) : Def K mg "_law_spin" s_law_spin := by
  obtain ⟨fd, F⟩ := c.x.t.d.def_ 15 (d := d_law_spin) rfl
  exact ⟨_, fd, F, He.glo_ok X G (c.x.t.d.fact 6 (f := .glo "_law_spin") rfl)⟩
theorem D_law_rule {K : PySem.W.Frag} {mg : Str → Option Value} {h : Heap} {w : World} (X : K.In h) (G : h.Ns mainGlobals mg) (c : Z.SaysG fa fn gs ex w h K) : Def K mg "_law_rule" s_law_rule := by
  obtain ⟨fd, F⟩ := c.x.t.d.def_ 16 (d := d_law_rule) rfl
  exact ⟨_, fd, F, He.glo_ok X G (c.x.t.d.fact 7 (f := .glo "_law_rule") rfl)⟩
theorem D_law_kind {K : PySem.W.Frag} {mg : Str → Option Value} {h : Heap} {w : World} (X : K.In h) (G : h.Ns mainGlobals mg) (c : Z.SaysG fa fn gs ex w h K) : Def K mg "_law_kind" s_law_kind := by
  obtain ⟨fd, F⟩ := c.x.t.d.def_ 17 (d := d_law_kind) rfl
  exact ⟨_, fd, F, He.glo_ok X G (c.x.t.d.fact 8 (f := .glo "_law_kind") rfl)⟩
theorem D_law_kinds {K : PySem.W.Frag} {mg : Str → Option Value} {h : Heap} {w : World} (X : K.In h) (G : h.Ns mainGlobals mg) (c : Z.SaysG fa fn gs ex w h K) : Def K mg "_law_kinds" s_law_kinds := by
  obtain ⟨fd, F⟩ := c.x.t.d.def_ 18 (d := d_law_kinds) rfl
  exact ⟨_, fd, F, He.glo_ok X G (c.x.t.d.fact 9 (f := .glo "_law_kinds") rfl)⟩
theorem D_law_called {K : PySem.W.Frag} {mg : Str → Option Value} {h : Heap} {w : World} (X : K.In h) (G : h.Ns mainGlobals mg) (c : Z.SaysG fa fn gs ex w h K) : Def K mg "_law_called" s_law_called := by
  obtain ⟨fd, F⟩ := c.x.t.d.def_ 19 (d := d_law_called) rfl
  exact ⟨_, fd, F, He.glo_ok X G (c.x.t.d.fact 10 (f := .glo "_law_called") rfl)⟩
theorem D_law_with {K : PySem.W.Frag} {mg : Str → Option Value} {h : Heap} {w : World} (X : K.In h) (G : h.Ns mainGlobals mg) (c : Z.SaysG fa fn gs ex w h K) : Def K mg "_law_with" s_law_with := by
  obtain ⟨fd, F⟩ := c.x.t.d.def_ 20 (d := d_law_with) rfl
  exact ⟨_, fd, F, He.glo_ok X G (c.x.t.d.fact 11 (f := .glo "_law_with") rfl)⟩
theorem D_law_bad_parts {K : PySem.W.Frag} {mg : Str → Option Value} {h : Heap} {w : World} (X : K.In h) (G : h.Ns mainGlobals mg) (c : Z.SaysG fa fn gs ex w h K) : Def K mg "_law_bad_parts" s_law_bad_parts := by
  obtain ⟨fd, F⟩ := c.x.t.d.def_ 21 (d := d_law_bad_parts) rfl
  exact ⟨_, fd, F, He.glo_ok X G (c.x.t.d.fact 12 (f := .glo "_law_bad_parts") rfl)⟩
theorem D_law_right {K : PySem.W.Frag} {mg : Str → Option Value} {h : Heap} {w : World} (X : K.In h) (G : h.Ns mainGlobals mg) (c : Z.SaysG fa fn gs ex w h K) : Def K mg "_law_right" s_law_right := by
  obtain ⟨fd, F⟩ := c.x.t.d.def_ 22 (d := d_law_right) rfl
  exact ⟨_, fd, F, He.glo_ok X G (c.x.t.d.fact 13 (f := .glo "_law_right") rfl)⟩
theorem D_law {K : PySem.W.Frag} {mg : Str → Option Value} {h : Heap} {w : World} (X : K.In h) (G : h.Ns mainGlobals mg) (c : Z.SaysG fa fn gs ex w h K) : Def K mg "law" s_law := by
  obtain ⟨fd, F⟩ := c.x.t.d.def_ 23 (d := d_law) rfl
  exact ⟨_, fd, F, He.glo_ok X G (c.x.t.d.fact 14 (f := .glo "law") rfl)⟩
theorem exA_ok {K : PySem.W.Frag} {h : Heap} {w : World} (c : Z.SaysG fa fn gs ex w h K) : exA K = true := (He.ba c.x.more).1
theorem exB_ok {K : PySem.W.Frag} {h : Heap} {w : World} (c : Z.SaysG fa fn gs ex w h K) : exB K = true := (He.ba c.x.more).2
theorem exc_ok {K : PySem.W.Frag} (c : exA K = true) (x : Str) (hx : x ∈ excs) : ExcC K (He.ga K x) := Z.xcB_ok (List.all_eq_true.mp (He.ba c).1 x hx)
theorem X_InvalidRule {P : Program} {w w2 : World} {K : PySem.W.Frag} {mg : Str → Option Value} {h base : Heap} (X : K.In h) (G : h.Ns mainGlobals mg) (c : Z.SaysG fa fn gs ex w h K) : ClsX P w2 K mg base "InvalidRule" "item" := by
  obtain ⟨fd, F⟩ := c.x.t.d.def_ 3 (d := d_InvalidRule_init) rfl
  obtain ⟨c1, c2⟩ := He.ba (List.all_eq_true.mp (He.ba (exA_ok c)).2 (("InvalidRule" : Str), ("item" : Str)) (by decide +kernel))
  obtain ⟨c2, c3⟩ := He.ba c2
  obtain ⟨c3, c4⟩ := He.ba c3
  exact ⟨Z.oexB_ok c1, He.glo_ok X G (c.x.t.d.fact 16 (f := .glo "InvalidRule") rfl), of_decide_eq_true c2, of_decide_eq_true c3, ⟨fd, init_ok (qual := "InvalidRule.__init__") (st := s_InvalidRule_init) F sc_InvalidRule_init (Z.oexB_ok c1) (of_decide_eq_true c4) (fun _ _ _ _ _ _ => pss_one (ps_ost (pv 0) (pv 1))), F.bindsN fun _ _ _ _ _ _ us hl => match us, hl with | [_, _], _ => rfl⟩, of_decide_eq_true c4⟩
theorem X_InvalidLevels {P : Program} {w w2 : World} {K : PySem.W.Frag} {mg : Str → Option Value} {h base : Heap} (X : K.In h) (G : h.Ns mainGlobals mg) (c : Z.SaysG fa fn gs ex w h K) : ClsX P w2 K mg base "InvalidLevels" "level" := by
  obtain ⟨fd, F⟩ := c.x.t.d.def_ 4 (d := d_InvalidLevels_init) rfl
  obtain ⟨c1, c2⟩ := He.ba (List.all_eq_true.mp (He.ba (exA_ok c)).2 (("InvalidLevels" : Str), ("level" : Str)) (by decide +kernel))
  obtain ⟨c2, c3⟩ := He.ba c2
  obtain ⟨c3, c4⟩ := He.ba c3
  exact ⟨Z.oexB_ok c1, He.glo_ok X G (c.x.t.d.fact 17 (f := .glo "InvalidLevels") rfl), of_decide_eq_true c2, of_decide_eq_true c3, ⟨fd, init_ok (qual := "InvalidLevels.__init__") (st := s_InvalidLevels_init) F sc_InvalidLevels_init (Z.oexB_ok c1) (of_decide_eq_true c4) (fun _ _ _ _ _ _ => pss_one (ps_ost (pv 0) (pv 1))), F.bindsN fun _ _ _ _ _ _ us hl => match us, hl with | [_, _], _ => rfl⟩, of_decide_eq_true c4⟩
theorem X_InvalidScript {P : Program} {w w2 : World} {K : PySem.W.Frag} {mg : Str → Option Value} {h base : Heap} (X : K.In h) (G : h.Ns mainGlobals mg) (c : Z.SaysG fa fn gs ex w h K) : ClsX P w2 K mg base "InvalidScript" "step" := by
  obtain ⟨fd, F⟩ := c.x.t.d.def_ 5 (d := d_InvalidScript_init) rfl
  obtain ⟨c1, c2⟩ := He.ba (List.all_eq_true.mp (He.ba (exA_ok c)).2 (("InvalidScript" : Str), ("step" : Str)) (by decide +kernel))
  obtain ⟨c2, c3⟩ := He.ba c2
  obtain ⟨c3, c4⟩ := He.ba c3
  exact ⟨Z.oexB_ok c1, He.glo_ok X G (c.x.t.d.fact 18 (f := .glo "InvalidScript") rfl), of_decide_eq_true c2, of_decide_eq_true c3, ⟨fd, init_ok (qual := "InvalidScript.__init__") (st := s_InvalidScript_init) F sc_InvalidScript_init (Z.oexB_ok c1) (of_decide_eq_true c4) (fun _ _ _ _ _ _ => pss_one (ps_ost (pv 0) (pv 1))), F.bindsN fun _ _ _ _ _ _ us hl => match us, hl with | [_, _], _ => rfl⟩, of_decide_eq_true c4⟩
theorem X_InvalidRuns {P : Program} {w w2 : World} {K : PySem.W.Frag} {mg : Str → Option Value} {h base : Heap} (X : K.In h) (G : h.Ns mainGlobals mg) (c : Z.SaysG fa fn gs ex w h K) : ClsX P w2 K mg base "InvalidRuns" "item" := by
  obtain ⟨fd, F⟩ := c.x.t.d.def_ 6 (d := d_InvalidRuns_init) rfl
  obtain ⟨c1, c2⟩ := He.ba (List.all_eq_true.mp (He.ba (exA_ok c)).2 (("InvalidRuns" : Str), ("item" : Str)) (by decide +kernel))
  obtain ⟨c2, c3⟩ := He.ba c2
  obtain ⟨c3, c4⟩ := He.ba c3
  exact ⟨Z.oexB_ok c1, He.glo_ok X G (c.x.t.d.fact 19 (f := .glo "InvalidRuns") rfl), of_decide_eq_true c2, of_decide_eq_true c3, ⟨fd, init_ok (qual := "InvalidRuns.__init__") (st := s_InvalidRuns_init) F sc_InvalidRuns_init (Z.oexB_ok c1) (of_decide_eq_true c4) (fun _ _ _ _ _ _ => pss_one (ps_ost (pv 0) (pv 1))), F.bindsN fun _ _ _ _ _ _ us hl => match us, hl with | [_, _], _ => rfl⟩, of_decide_eq_true c4⟩
theorem X_InvalidSeen {P : Program} {w w2 : World} {K : PySem.W.Frag} {mg : Str → Option Value} {h base : Heap} (X : K.In h) (G : h.Ns mainGlobals mg) (c : Z.SaysG fa fn gs ex w h K) : ClsX P w2 K mg base "InvalidSeen" "item" := by
  obtain ⟨fd, F⟩ := c.x.t.d.def_ 7 (d := d_InvalidSeen_init) rfl
  obtain ⟨c1, c2⟩ := He.ba (List.all_eq_true.mp (He.ba (exA_ok c)).2 (("InvalidSeen" : Str), ("item" : Str)) (by decide +kernel))
  obtain ⟨c2, c3⟩ := He.ba c2
  obtain ⟨c3, c4⟩ := He.ba c3
  exact ⟨Z.oexB_ok c1, He.glo_ok X G (c.x.t.d.fact 20 (f := .glo "InvalidSeen") rfl), of_decide_eq_true c2, of_decide_eq_true c3, ⟨fd, init_ok (qual := "InvalidSeen.__init__") (st := s_InvalidSeen_init) F sc_InvalidSeen_init (Z.oexB_ok c1) (of_decide_eq_true c4) (fun _ _ _ _ _ _ => pss_one (ps_ost (pv 0) (pv 1))), F.bindsN fun _ _ _ _ _ _ us hl => match us, hl with | [_, _], _ => rfl⟩, of_decide_eq_true c4⟩
theorem X_InvalidText {P : Program} {w w2 : World} {K : PySem.W.Frag} {mg : Str → Option Value} {h base : Heap} (X : K.In h) (G : h.Ns mainGlobals mg) (c : Z.SaysG fa fn gs ex w h K) : ClsX P w2 K mg base "InvalidText" "part" := by
  obtain ⟨fd, F⟩ := c.x.t.d.def_ 8 (d := d_InvalidText_init) rfl
  obtain ⟨c1, c2⟩ := He.ba (List.all_eq_true.mp (He.ba (exA_ok c)).2 (("InvalidText" : Str), ("part" : Str)) (by decide +kernel))
  obtain ⟨c2, c3⟩ := He.ba c2
  obtain ⟨c3, c4⟩ := He.ba c3
  exact ⟨Z.oexB_ok c1, He.glo_ok X G (c.x.t.d.fact 21 (f := .glo "InvalidText") rfl), of_decide_eq_true c2, of_decide_eq_true c3, ⟨fd, init_ok (qual := "InvalidText.__init__") (st := s_InvalidText_init) F sc_InvalidText_init (Z.oexB_ok c1) (of_decide_eq_true c4) (fun _ _ _ _ _ _ => pss_one (ps_ost (pv 0) (pv 1))), F.bindsN fun _ _ _ _ _ _ us hl => match us, hl with | [_, _], _ => rfl⟩, of_decide_eq_true c4⟩
theorem X_OverBudget {P : Program} {w w2 : World} {K : PySem.W.Frag} {mg : Str → Option Value} {h base : Heap} (X : K.In h) (G : h.Ns mainGlobals mg) (c : Z.SaysG fa fn gs ex w h K) : ClsX P w2 K mg base "OverBudget" "count" := by
  obtain ⟨fd, F⟩ := c.x.t.d.def_ 9 (d := d_OverBudget_init) rfl
  obtain ⟨c1, c2⟩ := He.ba (List.all_eq_true.mp (He.ba (exA_ok c)).2 (("OverBudget" : Str), ("count" : Str)) (by decide +kernel))
  obtain ⟨c2, c3⟩ := He.ba c2
  obtain ⟨c3, c4⟩ := He.ba c3
  exact ⟨Z.oexB_ok c1, He.glo_ok X G (c.x.t.d.fact 22 (f := .glo "OverBudget") rfl), of_decide_eq_true c2, of_decide_eq_true c3, ⟨fd, init_ok (qual := "OverBudget.__init__") (st := s_OverBudget_init) F sc_OverBudget_init (Z.oexB_ok c1) (of_decide_eq_true c4) (fun _ _ _ _ _ _ => pss_one (ps_ost (pv 0) (pv 1))), F.bindsN fun _ _ _ _ _ _ us hl => match us, hl with | [_, _], _ => rfl⟩, of_decide_eq_true c4⟩
def flds (m a f p : V) : List (Str × V) := [("_leaf", m), ("_leaf_stays", a), ("_inner", f), ("_inner_stays", p)]
end K02
set_option Elab.async false
set_option linter.all false
set_option maxRecDepth 100000
set_option maxHeartbeats 4000000
namespace K02
open PySem PySem.Spec L2 Z
open PyProof.Rows hiding St
local macro_rules | `(tactic| walk_at "z") => `(tactic| first
  | with_reducible refine Z.z_seq ?_
  | with_reducible refine Z.z_asg ?_
  | with_reducible refine Z.z_op ?_
  | with_reducible refine Z.z_cons ?_
  | with_reducible refine Z.z_nil ?_
  | with_reducible refine Z.z_c ?_
  | ((with_reducible refine' Z.z_var ?e ?_); (case e => exact rfl))
  | ((with_reducible refine' Z.z_name ?e ?_); (case e => repeat constructor))
  | with_reducible refine Z.z_sub ?_
  | with_reducible refine Z.z_I0 ?_
  | with_reducible refine Z.z_eqI ?_
  | with_reducible refine Z.z_neI ?_
  | with_reducible refine Z.z_cb ?_
  | with_reducible refine Z.z_int1 ?_
  | with_reducible refine Z.z_max2 ?_
  | with_reducible refine Z.z_min2 ?_
  | with_reducible refine Z.z_call ?_
  | with_reducible refine Z.z_test ?_
  | with_reducible refine Z.z_B ?_
  | with_reducible refine Z.z_ex _ ?_
  | with_reducible refine Z.z_and ?_
  | with_reducible refine Z.z_or ?_
  | with_reducible refine Z.z_not ?_
  | with_reducible refine Z.z_andV ?_
  | with_reducible refine Z.z_orV ?_
  | with_reducible refine Z.z_notV ?_
  | with_reducible refine Z.z_ifE ?_
  | with_reducible refine Z.z_chain ?_
  | with_reducible refine Z.z_if ?_
  | with_reducible refine Z.z_ret ?_
  | with_reducible refine Z.z_retN ?_
  | with_reducible refine Z.z_next ?_
  | with_reducible refine Z.z_brk ?_
  | with_reducible refine Z.z_cont ?_
  | with_reducible refine Z.z_drop ?_
  | with_reducible refine Z.z_un ?_
  | with_reducible refine Z.z_U ?_
  | with_reducible refine Z.z_lst ?_
  | with_reducible refine Z.z_tup ?_
  | with_reducible refine Z.z_par ?_
  | ((with_reducible refine' Z.z_par2 ?e1 ?e2 ?_); (case e1 => repeat constructor); (case e2 => repeat constructor))
  | with_reducible refine Z.z_iteT ?_
  | with_reducible refine Z.z_iteF ?_)
local macro_rules | `(tactic| walk_at "z") => `(tactic| first
  | with_reducible refine Z.z_iteNT ?_
  | with_reducible refine Z.z_iteNF ?_
  | with_reducible refine Z.z_sfld ?_)
local macro_rules | `(tactic| walk_at "z") => `(tactic| first
  | with_reducible refine Z.z_iTup ?_
  | with_reducible refine Z.z_iList ?_
  | with_reducible refine Z.z_lc ?_)
local macro_rules | `(tactic| walk_at "z") => `(tactic| first
  | with_reducible refine Z.z_expr ?_
  | with_reducible refine Z.z_dnew ?_)
local macro_rules | `(tactic| walk_at "z") => `(tactic| first
  | with_reducible refine Z.z_sl ?_
  | with_reducible refine Z.z_noPart ?_
  | with_reducible refine Z.z_part ?_
  | with_reducible refine Z.z_partI ?_)

section
variable {P : Program} {w w2 : World} {K : PySem.W.Frag} {mg : Str → Option Value} {base : Heap}
def isI (K : PySem.W.Frag) (H : Hp) (x : V) (b : Bool) : Prop := ∃ t b1 b2, TyX K H x t ∧ PySem.W.kitOne K t (.type "int") = some b1 ∧ PySem.W.kitOne K t (.type "bool") = some b2 ∧ b = (b1 && !b2)
theorem isI_int (c : kitsB K = true) {H : Hp} {i : Int} : isI K H (.int i) true :=
  ⟨.type "int", true, false, .base (.int i), of_decide_eq_true (He.ba c).1, of_decide_eq_true (He.ba c).2, rfl⟩
def spIsInt (K : PySem.W.Frag) : Sp := fun vs H Q _ => ∃ x b, vs = [x] ∧ isI K H x b ∧ Q (.bl b) H
theorem ok_is_integer (D : Def K mg "is_integer" s_is_integer) (T : Txt K mg) : CallOk P w K mg base CX0 1 "is_integer" ["value"] (spIsInt K) := by
  refine def_ok D sc_is_integer (fun vs H Q E h => ?_) (fun _ _ _ _ _ _ us hl => match us, hl with | [_], _ => rfl) (fun fa cdv A outer s H vs Q E hr h => ?_)
  · obtain ⟨x, b, rfl, _⟩ := h
    rfl
  · obtain ⟨x, b, rfl, ⟨t, b1, b2, ty, e1, e2, rfl⟩, k⟩ := h
    refine ⟨_, (pss_one (ps_ret (pe_and (pe_callB call_isi (by rfl) T.isinstance (by decide +kernel) (pa_cons (pv 0) (pa_cons (pe_bltn (v := .ty "int") rfl T.int (by decide +kernel) rfl) pa_nil))) (pe_one (pe_not (pe_callB call_isi (by rfl) T.isinstance (by decide +kernel) (pa_cons (pv 0) (pa_cons (pe_bltn (v := .ty "bool") rfl T.bool (by decide +kernel) rfl) pa_nil)))))))), ?_⟩
    refine z_start (σ' := [some _]) rfl ?_
    repeat walk_at "z"
    refine z_isi (ClsV.ty _) ty e1 ?_
    repeat walk_at "z"
    cases b1 with
    | true =>
      refine iteT ?_
      repeat walk_at "z"
      refine z_isi (ClsV.ty _) ty e2 ?_
      repeat walk_at "z"
      exact k
    | false => exact iteF k
/-- a value that may be one from lo to hi -/
def spBetween (K : PySem.W.Frag) : Sp := fun vs H Q _ => ∃ x lo hi, vs = [x, .int lo, .int hi] ∧ ((∃ i, x = .int i ∧ Q (.bl (decide (lo ≤ i) && decide (i ≤ hi))) H) ∨ (isI K H x false ∧ Q (.bl false) H))
theorem ok_is_between (D : Def K mg "is_between" s_is_between) (T : Txt K mg) (cB : kitsB K = true) (C_is_integer : CallOk P w K mg base CX0 1 "is_integer" ["value"] (spIsInt K)) : CallOk P w K mg base CX0 2 "is_between" ["value", "least", "most"] (spBetween K) := by
  refine def_ok D sc_is_between (fun vs H Q E h => ?_) (fun _ _ _ _ _ _ us hl => match us, hl with | [_, _, _], _ => rfl) (fun fa cdv A outer s H vs Q E hr h => ?_)
  · obtain ⟨x, lo, hi, rfl, _⟩ := h
    rfl
  · obtain ⟨x, lo, hi, rfl, k⟩ := h
    refine ⟨_, (pss_one (ps_ret (pe_and (pe_callB call_isi (by rfl) T.isinstance (by decide +kernel) (pa_cons (pv 0) (pa_cons (pe_bltn (v := .ty "int") rfl T.int (by decide +kernel) rfl) pa_nil))) (pe_and (pe_not (pe_callB call_isi (by rfl) T.isinstance (by decide +kernel) (pa_cons (pv 0) (pa_cons (pe_bltn (v := .ty "bool") rfl T.bool (by decide +kernel) rfl) pa_nil)))) (pe_one (pe_chain op_le op_le (pv 1) (pv 0) (pv 2))))))), ?_⟩
    refine z_start (σ' := [some _, some _, some _]) rfl ?_
    rcases k with ⟨i, rfl, k⟩ | ⟨⟨t, b1, b2, ty, e1, e2, hb⟩, k⟩
    · obtain ⟨t, b1, b2, ty, e1, e2, hb⟩ := isI_int cB (H := H) (i := i)
      have h1 : b1 = true := by clear k e1 e2; revert hb; cases b1 <;> cases b2 <;> decide
      have h2 : b2 = false := by clear k e1 e2; revert hb; cases b1 <;> cases b2 <;> decide
      subst h1 h2
      repeat walk_at "z"
      refine z_isi (ClsV.ty _) ty e1 ?_
      repeat walk_at "z"
      refine z_isi (ClsV.ty _) ty e2 ?_
      repeat walk_at "z"
      refine ite2 (fun h1 => ?_) (fun h1 => ?_)
      · repeat walk_at "z"
        rw [h1, Bool.true_and] at k
        exact k
      · rw [Bool.eq_false_iff.mpr h1, Bool.false_and] at k
        exact k
    · repeat walk_at "z"
      refine z_isi (ClsV.ty _) ty e1 ?_
      repeat walk_at "z"
      cases b1 with
      | false => exact iteF k
      | true =>
        refine iteT ?_
        repeat walk_at "z"
        refine z_isi (ClsV.ty _) ty e2 ?_
        repeat walk_at "z"
        have h2 : b2 = true := by clear e1 e2; revert hb; cases b2 <;> decide
        subst h2
        exact iteF k
def spHold (K : PySem.W.Frag) : Sp := fun vs H Q _ => ∃ x, vs = [x] ∧ ((∃ i, x = .int i ∧ Q (.bl (decide (3 ≤ i) && decide (i ≤ 1000000000000000000000000000000))) H) ∨ (isI K H x false ∧ Q (.bl false) H))
theorem ok_can_hold (D : Def K mg "_can_hold" s_can_hold) (T : Txt K mg) (C_is_between : CallOk P w K mg base CX0 2 "is_between" ["value", "least", "most"] (spBetween K)) : CallOk P w K mg base CX0 3 "_can_hold" ["held"] (spHold K) := by
  refine def_ok D sc_can_hold (fun vs H Q E h => ?_) (fun _ _ _ _ _ _ us hl => match us, hl with | [_], _ => rfl) (fun fa cdv A outer s H vs Q E hr h => ?_)
  · obtain ⟨x, rfl, _⟩ := h
    rfl
  · obtain ⟨x, rfl, k⟩ := h
    refine ⟨_, (pss_one (ps_ret (pe_own C_is_between (hr.mono (by decide)) rfl pass0 (pa_cons (pv 0) (pa_cons (pe_glob (v := .int 3) rfl T.k_LEAST_HELD.choose_spec ⟨_, rfl⟩) (pa_cons (pe_glob (v := .int 1000000000000000000000000000000) rfl T.k_MOST_HELD.choose_spec ⟨_, rfl⟩) pa_nil)))))), ?_⟩
    refine z_start (σ' := [some _]) rfl ?_
    repeat walk_at "z"
    exact ⟨_, _, _, rfl, k⟩
def stayB (m a : Int) : Bool := decide (2 ≤ (if m + 1 - a < a then m + 1 - a else a)) && decide (m + 1 ≤ 4 * (if m + 1 - a < a then m + 1 - a else a))
def spStay (K : PySem.W.Frag) : Sp := fun vs H Q _ => ∃ m x, vs = [.int m, x] ∧ ((∃ a, x = .int a ∧ Q (.bl (stayB m a)) H) ∨ (isI K H x false ∧ Q (.bl false) H))
theorem ok_can_stay (D : Def K mg "_can_stay" s_can_stay) (T : Txt K mg) (cB : kitsB K = true) (C_is_integer : CallOk P w K mg base CX0 1 "is_integer" ["value"] (spIsInt K)) : CallOk P w K mg base CX0 2 "_can_stay" ["held", "stays"] (spStay K) := by
  refine def_ok D sc_can_stay (fun vs H Q E h => ?_) (fun _ _ _ _ _ _ us hl => match us, hl with | [_, _], _ => rfl) (fun fa cdv A outer s H vs Q E hr h => ?_)
  · obtain ⟨m, x, rfl, _⟩ := h
    rfl
  · obtain ⟨m, x, rfl, k⟩ := h
    refine ⟨_, (pss_cons (ps_if (pt_not (pt_val (pe_own C_is_integer (hr.mono (by decide)) rfl pass0 (pa_cons (pv 1) pa_nil)))) (pss_one (ps_ret pe_bl)) pss_nil)
  (pss_cons (ps_set (i := 2) sc_can_stay.nd rfl (Or.inl rfl) (pe_callB (cMin rfl) (by rfl) T.min (by decide +kernel) (pa_cons (pv 1) (pa_cons (pe_op op_sub (pe_op op_add (pv 0) pe_int) (pv 1)) pa_nil))))
  (pss_one (ps_ret (pe_and (pe_cmpR op_ge (pv 2) pe_int (nomark _)) (pe_one (pe_cmpR op_ge (pe_op op_mul pe_int (pv 2)) (pe_op op_add (pv 0) pe_int) (nomark _)))))))), ?_⟩
    refine z_start (σ' := [some _, some _, none]) rfl ?_
    rcases k with ⟨a, rfl, k⟩ | ⟨hx, k⟩
    · repeat walk_at "z"
      refine ⟨_, _, rfl, isI_int cB, ?_⟩
      repeat walk_at "z"
      unfold stayB at k
      refine ite2 (fun h1 => ?_) (fun h1 => ?_)
      · repeat walk_at "z"
        refine z_I (C := CMul) (.inl ⟨by decide, by decide⟩) ?_
        repeat walk_at "z"
        rw [h1, Bool.true_and] at k
        exact k
      · rw [Bool.eq_false_iff.mpr h1, Bool.false_and] at k
        exact k
    · repeat walk_at "z"
      refine ⟨_, _, rfl, hx, ?_⟩
      repeat walk_at "z"
      exact k
def Ok2 (m a : Int) : Prop := 3 ≤ m ∧ m ≤ 1000000000000000000000000000000 ∧ 2 ≤ a ∧ 2 ≤ m + 1 - a ∧ m + 1 ≤ 4 * a ∧ m + 1 ≤ 4 * (m + 1 - a)
theorem Ok2.hold {m a : Int} (h : Ok2 m a) : (decide (3 ≤ m) && decide (m ≤ 1000000000000000000000000000000)) = true := by
  obtain ⟨h1, h2, _⟩ := h
  simp [h1, h2]
theorem Ok2.stay {m a : Int} (h : Ok2 m a) : stayB m a = true := by
  obtain ⟨h1, h2, h3, h4, h5, h6⟩ := h
  unfold stayB
  split <;> simp [*]
theorem isI.mono {H H' : Hp} {x : V} {b : Bool} (s : Same H H') (h : isI K H x b) : isI K H' x b := by
  obtain ⟨t, b1, b2, ty, r⟩ := h
  exact ⟨t, b1, b2, Z.TyX.mono s ty, r⟩
def holdJ (K : PySem.W.Frag) (H : Hp) (x : V) (b : Bool) : Prop := (∃ i, x = .int i ∧ (decide (3 ≤ i) && decide (i ≤ 1000000000000000000000000000000)) = b) ∨ (isI K H x false ∧ b = false)
def stayJ (K : PySem.W.Frag) (H : Hp) (m : Int) (x : V) (b : Bool) : Prop := (∃ a, x = .int a ∧ stayB m a = b) ∨ (isI K H x false ∧ b = false)
theorem holdJ.mono {H H' : Hp} {x : V} {b : Bool} (s : Same H H') (h : holdJ K H x b) : holdJ K H' x b := h.imp id fun q => ⟨q.1.mono s, q.2⟩
theorem stayJ.mono {H H' : Hp} {m : Int} {x : V} {b : Bool} (s : Same H H') (h : stayJ K H m x b) : stayJ K H' m x b := h.imp id fun q => ⟨q.1.mono s, q.2⟩
theorem Ok2.holdJ {H : Hp} {m a : Int} (h : Ok2 m a) : K02.holdJ K H (.int m) true := .inl ⟨m, rfl, h.hold⟩
theorem Ok2.stayJ {H : Hp} {m a : Int} (h : Ok2 m a) : K02.stayJ K H m (.int a) true := .inl ⟨a, rfl, h.stay⟩
theorem hold_of {H : Hp} {x : V} {b : Bool} {Q : VK} {E : XK} (h : holdJ K H x b) (k : Q (.bl b) H) : spHold K [x] H Q E := by
  rcases h with ⟨i, rfl, e⟩ | ⟨h, rfl⟩
  · exact ⟨_, rfl, .inl ⟨i, rfl, by rw [e]; exact k⟩⟩
  · exact ⟨_, rfl, .inr ⟨h, k⟩⟩
theorem stay_of {H : Hp} {m : Int} {x : V} {b : Bool} {Q : VK} {E : XK} (h : stayJ K H m x b) (k : Q (.bl b) H) : spStay K [.int m, x] H Q E := by
  rcases h with ⟨i, rfl, e⟩ | ⟨h, rfl⟩
  · exact ⟨_, _, rfl, .inl ⟨i, rfl, by rw [e]; exact k⟩⟩
  · exact ⟨_, _, rfl, .inr ⟨h, k⟩⟩
/-- which of four is the first that is none -/
inductive Judge (K : PySem.W.Frag) (H : Hp) : V → V → V → V → Option Nat → Prop where
  | j0 {v1 v2 v3 v4 : V} (h : holdJ K H v1 false) : Judge K H v1 v2 v3 v4 (some 0)
  | j1 {m : Int} {v2 v3 v4 : V} (h : holdJ K H (.int m) true) (s : stayJ K H m v2 false) : Judge K H (.int m) v2 v3 v4 (some 1)
  | j2 {m a : Int} {v3 v4 : V} (o : Ok2 m a) (h : holdJ K H v3 false) : Judge K H (.int m) (.int a) v3 v4 (some 2)
  | j3 {m a f : Int} {v4 : V} (o : Ok2 m a) (h : holdJ K H (.int f) true) (s : stayJ K H f v4 false) : Judge K H (.int m) (.int a) (.int f) v4 (some 3)
  | ok {m a f p : Int} (o : Ok2 m a) (o2 : Ok2 f p) : Judge K H (.int m) (.int a) (.int f) (.int p) none
theorem Judge.mono {H H' : Hp} {v1 v2 v3 v4 : V} {r : Option Nat} (s : Same H H') (h : Judge K H v1 v2 v3 v4 r) : Judge K H' v1 v2 v3 v4 r := by
  cases h with
  | j0 h => exact .j0 (h.mono s)
  | j1 h t => exact .j1 (h.mono s) (t.mono s)
  | j2 o h => exact .j2 o (h.mono s)
  | j3 o h t => exact .j3 o (h.mono s) (t.mono s)
  | ok o o2 => exact .ok o o2
def spInit (K : PySem.W.Frag) : Sp := fun vs H Q E => ∃ x dx v1 v2 v3 v4 r, vs = [.ref x, v1, v2, v3, v4] ∧ H x = some (.ins (RC K) dx []) ∧ Judge K H v1 v2 v3 v4 r ∧ (r = none → Q .non (upd H x (.ins (RC K) dx (flds v1 v2 v3 v4)))) ∧
  ∀ i, r = some i → ∀ d H', Same H H' → H d = none → H' d = some (.xd [("item", .int i)]) → E (.ref (He.ga K "InvalidRule")) (some d) H'
theorem ok_init {fd : FuncData} (F : FunD K "__init__" "Rule.__init__" (defArgs s_Rule_init) (defBody s_Rule_init) (defScope s_Rule_init) [] [] (He.ma K (He.ga K "Rule") "__init__") fd) (T : Txt K mg) (X_InvalidRule : ClsX P w K mg base "InvalidRule" "item")
    (C_can_hold : CallOk P w K mg base CX0 3 "_can_hold" ["held"] (spHold K)) (C_can_stay : CallOk P w K mg base CX0 2 "_can_stay" ["held", "stays"] (spStay K)) : MakeX P w K mg base 4 "Rule" ["self", "leaf", "leaf_stays", "inner", "inner_stays"] (spInit K) := by
  refine ⟨⟨_, fd, T.m_Rule, fn_okX F sc_Rule_init (fun vs H Q E h => ?_) (fun cdv A outer s H vs Q E hr h tk => ?_), T.c_Rule, F.bindsN fun _ _ _ _ _ _ us hl => match us, hl with | [_, _, _, _, _], _ => rfl⟩⟩
  · obtain ⟨x, dx, v1, v2, v3, v4, r, rfl, _⟩ := h
    rfl
  · obtain ⟨x, dx, v1, v2, v3, v4, r, rfl, hx, j, k, ke⟩ := h
    refine ⟨_, (pss_cons (ps_if (pt_not (pt_val (pe_own C_can_hold (hr.mono (by decide)) rfl pass0 (pa_cons (pv 1) pa_nil)))) (pss_one (ps_raiseX rfl tk X_InvalidRule (hr.mono (by decide)) rfl (pa_cons pe_int pa_nil))) pss_nil)
  (pss_cons (ps_if (pt_not (pt_val (pe_own C_can_stay (hr.mono (by decide)) rfl pass0 (pa_cons (pv 1) (pa_cons (pv 2) pa_nil))))) (pss_one (ps_raiseX rfl tk X_InvalidRule (hr.mono (by decide)) rfl (pa_cons pe_int pa_nil))) pss_nil)
  (pss_cons (ps_if (pt_not (pt_val (pe_own C_can_hold (hr.mono (by decide)) rfl pass0 (pa_cons (pv 3) pa_nil)))) (pss_one (ps_raiseX rfl tk X_InvalidRule (hr.mono (by decide)) rfl (pa_cons pe_int pa_nil))) pss_nil)
  (pss_cons (ps_if (pt_not (pt_val (pe_own C_can_stay (hr.mono (by decide)) rfl pass0 (pa_cons (pv 3) (pa_cons (pv 4) pa_nil))))) (pss_one (ps_raiseX rfl tk X_InvalidRule (hr.mono (by decide)) rfl (pa_cons pe_int pa_nil))) pss_nil)
  (pss_cons (ps_fld (pv 0) (pv 1) rfl)
  (pss_cons (ps_fld (pv 0) (pv 2) rfl)
  (pss_cons (ps_fld (pv 0) (pv 3) rfl)
  (pss_one (ps_fld (pv 0) (pv 4) rfl))))))))), ?_⟩
    refine z_start (σ' := [some _, some _, some _, some _, some _]) rfl ?_
    repeat walk_at "z"
    cases j with
    | j0 h =>
      refine hold_of h ?_
      repeat walk_at "z"
      exact z_raiseX (PuA.cons PuT.c .nil) fun d H' s n e => ke 0 rfl d H' s n e
    | j1 h t =>
      refine hold_of h ?_
      repeat walk_at "z"
      refine stay_of t ?_
      repeat walk_at "z"
      exact z_raiseX (PuA.cons PuT.c .nil) fun d H' s n e => ke 1 rfl d H' s n e
    | j2 o h =>
      refine hold_of o.holdJ ?_
      repeat walk_at "z"
      refine stay_of o.stayJ ?_
      repeat walk_at "z"
      refine hold_of h ?_
      repeat walk_at "z"
      exact z_raiseX (PuA.cons PuT.c .nil) fun d H' s n e => ke 2 rfl d H' s n e
    | j3 o h t =>
      refine hold_of o.holdJ ?_
      repeat walk_at "z"
      refine stay_of o.stayJ ?_
      repeat walk_at "z"
      refine hold_of h ?_
      repeat walk_at "z"
      refine stay_of t ?_
      repeat walk_at "z"
      exact z_raiseX (PuA.cons PuT.c .nil) fun d H' s n e => ke 3 rfl d H' s n e
    | ok o o2 =>
      refine hold_of o.holdJ ?_
      repeat walk_at "z"
      refine stay_of o.stayJ ?_
      repeat walk_at "z"
      refine hold_of o2.holdJ ?_
      repeat walk_at "z"
      refine stay_of o2.stayJ ?_
      repeat walk_at "z"
      refine ⟨_, rfl, _, _, _, _, rfl, hx, T.l_Rule, T.n_Rule_leaf, by show 0 < 1000; decide, ?_⟩
      repeat walk_at "z"
      refine ⟨_, rfl, _, _, _, _, rfl, upd_same, T.l_Rule, T.n_Rule_leaf_stays, by show 1 < 1000; decide, ?_⟩
      repeat walk_at "z"
      refine ⟨_, rfl, _, _, _, _, rfl, upd_same, T.l_Rule, T.n_Rule_inner, by show 2 < 1000; decide, ?_⟩
      repeat walk_at "z"
      refine ⟨_, rfl, _, _, _, _, rfl, upd_same, T.l_Rule, T.n_Rule_inner_stays, by show 3 < 1000; decide, ?_⟩
      repeat walk_at "z"
      rw [upd_upd, upd_upd, upd_upd]
      exact k rfl
def spWound (K : PySem.W.Frag) : Sp := fun vs H Q _ => ∃ (a : Addr) (ns : List Int) (k : Nat), vs = [.ref a, .int k] ∧ SqL K H a (ns.map V.int) ∧ k < 1000 ∧ ∀ (p : Addr) (x c : Int), 0 ≤ c → c < 2 ^ 140 → H p = none → Q (.ref p) (upd H p (.lst [.int x, .int c, .int 0]))
theorem ok_wound (D : Def K mg "_law_wound" s_law_wound) (T : Txt K mg) : CallOk P w K mg base CX0 1 "_law_wound" ["script", "k"] (spWound K) := by
  refine def_ok D sc_law_wound (fun vs H Q E h => ?_) (fun _ _ _ _ _ _ us hl => match us, hl with | [_, _], _ => rfl) (fun fa cdv A outer s H vs Q E hr h => ?_)
  · obtain ⟨a, ns, k, rfl, _⟩ := h
    rfl
  · obtain ⟨a, ns, j, rfl, hS, hj, k⟩ := h
    refine ⟨_, (pss_cons (ps_set (i := 2) sc_law_wound.nd rfl (Or.inl rfl) pe_int)
  (pss_cons (ps_if (pt_cmpR op_lt (pv 1) (pe_callB cLen (by rfl) T.len PySem.boot_len (pa_cons (pv 0) pa_nil)) (nomark _)) (pss_one (ps_set (i := 2) sc_law_wound.nd rfl (Or.inl rfl) (pe_ix ix_list (pv 0) (pv 1) (fun _ _ => rfl)))) pss_nil)
  (pss_one (ps_ret (pe_lst (pa_cons (pe_callB (cMax rfl) (by rfl) T.max (by decide +kernel) (pa_cons pe_int (pa_cons (pe_op op_sub (pv 2) (pe_op op_pow pe_int pe_int)) pa_nil))) (pa_cons (pe_op op_add (pe_op op_add (pe_op op_mul (pe_op op_mod (pe_callTy cInt (by rfl) T.int (by decide +kernel) (pa_cons (pv 2) pa_nil)) (pe_op op_add (pe_op op_pow pe_int pe_int) pe_int)) pe_int) (pe_op op_mul pe_int (pv 1))) pe_int) (pa_cons pe_int pa_nil)))))))), ?_⟩
    refine z_start (σ' := [some _, some _, none]) rfl ?_
    repeat walk_at "z"
    refine z_len hS ?_
    repeat walk_at "z"
    refine ite2 ?ha ?hb
    case' ha =>
      intro h1
      have h2 : j < ns.length := by
        have := of_decide_eq_true h1
        rw [List.length_map] at this
        omega
      repeat walk_at "z"
      refine z_ixL (v := .int ns[j]) hS (atI_nat (j := j) (by rw [List.getElem?_map, List.getElem?_eq_getElem h2]; rfl)) ?_
    case' hb => intro h1
    all_goals
      repeat walk_at "z"
      refine z_I (z_pow (by decide) (by decide) (by decide)) ?_
      repeat walk_at "z"
      refine z_I (z_pow (by decide) (by decide) (by decide)) ?_
      repeat walk_at "z"
      refine z_modG (by decide) fun r h0 h3 => ?_
      repeat walk_at "z"
      refine z_I (C := CMul) (.inr ⟨by decide, by decide⟩) ?_
      repeat walk_at "z"
      refine z_I (C := CMul) (.inl ⟨by decide, by decide⟩) ?_
      repeat walk_at "z"
      refine ⟨by show 3 ≤ sizeLine; decide, fun p hp => k p _ _ ?_ ?_ hp⟩
      · omega
      · have e : (10 : Int) ^ Int.toNat 38 + 133 < 2 ^ 130 := by decide
        omega
def spSpin : Sp := fun vs H Q _ => ∃ (b : Addr) (x c t many : Int), vs = [.ref b, .int many] ∧ H b = some (.lst [.int x, .int c, .int t]) ∧ 0 ≤ c ∧ c < 2 ^ 140 ∧ 0 ≤ t ∧ t < 100000 ∧ 0 < many ∧ many.natAbs < 2 ^ 9000 ∧
  ∀ r z t' : Int, 0 ≤ r → r < many → t ≤ t' → t' ≤ t + 1 → Q (.int r) (upd H b (.lst [.int z, .int c, .int t']))
theorem ok_spin (D : Def K mg "_law_spin" s_law_spin) (T : Txt K mg) : CallOk P w K mg base CX0 1 "_law_spin" ["reel", "many"] spSpin := by
  refine def_ok D sc_law_spin (fun vs H Q E h => ?_) (fun _ _ _ _ _ _ us hl => match us, hl with | [_, _], _ => rfl) (fun fa cdv A outer s H vs Q E hr h => ?_)
  · obtain ⟨b, x, c, t, many, rfl, _⟩ := h
    rfl
  · obtain ⟨b, x, c, t, many, rfl, hb, hc0, hc1, ht0, ht1, hp, h9, k⟩ := h
    refine ⟨_, (pss_cons (ps_if (pt_cmpR op_gt (pe_ix ix_list (pv 0) pe_int (fun _ _ => rfl)) pe_int (nomark _)) (pss_cons (ps_set (i := 2) sc_law_spin.nd rfl (Or.inl rfl) (pe_op op_mod (pe_callTy cInt (by rfl) T.int (by decide +kernel) (pa_cons (pe_ix ix_list (pv 0) pe_int (fun _ _ => rfl)) pa_nil)) (pv 1)))
  (pss_cons (ps_asg (pe_op op_fdivW (pe_ix ix_list (pv 0) pe_int (fun _ _ => rfl)) (pv 1)) (pg_sub (pv 0) pe_int set_list))
  (pss_one (ps_ret (pv 2))))) pss_nil)
  (pss_cons (ps_asg (pe_op op_add (pe_ix ix_list (pv 0) pe_int (fun _ _ => rfl)) pe_int) (pg_sub (pv 0) pe_int set_list))
  (pss_cons (ps_set (i := 3) sc_law_spin.nd rfl (Or.inl rfl) (pe_op op_mod (pe_callTy cInt (by rfl) T.int (by decide +kernel) (pa_cons (pe_op op_powW (pe_op op_add (pe_ix ix_list (pv 0) pe_int (fun _ _ => rfl)) (pe_op op_mul pe_int (pe_ix ix_list (pv 0) pe_int (fun _ _ => rfl)))) pe_int) pa_nil)) (pe_op op_add (pe_op op_powW pe_int pe_int) pe_int)))
  (pss_cons (ps_set (i := 3) sc_law_spin.nd rfl (Or.inl rfl) (pe_op op_mod (pe_callTy cInt (by rfl) T.int (by decide +kernel) (pa_cons (pe_op op_powW (pe_op op_add (pv 3) (pe_op op_mul pe_int (pe_ix ix_list (pv 0) pe_int (fun _ _ => rfl)))) pe_int) pa_nil)) (pe_op op_add (pe_op op_powW pe_int pe_int) pe_int)))
  (pss_one (ps_ret (pe_op op_mod (pe_callTy cInt (by rfl) T.int (by decide +kernel) (pa_cons (pe_op op_fdiv (pv 3) pe_int) pa_nil)) (pv 1)))))))), ?_⟩
    refine z_start (σ' := [some _, some _, none, none]) rfl ?_
    repeat walk_at "z"
    refine z_ixL (SqL.of hb) rfl ?_
    repeat walk_at "z"
    refine ite2 (fun hx => ?_) (fun hx => ?_)
    · repeat walk_at "z"
      refine z_ixL (SqL.of hb) rfl ?_
      repeat walk_at "z"
      refine z_I hp ?_
      repeat walk_at "z"
      refine z_ixL (SqL.of hb) rfl ?_
      repeat walk_at "z"
      refine z_I (wide_div hp h9 (by decide) (by decide)) ?_
      repeat walk_at "z"
      refine z_setL hb rfl ?_
      repeat walk_at "z"
      exact k _ _ _ (Int.emod_nonneg _ (by omega)) (Int.emod_lt_of_pos _ hp) (by omega) (by omega)
    · repeat walk_at "z"
      refine z_ixL (SqL.of hb) rfl ?_
      repeat walk_at "z"
      refine z_setL hb rfl ?_
      have hb1 : (upd H b (.lst [.int x, .int c, .int (t + 1)])) b = some (.lst [.int x, .int c, .int (t + 1)]) := upd_same
      repeat walk_at "z"
      refine z_ixL (SqL.of hb1) rfl ?_
      repeat walk_at "z"
      refine z_ixL (SqL.of hb1) rfl ?_
      repeat walk_at "z"
      refine z_I (C := CMul) (.inl ⟨by decide, by decide⟩) ?_
      repeat walk_at "z"
      refine z_I (C := CPowW) (powW_of (b := 141) (by decide) (by omega) (by decide) (by decide)) ?_
      repeat walk_at "z"
      refine z_I (C := CPowW) (powW_of (b := 4) (by decide) (by decide) (by decide) (by decide)) ?_
      repeat walk_at "z"
      refine z_modG (by decide) fun r1 h1 h1' => ?_
      have e1 : (10 : Int) ^ Int.toNat 42 + 63 < 2 ^ 140 := by decide
      repeat walk_at "z"
      refine z_ixL (SqL.of hb1) rfl ?_
      repeat walk_at "z"
      refine z_I (C := CMul) (.inl ⟨by decide, by decide⟩) ?_
      repeat walk_at "z"
      refine z_I (C := CPowW) (powW_of (b := 141) (by decide) (by omega) (by decide) (by decide)) ?_
      repeat walk_at "z"
      refine z_I (C := CPowW) (powW_of (b := 4) (by decide) (by decide) (by decide) (by decide)) ?_
      repeat walk_at "z"
      refine z_modG (by decide) fun r2 h2 h2' => ?_
      repeat walk_at "z"
      refine z_I (C := CDiv) ⟨by decide, by decide⟩ ?_
      repeat walk_at "z"
      refine z_modG hp fun r3 h3 h3' => ?_
      exact k _ _ _ h3 h3' (by omega) (by omega)
/-- so many numbers as turns of a rule have given -/
def Turns (wide : Int) : Nat → List Int → Prop
  | 0, xs => xs = []
  | n + 1, xs => ∃ ys m a, xs = ys ++ [m, a] ∧ Turns wide n ys ∧ Ok2 m a ∧ m < 3 + wide
theorem Turns.len {wide : Int} : ∀ {n : Nat} {xs : List Int}, Turns wide n xs → xs.length = 2 * n
  | 0, _, h => by rw [show _ = [] from h]; rfl
  | n + 1, _, h => by
    obtain ⟨ys, m, a, rfl, h, _⟩ := h
    rw [List.length_append, h.len]
    rfl
def spRule : Sp := fun vs H Q _ => ∃ (b : Addr) (x c t wide : Int), vs = [.ref b, .int wide] ∧ H b = some (.lst [.int x, .int c, .int t]) ∧ 0 ≤ c ∧ c < 2 ^ 140 ∧ 0 ≤ t ∧ t < 90000 ∧ 1 ≤ wide ∧ wide ≤ 999999999999999999999999999998 ∧
  ∀ (q : Addr) (H' : Hp) (m a f p z t' : Int), SameBut b H H' → H q = none → q ≠ b → H' q = some (.lst [.int m, .int a, .int f, .int p]) → H' b = some (.lst [.int z, .int c, .int t']) → t ≤ t' → t' ≤ t + 4 → Ok2 m a → Ok2 f p → m < 3 + wide → f < 3 + wide → Q (.ref q) H'
theorem ok_rule (D : Def K mg "_law_rule" s_law_rule) (T : Txt K mg) (C_law_spin : CallOk P w K mg base CX0 1 "_law_spin" ["reel", "many"] spSpin) : CallOk P w K mg base CX0 2 "_law_rule" ["reel", "wide"] spRule := by
  refine def_ok0 D sc_law_rule (fun vs H Q E h => ?_) (fun _ _ _ _ _ _ us hl => match us, hl with | [_, _], _ => rfl) (fun fa cdv A outer s H vs Q E hr h => ?_)
  · obtain ⟨b, x, c, t, wide, rfl, _⟩ := h
    rfl
  · obtain ⟨b, x, c, t, wide, rfl, hb, hc0, hc1, ht0, ht1, hw1, hw2, k⟩ := h
    refine ⟨_, (pss_cons (ps_set (i := 2) sc_law_rule.nd rfl (Or.inl rfl) (pe_lst pa_nil))
  (pss_cons (ps_for PassesOwn.never rfl (pi_range1 rfl T.range (pa_cons pe_int pa_nil)) (pg_name (i := 3) sc_law_rule.nd rfl (Or.inl rfl)) (pss_cons (ps_set (i := 4) sc_law_rule.nd rfl (Or.inl rfl) (pe_op op_add pe_int (pe_own C_law_spin (hr.mono (by decide)) rfl pass0 (pa_cons (pv 0) (pa_cons (pv 1) pa_nil)))))
  (pss_cons (ps_set (i := 5) sc_law_rule.nd rfl (Or.inl rfl) (pe_callB (cMax rfl) (by rfl) T.max (by decide +kernel) (pa_cons pe_int (pa_cons (pe_op op_sub pe_int (pe_op op_fdiv (pe_op op_sub (pe_op op_sub pe_int (pv 4)) pe_int) pe_int)) pa_nil))))
  (pss_one (ps_set (i := 2) sc_law_rule.nd rfl (Or.inl rfl) (pe_op op_cat (pv 2) (pe_lst (pa_cons (pv 4) (pa_cons (pe_op op_add (pv 5) (pe_own C_law_spin (hr.mono (by decide)) rfl pass0 (pa_cons (pv 0) (pa_cons (pe_op op_sub (pe_op op_add (pv 4) pe_int) (pe_op op_mul pe_int (pv 5))) pa_nil)))) pa_nil)))))))))
  (pss_one (ps_ret (pv 2))))), ?_⟩
    refine z_start (σ' := [some _, some _, none, none, none, none]) rfl ?_
    repeat walk_at "z"
    refine ⟨by show 0 ≤ sizeLine; decide, fun p0 hp0 => ?_⟩
    repeat walk_at "z"
    refine ⟨2, rfl, by decide, by decide, for_range (lo := 0) (n := 2) (fun i σ H' => ∃ (x' t' : Int) (q : Addr) (xs : List Int) (v3 v4 v5 : Option V), σ = [some (.ref b), some (.int wide), some (.ref q), v3, v4, v5] ∧ SameBut b H H' ∧ H q = none ∧ q ≠ b ∧ H' q = some (.lst (xs.map V.int)) ∧
      H' b = some (.lst [.int x', .int c, .int t']) ∧ t ≤ t' ∧ t' ≤ t + 2 * (i : Int) ∧ Turns wide i xs)
      ⟨x, t, p0, [], _, _, _, rfl, .same (same_new (Same.refl H) hp0), hp0, (fun e => by rw [e, hb] at hp0; cases hp0), upd_same, by rw [upd_ne (ne_of_none hb hp0)]; exact hb, by omega, by omega, rfl⟩ ?_ ?_⟩
    · rintro turn σ H1 hturn ⟨x1, t1, q1, xs, v3, v4, v5, rfl, s1, n1, d1, hq1, hb1, l1, l2, tu⟩
      repeat walk_at "z"
      refine ⟨b, x1, c, t1, wide, rfl, hb1, hc0, hc1, by omega, by omega, by omega, by omega, fun r z2 t2 hr0 hr1 l3 l4 => ?_⟩
      repeat walk_at "z"
      refine z_I (C := CDiv) ⟨by decide, by decide⟩ ?_
      repeat walk_at "z"
      generalize hl : (if 0 - (0 - (3 + r) - 1) / 4 > 2 then 0 - (0 - (3 + r) - 1) / 4 else 2 : Int) = least
      have hl1 : 2 ≤ least ∧ 3 + r + 1 ≤ 4 * least ∧ 2 * least ≤ 3 + r + 1 := by
        rw [← hl]
        split <;> omega
      refine z_I (C := CMul) (.inl ⟨by decide, by decide⟩) ?_
      repeat walk_at "z"
      refine ⟨b, z2, c, t2, _, rfl, upd_same, hc0, hc1, by omega, by omega, by omega, by omega, fun r2 z3 t3 h20 h21 l5 l6 => ?_⟩
      repeat walk_at "z"
      rw [upd_upd]
      refine ⟨by show 2 ≤ sizeLine; decide, fun p2 hp2 => ?_⟩
      have hb2 : upd H1 b (.lst [.int z3, .int c, .int t3]) b = some (.lst [.int z3, .int c, .int t3]) := upd_same
      have hq2 : upd H1 b (.lst [.int z3, .int c, .int t3]) q1 = some (.lst (xs.map V.int)) := by rw [upd_ne d1]; exact hq1
      have s2 := (s1.trans (SameBut.upd (o := .lst [.int z3, .int c, .int t3])))
      have sm2 := same_new (o := .lst [.int (3 + r), .int (least + r2)]) (Same.refl _) hp2
      refine ⟨q1, p2, _, _, rfl, rfl, sm2 _ _ hq2, upd_same, ?_, fun p3 hp3 => ?_⟩
      · rw [List.length_map, tu.len]
        show 2 * turn + 2 ≤ sizeLine
        exact Nat.le_trans (by omega : 2 * turn + 2 ≤ 1000) (by decide)
      have sm3 := sm2.trans (same_new (o := .lst (xs.map V.int ++ [.int (3 + r), .int (least + r2)])) (Same.refl _) hp3)
      have n3 : p3 ≠ b := fun e => by
        rw [e, sm2 _ _ hb2] at hp3
        cases hp3
      repeat walk_at "z"
      refine ⟨z3, t3, p3, xs ++ [3 + r, least + r2], _, _, _, rfl, s2.trans (.same sm3), SameBut.free (s2.trans (.same sm2)) n3 hp3, n3, by rw [upd_same, List.map_append]; rfl, sm3 _ _ hb2, by omega, by omega, xs, _, _, rfl, tu, ⟨by omega, by omega, by omega, by omega, by omega, by omega⟩, by omega⟩
    · rintro σ H1 ⟨x1, t1, q1, xs, v3, v4, v5, rfl, s1, n1, d1, hq1, hb1, l1, l2, tu⟩
      obtain ⟨ys, f, p, rfl, ⟨zs, m, a, rfl, e0, o1, w1⟩, o2, w2⟩ := tu
      have e0' : zs = [] := e0
      subst e0'
      repeat walk_at "z"
      exact k q1 H1 m a f p x1 t1 s1 n1 d1 hq1 hb1 l1 (by omega) o1 o2 w1 w2
end
end K02
set_option Elab.async false
set_option linter.all false
set_option maxRecDepth 100000
set_option maxHeartbeats 4000000
namespace K02
open PySem PySem.Spec L2 Z
open PyProof.Rows hiding St
local macro_rules | `(tactic| walk_at "z") => `(tactic| first
  | with_reducible refine Z.z_seq ?_
  | with_reducible refine Z.z_asg ?_
  | with_reducible refine Z.z_op ?_
  | with_reducible refine Z.z_cons ?_
  | with_reducible refine Z.z_nil ?_
  | with_reducible refine Z.z_c ?_
  | ((with_reducible refine' Z.z_var ?e ?_); (case e => exact rfl))
  | ((with_reducible refine' Z.z_name ?e ?_); (case e => repeat constructor))
  | with_reducible refine Z.z_sub ?_
  | with_reducible refine Z.z_I0 ?_
  | with_reducible refine Z.z_eqI ?_
  | with_reducible refine Z.z_neI ?_
  | with_reducible refine Z.z_cb ?_
  | with_reducible refine Z.z_int1 ?_
  | with_reducible refine Z.z_max2 ?_
  | with_reducible refine Z.z_min2 ?_
  | with_reducible refine Z.z_call ?_
  | with_reducible refine Z.z_test ?_
  | with_reducible refine Z.z_B ?_
  | with_reducible refine Z.z_ex _ ?_
  | with_reducible refine Z.z_and ?_
  | with_reducible refine Z.z_or ?_
  | with_reducible refine Z.z_not ?_
  | with_reducible refine Z.z_andV ?_
  | with_reducible refine Z.z_orV ?_
  | with_reducible refine Z.z_notV ?_
  | with_reducible refine Z.z_ifE ?_
  | with_reducible refine Z.z_chain ?_
  | with_reducible refine Z.z_if ?_
  | with_reducible refine Z.z_ret ?_
  | with_reducible refine Z.z_retN ?_
  | with_reducible refine Z.z_next ?_
  | with_reducible refine Z.z_brk ?_
  | with_reducible refine Z.z_cont ?_
  | with_reducible refine Z.z_drop ?_
  | with_reducible refine Z.z_un ?_
  | with_reducible refine Z.z_U ?_
  | with_reducible refine Z.z_lst ?_
  | with_reducible refine Z.z_tup ?_
  | with_reducible refine Z.z_par ?_
  | ((with_reducible refine' Z.z_par2 ?e1 ?e2 ?_); (case e1 => repeat constructor); (case e2 => repeat constructor))
  | with_reducible refine Z.z_iteT ?_
  | with_reducible refine Z.z_iteF ?_)
local macro_rules | `(tactic| walk_at "z") => `(tactic| first
  | with_reducible refine Z.z_iteNT ?_
  | with_reducible refine Z.z_iteNF ?_
  | with_reducible refine Z.z_sfld ?_)
local macro_rules | `(tactic| walk_at "z") => `(tactic| first
  | with_reducible refine Z.z_iTup ?_
  | with_reducible refine Z.z_iList ?_
  | with_reducible refine Z.z_lc ?_)
local macro_rules | `(tactic| walk_at "z") => `(tactic| first
  | with_reducible refine Z.z_expr ?_
  | with_reducible refine Z.z_dnew ?_)
local macro_rules | `(tactic| walk_at "z") => `(tactic| first
  | with_reducible refine Z.z_sl ?_
  | with_reducible refine Z.z_noPart ?_
  | with_reducible refine Z.z_part ?_
  | with_reducible refine Z.z_partI ?_)

section
variable {P : Program} {w w2 : World} {K : PySem.W.Frag} {mg : Str → Option Value} {base : Heap}
structure Xc (K : PySem.W.Frag) : Prop where
  cA : exA K = true
  cB : exB K = true
theorem Xc.ex (c : Xc K) {x : Str} (h : x ∈ kinds.map (·.2)) : ExcC K (He.ga K x) := exc_ok c.cA x ((by decide +kernel : ∀ y ∈ kinds.map (·.2), y ∈ excs) x h)
theorem Xc.is_ (c : Xc K) {x : Str} (h : x ∈ kinds.map (·.2)) : isB K x = true := by
  obtain ⟨q, hq, e⟩ := List.mem_map.mp h
  rw [← e]
  exact List.all_eq_true.mp (He.ba c.cB).2 q hq
theorem Xc.one (c : Xc K) {x y : Str} (h : x ∈ kinds.map (·.2)) (hy : y ∈ kinds.map (·.2)) : PySem.W.kitOne K (.ref (He.ga K x)) (.ref (He.ga K y)) = some (decide (x = y)) := by
  obtain ⟨q, hq, e⟩ := List.mem_map.mp hy
  rw [← e]
  exact of_decide_eq_true (List.all_eq_true.mp (He.ba (He.ba (c.is_ h)).2).2 q hq)
theorem Xc.ve (c : Xc K) {x : Str} (h : x ∈ kinds.map (·.2)) : PySem.W.kitOne K (.ref (He.ga K x)) (.type "ValueError") = some true := of_decide_eq_true (He.ba (c.is_ h)).1
theorem Xc.pe (c : Xc K) {x : Str} (h : x ∈ kinds.map (·.2)) : PySem.W.exmOne K (.ref (He.ga K x)) (.ref (He.ga K "PageError")) = some true := of_decide_eq_true (He.ba (He.ba (c.is_ h)).2).1
def keys (x : Str) : List (Str × Bool) := kinds.map fun q => (q.1, decide (x = q.2))
def spKinds (K : PySem.W.Frag) : Sp := fun vs H Q _ => ∃ (a : Addr) (x : Str) (f : Option (Str × V)), vs = [.ref a] ∧ x ∈ kinds.map (·.2) ∧ Caught H a (He.ga K x) f ∧ ∀ p es H', Same H H' → H p = none → H' p = some (.lst es) → Twos H' es (keys x) → Q (.ref p) H'
theorem ok_kinds (D : Def K mg "_law_kinds" s_law_kinds) (T : Txt K mg) (c : Xc K) : CallOk P w K mg base CX0 1 "_law_kinds" ["e"] (spKinds K) := by
  refine def_ok D sc_law_kinds (fun vs H Q E h => ?_) (fun _ _ _ _ _ _ us hl => match us, hl with | [_], _ => rfl) (fun fa cdv A outer s H vs Q E hr h => ?_)
  · obtain ⟨a, x, f, rfl, _⟩ := h
    rfl
  · obtain ⟨a, x, f, rfl, hx, ea, k⟩ := h
    refine ⟨_, (pss_cons (ps_set (i := 1) sc_law_kinds.nd rfl (Or.inl rfl) (pe_lst (pa_cons (pe_tup (pa_cons pe_str (pa_cons (pe_callB call_isC (by rfl) T.isinstance (by decide +kernel) (pa_cons (pv 0) (pa_cons (pe_glob (v := .ref _) rfl T.c_InvalidRule rfl) pa_nil))) pa_nil))) (pa_cons (pe_tup (pa_cons pe_str (pa_cons (pe_callB call_isC (by rfl) T.isinstance (by decide +kernel) (pa_cons (pv 0) (pa_cons (pe_glob (v := .ref _) rfl T.c_InvalidLevels rfl) pa_nil))) pa_nil))) pa_nil))))
  (pss_cons (ps_set (i := 1) sc_law_kinds.nd rfl (Or.inl rfl) (pe_op op_cat (pv 1) (pe_lst (pa_cons (pe_tup (pa_cons pe_str (pa_cons (pe_callB call_isC (by rfl) T.isinstance (by decide +kernel) (pa_cons (pv 0) (pa_cons (pe_glob (v := .ref _) rfl T.c_InvalidScript rfl) pa_nil))) pa_nil))) (pa_cons (pe_tup (pa_cons pe_str (pa_cons (pe_callB call_isC (by rfl) T.isinstance (by decide +kernel) (pa_cons (pv 0) (pa_cons (pe_glob (v := .ref _) rfl T.c_InvalidRuns rfl) pa_nil))) pa_nil))) pa_nil)))))
  (pss_cons (ps_set (i := 1) sc_law_kinds.nd rfl (Or.inl rfl) (pe_op op_cat (pv 1) (pe_lst (pa_cons (pe_tup (pa_cons pe_str (pa_cons (pe_callB call_isC (by rfl) T.isinstance (by decide +kernel) (pa_cons (pv 0) (pa_cons (pe_glob (v := .ref _) rfl T.c_InvalidSeen rfl) pa_nil))) pa_nil))) (pa_cons (pe_tup (pa_cons pe_str (pa_cons (pe_callB call_isC (by rfl) T.isinstance (by decide +kernel) (pa_cons (pv 0) (pa_cons (pe_glob (v := .ref _) rfl T.c_InvalidText rfl) pa_nil))) pa_nil))) pa_nil)))))
  (pss_cons (ps_set (i := 1) sc_law_kinds.nd rfl (Or.inl rfl) (pe_op op_cat (pv 1) (pe_lst (pa_cons (pe_tup (pa_cons pe_str (pa_cons (pe_callB call_isC (by rfl) T.isinstance (by decide +kernel) (pa_cons (pv 0) (pa_cons (pe_glob (v := .ref _) rfl T.c_OverBudget rfl) pa_nil))) pa_nil))) (pa_cons (pe_tup (pa_cons pe_str (pa_cons (pe_callB call_isC (by rfl) T.isinstance (by decide +kernel) (pa_cons (pv 0) (pa_cons (pe_glob (v := .ref _) rfl T.c_InvalidIndex rfl) pa_nil))) pa_nil))) pa_nil)))))
  (pss_cons (ps_set (i := 1) sc_law_kinds.nd rfl (Or.inl rfl) (pe_op op_cat (pv 1) (pe_lst (pa_cons (pe_tup (pa_cons pe_str (pa_cons (pe_callB call_isC (by rfl) T.isinstance (by decide +kernel) (pa_cons (pv 0) (pa_cons (pe_glob (v := .ref _) rfl T.c_InvalidKind rfl) pa_nil))) pa_nil))) (pa_cons (pe_tup (pa_cons pe_str (pa_cons (pe_callB call_isC (by rfl) T.isinstance (by decide +kernel) (pa_cons (pv 0) (pa_cons (pe_glob (v := .ref _) rfl T.c_InvalidGap rfl) pa_nil))) pa_nil))) pa_nil)))))
  (pss_cons (ps_set (i := 1) sc_law_kinds.nd rfl (Or.inl rfl) (pe_op op_cat (pv 1) (pe_lst (pa_cons (pe_tup (pa_cons pe_str (pa_cons (pe_callB call_isC (by rfl) T.isinstance (by decide +kernel) (pa_cons (pv 0) (pa_cons (pe_glob (v := .ref _) rfl T.c_InvalidNumber rfl) pa_nil))) pa_nil))) (pa_cons (pe_tup (pa_cons pe_str (pa_cons (pe_callB call_isC (by rfl) T.isinstance (by decide +kernel) (pa_cons (pv 0) (pa_cons (pe_glob (v := .ref _) rfl T.c_InvalidLevel rfl) pa_nil))) pa_nil))) pa_nil)))))
  (pss_cons (ps_set (i := 1) sc_law_kinds.nd rfl (Or.inl rfl) (pe_op op_cat (pv 1) (pe_lst (pa_cons (pe_tup (pa_cons pe_str (pa_cons (pe_callB call_isC (by rfl) T.isinstance (by decide +kernel) (pa_cons (pv 0) (pa_cons (pe_glob (v := .ref _) rfl T.c_InvalidPage rfl) pa_nil))) pa_nil))) (pa_cons (pe_tup (pa_cons pe_str (pa_cons (pe_callB call_isC (by rfl) T.isinstance (by decide +kernel) (pa_cons (pv 0) (pa_cons (pe_glob (v := .ref _) rfl T.c_InvalidEntry rfl) pa_nil))) pa_nil))) pa_nil)))))
  (pss_cons (ps_set (i := 1) sc_law_kinds.nd rfl (Or.inl rfl) (pe_op op_cat (pv 1) (pe_lst (pa_cons (pe_tup (pa_cons pe_str (pa_cons (pe_callB call_isC (by rfl) T.isinstance (by decide +kernel) (pa_cons (pv 0) (pa_cons (pe_glob (v := .ref _) rfl T.c_InvalidLength rfl) pa_nil))) pa_nil))) (pa_cons (pe_tup (pa_cons pe_str (pa_cons (pe_callB call_isC (by rfl) T.isinstance (by decide +kernel) (pa_cons (pv 0) (pa_cons (pe_glob (v := .ref _) rfl T.c_InvalidHeight rfl) pa_nil))) pa_nil))) pa_nil)))))
  (pss_cons (ps_set (i := 1) sc_law_kinds.nd rfl (Or.inl rfl) (pe_op op_cat (pv 1) (pe_lst (pa_cons (pe_tup (pa_cons pe_str (pa_cons (pe_callB call_isC (by rfl) T.isinstance (by decide +kernel) (pa_cons (pv 0) (pa_cons (pe_glob (v := .ref _) rfl T.c_InvalidLeaves rfl) pa_nil))) pa_nil))) (pa_cons (pe_tup (pa_cons pe_str (pa_cons (pe_callB call_isC (by rfl) T.isinstance (by decide +kernel) (pa_cons (pv 0) (pa_cons (pe_glob (v := .ref _) rfl T.c_InvalidBudget rfl) pa_nil))) pa_nil))) pa_nil)))))
  (pss_cons (ps_set (i := 1) sc_law_kinds.nd rfl (Or.inl rfl) (pe_op op_cat (pv 1) (pe_lst (pa_cons (pe_tup (pa_cons pe_str (pa_cons (pe_callB call_isC (by rfl) T.isinstance (by decide +kernel) (pa_cons (pv 0) (pa_cons (pe_glob (v := .ref _) rfl T.c_UnlikeRules rfl) pa_nil))) pa_nil))) (pa_cons (pe_tup (pa_cons pe_str (pa_cons (pe_callB call_isC (by rfl) T.isinstance (by decide +kernel) (pa_cons (pv 0) (pa_cons (pe_glob (v := .ref _) rfl T.c_InvalidOperation rfl) pa_nil))) pa_nil))) pa_nil)))))
  (pss_one (ps_ret (pe_op op_cat (pv 1) (pe_lst (pa_cons (pe_tup (pa_cons pe_str (pa_cons (pe_callB call_isC (by rfl) T.isinstance (by decide +kernel) (pa_cons (pv 0) (pa_cons (pe_glob (v := .ref _) rfl T.c_Nothing rfl) pa_nil))) pa_nil))) (pa_cons (pe_tup (pa_cons pe_str (pa_cons (pe_callB call_isC (by rfl) T.isinstance (by decide +kernel) (pa_cons (pv 0) (pa_cons (pe_glob (v := .ref _) rfl T.c_InvalidCommand rfl) pa_nil))) pa_nil))) pa_nil)))))))))))))))), ?_⟩
    refine z_start (σ' := [some _, none]) rfl ?_
    have one : ∀ (y n : Str), y ∈ kinds.map (·.2) → ∀ (σ : L2.St) (H' : Hp), σ[0]? = some (some (V.ref a)) → Caught H' a (He.ga K x) f → TwT (tTup (tCons (tC (.str n)) (tCons (tCB (rIsC K) (tCons (tVar 0) (tCons (tC (.ref (He.ga K y))) tNil))) tNil))) σ H' (n, decide (x = y)) :=
      fun y n hy σ H' e0 ea' => tw_tup (PuA.cons PuT.c (PuA.cons (pu_isC (PuA.cons (PuT.var e0) (PuA.cons PuT.c .nil)) ea' (c.ex hx) (ClsV.own _) (c.one hx hy)) .nil))
    refine z_seq (z_asg (TwA.lst (TwA.cons (one "InvalidRule" "rule" (by decide +kernel) _ _ rfl ea) (TwA.cons (one "InvalidLevels" "levels" (by decide +kernel) _ _ rfl ea) .nil)) (Nat.le_of_ble_eq_true rfl) fun p0 e0 H0 s0 n0 h0 x0 => ?_))
    have ea0 := ea.mono s0
    walk_at "z"
    walk_at "z"
    refine z_asg (TwA.cat (TwA.cons (one "InvalidScript" "script" (by decide +kernel) _ _ rfl ea0) (TwA.cons (one "InvalidRuns" "runs" (by decide +kernel) _ _ rfl ea0) .nil)) (Nat.le_of_ble_eq_true rfl) rfl h0 x0 fun p2 e2 H2 s2 n2 h2 x2 => ?_)
    have s2 := Same.trans s0 s2
    have ea2 := ea.mono s2
    walk_at "z"
    walk_at "z"
    refine z_asg (TwA.cat (TwA.cons (one "InvalidSeen" "seen" (by decide +kernel) _ _ rfl ea2) (TwA.cons (one "InvalidText" "text" (by decide +kernel) _ _ rfl ea2) .nil)) (Nat.le_of_ble_eq_true rfl) rfl h2 x2 fun p4 e4 H4 s4 n4 h4 x4 => ?_)
    have s4 := Same.trans s2 s4
    have ea4 := ea.mono s4
    walk_at "z"
    walk_at "z"
    refine z_asg (TwA.cat (TwA.cons (one "OverBudget" "over" (by decide +kernel) _ _ rfl ea4) (TwA.cons (one "InvalidIndex" "index" (by decide +kernel) _ _ rfl ea4) .nil)) (Nat.le_of_ble_eq_true rfl) rfl h4 x4 fun p6 e6 H6 s6 n6 h6 x6 => ?_)
    have s6 := Same.trans s4 s6
    have ea6 := ea.mono s6
    walk_at "z"
    walk_at "z"
    refine z_asg (TwA.cat (TwA.cons (one "InvalidKind" "kind" (by decide +kernel) _ _ rfl ea6) (TwA.cons (one "InvalidGap" "gap" (by decide +kernel) _ _ rfl ea6) .nil)) (Nat.le_of_ble_eq_true rfl) rfl h6 x6 fun p8 e8 H8 s8 n8 h8 x8 => ?_)
    have s8 := Same.trans s6 s8
    have ea8 := ea.mono s8
    walk_at "z"
    walk_at "z"
    refine z_asg (TwA.cat (TwA.cons (one "InvalidNumber" "number" (by decide +kernel) _ _ rfl ea8) (TwA.cons (one "InvalidLevel" "level" (by decide +kernel) _ _ rfl ea8) .nil)) (Nat.le_of_ble_eq_true rfl) rfl h8 x8 fun p10 e10 H10 s10 n10 h10 x10 => ?_)
    have s10 := Same.trans s8 s10
    have ea10 := ea.mono s10
    walk_at "z"
    walk_at "z"
    refine z_asg (TwA.cat (TwA.cons (one "InvalidPage" "page" (by decide +kernel) _ _ rfl ea10) (TwA.cons (one "InvalidEntry" "entry" (by decide +kernel) _ _ rfl ea10) .nil)) (Nat.le_of_ble_eq_true rfl) rfl h10 x10 fun p12 e12 H12 s12 n12 h12 x12 => ?_)
    have s12 := Same.trans s10 s12
    have ea12 := ea.mono s12
    walk_at "z"
    walk_at "z"
    refine z_asg (TwA.cat (TwA.cons (one "InvalidLength" "length" (by decide +kernel) _ _ rfl ea12) (TwA.cons (one "InvalidHeight" "height" (by decide +kernel) _ _ rfl ea12) .nil)) (Nat.le_of_ble_eq_true rfl) rfl h12 x12 fun p14 e14 H14 s14 n14 h14 x14 => ?_)
    have s14 := Same.trans s12 s14
    have ea14 := ea.mono s14
    walk_at "z"
    walk_at "z"
    refine z_asg (TwA.cat (TwA.cons (one "InvalidLeaves" "leaves" (by decide +kernel) _ _ rfl ea14) (TwA.cons (one "InvalidBudget" "budget" (by decide +kernel) _ _ rfl ea14) .nil)) (Nat.le_of_ble_eq_true rfl) rfl h14 x14 fun p16 e16 H16 s16 n16 h16 x16 => ?_)
    have s16 := Same.trans s14 s16
    have ea16 := ea.mono s16
    walk_at "z"
    walk_at "z"
    refine z_asg (TwA.cat (TwA.cons (one "UnlikeRules" "unlike" (by decide +kernel) _ _ rfl ea16) (TwA.cons (one "InvalidOperation" "operation" (by decide +kernel) _ _ rfl ea16) .nil)) (Nat.le_of_ble_eq_true rfl) rfl h16 x16 fun p18 e18 H18 s18 n18 h18 x18 => ?_)
    have s18 := Same.trans s16 s18
    have ea18 := ea.mono s18
    walk_at "z"
    walk_at "z"
    refine TwA.cat (TwA.cons (one "Nothing" "nothing" (by decide +kernel) _ _ rfl ea18) (TwA.cons (one "InvalidCommand" "command" (by decide +kernel) _ _ rfl ea18) .nil)) (Nat.le_of_ble_eq_true rfl) rfl h18 x18 fun p20 e20 H20 s20 n20 h20 x20 => ?_
    have s20 := Same.trans s18 s20
    have ea20 := ea.mono s20
    exact k p20 e20 H20 s20 (s18.free n20) h20 x20
/-- the text of an error with its item -/
def tag (i : Int) : Str := ("rule" : Str) ++ (" " : Str) ++ (toString i : Str)
def spKind (K : PySem.W.Frag) : Sp := fun vs H Q _ => ∃ (a : Addr) (i : Int), vs = [.ref a] ∧ Caught H a (He.ga K "InvalidRule") (some ("item", .int i)) ∧ 0 ≤ i ∧ i < 1000 ∧ ∀ H', Same H H' → Q (.str (tag i)) H'
theorem ok_kind (D : Def K mg "_law_kind" s_law_kind) (T : Txt K mg) (c : Xc K) (no : PySem.W.findIn K (.ref (He.ga K "InvalidRule")) "item" = some none) (C_law_kinds : CallOk P w K mg base CX0 1 "_law_kinds" ["e"] (spKinds K)) : CallOk P w K mg base CX0 2 "_law_kind" ["e"] (spKind K) := by
  refine def_ok0 D sc_law_kind (fun vs H Q E h => ?_) (fun _ _ _ _ _ _ us hl => match us, hl with | [_], _ => rfl) (fun fa cdv A outer s H vs Q E hr h => ?_)
  · obtain ⟨a, i, rfl, _⟩ := h
    rfl
  · obtain ⟨a, i, rfl, ea, i0, i1, k⟩ := h
    have hx : ("InvalidRule" : Str) ∈ kinds.map (·.2) := by decide +kernel
    refine ⟨_, (pss_cons (ps_set (i := 1) sc_law_kind.nd rfl (Or.inl rfl) (pe_lst pa_nil))
  (pss_cons (ps_for PassesOwn.never rfl (pi_list (pe_own C_law_kinds (hr.mono (by decide)) rfl pass0 (pa_cons (pv 0) pa_nil))) (pg_tup (by rfl) (pgs_cons (pg_name (i := 2) sc_law_kind.nd rfl (Or.inl rfl)) (pgs_cons (pg_name (i := 3) sc_law_kind.nd rfl (Or.inl rfl)) pgs_nil))) (pss_one (ps_if (pt_val (pv 3)) (pss_one (ps_expr (pe_bm PySem.F.plainAttrs_list PySem.F.slot_list_append PySem.F.type_list_append mt_append (pv 1) (pa_cons (pv 2) pa_nil)))) pss_nil)))
  (pss_cons (ps_if (PW.pt (pw_or (pt_cmpR op_ne (pe_callB cLen (by rfl) T.len PySem.boot_len (pa_cons (pv 1) pa_nil)) pe_int (nomark _)) (pw_or1 (pt_not (pt_val (pe_callB call_isC (by rfl) T.isinstance (by decide +kernel) (pa_cons (pv 0) (pa_cons (pe_bltn (v := .ty "ValueError") rfl T.ValueError (by decide +kernel) rfl) pa_nil)))))))) (pss_one (ps_ret pe_str)) pss_nil)
  (pss_cons (ps_if (pt_cmpR op_in_seq (pe_ix ix_list (pv 1) pe_int (fun _ _ => rfl)) (pe_tup (pa_cons pe_str (pa_cons pe_str (pa_cons pe_str pa_nil)))) (by rfl)) (pss_one (ps_ret (pe_op op_add_str (pe_op op_add_str (pe_ix ix_list (pv 1) pe_int (fun _ _ => rfl)) pe_str) (pe_callB cReprI (by rfl) T.repr (by decide +kernel) (pa_cons (pe_xfC (pv 0)) pa_nil))))) pss_nil)
  (pss_cons (ps_if (pt_cmpR op_eq (pe_ix ix_list (pv 1) pe_int (fun _ _ => rfl)) pe_str (nomark _)) (pss_one (ps_ret (pe_op op_add_str pe_str (pe_callB cReprI (by rfl) T.repr (by decide +kernel) (pa_cons (pe_xfC (pv 0)) pa_nil))))) pss_nil)
  (pss_cons (ps_if (pt_cmpR op_eq (pe_ix ix_list (pv 1) pe_int (fun _ _ => rfl)) pe_str (nomark _)) (pss_one (ps_ret (pe_op op_add_str pe_str (pe_callB cReprI (by rfl) T.repr (by decide +kernel) (pa_cons (pe_xfC (pv 0)) pa_nil))))) pss_nil)
  (pss_cons (ps_if (pt_cmpR op_eq (pe_ix ix_list (pv 1) pe_int (fun _ _ => rfl)) pe_str (nomark _)) (pss_one (ps_ret (pe_op op_add_str pe_str (pe_callB cReprI (by rfl) T.repr (by decide +kernel) (pa_cons (pe_xfC (pv 0)) pa_nil))))) pss_nil)
  (pss_one (ps_ret (pe_op op_add_str (pe_ix ix_list (pv 1) pe_int (fun _ _ => rfl)) (pe_ifExp (pt_cmpR op_eq (pe_ix ix_list (pv 1) pe_int (fun _ _ => rfl)) pe_str (nomark _)) (pe_op op_add_str pe_str (pe_callB cReprI (by rfl) T.repr (by decide +kernel) (pa_cons (pe_xfC (pv 0)) pa_nil))) pe_str))))))))))), ?_⟩
    refine z_start (σ' := [some _, none, none, none]) rfl ?_
    repeat walk_at "z"
    refine ⟨by show 0 ≤ sizeLine; decide, fun p0 hp0 => ?_⟩
    have s0 := same_new (o := .lst []) (Same.refl H) hp0
    repeat walk_at "z"
    refine z_for ?_
    repeat walk_at "z"
    refine ⟨a, "InvalidRule", _, rfl, hx, ea.mono s0, fun p es H1 s1 n1 h1 tw => ?_⟩
    have ep : p0 ≠ p := fun e => by rw [← e, upd_same] at n1; cases n1
    have hlen : es.length = 22 := Paired.length tw
    refine ⟨p, rfl, ⟨_, SqL.of h1⟩, for_it (walk_list (xs := es)) (fun j σ H' => ∃ (v2 v3 : Option V), σ = [some (.ref a), some (.ref p0), v2, v3] ∧ (∀ b o, b ≠ p0 → H1 b = some o → H' b = some o) ∧ Same H H' ∧ H' p0 = some (.lst (if j = 0 then [] else [.str "rule"])))
      ⟨_, _, rfl, fun _ _ _ e => e, s0.trans s1, s1 _ _ upd_same⟩ (fun j σ H' _ ⟨_, _, _, h, _⟩ => SqL.of (h _ _ (fun e => ep e.symm) h1)) ?_ ?_⟩
    · rintro j e σ H2 H3 hj ⟨v2, v3, rfl, sb, s2, hp⟩ ⟨rfl, he⟩
      obtain ⟨q, hq, t, rfl, ht⟩ := paired_get tw he
      have nt : t ≠ p0 := fun e => by
        have z := s1 p0 _ (upd_same (H := H) (a := p0) (o := .lst []))
        rw [← e, ht] at z
        cases z
      have ht2 := sb _ _ nt ht
      refine ⟨t, _, rfl, SqT.of ht2, rfl, _, _, rfl, ?_⟩
      walk_at "z"
      refine ⟨_, _, rfl, ?_⟩
      walk_at "z"
      refine ⟨rfl, ?_⟩
      repeat walk_at "z"
      have hq2 : (keys "InvalidRule")[j]? = some q := hq
      rcases Nat.eq_zero_or_pos j with j0 | j0
      · subst j0
        have e1 : q = (("rule" : Str), true) := by
          rw [show (keys "InvalidRule")[0]? = some (("rule" : Str), true) from by decide +kernel] at hq2
          exact (Option.some.inj hq2).symm
        subst e1
        rw [if_pos rfl] at hp
        repeat walk_at "z"
        refine ⟨_, rfl, .inl ⟨rfl, _, SqL.of hp⟩, ?_⟩
        repeat walk_at "z"
        refine ⟨p0, _, _, rfl, rfl, hp, by show 0 < sizeLine; decide, ?_⟩
        exact ⟨_, _, rfl, fun b o nb e => by rw [upd_ne nb]; exact sb b o nb e, fun b o e => by rw [upd_ne (ne_of_none e hp0)]; exact s2 b o e, upd_same⟩
      · have e1 : q.2 = false := by
          have z : ∀ j < 22, 0 < j → ((keys "InvalidRule")[j]?.map (·.2)) = some false := by decide +kernel
          have y := z j (by omega) j0
          rw [hq2] at y
          exact Option.some.inj y
        rw [e1]
        repeat walk_at "z"
        refine ⟨_, _, rfl, sb, s2, ?_⟩
        rw [if_neg (by omega)] at hp ⊢
        exact hp
    · rintro σ H2 ⟨v2, v3, rfl, sb, s2, hp⟩
      rw [hlen, if_neg (by decide)] at hp
      repeat walk_at "z"
      refine z_len (SqL.of hp) ?_
      repeat walk_at "z"
      refine iteF ?_
      repeat walk_at "z"
      refine z_isC (ea.mono s2) (c.ex hx) (ClsV.ty _) (c.ve hx) ?_
      repeat walk_at "z"
      refine z_ixL (SqL.of hp) rfl ?_
      repeat walk_at "z"
      refine ⟨by show 3 ≤ sizeLine; decide, fun p4 hp4 => ?_⟩
      have s4 := same_new (o := .tup [.str "rule", .str "runs", .str "seen"]) (Same.refl H2) hp4
      refine ⟨p4, _, rfl, .inr (SqT.of upd_same), rfl, by decide +kernel, ?_⟩
      rw [show (if false = true then !inV (V.str "rule") [V.str "rule", V.str "runs", V.str "seen"] else inV (V.str "rule") [V.str "rule", V.str "runs", V.str "seen"]) = true from by decide +kernel]
      repeat walk_at "z"
      refine z_ixL (SqL.of (s4 _ _ hp)) rfl ?_
      repeat walk_at "z"
      refine ⟨_, _, rfl, rfl, by decide +kernel, ?_⟩
      repeat walk_at "z"
      refine ⟨_, rfl, a, _, _, rfl, (ea.mono s2).mono s4, xf_of (c.ex hx), no, ?_⟩
      repeat walk_at "z"
      have hl : i.natAbs.log2 < 1920 := by
        rcases Nat.eq_zero_or_pos i.natAbs with e | e
        · rw [e]; decide
        · exact (Nat.log2_lt (by omega)).mpr (Nat.lt_of_lt_of_le (by omega : i.natAbs < 1000) (by decide +kernel))
      refine ⟨i, rfl, hl, ?_⟩
      refine ⟨_, _, rfl, rfl, ?_, k _ (s2.trans s4)⟩
      have z := int_text_length_le (k := 1920) (by decide) hl
      have e : (Str.ofString (toString i)).length = (toString i).length := PySem.ofString_length _
      have e5 : (("rule" : Str) ++ (" " : Str)).length = 5 := by decide +kernel
      have hs : sizeLine = 16777216 := sizeLine_eq
      rw [e5, e]
      omega
def rText (r : Option Nat) : Str := match r with
  | none => "fine"
  | some i => tag i
def spCalled (K : PySem.W.Frag) : Sp := fun vs H Q _ => ∃ l v1 v2 v3 v4 r, vs = [.ref l] ∧ H l = some (.lst [v1, v2, v3, v4]) ∧ Judge K H v1 v2 v3 v4 r ∧ ∀ H', Same H H' → Q (.str (rText r)) H'
theorem Judge.lt {H : Hp} {v1 v2 v3 v4 : V} {i : Nat} (h : Judge K H v1 v2 v3 v4 (some i)) : i < 4 := by
  cases h <;> decide
theorem ok_called (D : Def K mg "_law_called" s_law_called) (T : Txt K mg) (c : Xc K) (C_Rule : MakeX P w K mg base 4 "Rule" ["self", "leaf", "leaf_stays", "inner", "inner_stays"] (spInit K)) (C_law_kind : CallOk P w K mg base CX0 2 "_law_kind" ["e"] (spKind K)) : CallOk P w K mg base CX0 6 "_law_called" ["numbers"] (spCalled K) := by
  refine def_ok D sc_law_called (fun vs H Q E h => ?_) (fun _ _ _ _ _ _ us hl => match us, hl with | [_], _ => rfl) (fun fa cdv A outer s H vs Q E hr h => ?_)
  · obtain ⟨l, v1, v2, v3, v4, r, rfl, _⟩ := h
    rfl
  · obtain ⟨l, v1, v2, v3, v4, r, rfl, hl, j, k⟩ := h
    have hx : ("InvalidRule" : Str) ∈ kinds.map (·.2) := by decide +kernel
    refine ⟨_, (pss_cons (ps_set (i := 1) sc_law_called.nd rfl (Or.inl rfl) pe_non)
  (pss_cons (ps_tryK (c := .ref (He.ga K "PageError")) (i := 2) rfl rfl rfl sc_law_called.nd rfl rfl ⟨rfl, by decide, .inl T.c_PageError⟩
  (fun W pn xe tk => pss_one (ps_expr (pe_makeX (K := K) (n := 3) rfl rfl tk C_Rule (hr.mono (by decide)) rfl (pa_cons (pe_ix (ix_listK (K := K) rfl) (pv 0) pe_int (fun _ _ => rfl)) (pa_cons (pe_ix (ix_listK (K := K) rfl) (pv 0) pe_int (fun _ _ => rfl)) (pa_cons (pe_ix (ix_listK (K := K) rfl) (pv 0) pe_int (fun _ _ => rfl)) (pa_cons (pe_ix (ix_listK (K := K) rfl) (pv 0) pe_int (fun _ _ => rfl)) pa_nil)))))))
  (fun a oe pn => pss_one (ps_set (i := 1) sc_law_called.nd rfl (Or.inl rfl) (pv 2))))
  (pss_one (ps_ret (pe_ifExp (pt_cmpR op_isN (pv 1) pe_non (nomark _)) pe_str (pe_own C_law_kind (hr.mono (by decide)) rfl pass0 (pa_cons (pv 1) pa_nil))))))), ?_⟩
    refine z_start (σ' := [some _, none, none]) rfl ?_
    repeat walk_at "z"
    refine z_make (PuA.cons (pu_ix rfl hl rfl) (PuA.cons (pu_ix rfl hl rfl) (PuA.cons (pu_ix rfl hl rfl) (PuA.cons (pu_ix rfl hl rfl) .nil))) H (Same.refl H) _ ?_)
    intro x dx hx0 hd hne
    have s1 := same_new (o := .ins (RC K) dx []) (same_new (o := .own x) (Same.refl H) hd) (by rw [upd_ne (fun e => hne e.symm)]; exact hx0)
    refine ⟨x, dx, v1, v2, v3, v4, r, rfl, upd_same, j.mono s1, fun hr0 => ⟨rfl, ?_⟩, fun i hi d H2 s2 nd hd2 => ?_⟩
    · subst hr0
      rw [upd_upd]
      have s3 := same_new (o := .ins (RC K) dx (flds v1 v2 v3 v4)) (same_new (o := .own x) (Same.refl H) hd) (by rw [upd_ne (fun e => hne e.symm)]; exact hx0)
      repeat walk_at "z"
      refine ⟨rfl, ?_⟩
      rw [show decide (V.non = V.non) = true from rfl]
      repeat walk_at "z"
      exact k _ s3
    · subst hi
      intro τ hτ
      refine ⟨c.pe hx, fun a na => ?_⟩
      obtain ⟨x0, x1, x2, rfl⟩ : ∃ x0 x1 x2, τ = [x0, x1, x2] := match τ, hτ with
        | [x0, x1, x2], _ => ⟨x0, x1, x2, rfl⟩
      refine z_start (σ' := [x0, x1, some (.ref a)]) rfl ?_
      repeat walk_at "z"
      refine ⟨rfl, ?_⟩
      rw [show decide (V.ref a = V.non) = false from rfl]
      repeat walk_at "z"
      have sa := same_new (o := exz a (.ref (He.ga K "InvalidRule")) (some d)) (Same.refl H2) na
      have lt := j.lt
      exact ⟨a, _, rfl, ⟨d, upd_same, sa _ _ hd2⟩, by omega, by omega, fun H3 s3 => k H3 (s1.trans (s2.trans (sa.trans s3)))⟩
end
end K02
set_option Elab.async false
set_option linter.all false
set_option maxRecDepth 100000
set_option maxHeartbeats 4000000
namespace K02
open PySem PySem.Spec L2 Z
open PyProof.Rows hiding St
local macro_rules | `(tactic| walk_at "z") => `(tactic| first
  | with_reducible refine Z.z_seq ?_
  | with_reducible refine Z.z_asg ?_
  | with_reducible refine Z.z_op ?_
  | with_reducible refine Z.z_cons ?_
  | with_reducible refine Z.z_nil ?_
  | with_reducible refine Z.z_c ?_
  | ((with_reducible refine' Z.z_var ?e ?_); (case e => exact rfl))
  | ((with_reducible refine' Z.z_name ?e ?_); (case e => repeat constructor))
  | with_reducible refine Z.z_sub ?_
  | with_reducible refine Z.z_I0 ?_
  | with_reducible refine Z.z_eqI ?_
  | with_reducible refine Z.z_neI ?_
  | with_reducible refine Z.z_cb ?_
  | with_reducible refine Z.z_int1 ?_
  | with_reducible refine Z.z_max2 ?_
  | with_reducible refine Z.z_min2 ?_
  | with_reducible refine Z.z_call ?_
  | with_reducible refine Z.z_test ?_
  | with_reducible refine Z.z_B ?_
  | with_reducible refine Z.z_ex _ ?_
  | with_reducible refine Z.z_and ?_
  | with_reducible refine Z.z_or ?_
  | with_reducible refine Z.z_not ?_
  | with_reducible refine Z.z_andV ?_
  | with_reducible refine Z.z_orV ?_
  | with_reducible refine Z.z_notV ?_
  | with_reducible refine Z.z_ifE ?_
  | with_reducible refine Z.z_chain ?_
  | with_reducible refine Z.z_if ?_
  | with_reducible refine Z.z_ret ?_
  | with_reducible refine Z.z_retN ?_
  | with_reducible refine Z.z_next ?_
  | with_reducible refine Z.z_brk ?_
  | with_reducible refine Z.z_cont ?_
  | with_reducible refine Z.z_drop ?_
  | with_reducible refine Z.z_un ?_
  | with_reducible refine Z.z_U ?_
  | with_reducible refine Z.z_lst ?_
  | with_reducible refine Z.z_tup ?_
  | with_reducible refine Z.z_par ?_
  | ((with_reducible refine' Z.z_par2 ?e1 ?e2 ?_); (case e1 => repeat constructor); (case e2 => repeat constructor))
  | with_reducible refine Z.z_iteT ?_
  | with_reducible refine Z.z_iteF ?_)
local macro_rules | `(tactic| walk_at "z") => `(tactic| first
  | with_reducible refine Z.z_iteNT ?_
  | with_reducible refine Z.z_iteNF ?_
  | with_reducible refine Z.z_sfld ?_)
local macro_rules | `(tactic| walk_at "z") => `(tactic| first
  | with_reducible refine Z.z_iTup ?_
  | with_reducible refine Z.z_iList ?_
  | with_reducible refine Z.z_lc ?_)
local macro_rules | `(tactic| walk_at "z") => `(tactic| first
  | with_reducible refine Z.z_expr ?_
  | with_reducible refine Z.z_dnew ?_)
local macro_rules | `(tactic| walk_at "z") => `(tactic| first
  | with_reducible refine Z.z_sl ?_
  | with_reducible refine Z.z_noPart ?_
  | with_reducible refine Z.z_part ?_
  | with_reducible refine Z.z_partI ?_)

section
variable {P : Program} {w w2 : World} {K : PySem.W.Frag} {mg : Str → Option Value} {base : Heap}
theorem cut_set (v1 v2 v3 v4 v : V) : ∀ s : Nat, s < 4 → cutV [v1, v2, v3, v4] none (some (s : Int)) ++ [v] ++ cutV [v1, v2, v3, v4] (some ((s : Int) + 1)) none = [v1, v2, v3, v4].set s v
  | 0, _ => rfl
  | 1, _ => rfl
  | 2, _ => rfl
  | 3, _ => rfl
def spWith : Sp := fun vs H Q _ => ∃ (l : Addr) (s : Nat) (v v1 v2 v3 v4 : V), vs = [.ref l, .int s, v] ∧ s < 4 ∧ H l = some (.lst [v1, v2, v3, v4]) ∧ ∀ p H', Same H H' → H p = none → H' p = some (.lst ([v1, v2, v3, v4].set s v)) → Q (.ref p) H'
theorem ok_with (D : Def K mg "_law_with" s_law_with) (T : Txt K mg) : CallOk P w K mg base CX0 1 "_law_with" ["numbers", "spot", "value"] spWith := by
  refine def_ok D sc_law_with (fun vs H Q E h => ?_) (fun _ _ _ _ _ _ us hl => match us, hl with | [_, _, _], _ => rfl) (fun fa cdv A outer s H vs Q E hr h => ?_)
  · obtain ⟨l, s, v, v1, v2, v3, v4, rfl, _⟩ := h
    rfl
  · obtain ⟨l, s, v, v1, v2, v3, v4, rfl, hs, hl, k⟩ := h
    have sz : sizeLine = 16777216 := sizeLine_eq
    refine ⟨_, (pss_one (ps_ret (pe_op op_cat (pe_op op_cat (pe_slice sl_list (pv 0) po_none (po_some (pv 1))) (pe_lst (pa_cons (pv 2) pa_nil))) (pe_slice sl_list (pv 0) (po_some (pe_op op_add (pv 1) pe_int)) po_none)))), ?_⟩
    refine z_start (σ' := [some _, some _, some _]) rfl ?_
    repeat walk_at "z"
    refine ⟨l, _, rfl, SqL.of hl, fun p1 hp1 => ?_⟩
    have s1 := same_new (o := .lst (cutV [v1, v2, v3, v4] none (some (s : Int)))) (Same.refl H) hp1
    repeat walk_at "z"
    refine ⟨by show 1 ≤ sizeLine; omega, fun p2 hp2 => ?_⟩
    have s2 := same_new (o := .lst [v]) (Same.refl _) hp2
    have c1 := cutV_length [v1, v2, v3, v4] none (some (s : Int))
    have c2 := cutV_length [v1, v2, v3, v4] (some ((s : Int) + 1)) none
    have l4 : [v1, v2, v3, v4].length = 4 := rfl
    refine ⟨p1, p2, _, _, rfl, rfl, s2 _ _ upd_same, upd_same, by rw [show [v].length = 1 from rfl]; omega, fun p3 hp3 => ?_⟩
    have s3 := same_new (o := .lst (cutV [v1, v2, v3, v4] none (some (s : Int)) ++ [v])) (Same.refl _) hp3
    repeat walk_at "z"
    refine ⟨l, _, rfl, SqL.of (s3 _ _ (s2 _ _ (s1 _ _ hl))), fun p4 hp4 => ?_⟩
    have s4 := same_new (o := .lst (cutV [v1, v2, v3, v4] (some ((s : Int) + 1)) none)) (Same.refl _) hp4
    refine ⟨p3, p4, _, _, rfl, rfl, s4 _ _ upd_same, upd_same, by rw [List.length_append, show [v].length = 1 from rfl]; omega, fun p5 hp5 => ?_⟩
    have s14 := s1.trans (s2.trans (s3.trans s4))
    refine k p5 _ (same_new s14 hp5) (s14.free hp5) ?_
    rw [upd_same, cut_set v1 v2 v3 v4 v s hs]
theorem isI_ty {H : Hp} {x : V} (t : String) (b1 b2 : Bool) (ty : TyX K H x (.type t)) (h1 : kitB t "int" = some b1) (h2 : kitB t "bool" = some b2) (e : (b1 && !b2) = false) : isI K H x false := ⟨_, b1, b2, ty, kit_ty h1, kit_ty h2, e.symm⟩
theorem off_non {H : Hp} : isI K H .non false := isI_ty "NoneType" false false (.base .non) (by decide +kernel) (by decide +kernel) rfl
theorem off_bl {H : Hp} {b : Bool} : isI K H (.bl b) false := isI_ty "bool" true true (.base (.bl b)) (by decide +kernel) (by decide +kernel) rfl
theorem off_str {H : Hp} {z : Str} : isI K H (.str z) false := isI_ty "str" false false (.base (.str z)) (by decide +kernel) (by decide +kernel) rfl
theorem off_lst {H : Hp} {p : Addr} {xs : List V} (h : H p = some (.lst xs)) : isI K H (.ref p) false := isI_ty "list" false false (.base (.lst h)) (by decide +kernel) (by decide +kernel) rfl
theorem off_tup {H : Hp} {p : Addr} {xs : List V} (h : H p = some (.tup xs)) : isI K H (.ref p) false := isI_ty "tuple" false false (.base (.tup h)) (by decide +kernel) (by decide +kernel) rfl
theorem off_dk {H : Hp} {p : Addr} (h : H p = some (.dK [])) : isI K H (.ref p) false := isI_ty "dict" false false (.base (.dK h)) (by decide +kernel) (by decide +kernel) rfl
theorem stay_no {m a : Int} (h : a < 2 ∨ m - 1 < a ∨ 4 * a < m + 1 ∨ 4 * (m + 1 - a) < m + 1) : stayB m a = false := by
  unfold stayB
  rw [Bool.and_eq_false_iff, decide_eq_false_iff_not, decide_eq_false_iff_not]
  split <;> omega
def odd13 (q1 q2 q3 : Addr) (m : Int) : List V := [.non, .bl true, .bl false, .int 0, .int 1, .int (-2), .int m, .int (m + 1), .str "2", .ref q1, .ref q2, .ref q3, .int (10 ^ Int.toNat 40)]
def spBad (K : PySem.W.Frag) : Sp := fun vs H Q _ => ∃ m : Int, vs = [.int m] ∧ 3 ≤ m ∧ m ≤ 1000000000000000000000000000000 ∧ ∀ p xs H', Same H H' → H p = none → H' p = some (.lst xs) → xs.length ≤ 100 → (∀ x ∈ xs, stayJ K H' m x false) → Q (.ref p) H'
theorem ok_bad (D : Def K mg "_law_bad_parts" s_law_bad_parts) (T : Txt K mg) : CallOk P w K mg base CX0 1 "_law_bad_parts" ["most"] (spBad K) := by
  refine def_ok0 D sc_law_bad_parts (fun vs H Q E h => ?_) (fun _ _ _ _ _ _ us hl => match us, hl with | [_], _ => rfl) (fun fa cdv A outer s H vs Q E hr h => ?_)
  · obtain ⟨m, rfl, _⟩ := h
    rfl
  · obtain ⟨m, rfl, hm1, hm2, k⟩ := h
    have sz : sizeLine = 16777216 := sizeLine_eq
    refine ⟨_, (pss_cons (ps_set (i := 1) sc_law_bad_parts.nd rfl (Or.inl rfl) (pe_lst (pa_cons pe_non (pa_cons pe_bl (pa_cons pe_bl (pa_cons pe_int (pa_cons pe_int (pa_cons (pe_un un_neg pe_int) (pa_cons (pv 0) (pa_cons (pe_op op_add (pv 0) pe_int) (pa_cons pe_str (pa_cons (pe_lst (pa_cons pe_int pa_nil)) (pa_cons (pe_tup (pa_cons pe_int pa_nil)) (pa_cons pe_dnewK (pa_cons (pe_op op_pow pe_int pe_int) pa_nil)))))))))))))))
  (pss_cons (ps_for PassesOwn.never rfl (pi_list (pe_lst (pa_cons pe_int (pa_cons pe_int (pa_cons (pe_op op_sub (pv 0) pe_int) (pa_cons (pe_op op_sub (pv 0) pe_int) (pa_cons (pe_op op_fdiv (pv 0) pe_int) (pa_cons (pe_op op_fdiv (pe_op op_add (pv 0) pe_int) pe_int) (pa_cons (pe_op op_sub (pv 0) (pe_op op_fdiv (pv 0) pe_int)) (pa_cons (pe_op op_sub (pe_op op_add (pv 0) pe_int) (pe_op op_fdiv (pv 0) pe_int)) pa_nil)))))))))) (pg_name (i := 2) sc_law_bad_parts.nd rfl (Or.inl rfl)) (pss_one (ps_if (PW.pt (pw_or (pt_cmpR op_lt (pv 2) pe_int (nomark _)) (pw_or (pt_cmpR op_gt (pv 2) (pe_op op_sub (pv 0) pe_int) (nomark _)) (pw_or (pt_cmpR op_lt (pe_op op_mul pe_int (pv 2)) (pe_op op_add (pv 0) pe_int) (nomark _)) (pw_or1 (pt_cmpR op_lt (pe_op op_mul pe_int (pe_op op_sub (pe_op op_add (pv 0) pe_int) (pv 2))) (pe_op op_add (pv 0) pe_int) (nomark _))))))) (pss_one (ps_expr (pe_bm PySem.F.plainAttrs_list PySem.F.slot_list_append PySem.F.type_list_append mt_append (pv 1) (pa_cons (pv 2) pa_nil)))) pss_nil)))
  (pss_one (ps_ret (pv 1))))), ?_⟩
    refine z_start (σ' := [some _, none, none]) rfl ?_
    repeat walk_at "z"
    refine ⟨by show 1 ≤ sizeLine; omega, fun q1 hq1 => ?_⟩
    repeat walk_at "z"
    refine ⟨by show 1 ≤ sizeLine; omega, fun q2 hq2 => ?_⟩
    repeat walk_at "z"
    intro q3 hq3
    repeat walk_at "z"
    refine z_I (z_pow (by decide) (by decide) (by decide)) ?_
    repeat walk_at "z"
    refine ⟨by show 13 ≤ sizeLine; omega, fun p hp => ?_⟩
    have e1 := same_new (o := .lst [.int 2]) (Same.refl H) hq1
    have e2 := same_new (o := .tup [.int 2]) (Same.refl _) hq2
    have e3 := same_new (o := .dK []) (Same.refl _) hq3
    have e4 := same_new (o := .lst [.non, .bl true, .bl false, .int 0, .int 1, .int (-2), .int m, .int (m + 1), .str "2", .ref q1, .ref q2, .ref q3, .int (10 ^ Int.toNat 40)]) (Same.refl _) hp
    have e14 := e1.trans (e2.trans (e3.trans e4))
    have f1 := e4 _ _ (e3 _ _ (e2 _ _ (upd_same (H := H) (a := q1) (o := .lst [.int 2]))))
    have f2 := e4 _ _ (e3 _ _ (upd_same (H := upd H q1 (.lst [.int 2])) (a := q2) (o := .tup [.int 2])))
    have f3 := e4 _ _ (upd_same (H := upd (upd H q1 (.lst [.int 2])) q2 (.tup [.int 2])) (a := q3) (o := .dK []))
    have hp0 : H p = none := (e1.trans (e2.trans e3)).free hp
    have n1 : q1 ≠ p := fun e => by rw [e, upd_same] at f1; cases f1
    have n2 : q2 ≠ p := fun e => by rw [e, upd_same] at f2; cases f2
    have n3 : q3 ≠ p := fun e => by rw [e, upd_same] at f3; cases f3
    repeat walk_at "z"
    refine z_for ?_
    repeat walk_at "z"
    refine z_I (C := CDiv) ⟨by decide, by decide⟩ ?_
    repeat walk_at "z"
    refine z_I (C := CDiv) ⟨by decide, by decide⟩ ?_
    repeat walk_at "z"
    refine z_I (C := CDiv) ⟨by decide, by decide⟩ ?_
    repeat walk_at "z"
    refine z_I (C := CDiv) ⟨by decide, by decide⟩ ?_
    repeat walk_at "z"
    refine ⟨by show 8 ≤ sizeLine; omega, fun ul hul => ?_⟩
    have nl : ul ≠ p := fun e => by rw [e, upd_same] at hul; cases hul
    have e5 := same_new (o := .lst [.int 2, .int 3, .int (m - 1), .int (m - 2), .int (m / 4), .int ((m + 1) / 4), .int (m - m / 4), .int (m + 1 - m / 4)]) (Same.refl _) hul
    refine ⟨ul, rfl, ⟨_, SqL.of upd_same⟩, for_it (walk_list (xs := [.int 2, .int 3, .int (m - 1), .int (m - 2), .int (m / 4), .int ((m + 1) / 4), .int (m - m / 4), .int (m + 1 - m / 4)])) (fun i σ H' => ∃ (v2 : Option V) (ys : List Int), σ = [some (.int m), some (.ref p), v2] ∧ Same H H' ∧ H' q1 = some (.lst [.int 2]) ∧ H' q2 = some (.tup [.int 2]) ∧ H' q3 = some (.dK []) ∧
      H' ul = some (.lst [.int 2, .int 3, .int (m - 1), .int (m - 2), .int (m / 4), .int ((m + 1) / 4), .int (m - m / 4), .int (m + 1 - m / 4)]) ∧ H' p = some (.lst (odd13 q1 q2 q3 m ++ ys.map V.int)) ∧ ys.length ≤ i ∧ ∀ y ∈ ys, stayB m y = false)
      ⟨_, [], rfl, e14.trans e5, e5 _ _ f1, e5 _ _ f2, e5 _ _ f3, upd_same, e5 _ _ (by rw [upd_same, List.map_nil, List.append_nil]; rfl), Nat.le_refl _, fun y hy => nomatch hy⟩ (fun i σ H' _ ⟨_, _, _, _, _, _, _, h, _⟩ => SqL.of h) ?_ ?_⟩
    · rintro i e σ H1 H2 hi ⟨v2, ys, rfl, t0, t1, t2, t3, t4, t5, t6, t7⟩ ⟨rfl, he⟩
      have hi8 : i < 8 := hi
      obtain ⟨y, rfl⟩ : ∃ y, e = V.int y := by
        have hm := List.mem_of_getElem? he
        simp only [List.mem_cons, List.not_mem_nil, or_false] at hm
        rcases hm with rfl | rfl | rfl | rfl | rfl | rfl | rfl | rfl <;> exact ⟨_, rfl⟩
      repeat walk_at "z"
      refine ite2 ?a1 ?b1
      case' a1 =>
        intro g
        have hb : stayB m y = false := stay_no (.inl (of_decide_eq_true g))
        repeat walk_at "z"
      case' b1 =>
        intro g1
        repeat walk_at "z"
        refine ite2 ?a2 ?b2
        case' a2 =>
          intro g
          have hb : stayB m y = false := stay_no (.inr (.inl (of_decide_eq_true g)))
          repeat walk_at "z"
        case' b2 =>
          intro g2
          repeat walk_at "z"
          refine z_I (C := CMul) (.inl ⟨by decide, by decide⟩) ?_
          repeat walk_at "z"
          refine ite2 ?a3 ?b3
          case' a3 =>
            intro g
            have hb : stayB m y = false := stay_no (.inr (.inr (.inl (of_decide_eq_true g))))
            repeat walk_at "z"
          case' b3 =>
            intro g3
            repeat walk_at "z"
            refine z_I (C := CMul) (.inl ⟨by decide, by decide⟩) ?_
            repeat walk_at "z"
            refine ite2 ?a4 ?b4
            case' a4 =>
              intro g
              have hb : stayB m y = false := stay_no (.inr (.inr (.inr (of_decide_eq_true g))))
              repeat walk_at "z"
            case b4 =>
              intro g4
              repeat walk_at "z"
              exact ⟨_, ys, rfl, t0, t1, t2, t3, t4, t5, Nat.le_succ_of_le t6, t7⟩
      all_goals
        refine ⟨_, rfl, .inl ⟨rfl, _, SqL.of t5⟩, ?_⟩
        repeat walk_at "z"
        refine ⟨p, _, _, rfl, rfl, t5, by rw [List.length_append, List.length_map, show (odd13 q1 q2 q3 m).length = 13 from rfl]; omega, ?_⟩
        refine ⟨_, ys ++ [y], rfl, fun b o e => by rw [upd_ne (ne_of_none e hp0)]; exact t0 b o e, by rw [upd_ne n1]; exact t1, by rw [upd_ne n2]; exact t2, by rw [upd_ne n3]; exact t3, by rw [upd_ne nl]; exact t4, by rw [upd_same, List.map_append, List.append_assoc]; rfl, by rw [List.length_append]; exact Nat.succ_le_succ t6, fun z hz => ?_⟩
        rcases List.mem_append.mp hz with hz | hz
        · exact t7 z hz
        · rw [List.mem_singleton.mp hz]
          exact hb
    · rintro σ H1 ⟨v2, ys, rfl, t0, t1, t2, t3, t4, t5, t6, t7⟩
      have t8 : ys.length ≤ 8 := t6
      have big : m - 1 < (10 : Int) ^ Int.toNat 40 := Int.lt_of_le_of_lt (by omega : m - 1 ≤ 1000000000000000000000000000000) (by decide)
      repeat walk_at "z"
      refine k p _ H1 t0 hp0 t5 (by rw [List.length_append, List.length_map, show (odd13 q1 q2 q3 m).length = 13 from rfl]; omega) fun x hx => ?_
      rcases List.mem_append.mp hx with hx | hx
      · unfold odd13 at hx
        simp only [List.mem_cons, List.not_mem_nil, or_false] at hx
        rcases hx with rfl | rfl | rfl | rfl | rfl | rfl | rfl | rfl | rfl | rfl | rfl | rfl | rfl
        · exact .inr ⟨off_non, rfl⟩
        · exact .inr ⟨off_bl, rfl⟩
        · exact .inr ⟨off_bl, rfl⟩
        · exact .inl ⟨_, rfl, stay_no (by omega)⟩
        · exact .inl ⟨_, rfl, stay_no (by omega)⟩
        · exact .inl ⟨_, rfl, stay_no (by omega)⟩
        · exact .inl ⟨_, rfl, stay_no (by omega)⟩
        · exact .inl ⟨_, rfl, stay_no (by omega)⟩
        · exact .inr ⟨off_str, rfl⟩
        · exact .inr ⟨off_lst t1, rfl⟩
        · exact .inr ⟨off_tup t2, rfl⟩
        · exact .inr ⟨off_dk t3, rfl⟩
        · exact .inl ⟨_, rfl, stay_no (.inr (.inl big))⟩
      · obtain ⟨y, hy, rfl⟩ := List.mem_map.mp hx
        exact .inl ⟨y, rfl, t7 y hy⟩
end
end K02
set_option Elab.async false
set_option linter.all false
set_option maxRecDepth 100000
set_option maxHeartbeats 4000000
namespace K02
open PySem PySem.Spec L2 Z
open PyProof.Rows hiding St
local macro_rules | `(tactic| walk_at "z") => `(tactic| first
  | with_reducible refine Z.z_seq ?_
  | with_reducible refine Z.z_asg ?_
  | with_reducible refine Z.z_op ?_
  | with_reducible refine Z.z_cons ?_
  | with_reducible refine Z.z_nil ?_
  | with_reducible refine Z.z_c ?_
  | ((with_reducible refine' Z.z_var ?e ?_); (case e => exact rfl))
  | ((with_reducible refine' Z.z_name ?e ?_); (case e => repeat constructor))
  | with_reducible refine Z.z_sub ?_
  | with_reducible refine Z.z_I0 ?_
  | with_reducible refine Z.z_eqI ?_
  | with_reducible refine Z.z_neI ?_
  | with_reducible refine Z.z_cb ?_
  | with_reducible refine Z.z_int1 ?_
  | with_reducible refine Z.z_max2 ?_
  | with_reducible refine Z.z_min2 ?_
  | with_reducible refine Z.z_call ?_
  | with_reducible refine Z.z_test ?_
  | with_reducible refine Z.z_B ?_
  | with_reducible refine Z.z_ex _ ?_
  | with_reducible refine Z.z_and ?_
  | with_reducible refine Z.z_or ?_
  | with_reducible refine Z.z_not ?_
  | with_reducible refine Z.z_andV ?_
  | with_reducible refine Z.z_orV ?_
  | with_reducible refine Z.z_notV ?_
  | with_reducible refine Z.z_ifE ?_
  | with_reducible refine Z.z_chain ?_
  | with_reducible refine Z.z_if ?_
  | with_reducible refine Z.z_ret ?_
  | with_reducible refine Z.z_retN ?_
  | with_reducible refine Z.z_next ?_
  | with_reducible refine Z.z_brk ?_
  | with_reducible refine Z.z_cont ?_
  | with_reducible refine Z.z_drop ?_
  | with_reducible refine Z.z_un ?_
  | with_reducible refine Z.z_U ?_
  | with_reducible refine Z.z_lst ?_
  | with_reducible refine Z.z_tup ?_
  | with_reducible refine Z.z_par ?_
  | ((with_reducible refine' Z.z_par2 ?e1 ?e2 ?_); (case e1 => repeat constructor); (case e2 => repeat constructor))
  | with_reducible refine Z.z_iteT ?_
  | with_reducible refine Z.z_iteF ?_)
local macro_rules | `(tactic| walk_at "z") => `(tactic| first
  | with_reducible refine Z.z_iteNT ?_
  | with_reducible refine Z.z_iteNF ?_
  | with_reducible refine Z.z_sfld ?_)
local macro_rules | `(tactic| walk_at "z") => `(tactic| first
  | with_reducible refine Z.z_iTup ?_
  | with_reducible refine Z.z_iList ?_
  | with_reducible refine Z.z_lc ?_)
local macro_rules | `(tactic| walk_at "z") => `(tactic| first
  | with_reducible refine Z.z_expr ?_
  | with_reducible refine Z.z_dnew ?_)
local macro_rules | `(tactic| walk_at "z") => `(tactic| first
  | with_reducible refine Z.z_sl ?_
  | with_reducible refine Z.z_noPart ?_
  | with_reducible refine Z.z_part ?_
  | with_reducible refine Z.z_partI ?_)

section
variable {P : Program} {w w2 : World} {K : PySem.W.Frag} {mg : Str → Option Value} {base : Heap}
theorem z_neS {x y : V} {b : Bool} {H : Hp} {Q : VK} (hs : scal x y = true) (e : decide (x = y) = b) (h : Q (.bl (!b)) H) : rNe x y H Q := by
  subst e
  exact ⟨hs, h⟩
theorem dpAll_strs {H : Hp} : ∀ xs : List Str, DpAll K H (xs.map V.str) (xs.map PyData.str)
  | [] => .nil
  | x :: xs => .cons (.str x) (dpAll_strs xs)
theorem z_neStrs {H : Hp} {Q : VK} {p q : Addr} {xs ys : List Str} (h1 : SqL K H p (xs.map V.str)) (h2 : SqL K H q (ys.map V.str)) (s1 : SeqAt.shaped (.list (xs.map PyData.str)) = true) (s2 : SeqAt.shaped (.list (ys.map PyData.str)) = true) (e : PyData.eqv (.list (xs.map PyData.str)) (.list (ys.map PyData.str)) = true) (k : Q (.bl false) H) : rNeD K (.ref p) (.ref q) H Q :=
  ⟨_, _, .lst h1 (dpAll_strs xs), .lst h2 (dpAll_strs ys), s1, s2, by rw [e]; exact k⟩
theorem z_eqStrs {H : Hp} {Q : VK} {p q : Addr} {xs ys : List Str} (h1 : SqL K H p (xs.map V.str)) (h2 : SqL K H q (ys.map V.str)) (s1 : SeqAt.shaped (.list (xs.map PyData.str)) = true) (s2 : SeqAt.shaped (.list (ys.map PyData.str)) = true) (e : PyData.eqv (.list (xs.map PyData.str)) (.list (ys.map PyData.str)) = true) (k : Q (.bl true) H) : rEqD K (.ref p) (.ref q) H Q :=
  ⟨_, _, .lst h1 (dpAll_strs xs), .lst h2 (dpAll_strs ys), s1, s2, by rw [e]; exact k⟩
theorem z_yes {σ : L2.St} {H : Hp} {QT : Bool → Hp → Prop} (h : QT true H) : tYes σ H QT := h
theorem called_of {l : Addr} {w1 w2 w3 w4 : V} {r : Option Nat} {H : Hp} {Q : VK} {E : XK} (hl : H l = some (.lst [w1, w2, w3, w4])) (j : Judge K H w1 w2 w3 w4 r) (k : ∀ H', Same H H' → Q (.str (rText r)) H') : spCalled K [.ref l] H Q E := ⟨l, w1, w2, w3, w4, r, rfl, hl, j, k⟩
theorem with_of {l : Addr} {s : Nat} {v v1 v2 v3 v4 : V} {H : Hp} {Q : VK} {E : XK} (hs : s < 4) (hl : H l = some (.lst [v1, v2, v3, v4])) (k : ∀ p H', Same H H' → H p = none → H' p = some (.lst ([v1, v2, v3, v4].set s v)) → Q (.ref p) H') : spWith [.ref l, .int s, v] H Q E :=
  ⟨l, s, v, v1, v2, v3, v4, rfl, hs, hl, k⟩
theorem txt_of {s : Nat} {H : Hp} {Q : VK} (hs : s < 4) (k : Q (.str (toString (s : Int))) H) : rTxtI [.int (s : Int)] H Q := by
  refine ⟨s, rfl, ?_, k⟩
  rcases (by omega : s = 0 ∨ s = 1 ∨ s = 2 ∨ s = 3) with rfl | rfl | rfl | rfl <;> decide
theorem ne_of {s : Nat} {H : Hp} {Q : VK} (hs : s < 4) (k : Q (.bl false) H) : rNe (.str (rText (some s))) (.str (("rule " : Str) ++ (toString (s : Int) : Str))) H Q := by
  refine z_neS (b := true) rfl ?_ k
  rcases (by omega : s = 0 ∨ s = 1 ∨ s = 2 ∨ s = 3) with rfl | rfl | rfl | rfl <;> decide +kernel
theorem len_of {s : Nat} (hs : s < 4) : ("rule " : Str).length + (toString (s : Int) : Str).length ≤ sizeLine := by
  have e : ("rule " : Str).length + (toString (s : Int) : Str).length ≤ 100 := by
    rcases (by omega : s = 0 ∨ s = 1 ∨ s = 2 ∨ s = 3) with rfl | rfl | rfl | rfl <;> decide +kernel
  exact Nat.le_trans e (by decide)
/-- one of the four is none -/
theorem bad_one {H : Hp} {m a f p : Int} {bad : V} {s : Nat} (o1 : Ok2 m a) (o2 : Ok2 f p) (hs : s = 0 ∨ s = 2) (hb : holdJ K H bad false) : ∃ w1 w2 w3 w4, [V.int m, .int a, .int f, .int p].set s bad = [w1, w2, w3, w4] ∧ Judge K H w1 w2 w3 w4 (some s) := by
  rcases hs with rfl | rfl
  · exact ⟨_, _, _, _, rfl, .j0 hb⟩
  · exact ⟨_, _, _, _, rfl, .j2 o1 hb⟩
theorem bad_two {H : Hp} {m a f p : Int} {bad : V} {s : Nat} (o1 : Ok2 m a) (o2 : Ok2 f p) (hs : s = 0 ∨ s = 2) (hb : holdJ K H bad false) : ∃ w1 w2 w3 w4, ([V.int m, .int a, .int f, .int p].set s bad).set (s + 1) .non = [w1, w2, w3, w4] ∧ Judge K H w1 w2 w3 w4 (some s) := by
  rcases hs with rfl | rfl
  · exact ⟨_, _, _, _, rfl, .j0 hb⟩
  · exact ⟨_, _, _, _, rfl, .j2 o1 hb⟩
theorem set_four (v1 v2 v3 v4 v : V) (s : Nat) : ∃ w1 w2 w3 w4, [v1, v2, v3, v4].set s v = [w1, w2, w3, w4] := by
  match s with
  | 0 => exact ⟨_, _, _, _, rfl⟩
  | 1 => exact ⟨_, _, _, _, rfl⟩
  | 2 => exact ⟨_, _, _, _, rfl⟩
  | 3 => exact ⟨_, _, _, _, rfl⟩
  | n + 4 => exact ⟨v1, v2, v3, v4, rfl⟩
theorem bad_part {H : Hp} {m a f p : Int} {bad : V} {s : Nat} (o1 : Ok2 m a) (o2 : Ok2 f p) (hs : s = 1 ∨ s = 3) (hb : stayJ K H (if s = 1 then m else f) bad false) : ∃ w1 w2 w3 w4, [V.int m, .int a, .int f, .int p].set s bad = [w1, w2, w3, w4] ∧ Judge K H w1 w2 w3 w4 (some s) := by
  rcases hs with rfl | rfl
  · exact ⟨_, _, _, _, rfl, .j1 o1.holdJ hb⟩
  · exact ⟨_, _, _, _, rfl, .j3 o1 o2.holdJ hb⟩
theorem no_hold {H : Hp} {i : Int} (h : i < 3 ∨ 1000000000000000000000000000000 < i) : holdJ K H (.int i) false := by
  refine .inl ⟨i, rfl, ?_⟩
  rw [Bool.and_eq_false_iff, decide_eq_false_iff_not, decide_eq_false_iff_not]
  omega
def bads (q1 q2 q3 : Addr) : List V := [.non, .bl true, .bl false, .int (-1), .int 0, .int 1, .int 2, .int (10 ^ Int.toNat 30 + 1), .int (10 ^ Int.toNat 60), .str "3", .ref q1, .ref q2, .ref q3]
theorem bads_hold {H : Hp} {q1 q2 q3 : Addr} (h1 : H q1 = some (.lst [.int 3])) (h2 : H q2 = some (.tup [.int 3])) (h3 : H q3 = some (.dK [])) : ∀ x ∈ bads q1 q2 q3, holdJ K H x false := fun x hx => by
  unfold bads at hx
  simp only [List.mem_cons, List.not_mem_nil, or_false] at hx
  rcases hx with rfl | rfl | rfl | rfl | rfl | rfl | rfl | rfl | rfl | rfl | rfl | rfl | rfl
  · exact .inr ⟨off_non, rfl⟩
  · exact .inr ⟨off_bl, rfl⟩
  · exact .inr ⟨off_bl, rfl⟩
  · exact no_hold (.inl (by decide))
  · exact no_hold (.inl (by decide))
  · exact no_hold (.inl (by decide))
  · exact no_hold (.inl (by decide))
  · exact no_hold (.inr (by decide))
  · exact no_hold (.inr (by decide))
  · exact .inr ⟨off_str, rfl⟩
  · exact .inr ⟨off_lst h1, rfl⟩
  · exact .inr ⟨off_tup h2, rfl⟩
  · exact .inr ⟨off_dk h3, rfl⟩
def spRight : Sp := fun vs H Q _ => ∃ (b : Addr) (x c t wide : Int), vs = [.ref b, .int wide] ∧ H b = some (.lst [.int x, .int c, .int t]) ∧ 0 ≤ c ∧ c < 2 ^ 140 ∧ 0 ≤ t ∧ t < 80000 ∧ 1 ≤ wide ∧ wide ≤ 999999999999999999999999999998 ∧
  ∀ (H' : Hp) (z t' : Int), SameBut b H H' → H' b = some (.lst [.int z, .int c, .int t']) → t ≤ t' → t' ≤ t + 4 → Q (.bl true) H'
theorem ok_right (D : Def K mg "_law_right" s_law_right) (T : Txt K mg) (C_law_rule : CallOk P w K mg base CX0 2 "_law_rule" ["reel", "wide"] spRule) (C_law_called : CallOk P w K mg base CX0 6 "_law_called" ["numbers"] (spCalled K))
    (C_law_with : CallOk P w K mg base CX0 1 "_law_with" ["numbers", "spot", "value"] spWith) (C_law_bad_parts : CallOk P w K mg base CX0 1 "_law_bad_parts" ["most"] (spBad K)) : CallOk P w K mg base CX0 7 "_law_right" ["reel", "wide"] spRight := by
  refine def_ok0 D sc_law_right (fun vs H Q E h => ?_) (fun _ _ _ _ _ _ us hl => match us, hl with | [_, _], _ => rfl) (fun fa cdv A outer s H vs Q E hr h => ?_)
  · obtain ⟨b, x, c, t, wide, rfl, _⟩ := h
    rfl
  · obtain ⟨b, x, c, t, wide, rfl, hb, hc0, hc1, ht0, ht1, hw1, hw2, k⟩ := h
    have sz : sizeLine = 16777216 := sizeLine_eq
    refine ⟨_, (pss_cons (ps_set (i := 2) sc_law_right.nd rfl (Or.inr rfl) (pe_own C_law_rule (hr.mono (by decide)) rfl pass0 (pa_cons (pv 0) (pa_cons (pv 1) pa_nil))))
  (pss_cons (ps_if (pt_cmpR op_ne (pe_own C_law_called (hr.mono (by decide)) rfl pass0 (pa_cons (pv 2) pa_nil)) pe_str (nomark _)) (pss_one (ps_ret pe_bl)) pss_nil)
  (pss_cons (ps_for PassesOwn.never rfl (pi_tup (pe_tup (pa_cons pe_int (pa_cons pe_int pa_nil)))) (pg_name (i := 3) sc_law_right.nd rfl (Or.inr rfl)) (pss_one (ps_for PassesOwn.never rfl (pi_list (pe_lst (pa_cons pe_non (pa_cons pe_bl (pa_cons pe_bl (pa_cons (pe_un un_neg pe_int) (pa_cons pe_int (pa_cons pe_int (pa_cons pe_int (pa_cons (pe_op op_add (pe_op op_pow pe_int pe_int) pe_int) (pa_cons (pe_op op_pow pe_int pe_int) (pa_cons pe_str (pa_cons (pe_lst (pa_cons pe_int pa_nil)) (pa_cons (pe_tup (pa_cons pe_int pa_nil)) (pa_cons pe_dnewK pa_nil))))))))))))))) (pg_name (i := 4) sc_law_right.nd rfl (Or.inl rfl)) (pss_cons (ps_if (pt_cmpR op_ne (pe_own C_law_called (hr.mono (by decide)) rfl pass0 (pa_cons (pe_own C_law_with (hr.mono (by decide)) rfl pass0 (pa_cons (pv 2) (pa_cons (pv 3) (pa_cons (pv 4) pa_nil)))) pa_nil)) (pe_op op_add_str pe_str (pe_callTy cStrI (by rfl) T.str (by decide +kernel) (pa_cons (pv 3) pa_nil))) (nomark _)) (pss_one (ps_ret pe_bl)) pss_nil)
  (pss_cons (ps_if (pt_cmpR op_ne (pe_own C_law_called (hr.mono (by decide)) rfl pass0 (pa_cons (pe_own C_law_with (hr.mono (by decide)) rfl pass0 (pa_cons (pe_own C_law_with (hr.mono (by decide)) rfl pass0 (pa_cons (pv 2) (pa_cons (pv 3) (pa_cons (pv 4) pa_nil)))) (pa_cons (pe_op op_add (pv 3) pe_int) (pa_cons pe_non pa_nil)))) pa_nil)) (pe_op op_add_str pe_str (pe_callTy cStrI (by rfl) T.str (by decide +kernel) (pa_cons (pv 3) pa_nil))) (nomark _)) (pss_one (ps_ret pe_bl)) pss_nil)
  (pss_one (ps_if (PW.pt (pw_and (pt_cmpR op_eq (pv 3) pe_int (nomark _)) (pw_and1 (pt_cmpR op_ne (pe_own C_law_called (hr.mono (by decide)) rfl pass0 (pa_cons (pe_lst (pa_cons (pv 4) (pa_cons (pe_ix ix_list (pv 2) pe_int (fun _ _ => rfl)) (pa_cons (pv 4) (pa_cons pe_non pa_nil))))) pa_nil)) pe_str (nomark _))))) (pss_one (ps_ret pe_bl)) pss_nil)))))))
  (pss_cons (ps_for PassesOwn.never rfl (pi_tup (pe_tup (pa_cons pe_int (pa_cons pe_int pa_nil)))) (pg_name (i := 3) sc_law_right.nd rfl (Or.inr rfl)) (pss_one (ps_for PassesOwn.never rfl (pi_list (pe_own C_law_bad_parts (hr.mono (by decide)) rfl pass0 (pa_cons (pe_ix ix_list (pv 2) (pe_op op_sub (pv 3) pe_int) (fun _ _ => rfl)) pa_nil))) (pg_name (i := 4) sc_law_right.nd rfl (Or.inl rfl)) (pss_cons (ps_if (pt_cmpR op_ne (pe_own C_law_called (hr.mono (by decide)) rfl pass0 (pa_cons (pe_own C_law_with (hr.mono (by decide)) rfl pass0 (pa_cons (pv 2) (pa_cons (pv 3) (pa_cons (pv 4) pa_nil)))) pa_nil)) (pe_op op_add_str pe_str (pe_callTy cStrI (by rfl) T.str (by decide +kernel) (pa_cons (pv 3) pa_nil))) (nomark _)) (pss_one (ps_ret pe_bl)) pss_nil)
  (pss_one (ps_if (PW.pt (pw_and (pt_cmpR op_eq (pv 3) pe_int (nomark _)) (pw_and1 (pt_cmpR op_ne (pe_own C_law_called (hr.mono (by decide)) rfl pass0 (pa_cons (pe_lst (pa_cons (pe_ix ix_list (pv 2) pe_int (fun _ _ => rfl)) (pa_cons (pv 4) (pa_cons pe_non (pa_cons pe_non pa_nil))))) pa_nil)) pe_str (nomark _))))) (pss_one (ps_ret pe_bl)) pss_nil))))))
  (pss_cons (ps_for PassesOwn.never rfl (pi_tup (pe_tup (pa_cons pe_int (pa_cons pe_int pa_nil)))) (pg_name (i := 3) sc_law_right.nd rfl (Or.inr rfl)) (pss_cons (ps_set (i := 5) sc_law_right.nd rfl (Or.inl rfl) (pe_ix ix_list (pv 2) (pe_op op_sub (pv 3) pe_int) (fun _ _ => rfl)))
  (pss_cons (ps_set (i := 6) sc_law_right.nd rfl (Or.inl rfl) (pe_callB (cMax rfl) (by rfl) T.max (by decide +kernel) (pa_cons pe_int (pa_cons (pe_op op_sub pe_int (pe_op op_fdiv (pe_op op_sub (pe_op op_sub pe_int (pv 5)) pe_int) pe_int)) pa_nil))))
  (pss_one (ps_if (pt_cmpR (op_neD hr.units) (pe_lc (own := [("stays", 7)]) (g := gName 7) (tt := tYes) rfl sc_law_right.nd (pi_tup (pe_tup (pa_cons (pv 6) (pa_cons (pe_op op_sub (pe_op op_add (pv 5) pe_int) (pv 6)) pa_nil)))) (blkOk_by (own := [("stays", 7)]) (N := ["reel", "wide", "good", "spot", "bad", "most", "least", "stays"]) (sc := defScope s_law_right) (by decide +kernel)) (fun _ _ _ _ _ => (pg_name (i := 7) sc_law_right.nd rfl (Or.inl rfl))) (fun _ _ _ _ _ => pts_nil) (fun _ _ _ _ _ => (pe_own C_law_called (hr.mono (by decide)) rfl pass0 (pa_cons (pe_own C_law_with (hr.mono (by decide)) rfl pass0 (pa_cons (pv 2) (pa_cons (pv 3) (pa_cons (pv 7) pa_nil)))) pa_nil)))) (pe_op op_rep (pe_lst (pa_cons pe_str pa_nil)) pe_int) (nomark _)) (pss_one (ps_ret pe_bl)) pss_nil)))))
  (pss_one (ps_ret pe_bl))))))), ?_⟩
    refine z_start (σ' := [some _, some _, none, none, none, none, none, none]) rfl ?_
    repeat walk_at "z"
    refine ⟨b, x, c, t, wide, rfl, hb, hc0, hc1, ht0, by omega, hw1, hw2, fun q H1 m a f p z t1 sb1 nq dq hq hb1 l1 l2 o1 o2 w1 w2 => ?_⟩
    repeat walk_at "z"
    refine called_of hq (.ok o1 o2) fun H2 s2 => ?_
    repeat walk_at "z"
    refine z_neS (b := true) rfl (by decide +kernel) ?_
    repeat walk_at "z"
    -- the four at the limits
    refine z_for ?_
    repeat walk_at "z"
    refine ⟨by show 2 ≤ sizeLine; omega, fun u1 hu1 => ?_⟩
    have e1 := s2.trans (same_new (o := .tup [.int 0, .int 2]) (Same.refl _) hu1)
    refine ⟨u1, rfl, ⟨_, SqT.of upd_same⟩, for_it (walk_tup (xs := [.int 0, .int 2])) (fun i σ H' => ∃ (v3 v4 : Option V), σ = [some (.ref b), some (.int wide), some (.ref q), v3, v4, none, none, none] ∧ Same H1 H' ∧ H' u1 = some (.tup [.int 0, .int 2])) ⟨_, _, rfl, e1, upd_same⟩ (fun i σ H' _ ⟨_, _, _, _, h⟩ => SqT.of h) ?_ ?_⟩
    · rintro i e σ H3 H4 hi ⟨v3, v4, rfl, s3, h3⟩ ⟨rfl, he⟩
      obtain ⟨s, rfl, hs⟩ : ∃ s : Nat, e = .int (s : Int) ∧ (s = 0 ∨ s = 2) := by
        have hm := List.mem_of_getElem? he
        simp only [List.mem_cons, List.not_mem_nil, or_false] at hm
        rcases hm with rfl | rfl
        · exact ⟨0, rfl, .inl rfl⟩
        · exact ⟨2, rfl, .inr rfl⟩
      have hs4 : s < 4 := by omega
      repeat walk_at "z"
      refine z_for ?_
      repeat walk_at "z"
      refine z_I (z_pow (by decide) (by decide) (by decide)) ?_
      repeat walk_at "z"
      refine z_I (z_pow (by decide) (by decide) (by decide)) ?_
      repeat walk_at "z"
      refine ⟨by show 1 ≤ sizeLine; omega, fun q1 hq1 => ?_⟩
      repeat walk_at "z"
      refine ⟨by show 1 ≤ sizeLine; omega, fun q2 hq2 => ?_⟩
      repeat walk_at "z"
      intro q3 hq3
      repeat walk_at "z"
      refine ⟨by show 13 ≤ sizeLine; omega, fun ul hul => ?_⟩
      have f1 := same_new (o := .lst [.int 3]) (Same.refl H4) hq1
      have f2 := same_new (o := .tup [.int 3]) (Same.refl _) hq2
      have f3 := same_new (o := .dK []) (Same.refl _) hq3
      have f4 := same_new (o := .lst (bads q1 q2 q3)) (Same.refl _) hul
      refine ⟨ul, rfl, ⟨_, SqL.of upd_same⟩, for_it (walk_list (xs := bads q1 q2 q3)) (fun j σ H' => ∃ (v4 : Option V), σ = [some (.ref b), some (.int wide), some (.ref q), some (.int (s : Int)), v4, none, none, none] ∧ Same H4 H' ∧ H' ul = some (.lst (bads q1 q2 q3)) ∧ ∀ x ∈ bads q1 q2 q3, holdJ K H' x false)
        ⟨_, rfl, f1.trans (f2.trans (f3.trans f4)), upd_same, bads_hold (f4 _ _ (f3 _ _ (f2 _ _ upd_same))) (f4 _ _ (f3 _ _ upd_same)) (f4 _ _ upd_same)⟩ (fun j σ H' _ ⟨_, _, _, h, _⟩ => SqL.of h) ?_ ?_⟩
      · rintro j bad σ H5 H6 hj ⟨v4, rfl, s5, h5, hb5⟩ ⟨rfl, hbad⟩
        have hB := hb5 bad (List.mem_of_getElem? hbad)
        have hq6 := s5 _ _ (s3 _ _ hq)
        repeat walk_at "z"
        refine with_of hs4 hq6 fun p1 G1 g1 n1 e1 => ?_
        obtain ⟨w1, w2, w3, w4, ew, jw⟩ := bad_one o1 o2 hs (hB.mono g1)
        rw [ew] at e1
        repeat walk_at "z"
        refine called_of e1 jw fun G2 g2 => ?_
        repeat walk_at "z"
        refine txt_of hs4 ?_
        refine ⟨_, _, rfl, rfl, len_of hs4, ?_⟩
        refine ne_of hs4 ?_
        repeat walk_at "z"
        have g12 := g1.trans g2
        refine with_of hs4 (g12 _ _ hq6) fun p3 G3 g3 n3 e3 => ?_
        obtain ⟨y1, y2, y3, y4, ey⟩ := set_four (.int m) (.int a) (.int f) (.int p) bad s
        rw [ey] at e3
        repeat walk_at "z"
        show spWith [.ref p3, .int ((s + 1 : Nat) : Int), .non] _ _ _
        refine with_of (by omega) e3 fun p4 G4 g4 n4 e4 => ?_
        obtain ⟨z1, z2, z3, z4, ez, jz⟩ := bad_two o1 o2 hs (((hB.mono g12).mono g3).mono g4)
        rw [← ey, ez] at e4
        repeat walk_at "z"
        refine called_of e4 jz fun G5 g5 => ?_
        repeat walk_at "z"
        refine txt_of hs4 ?_
        refine ⟨_, _, rfl, rfl, len_of hs4, ?_⟩
        refine ne_of hs4 ?_
        repeat walk_at "z"
        have g15 := g12.trans (g3.trans (g4.trans g5))
        refine ite2 (fun g => ?_) (fun g => ?_)
        · repeat walk_at "z"
          refine z_ixL (SqL.of (g15 _ _ hq6)) rfl ?_
          repeat walk_at "z"
          refine ⟨by show 4 ≤ sizeLine; omega, fun p6 hp6 => ?_⟩
          have g6 := same_new (o := .lst [bad, .int a, bad, .non]) (Same.refl G5) hp6
          repeat walk_at "z"
          refine called_of upd_same (.j0 ((hB.mono g15).mono g6)) fun G7 g7 => ?_
          repeat walk_at "z"
          refine z_neS (b := true) rfl (by decide +kernel) ?_
          repeat walk_at "z"
          have g17 := g15.trans (g6.trans g7)
          exact ⟨_, rfl, s5.trans g17, g17 _ _ h5, fun x hx => (hb5 x hx).mono g17⟩
        · exact ⟨_, rfl, s5.trans g15, g15 _ _ h5, fun x hx => (hb5 x hx).mono g15⟩
      · rintro σ H5 ⟨v4, rfl, s5, _⟩
        exact ⟨_, _, rfl, s3.trans s5, s5 _ _ h3⟩
    · rintro σ H3 ⟨v3, v4, rfl, s3, _⟩
      -- the parts that are none
      repeat walk_at "z"
      refine z_for ?_
      repeat walk_at "z"
      refine ⟨by show 2 ≤ sizeLine; omega, fun u2 hu2 => ?_⟩
      have e2 := s3.trans (same_new (o := .tup [.int 1, .int 3]) (Same.refl _) hu2)
      refine ⟨u2, rfl, ⟨_, SqT.of upd_same⟩, for_it (walk_tup (xs := [.int 1, .int 3])) (fun i σ H' => ∃ (v3 v4 : Option V), σ = [some (.ref b), some (.int wide), some (.ref q), v3, v4, none, none, none] ∧ Same H1 H' ∧ H' u2 = some (.tup [.int 1, .int 3])) ⟨_, _, rfl, e2, upd_same⟩ (fun i σ H' _ ⟨_, _, _, _, h⟩ => SqT.of h) ?_ ?_⟩
      · rintro i e σ H4 H5 hi ⟨v3, v4, rfl, s4, h4⟩ ⟨rfl, he⟩
        obtain ⟨s, rfl, hs⟩ : ∃ s : Nat, e = .int (s : Int) ∧ (s = 1 ∨ s = 3) := by
          have hm := List.mem_of_getElem? he
          simp only [List.mem_cons, List.not_mem_nil, or_false] at hm
          rcases hm with rfl | rfl
          · exact ⟨1, rfl, .inl rfl⟩
          · exact ⟨3, rfl, .inr rfl⟩
        have hs4 : s < 4 := by omega
        have oM : 3 ≤ (if s = 1 then m else f) ∧ (if s = 1 then m else f) ≤ 1000000000000000000000000000000 := by
          split
          · exact ⟨o1.1, o1.2.1⟩
          · exact ⟨o2.1, o2.2.1⟩
        have at1 : atI [V.int m, .int a, .int f, .int p] ((s : Int) - 1) = some (.int (if s = 1 then m else f)) := by
          rcases hs with rfl | rfl <;> rfl
        repeat walk_at "z"
        refine z_for ?_
        repeat walk_at "z"
        refine z_ixL (SqL.of (s4 _ _ hq)) at1 ?_
        repeat walk_at "z"
        refine ⟨_, rfl, oM.1, oM.2, fun pl xs G1 g1 n1 e1 hl hx => ?_⟩
        refine ⟨pl, rfl, ⟨_, SqL.of e1⟩, for_it (walk_list (xs := xs)) (fun j σ H' => ∃ (v4 : Option V), σ = [some (.ref b), some (.int wide), some (.ref q), some (.int (s : Int)), v4, none, none, none] ∧ Same G1 H') ⟨_, rfl, Same.refl _⟩ (fun j σ H' _ ⟨_, _, z⟩ => SqL.of (z _ _ e1)) ?_ ?_⟩
        · rintro j bad σ H6 H7 hj ⟨v4, rfl, s6⟩ ⟨rfl, hbad⟩
          have hB := (hx bad (List.mem_of_getElem? hbad)).mono s6
          have hq7 := s6 _ _ (g1 _ _ (s4 _ _ hq))
          repeat walk_at "z"
          refine with_of hs4 hq7 fun p1 G2 g2 n2 e2 => ?_
          obtain ⟨w1, w2, w3, w4, ew, jw⟩ := bad_part o1 o2 hs (hB.mono g2)
          rw [ew] at e2
          repeat walk_at "z"
          refine called_of e2 jw fun G3 g3 => ?_
          repeat walk_at "z"
          refine txt_of hs4 ?_
          refine ⟨_, _, rfl, rfl, len_of hs4, ?_⟩
          refine ne_of hs4 ?_
          repeat walk_at "z"
          have g23 := g2.trans g3
          refine ite2 (fun g => ?_) (fun g => ?_)
          · have s1 : s = 1 := by
              have z := of_decide_eq_true g
              omega
            subst s1
            repeat walk_at "z"
            refine z_ixL (SqL.of (g23 _ _ hq7)) rfl ?_
            repeat walk_at "z"
            refine ⟨by show 4 ≤ sizeLine; omega, fun p6 hp6 => ?_⟩
            have g6 := same_new (o := .lst [.int m, bad, .non, .non]) (Same.refl G3) hp6
            repeat walk_at "z"
            refine called_of upd_same (.j1 o1.holdJ ((hB.mono g23).mono g6)) fun G7 g7 => ?_
            repeat walk_at "z"
            refine z_neS (b := true) rfl (by decide +kernel) ?_
            repeat walk_at "z"
            exact ⟨_, rfl, s6.trans (g23.trans (g6.trans g7))⟩
          · exact ⟨_, rfl, s6.trans g23⟩
        · rintro σ H6 ⟨v4, rfl, s6⟩
          exact ⟨_, _, rfl, s4.trans (g1.trans s6), s6 _ _ (g1 _ _ h4)⟩
      · rintro σ H4 ⟨v3, v4, rfl, s4, _⟩
        -- the parts at the limits
        repeat walk_at "z"
        refine z_for ?_
        repeat walk_at "z"
        refine ⟨by show 2 ≤ sizeLine; omega, fun u3 hu3 => ?_⟩
        have e3 := s4.trans (same_new (o := .tup [.int 1, .int 3]) (Same.refl _) hu3)
        refine ⟨u3, rfl, ⟨_, SqT.of upd_same⟩, for_it (walk_tup (xs := [.int 1, .int 3])) (fun i σ H' => ∃ (v3 v4 v5 v6 : Option V), σ = [some (.ref b), some (.int wide), some (.ref q), v3, v4, v5, v6, none] ∧ Same H1 H' ∧ H' u3 = some (.tup [.int 1, .int 3])) ⟨_, _, _, _, rfl, e3, upd_same⟩ (fun i σ H' _ ⟨_, _, _, _, _, _, h⟩ => SqT.of h) ?_ ?_⟩
        · rintro i e σ H5 H6 hi ⟨v3, v4, v5, v6, rfl, s5, h5⟩ ⟨rfl, he⟩
          obtain ⟨s, rfl, hs⟩ : ∃ s : Nat, e = .int (s : Int) ∧ (s = 1 ∨ s = 3) := by
            have hm := List.mem_of_getElem? he
            simp only [List.mem_cons, List.not_mem_nil, or_false] at hm
            rcases hm with rfl | rfl
            · exact ⟨1, rfl, .inl rfl⟩
            · exact ⟨3, rfl, .inr rfl⟩
          have hs4 : s < 4 := by omega
          obtain ⟨M, hM, M1, M2⟩ : ∃ M : Int, atI [V.int m, .int a, .int f, .int p] ((s : Int) - 1) = some (.int M) ∧ 3 ≤ M ∧ ∀ st, Ok2 M st → ∃ w1 w2 w3 w4, [V.int m, .int a, .int f, .int p].set s (.int st) = [w1, w2, w3, w4] ∧ ∀ H', Judge K H' w1 w2 w3 w4 none := by
            rcases hs with rfl | rfl
            · exact ⟨m, rfl, o1.1, fun st o => ⟨_, _, _, _, rfl, fun H' => .ok o o2⟩⟩
            · exact ⟨f, rfl, o2.1, fun st o => ⟨_, _, _, _, rfl, fun H' => .ok o1 o⟩⟩
          have M3 : M ≤ 1000000000000000000000000000000 := by
            rcases hs with rfl | rfl
            · have z : some (V.int m) = some (V.int M) := hM
              cases z
              exact o1.2.1
            · have z : some (V.int f) = some (V.int M) := hM
              cases z
              exact o2.2.1
          have hq6 := s5 _ _ hq
          repeat walk_at "z"
          refine z_ixL (SqL.of hq6) hM ?_
          repeat walk_at "z"
          refine z_I (C := CDiv) ⟨by decide, by decide⟩ ?_
          repeat walk_at "z"
          generalize hle : (if 0 - (0 - M - 1) / 4 > 2 then 0 - (0 - M - 1) / 4 else 2 : Int) = least
          have hl1 : 2 ≤ least ∧ M + 1 ≤ 4 * least ∧ 2 * least ≤ M + 1 := by
            rw [← hle]
            split <;> omega
          refine ⟨by show 2 ≤ sizeLine; omega, fun ut hut => ?_⟩
          have f1 := same_new (o := .tup [.int least, .int (M + 1 - least)]) (Same.refl H6) hut
          refine ⟨ut, rfl, ⟨_, SqT.of upd_same⟩, fun Dl hDl => lc_tup (xs := [.int least, .int (M + 1 - least)]) (fun i H' => Same H6 H' ∧ H' ut = some (.tup [.int least, .int (M + 1 - least)]) ∧ H' Dl = some (.lst (List.replicate i (.str "fine")))) ?_ (fun i H' _ h => SqT.of h.2.1) ?_ ?_⟩
          · have f2 := same_new (o := .lst []) (Same.refl _) hDl
            exact ⟨f1.trans f2, f2 _ _ upd_same, upd_same⟩
          · rintro i y H7 hy ⟨k1, k2, k3⟩
            have hi2 : i < 2 := (List.getElem?_eq_some_iff.mp hy).1
            obtain ⟨st, rfl, os⟩ : ∃ st, y = .int st ∧ Ok2 M st := by
              have hm := List.mem_of_getElem? hy
              simp only [List.mem_cons, List.not_mem_nil, or_false] at hm
              rcases hm with rfl | rfl
              · exact ⟨_, rfl, M1, M3, by omega, by omega, by omega, by omega⟩
              · exact ⟨_, rfl, M1, M3, by omega, by omega, by omega, by omega⟩
            obtain ⟨w1, w2, w3, w4, ew, jw⟩ := M2 st os
            have nD : H6 Dl = none := f1.free hDl
            have nu : ut ≠ Dl := fun e => by rw [← e, upd_same] at hDl; cases hDl
            refine ⟨rfl, ?_⟩
            refine z_yes ?_
            repeat walk_at "z"
            refine with_of hs4 (k1 _ _ hq6) fun p1 G1 g1 n1 e1 => ?_
            rw [ew] at e1
            repeat walk_at "z"
            refine called_of e1 (jw _) fun G2 g2 => ?_
            refine ⟨_, g2 _ _ (g1 _ _ k3), by rw [List.length_replicate]; omega, fun b o e => by rw [upd_ne (ne_of_none e nD)]; exact g2 _ _ (g1 _ _ (k1 b o e)), by rw [upd_ne nu]; exact g2 _ _ (g1 _ _ k2), ?_⟩
            rw [upd_same, List.replicate_succ']
            rfl
          · rintro H7 ⟨k1, k2, k3⟩
            repeat walk_at "z"
            refine ⟨by show 1 ≤ sizeLine; omega, fun q1 hq1 => ?_⟩
            repeat walk_at "z"
            refine ⟨q1, 2, _, rfl, rfl, upd_same, by decide, by decide, by show 1 * 2 ≤ sizeLine; omega, fun q2 hq2 => ?_⟩
            have f3 := same_new (o := .lst [.str "fine"]) (Same.refl H7) hq1
            have f4 := same_new (o := .lst [.str "fine", .str "fine"]) (Same.refl _) hq2
            refine z_neStrs (xs := ["fine", "fine"]) (ys := ["fine", "fine"]) (SqL.of (f4 _ _ (f3 _ _ k3))) (SqL.of upd_same) (by decide +kernel) (by decide +kernel) (by decide +kernel) ?_
            repeat walk_at "z"
            exact ⟨_, _, _, _, rfl, s5.trans (k1.trans (f3.trans f4)), f4 _ _ (f3 _ _ (k1 _ _ h5))⟩
        · rintro σ H5 ⟨v3, v4, v5, v6, rfl, s5, _⟩
          repeat walk_at "z"
          exact k _ z t1 (sb1.trans (.same s5)) (s5 _ _ hb1) l1 l2
end
end K02
set_option Elab.async false
set_option linter.all false
set_option maxRecDepth 100000
set_option maxHeartbeats 4000000
namespace K02
open PySem PySem.Spec L2 Z
open PyProof.Rows hiding St
local macro_rules | `(tactic| walk_at "z") => `(tactic| first
  | with_reducible refine Z.z_seq ?_
  | with_reducible refine Z.z_asg ?_
  | with_reducible refine Z.z_op ?_
  | with_reducible refine Z.z_cons ?_
  | with_reducible refine Z.z_nil ?_
  | with_reducible refine Z.z_c ?_
  | ((with_reducible refine' Z.z_var ?e ?_); (case e => exact rfl))
  | ((with_reducible refine' Z.z_name ?e ?_); (case e => repeat constructor))
  | with_reducible refine Z.z_sub ?_
  | with_reducible refine Z.z_I0 ?_
  | with_reducible refine Z.z_eqI ?_
  | with_reducible refine Z.z_neI ?_
  | with_reducible refine Z.z_cb ?_
  | with_reducible refine Z.z_int1 ?_
  | with_reducible refine Z.z_max2 ?_
  | with_reducible refine Z.z_min2 ?_
  | with_reducible refine Z.z_call ?_
  | with_reducible refine Z.z_test ?_
  | with_reducible refine Z.z_B ?_
  | with_reducible refine Z.z_ex _ ?_
  | with_reducible refine Z.z_and ?_
  | with_reducible refine Z.z_or ?_
  | with_reducible refine Z.z_not ?_
  | with_reducible refine Z.z_andV ?_
  | with_reducible refine Z.z_orV ?_
  | with_reducible refine Z.z_notV ?_
  | with_reducible refine Z.z_ifE ?_
  | with_reducible refine Z.z_chain ?_
  | with_reducible refine Z.z_if ?_
  | with_reducible refine Z.z_ret ?_
  | with_reducible refine Z.z_retN ?_
  | with_reducible refine Z.z_next ?_
  | with_reducible refine Z.z_brk ?_
  | with_reducible refine Z.z_cont ?_
  | with_reducible refine Z.z_drop ?_
  | with_reducible refine Z.z_un ?_
  | with_reducible refine Z.z_U ?_
  | with_reducible refine Z.z_lst ?_
  | with_reducible refine Z.z_tup ?_
  | with_reducible refine Z.z_par ?_
  | ((with_reducible refine' Z.z_par2 ?e1 ?e2 ?_); (case e1 => repeat constructor); (case e2 => repeat constructor))
  | with_reducible refine Z.z_iteT ?_
  | with_reducible refine Z.z_iteF ?_)
local macro_rules | `(tactic| walk_at "z") => `(tactic| first
  | with_reducible refine Z.z_iteNT ?_
  | with_reducible refine Z.z_iteNF ?_
  | with_reducible refine Z.z_sfld ?_)
local macro_rules | `(tactic| walk_at "z") => `(tactic| first
  | with_reducible refine Z.z_iTup ?_
  | with_reducible refine Z.z_iList ?_
  | with_reducible refine Z.z_lc ?_)
local macro_rules | `(tactic| walk_at "z") => `(tactic| first
  | with_reducible refine Z.z_expr ?_
  | with_reducible refine Z.z_dnew ?_)
local macro_rules | `(tactic| walk_at "z") => `(tactic| first
  | with_reducible refine Z.z_sl ?_
  | with_reducible refine Z.z_noPart ?_
  | with_reducible refine Z.z_part ?_
  | with_reducible refine Z.z_partI ?_)

section
variable {P : Program} {w w2 : World} {K : PySem.W.Frag} {mg : Str → Option Value} {base : Heap}
theorem z_iRng1 {ta : TA} {σ : L2.St} {H : Hp} {R : It → Hp → Prop} (h : ta σ H fun vs H1 => ∃ j : Int, vs = [.int j] ∧ -(2 ^ 62) ≤ j ∧ j < 2 ^ 62 ∧ R (Itr 0 j.toNat) H1) : iRng1 ta σ H R := h
def cells (l : Int) : Int := if (if l < 6 then l else 6) > 1 then (if l < 6 then l else 6) else 1
theorem cells_le (l : Int) : 1 ≤ cells l ∧ cells l ≤ 6 := by
  unfold cells
  split <;> split <;> omega
def due : List (Option Nat) := [none, none, some 1, some 1]
def spLaw (K : PySem.W.Frag) : Sp := fun vs H Q _ => ∃ (a : Addr) (ns : List Int), vs = [.ref a] ∧ SqL K H a (ns.map V.int) ∧ ns.length ≤ 63 ∧ ∀ H', Q (.bl true) H'
theorem ok_law {f : Addr} {fd : FuncData} (F : FnP K "law" s_law f fd) (T : Txt K mg) (C_law_wound : CallOk P w K mg base CX0 1 "_law_wound" ["script", "k"] (spWound K)) (C_law_right : CallOk P w K mg base CX0 7 "_law_right" ["reel", "wide"] spRight)
    (C_law_called : CallOk P w K mg base CX0 6 "_law_called" ["numbers"] (spCalled K)) : FnOk P w K mg base CX0 8 f fd ["script"] (spLaw K) := by
  refine fn_ok0 F sc_law (fun vs H Q E h => ?_) (fun cdv A outer s H vs Q E hr h => ?_)
  · obtain ⟨a, ns, rfl, _⟩ := h
    rfl
  · obtain ⟨a, ns, rfl, hS, hlen, k⟩ := h
    have sz : sizeLine = 16777216 := sizeLine_eq
    refine ⟨_, (pss_cons (ps_for PassesOwn.never rfl (pi_range1 rfl T.range (pa_cons (pe_callB (cMax rfl) (by rfl) T.max (by decide +kernel) (pa_cons pe_int (pa_cons (pe_callB (cMin rfl) (by rfl) T.min (by decide +kernel) (pa_cons pe_int (pa_cons (pe_callB cLen (by rfl) T.len PySem.boot_len (pa_cons (pv 0) pa_nil)) pa_nil))) pa_nil))) pa_nil)) (pg_name (i := 1) sc_law.nd rfl (Or.inl rfl)) (pss_cons (ps_set (i := 2) sc_law.nd rfl (Or.inl rfl) (pe_own C_law_wound (hr.mono (by decide)) rfl pass0 (pa_cons (pv 0) (pa_cons (pv 1) pa_nil))))
  (pss_one (ps_for PassesOwn.never rfl (pi_list (pe_lst (pa_cons pe_int (pa_cons pe_int (pa_cons (pe_op op_sub (pe_op op_pow pe_int pe_int) pe_int) pa_nil))))) (pg_name (i := 3) sc_law.nd rfl (Or.inl rfl)) (pss_one (ps_if (pt_not (pt_val (pe_own C_law_right (hr.mono (by decide)) rfl pass0 (pa_cons (pv 2) (pa_cons (pv 3) pa_nil))))) (pss_one (ps_ret pe_bl)) pss_nil))))))
  (pss_cons (ps_set (i := 4) sc_law.nd rfl (Or.inl rfl) (pe_lst (pa_cons (pe_lst (pa_cons pe_int (pa_cons pe_int (pa_cons (pe_op op_pow pe_int pe_int) (pa_cons (pe_op op_mul (pe_op op_pow pe_int pe_int) pe_int) pa_nil))))) (pa_cons (pe_lst (pa_cons pe_int (pa_cons pe_int (pa_cons pe_int (pa_cons pe_int pa_nil))))) (pa_cons (pe_lst (pa_cons pe_int (pa_cons pe_int (pa_cons pe_int (pa_cons pe_int pa_nil))))) (pa_cons (pe_lst (pa_cons pe_int (pa_cons pe_int (pa_cons pe_int (pa_cons pe_int pa_nil))))) pa_nil))))))
  (pss_one (ps_ret (pe_cmpR (op_eqD hr.units) (pe_lc (own := [("numbers", 5)]) (g := gName 5) (tt := tYes) rfl sc_law.nd (pi_list (pv 4)) (blkOk_by (own := [("numbers", 5)]) (N := ["script", "k", "reel", "wide", "rows", "numbers"]) (sc := defScope s_law) (by decide +kernel)) (fun _ _ _ _ _ => (pg_name (i := 5) sc_law.nd rfl (Or.inl rfl))) (fun _ _ _ _ _ => pts_nil) (fun _ _ _ _ _ => (pe_own C_law_called (hr.mono (by decide)) rfl pass0 (pa_cons (pv 5) pa_nil)))) (pe_lst (pa_cons pe_str (pa_cons pe_str (pa_cons pe_str (pa_cons pe_str pa_nil))))) (nomark _)))))), ?_⟩
    refine z_start (σ' := [some _, none, none, none, none, none]) rfl ?_
    repeat walk_at "z"
    refine z_for ?_
    refine z_iRng1 ?_
    repeat walk_at "z"
    refine z_len hS ?_
    repeat walk_at "z"
    obtain ⟨c1, c2⟩ := cells_le ((ns.map V.int).length)
    refine ⟨cells ((ns.map V.int).length), rfl, by omega, by omega, for_range (lo := 0) (n := (cells ((ns.map V.int).length)).toNat) (fun i σ H' => ∃ (v1 v2 v3 : Option V), σ = [some (.ref a), v1, v2, v3, none, none] ∧ Same H H') ⟨_, _, _, rfl, Same.refl H⟩ ?_ ?_⟩
    · rintro i σ H1 hi ⟨v1, v2, v3, rfl, s1⟩
      repeat walk_at "z"
      refine ⟨a, ns, i, by show [V.ref a, V.int (0 + (i : Int))] = _; rw [Int.zero_add], s1.seq hS, by omega, fun p x c hc0 hc1 hp => ?_⟩
      repeat walk_at "z"
      refine z_for ?_
      repeat walk_at "z"
      refine z_I (z_pow (by decide) (by decide) (by decide)) ?_
      repeat walk_at "z"
      refine ⟨by show 3 ≤ sizeLine; omega, fun ul hul => ?_⟩
      have dl : ul ≠ p := fun e => by rw [e, upd_same] at hul; cases hul
      have s2 := same_new (o := .lst [.int x, .int c, .int 0]) (Same.refl H1) hp
      refine ⟨ul, rfl, ⟨_, SqL.of upd_same⟩, for_it (walk_list (xs := [.int 1, .int 12, .int (10 ^ Int.toNat 30 - 2)])) (fun j σ H' => ∃ (v3 : Option V) (x' t' : Int), σ = [some (.ref a), some (.int (0 + (i : Int))), some (.ref p), v3, none, none] ∧ Same H1 H' ∧
        H' ul = some (.lst [.int 1, .int 12, .int (10 ^ Int.toNat 30 - 2)]) ∧ H' p = some (.lst [.int x', .int c, .int t']) ∧ 0 ≤ t' ∧ t' ≤ 4 * (j : Int))
        ⟨_, x, 0, rfl, same_new s2 hul, upd_same, by rw [upd_ne (fun e => dl e.symm)]; exact upd_same, by omega, by omega⟩ (fun j σ H' _ ⟨_, _, _, _, _, h, _⟩ => SqL.of h) ?_ ?_⟩
      · rintro j e σ H2 H3 hj ⟨v3, x', t', rfl, s3, hl3, hp3, t0, t1⟩ ⟨rfl, he⟩
        obtain ⟨wd, rfl, w1, w2⟩ : ∃ wd : Int, e = .int wd ∧ 1 ≤ wd ∧ wd ≤ 999999999999999999999999999998 := by
          have hm := List.mem_of_getElem? he
          simp only [List.mem_cons, List.not_mem_nil, or_false] at hm
          rcases hm with rfl | rfl | rfl
          · exact ⟨_, rfl, by decide, by decide⟩
          · exact ⟨_, rfl, by decide, by decide⟩
          · exact ⟨_, rfl, by decide, by decide⟩
        have hj3 : j < 3 := hj
        repeat walk_at "z"
        refine ⟨p, x', c, t', wd, rfl, hp3, hc0, hc1, t0, by omega, w1, w2, fun H4 z t2 sb hz l1 l2 => ?_⟩
        repeat walk_at "z"
        exact ⟨_, z, t2, rfl, fun b o hb => sb b o (fun e => by rw [e, hp] at hb; cases hb) (s3 b o hb), sb _ _ dl hl3, hz, by omega, by omega⟩
      · rintro σ H2 ⟨v3, x', t', rfl, s3, _⟩
        exact ⟨_, _, _, rfl, s1.trans s3⟩
    · rintro σ H1 ⟨v1, v2, v3, rfl, s1⟩
      repeat walk_at "z"
      refine z_I (z_pow (by decide) (by decide) (by decide)) ?_
      repeat walk_at "z"
      refine z_I (z_pow (by decide) (by decide) (by decide)) ?_
      repeat walk_at "z"
      refine z_I (C := CMul) (.inr ⟨by decide, by decide⟩) ?_
      repeat walk_at "z"
      refine ⟨by show 4 ≤ sizeLine; omega, fun r1 hr1 => ?_⟩
      repeat walk_at "z"
      refine ⟨by show 4 ≤ sizeLine; omega, fun r2 hr2 => ?_⟩
      repeat walk_at "z"
      refine ⟨by show 4 ≤ sizeLine; omega, fun r3 hr3 => ?_⟩
      repeat walk_at "z"
      refine ⟨by show 4 ≤ sizeLine; omega, fun r4 hr4 => ?_⟩
      repeat walk_at "z"
      refine ⟨by show 4 ≤ sizeLine; omega, fun rl hrl => ?_⟩
      have e1 := same_new (o := .lst [.int 3, .int 2, .int (10 ^ Int.toNat 30), .int (10 ^ Int.toNat 29 * 3)]) (Same.refl H1) hr1
      have e2 := same_new (o := .lst [.int 11, .int 3, .int 3, .int 2]) (Same.refl _) hr2
      have e3 := same_new (o := .lst [.int 11, .int 2, .int 3, .int 2]) (Same.refl _) hr3
      have e4 := same_new (o := .lst [.int 12, .int 3, .int 3, .int 2]) (Same.refl _) hr4
      have e5 := same_new (o := .lst [.ref r1, .ref r2, .ref r3, .ref r4]) (Same.refl _) hrl
      have i1 := e5 _ _ (e4 _ _ (e3 _ _ (e2 _ _ (upd_same (H := H1) (a := r1) (o := .lst [.int 3, .int 2, .int (10 ^ Int.toNat 30), .int (10 ^ Int.toNat 29 * 3)])))))
      have i2 := e5 _ _ (e4 _ _ (e3 _ _ (upd_same (a := r2) (o := .lst [.int 11, .int 3, .int 3, .int 2]))))
      have i3 := e5 _ _ (e4 _ _ (upd_same (a := r3) (o := .lst [.int 11, .int 2, .int 3, .int 2])))
      have i4 := e5 _ _ (upd_same (a := r4) (o := .lst [.int 12, .int 3, .int 3, .int 2]))
      repeat walk_at "z"
      refine ⟨rl, rfl, ⟨_, SqL.of upd_same⟩, fun Dl hDl => lc_list (xs := [.ref r1, .ref r2, .ref r3, .ref r4]) (fun i H' => (Same _ H' ∧ H' rl = some (.lst [.ref r1, .ref r2, .ref r3, .ref r4])) ∧ H' Dl = some (.lst ((due.take i).map fun r => V.str (rText r)))) ⟨⟨same_new (o := .lst []) (Same.refl _) hDl, (same_new (o := .lst []) (Same.refl _) hDl) _ _ upd_same⟩, upd_same⟩ (fun i H' _ h => SqL.of h.1.2) ?_ ?_⟩
      · rintro i y H7 hy ⟨⟨k1, k2⟩, k3⟩
        have hi4 : i < 4 := (List.getElem?_eq_some_iff.mp hy).1
        obtain ⟨l, x1, x2, x3, x4, r, rfl, hl, jd, hr⟩ : ∃ l x1 x2 x3 x4 r, y = .ref l ∧ H7 l = some (.lst [x1, x2, x3, x4]) ∧ (∀ H', Judge K H' x1 x2 x3 x4 r) ∧ due[i]? = some r := by
          rcases (by omega : i = 0 ∨ i = 1 ∨ i = 2 ∨ i = 3) with rfl | rfl | rfl | rfl
          · cases (Option.some.inj hy)
            exact ⟨r1, _, _, _, _, none, rfl, k1 _ _ i1, fun H' => .ok (by unfold Ok2; decide) (by unfold Ok2; decide), rfl⟩
          · cases (Option.some.inj hy)
            exact ⟨r2, _, _, _, _, none, rfl, k1 _ _ i2, fun H' => .ok (by unfold Ok2; decide) (by unfold Ok2; decide), rfl⟩
          · cases (Option.some.inj hy)
            exact ⟨r3, _, _, _, _, some 1, rfl, k1 _ _ i3, fun H' => .j1 (.inl ⟨11, rfl, by decide⟩) (.inl ⟨2, rfl, by decide⟩), rfl⟩
          · cases (Option.some.inj hy)
            exact ⟨r4, _, _, _, _, some 1, rfl, k1 _ _ i4, fun H' => .j1 (.inl ⟨12, rfl, by decide⟩) (.inl ⟨3, rfl, by decide⟩), rfl⟩
        refine ⟨rfl, ?_⟩
        refine z_yes ?_
        repeat walk_at "z"
        refine called_of hl (jd _) fun G2 g2 => ?_
        have nr : rl ≠ Dl := fun e => by rw [← e, upd_same] at hDl; cases hDl
        refine ⟨_, g2 _ _ k3, by rw [List.length_map, List.length_take]; omega, ⟨fun b o e => by rw [upd_ne (ne_of_none e hDl)]; exact g2 _ _ (k1 b o e), by rw [upd_ne nr]; exact g2 _ _ k2⟩, ?_⟩
        rw [upd_same, List.take_add_one, hr, List.map_append]
        rfl
      · rintro H7 ⟨⟨k1, k2⟩, k3⟩
        repeat walk_at "z"
        refine ⟨by show 4 ≤ sizeLine; omega, fun q1 hq1 => ?_⟩
        have f3 := same_new (o := .lst [.str "fine", .str "fine", .str "rule 1", .str "rule 1"]) (Same.refl H7) hq1
        refine z_eqStrs (xs := ["fine", "fine", tag 1, tag 1]) (ys := ["fine", "fine", "rule 1", "rule 1"]) (SqL.of (f3 _ _ k3)) (SqL.of upd_same) (by decide +kernel) (by decide +kernel) (by decide +kernel) ?_
        exact k _
theorem facts {h : Heap} {f : Addr} (X : K.In h) (G : h.Ns mainGlobals mg) (hfa : mg ("law" : Str) = some (.ref f)) (c : SaysG fa fn gs ex w h K) :
    ∃ fd : FuncData, (∀ (s : Shared) (v : Value), BindsTo s fd ⟨[v], []⟩ [("script", v)]) ∧ ∀ base : Heap, K.In base → base.Ns mainGlobals mg → FnOk P w K mg base CX0 8 f fd ["script"] (spLaw K) := by
  obtain ⟨f', fd, F, g⟩ := D_law X G c
  have e := hfa.symm.trans g
  cases e
  have T := txt_ok X G c
  have k : Xc K := ⟨exA_ok c, exB_ok c⟩
  have kB : kitsB K = true := (He.ba (exB_ok c)).1
  obtain ⟨fi, Fi⟩ := D_Rule_init X G c
  refine ⟨fd, fun s v => FunD.bindsA (ps := ["script"]) F (fun _ _ _ _ _ _ us hl => match us, hl with | [_], _ => rfl) s [v] rfl, fun base _ _ => ?_⟩
  have X1 : ClsX P w K mg base "InvalidRule" "item" := X_InvalidRule (w := w) X G c
  have cI : CallOk P w K mg base CX0 1 "is_integer" ["value"] (spIsInt K) := ok_is_integer (D_is_integer X G c) T
  have cB := ok_is_between (D_is_between X G c) T kB cI
  have cH := ok_can_hold (D_can_hold X G c) T cB
  have cS := ok_can_stay (D_can_stay X G c) T kB cI
  have cR := ok_init Fi T X1 cH cS
  have cK : CallOk P w K mg base CX0 1 "_law_kinds" ["e"] (spKinds K) := ok_kinds (D_law_kinds X G c) T k
  have cC := ok_called (D_law_called X G c) T k cR (ok_kind (D_law_kind X G c) T k X1.no cK)
  have cP : CallOk P w K mg base CX0 1 "_law_spin" ["reel", "many"] spSpin := ok_spin (D_law_spin X G c) T
  exact ok_law F T (ok_wound (D_law_wound X G c) T) (ok_right (D_law_right X G c) T (ok_rule (D_law_rule X G c) T cP) cC (ok_with (D_law_with X G c) T) (ok_bad (D_law_bad_parts X G c) T)) cC
end

end K02
open PySem PySem.W PySem.Calls PyProof.Rows
set_option maxRecDepth 100000 in
set_option maxHeartbeats 0 in
theorem PySem.Challenge.cw_leafsplits_k02_errors_of_rules_holds : PySem.Challenge.rw_leafsplits_k02_errors_of_rules.Holds := by
  w_on; o_law
  refine HandSHeadRun.head_any (r := OpenLaw.row PySem.Challenge.rw_leafsplits_k02_errors_of_rules) (q := view (OpenLaw.row PySem.Challenge.rw_leafsplits_k02_errors_of_rules).prog [44]) (H := K02.hk) (ob := K02.ob) (M := 20000) (loose := K02.loose) (d := HandSHeadRun.topDef (OpenLaw.row PySem.Challenge.rw_leafsplits_k02_errors_of_rules).prog 44) (kwd := []) K02.ob_eq
    (by kernel_rfl) (fun s => by kernel_rfl) K02.run (by kernel_rfl) (by kernel_rfl) (by kernel_rfl) (by rfl) (by first | assumption | decide +kernel) (by decide +kernel) ⟨rfl, rfl, rfl, rfl, rfl, by decide +kernel⟩ ?hw ?hc
  case hw => w_witness2
  case hc =>
    refine L2.walk_ofE (l := PySem.Challenge.rw_leafsplits_k02_errors_of_rules) (n := 63) (k := 8) (x := "script") (CX := L2.CX0) rfl (by decide) (by kernel_rfl) ⟨rfl, by decide, by decide⟩ ?F (fun _ _ _ _ z => z)
    intro w mg fa h Y G hmg0
    obtain ⟨K, KX, c⟩ := Y
    have hmg : mg ("law" : PySem.Str) = some (.ref fa) := by
      have e : (HandSHeadRun.topDef (OpenLaw.row PySem.Challenge.rw_leafsplits_k02_errors_of_rules).prog 44).name = ("law" : PySem.Str) := by kernel_rfl
      rw [← e]
      exact hmg0
    obtain ⟨fd, hb, hF⟩ := K02.facts (P := (PySem.Challenge.rw_leafsplits_k02_errors_of_rules).prog) (w := w) KX G hmg c
    exact ⟨K, fd, K02.spLaw K, KX, hb, fun H a ns hl hO hS => ⟨a, ns, rfl, hS, hl, fun _ => rfl⟩, hF⟩
