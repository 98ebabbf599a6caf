import PyProof.Rows.All
import Wide.All
import OpenK.AllK
import Wide.FinOn
import KE.KStateDown
import KE.KExcIs
import Lean
import HandS.ForMost
import HandS.ForExc
import HandS.ExcInit
import HandS.ExcValue
import HandS.ExcField
import HandS.ExcIs
import HandS.IsInst
import HandS.Defaults
import HandS.Property
import HandS.OwnEq
import HandS.Wide
import HandS.Flow
import HandS.Walk
import HandS.Head0
import HandS.Head1
import HandS.Head2
import HandS.HeadEnd
import HandS.HeadHook1
import HandS.HeadHook2
import HandS.HeadHook3
import HandS.HeadHook4
import PyProof.ReprRoads
import HandS.RaiseMore
import PyProof.InstNe
import PyProof.Rows.RuleB_pow
import KE.DatumOrd
import HandS.NoneIn
import HandS.ExcOwn
import PyProof.ReprLen
import PyProof.FitsInt
import PySem.Challenge.RW_leafsplits_k01_rules_told
set_option Elab.async false
set_option linter.all false
set_option maxRecDepth 100000
set_option maxHeartbeats 4000000
namespace Z
open PySem PySem.Spec L2
open PyProof.Rows hiding St

/-! ### a def as its callers see it -/
structure CallOk (P : Program) (w : World) (K : PySem.W.Frag) (mg : Str → Option Value) (base : Heap) (CX : CXT) (k : Nat) (x : Str) (ps : List Str) (sp : Sp) : Prop where
  ex : ∃ (f : Addr) (fd : FuncData), FnOk P w K mg base CX k f fd ps sp ∧ mg x = some (.ref f) ∧ PySem.W.keepIn K (.ref f) = true ∧ Binds K fd ps []
section
variable {X : Cx} {CX : CXT} {k : Nat} {x : Str} {ps : List Str} {sp : Sp} {E : XK} {p pos : Pos} {e : Expr} {es : List Expr} {t : TA}
theorem pe_own (C : CallOk X.prog X.w X.K X.mg X.base CX k x ps sp) (hr : Room k X.A) (hg : Gl X x) (hx : Passes CX X E) (ha : PA X (e :: es) t)
    (hdb : (x == ("__debug__" : Str)) = false := by decide) (he : starEach (e :: es) X.env = (false, eval e X.env) :: starEach es X.env := by rfl) (hpl : (backTo pos (starEach es X.env)).any (·.1) = false := by rfl) :
    PE X (.Call (.Name x p) (e :: es) [] pos) (tCall sp [] E t) := by
  obtain ⟨f, fd, F, hm, hk, hb⟩ := C.ex
  exact pe_call F hr hg hm hk hb .nil hx ha hdb he hpl
end

/-- a def of the text as it stands behind the top -/
abbrev FnP (K : PySem.W.Frag) (x : Str) (st : Stmt) (f : Addr) (fd : FuncData) : Prop := FunD K x x (defArgs st) (defBody st) (defScope st) [] [] f fd
def Def (K : PySem.W.Frag) (mg : Str → Option Value) (x : Str) (st : Stmt) : Prop := ∃ (f : Addr) (fd : FuncData), FnP K x st f fd ∧ mg x = some (.ref f)
theorem def_ok {P : Program} {w : World} {K : PySem.W.Frag} {mg : Str → Option Value} {base : Heap} {CX : CXT} {x : Str} {st : Stmt} {N ps : List Str} {k : Nat} {sp : Sp} (D : Def K mg x st) (S : FnScope N ps (defScope st)) (len : ∀ vs H Q E, sp vs H Q E → vs.length = ps.length)
    (hbind : ∀ (kV doc pm : Value) (an : Option Addr) (cdv ct : Value) (us : List Value), us.length = ps.length → bindArgs (PySem.W.fnOf x x (defArgs st) (defBody st) (defScope st) .none kV doc pm an cdv ct) ⟨us, []⟩ = pure (ps.zip us))
    (hbody : ∀ (f : Addr) (cdv : Value) (A : Around) (outer : List Env) (s : Shared) (H : Hp) (vs : List V) (Q : VK) (E : XK), Room k (A.deeper (envOfC x (defScope st) s.heap.objs.size f cdv)) → sp vs H Q E →
      ∃ t, PSs (cxOf CX P w K mg base N x (defScope st) f cdv A outer s H E) (defBody st) t ∧ t { nx := fun _ H' => Q .non H', rt := Q } (start N vs) H) : CallOk P w K mg base CX (k + 1) x ps sp := by
  obtain ⟨f, fd, F, g⟩ := D
  exact ⟨⟨f, fd, F.ok S len (fun cdv A outer s H vs Q E hr h => hbody f cdv A outer s H vs Q E hr h), g, F.kp, F.bindsN hbind⟩⟩
/-- for a def that lets nothing out -/
theorem fn_ok0 {P : Program} {w : World} {K : PySem.W.Frag} {mg : Str → Option Value} {base : Heap} {x : Str} {st : Stmt} {N ps : List Str} {k : Nat} {sp : Sp} {f : Addr} {fd : FuncData} (F : FnP K x st f fd) (S : FnScope N ps (defScope st)) (len : ∀ vs H Q E, sp vs H Q E → vs.length = ps.length)
    (hbody : ∀ (cdv : Value) (A : Around) (outer : List Env) (s : Shared) (H : Hp) (vs : List V) (Q : VK) (E : XK), Room k (A.deeper (envOfC x (defScope st) s.heap.objs.size f cdv)) → sp vs H Q E →
      ∃ t, PSs (cxOf CX0 P w K mg base N x (defScope st) f cdv A outer s H E).nox (defBody st) t ∧ t { nx := fun _ H' => Q .non H', rt := Q } (start N vs) H) : FnOk P w K mg base CX0 (k + 1) f fd ps sp :=
  F.ok S len fun cdv A outer s H vs Q E hr h => by
    obtain ⟨t, h1, h2⟩ := hbody cdv A outer s H vs Q E hr h
    exact ⟨t, h1.nox, h2⟩
theorem def_ok0 {P : Program} {w : World} {K : PySem.W.Frag} {mg : Str → Option Value} {base : Heap} {x : Str} {st : Stmt} {N ps : List Str} {k : Nat} {sp : Sp} (D : Def K mg x st) (S : FnScope N ps (defScope st)) (len : ∀ vs H Q E, sp vs H Q E → vs.length = ps.length)
    (hbind : ∀ (kV doc pm : Value) (an : Option Addr) (cdv ct : Value) (us : List Value), us.length = ps.length → bindArgs (PySem.W.fnOf x x (defArgs st) (defBody st) (defScope st) .none kV doc pm an cdv ct) ⟨us, []⟩ = pure (ps.zip us))
    (hbody : ∀ (f : Addr) (cdv : Value) (A : Around) (outer : List Env) (s : Shared) (H : Hp) (vs : List V) (Q : VK) (E : XK), Room k (A.deeper (envOfC x (defScope st) s.heap.objs.size f cdv)) → sp vs H Q E →
      ∃ t, PSs (cxOf CX0 P w K mg base N x (defScope st) f cdv A outer s H E).nox (defBody st) t ∧ t { nx := fun _ H' => Q .non H', rt := Q } (start N vs) H) : CallOk P w K mg base CX0 (k + 1) x ps sp := by
  obtain ⟨f, fd, F, g⟩ := D
  exact ⟨⟨f, fd, fn_ok0 F S len (fun cdv A outer s H vs Q E hr h => hbody f cdv A outer s H vs Q E hr h), g, F.kp, F.bindsN hbind⟩⟩
theorem CallOk.mono {P : Program} {w : World} {K : PySem.W.Frag} {mg : Str → Option Value} {base : Heap} {CX : CXT} {j k : Nat} {x : Str} {ps : List Str} {sp : Sp} (C : CallOk P w K mg base CX j x ps sp) (h : j ≤ k) : CallOk P w K mg base CX k x ps sp := by
  obtain ⟨f, fd, F, r⟩ := C.ex
  exact ⟨⟨f, fd, F.mono h, r⟩⟩
/-! ### built-ins whose readings bear names -/
def rInt1 : List V → Hp → VK → Prop := fun xs H Q => (∃ i, xs = [.int i] ∧ Q (.int i) H) ∨ ∃ k, xs = [.bl k] ∧ Q (.int (if k then 1 else 0)) H
def rMax2 : List V → Hp → VK → Prop := fun xs H Q => ∃ i j, xs = [.int i, .int j] ∧ Q (.int (if j > i then j else i)) H
def rMin2 : List V → Hp → VK → Prop := fun xs H Q => ∃ i j, xs = [.int i, .int j] ∧ Q (.int (if j < i then j else i)) H
def rLenS (K : PySem.W.Frag) : List V → Hp → VK → Prop := fun xs H Q => ∃ p ys, xs = [.ref p] ∧ (SqL K H p ys ∨ SqT K H p ys) ∧ Q (.int ys.length) H
section
variable {X : Cx}
theorem cInt : CallR X (.type "int") rInt1 := call_int1
theorem cMax (hc : X.calm = true) : CallR X (.builtin "max") rMax2 := call_max2 hc
theorem cMin (hc : X.calm = true) : CallR X (.builtin "min") rMin2 := call_min2 hc
theorem cLen : CallR X (.builtin "len") (rLenS X.K) := call_len_seq
end
/-! ### readings, one step at a time -/
inductive SetTo : St → Nat → V → St → Prop where
  | zero {a : Option V} {l : St} {v : V} : SetTo (a :: l) 0 v (some v :: l)
  | succ {a : Option V} {l l' : St} {i : Nat} {v : V} (h : SetTo l i v l') : SetTo (a :: l) (i + 1) v (a :: l')
theorem SetTo.eq {σ σ' : St} {i : Nat} {v : V} (h : SetTo σ i v σ') : σ.set i (some v) = σ' := by
  induction h with
  | zero => rfl
  | succ _ ih => rw [List.set_cons_succ, ih]
section
variable {σ σ' : St} {H : Hp} {Q : VK} {QT : Bool → Hp → Prop} {v x y : V} {i : Nat} {nx bk ct : St → Hp → Prop} {rt : VK} {t u : TS} {te ta tb tc : TE} {g : TG} {gs : TGs} {c : TT} {tc2 : TT} {r r' : R2} {b : Bool} {tA : TA} {QA : List V → Hp → Prop}
theorem z_var (e : σ[i]? = some (some v)) (h : Q v H) : tVar i σ H Q := ⟨v, e, h⟩
theorem z_c (h : Q v H) : tC v σ H Q := h
theorem z_op (h : ta σ H fun x H1 => tb σ H1 fun y H2 => r x y H2 Q) : tOp r ta tb σ H Q := h
theorem z_un {ru : V → Hp → VK → Prop} (h : ta σ H fun x H1 => ru x H1 Q) : tUn ru ta σ H Q := h
theorem z_I0 {f : Int → Int → V} {m n : Int} (h : Q (f m n) H) : rI0 f (.int m) (.int n) H Q := ⟨m, n, rfl, rfl, h⟩
theorem z_I {C : Int → Int → Prop} {f : Int → Int → V} {m n : Int} (hc : C m n) (h : Q (f m n) H) : rI C f (.int m) (.int n) H Q := ⟨m, n, rfl, rfl, hc, h⟩
theorem z_U {f : Int → V} {m : Int} (h : Q (f m) H) : rU f (.int m) H Q := ⟨m, rfl, h⟩
theorem z_eq (hs : scal x y = true) (h : Q (.bl (decide (x = y))) H) : rEq x y H Q := ⟨hs, h⟩
theorem z_ne (hs : scal x y = true) (h : Q (.bl (!decide (x = y))) H) : rNe x y H Q := ⟨hs, h⟩
theorem z_eqI {m n : Int} (h : Q (.bl (decide (m = n))) H) : rEq (.int m) (.int n) H Q := ⟨rfl, by
  have e : decide (V.int m = V.int n) = decide (m = n) := by simp
  rw [e]; exact h⟩
theorem z_neI {m n : Int} (h : Q (.bl (!decide (m = n))) H) : rNe (.int m) (.int n) H Q := ⟨rfl, by
  have e : decide (V.int m = V.int n) = decide (m = n) := by simp
  rw [e]; exact h⟩
theorem z_test (h : te σ H fun x H' => ∃ k, x = .bl k ∧ QT k H') : tTest te σ H QT := h
theorem z_B (h : te σ H fun x H' => ∃ k, x = .bl k ∧ QT k H') : tB te σ H QT := h
theorem z_ex (P : Bool → Prop) (h : P b) : ∃ k, V.bl b = .bl k ∧ P k := ⟨b, rfl, h⟩
theorem z_and (h : c σ H fun d H1 => if d = true then tc2 σ H1 QT else QT false H1) : tAnd c tc2 σ H QT := h
theorem z_or (h : c σ H fun d H1 => if d = true then QT true H1 else tc2 σ H1 QT) : tOr c tc2 σ H QT := h
theorem z_not (h : c σ H fun d H1 => QT (!d) H1) : tNot c σ H QT := h
theorem z_andV (h : ta σ H fun x H1 => ∃ d, x = .bl d ∧ if d = true then tb σ H1 Q else Q (.bl false) H1) : tAndV ta tb σ H Q := h
theorem z_orV (h : ta σ H fun x H1 => ∃ d, x = .bl d ∧ if d = true then Q (.bl true) H1 else tb σ H1 Q) : tOrV ta tb σ H Q := h
theorem z_notV (h : ta σ H fun x H1 => ∃ d, x = .bl d ∧ Q (.bl (!d)) H1) : tNotV ta σ H Q := h
theorem z_ifE (h : c σ H fun d H1 => if d = true then ta σ H1 Q else tb σ H1 Q) : tIf c ta tb σ H Q := h
theorem z_chain (h : ta σ H fun x H1 => tb σ H1 fun y H2 => r x y H2 fun z H3 => ∃ k, z = .bl k ∧ (if k = true then tc σ H3 fun w' H4 => r' y w' H4 Q else Q (.bl false) H3)) : tChain r r' ta tb tc σ H Q := h
theorem z_seq (h : t ⟨u ⟨nx, rt, bk, ct⟩, rt, bk, ct⟩ σ H) : tSeq t u ⟨nx, rt, bk, ct⟩ σ H := h
theorem z_next (h : nx σ H) : tNext ⟨nx, rt, bk, ct⟩ σ H := h
theorem z_brk (h : bk σ H) : tBreak ⟨nx, rt, bk, ct⟩ σ H := h
theorem z_cont (h : ct σ H) : tCont ⟨nx, rt, bk, ct⟩ σ H := h
theorem z_asg (h : te σ H fun x H1 => g x σ H1 nx) : tAsg te g ⟨nx, rt, bk, ct⟩ σ H := h
theorem z_drop (h : te σ H fun _ H1 => nx σ H1) : tDrop te ⟨nx, rt, bk, ct⟩ σ H := h
theorem z_ret (h : te σ H rt) : tRet te ⟨nx, rt, bk, ct⟩ σ H := h
theorem z_retN (h : rt .non H) : tRetN ⟨nx, rt, bk, ct⟩ σ H := h
theorem z_if (h : c σ H fun d H1 => if d = true then t ⟨nx, rt, bk, ct⟩ σ H1 else u ⟨nx, rt, bk, ct⟩ σ H1) : tIfS c t u ⟨nx, rt, bk, ct⟩ σ H := h
theorem z_name {R : St → Hp → Prop} (e : SetTo σ i v σ') (h : R σ' H) : gName i v σ H R := by
  show R (σ.set i (some v)) H
  rw [e.eq]
  exact h
theorem z_sub {to ti : TE} {ts : TSet} {R : St → Hp → Prop} (h : to σ H fun o H1 => ti σ H1 fun j H2 => ts o j v H2 fun H3 => R σ H3) : gSub to ti ts v σ H R := h
theorem z_par {j : Nat} (h : tA σ H fun vs H1 => ∃ v w, vs = [v, w] ∧ nx ((σ.set i (some v)).set j (some w)) H1) : tPar i j tA ⟨nx, rt, bk, ct⟩ σ H := h
theorem z_par2 {j : Nat} {σ1 σ2 : St} {w : V} {R : St → Hp → Prop} (e1 : SetTo σ i v σ1) (e2 : SetTo σ1 j w σ2) (h : R σ2 H) : ∃ v' w', [v, w] = [v', w'] ∧ R ((σ.set i (some v')).set j (some w')) H :=
  ⟨v, w, rfl, by rw [e1.eq, e2.eq]; exact h⟩
theorem z_nil (h : QA [] H) : tNil σ H QA := h
theorem z_cons (h : ta σ H fun x H1 => tA σ H1 fun xs H2 => QA (x :: xs) H2) : tCons ta tA σ H QA := h
theorem z_cb {rc : List V → Hp → VK → Prop} (h : tA σ H fun vs H1 => rc vs H1 Q) : tCB rc tA σ H Q := h
theorem z_call {sp : Sp} {E : XK} (h : tA σ H fun vs H1 => sp (vs ++ []) H1 Q E) : tCall sp [] E tA σ H Q := h
theorem z_lst (h : tA σ H fun xs H1 => xs.length ≤ sizeLine ∧ ∀ p, H1 p = none → Q (.ref p) (upd H1 p (.lst xs))) : tLst tA σ H Q := h
theorem z_tup (h : tA σ H fun xs H1 => xs.length ≤ sizeLine ∧ ∀ p, H1 p = none → Q (.ref p) (upd H1 p (.tup xs))) : tTup tA σ H Q := h
theorem z_ixL {K : PySem.W.Frag} {p : Addr} {xs : List V} {n : Int} (h : SqL K H p xs) (e : atI xs n = some v) (q : Q v H) : rIxL K (.ref p) (.int n) H Q := ⟨p, xs, n, v, rfl, rfl, h, e, q⟩
theorem z_ixT {K : PySem.W.Frag} {p : Addr} {xs : List V} {n : Int} (h : SqT K H p xs) (e : atI xs n = some v) (q : Q v H) : rIxT K (.ref p) (.int n) H Q := ⟨p, xs, n, v, rfl, rfl, h, e, q⟩
theorem z_setL {p : Addr} {xs : List V} {n : Int} {j : Nat} {R : Hp → Prop} (h : H p = some (.lst xs)) (e : ixN xs.length n = some j) (q : R (upd H p (.lst (xs.set j v)))) : rSetL (.ref p) (.int n) v H R := ⟨p, xs, n, j, rfl, rfl, h, e, q⟩
theorem z_int1 {n : Int} (h : Q (.int n) H) : rInt1 [.int n] H Q := .inl ⟨n, rfl, h⟩
theorem z_max2 {m n : Int} (h : Q (.int (if n > m then n else m)) H) : rMax2 [.int m, .int n] H Q := ⟨m, n, rfl, h⟩
theorem z_min2 {m n : Int} (h : Q (.int (if n < m then n else m)) H) : rMin2 [.int m, .int n] H Q := ⟨m, n, rfl, h⟩
theorem z_len {K : PySem.W.Frag} {p : Addr} {xs : List V} (h : SqL K H p xs) (q : Q (.int xs.length) H) : rLenS K [.ref p] H Q := ⟨p, xs, rfl, .inl h, q⟩
theorem z_lenT {K : PySem.W.Frag} {p : Addr} {xs : List V} (h : SqT K H p xs) (q : Q (.int xs.length) H) : rLenS K [.ref p] H Q := ⟨p, xs, rfl, .inr h, q⟩
theorem z_pow {m n : Int} (h0 : 0 ≤ n) (h1 : n ≤ 1000000) (h2 : m.natAbs < 2 ^ 64) : CPow m n := ⟨h0, h1, h2⟩
theorem z_modG {m n : Int} (hn : 0 < n) (h : ∀ r : Int, 0 ≤ r → r < n → Q (.int r) H) : rI (fun _ j => 0 < j) (fun i j => .int (i % j)) (.int m) (.int n) H Q := ⟨m, n, rfl, rfl, hn, h _ (Int.emod_nonneg _ (by omega)) (Int.emod_lt_of_pos _ hn)⟩
theorem z_start {D : Ends} (e : σ = σ') (h : t D σ' H) : t D σ H := by
  rw [e]
  exact h
theorem z_iteT {A B : Prop} (h : A) : if true = true then A else B := iteT h
theorem z_iteF {A B : Prop} (h : B) : if false = true then A else B := iteF h
end

/-! ### lists: the left one may be locked, or of the written part -/
theorem list_add_sl (l : Addr) (items : Array Value) (n : Nat) (sl : Array (Option Value)) (b : Addr) (items2 : Array Value) (n2 : Nat) (hc0 : items.size + items2.size ≤ sizeLine) :
    Meets (Builtin.«list.__add__» ⟨[.ref l, .ref b], []⟩) (fun _ R s => s.heap.get? l = some { cls := .type "list", dict := none, data := .seq items n, slots := sl } ∧ s.heap.get? b = some { cls := .type "list", dict := none, data := .seq items2 n2, slots := #[] } ∧
      R (.ok (.ret (Value.ref s.heap.objs.size))) { s with heap := s.heap.push { cls := Value.type "list", data := Data.seq (items ++ items2) }, toks := s.toks }) :=
  .of_wp fun prog w A R s h => by
    obtain ⟨hp, g, d, tk, os⟩ := s
    obtain ⟨hl, hb, h⟩ := h
    have f1 := AutoSeq1.idx_int
    have f3 := AutoSeq1.sub_list_list
    wp_walk using wpAny_loadPart' hl, wpAny_loadPart' hb
    exact ⟨_, rfl, h⟩
def rCatS (K : PySem.W.Frag) : R2 := fun x y H Q => ∃ l b xs zs, x = .ref l ∧ y = .ref b ∧ SqL K H l xs ∧ H b = some (.lst zs) ∧ xs.length + zs.length ≤ sizeLine ∧ ∀ p, H p = none → Q (.ref p) (upd H p (.lst (xs ++ zs)))
theorem op_catS {X : Cx} : OpR X (binaryOp .Add) (rCatS X.K) := by
  intro pins s σ H x y v u Q I rx ry h
  obtain ⟨l, b, xs, zs, rfl, rfl, hL, hB, hz, q⟩ := h
  cases rx
  cases ry
  obtain ⟨its, r, ⟨o, n, ho, hc, hd, hs⟩, hl⟩ := I.list hL
  obtain ⟨oc, od, dt, sl⟩ := o
  simp only at hc hd hs
  subst hc hd hs
  obtain ⟨z2, its2, n2, r2, hl2, e2⟩ := I.lstM hB
  have h1 := r.length
  refine concat_meets ⟨_, ho, rfl⟩ ⟨_, e2, rfl⟩ noFill_list_add seq_list_add F.slot_list_add F.entry_list_add (F.args_list_add_2 _ _) (list_add_sl l its.toArray n sl b its2.toArray n2 (by rw [List.size_toArray, List.size_toArray]; omega)) ⟨ho, e2, ?_⟩
  have ea : its.toArray ++ its2.toArray = (its ++ its2).toArray := by simp
  rw [ea]
  exact ⟨.ref _, _, I.lnew (t' := s.toks) (r.append r2) (by rw [List.length_append]; omega), rfl, q _ I.fresh⟩

/-! ### lists of plain things compared -/
def plainV : V → Bool
  | .non => true
  | .bl _ => true
  | .int _ => true
  | _ => false
def datV : V → PyData
  | .bl b => .bool b
  | .int i => .int i
  | _ => .none
theorem dp_plain {K : PySem.W.Frag} {H : Hp} : ∀ {v : V}, plainV v = true → Dp K H v (datV v)
  | .non, _ => .non
  | .bl b, _ => .bl b
  | .int i, _ => .int i
  | .str _, h => nomatch h
  | .byt _, h => nomatch h
  | .flt _, h => nomatch h
  | .ref _, h => nomatch h
  | .ty _, h => nomatch h
theorem dpAll_plain {K : PySem.W.Frag} {H : Hp} : ∀ {vs : List V}, vs.all plainV = true → DpAll K H vs (vs.map datV)
  | [], _ => .nil
  | v :: vs, h => by
    rw [List.all_cons, Bool.and_eq_true] at h
    exact .cons (dp_plain h.1) (dpAll_plain h.2)
theorem can_datV (v : V) : (datV v).canLay0 = true ∧ (datV v).depth ≤ 1 := by cases v <;> exact ⟨rfl, by simp [datV, PyData.depth]⟩
theorem can_all : ∀ vs : List V, PyData.canLayAll0 (vs.map datV) = true ∧ PyData.depthAll (vs.map datV) ≤ 1
  | [] => ⟨rfl, by simp [PyData.depthAll]⟩
  | v :: vs => by
    obtain ⟨h1, h2⟩ := can_datV v
    obtain ⟨h3, h4⟩ := can_all vs
    refine ⟨by simp [PyData.canLayAll0, h1, h3], ?_⟩
    rw [List.map_cons, PyData.depthAll]
    omega
theorem shaped_list (vs : List V) : SeqAt.shaped (.list (vs.map datV)) = true := by
  obtain ⟨h3, h4⟩ := can_all vs
  have hd : (PyData.list (vs.map datV)).depth ≤ 64 := by
    rw [PyData.depth]
    omega
  unfold SeqAt.shaped
  rw [decide_eq_true hd, Bool.and_true]
  exact h3
theorem dp_lst {K : PySem.W.Frag} {H : Hp} {p : Addr} {vs : List V} (h : SqL K H p vs) (hp : vs.all plainV = true) : Dp K H (.ref p) (.list (vs.map datV)) := .lst h (dpAll_plain hp)
theorem eqv_same (vs : List V) : PyData.eqv (.list (vs.map datV)) (.list (vs.map datV)) = true := SeqAt.eqv_refl _ (can_all vs).1
/-- two lists that hold the same -/
theorem z_neSame {K : PySem.W.Frag} {H : Hp} {Q : VK} {p q : Addr} {vs : List V} (h1 : SqL K H p vs) (h2 : SqL K H q vs) (hp : vs.all plainV = true) (h : Q (.bl false) H) : rNeD K (.ref p) (.ref q) H Q :=
  ⟨_, _, dp_lst h1 hp, dp_lst h2 hp, shaped_list vs, shaped_list vs, by rw [eqv_same]; exact h⟩
theorem z_eqSame {K : PySem.W.Frag} {H : Hp} {Q : VK} {p q : Addr} {vs : List V} (h1 : SqL K H p vs) (h2 : SqL K H q vs) (hp : vs.all plainV = true) (h : Q (.bl true) H) : rEqD K (.ref p) (.ref q) H Q :=
  ⟨_, _, dp_lst h1 hp, dp_lst h2 hp, shaped_list vs, shaped_list vs, by rw [eqv_same]; exact h⟩

/-! ### exceptions held as values -/
theorem findObj_E {K : PySem.W.Frag} {C : Addr} {od : Option Obj} {name : Str} {a g : Value} (hc : (PySem.W.clsIn K C).isSome = true) (ha : PySem.W.findIn K (.ref C) name = some (some a)) (hg : PySem.W.specialIn K a "__get__" = some (some g)) (ht : PySem.W.takesIn K a = some true) :
    PySem.W.findObj K C od name = some (.bind g a) := PySem.W.findObj_dataE hc ha hg ht
/-- what stands at a: an exception of the class at C, made without fields, or with its dict at d -/
def ExAt (H : Hp) (a C : Addr) : Prop := H a = some (ExO (.ref C) a) ∨ ∃ (d : Addr) (fs : List (Str × V)), H a = some (exo a C (some d)) ∧ H d = some (exd d fs)
theorem exAt_inst {P : Program} {w : World} {H : Hp} {h : Heap} {a C : Addr} (hok : HOk P w H h) (e : ExAt H a C) : ∃ (ox : Obj) (od : Option Obj), PySem.W.InstAt h a ox C od := by
  rcases e with e | ⟨d, fs, e, ed⟩
  · obtain ⟨⟨oe, vs, ho, hz, hd, _⟩, _, _⟩ := hok a _ e
    obtain ⟨oc, odd, dt, sl⟩ := oe
    obtain ⟨h1, h2⟩ := hz
    dsimp only at h1 h2 hd
    subst h1 h2 hd
    exact ⟨_, none, ho, rfl, rfl, trivial⟩
  · obtain ⟨t1, ho⟩ := exo_at hok e
    obtain ⟨mA, hns, _⟩ := exd_at hok ed
    obtain ⟨o, es, ep, e1, _⟩ := hns
    exact ⟨_, some o, ho, rfl, rfl, e1⟩
def rIsQ (K : PySem.W.Frag) : List V → Hp → VK → Prop := fun xs H Q => ∃ (a C : Addr) (c : V) (cv : Value) (b : Bool), xs = [.ref a, c] ∧ ExAt H a C ∧ ExcC K C ∧ ClsV c cv ∧ PySem.W.kitOne K (.ref C) cv = some b ∧ Q (.bl b) H
section
variable {X : Cx}
theorem call_isQ : CallR X (.builtin "isinstance") (rIsQ X.K) := by
  intro pins s σ H xs us Q I r h
  obtain ⟨a, C, c, cv, b, rfl, ea, T, k, e, q⟩ := h
  obtain ⟨u1, u2, rfl, r1, r2⟩ := vals2 r
  cases (show u1 = Value.ref a from r1)
  have e2 := k.eq r2
  subst e2
  obtain ⟨ox, od, J⟩ := exAt_inst I.hok ea
  have hcl : (PySem.W.clsIn X.K C).isSome = true := by
    obtain ⟨cd, hc, _⟩ := PySem.W.any_some T.hd
    rw [hc]; rfl
  exact PySem.W.kia_one (PySem.W.kitx_exc hcl T.hg T.hk T.hs T.ha T.hn T.ht T.hm) I.kIn J e (fun z => nomatch z) fun tk => ⟨.bl b, H, I.tok tk, rfl, q⟩
/-- e.f of a held exception with fields -/
def tXfV (K : PySem.W.Frag) (f : Str) (te : TE) : TE := fun σ H Q => te σ H fun x H1 => ∃ (a C d : Addr) (fs : List (Str × V)) (v : V), x = .ref a ∧ H1 a = some (exo a C (some d)) ∧ H1 d = some (exd d fs) ∧ XfC K C ∧ PySem.W.findIn K (.ref C) f = some none ∧ fs.lookup f = some v ∧ Q v H1
theorem pe_xfV {e : Expr} {te : TE} {pos : Pos} {n : Str} (he : PE X e te) (hb : attributeBase e n X.env (eval e X.env) = eval e X.env := by rfl) : PE X (.Attribute e n pos) (tXfV X.K n te) := by
  refine ⟨fun pins s σ H Q I h => ?_⟩
  refine attr_of hb (thn (he.run pins s σ H _ I h) fun u s1 hh => ?_)
  obtain ⟨x, H1, I1, rx, a, C, d, fs, v, ex, ea, ed, T, hno, l, q⟩ := hh
  subst ex
  obtain rfl : u = Value.ref a := rx
  obtain ⟨t1, ho⟩ := exo_at I1.hok ea
  obtain ⟨mA, hns, hr⟩ := exd_at I1.hok ed
  obtain ⟨od, hod, hl⟩ := lookIn_ns hns
  obtain ⟨u, hu, ru⟩ := RelO.some_of (v := v) (o := mA n) (by rw [← l]; exact hr n)
  have J : PySem.W.InstAt s1.heap a { cls := .ref C, dict := some d, data := .fields #[.ref t1, .none, .none, .none, .bool false, .none] } C (some od) := ⟨ho, rfl, rfl, hod⟩
  exact HandSPX.exc_get I1.kIn J T.ga T.gg T.exC (PySem.W.findObj_own T.hdC hno rfl (by rw [hl, hu])) (handed_of ru) ⟨v, H1, I1.tok _, ru, q⟩
/-- X(e, ..) as a value, X an own exception class with its own __init__ -/
def tMkV (C : Addr) (sp : Sp) (ta : TA) : TE := fun σ H Q => ta σ H fun vs H1 => vs.length ≤ 1000 ∧ ∀ a, H1 a = none → sp (.ref a :: vs) (upd H1 a (exo a C none)) (fun v H2 => v = .non ∧ Q (.ref a) H2) (fun _ _ _ => False)
theorem pe_excV {CX : CXT} {x : Str} {C fI : Addr} {k : Nat} {fd : FuncData} {ps : List Str} {sp : Sp} {e : Expr} {es : List Expr} {ta : TA} {p pos : Pos} (T : OexC X.K C) (iC : PySem.W.findIn X.K (.ref C) "__init__" = some (some (.ref fI))) (tI : PySem.W.typeIn X.K (.ref fI) = some (.type "function"))
    (F1 : FnOk X.prog X.w X.K X.mg X.base CX k fI fd ps sp) (hr : Room (k + 1) X.A) (hb : Binds X.K fd ps []) (hx : Passes CX X (fun _ _ _ => False)) (hg : Gl X x) (hm : X.mg x = some (.ref C)) (ha : PA X (e :: es) ta)
    (hdb : (x == ("__debug__" : Str)) = false := by decide) (he : starEach (e :: es) X.env = (false, eval e X.env) :: starEach es X.env := by rfl) (hpl : (backTo pos (starEach es X.env)).any (·.1) = false := by rfl) :
    PE X (.Call (.Name x p) (e :: es) [] pos) (tMkV C sp ta) := by
  refine ⟨fun pins s σ H Q I h => ?_⟩
  obtain ⟨nm, q, N, bs, bm, sn, sub, ab, col, dd, k0, k1, k2, k3, k5, hC, hbm⟩ := T.cls
  refine wpAny_Call_Name_kw (ld_glob I hg hm ?_ hdb)
  refine PySem.W.callWith_K (h₀ := X.base) I.ok.mod.kin T.kC (thn (ha.run pos pins s σ H _ I h) fun us s1 ⟨vs, H1, I1, r1, hz, q1⟩ => ⟨I1.kIn, ?_⟩) he hpl
  show wpAny _ _ (call (.ref C) us) _ _ _
  obtain ⟨hp, g, dr, tk, os⟩ := s1
  have hsz : hp.objs.size ≤ hp.objs.size + 1 := Nat.le_succ _
  have hn : H1 (hp.objs.size + 1) = none := I1.hok.fresh hsz
  have hq := q1 (hp.objs.size + 1) hn
  have kk : ∀ b o, hp.get? b = some o → ((hp.push (PySem.W.kdv_tup us)).push (PySem.HandSPX.excO C hp.objs.size)).get? b = some o := fun b o e => Heap.get?_push_of_some _ (Heap.get?_push_of_some _ e)
  have hget : ((hp.push (PySem.W.kdv_tup us)).push (PySem.HandSPX.excO C hp.objs.size)).get? (hp.objs.size + 1) = some (PySem.HandSPX.excO C hp.objs.size) := by heap_get
  have I2 : Inv X pins σ (upd H1 (hp.objs.size + 1) (exo (hp.objs.size + 1) C none)) ⟨(hp.push (PySem.W.kdv_tup us)).push (PySem.HandSPX.excO C hp.objs.size), g, dr, tk, os⟩ :=
    I1.laid (t' := tk) (a := hp.objs.size + 1) (o := exo (hp.objs.size + 1) C none) (h' := (hp.push (PySem.W.kdv_tup us)).push (PySem.HandSPX.excO C hp.objs.size)) kk hsz (exo_ok hget)
  have r2 : Vals (V.ref (hp.objs.size + 1) :: vs) (Value.ref (hp.objs.size + 1) :: us) := .cons rfl r1
  have hl : (Value.ref (hp.objs.size + 1) :: us).length = ps.length := by
    have e := r2.length
    rw [F1.len _ _ _ _ hq] at e
    exact e.symm
  have hus : us.length ≤ sizeLine := by
    rw [← Paired.length r1, sizeLine_eq]
    omega
  have hb' : BindsTo ⟨(hp.push (PySem.W.kdv_tup us)).push (PySem.HandSPX.excO C hp.objs.size), g, dr, tk, os⟩ fd ⟨Value.ref (hp.objs.size + 1) :: us, []⟩ (ps.zip (Value.ref (hp.objs.size + 1) :: us)) := by
    have z := hb _ (Value.ref (hp.objs.size + 1) :: us) I2.kIn (by rw [List.append_nil]; exact hl)
    rw [List.append_nil] at z
    exact z
  refine wpAny_call (PySem.HandSPX.call_own F.excBase_ValueError (fun Y => PySem.HandSPX.refsVE_contains Y bm hbm) (I1.kIn _ _ hC) (PySem.W.looks_findIn I1.kIn iC) (fun self => PySem.W.bind_fn I1.kIn self tI) hus
    (codeAny_mono (F1.run _ X.stack _ _ ⟨Value.ref (hp.objs.size + 1) :: us, []⟩ (Value.ref (hp.objs.size + 1) :: us) _ _ (fun _ _ _ => False) (hr.make C us []) (I2.env0.make C us []) hb' r2 hq) fun r s' hq' => ?_))
  cases r with
  | error er => exact hx pins σ _ _ er s' I2 hq'
  | ok fl =>
    cases fl with
    | ret u =>
      obtain ⟨v, H', I3, rv, ev, q3⟩ := I2.after hq'
      subst ev
      exact ⟨rv, ⟨V.ref (hp.objs.size + 1), H', I3, rfl, q3⟩⟩
    | next => exact False.elim hq'
    | brk => exact False.elim hq'
    | cont => exact False.elim hq'
end

/-- the promise of «self.f = v» -/
def spX (C : Addr) (f : Str) : Sp := fun vs H Q _ => ∃ (a : Addr) (v : V), vs = [.ref a, v] ∧ H a = some (exo a C none) ∧ ∀ dx, H dx = none → dx ≠ a → Q .non (upd (upd H dx (exd dx [(f, v)])) a (exo a C (some dx)))
/-! ### made and held: what a row of such values leaves -/
theorem same_new {H H' : Hp} {p : Addr} {o : HO} (s : Same H H') (h : H' p = none) : Same H (upd H' p o) := fun a u e => by
  rw [upd_ne (ne_of_none (s a u e) h)]
  exact s a u e
def HasX (H : Hp) (e : V) (C : Addr) (o : Option (Str × V)) : Prop := ∃ a, e = .ref a ∧ (match o with
  | none => H a = some (ExO (.ref C) a)
  | some (f, v) => ∃ d, H a = some (exo a C (some d)) ∧ H d = some (exd d [(f, v)]))
theorem HasX.mono {H H' : Hp} {e : V} {C : Addr} {o : Option (Str × V)} (s : Same H H') (h : HasX H e C o) : HasX H' e C o := by
  obtain ⟨a, ea, h⟩ := h
  refine ⟨a, ea, ?_⟩
  cases o with
  | none => exact s _ _ h
  | some q =>
    obtain ⟨f, v⟩ := q
    obtain ⟨d, h1, h2⟩ := h
    exact ⟨d, s _ _ h1, s _ _ h2⟩
theorem HasX.at {H : Hp} {a C : Addr} {o : Option (Str × V)} (h : HasX H (.ref a) C o) : ExAt H a C := by
  obtain ⟨a', ea, h⟩ := h
  cases ea
  cases o with
  | none => exact .inl h
  | some q =>
    obtain ⟨f, v⟩ := q
    obtain ⟨d, h1, h2⟩ := h
    exact .inr ⟨d, _, h1, h2⟩
abbrev HasAll (H : Hp) : List V → List (Addr × Option (Str × V)) → Prop := Paired fun e c => HasX H e c.1 c.2
theorem HasAll.mono {H H' : Hp} {es : List V} {cs : List (Addr × Option (Str × V))} (s : Same H H') (h : HasAll H es cs) : HasAll H' es cs := Paired.mapP h fun _ _ q => q.mono s
theorem paired_append {α β : Type} {F : α → β → Prop} : ∀ {a : List α} {b : List β} {c : List α} {d : List β}, Paired F a b → Paired F c d → Paired F (a ++ c) (b ++ d)
  | _, _, _, _, .nil, s => s
  | _, _, _, _, .cons r t, s => .cons r (paired_append t s)
theorem paired_get2 {α β : Type} {F : α → β → Prop} : ∀ {a : List α} {b : List β} {i : Nat} {y : β}, Paired F a b → b[i]? = some y → ∃ x, a[i]? = some x ∧ F x y
  | _, _, _, _, .nil, e => by simp at e
  | _, _, 0, _, .cons r _, e => by simp at e; subst e; exact ⟨_, rfl, r⟩
  | _, _, i + 1, x, .cons _ t, e => by
    obtain ⟨u, h1, h2⟩ := paired_get2 (i := i) (y := x) t (by simpa using e)
    exact ⟨u, by simpa using h1, h2⟩
def MkT (te : TE) (σ : St) (C : Addr) (o : Option (Str × V)) : Prop := ∀ (H : Hp) (Q : VK), (∀ e H', Same H H' → HasX H' e C o → Q e H') → te σ H Q
def MkA (ta : TA) (σ : St) (cs : List (Addr × Option (Str × V))) : Prop := ∀ (H : Hp) (Q : List V → Hp → Prop), (∀ es H', Same H H' → HasAll H' es cs → Q es H') → ta σ H Q
theorem MkA.nil {σ : St} : MkA tNil σ [] := fun H Q q => q [] H (Same.refl H) .nil
theorem MkA.cons {te : TE} {ta : TA} {σ : St} {C : Addr} {o : Option (Str × V)} {cs : List (Addr × Option (Str × V))} (h : MkT te σ C o) (t : MkA ta σ cs) : MkA (tCons te ta) σ ((C, o) :: cs) := fun H Q q =>
  h H _ fun e H1 s1 x => t H1 _ fun es H2 s2 xs => q (e :: es) H2 (s1.trans s2) (.cons (x.mono s2) xs)
theorem MkA.lst {ta : TA} {σ : St} {cs : List (Addr × Option (Str × V))} (h : MkA ta σ cs) (hl : cs.length ≤ 1000) {H : Hp} {Q : VK} (q : ∀ p es H', Same H H' → H p = none → H' p = some (.lst es) → HasAll H' es cs → Q (.ref p) H') : tLst ta σ H Q :=
  h H _ fun es H1 s1 xs => ⟨Nat.le_trans (Nat.le_of_eq (Paired.length xs)) (Nat.le_trans hl (by decide)), fun p hp => q p es _ (same_new s1 hp) (s1.free hp) upd_same (xs.mono (same_new (Same.refl _) hp))⟩
theorem MkA.cat {ta : TA} {σ : St} {cs cs2 : List (Addr × Option (Str × V))} {i : Nat} {p : Addr} {es : List V} (h : MkA ta σ cs2) (hl : cs.length + cs2.length ≤ 1000) {H : Hp} {Q : VK} (e : σ[i]? = some (some (.ref p))) (hp : H p = some (.lst es)) (hx : HasAll H es cs)
    (q : ∀ r zs H', Same H H' → H r = none → H' r = some (.lst zs) → HasAll H' zs (cs ++ cs2) → Q (.ref r) H') : tOp rCat (tVar i) (tLst ta) σ H Q := by
  refine ⟨_, e, h.lst (by omega) fun p2 es2 H2 s2 n2 h2 x2 => ?_⟩
  refine ⟨p, p2, es, es2, rfl, rfl, s2 _ _ hp, h2, ?_, fun r hr => ?_⟩
  · rw [Paired.length hx, Paired.length x2]
    exact Nat.le_trans hl (by decide)
  · have s3 : Same H2 (upd H2 r (.lst (es ++ es2))) := same_new (Same.refl _) hr
    exact q r (es ++ es2) _ (s2.trans s3) (s2.free hr) upd_same (HasAll.mono s3 (paired_append (hx.mono s2) x2))
/-- values that leave the heap as it is, whatever has come to it -/
def PuT (te : TE) (σ : St) (H : Hp) (v : V) : Prop := ∀ H', Same H H' → ∀ Q : VK, Q v H' → te σ H' Q
def PuA (ta : TA) (σ : St) (H : Hp) (vs : List V) : Prop := ∀ H', Same H H' → ∀ Q : List V → Hp → Prop, Q vs H' → ta σ H' Q
theorem PuA.nil {σ : St} {H : Hp} : PuA tNil σ H [] := fun _ _ _ q => q
theorem PuA.cons {te : TE} {ta : TA} {σ : St} {H : Hp} {v : V} {vs : List V} (h : PuT te σ H v) (t : PuA ta σ H vs) : PuA (tCons te ta) σ H (v :: vs) := fun H' s Q q => h H' s _ (t H' s _ q)
theorem PuT.var {σ : St} {H : Hp} {i : Nat} {v : V} (e : σ[i]? = some (some v)) : PuT (tVar i) σ H v := fun _ _ _ q => ⟨v, e, q⟩
theorem PuT.c {σ : St} {H : Hp} {v : V} : PuT (tC v) σ H v := fun _ _ _ q => q
theorem PuT.mono {te : TE} {σ : St} {H H' : Hp} {v : V} (s : Same H H') (h : PuT te σ H v) : PuT te σ H' v := fun H2 s2 Q q => h H2 (s.trans s2) Q q
theorem PuA.mono {te : TA} {σ : St} {H H' : Hp} {v : List V} (s : Same H H') (h : PuA te σ H v) : PuA te σ H' v := fun H2 s2 Q q => h H2 (s.trans s2) Q q
theorem PuA.lst {ta : TA} {σ : St} {H : Hp} {vs : List V} (h : PuA ta σ H vs) (hl : vs.length ≤ 1000) {Q : VK} (q : ∀ p H', Same H H' → H p = none → H' p = some (.lst vs) → Q (.ref p) H') : tLst ta σ H Q :=
  h H (Same.refl H) _ ⟨Nat.le_trans hl (by decide), fun p hp => q p _ (same_new (Same.refl H) hp) hp upd_same⟩
theorem PuA.cat {ta : TA} {σ : St} {H : Hp} {vs ws : List V} {i : Nat} {p : Addr} (h : PuA ta σ H ws) (hl : vs.length + ws.length ≤ 1000) (e : σ[i]? = some (some (.ref p))) (hp : H p = some (.lst vs)) {Q : VK}
    (q : ∀ r H', Same H H' → H r = none → H' r = some (.lst (vs ++ ws)) → Q (.ref r) H') : tOp rCat (tVar i) (tLst ta) σ H Q := by
  refine ⟨_, e, h.lst (by omega) fun p2 H2 s2 n2 h2 => ?_⟩
  refine ⟨p, p2, vs, ws, rfl, rfl, s2 _ _ hp, h2, Nat.le_trans hl (by decide), fun r hr => ?_⟩
  exact q r _ (s2.trans (same_new (Same.refl _) hr)) (s2.free hr) upd_same
theorem pu_ix {K : PySem.W.Frag} {σ : St} {H : Hp} {i : Nat} {p : Addr} {xs : List V} {k : Int} {v : V} (e : σ[i]? = some (some (.ref p))) (h : H p = some (.lst xs)) (hk : atI xs k = some v) : PuT (tOp (rIxL K) (tVar i) (tC (.int k))) σ H v := fun _ s _ q =>
  ⟨_, e, z_ixL (SqL.of (s _ _ h)) hk q⟩
theorem pu_len {K : PySem.W.Frag} {σ : St} {H : Hp} {i : Nat} {p : Addr} {xs : List V} {n : Int} (e : σ[i]? = some (some (.ref p))) (h : H p = some (.lst xs)) (hn : (xs.length : Int) = n) : PuT (tCB (rLenS K) (tCons (tVar i) tNil)) σ H (.int n) := fun _ s _ q =>
  ⟨_, e, z_len (SqL.of (s _ _ h)) (by rw [hn]; exact q)⟩
theorem pu_xf {K : PySem.W.Frag} {te : TE} {σ : St} {H : Hp} {e0 C d : Addr} {f : Str} {v : V} (h : PuT te σ H (.ref e0)) (h1 : H e0 = some (exo e0 C (some d))) (h2 : H d = some (exd d [(f, v)])) (T : XfC K C) (no : PySem.W.findIn K (.ref C) f = some none) :
    PuT (tXfV K f te) σ H v := fun H' s Q q => h H' s _ ⟨e0, C, d, _, v, rfl, s _ _ h1, s _ _ h2, T, no, by simp [List.lookup], q⟩
/-- values on whose way new things may be made -/
def GrT (te : TE) (σ : St) (v : V) : Prop := ∀ (H : Hp) (Q : VK), (∀ H', Same H H' → Q v H') → te σ H Q
def GrA (ta : TA) (σ : St) (vs : List V) : Prop := ∀ (H : Hp) (Q : List V → Hp → Prop), (∀ H', Same H H' → Q vs H') → ta σ H Q
theorem GrA.nil {σ : St} : GrA tNil σ [] := fun H _ q => q H (Same.refl H)
theorem GrA.cons {te : TE} {ta : TA} {σ : St} {v : V} {vs : List V} (h : GrT te σ v) (t : GrA ta σ vs) : GrA (tCons te ta) σ (v :: vs) := fun H Q q => h H _ fun H1 s1 => t H1 _ fun H2 s2 => q H2 (s1.trans s2)
theorem GrA.lst {ta : TA} {σ : St} {vs : List V} (h : GrA ta σ vs) (hl : vs.length ≤ 1000) {H : Hp} {Q : VK} (q : ∀ p H', Same H H' → H p = none → H' p = some (.lst vs) → Q (.ref p) H') : tLst ta σ H Q :=
  h H _ fun H1 s1 => ⟨Nat.le_trans hl (by decide), fun p hp => q p _ (same_new s1 hp) (s1.free hp) upd_same⟩
theorem GrA.cat {ta : TA} {σ : St} {vs ws : List V} {i : Nat} {p : Addr} (h : GrA ta σ ws) (hl : vs.length + ws.length ≤ 1000) (e : σ[i]? = some (some (.ref p))) {H : Hp} (hp : H p = some (.lst vs)) {Q : VK}
    (q : ∀ r H', Same H H' → H r = none → H' r = some (.lst (vs ++ ws)) → Q (.ref r) H') : tOp rCat (tVar i) (tLst ta) σ H Q := by
  refine ⟨_, e, h.lst (by omega) fun p2 H2 s2 n2 h2 => ?_⟩
  exact ⟨p, p2, vs, ws, rfl, rfl, s2 _ _ hp, h2, Nat.le_trans hl (by decide), fun r hr => q r _ (s2.trans (same_new (Same.refl _) hr)) (s2.free hr) upd_same⟩
theorem gr_xf {K : PySem.W.Frag} {te : TE} {σ : St} {C : Addr} {f : Str} {v : V} (h : MkT te σ C (some (f, v))) (T : XfC K C) (no : PySem.W.findIn K (.ref C) f = some none) : GrT (tXfV K f te) σ v := fun H Q q =>
  h H _ fun e H' s x => by
    obtain ⟨a, ea, d, h1, h2⟩ := x
    exact ⟨a, C, d, _, v, ea, h1, h2, T, no, by simp [List.lookup], q H' s⟩
/-- [e for i in range(n)], e pure -/
theorem lc_pure {ta : TA} {te : TE} {sl : Nat} {σ : St} {H : Hp} {Q : VK} {n : Nat} {f : Nat → V} (hn : n ≤ 10000) (ha : PuA ta σ H [.int n])
    (he : ∀ i < n, ∀ H', Same H H' → ∀ Q' : VK, Q' (f i) H' → te ((wipe σ [sl]).set sl (some (.int (0 + (i : Int))))) H' Q') (hw : ∀ x : V, wipe ((wipe σ [sl]).set sl (some x)) [sl] = wipe σ [sl])
    (q : ∀ p H', Same H H' → H p = none → H' p = some (.lst ((List.range n).map f)) → Q (.ref p) H') : tLc (iRng1 ta) (gName sl) tYes te [sl] σ H Q := by
  refine ha H (Same.refl H) _ ⟨n, rfl, by omega, by omega, fun D hD => ?_⟩
  have e0 : ((n : Int)).toNat = n := by omega
  rw [e0]
  refine lc_range (fun i H' => Same H H' ∧ H' D = some (.lst ((List.range i).map f))) ⟨same_new (Same.refl H) hD, upd_same⟩ (fun i H' hi ⟨s1, h1⟩ => ?_) (fun H' ⟨s1, h1⟩ => q D H' s1 hD h1)
  refine ⟨hw _, ?_⟩
  show te _ H' _
  refine he i hi H' s1 _ ?_
  refine ⟨_, h1, ?_, fun b o e => ?_, ?_⟩
  · rw [List.length_map, List.length_range]
    exact Nat.lt_of_lt_of_le (by omega : i < 10001) (by decide)
  · rw [upd_ne (ne_of_none e hD)]
    exact s1 b o e
  · rw [upd_same, List.range_succ, List.map_append]
    rfl
/-- X('m') where X has no __init__ of its own -/
def tMk1 (C : Addr) (ta : TE) : TE := fun σ H Q => ta σ H fun _ H1 => ∀ a, H1 a = none → Q (.ref a) (upd H1 a (ExO (.ref C) a))
theorem mk_1 {te : TE} {σ : St} {C : Addr} {v : V} (h : ∀ H, PuT te σ H v) : MkT (tMk1 C te) σ C none := fun H Q q =>
  h H H (Same.refl H) _ fun a ha => q _ _ (same_new (Same.refl H) ha) ⟨a, rfl, upd_same⟩
theorem mk_V {ta : TA} {σ : St} {C : Addr} {f : Str} {v : V} (h : ∀ H, PuA ta σ H [v]) : MkT (tMkV C (spX C f) ta) σ C (some (f, v)) := fun H Q q =>
  h H H (Same.refl H) _ ⟨by show 1 ≤ 1000; decide, fun a ha => ⟨a, v, rfl, upd_same, fun dx hdx hne => ⟨rfl, q _ _ (fun b o e => by
    have n1 : b ≠ a := ne_of_none e ha
    have hd0 : H dx = none := by rw [upd_ne hne] at hdx; exact hdx
    rw [upd_ne n1, upd_ne (ne_of_none e hd0), upd_ne n1]
    exact e) ⟨a, rfl, dx, upd_same, by rw [upd_ne hne, upd_same]⟩⟩⟩⟩
theorem pu_isQ {K : PySem.W.Frag} {ta : TA} {σ : St} {H : Hp} {a C : Addr} {c : V} {cv : Value} {b : Bool} (h : PuA ta σ H [.ref a, c]) (ea : ExAt H a C) (T : ExcC K C) (k : ClsV c cv) (e : PySem.W.kitOne K (.ref C) cv = some b) : PuT (tCB (rIsQ K) ta) σ H (.bl b) := fun H' s Q q =>
  h H' s _ ⟨a, C, c, cv, b, rfl, by
    rcases ea with h | ⟨d, fs, h1, h2⟩
    · exact .inl (s _ _ h)
    · exact .inr ⟨d, fs, s _ _ h1, s _ _ h2⟩, T, k, e, q⟩
theorem ExAt.mono {H H' : Hp} {a C : Addr} (s : Same H H') (h : ExAt H a C) : ExAt H' a C := by
  rcases h with h | ⟨d, fs, h1, h2⟩
  · exact .inl (s _ _ h)
  · exact .inr ⟨d, fs, s _ _ h1, s _ _ h2⟩
theorem z_isQ {K : PySem.W.Frag} {H : Hp} {Q : VK} {a C : Addr} {c : V} {cv : Value} {b : Bool} (ea : ExAt H a C) (T : ExcC K C) (k : ClsV c cv) (e : PySem.W.kitOne K (.ref C) cv = some b) (q : Q (.bl b) H) : rIsQ K [.ref a, c] H Q := ⟨a, C, c, cv, b, rfl, ea, T, k, e, q⟩
/-- an own exception class with one field, as the text has it -/
structure ClsX (P : Program) (w : World) (K : PySem.W.Frag) (mg : Str → Option Value) (base : Heap) (x f : Str) : Prop where
  T : OexC K (He.ga K x)
  g : mg x = some (.ref (He.ga K x))
  i : PySem.W.findIn K (.ref (He.ga K x)) "__init__" = some (some (.ref (He.ma K (He.ga K x) "__init__")))
  t : PySem.W.typeIn K (.ref (He.ma K (He.ga K x) "__init__")) = some (.type "function")
  fn : ∃ fd, FnOk P w K mg base CX0 1 (He.ma K (He.ga K x) "__init__") fd ["self", f] (spX (He.ga K x) f) ∧ Binds K fd ["self", f] []
  no : PySem.W.findIn K (.ref (He.ga K x)) f = some none
/-- one without fields -/
structure Cls0 (K : PySem.W.Frag) (mg : Str → Option Value) (x : Str) : Prop where
  q : PySem.W.excIn K (He.ga K x) He.veBase "ValueError.__new__" = true
  g : mg x = some (.ref (He.ga K x))
  k : PySem.W.keepIn K (.ref (He.ga K x)) = true
section
variable {X : Cx} {x f : Str} {e : Expr} {es : List Expr} {ta : TA} {te : TE} {p pos : Pos}
theorem pe_clsX (C : ClsX X.prog X.w X.K X.mg X.base x f) (hr : Room 2 X.A) (hg : Gl X x) (ha : PA X (e :: es) ta) (hdb : (x == ("__debug__" : Str)) = false := by decide) (he : starEach (e :: es) X.env = (false, eval e X.env) :: starEach es X.env := by rfl)
    (hpl : (backTo pos (starEach es X.env)).any (·.1) = false := by rfl) : PE X (.Call (.Name x p) (e :: es) [] pos) (tMkV (He.ga X.K x) (spX (He.ga X.K x) f) ta) := by
  obtain ⟨fd, F, b⟩ := C.fn
  exact pe_excV C.T C.i C.t F hr b pass0 hg C.g ha hdb he hpl
theorem pe_cls0 (C : Cls0 X.K X.mg x) (hg : Gl X x) (he : PE X e te) (hs : starEach [e] X.env = (false, eval e X.env) :: starEach [] X.env := by rfl) (hdb : (x == ("__debug__" : Str)) = false := by decide) :
    PE X (.Call (.Name x p) [e] [] pos) (tMk1 (He.ga X.K x) te) := pe_exc1 PySem.F.excBase_ValueError C.q C.g C.k hg he hs hdb
end
/-- the __init__ of such a class -/
theorem init_ok {P : Program} {w : World} {K : PySem.W.Frag} {mg : Str → Option Value} {base : Heap} {x f qual : Str} {st : Stmt} {fd : FuncData} (F : FunD K "__init__" qual (defArgs st) (defBody st) (defScope st) [] [] (He.ma K (He.ga K x) "__init__") fd) (S : FnScope ["self", f] ["self", f] (defScope st))
    (T : OexC K (He.ga K x)) (no : PySem.W.findIn K (.ref (He.ga K x)) f = some none)
    (hbody : ∀ (cdv : Value) (A : Around) (outer : List Env) (s : Shared) (H : Hp) (E : XK), PSs (cxOf CX0 P w K mg base ["self", f] qual (defScope st) (He.ma K (He.ga K x) "__init__") cdv A outer s H E) (defBody st) (tOst K f (tVar 0) (tVar 1))) :
    FnOk P w K mg base CX0 1 (He.ma K (He.ga K x) "__init__") fd ["self", f] (spX (He.ga K x) f) := by
  refine F.ok S (fun vs H Q E h => ?_) (fun cdv A outer s H vs Q E hr h => ⟨_, hbody cdv A outer s H E, ?_⟩)
  · obtain ⟨a, v, rfl, _⟩ := h
    rfl
  · obtain ⟨a, v, rfl, ea, k⟩ := h
    exact ⟨v, rfl, .ref a, rfl, a, _, rfl, T, no, .inl ⟨ea, fun dx hd hne => k dx hd hne⟩⟩
/-! ### facts of the head, as one test -/
def xcB (K : PySem.W.Frag) (D : Addr) : Bool :=
  decide (PySem.W.findIn K (.ref D) "__getattribute__" = some (some (.builtin "BaseException.__getattribute__"))) && (decide (PySem.W.findIn K (.ref D) "__getattr__" = some none) && (decide (PySem.W.subIn K (.ref D) (.type "BaseException") = some true) &&
  (PySem.W.hasDictIn K D && (decide (PySem.W.findIn K (.ref D) "__class__" = some (some (.builtin "object.__class__"))) && (decide (PySem.W.specialIn K (.builtin "object.__class__") "__get__" = some (some (.builtin "getset_descriptor.__get__"))) &&
  (decide (PySem.W.takesIn K (.builtin "object.__class__") = some true) && decide (PySem.W.mroIn K D (.type "object") = some true)))))))
theorem xcB_ok {K : PySem.W.Frag} {D : Addr} (h : xcB K D = true) : ExcC K D := by
  obtain ⟨h1, h⟩ := He.ba h
  obtain ⟨h2, h⟩ := He.ba h
  obtain ⟨h3, h⟩ := He.ba h
  obtain ⟨h4, h⟩ := He.ba h
  obtain ⟨h5, h⟩ := He.ba h
  obtain ⟨h6, h⟩ := He.ba h
  obtain ⟨h7, h8⟩ := He.ba h
  exact ⟨of_decide_eq_true h1, of_decide_eq_true h2, of_decide_eq_true h3, h4, of_decide_eq_true h5, of_decide_eq_true h6, of_decide_eq_true h7, of_decide_eq_true h8⟩
theorem xf_of {K : PySem.W.Frag} {D : Addr} (h : ExcC K D) : XfC K D := ⟨h.hg, h.hk, h.hs, h.hd⟩
def oexB (K : PySem.W.Frag) (C : Addr) : Bool := (match K.lookup C with
  | some ⟨.type "type", _, .cls cd, sl⟩ => (match cd.mro, sl.toList with
    | .ref C' :: bm, [_, _, _, _, some (.builtin n), _] => C' == C && (n == "ValueError.__new__" && (!cd.hasDel && (cd.hasDict && PySem.HandSPX.refsVE bm)))
    | _, _ => false)
  | _ => false) && (decide (PySem.W.findIn K (.ref C) "__setattr__" = some (some (.builtin "object.__setattr__"))) && (decide (PySem.W.subIn K (.ref C) (.type "BaseException") = some true) && (decide (PySem.W.typeIn K (.ref C) = some (.type "type")) && PySem.W.keepIn K (.ref C))))
theorem oexB_ok {K : PySem.W.Frag} {C : Addr} (h : oexB K C = true) : OexC K C := by
  obtain ⟨q, h⟩ := He.ba h
  obtain ⟨h2, h⟩ := He.ba h
  obtain ⟨h3, h⟩ := He.ba h
  obtain ⟨h4, h5⟩ := He.ba h
  refine ⟨?_, of_decide_eq_true h2, of_decide_eq_true h3, of_decide_eq_true h4, h5⟩
  split at q
  · rename_i dd cd sl ho
    split at q
    · rename_i C' bm k0 k1 k2 k3 n k5 hm hs
      simp only [Bool.and_eq_true, beq_iff_eq, Bool.not_eq_true'] at q
      obtain ⟨rfl, rfl, hdel, hdct, ht⟩ := q
      obtain ⟨nm, bs, mro, ns, qn, hd, sn, sub, ab, col, del⟩ := cd
      dsimp only at hm hdel hdct
      subst hm hdel hdct
      have hsl : sl = #[k0, k1, k2, k3, some (.builtin "ValueError.__new__"), k5] := by
        obtain ⟨l⟩ := sl
        simp only at hs
        rw [hs]
      subst hsl
      exact ⟨nm, qn, ns, bs, bm, sn, sub, ab, col, dd, k0, k1, k2, k3, k5, ho, ht⟩
    · cases q
  · cases q
end Z

set_option Elab.async false
set_option linter.all false
set_option maxRecDepth 100000
set_option maxHeartbeats 4000000
namespace Z
open PySem PySem.Spec L2
open PyProof.Rows hiding St
/-! ### defs that are called where no repr is under way -/
structure FnOkG (P : Program) (w : World) (K : PySem.W.Frag) (mg : Str → Option Value) (base : Heap) (CX : CXT) (k : Nat) (f : Addr) (fd : FuncData) (ps : List Str) (sp : Sp) : Prop where
  len : ∀ vs H Q E, sp vs H Q E → vs.length = ps.length
  run : ∀ (A : Around) (outer : List Env) (s : Shared) (H : Hp) (args : Args) (us : List Value) (vs : List V) (Q : VK) (E : XK), Room k A → A.guards = some [] → Env0 P w K mg base A outer s H → BindsTo s fd args (ps.zip us) → Vals vs us → sp vs H Q E →
    codeAny (model P w) A (.call (.ref f) args) (CR CX outer P w H s Q E) s
section
variable {P : Program} {w : World} {K : PySem.W.Frag} {mg : Str → Option Value} {base : Heap} {CX : CXT} {k : Nat}
theorem FnOkG.of {f : Addr} {fd : FuncData} {ps : List Str} {sp : Sp} (F : FnOk P w K mg base CX k f fd ps sp) : FnOkG P w K mg base CX k f fd ps sp := ⟨F.len, fun A o s H a us vs Q E hr _ e b v h => F.run A o s H a us vs Q E hr e b v h⟩
theorem FnOkG.mono {j : Nat} {f : Addr} {fd : FuncData} {ps : List Str} {sp : Sp} (F : FnOkG P w K mg base CX j f fd ps sp) (h : j ≤ k) : FnOkG P w K mg base CX k f fd ps sp := ⟨F.len, fun A o s H a us vs Q E hr => F.run A o s H a us vs Q E (hr.mono h)⟩
theorem fn_okG {x : Str} {st : Stmt} {N ps : List Str} {sp : Sp} {f : Addr} {fd : FuncData} (F : FnP K x st f fd) (S : FnScope N ps (defScope st)) (len : ∀ vs H Q E, sp vs H Q E → vs.length = ps.length)
    (hbody : ∀ (cdv : Value) (A : Around) (outer : List Env) (s : Shared) (H : Hp) (vs : List V) (Q : VK) (E : XK), Room k (A.deeper (envOfC x (defScope st) s.heap.objs.size f cdv)) → (A.deeper (envOfC x (defScope st) s.heap.objs.size f cdv)).guards = some [] → sp vs H Q E →
      ∃ t, PSs (cxOf CX P w K mg base N x (defScope st) f cdv A outer s H E) (defBody st) t ∧ t { nx := fun _ H' => Q .non H', rt := Q } (start N vs) H) : FnOkG P w K mg base CX (k + 1) f fd ps sp := by
  obtain ⟨oc, od, dV, kV, doc, pm, an, cdv, ct, osl, rfl, lk, hcd, _, _⟩ := F.ex
  refine ⟨len, fun A outer s H args us vs Q E hr hgd e0 hb r hsp => ?_⟩
  have hl : vs.length = ps.length := len _ _ _ _ hsp
  have KX : K.In s.heap := e0.mod.kin.keeps fun b o e => (e0.bs b o e).1
  have lim : s.heap.NoLimit := e0.mod.nolimit.keeps fun b o e => (e0.bs b o e).1
  have names : ∀ y ∈ ps.zip us, (defScope st).names.lookup y.1 = some .local ∨ ((defScope st).names.lookup y.1 = some .cell ∧ ((cellsFrom (s.heap.objs.size + 1) (defScope st).names []).lookup y.1).isSome = true) := fun y hy =>
    (S.par y.1 (List.of_mem_zip hy).1).imp id fun q => ⟨q, PySem.W.cellsFrom_some _ _ _ (.inl q)⟩
  refine codeAny_call_function hr.depth (KX _ _ lk) rfl S.co S.gen rfl (PySem.W.codeRec_of KX hcd) (hb _ _ _ _ (wpAny_newFunctionEnv_cells S.kind names fun env he s1 y => ?_))
  subst he
  refine ⟨lim.keeps y.toInCall.keep, codeAny_func ?_⟩
  obtain ⟨t, ht, hq⟩ := hbody cdv A outer s H vs Q E (hr.deeper _) hgd hsp
  refine wpAny_mono (ht.run [] s1 (start N vs) H _ (inv_start S hr.hd e0 hl r y) hq) (fun fl s' hs => ?_) fun _ _ z => z
  cases fl with
  | ret u =>
    obtain ⟨v, _, H', J, rv, q⟩ := hs
    exact ⟨v, H', J.os, J.bare, J.base, J.hok, rv, q⟩
  | next =>
    obtain ⟨_, H', J, q⟩ := hs
    exact ⟨.non, H', J.os, J.bare, J.base, J.hok, rfl, q⟩
  | brk => exact hs.choose_spec.choose_spec.2.elim
  | cont => exact hs.choose_spec.choose_spec.2.elim
structure CallOkG (P : Program) (w : World) (K : PySem.W.Frag) (mg : Str → Option Value) (base : Heap) (CX : CXT) (k : Nat) (x : Str) (ps : List Str) (sp : Sp) : Prop where
  ex : ∃ (f : Addr) (fd : FuncData), FnOkG P w K mg base CX k f fd ps sp ∧ mg x = some (.ref f) ∧ PySem.W.keepIn K (.ref f) = true ∧ Binds K fd ps []
theorem fn_okG0 {x : Str} {st : Stmt} {N ps : List Str} {sp : Sp} {f : Addr} {fd : FuncData} (F : FnP K x st f fd) (S : FnScope N ps (defScope st)) (len : ∀ vs H Q E, sp vs H Q E → vs.length = ps.length)
    (hbody : ∀ (cdv : Value) (A : Around) (outer : List Env) (s : Shared) (H : Hp) (vs : List V) (Q : VK) (E : XK), Room k (A.deeper (envOfC x (defScope st) s.heap.objs.size f cdv)) → (A.deeper (envOfC x (defScope st) s.heap.objs.size f cdv)).guards = some [] → sp vs H Q E →
      ∃ t, PSs (cxOf CX0 P w K mg base N x (defScope st) f cdv A outer s H E).nox (defBody st) t ∧ t { nx := fun _ H' => Q .non H', rt := Q } (start N vs) H) : FnOkG P w K mg base CX0 (k + 1) f fd ps sp :=
  fn_okG F S len fun cdv A outer s H vs Q E hr hgd h => by
    obtain ⟨t, h1, h2⟩ := hbody cdv A outer s H vs Q E hr hgd h
    exact ⟨t, h1.nox, h2⟩
theorem def_okG0 {x : Str} {st : Stmt} {N ps : List Str} {sp : Sp} (D : Def K mg x st) (S : FnScope N ps (defScope st)) (len : ∀ vs H Q E, sp vs H Q E → vs.length = ps.length)
    (hbind : ∀ (kV doc pm : Value) (an : Option Addr) (cdv ct : Value) (us : List Value), us.length = ps.length → bindArgs (PySem.W.fnOf x x (defArgs st) (defBody st) (defScope st) .none kV doc pm an cdv ct) ⟨us, []⟩ = pure (ps.zip us))
    (hbody : ∀ (f : Addr) (cdv : Value) (A : Around) (outer : List Env) (s : Shared) (H : Hp) (vs : List V) (Q : VK) (E : XK), Room k (A.deeper (envOfC x (defScope st) s.heap.objs.size f cdv)) → (A.deeper (envOfC x (defScope st) s.heap.objs.size f cdv)).guards = some [] → sp vs H Q E →
      ∃ t, PSs (cxOf CX0 P w K mg base N x (defScope st) f cdv A outer s H E).nox (defBody st) t ∧ t { nx := fun _ H' => Q .non H', rt := Q } (start N vs) H) : CallOkG P w K mg base CX0 (k + 1) x ps sp := by
  obtain ⟨f, fd, F, g⟩ := D
  exact ⟨⟨f, fd, fn_okG0 F S len (fun cdv A outer s H vs Q E hr hgd h => hbody f cdv A outer s H vs Q E hr hgd h), g, F.kp, F.bindsN hbind⟩⟩
end
section
variable {X : Cx} {CX : CXT} {k : Nat} {x : Str} {ps : List Str} {sp : Sp} {E : XK} {p pos : Pos} {e : Expr} {es : List Expr} {t : TA}
theorem pe_ownG (C : CallOkG X.prog X.w X.K X.mg X.base CX k x ps sp) (hgd : X.A.guards = some []) (hr : Room k X.A) (hg : Gl X x) (hx : Passes CX X E) (ha : PA X (e :: es) t)
    (hdb : (x == ("__debug__" : Str)) = false := by decide) (he : starEach (e :: es) X.env = (false, eval e X.env) :: starEach es X.env := by rfl) (hpl : (backTo pos (starEach es X.env)).any (·.1) = false := by rfl) :
    PE X (.Call (.Name x p) (e :: es) [] pos) (tCall sp [] E t) := by
  obtain ⟨f, fd, F, hm, hk, hb⟩ := C.ex
  refine ⟨fun pins s σ H Q I h => wpAny_Call_Name_kw (ld_glob I hg hm ?_ hdb)⟩
  refine PySem.W.callWith_K (h₀ := X.base) I.ok.mod.kin hk (thn (ha.run pos pins s σ H _ I h) fun us s1 ⟨vs, H1, I1, r, q⟩ => ⟨I1.kIn, ?_⟩) he hpl
  have q' : sp vs H1 Q E := by
    have z : sp (vs ++ []) H1 Q E := q
    rw [List.append_nil] at z
    exact z
  have b' : BindsTo s1 fd ⟨us, []⟩ (ps.zip us) := by
    have z := hb s1 us I1.kIn (by rw [List.append_nil, ← r.length]; exact F.len _ _ _ _ q')
    rw [List.append_nil] at z
    exact z
  refine wpAny_call (codeAny_mono (F.run X.A X.stack s1 H1 ⟨us, []⟩ us vs Q E hr hgd I1.env0 b' r q') fun r s' hq => ?_)
  cases r with
  | error e => exact hx pins σ H1 s1 e s' I1 hq
  | ok fl =>
    cases fl with
    | ret u => exact I1.after hq
    | _ => exact False.elim hq
/-- repr of data -/
def rReprD (K : PySem.W.Frag) : List V → Hp → VK → Prop := fun xs H Q => ∃ (a : Addr) (d : PyData), xs = [.ref a] ∧ Dp K H (.ref a) d ∧ d.showable = true ∧ d.hasDict = false ∧ d.depth ≤ 60 ∧ d.shown.length ≤ sizeLine ∧ Q (.str d.shown) H
theorem cReprD (hgd : X.A.guards = some []) (hu : X.A.units + 64 < cLine) : CallR X (.builtin "repr") (rReprD X.K) := by
  intro pins s σ H xs us Q I r h
  obtain ⟨a, d, rfl, hd, hs, hn, hdp, hz, q⟩ := h
  obtain ⟨u, rfl, ru⟩ := vals1 r
  cases (show u = Value.ref a from ru)
  obtain ⟨as, R⟩ := Dp.reads I d _ _ hd ru
  exact repr_of_reads' R hs (PyData.noDict_hsm hn) hgd (by omega) (fun _ _ e => e) (fun h' u tk k => ⟨.str d.shown, H, I.kept k, ⟨u, rfl⟩, q⟩) hz
end
/-! ### the law's end -/
theorem law_callG {P : Program} {w : World} {K : PySem.W.Frag} {mg mb : Str → Option Value} {k : Nat} {fa a : Addr} {fd : FuncData} {x : Str} {sp : Sp} {s₁ : Shared} {vs : List Value} {ns : List Int}
    (KX : K.In s₁.heap) (hns : s₁.heap.Ns mainGlobals mg) (hb : s₁.heap.Ns builtinsNs mb) (hbb : ∀ x : Str, x ≠ "__name__" → mb x = bootBuiltins x) (hlim : s₁.heap.NoLimit) (hg : s₁.gens = #[])
    (ha : s₁.heap.get? a = some { cls := .type "list", data := .seq vs.toArray }) (hi : IntsAre vs ns) (hl : ns.length ≤ sizeLine) (hr : Room k callerA)
    (F : ∀ base : Heap, K.In base → base.Ns mainGlobals mg → FnOkG P w K mg base CX0 k fa fd [x] sp) (hbind : ∀ (s : Shared) (u : Value), BindsTo s fd ⟨[u], []⟩ [(x, u)])
    (hsp : ∀ H : Hp, SqL K H a (ns.map V.int) → sp [.ref a] H (fun v _ => v = .bl true) fun _ _ _ => False) :
    codeAny (model P w) callerA (.call (.ref fa) ⟨[.ref a], []⟩) (fun r s' => r = .ok (.ret (.bool true)) ∧ OldK s₁.heap s'.heap ∧ s'.os = s₁.os ∧ AllBare s'.gens) s₁ := by
  have rv : Vals (ns.map V.int) vs := vals_of_ints hi
  -- at a heap of which the script alone may be tracked
  have core : ∀ H : Hp, (∀ b u, H b = some u → b = a ∧ ∃ o xs, u = .frz o (.lst xs)) → SqL K H a (ns.map V.int) → HOk P w H s₁.heap → (H a = none ∨ K.lookup a = none) →
      codeAny (model P w) callerA (.call (.ref fa) ⟨[.ref a], []⟩) (fun r s' => r = .ok (.ret (.bool true)) ∧ OldK s₁.heap s'.heap ∧ s'.os = s₁.os ∧ AllBare s'.gens) s₁ := by
    intro H hO hS hok hK
    have dict0 : ∀ {b : Addr} {o : Obj} {es : Array DictEntry} {ep : Nat}, s₁.heap.get? b = some o → o.data = .dict es ep → H b = none := fun {b o es ep} e d => by
      cases q : H b with
      | none => rfl
      | some u =>
        obtain ⟨rfl, _⟩ := hO b u q
        rw [ha] at e
        cases e
        exact absurd (show Data.seq vs.toArray _ = Data.dict es ep from d) (fun z => by cases z)
    have ns' : ∀ {b : Addr} {m : Str → Option Value}, s₁.heap.Ns b m → (hidT s₁.heap H).Ns b m := fun ⟨o, es, ep, e, d, r⟩ => ⟨o, es, ep, hidT_get e (dict0 e d), d, r⟩
    have K' : K.In (hidT s₁.heap H) := fun b o e => hidT_get (KX b o e) (by
      cases q : H b with
      | none => rfl
      | some u =>
        obtain ⟨rfl, _⟩ := hO b u q
        rcases hK with z | z
        · rw [q] at z
          cases z
        · rw [z] at e
          cases e)
    have lim' : (hidT s₁.heap H).NoLimit := by
      obtain ⟨mc, h1, h2⟩ := hlim
      exact ⟨mc, ns' h1, h2⟩
    have e0 : Env0 P w K mg (hidT s₁.heap H) callerA [] s₁ H := ⟨rfl, ⟨K', ns' hns, ⟨mb, ns' hb, hbb⟩, lim'⟩, fun _ _ e => of_hidT e, Nat.le_of_eq (hidT_size _ _), trivial, (fun b z => absurd z (by simp [frs])), hok, .of_eq hg⟩
    refine codeAny_mono ((F _ K' (ns' hns)).run callerA [] s₁ H ⟨[.ref a], []⟩ [.ref a] [.ref a] _ _ hr rfl e0 (hbind s₁ (.ref a)) (.cons rfl .nil) (hsp H hS)) fun r s' h => ?_
    cases r with
    | error e => exact False.elim h
    | ok fl =>
      cases fl with
      | ret u =>
        obtain ⟨v, H', os, bare, un, hok', rvu, q⟩ := h
        cases (show v = .bl true from q)
        cases (show u = Value.bool true from rvu)
        refine ⟨rfl, OldK.of_keep fun b o e => ?_, os, bare⟩
        cases q : H b with
        | none => exact un.keep b o e q (by simp [frs]) (by simp)
        | some u =>
          obtain ⟨rfl, ob, xs, rfl⟩ := hO b u q
          obtain ⟨e1, _⟩ := hok b _ q
          obtain ⟨e2, _⟩ := hok' b _ (un.frzs b ob _ q)
          exact e2.trans (e1.symm.trans e)
      | _ => exact False.elim h
  cases hk : K.lookup a with
  | some o =>
    have e := KX a o hk
    rw [ha] at e
    cases e
    exact core (fun _ => none) (fun b u z => by cases z) (.inr ⟨_, vs.toArray, _, hk, rfl, rfl, rfl, by rw [List.size_toArray, hi.length]; exact hl, by simpa using rv⟩) (fun b u z => by cases z) (.inl rfl)
  | none =>
    have at_ : ∀ b u, (if b = a then some (HO.frz { cls := .type "list", data := .seq vs.toArray } (.lst (ns.map V.int))) else none) = some u → b = a ∧ u = HO.frz { cls := .type "list", data := .seq vs.toArray } (.lst (ns.map V.int)) := fun b u z => by
      by_cases hba : b = a
      · rw [if_pos hba] at z
        exact ⟨hba, (Option.some.inj z).symm⟩
      · rw [if_neg hba] at z
        cases z
    refine core (fun b => if b = a then some (.frz { cls := .type "list", data := .seq vs.toArray } (.lst (ns.map V.int))) else none) (fun b u z => ⟨(at_ b u z).1, _, _, (at_ b u z).2⟩) (.inl (.inr ⟨_, if_pos rfl⟩)) (fun b u z => ?_) (.inr hk)
    obtain ⟨rfl, rfl⟩ := at_ b u z
    exact ⟨ha, by rw [List.length_map]; exact hl, vs, _, rv, ha⟩
theorem walk_G {l : PySem.W.OpenLaw} {n k : Nat} {q : Program} {loose : List Str} {XP : (Str → Option Value) → Heap → Prop} {YP : World → Heap → Prop} {d : DefRec} {x : Str}
    (hn : l.most = some n) (hn2 : n ≤ sizeLine) (hdf : d.params.defaults = []) (hr : Room k callerA)
    (F : ∀ (w : World) (mg : Str → Option Value) (fa : Addr) (h : Heap), YP w h → h.Ns mainGlobals mg → mg d.name = some (.ref fa) →
      ∃ (K : PySem.W.Frag) (fd : FuncData) (sp : Sp), K.In h ∧ (∀ (s : Shared) (u : Value), BindsTo s fd ⟨[u], []⟩ [(x, u)]) ∧
        (∀ (H : Hp) (a : Addr) (ns : List Int), ns.length ≤ n → SqL K H a (ns.map V.int) → sp [.ref a] H (fun v _ => v = .bl true) fun _ _ _ => False) ∧
        ∀ base : Heap, K.In base → base.Ns mainGlobals mg → FnOkG l.prog w K mg base CX0 k fa fd [x] sp) :
    PySem.W.WalkO q loose XP YP l.row.toRowW d [] (fun f vs => PySem.call f vs) := by
  refine Att.attach_call hn hdf fun w s₀ s₁ mg mb fa o pm cd doc a vs ns G Y ho hd hcd hmg hobj hints hlen hg => ?_
  obtain ⟨K, fd, sp, KX, hb, hsp, hF⟩ := F w mg fa _ Y G.T.g hmg
  exact law_callG KX G.T.g G.T.b G.T.builtins G.T.nolimit hg hobj hints (Nat.le_trans hlen hn2) hr hF hb fun H hS => hsp H a ns hlen hS
end Z

set_option Elab.async false
set_option linter.all false
set_option maxRecDepth 100000
set_option maxHeartbeats 4000000
namespace Z
open PySem PySem.Spec L2
open PyProof.Rows hiding St
/-! ### powers of great numbers -/
def CPowW (i j : Int) : Prop := 0 ≤ j ∧ (Builtin.Int.intBits i : Int) * j ≤ 2 ^ 27
theorem powW_of {i j : Int} {b : Nat} (h0 : 0 ≤ j) (hb : i.natAbs < 2 ^ b) (h1 : 0 < b) (h : ((b : Int) + 1) * j ≤ 2 ^ 27) : CPowW i j := by
  refine ⟨h0, Int.le_trans (Int.mul_le_mul_of_nonneg_right ?_ h0) h⟩
  have q := PySem.Flt.log2_lt_of h1 hb
  unfold Builtin.Int.intBits
  split <;> omega
section
variable {X : Cx}
theorem op_powW : OpR X (binaryOp .Pow) (rI CPowW fun i j => .int (i ^ j.toNat)) := opI fun _ _ _ _ _ _ _ hc q => pow_int hc.1 hc.2 q
/-! ### max of a tuple of whole numbers -/
def rMaxT (K : PySem.W.Frag) : List V → Hp → VK → Prop := fun xs H Q => ∃ (a : Addr) (n : Int) (ns : List Int), xs = [.ref a] ∧ SqT K H a ((n :: ns).map V.int) ∧ ∀ m, m ∈ n :: ns → Q (.int m) H
end
/-! ### == and != of own instances -/
def rEqO (K : PySem.W.Frag) (C : Addr) (sp : Sp) : R2 := fun x y H Q => ∃ (a dx : Addr) (fs : List (Str × V)) (t : Value), x = .ref a ∧ H a = some (.ins C dx fs) ∧ TyX K H y t ∧ PySem.W.notFirst K C t = true ∧ sp [.ref a, y] H (fun v H' => ∃ b, v = .bl b ∧ Q (.bl b) H') (fun _ _ _ => False)
def rNeO (C : Addr) (sp : Sp) : R2 := fun x y H Q => ∃ (a b dx dy : Addr) (fs gs : List (Str × V)), x = .ref a ∧ y = .ref b ∧ H a = some (.ins C dx fs) ∧ H b = some (.ins C dy gs) ∧ sp [.ref a, .ref b] H (fun v H' => ∃ b, v = .bl b ∧ Q (.bl (!b)) H') (fun _ _ _ => False)
/-- the class's own ==, no != of its own, no other base -/
def neB (K : PySem.W.Frag) (C f : Addr) : Bool := match K.lookup C with
  | some ⟨.type "type", _, .cls cd, sl⟩ => (match cd.mro, sl.toList with
    | [.ref C', .type "object"], [_, _, _, _, some (.builtin n), _] => C' == C && (!cd.hasDel && (PySem.W.nsOkIn K cd.ns && (decide (PySem.W.nsIn K cd.ns "__eq__" = some (some (.ref f))) && decide (PySem.W.nsIn K cd.ns "__ne__" = some none))))
    | _, _ => false)
  | _ => false
theorem ns_some_of {K : PySem.W.Frag} {h : Heap} {N : Addr} {mg : Str → Option Value} {n : Str} {v : Value} (X : K.In h) (G : h.Ns N mg) (e : PySem.W.nsIn K N n = some (some v)) : mg n = some v := by
  obtain ⟨o, es, ep, ho, hd, _, hf⟩ := G
  unfold PySem.W.nsIn at e
  split at e
  · rename_i c d es' n' sl q
    have q2 := X _ _ q
    rw [ho] at q2
    cases q2
    cases hd
    split at e
    · rename_i en he
      cases e
      rw [← hf]
      unfold nsFind findBy
      rw [← Array.find?_toList, he]
      rfl
    · split at e <;> cases e
  · cases e
theorem ownNe_of {K : PySem.W.Frag} {h : Heap} {C f x dx : Addr} {od : Option Obj} {ox : Obj} (X : K.In h) (q : neB K C f = true) (hf : PySem.W.isFn K (.ref f) = true) (I : PySem.W.InstAt h x ox C od) : h.OwnEqNoNe x C f "object" [.type "object"] := by
  unfold neB at q
  split at q
  · rename_i dd cd sl ho
    split at q
    · rename_i C' k0 k1 k2 k3 n k5 hm hs
      simp only [Bool.and_eq_true, beq_iff_eq, Bool.not_eq_true', decide_eq_true_eq] at q
      obtain ⟨rfl, hdel, hok, heq, hne⟩ := q
      obtain ⟨nm, bs, mro, ns, qn, hd, sn, sub, ab, col, del⟩ := cd
      dsimp only at hm hdel hok heq hne
      subst hm hdel
      have hsl : sl = #[k0, k1, k2, k3, some (.builtin n), k5] := by
        obtain ⟨l⟩ := sl
        simp only at hs
        rw [hs]
      subst hsl
      have hfn : (K.lookup f).map (·.cls) = some (.type "function") := beq_iff_eq.mp hf
      obtain ⟨ofn, hlf, hcf⟩ := Option.map_eq_some_iff.mp hfn
      have G : h.Ns ns (h.nsMap ns) := .of_isNs (PySem.W.isNs_of_in X hok)
      exact ⟨ox, ofn, nm, qn, ns, bs, hd, sn, sub, ab, col, dd, k0, k1, k2, k3, k5, n, h.nsMap ns, _, I.1, I.2, X _ _ ho, G, ns_some_of X G heq, X _ _ hlf, hcf, F.cmp_object.mro, F.cmp_object.eq.lookup, PySem.W.ns_none_of X G hne⟩
    · cases q
  · cases q
section
variable {X : Cx} {C f : Addr} {k : Nat} {fd : FuncData} {ps : List Str} {sp : Sp}
theorem op_eqO (F : FnOk X.prog X.w X.K X.mg X.base CX0 k f fd ps sp) (hs : PySem.W.findIn X.K (.ref C) "__eq__" = some (some (.ref f))) (hf : PySem.W.isFn X.K (.ref f) = true) (hb : Binds X.K fd ps []) (hr : Room k X.A) : OpR X (compareOp .Eq) (rEqO X.K C sp) := by
  intro pins s σ H x y v u Q I rx ry hq
  obtain ⟨a, dx, fs, t, rfl, ha, ty, hn, q⟩ := hq
  cases rx
  obtain ⟨P, Z, p, _⟩ := kit_of I ry ty
  obtain ⟨mA, J, _⟩ := ins_get I.hok ha
  obtain ⟨od, J, _⟩ := J.look
  obtain ⟨m, hF⟩ := I.fr
  show wpAny (model X.prog X.w) X.A (richCompare .Eq (.ref a) u) (EP X pins σ Q) X.xe s
  refine PySem.W.cmp_K (op := .Eq) (tb := t) hr.units0 hF I.ok.mod.kin J (Z.ty _ _ I.kIn p) hn hs hf ?_
  refine wpAny_mono (run_fn (us := [.ref a, u]) (vs := [.ref a, y]) (E := fun _ _ _ => False) F hr hb .nil pass0 I (.cons rfl (.cons ry .nil)) (by rw [List.append_nil]; exact q)) (fun r s' h => ?_) fun _ _ z => z
  obtain ⟨z, H', I', rz, b, ez, q'⟩ := h
  subst ez
  cases rz
  exact ⟨.bl b, H', I', rfl, q'⟩
theorem op_neO (F : FnOk X.prog X.w X.K X.mg X.base CX0 k f fd ps sp) (q0 : neB X.K C f = true) (hf : PySem.W.isFn X.K (.ref f) = true) (hb : Binds X.K fd ps []) (hr : Room (k + 1) X.A) : OpR X (compareOp .NotEq) (rNeO C sp) := by
  intro pins s σ H x y v u Q I rx ry hq
  obtain ⟨a, b, dx, dy, fs, gs, rfl, rfl, ha, hb', q⟩ := hq
  cases rx
  cases ry
  obtain ⟨mA, J, _⟩ := ins_get I.hok ha
  obtain ⟨od, J, _⟩ := J.look
  obtain ⟨mB, J2, _⟩ := ins_get I.hok hb'
  obtain ⟨od2, J2, _⟩ := J2.look
  have W := ownNe_of (dx := dx) I.kIn q0 hf J
  have e0 : Env0 X.prog X.w X.K X.mg X.base X.A.in1 X.stack s H := I.env0.in1
  have bd : BindsTo s fd ⟨[.ref a, .ref b], []⟩ (ps.zip [.ref a, .ref b]) := by
    have z := hb s [.ref a, .ref b] I.kIn (by
      have l := F.len _ _ _ _ q
      rw [← l]
      rfl)
    rw [List.append_nil] at z
    exact z
  obtain ⟨h, g, d, t, os⟩ := s
  refine compareOp_ne_ownEq PySem.F.cmp_object W (oy := PySem.W.instObj C dy) J2.1 rfl (by have := hr.un; omega) ?_
  refine wpAny_call (codeAny_mono (F.run X.A.in1 X.stack _ H ⟨[.ref a, .ref b], []⟩ [.ref a, .ref b] [.ref a, .ref b] _ _ hr.in1 e0 bd (.cons rfl (.cons rfl .nil)) q) fun r s' hq => ?_)
  cases r with
  | error e => exact hq.elim
  | ok fl =>
    cases fl with
    | ret w =>
      obtain ⟨z, H', I', rz, c, ez, q'⟩ := I.after hq
      subst ez
      cases rz
      exact ⟨c, rfl, ⟨.bl (!c), H', I', rfl, q'⟩⟩
    | _ => exact False.elim hq
end
/-! ### properties -/
structure PropOk (P : Program) (w : World) (K : PySem.W.Frag) (mg : Str → Option Value) (base : Heap) (k : Nat) (C : Addr) (f : Str) (sp : Sp) : Prop where
  ex : ∃ (p g : Addr) (fd : FuncData), PropOf K C f p g ∧ FnOk P w K mg base CX0 k g fd ["self"] sp ∧ Binds K fd ["self"] []
theorem pe_propO {X : Cx} {k : Nat} {C : Addr} {f : Str} {sp : Sp} {e : Expr} {pos : Pos} {ta : TE} (Po : PropOk X.prog X.w X.K X.mg X.base k C f sp) (c : Cls X.K C) (hr : Room (k + 1) X.A) (he : PE X e ta) (hab : attributeBase e f X.env (eval e X.env) = eval e X.env := by rfl) :
    PE X (.Attribute e f pos) (tProp C sp [] E0 ta) := by
  obtain ⟨p, g, fd, hp, F, hb⟩ := Po.ex
  exact pe_prop he c hp F hr hb .nil pass0 hab
/-- a property of the class whose getter gives an attribute -/
def propB (K : PySem.W.Frag) (C : Addr) (f : Str) (g : Addr) : Bool := match PySem.W.findIn K (.ref C) f with
  | some (some (.ref p)) => decide (PySem.W.specialIn K (.ref p) "__get__" = some (some (.builtin "property.__get__"))) && (decide (PySem.W.takesIn K (.ref p) = some true) && (match PySem.W.recIn K p "property" with
    | some (.ref g' :: _) => decide (g' = g)
    | _ => false))
  | _ => false
theorem propB_ok {K : PySem.W.Frag} {C : Addr} {f : Str} {g : Addr} (h : propB K C f g = true) : ∃ p, PropOf K C f p g := by
  unfold propB at h
  split at h
  · rename_i p e
    obtain ⟨h1, h⟩ := He.ba h
    obtain ⟨h2, h3⟩ := He.ba h
    split at h3
    · rename_i g' r e2
      have eg := of_decide_eq_true h3
      subst eg
      exact ⟨p, e, of_decide_eq_true h1, of_decide_eq_true h2, _, e2⟩
    · cases h3
  · cases h
/-- where a property's getter stands -/
def getterAt (K : PySem.W.Frag) (C : Addr) (f : Str) : Addr := match PySem.W.findIn K (.ref C) f with
  | some (some (.ref p)) => (match PySem.W.recIn K p "property" with
    | some (.ref g :: _) => g
    | _ => 0)
  | _ => 0
end Z

set_option Elab.async false
set_option linter.all false
set_option maxRecDepth 100000
set_option maxHeartbeats 4000000
namespace Z
open PySem PySem.Spec L2
open PyProof.Rows hiding St
/-! ### the head's facts, the getters of properties too -/
abbrev GW : Type := Option (Str × Str × Arguments × FuncBody × Scope × Addr × List (Str × Addr) × Value × Addr)
def gW (K : PySem.W.Frag) (a : Addr) : GW := match K.lookup a with
  | some ⟨_, _, .func fd, _⟩ => some (fd.name, fd.qualname, fd.params, fd.body, fd.scope, fd.globals, fd.closure, fd.defaults, fd.builtins)
  | _ => none
structure GetD where
  cls : Str
  prop : Str
  qual : Str
  st : Stmt
def GetD.at_ (d : GetD) (K : PySem.W.Frag) : Addr := getterAt K (He.ga K d.cls) d.prop
def GetD.val (d : GetD) : GW := some (d.prop, d.qual, defArgs d.st, .stmts (defBody d.st), defScope d.st, mainGlobals, [], .none, builtinsNs)
def GetD.ok (d : GetD) (K : PySem.W.Frag) : Bool := propB K (He.ga K d.cls) d.prop (d.at_ K) && (match K.lookup (d.at_ K) with
  | some ⟨_, _, .func fd, _⟩ => PySem.W.codeIn K fd.code d.qual
  | _ => false)
abbrev AlG : Type := He.AlX × (Bool × List GW)
def obsG (n : Nat) (fa : List He.Fa) (fn : List He.DefD) (gs : List GetD) (ex : PySem.W.Frag → Bool) (g : Addr → Option Obj) : AlG :=
  (He.obsX n fa fn [] [] ex g, (gs.all fun d => d.ok (He.frT g (He.asD g n)), gs.map fun d => gW (He.frT g (He.asD g n)) (d.at_ (He.frT g (He.asD g n)))))
def valG (fn : List He.DefD) (gs : List GetD) (w : World) : AlG := (He.valX fn [] w, (true, gs.map GetD.val))
structure SaysG (fa : List He.Fa) (fn : List He.DefD) (gs : List GetD) (ex : PySem.W.Frag → Bool) (w : World) (h : Heap) (K : PySem.W.Frag) : Prop where
  x : He.SaysX fa fn [] [] ex w h K
  okG : (gs.all fun d => d.ok K) = true
  eqG : (gs.map fun d => gW K (d.at_ K)) = gs.map GetD.val
def hookG (n : Nat) (fa : List He.Fa) (fn : List He.DefD) (gs : List GetD) (ex : PySem.W.Frag → Bool) : PySem.W.Hook where
  α := AlG
  obs := fun s => obsG n fa fn gs ex s.heap.get?
  val := fun w => valG fn gs w
  says := fun w h => ∃ K : PySem.W.Frag, K.In h ∧ SaysG fa fn gs ex w h K
  of := fun _ _ e => ⟨_, He.frT_in, He.saysX_of (congrArg (fun z : AlG => z.1) e), congrArg (fun z : AlG => z.2.1) e, congrArg (fun z : AlG => z.2.2) e⟩
  keeps := fun _ _ _ ⟨K, hK, c⟩ k => ⟨K, PySem.W.Frag.In.keeps hK k, ⟨⟨c.x.t, c.x.more, c.x.hd, c.x.out, fun p hp => nomatch hp⟩, c.okG, c.eqG⟩⟩
theorem obsG_eq {n : Nat} {fa : List He.Fa} {fn : List He.DefD} {gs : List GetD} {ex : PySem.W.Frag → Bool} {g : Addr → Option Obj} {s : Shared} (h : ∀ a, g a = s.heap.get? a) : obsG n fa fn gs ex g = (hookG n fa fn gs ex).obs s := by
  have e : g = s.heap.get? := funext h
  rw [e] <;> rfl
theorem SaysG.get {fa : List He.Fa} {fn : List He.DefD} {gs : List GetD} {ex : PySem.W.Frag → Bool} {w : World} {h : Heap} {K : PySem.W.Frag} (c : SaysG fa fn gs ex w h K) (i : Nat) {d : GetD} (e : gs[i]? = some d := by rfl) :
    (∃ p, PropOf K (He.ga K d.cls) d.prop p (d.at_ K)) ∧ ∃ oc od osl kV doc pm an cdv ct, K.lookup (d.at_ K) = some ⟨oc, od, .func (PySem.W.fnOf d.prop d.qual (defArgs d.st) (defBody d.st) (defScope d.st) .none kV doc pm an cdv ct), osl⟩ ∧ PySem.W.codeIn K cdv d.qual = true := by
  obtain ⟨c1, c2⟩ := He.ba (List.all_eq_true.mp c.okG d (List.mem_of_getElem? e))
  refine ⟨propB_ok c1, ?_⟩
  have e2 : (gs.map fun d => gW K (d.at_ K))[i]? = (gs.map GetD.val)[i]? := by rw [c.eqG]
  rw [List.getElem?_map, List.getElem?_map, e] at e2
  have e3 : gW K (d.at_ K) = d.val := Option.some.inj e2
  unfold gW at e3
  cases q : K.lookup (d.at_ K) with
  | none =>
    rw [q] at c2
    cases c2
  | some o =>
    obtain ⟨oc, od, dt, osl⟩ := o
    rw [q] at c2 e3
    cases dt with
    | func fd =>
      obtain ⟨n1, n2, n3, n4, n5, n6, n7, n8, n9, n10, n11, n12, n13, n14, n15⟩ := fd
      have e4 : (some (n1, n2, n3, n4, n5, n6, n7, n8, n15) : GW) = some (d.prop, d.qual, defArgs d.st, .stmts (defBody d.st), defScope d.st, mainGlobals, [], .none, builtinsNs) := e3
      simp only [Option.some.injEq, Prod.mk.injEq] at e4
      obtain ⟨h1, h2, h3, h4, h5, h6, h7, h8, h9⟩ := e4
      subst h1 h2 h3 h4 h5 h6 h7 h8 h9
      exact ⟨oc, od, osl, n9, n10, n11, n12, n13, n14, rfl, c2⟩
    | _ => cases c2
/-- a getter by its body -/
theorem prop_ok {P : Program} {w w2 : World} {K : PySem.W.Frag} {mg : Str → Option Value} {base h : Heap} {fa : List He.Fa} {fn : List He.DefD} {gs : List GetD} {ex : PySem.W.Frag → Bool} {k : Nat} {sp : Sp} (c : SaysG fa fn gs ex w h K) (i : Nat) {d : GetD} (e : gs[i]? = some d) (S : FnScope ["self"] ["self"] (defScope d.st))
    (len : ∀ vs H Q E, sp vs H Q E → vs.length = 1) (hbind : ∀ (kV doc pm : Value) (an : Option Addr) (cdv ct : Value) (us : List Value), us.length = (["self"] : List Str).length → bindArgs (PySem.W.fnOf d.prop d.qual (defArgs d.st) (defBody d.st) (defScope d.st) .none kV doc pm an cdv ct) ⟨us, []⟩ = pure ((["self"] : List Str).zip us))
    (hbody : ∀ (g : Addr) (cdv : Value) (A : Around) (outer : List Env) (s : Shared) (H : Hp) (vs : List V) (Q : VK) (E : XK), Room k (A.deeper (envOfC d.qual (defScope d.st) s.heap.objs.size g cdv)) → sp vs H Q E →
      ∃ t, PSs (cxOf CX0 P w2 K mg base ["self"] d.qual (defScope d.st) g cdv A outer s H E) (defBody d.st) t ∧ t { nx := fun _ H' => Q .non H', rt := Q } (start ["self"] vs) H) : PropOk P w2 K mg base (k + 1) (He.ga K d.cls) d.prop sp := by
  obtain ⟨⟨p, hp⟩, oc, od, osl, kV, doc, pm, an, cdv, ct, lk, hcd⟩ := c.get i e
  exact ⟨⟨p, _, _, hp, fn_of lk hcd S len (fun A outer s H vs Q E hr h => hbody _ cdv A outer s H vs Q E hr h), .all (hbind kV doc pm an cdv ct)⟩⟩
/-! ### methods of a class (its own ==, its __init__) -/
abbrev MtP (K : PySem.W.Frag) (C m qual : Str) (st : Stmt) (fd : FuncData) : Prop := FunD K m qual (defArgs st) (defBody st) (defScope st) [] [] (He.ma K (He.ga K C) m) fd
/-! ### readings of fields -/
section
variable {K : PySem.W.Frag} {σ : St} {H : Hp} {Q : VK} {i : Nat} {a C dx : Addr} {fs : List (Str × V)} {f : Str} {v : V}
theorem z_fld (e : σ[i]? = some (some (.ref a))) (h : H a = some (.ins C dx fs)) (c : Cls K C) (n : NoAttr K C f) (l : fs.lookup f = some v) (q : Q v H) : tFld K (tVar i) f σ H Q := ⟨_, e, a, C, dx, fs, v, rfl, h, c, n, l, q⟩
theorem z_prop {sp : Sp} {E : XK} (e : σ[i]? = some (some (.ref a))) (h : H a = some (.ins C dx fs)) (q : sp [.ref a] H Q E) : tProp C sp [] E (tVar i) σ H Q := ⟨_, e, a, dx, fs, rfl, h, q⟩
theorem z_make {sp : Sp} {E : XK} {t : TA} (h : t σ H fun vs H1 => ∀ x dx, H1 x = none → H1 dx = none → dx ≠ x → sp (.ref x :: (vs ++ [])) (upd (upd H1 dx (.own x)) x (.ins C dx [])) (fun v H2 => v = .non ∧ Q (.ref x) H2) E) : tMake C sp [] E t σ H Q := h
theorem z_sfld {tv : TE} {nx bk ct : St → Hp → Prop} {rt : VK} (h : tv σ H fun y H1 => ∃ v, σ[i]? = some (some v) ∧ ∃ a C dx fs, v = .ref a ∧ H1 a = some (.ins C dx fs) ∧ Cls K C ∧ NoAttr K C f ∧ fs.length < 1000 ∧ nx σ (upd H1 a (.ins C dx (putF f y fs)))) : sFld K (tVar i) tv f ⟨nx, rt, bk, ct⟩ σ H := h
end
/-! ### all but one place -/
def SameBut (b : Addr) (H H' : Hp) : Prop := ∀ c o, c ≠ b → H c = some o → H' c = some o
theorem SameBut.refl (b : Addr) (H : Hp) : SameBut b H H := fun _ _ _ h => h
theorem SameBut.trans {b : Addr} {H H1 H2 : Hp} (a : SameBut b H H1) (c : SameBut b H1 H2) : SameBut b H H2 := fun x o n h => c x o n (a x o n h)
theorem SameBut.same {b : Addr} {H H' : Hp} (s : Same H H') : SameBut b H H' := fun x o _ h => s x o h
theorem SameBut.upd {b : Addr} {H : Hp} {o : HO} : SameBut b H (L2.upd H b o) := fun x u n h => by rw [upd_ne n]; exact h
theorem SameBut.free {b : Addr} {H H' : Hp} (s : SameBut b H H') {l : Addr} (n : l ≠ b) (h : H' l = none) : H l = none := by
  cases q : H l with
  | none => rfl
  | some o =>
    rw [s l o n q] at h
    cases h
/-! ### lists and tuples of whole numbers compared -/
theorem eqvAll_ints : ∀ xs ys : List Int, PyData.eqvAll (xs.map PyData.int) (ys.map PyData.int) = decide (xs = ys)
  | [], [] => by simp [PyData.eqvAll]
  | [], _ :: _ => by simp [PyData.eqvAll]
  | _ :: _, [] => by simp [PyData.eqvAll]
  | x :: xs, y :: ys => by
    rw [List.map_cons, List.map_cons, PyData.eqvAll, eqvAll_ints xs ys]
    by_cases h : x = y
    · subst h
      simp [PyData.eqv]
    · simp [PyData.eqv, h]
theorem dat_ints (xs : List Int) : (xs.map V.int).map datV = xs.map PyData.int := by
  rw [List.map_map]
  rfl
theorem plain_ints (xs : List Int) : (xs.map V.int).all plainV = true := by
  rw [List.all_map]
  exact List.all_eq_true.mpr fun _ _ => rfl
theorem shaped_tup (vs : List V) : SeqAt.shaped (.tuple (vs.map datV)) = true := by
  obtain ⟨h3, h4⟩ := can_all vs
  have hd : (PyData.tuple (vs.map datV)).depth ≤ 64 := by
    rw [PyData.depth]
    omega
  unfold SeqAt.shaped
  rw [decide_eq_true hd, Bool.and_true]
  exact h3
theorem z_eqTI {K : PySem.W.Frag} {H : Hp} {Q : VK} {p q : Addr} {xs ys : List Int} (h1 : SqT K H p (xs.map V.int)) (h2 : SqT K H q (ys.map V.int)) (h : Q (.bl (decide (xs = ys))) H) : rEqD K (.ref p) (.ref q) H Q :=
  ⟨_, _, .tup h1 (dpAll_plain (plain_ints xs)), .tup h2 (dpAll_plain (plain_ints ys)), shaped_tup _, shaped_tup _, by
    have e : PyData.eqv (.tuple ((xs.map V.int).map datV)) (.tuple ((ys.map V.int).map datV)) = decide (xs = ys) := by rw [PyData.eqv, dat_ints, dat_ints, eqvAll_ints]
    rw [e]; exact h⟩
theorem z_neLI {K : PySem.W.Frag} {H : Hp} {Q : VK} {p q : Addr} {xs ys : List Int} (h1 : SqL K H p (xs.map V.int)) (h2 : SqL K H q (ys.map V.int)) (h : Q (.bl (!decide (xs = ys))) H) : rNeD K (.ref p) (.ref q) H Q :=
  ⟨_, _, dp_lst h1 (plain_ints xs), dp_lst h2 (plain_ints ys), shaped_list _, shaped_list _, by
    have e : PyData.eqv (.list ((xs.map V.int).map datV)) (.list ((ys.map V.int).map datV)) = decide (xs = ys) := by rw [PyData.eqv, dat_ints, dat_ints, eqvAll_ints]
    rw [e]; exact h⟩
theorem z_eqLI {K : PySem.W.Frag} {H : Hp} {Q : VK} {p q : Addr} {xs ys : List Int} (h1 : SqL K H p (xs.map V.int)) (h2 : SqL K H q (ys.map V.int)) (h : Q (.bl (decide (xs = ys))) H) : rEqD K (.ref p) (.ref q) H Q :=
  ⟨_, _, dp_lst h1 (plain_ints xs), dp_lst h2 (plain_ints ys), shaped_list _, shaped_list _, by
    have e : PyData.eqv (.list ((xs.map V.int).map datV)) (.list ((ys.map V.int).map datV)) = decide (xs = ys) := by rw [PyData.eqv, dat_ints, dat_ints, eqvAll_ints]
    rw [e]; exact h⟩
/-! ### repr of a list of whole numbers -/
theorem shown_len : ∀ ns : List Int, (∀ n ∈ ns, n.natAbs.log2 < 1000) → PyData.showableAll (ns.map PyData.int) = true ∧ PyData.hasDictAll (ns.map PyData.int) = false ∧ PyData.depthAll (ns.map PyData.int) ≤ 0
  | [], _ => by simp [PyData.showableAll, PyData.hasDictAll, PyData.depthAll]
  | n :: ns, h => by
    obtain ⟨h1, h2, h3⟩ := shown_len ns fun m hm => h m (List.mem_cons_of_mem _ hm)
    have hn : n.natAbs.log2 < 1920 := Nat.lt_trans (h n List.mem_cons_self) (by decide)
    refine ⟨by simp [PyData.showableAll, PyData.showable, h1, hn], by simp [PyData.hasDictAll, PyData.hasDict, h2], ?_⟩
    rw [List.map_cons, PyData.depthAll, PyData.depth]
    omega
theorem z_reprLI {K : PySem.W.Frag} {H : Hp} {Q : VK} {p : Addr} {ns : List Int} (h : SqL K H p (ns.map V.int)) (hn : ∀ n ∈ ns, n.natAbs.log2 < 1000) (hz : (PyData.list (ns.map PyData.int)).shown.length ≤ sizeLine) (q : Q (.str (PyData.list (ns.map PyData.int)).shown) H) : rReprD K [.ref p] H Q := by
  obtain ⟨h1, h2, h3⟩ := shown_len ns hn
  refine ⟨p, .list (ns.map PyData.int), rfl, ?_, by rw [PyData.showable]; exact h1, by rw [PyData.hasDict]; exact h2, by rw [PyData.depth]; omega, hz, q⟩
  have d := dp_lst h (plain_ints ns)
  rw [dat_ints] at d
  exact d
end Z

set_option Elab.async false
set_option linter.all false
set_option maxRecDepth 100000
set_option maxHeartbeats 4000000
namespace Z
open PySem PySem.Spec L2
open PyProof.Rows hiding St
/-! ### max of a tuple of whole numbers -/
theorem maxOf_ge : ∀ (xs : List Int) (x : Int), x ≤ PySem.W.maxOf x xs ∧ ∀ y ∈ xs, y ≤ PySem.W.maxOf x xs
  | [], x => ⟨Int.le_refl _, fun _ h => nomatch h⟩
  | z :: zs, x => by
    have e : PySem.W.maxOf x (z :: zs) = PySem.W.maxOf (if PySem.W.DatumOrd.lt x z = true then z else x) zs := rfl
    have e2 : (PySem.W.DatumOrd.lt x z) = decide (x < z) := rfl
    rw [e, e2]
    obtain ⟨h1, h2⟩ := maxOf_ge zs (if decide (x < z) = true then z else x)
    by_cases c : x < z
    · simp only [c, decide_true, if_true] at h1 h2 ⊢
      refine ⟨by omega, fun y hy => ?_⟩
      cases hy with
      | head => exact h1
      | tail _ h => exact h2 y h
    · simp only [c, decide_false, Bool.false_eq_true, if_false] at h1 h2 ⊢
      refine ⟨h1, fun y hy => ?_⟩
      cases hy with
      | head => omega
      | tail _ h => exact h2 y h
theorem hold_ints {h : Heap} : ∀ {ns : List Int} {us : List Value}, Vals (ns.map V.int) us → PySem.W.HoldAll h us ns
  | [], _, .nil => PySem.W.HoldAll.nil
  | n :: ns, _, .cons r rs => by
    obtain ⟨t, rfl⟩ := r
    exact PySem.W.HoldAll.cons ⟨_, .int n t⟩ (hold_ints rs)
def rMaxTI (K : PySem.W.Frag) : List V → Hp → VK → Prop := fun xs H Q => ∃ (a : Addr) (n : Int) (ns : List Int), xs = [.ref a] ∧ SqT K H a ((n :: ns).map V.int) ∧ ∀ m, (∀ y, y ∈ n :: ns → y ≤ m) → Q (.int m) H
theorem cMaxT {X : Cx} (hc : X.calm = true) (hu : X.A.units + 64 < cLine) : CallR X (.builtin "max") (rMaxTI X.K) := by
  intro pins s σ H vs us Q I r h
  obtain ⟨a, n, ns, rfl, hs, q⟩ := h
  obtain ⟨its, rv, ht, _⟩ := I.tuple hs
  rw [Vals.ref1 r]
  refine PySem.W.max_tuple_datum (I.ok.hd hc) ht (hold_ints (ns := n :: ns) (by simpa using rv)) (by show X.A.units + 1 + 0 < cLine; omega) fun i v h' tk _ hv hk => ?_
  obtain ⟨as, rd⟩ := hv
  generalize he : PySem.W.Datum.toD (PySem.W.maxOf n ns) = d at rd
  have he2 : PyData.int (PySem.W.maxOf n ns) = d := he
  subst he2
  cases rd with
  | int _ t =>
    refine ⟨.int _, H, I.kept hk, ⟨_, rfl⟩, q _ fun y hy => ?_⟩
    obtain ⟨h1, h2⟩ := maxOf_ge ns n
    cases hy with
    | head => exact h1
    | tail _ hy => exact h2 y hy
/-! ### own instances' kinds -/
def insB (K : PySem.W.Frag) (C : Addr) : Bool := decide (PySem.W.findIn K (.ref C) "__class__" = some (some (.builtin "object.__class__"))) && (decide (PySem.W.specialIn K (.builtin "object.__class__") "__get__" = some (some (.builtin "getset_descriptor.__get__"))) &&
  (decide (PySem.W.takesIn K (.builtin "object.__class__") = some true) && decide (PySem.W.mroIn K C (.type "object") = some true)))
theorem insB_ok {K : PySem.W.Frag} {C : Addr} (h : insB K C = true) (cl : Cls K C) {H : Hp} {a dx : Addr} {fs : List (Str × V)} (e : H a = some (.ins C dx fs)) : TyX K H (.ref a) (.ref C) := by
  obtain ⟨h1, h⟩ := He.ba h
  obtain ⟨h2, h⟩ := He.ba h
  obtain ⟨h3, h4⟩ := He.ba h
  exact .base (.ins e cl (of_decide_eq_true h1) (of_decide_eq_true h2) (of_decide_eq_true h3) (of_decide_eq_true h4))
/-- a kind that is not the class's -/
def offB (K : PySem.W.Frag) (C : Addr) (t : Value) : Bool := PySem.W.notFirst K C t && decide (PySem.W.kitOne K t (.ref C) = some false)
def onB (K : PySem.W.Frag) (C : Addr) : Bool := PySem.W.notFirst K C (.ref C) && decide (PySem.W.kitOne K (.ref C) (.ref C) = some true)
theorem z_isi {K : PySem.W.Frag} {H : Hp} {Q : VK} {x c : V} {t u : Value} {b : Bool} (k : ClsV c u) (ty : TyX K H x t) (e : PySem.W.kitOne K t u = some b) (q : Q (.bl b) H) : rIsi K [x, c] H Q := ⟨x, c, t, u, b, rfl, k, ty, e, q⟩
/-! ### own classes' calls -/
structure MakeOk (P : Program) (w : World) (K : PySem.W.Frag) (mg : Str → Option Value) (base : Heap) (k : Nat) (x : Str) (ps : List Str) (sp : Sp) : Prop where
  ex : ∃ (f : Addr) (fd : FuncData), Mk K (He.ga K x) f ∧ FnOk P w K mg base CX0 k f fd ps sp ∧ mg x = some (.ref (He.ga K x)) ∧ Binds K fd ps []
theorem pe_makeO {X : Cx} {k : Nat} {x : Str} {ps : List Str} {sp : Sp} {e : Expr} {es : List Expr} {t : TA} {p pos : Pos} (M : MakeOk X.prog X.w X.K X.mg X.base k x ps sp) (hr : Room (k + 1) X.A) (hg : Gl X x) (ha : PA X (e :: es) t)
    (hdb : (x == ("__debug__" : Str)) = false := by decide) (he : starEach (e :: es) X.env = (false, eval e X.env) :: starEach es X.env := by rfl) (hpl : (backTo pos (starEach es X.env)).any (·.1) = false := by rfl) :
    PE X (.Call (.Name x p) (e :: es) [] pos) (tMake (He.ga X.K x) sp [] E0 t) := by
  obtain ⟨f, fd, M, F, hm, hb⟩ := M.ex
  exact pe_make M F hr hg hm hb .nil pass0 ha hdb he hpl
/-- a class's own == -/
structure EqOk (P : Program) (w : World) (K : PySem.W.Frag) (mg : Str → Option Value) (base : Heap) (k : Nat) (C : Addr) (sp : Sp) : Prop where
  ex : ∃ (f : Addr) (fd : FuncData), FnOk P w K mg base CX0 k f fd ["self", "other"] sp ∧ PySem.W.findIn K (.ref C) "__eq__" = some (some (.ref f)) ∧ PySem.W.isFn K (.ref f) = true ∧ neB K C f = true ∧ Binds K fd ["self", "other"] []
section
variable {X : Cx} {C : Addr} {k : Nat} {sp : Sp}
theorem op_eqE (F : EqOk X.prog X.w X.K X.mg X.base k C sp) (hr : Room k X.A) : OpR X (compareOp .Eq) (rEqO X.K C sp) := by
  obtain ⟨f, fd, F, h1, h2, h3, h4⟩ := F.ex
  exact op_eqO F h1 h2 h4 hr
theorem op_eqK {K : PySem.W.Frag} (hK : X.K = K) (F : EqOk X.prog X.w K X.mg X.base k C sp) (hr : Room k X.A) : OpR X (compareOp .Eq) (rEqO K C sp) := by
  subst hK
  exact op_eqE F hr
theorem op_neE (F : EqOk X.prog X.w X.K X.mg X.base k C sp) (hr : Room (k + 1) X.A) : OpR X (compareOp .NotEq) (rNeO C sp) := by
  obtain ⟨f, fd, F, h1, h2, h3, h4⟩ := F.ex
  exact op_neO F h3 h2 h4 hr
end
theorem z_eqO {K : PySem.W.Frag} {C : Addr} {sp : Sp} {a dx : Addr} {fs : List (Str × V)} {y : V} {t : Value} {H : Hp} {Q : VK} (ha : H a = some (.ins C dx fs)) (ty : TyX K H y t) (n : PySem.W.notFirst K C t = true)
    (q : sp [.ref a, y] H (fun v H' => ∃ b, v = .bl b ∧ Q (.bl b) H') (fun _ _ _ => False)) : rEqO K C sp (.ref a) y H Q := ⟨a, dx, fs, t, rfl, ha, ty, n, q⟩
theorem z_neO {C : Addr} {sp : Sp} {a b dx dy : Addr} {fs gs : List (Str × V)} {H : Hp} {Q : VK} (ha : H a = some (.ins C dx fs)) (hb : H b = some (.ins C dy gs))
    (q : sp [.ref a, .ref b] H (fun v H' => ∃ b, v = .bl b ∧ Q (.bl (!b)) H') (fun _ _ _ => False)) : rNeO C sp (.ref a) (.ref b) H Q := ⟨a, b, dx, dy, fs, gs, rfl, rfl, ha, hb, q⟩
theorem shown_ints_len : ∀ ns : List Int, (∀ n ∈ ns, n.natAbs.log2 < 1000) → (((PyData.shownAll (ns.map PyData.int)).map (·.length)).sum ≤ 1001 * ns.length ∧ (PyData.shownAll (ns.map PyData.int)).length = ns.length)
  | [], _ => ⟨Nat.le_refl _, rfl⟩
  | n :: ns, h => by
    obtain ⟨h1, h2⟩ := shown_ints_len ns fun m hm => h m (List.mem_cons_of_mem _ hm)
    have h3 := int_text_length_le (k := 1000) (by decide) (h n List.mem_cons_self)
    have h4 : (Str.ofString (toString n)).length ≤ 1001 := by
      rw [PySem.ofString_length]
      exact h3
    constructor
    · show ((Str.ofString (toString n)).length :: (PyData.shownAll (ns.map PyData.int)).map (·.length)).sum ≤ 1001 * (ns.length + 1)
      rw [List.sum_cons]
      omega
    · show (PyData.shownAll (ns.map PyData.int)).length + 1 = ns.length + 1
      omega
theorem shown_list_fits {ns : List Int} (h : ∀ n ∈ ns, n.natAbs.log2 < 1000) (hl : ns.length ≤ 1000) : (PyData.list (ns.map PyData.int)).shown.length ≤ sizeLine := by
  obtain ⟨h1, h2⟩ := shown_ints_len ns h
  have h3 := listText_len_le (PyData.shownAll (ns.map PyData.int))
  have e : (PyData.list (ns.map PyData.int)).shown = listText (PyData.shownAll (ns.map PyData.int)) := by
    rw [PyData.shown]
  rw [e]
  have hs : sizeLine = 16777216 := sizeLine_eq
  omega
section
variable {K : PySem.W.Frag} {tl : TE} {wi : TI} {g : TG} {tt : TT} {te : TE} {vs : List Nat} {σ : St} {H : Hp} {Q : VK} {R : It → Hp → Prop}
theorem z_iTup (h : tl σ H fun x H1 => ∃ a, x = .ref a ∧ (∃ xs, SqT K H1 a xs) ∧ R (Itt K a) H1) : iTup K tl σ H R := h
theorem z_iList (h : tl σ H fun x H1 => ∃ a, x = .ref a ∧ (∃ xs, SqL K H1 a xs) ∧ R (Itl K a) H1) : iList K tl σ H R := h
theorem z_for {tb : TS} {D : Ends} (h : wi σ H fun J H1 => ∃ W : Nat → Nat → St → Hp → Prop, (∃ m, W 0 m σ H1) ∧ ∀ i m σ H, W i m σ H →
  (J.stop i H ∧ D.nx σ H) ∨ (J.go i H ∧ ∃ N : St → Hp → Prop, (∀ σ' H', N σ' H' → ∃ m', m' < m ∧ W (i + 1) m' σ' H') ∧ ∀ x H', J.yld i H x H' → g x σ H' fun σ2 H2 => tb { D with nx := N, ct := N, bk := D.nx } σ2 H2)) : tFor wi g tb D σ H := h
theorem z_lc (h : wi σ H fun J H1 => ∀ D, H1 D = none → ∃ W : Nat → Nat → Hp → Prop, (∃ m, W 0 m (upd H1 D (.lst []))) ∧ ∀ i m H, W i m H →
  (J.stop i H ∧ Q (.ref D) H) ∨ (J.go i H ∧ ∃ Nx : Hp → Prop, (∀ H', Nx H' → ∃ m', m' < m ∧ W (i + 1) m' H') ∧ ∀ x H', J.yld i H x H' → g x (wipe σ vs) H' fun σ2 H2 => wipe σ2 vs = wipe σ vs ∧ tt σ2 H2 fun b H3 =>
    if b = true then te σ2 H3 fun y H4 => ∃ acc, H4 D = some (.lst acc) ∧ acc.length < sizeLine ∧ Nx (upd H4 D (.lst (acc ++ [y]))) else Nx H3)) : tLc wi g tt te vs σ H Q := h
end
theorem z_iteNT {A B : Prop} (h : B) : if (!true) = true then A else B := iteF h
theorem z_iteNF {A B : Prop} (h : A) : if (!false) = true then A else B := iteT h
end Z

set_option Elab.async false
set_option linter.all false
set_option maxRecDepth 100000
set_option maxHeartbeats 4000000
namespace K01
open PySem PySem.Spec L2 Z
open PyProof.Rows hiding St
def top (i : Nat) : Stmt := PySem.Challenge.pw_leafsplits_k01_rules_told.main.body.getD i (.Pass ⟨0, 0, 0, 0⟩)
abbrev s_is_integer : Stmt := top 1
theorem sc_is_integer : FnScope ["value"] ["value"] (defScope s_is_integer) := ⟨rfl, rfl, rfl, by decide +kernel, rfl, by decide +kernel, by decide +kernel⟩
abbrev s_is_between : Stmt := top 2
theorem sc_is_between : FnScope ["value", "least", "most"] ["value", "least", "most"] (defScope s_is_between) := ⟨rfl, rfl, rfl, by decide +kernel, rfl, by decide +kernel, by decide +kernel⟩
abbrev s_InvalidRule_init : Stmt := inClass (top 5) 0
theorem sc_InvalidRule_init : FnScope ["self", "item"] ["self", "item"] (defScope s_InvalidRule_init) := ⟨rfl, rfl, rfl, by decide +kernel, rfl, by decide +kernel, by decide +kernel⟩
abbrev s_can_hold : Stmt := top 9
theorem sc_can_hold : FnScope ["held"] ["held"] (defScope s_can_hold) := ⟨rfl, rfl, rfl, by decide +kernel, rfl, by decide +kernel, by decide +kernel⟩
abbrev s_can_stay : Stmt := top 10
theorem sc_can_stay : FnScope ["held", "stays", "smaller"] ["held", "stays"] (defScope s_can_stay) := ⟨rfl, rfl, rfl, by decide +kernel, rfl, by decide +kernel, by decide +kernel⟩
abbrev s_Rule_init : Stmt := inClass (top 11) 0
theorem sc_Rule_init : FnScope ["self", "leaf", "leaf_stays", "inner", "inner_stays"] ["self", "leaf", "leaf_stays", "inner", "inner_stays"] (defScope s_Rule_init) := ⟨rfl, rfl, rfl, by decide +kernel, rfl, by decide +kernel, by decide +kernel⟩
abbrev s_Rule_leaf : Stmt := inClass (top 11) 1
theorem sc_Rule_leaf : FnScope ["self"] ["self"] (defScope s_Rule_leaf) := ⟨rfl, rfl, rfl, by decide +kernel, rfl, by decide +kernel, by decide +kernel⟩
abbrev s_Rule_leaf_stays : Stmt := inClass (top 11) 2
theorem sc_Rule_leaf_stays : FnScope ["self"] ["self"] (defScope s_Rule_leaf_stays) := ⟨rfl, rfl, rfl, by decide +kernel, rfl, by decide +kernel, by decide +kernel⟩
abbrev s_Rule_leaf_goes : Stmt := inClass (top 11) 3
theorem sc_Rule_leaf_goes : FnScope ["self"] ["self"] (defScope s_Rule_leaf_goes) := ⟨rfl, rfl, rfl, by decide +kernel, rfl, by decide +kernel, by decide +kernel⟩
abbrev s_Rule_inner : Stmt := inClass (top 11) 4
theorem sc_Rule_inner : FnScope ["self"] ["self"] (defScope s_Rule_inner) := ⟨rfl, rfl, rfl, by decide +kernel, rfl, by decide +kernel, by decide +kernel⟩
abbrev s_Rule_inner_stays : Stmt := inClass (top 11) 5
theorem sc_Rule_inner_stays : FnScope ["self"] ["self"] (defScope s_Rule_inner_stays) := ⟨rfl, rfl, rfl, by decide +kernel, rfl, by decide +kernel, by decide +kernel⟩
abbrev s_Rule_inner_goes : Stmt := inClass (top 11) 6
theorem sc_Rule_inner_goes : FnScope ["self"] ["self"] (defScope s_Rule_inner_goes) := ⟨rfl, rfl, rfl, by decide +kernel, rfl, by decide +kernel, by decide +kernel⟩
abbrev s_Rule_eq : Stmt := inClass (top 11) 7
theorem sc_Rule_eq : FnScope ["self", "other"] ["self", "other"] (defScope s_Rule_eq) := ⟨rfl, rfl, rfl, by decide +kernel, rfl, by decide +kernel, by decide +kernel⟩
abbrev s_law_wound : Stmt := top 13
theorem sc_law_wound : FnScope ["script", "k", "cell"] ["script", "k"] (defScope s_law_wound) := ⟨rfl, rfl, rfl, by decide +kernel, rfl, by decide +kernel, by decide +kernel⟩
abbrev s_law_spin : Stmt := top 14
theorem sc_law_spin : FnScope ["reel", "many", "drawn", "mixed"] ["reel", "many"] (defScope s_law_spin) := ⟨rfl, rfl, rfl, by decide +kernel, rfl, by decide +kernel, by decide +kernel⟩
abbrev s_law_rule : Stmt := top 15
theorem sc_law_rule : FnScope ["reel", "wide", "found", "turn", "most", "least"] ["reel", "wide"] (defScope s_law_rule) := ⟨rfl, rfl, rfl, by decide +kernel, rfl, by decide +kernel, by decide +kernel⟩
abbrev s_law_told : Stmt := top 16
theorem sc_law_told : FnScope ["one"] ["one"] (defScope s_law_told) := ⟨rfl, rfl, rfl, by decide +kernel, rfl, by decide +kernel, by decide +kernel⟩
abbrev s_law_fits : Stmt := top 17
theorem sc_law_fits : FnScope ["most", "stays"] ["most", "stays"] (defScope s_law_fits) := ⟨rfl, rfl, rfl, by decide +kernel, rfl, by decide +kernel, by decide +kernel⟩
abbrev s_law_right : Stmt := top 18
theorem sc_law_right : FnScope ["reel", "wide", "m", "a", "f", "p", "one", "other", "two", "odd"] ["reel", "wide"] (defScope s_law_right) := ⟨rfl, rfl, rfl, by decide +kernel, rfl, by decide +kernel, by decide +kernel⟩
abbrev s_law : Stmt := top 19
theorem sc_law : FnScope ["script", "k", "reel", "wide", "far"] ["script"] (defScope s_law) := ⟨rfl, rfl, rfl, by decide +kernel, rfl, by decide +kernel, by decide +kernel⟩
def d_is_integer : He.DefD := ⟨("is_integer", none), "is_integer", "is_integer", defArgs s_is_integer, defBody s_is_integer, defScope s_is_integer, [], []⟩
def d_is_between : He.DefD := ⟨("is_between", none), "is_between", "is_between", defArgs s_is_between, defBody s_is_between, defScope s_is_between, [], []⟩
def d_InvalidRule_init : He.DefD := ⟨("InvalidRule", some "__init__"), "__init__", "InvalidRule.__init__", defArgs s_InvalidRule_init, defBody s_InvalidRule_init, defScope s_InvalidRule_init, [], []⟩
def d_can_hold : He.DefD := ⟨("_can_hold", none), "_can_hold", "_can_hold", defArgs s_can_hold, defBody s_can_hold, defScope s_can_hold, [], []⟩
def d_can_stay : He.DefD := ⟨("_can_stay", none), "_can_stay", "_can_stay", defArgs s_can_stay, defBody s_can_stay, defScope s_can_stay, [], []⟩
def d_Rule_init : He.DefD := ⟨("Rule", some "__init__"), "__init__", "Rule.__init__", defArgs s_Rule_init, defBody s_Rule_init, defScope s_Rule_init, [], []⟩
def d_Rule_eq : He.DefD := ⟨("Rule", some "__eq__"), "__eq__", "Rule.__eq__", defArgs s_Rule_eq, defBody s_Rule_eq, defScope s_Rule_eq, [], []⟩
def d_law_wound : He.DefD := ⟨("_law_wound", none), "_law_wound", "_law_wound", defArgs s_law_wound, defBody s_law_wound, defScope s_law_wound, [], []⟩
def d_law_spin : He.DefD := ⟨("_law_spin", none), "_law_spin", "_law_spin", defArgs s_law_spin, defBody s_law_spin, defScope s_law_spin, [], []⟩
def d_law_rule : He.DefD := ⟨("_law_rule", none), "_law_rule", "_law_rule", defArgs s_law_rule, defBody s_law_rule, defScope s_law_rule, [], []⟩
def d_law_told : He.DefD := ⟨("_law_told", none), "_law_told", "_law_told", defArgs s_law_told, defBody s_law_told, defScope s_law_told, [], []⟩
def d_law_fits : He.DefD := ⟨("_law_fits", none), "_law_fits", "_law_fits", defArgs s_law_fits, defBody s_law_fits, defScope s_law_fits, [], []⟩
def d_law_right : He.DefD := ⟨("_law_right", none), "_law_right", "_law_right", defArgs s_law_right, defBody s_law_right, defScope s_law_right, [], []⟩
def d_law : He.DefD := ⟨("law", none), "law", "law", defArgs s_law, defBody s_law, defScope s_law, [], []⟩
def fn : List He.DefD := [d_is_integer, d_is_between, d_InvalidRule_init, d_can_hold, d_can_stay, d_Rule_init, d_Rule_eq, d_law_wound, d_law_spin, d_law_rule, d_law_told, d_law_fits, d_law_right, d_law]
def gs : List Z.GetD := [⟨"Rule", "leaf", "Rule.leaf", s_Rule_leaf⟩, ⟨"Rule", "leaf_stays", "Rule.leaf_stays", s_Rule_leaf_stays⟩, ⟨"Rule", "leaf_goes", "Rule.leaf_goes", s_Rule_leaf_goes⟩, ⟨"Rule", "inner", "Rule.inner", s_Rule_inner⟩, ⟨"Rule", "inner_stays", "Rule.inner_stays", s_Rule_inner_stays⟩, ⟨"Rule", "inner_goes", "Rule.inner_goes", s_Rule_inner_goes⟩]
def fa : List He.Fa := [.glo "is_integer", .glo "is_between", .glo "_can_hold", .glo "_can_stay", .glo "_law_wound", .glo "_law_spin", .glo "_law_rule", .glo "_law_told", .glo "_law_fits", .glo "_law_right", .glo "law", .glo "PageError", .glo "InvalidRule", .glo "Rule", .free "max", .free "min", .free "int", .free "bool", .free "range", .free "len", .free "isinstance", .free "repr", .exc "PageError", .int "LEAST_HELD" (3), .int "MOST_HELD" (1000000000000000000000000000000), .cls "Rule", .mkr "Rule", .noat "Rule" "_leaf", .noat "Rule" "_leaf_stays", .noat "Rule" "_inner", .noat "Rule" "_inner_stays", .meth "Rule" "__eq__"]
def fielded : List (Str × Str) := [("InvalidRule", "item")]
def excs : List Str := ["InvalidRule", "PageError"]
def exA (K : PySem.W.Frag) : Bool := (excs.all fun x => Z.xcB K (He.ga K x)) &&
  (fielded.all fun q => Z.oexB K (He.ga K q.1) && (decide (PySem.W.findIn K (.ref (He.ga K q.1)) "__init__" = some (some (.ref (He.ma K (He.ga K q.1) "__init__")))) && (decide (PySem.W.typeIn K (.ref (He.ma K (He.ga K q.1) "__init__")) = some (.type "function")) && decide (PySem.W.findIn K (.ref (He.ga K q.1)) q.2 = some none))))
def kitsB (K : PySem.W.Frag) : Bool := decide (PySem.W.kitOne K (.type "int") (.type "int") = some true) && decide (PySem.W.kitOne K (.type "int") (.type "bool") = some false)
def RC (K : PySem.W.Frag) : Addr := He.ga K "Rule"
def offs : List Value := [.type "NoneType", .type "int", .type "str", .type "tuple", .type "list"]
def exB (K : PySem.W.Frag) : Bool := insB K (RC K) && (onB K (RC K) && ((offs.all fun t => offB K (RC K) t) && (neB K (RC K) (He.ma K (RC K) "__eq__") && kitsB K)))
def ex (K : PySem.W.Frag) : Bool := exA K && exB K
abbrev R : PySem.W.OpenRow := PySem.W.OpenLaw.row PySem.Challenge.rw_leafsplits_k01_rules_told
abbrev hk : PySem.W.Hook := Z.hookG 7 fa fn gs ex
def ob (s : PySem.W.SharedT) : Z.AlG := Z.obsG 7 fa fn gs ex (HandSHeadRun.getT s)
theorem ob_eq (s : PySem.W.SharedT) : ob s = hk.obs s.abs := Z.obsG_eq (HandSHeadRun.getT_eq s)

def loose0 : List Str := ["is_integer", "is_between", "PageError", "InvalidRule", "LEAST_HELD", "MOST_HELD", "_can_hold", "_can_stay", "Rule", "_law_wound", "_law_spin", "_law_rule", "_law_told", "_law_fits", "_law_right"]
def loose : List Str := loose0
theorem run (w : World) : HandSHeadRun.RunEq R (PySem.W.view R.prog [19]) hk ob 20000 loose w := by
  intro os
  kernel_rfl
structure Txt (K : PySem.W.Frag) (mg : Str → Option Value) : Prop where
  max : mg "max" = none
  min : mg "min" = none
  int : mg "int" = none
  bool : mg "bool" = none
  range : mg "range" = none
  len : mg "len" = none
  isinstance : mg "isinstance" = none
  repr : mg "repr" = none
  c_PageError : mg "PageError" = some (.ref (He.ga K "PageError"))
  c_InvalidRule : mg "InvalidRule" = some (.ref (He.ga K "InvalidRule"))
  c_Rule : mg "Rule" = some (.ref (He.ga K "Rule"))
  k_LEAST_HELD : ∃ t, mg "LEAST_HELD" = some (.int (3) t)
  k_MOST_HELD : ∃ t, mg "MOST_HELD" = some (.int (1000000000000000000000000000000) t)
  x_PageError : Z.Cls0 K mg "PageError"
  n_Rule_leaf : NoAttr K (He.ga K "Rule") "_leaf"
  n_Rule_leaf_stays : NoAttr K (He.ga K "Rule") "_leaf_stays"
  n_Rule_inner : NoAttr K (He.ga K "Rule") "_inner"
  n_Rule_inner_stays : NoAttr K (He.ga K "Rule") "_inner_stays"
  h_Rule_eq : Meth K (He.ga K "Rule") "__eq__" (He.ma K (He.ga K "Rule") "__eq__")
  l_Rule : Cls K (He.ga K "Rule")
  m_Rule : Mk K (He.ga K "Rule") (He.ma K (He.ga K "Rule") "__init__")
theorem txt_ok {K : PySem.W.Frag} {mg : Str → Option Value} {h : Heap} {w : World} (X : K.In h) (G : h.Ns mainGlobals mg) (c : Z.SaysG fa fn gs ex w h K) : Txt K mg where
  max := He.free_ok X G (c.x.t.d.fact 14 (f := .free "max") rfl)
  min := He.free_ok X G (c.x.t.d.fact 15 (f := .free "min") rfl)
  int := He.free_ok X G (c.x.t.d.fact 16 (f := .free "int") rfl)
  bool := He.free_ok X G (c.x.t.d.fact 17 (f := .free "bool") rfl)
  range := He.free_ok X G (c.x.t.d.fact 18 (f := .free "range") rfl)
  len := He.free_ok X G (c.x.t.d.fact 19 (f := .free "len") rfl)
  isinstance := He.free_ok X G (c.x.t.d.fact 20 (f := .free "isinstance") rfl)
  repr := He.free_ok X G (c.x.t.d.fact 21 (f := .free "repr") rfl)
  c_PageError := He.glo_ok X G (c.x.t.d.fact 11 (f := .glo "PageError") rfl)
  c_InvalidRule := He.glo_ok X G (c.x.t.d.fact 12 (f := .glo "InvalidRule") rfl)
  c_Rule := He.glo_ok X G (c.x.t.d.fact 13 (f := .glo "Rule") rfl)
  k_LEAST_HELD := He.int_ok X G (c.x.t.d.fact 23 (f := .int "LEAST_HELD" (3)) rfl)
  k_MOST_HELD := He.int_ok X G (c.x.t.d.fact 24 (f := .int "MOST_HELD" (1000000000000000000000000000000)) rfl)
  x_PageError := ⟨(He.exc_ok (c.x.t.d.fact 22 (f := .exc "PageError") rfl)).1, He.glo_ok X G (c.x.t.d.fact 11 (f := .glo "PageError") rfl), (He.exc_ok (c.x.t.d.fact 22 (f := .exc "PageError") rfl)).2.1⟩
  n_Rule_leaf := He.noat_ok (c.x.t.d.fact 27 (f := .noat "Rule" "_leaf") rfl)
  n_Rule_leaf_stays := He.noat_ok (c.x.t.d.fact 28 (f := .noat "Rule" "_leaf_stays") rfl)
  n_Rule_inner := He.noat_ok (c.x.t.d.fact 29 (f := .noat "Rule" "_inner") rfl)
  n_Rule_inner_stays := He.noat_ok (c.x.t.d.fact 30 (f := .noat "Rule" "_inner_stays") rfl)
  h_Rule_eq := He.meth_ok (c.x.t.d.fact 31 (f := .meth "Rule" "__eq__") rfl)
  l_Rule := He.cls_ok (c.x.t.d.fact 25 (f := .cls "Rule") rfl)
  m_Rule := He.mkr_ok (c.x.t.d.fact 26 (f := .mkr "Rule") rfl)
theorem D_is_integer {K : PySem.W.Frag} {mg : Str → Option Value} {h : Heap} {w : World} (X : K.In h) (G : h.Ns mainGlobals mg) (c : Z.SaysG fa fn gs ex w h K) : Def K mg "is_integer" s_is_integer := by
  obtain ⟨fd, F⟩ := c.x.t.d.def_ 0 (d := d_is_integer) rfl
  exact ⟨_, fd, F, He.glo_ok X G (c.x.t.d.fact 0 (f := .glo "is_integer") rfl)⟩
theorem D_is_between {K : PySem.W.Frag} {mg : Str → Option Value} {h : Heap} {w : World} (X : K.In h) (G : h.Ns mainGlobals mg) (c : Z.SaysG fa fn gs ex w h K) : Def K mg "is_between" s_is_between := by
  obtain ⟨fd, F⟩ := c.x.t.d.def_ 1 (d := d_is_between) rfl
  exact ⟨_, fd, F, He.glo_ok X G (c.x.t.d.fact 1 (f := .glo "is_between") rfl)⟩
theorem D_can_hold {K : PySem.W.Frag} {mg : Str → Option Value} {h : Heap} {w : World} (X : K.In h) (G : h.Ns mainGlobals mg) (c : Z.SaysG fa fn gs ex w h K) : Def K mg "_can_hold" s_can_hold := by
  obtain ⟨fd, F⟩ := c.x.t.d.def_ 3 (d := d_can_hold) rfl
  exact ⟨_, fd, F, He.glo_ok X G (c.x.t.d.fact 2 (f := .glo "_can_hold") rfl)⟩
theorem D_can_stay {K : PySem.W.Frag} {mg : Str → Option Value} {h : Heap} {w : World} (X : K.In h) (G : h.Ns mainGlobals mg) (c : Z.SaysG fa fn gs ex w h K) : Def K mg "_can_stay" s_can_stay := by
  obtain ⟨fd, F⟩ := c.x.t.d.def_ 4 (d := d_can_stay) rfl
  exact ⟨_, fd, F, He.glo_ok X G (c.x.t.d.fact 3 (f := .glo "_can_stay") rfl)⟩
theorem D_Rule_init {K : PySem.W.Frag} {mg : Str → Option Value} {h : Heap} {w : World} (X : K.In h) (G : h.Ns mainGlobals mg) (c : Z.SaysG fa fn gs ex w h K) : ∃ fd, FunD K "__init__" "Rule.__init__" (defArgs s_Rule_init) (defBody s_Rule_init) (defScope s_Rule_init) [] [] (He.ma K (He.ga K "Rule") "__init__") fd :=
  c.x.t.d.def_ 5 (d := d_Rule_init) rfl
theorem D_Rule_eq {K : PySem.W.Frag} {mg : Str → Option Value} {h : Heap} {w : World} (X : K.In h) (G : h.Ns mainGlobals mg) (c : Z.SaysG fa fn gs ex w h K) : ∃ fd, FunD K "__eq__" "Rule.__eq__" (defArgs s_Rule_eq) (defBody s_Rule_eq) (defScope s_Rule_eq) [] [] (He.ma K (He.ga K "Rule") "__eq__") fd :=
  c.x.t.d.def_ 6 (d := d_Rule_eq) rfl
theorem D_law_wound {K : PySem.W.Frag} {mg : Str → Option Value} {h : Heap} {w : World} (X : K.In h) (G : h.Ns mainGlobals mg) (c : Z.SaysG fa fn gs ex w h K) : Def K mg "_law_wound" s_law_wound := by
  obtain ⟨fd, F⟩ := c.x.t.d.def_ 7 (d := d_law_wound) rfl
  exact ⟨_, fd, F, He.glo_ok X G (c.x.t.d.fact 4 (f := .glo "_law_wound") rfl)⟩
theorem D_law_spin {K : PySem.W.Frag} {mg : Str → Option Value} {h : Heap} {w : World} (X : K.In h) (G : h.Ns mainGlobals mg) (c : Z.SaysG fa fn gs ex w h K) : Def K mg "_law_spin" s_law_spin := by
  obtain ⟨fd, F⟩ := c.x.t.d.def_ 8 (d := d_law_spin) rfl
  exact ⟨_, fd, F, He.glo_ok X G (c.x.t.d.fact 5 (f := .glo "_law_spin") rfl)⟩
theorem D_law_rule {K : PySem.W.Frag} {mg : Str → Option Value} {h : Heap} {w : World} (X : K.In h) (G : h.Ns mainGlobals mg) (c : Z.SaysG fa fn gs ex w h K) : Def K mg "_law_rule" s_law_rule := by
  obtain ⟨fd, F⟩ := c.x.t.d.def_ 9 (d := d_law_rule) rfl
  exact ⟨_, fd, F, He.glo_ok X G (c.x.t.d.fact 6 (f := .glo "_law_rule") rfl)⟩
theorem D_law_told {K : PySem.W.Frag} {mg : Str → Option Value} {h : Heap} {w : World} (X : K.In h) (G : h.Ns mainGlobals mg) (c : Z.SaysG fa fn gs ex w h K) : Def K mg "_law_told" s_law_told := by
  obtain ⟨fd, F⟩ := c.x.t.d.def_ 10 (d := d_law_told) rfl
  exact ⟨_, fd, F, He.glo_ok X G (c.x.t.d.fact 7 (f := .glo "_law_told") rfl)⟩
theorem D_law_fits {K : PySem.W.Frag} {mg : Str → Option Value} {h : Heap} {w : World} (X : K.In h) (G : h.Ns mainGlobals mg) (c : Z.SaysG fa fn gs ex w h K) : Def K mg "_law_fits" s_law_fits := by
  obtain ⟨fd, F⟩ := c.x.t.d.def_ 11 (d := d_law_fits) rfl
  exact ⟨_, fd, F, He.glo_ok X G (c.x.t.d.fact 8 (f := .glo "_law_fits") rfl)⟩
theorem D_law_right {K : PySem.W.Frag} {mg : Str → Option Value} {h : Heap} {w : World} (X : K.In h) (G : h.Ns mainGlobals mg) (c : Z.SaysG fa fn gs ex w h K) : Def K mg "_law_right" s_law_right := by
  obtain ⟨fd, F⟩ := c.x.t.d.def_ 12 (d := d_law_right) rfl
  exact ⟨_, fd, F, He.glo_ok X G (c.x.t.d.fact 9 (f := .glo "_law_right") rfl)⟩
theorem D_law {K : PySem.W.Frag} {mg : Str → Option Value} {h : Heap} {w : World} (X : K.In h) (G : h.Ns mainGlobals mg) (c : Z.SaysG fa fn gs ex w h K) : Def K mg "law" s_law := by
  obtain ⟨fd, F⟩ := c.x.t.d.def_ 13 (d := d_law) rfl
  exact ⟨_, fd, F, He.glo_ok X G (c.x.t.d.fact 10 (f := .glo "law") rfl)⟩
theorem exA_ok {K : PySem.W.Frag} {h : Heap} {w : World} (c : Z.SaysG fa fn gs ex w h K) : exA K = true := (He.ba c.x.more).1
theorem exB_ok {K : PySem.W.Frag} {h : Heap} {w : World} (c : Z.SaysG fa fn gs ex w h K) : exB K = true := (He.ba c.x.more).2
theorem exc_ok {K : PySem.W.Frag} (c : exA K = true) (x : Str) (hx : x ∈ excs) : ExcC K (He.ga K x) := Z.xcB_ok (List.all_eq_true.mp (He.ba c).1 x hx)
theorem X_InvalidRule {P : Program} {w w2 : World} {K : PySem.W.Frag} {mg : Str → Option Value} {h base : Heap} (X : K.In h) (G : h.Ns mainGlobals mg) (c : Z.SaysG fa fn gs ex w h K) : ClsX P w2 K mg base "InvalidRule" "item" := by
  obtain ⟨fd, F⟩ := c.x.t.d.def_ 2 (d := d_InvalidRule_init) rfl
  obtain ⟨c1, c2⟩ := He.ba (List.all_eq_true.mp (He.ba (exA_ok c)).2 (("InvalidRule" : Str), ("item" : Str)) (by decide +kernel))
  obtain ⟨c2, c3⟩ := He.ba c2
  obtain ⟨c3, c4⟩ := He.ba c3
  exact ⟨Z.oexB_ok c1, He.glo_ok X G (c.x.t.d.fact 12 (f := .glo "InvalidRule") rfl), of_decide_eq_true c2, of_decide_eq_true c3, ⟨fd, init_ok (qual := "InvalidRule.__init__") (st := s_InvalidRule_init) F sc_InvalidRule_init (Z.oexB_ok c1) (of_decide_eq_true c4) (fun _ _ _ _ _ _ => pss_one (ps_ost (pv 0) (pv 1))), F.bindsN fun _ _ _ _ _ _ us hl => match us, hl with | [_, _], _ => rfl⟩, of_decide_eq_true c4⟩
def flds (m a f p : Int) : List (Str × V) := [("_leaf", .int m), ("_leaf_stays", .int a), ("_inner", .int f), ("_inner_stays", .int p)]
end K01
set_option Elab.async false
set_option linter.all false
set_option maxRecDepth 100000
set_option maxHeartbeats 4000000
namespace K01
open PySem PySem.Spec L2 Z
open PyProof.Rows hiding St
local macro_rules | `(tactic| walk_at "z") => `(tactic| first
  | with_reducible refine Z.z_seq ?_
  | with_reducible refine Z.z_asg ?_
  | with_reducible refine Z.z_op ?_
  | with_reducible refine Z.z_cons ?_
  | with_reducible refine Z.z_nil ?_
  | with_reducible refine Z.z_c ?_
  | ((with_reducible refine' Z.z_var ?e ?_); (case e => exact rfl))
  | ((with_reducible refine' Z.z_name ?e ?_); (case e => repeat constructor))
  | with_reducible refine Z.z_sub ?_
  | with_reducible refine Z.z_I0 ?_
  | with_reducible refine Z.z_eqI ?_
  | with_reducible refine Z.z_neI ?_
  | with_reducible refine Z.z_cb ?_
  | with_reducible refine Z.z_int1 ?_
  | with_reducible refine Z.z_max2 ?_
  | with_reducible refine Z.z_min2 ?_
  | with_reducible refine Z.z_call ?_
  | with_reducible refine Z.z_test ?_
  | with_reducible refine Z.z_B ?_
  | with_reducible refine Z.z_ex _ ?_
  | with_reducible refine Z.z_and ?_
  | with_reducible refine Z.z_or ?_
  | with_reducible refine Z.z_not ?_
  | with_reducible refine Z.z_andV ?_
  | with_reducible refine Z.z_orV ?_
  | with_reducible refine Z.z_notV ?_
  | with_reducible refine Z.z_ifE ?_
  | with_reducible refine Z.z_chain ?_
  | with_reducible refine Z.z_if ?_
  | with_reducible refine Z.z_ret ?_
  | with_reducible refine Z.z_retN ?_
  | with_reducible refine Z.z_next ?_
  | with_reducible refine Z.z_brk ?_
  | with_reducible refine Z.z_cont ?_
  | with_reducible refine Z.z_drop ?_
  | with_reducible refine Z.z_un ?_
  | with_reducible refine Z.z_U ?_
  | with_reducible refine Z.z_lst ?_
  | with_reducible refine Z.z_tup ?_
  | with_reducible refine Z.z_par ?_
  | ((with_reducible refine' Z.z_par2 ?e1 ?e2 ?_); (case e1 => repeat constructor); (case e2 => repeat constructor))
  | with_reducible refine Z.z_iteT ?_
  | with_reducible refine Z.z_iteF ?_)
local macro_rules | `(tactic| walk_at "z") => `(tactic| first
  | with_reducible refine Z.z_iteNT ?_
  | with_reducible refine Z.z_iteNF ?_
  | with_reducible refine Z.z_sfld ?_)
local macro_rules | `(tactic| walk_at "z") => `(tactic| first
  | with_reducible refine Z.z_iTup ?_
  | with_reducible refine Z.z_iList ?_
  | with_reducible refine Z.z_lc ?_)

section
variable {P : Program} {w w2 : World} {K : PySem.W.Frag} {mg : Str → Option Value} {base : Heap}
def isI (K : PySem.W.Frag) (H : Hp) (x : V) (b : Bool) : Prop := ∃ t b1 b2, TyX K H x t ∧ PySem.W.kitOne K t (.type "int") = some b1 ∧ PySem.W.kitOne K t (.type "bool") = some b2 ∧ b = (b1 && !b2)
theorem isI_int (c : kitsB K = true) {H : Hp} {i : Int} : isI K H (.int i) true :=
  ⟨.type "int", true, false, .base (.int i), of_decide_eq_true (He.ba c).1, of_decide_eq_true (He.ba c).2, rfl⟩
def RuleAt (K : PySem.W.Frag) (H : Hp) (x : Addr) (m a f p : Int) : Prop := ∃ dx, H x = some (.ins (RC K) dx (flds m a f p))
theorem RuleAt.mono {H H' : Hp} {x : Addr} {m a f p : Int} (s : Same H H') (h : RuleAt K H x m a f p) : RuleAt K H' x m a f p := by
  obtain ⟨dx, h⟩ := h
  exact ⟨dx, s _ _ h⟩
def spIsInt (K : PySem.W.Frag) : Sp := fun vs H Q _ => ∃ x b, vs = [x] ∧ isI K H x b ∧ Q (.bl b) H
theorem ok_is_integer (D : Def K mg "is_integer" s_is_integer) (T : Txt K mg) : CallOk P w K mg base CX0 1 "is_integer" ["value"] (spIsInt K) := by
  refine def_ok D sc_is_integer (fun vs H Q E h => ?_) (fun _ _ _ _ _ _ us hl => match us, hl with | [_], _ => rfl) (fun fa cdv A outer s H vs Q E hr h => ?_)
  · obtain ⟨x, b, rfl, _⟩ := h
    rfl
  · obtain ⟨x, b, rfl, ⟨t, b1, b2, ty, e1, e2, rfl⟩, k⟩ := h
    refine ⟨_, (pss_one (ps_ret (pe_and (pe_callB call_isi (by rfl) T.isinstance (by decide +kernel) (pa_cons (pv 0) (pa_cons (pe_bltn (v := .ty "int") rfl T.int (by decide +kernel) rfl) pa_nil))) (pe_one (pe_not (pe_callB call_isi (by rfl) T.isinstance (by decide +kernel) (pa_cons (pv 0) (pa_cons (pe_bltn (v := .ty "bool") rfl T.bool (by decide +kernel) rfl) pa_nil)))))))), ?_⟩
    refine z_start (σ' := [some _]) rfl ?_
    repeat walk_at "z"
    refine z_isi (ClsV.ty _) ty e1 ?_
    repeat walk_at "z"
    cases b1 with
    | true =>
      refine iteT ?_
      repeat walk_at "z"
      refine z_isi (ClsV.ty _) ty e2 ?_
      repeat walk_at "z"
      exact k
    | false => exact iteF k
/-- a value that may be one from lo to hi -/
def spBetween (K : PySem.W.Frag) : Sp := fun vs H Q _ => ∃ x lo hi, vs = [x, .int lo, .int hi] ∧ ((∃ i, x = .int i ∧ Q (.bl (decide (lo ≤ i) && decide (i ≤ hi))) H) ∨ (isI K H x false ∧ Q (.bl false) H))
theorem ok_is_between (D : Def K mg "is_between" s_is_between) (T : Txt K mg) (cB : kitsB K = true) (C_is_integer : CallOk P w K mg base CX0 1 "is_integer" ["value"] (spIsInt K)) : CallOk P w K mg base CX0 2 "is_between" ["value", "least", "most"] (spBetween K) := by
  refine def_ok D sc_is_between (fun vs H Q E h => ?_) (fun _ _ _ _ _ _ us hl => match us, hl with | [_, _, _], _ => rfl) (fun fa cdv A outer s H vs Q E hr h => ?_)
  · obtain ⟨x, lo, hi, rfl, _⟩ := h
    rfl
  · obtain ⟨x, lo, hi, rfl, k⟩ := h
    refine ⟨_, (pss_one (ps_ret (pe_and (pe_callB call_isi (by rfl) T.isinstance (by decide +kernel) (pa_cons (pv 0) (pa_cons (pe_bltn (v := .ty "int") rfl T.int (by decide +kernel) rfl) pa_nil))) (pe_and (pe_not (pe_callB call_isi (by rfl) T.isinstance (by decide +kernel) (pa_cons (pv 0) (pa_cons (pe_bltn (v := .ty "bool") rfl T.bool (by decide +kernel) rfl) pa_nil)))) (pe_one (pe_chain op_le op_le (pv 1) (pv 0) (pv 2))))))), ?_⟩
    refine z_start (σ' := [some _, some _, some _]) rfl ?_
    rcases k with ⟨i, rfl, k⟩ | ⟨⟨t, b1, b2, ty, e1, e2, hb⟩, k⟩
    · obtain ⟨t, b1, b2, ty, e1, e2, hb⟩ := isI_int cB (H := H) (i := i)
      have h1 : b1 = true := by clear k e1 e2; revert hb; cases b1 <;> cases b2 <;> decide
      have h2 : b2 = false := by clear k e1 e2; revert hb; cases b1 <;> cases b2 <;> decide
      subst h1 h2
      repeat walk_at "z"
      refine z_isi (ClsV.ty _) ty e1 ?_
      repeat walk_at "z"
      refine z_isi (ClsV.ty _) ty e2 ?_
      repeat walk_at "z"
      refine ite2 (fun h1 => ?_) (fun h1 => ?_)
      · repeat walk_at "z"
        rw [h1, Bool.true_and] at k
        exact k
      · rw [Bool.eq_false_iff.mpr h1, Bool.false_and] at k
        exact k
    · repeat walk_at "z"
      refine z_isi (ClsV.ty _) ty e1 ?_
      repeat walk_at "z"
      cases b1 with
      | false => exact iteF k
      | true =>
        refine iteT ?_
        repeat walk_at "z"
        refine z_isi (ClsV.ty _) ty e2 ?_
        repeat walk_at "z"
        have h2 : b2 = true := by clear e1 e2; revert hb; cases b2 <;> decide
        subst h2
        exact iteF k
def spHold (K : PySem.W.Frag) : Sp := fun vs H Q _ => ∃ x, vs = [x] ∧ ((∃ i, x = .int i ∧ Q (.bl (decide (3 ≤ i) && decide (i ≤ 1000000000000000000000000000000))) H) ∨ (isI K H x false ∧ Q (.bl false) H))
theorem ok_can_hold (D : Def K mg "_can_hold" s_can_hold) (T : Txt K mg) (C_is_between : CallOk P w K mg base CX0 2 "is_between" ["value", "least", "most"] (spBetween K)) : CallOk P w K mg base CX0 3 "_can_hold" ["held"] (spHold K) := by
  refine def_ok D sc_can_hold (fun vs H Q E h => ?_) (fun _ _ _ _ _ _ us hl => match us, hl with | [_], _ => rfl) (fun fa cdv A outer s H vs Q E hr h => ?_)
  · obtain ⟨x, rfl, _⟩ := h
    rfl
  · obtain ⟨x, rfl, k⟩ := h
    refine ⟨_, (pss_one (ps_ret (pe_own C_is_between (hr.mono (by decide)) rfl pass0 (pa_cons (pv 0) (pa_cons (pe_glob (v := .int 3) rfl T.k_LEAST_HELD.choose_spec ⟨_, rfl⟩) (pa_cons (pe_glob (v := .int 1000000000000000000000000000000) rfl T.k_MOST_HELD.choose_spec ⟨_, rfl⟩) pa_nil)))))), ?_⟩
    refine z_start (σ' := [some _]) rfl ?_
    repeat walk_at "z"
    exact ⟨_, _, _, rfl, k⟩
def stayB (m a : Int) : Bool := decide (2 ≤ (if m + 1 - a < a then m + 1 - a else a)) && decide (m + 1 ≤ 4 * (if m + 1 - a < a then m + 1 - a else a))
def spStay (K : PySem.W.Frag) : Sp := fun vs H Q _ => ∃ m x, vs = [.int m, x] ∧ ((∃ a, x = .int a ∧ Q (.bl (stayB m a)) H) ∨ (isI K H x false ∧ Q (.bl false) H))
theorem ok_can_stay (D : Def K mg "_can_stay" s_can_stay) (T : Txt K mg) (cB : kitsB K = true) (C_is_integer : CallOk P w K mg base CX0 1 "is_integer" ["value"] (spIsInt K)) : CallOk P w K mg base CX0 2 "_can_stay" ["held", "stays"] (spStay K) := by
  refine def_ok D sc_can_stay (fun vs H Q E h => ?_) (fun _ _ _ _ _ _ us hl => match us, hl with | [_, _], _ => rfl) (fun fa cdv A outer s H vs Q E hr h => ?_)
  · obtain ⟨m, x, rfl, _⟩ := h
    rfl
  · obtain ⟨m, x, rfl, k⟩ := h
    refine ⟨_, (pss_cons (ps_if (pt_not (pt_val (pe_own C_is_integer (hr.mono (by decide)) rfl pass0 (pa_cons (pv 1) pa_nil)))) (pss_one (ps_ret pe_bl)) pss_nil)
  (pss_cons (ps_set (i := 2) sc_can_stay.nd rfl (Or.inl rfl) (pe_callB (cMin rfl) (by rfl) T.min (by decide +kernel) (pa_cons (pv 1) (pa_cons (pe_op op_sub (pe_op op_add (pv 0) pe_int) (pv 1)) pa_nil))))
  (pss_one (ps_ret (pe_and (pe_cmpR op_ge (pv 2) pe_int (nomark _)) (pe_one (pe_cmpR op_ge (pe_op op_mul pe_int (pv 2)) (pe_op op_add (pv 0) pe_int) (nomark _)))))))), ?_⟩
    refine z_start (σ' := [some _, some _, none]) rfl ?_
    rcases k with ⟨a, rfl, k⟩ | ⟨hx, k⟩
    · repeat walk_at "z"
      refine ⟨_, _, rfl, isI_int cB, ?_⟩
      repeat walk_at "z"
      unfold stayB at k
      refine ite2 (fun h1 => ?_) (fun h1 => ?_)
      · repeat walk_at "z"
        refine z_I (C := CMul) (.inl ⟨by decide, by decide⟩) ?_
        repeat walk_at "z"
        rw [h1, Bool.true_and] at k
        exact k
      · rw [Bool.eq_false_iff.mpr h1, Bool.false_and] at k
        exact k
    · repeat walk_at "z"
      refine ⟨_, _, rfl, hx, ?_⟩
      repeat walk_at "z"
      exact k
def Ok2 (m a : Int) : Prop := 3 ≤ m ∧ m ≤ 1000000000000000000000000000000 ∧ 2 ≤ a ∧ 2 ≤ m + 1 - a ∧ m + 1 ≤ 4 * a ∧ m + 1 ≤ 4 * (m + 1 - a)
theorem Ok2.hold {m a : Int} (h : Ok2 m a) : (decide (3 ≤ m) && decide (m ≤ 1000000000000000000000000000000)) = true := by
  obtain ⟨h1, h2, _⟩ := h
  simp [h1, h2]
theorem Ok2.stay {m a : Int} (h : Ok2 m a) : stayB m a = true := by
  obtain ⟨h1, h2, h3, h4, h5, h6⟩ := h
  unfold stayB
  split <;> simp [*]
def spInit (K : PySem.W.Frag) : Sp := fun vs H Q _ => ∃ x dx m a f p, vs = [.ref x, .int m, .int a, .int f, .int p] ∧ H x = some (.ins (RC K) dx []) ∧ Ok2 m a ∧ Ok2 f p ∧ Q .non (upd H x (.ins (RC K) dx (flds m a f p)))
theorem ok_init {fd : FuncData} (F : FunD K "__init__" "Rule.__init__" (defArgs s_Rule_init) (defBody s_Rule_init) (defScope s_Rule_init) [] [] (He.ma K (He.ga K "Rule") "__init__") fd) (T : Txt K mg)
    (C_can_hold : CallOk P w K mg base CX0 3 "_can_hold" ["held"] (spHold K)) (C_can_stay : CallOk P w K mg base CX0 2 "_can_stay" ["held", "stays"] (spStay K)) : MakeOk P w K mg base 4 "Rule" ["self", "leaf", "leaf_stays", "inner", "inner_stays"] (spInit K) := by
  refine ⟨⟨_, fd, T.m_Rule, F.ok sc_Rule_init (fun vs H Q E h => ?_) (fun cdv A outer s H vs Q E hr h => ?_), T.c_Rule, F.bindsN fun _ _ _ _ _ _ us hl => match us, hl with | [_, _, _, _, _], _ => rfl⟩⟩
  · obtain ⟨x, dx, m, a, f, p, rfl, _⟩ := h
    rfl
  · obtain ⟨x, dx, m, a, f, p, rfl, hx, h1, h2, k⟩ := h
    refine ⟨_, (pss_cons (ps_if (pt_not (pt_val (pe_own C_can_hold (hr.mono (by decide)) rfl pass0 (pa_cons (pv 1) pa_nil)))) (pss_one ps_never) pss_nil)
  (pss_cons (ps_if (pt_not (pt_val (pe_own C_can_stay (hr.mono (by decide)) rfl pass0 (pa_cons (pv 1) (pa_cons (pv 2) pa_nil))))) (pss_one ps_never) pss_nil)
  (pss_cons (ps_if (pt_not (pt_val (pe_own C_can_hold (hr.mono (by decide)) rfl pass0 (pa_cons (pv 3) pa_nil)))) (pss_one ps_never) pss_nil)
  (pss_cons (ps_if (pt_not (pt_val (pe_own C_can_stay (hr.mono (by decide)) rfl pass0 (pa_cons (pv 3) (pa_cons (pv 4) pa_nil))))) (pss_one ps_never) pss_nil)
  (pss_cons (ps_fld (pv 0) (pv 1) rfl)
  (pss_cons (ps_fld (pv 0) (pv 2) rfl)
  (pss_cons (ps_fld (pv 0) (pv 3) rfl)
  (pss_one (ps_fld (pv 0) (pv 4) rfl))))))))), ?_⟩
    refine z_start (σ' := [some _, some _, some _, some _, some _]) rfl ?_
    repeat walk_at "z"
    refine ⟨_, rfl, .inl ⟨_, rfl, ?_⟩⟩
    rw [h1.hold]
    repeat walk_at "z"
    refine ⟨_, _, rfl, .inl ⟨_, rfl, ?_⟩⟩
    rw [h1.stay]
    repeat walk_at "z"
    refine ⟨_, rfl, .inl ⟨_, rfl, ?_⟩⟩
    rw [h2.hold]
    repeat walk_at "z"
    refine ⟨_, _, rfl, .inl ⟨_, rfl, ?_⟩⟩
    rw [h2.stay]
    repeat walk_at "z"
    refine ⟨_, rfl, _, _, _, _, rfl, hx, T.l_Rule, T.n_Rule_leaf, by show 0 < 1000; decide, ?_⟩
    repeat walk_at "z"
    refine ⟨_, rfl, _, _, _, _, rfl, upd_same, T.l_Rule, T.n_Rule_leaf_stays, by show 1 < 1000; decide, ?_⟩
    repeat walk_at "z"
    refine ⟨_, rfl, _, _, _, _, rfl, upd_same, T.l_Rule, T.n_Rule_inner, by show 2 < 1000; decide, ?_⟩
    repeat walk_at "z"
    refine ⟨_, rfl, _, _, _, _, rfl, upd_same, T.l_Rule, T.n_Rule_inner_stays, by show 3 < 1000; decide, ?_⟩
    repeat walk_at "z"
    rw [upd_upd, upd_upd, upd_upd]
    exact k
def spGet (K : PySem.W.Frag) (g : Int → Int → Int → Int → Int) : Sp := fun vs H Q _ => ∃ x m a f p, vs = [.ref x] ∧ RuleAt K H x m a f p ∧ Q (.int (g m a f p)) H
theorem len_get {g : Int → Int → Int → Int → Int} : ∀ vs H Q E, spGet K g vs H Q E → vs.length = 1 := fun vs H Q E h => by
  obtain ⟨x, m, a, f, p, rfl, _⟩ := h
  rfl
theorem ok_leaf {h : Heap} (c : SaysG fa fn gs ex w h K) (T : Txt K mg) : PropOk P w2 K mg base 1 (RC K) "leaf" (spGet K fun m a f p => m) := by
  refine prop_ok c 0 (d := ⟨"Rule", "leaf", "Rule.leaf", s_Rule_leaf⟩) rfl sc_Rule_leaf len_get (fun _ _ _ _ _ _ us hl => match us, hl with | [_], _ => rfl) fun g cdv A outer s H vs Q E hr h => ?_
  obtain ⟨x, m, a, f, p, rfl, ⟨dx, hx⟩, k⟩ := h
  refine ⟨_, (pss_one (ps_ret (pe_fld (pv 0) rfl))), ?_⟩
  refine z_start (σ' := [some _]) rfl ?_
  repeat walk_at "z"
  refine z_fld rfl hx T.l_Rule T.n_Rule_leaf rfl ?_
  repeat walk_at "z"
  exact k
theorem ok_leaf_stays {h : Heap} (c : SaysG fa fn gs ex w h K) (T : Txt K mg) : PropOk P w2 K mg base 1 (RC K) "leaf_stays" (spGet K fun m a f p => a) := by
  refine prop_ok c 1 (d := ⟨"Rule", "leaf_stays", "Rule.leaf_stays", s_Rule_leaf_stays⟩) rfl sc_Rule_leaf_stays len_get (fun _ _ _ _ _ _ us hl => match us, hl with | [_], _ => rfl) fun g cdv A outer s H vs Q E hr h => ?_
  obtain ⟨x, m, a, f, p, rfl, ⟨dx, hx⟩, k⟩ := h
  refine ⟨_, (pss_one (ps_ret (pe_fld (pv 0) rfl))), ?_⟩
  refine z_start (σ' := [some _]) rfl ?_
  repeat walk_at "z"
  refine z_fld rfl hx T.l_Rule T.n_Rule_leaf_stays rfl ?_
  repeat walk_at "z"
  exact k
theorem ok_leaf_goes {h : Heap} (c : SaysG fa fn gs ex w h K) (T : Txt K mg) : PropOk P w2 K mg base 1 (RC K) "leaf_goes" (spGet K fun m a f p => m + 1 - a) := by
  refine prop_ok c 2 (d := ⟨"Rule", "leaf_goes", "Rule.leaf_goes", s_Rule_leaf_goes⟩) rfl sc_Rule_leaf_goes len_get (fun _ _ _ _ _ _ us hl => match us, hl with | [_], _ => rfl) fun g cdv A outer s H vs Q E hr h => ?_
  obtain ⟨x, m, a, f, p, rfl, ⟨dx, hx⟩, k⟩ := h
  refine ⟨_, (pss_one (ps_ret (pe_op op_sub (pe_op op_add (pe_fld (pv 0) rfl) pe_int) (pe_fld (pv 0) rfl)))), ?_⟩
  refine z_start (σ' := [some _]) rfl ?_
  repeat walk_at "z"
  refine z_fld rfl hx T.l_Rule T.n_Rule_leaf rfl ?_
  repeat walk_at "z"
  refine z_fld rfl hx T.l_Rule T.n_Rule_leaf_stays rfl ?_
  repeat walk_at "z"
  exact k
theorem ok_inner {h : Heap} (c : SaysG fa fn gs ex w h K) (T : Txt K mg) : PropOk P w2 K mg base 1 (RC K) "inner" (spGet K fun m a f p => f) := by
  refine prop_ok c 3 (d := ⟨"Rule", "inner", "Rule.inner", s_Rule_inner⟩) rfl sc_Rule_inner len_get (fun _ _ _ _ _ _ us hl => match us, hl with | [_], _ => rfl) fun g cdv A outer s H vs Q E hr h => ?_
  obtain ⟨x, m, a, f, p, rfl, ⟨dx, hx⟩, k⟩ := h
  refine ⟨_, (pss_one (ps_ret (pe_fld (pv 0) rfl))), ?_⟩
  refine z_start (σ' := [some _]) rfl ?_
  repeat walk_at "z"
  refine z_fld rfl hx T.l_Rule T.n_Rule_inner rfl ?_
  repeat walk_at "z"
  exact k
theorem ok_inner_stays {h : Heap} (c : SaysG fa fn gs ex w h K) (T : Txt K mg) : PropOk P w2 K mg base 1 (RC K) "inner_stays" (spGet K fun m a f p => p) := by
  refine prop_ok c 4 (d := ⟨"Rule", "inner_stays", "Rule.inner_stays", s_Rule_inner_stays⟩) rfl sc_Rule_inner_stays len_get (fun _ _ _ _ _ _ us hl => match us, hl with | [_], _ => rfl) fun g cdv A outer s H vs Q E hr h => ?_
  obtain ⟨x, m, a, f, p, rfl, ⟨dx, hx⟩, k⟩ := h
  refine ⟨_, (pss_one (ps_ret (pe_fld (pv 0) rfl))), ?_⟩
  refine z_start (σ' := [some _]) rfl ?_
  repeat walk_at "z"
  refine z_fld rfl hx T.l_Rule T.n_Rule_inner_stays rfl ?_
  repeat walk_at "z"
  exact k
theorem ok_inner_goes {h : Heap} (c : SaysG fa fn gs ex w h K) (T : Txt K mg) : PropOk P w2 K mg base 1 (RC K) "inner_goes" (spGet K fun m a f p => f + 1 - p) := by
  refine prop_ok c 5 (d := ⟨"Rule", "inner_goes", "Rule.inner_goes", s_Rule_inner_goes⟩) rfl sc_Rule_inner_goes len_get (fun _ _ _ _ _ _ us hl => match us, hl with | [_], _ => rfl) fun g cdv A outer s H vs Q E hr h => ?_
  obtain ⟨x, m, a, f, p, rfl, ⟨dx, hx⟩, k⟩ := h
  refine ⟨_, (pss_one (ps_ret (pe_op op_sub (pe_op op_add (pe_fld (pv 0) rfl) pe_int) (pe_fld (pv 0) rfl)))), ?_⟩
  refine z_start (σ' := [some _]) rfl ?_
  repeat walk_at "z"
  refine z_fld rfl hx T.l_Rule T.n_Rule_inner rfl ?_
  repeat walk_at "z"
  refine z_fld rfl hx T.l_Rule T.n_Rule_inner_stays rfl ?_
  repeat walk_at "z"
  exact k
def spEq (K : PySem.W.Frag) : Sp := fun vs H Q _ => ∃ x y m a f p, vs = [.ref x, y] ∧ RuleAt K H x m a f p ∧ ((∃ z m' a' f' p', y = .ref z ∧ RuleAt K H z m' a' f' p' ∧ Q (.bl (decide (m = m' ∧ a = a' ∧ f = f' ∧ p = p'))) H) ∨
  (∃ t, TyX K H y t ∧ PySem.W.kitOne K t (.ref (RC K)) = some false ∧ Q (.bl false) H))
theorem ok_eq {fd : FuncData} (F : FunD K "__eq__" "Rule.__eq__" (defArgs s_Rule_eq) (defBody s_Rule_eq) (defScope s_Rule_eq) [] [] (He.ma K (He.ga K "Rule") "__eq__") fd) (T : Txt K mg) (cI : insB K (RC K) = true) (cO : onB K (RC K) = true) (cN : neB K (RC K) (He.ma K (RC K) "__eq__") = true) :
    EqOk P w K mg base 1 (RC K) (spEq K) := by
  refine ⟨⟨_, fd, F.ok sc_Rule_eq (fun vs H Q E h => ?_) (fun cdv A outer s H vs Q E hr h => ?_), T.h_Rule_eq.at_, T.h_Rule_eq.fn, cN, F.bindsN fun _ _ _ _ _ _ us hl => match us, hl with | [_, _], _ => rfl⟩⟩
  · obtain ⟨x, y, m, a, f, p, rfl, _⟩ := h
    rfl
  · obtain ⟨x, y, m, a, f, p, rfl, ⟨dx, hx⟩, k⟩ := h
    refine ⟨_, (pss_one (ps_ret (pe_and (pe_callB call_isi (by rfl) T.isinstance (by decide +kernel) (pa_cons (pv 1) (pa_cons (pe_glob (v := .ref _) rfl T.c_Rule rfl) pa_nil))) (pe_and (pe_cmpR op_eq (pe_fld (pv 0) rfl) (pe_fld (pv 1) rfl) (nomark _)) (pe_and (pe_cmpR op_eq (pe_fld (pv 0) rfl) (pe_fld (pv 1) rfl) (nomark _)) (pe_and (pe_cmpR op_eq (pe_fld (pv 0) rfl) (pe_fld (pv 1) rfl) (nomark _)) (pe_one (pe_cmpR op_eq (pe_fld (pv 0) rfl) (pe_fld (pv 1) rfl) (nomark _))))))))), ?_⟩
    refine z_start (σ' := [some _, some _]) rfl ?_
    repeat walk_at "z"
    rcases k with ⟨z, m', a', f', p', rfl, ⟨dz, hz⟩, k⟩ | ⟨t, ty, e, k⟩
    · refine z_isi (ClsV.own _) (insB_ok cI T.l_Rule hz) (of_decide_eq_true (He.ba cO).2) ?_
      repeat walk_at "z"
      refine z_fld rfl hx T.l_Rule T.n_Rule_leaf rfl ?_
      repeat walk_at "z"
      refine z_fld rfl hz T.l_Rule T.n_Rule_leaf rfl ?_
      repeat walk_at "z"
      refine ite2 (fun h1 => ?_) (fun h1 => ?_)
      · repeat walk_at "z"
        refine z_fld rfl hx T.l_Rule T.n_Rule_leaf_stays rfl ?_
        repeat walk_at "z"
        refine z_fld rfl hz T.l_Rule T.n_Rule_leaf_stays rfl ?_
        repeat walk_at "z"
        refine ite2 (fun h2 => ?_) (fun h2 => ?_)
        · repeat walk_at "z"
          refine z_fld rfl hx T.l_Rule T.n_Rule_inner rfl ?_
          repeat walk_at "z"
          refine z_fld rfl hz T.l_Rule T.n_Rule_inner rfl ?_
          repeat walk_at "z"
          refine ite2 (fun h3 => ?_) (fun h3 => ?_)
          · repeat walk_at "z"
            refine z_fld rfl hx T.l_Rule T.n_Rule_inner_stays rfl ?_
            repeat walk_at "z"
            refine z_fld rfl hz T.l_Rule T.n_Rule_inner_stays rfl ?_
            repeat walk_at "z"
            rw [show decide (m = m' ∧ a = a' ∧ f = f' ∧ p = p') = decide (p = p') from by simp_all] at k
            exact k
          · rw [show decide (m = m' ∧ a = a' ∧ f = f' ∧ p = p') = false from by simp_all] at k
            exact k
        · rw [show decide (m = m' ∧ a = a' ∧ f = f' ∧ p = p') = false from by simp_all] at k
          exact k
      · rw [show decide (m = m' ∧ a = a' ∧ f = f' ∧ p = p') = false from by simp_all] at k
        exact k
    · refine z_isi (ClsV.own _) ty e ?_
      repeat walk_at "z"
      exact k
end
end K01
set_option Elab.async false
set_option linter.all false
set_option maxRecDepth 100000
set_option maxHeartbeats 4000000
namespace K01
open PySem PySem.Spec L2 Z
open PyProof.Rows hiding St
local macro_rules | `(tactic| walk_at "z") => `(tactic| first
  | with_reducible refine Z.z_seq ?_
  | with_reducible refine Z.z_asg ?_
  | with_reducible refine Z.z_op ?_
  | with_reducible refine Z.z_cons ?_
  | with_reducible refine Z.z_nil ?_
  | with_reducible refine Z.z_c ?_
  | ((with_reducible refine' Z.z_var ?e ?_); (case e => exact rfl))
  | ((with_reducible refine' Z.z_name ?e ?_); (case e => repeat constructor))
  | with_reducible refine Z.z_sub ?_
  | with_reducible refine Z.z_I0 ?_
  | with_reducible refine Z.z_eqI ?_
  | with_reducible refine Z.z_neI ?_
  | with_reducible refine Z.z_cb ?_
  | with_reducible refine Z.z_int1 ?_
  | with_reducible refine Z.z_max2 ?_
  | with_reducible refine Z.z_min2 ?_
  | with_reducible refine Z.z_call ?_
  | with_reducible refine Z.z_test ?_
  | with_reducible refine Z.z_B ?_
  | with_reducible refine Z.z_ex _ ?_
  | with_reducible refine Z.z_and ?_
  | with_reducible refine Z.z_or ?_
  | with_reducible refine Z.z_not ?_
  | with_reducible refine Z.z_andV ?_
  | with_reducible refine Z.z_orV ?_
  | with_reducible refine Z.z_notV ?_
  | with_reducible refine Z.z_ifE ?_
  | with_reducible refine Z.z_chain ?_
  | with_reducible refine Z.z_if ?_
  | with_reducible refine Z.z_ret ?_
  | with_reducible refine Z.z_retN ?_
  | with_reducible refine Z.z_next ?_
  | with_reducible refine Z.z_brk ?_
  | with_reducible refine Z.z_cont ?_
  | with_reducible refine Z.z_drop ?_
  | with_reducible refine Z.z_un ?_
  | with_reducible refine Z.z_U ?_
  | with_reducible refine Z.z_lst ?_
  | with_reducible refine Z.z_tup ?_
  | with_reducible refine Z.z_par ?_
  | ((with_reducible refine' Z.z_par2 ?e1 ?e2 ?_); (case e1 => repeat constructor); (case e2 => repeat constructor))
  | with_reducible refine Z.z_iteT ?_
  | with_reducible refine Z.z_iteF ?_)
local macro_rules | `(tactic| walk_at "z") => `(tactic| first
  | with_reducible refine Z.z_iteNT ?_
  | with_reducible refine Z.z_iteNF ?_
  | with_reducible refine Z.z_sfld ?_)
local macro_rules | `(tactic| walk_at "z") => `(tactic| first
  | with_reducible refine Z.z_iTup ?_
  | with_reducible refine Z.z_iList ?_
  | with_reducible refine Z.z_lc ?_)

section
variable {P : Program} {w w2 : World} {K : PySem.W.Frag} {mg : Str → Option Value} {base : Heap}
def spWound (K : PySem.W.Frag) : Sp := fun vs H Q _ => ∃ (a : Addr) (ns : List Int) (k : Nat), vs = [.ref a, .int k] ∧ SqL K H a (ns.map V.int) ∧ k < 1000 ∧ ∀ (p : Addr) (x c : Int), 0 ≤ c → c < 2 ^ 140 → H p = none → Q (.ref p) (upd H p (.lst [.int x, .int c, .int 0]))
theorem ok_wound (D : Def K mg "_law_wound" s_law_wound) (T : Txt K mg) : CallOk P w K mg base CX0 1 "_law_wound" ["script", "k"] (spWound K) := by
  refine def_ok D sc_law_wound (fun vs H Q E h => ?_) (fun _ _ _ _ _ _ us hl => match us, hl with | [_, _], _ => rfl) (fun fa cdv A outer s H vs Q E hr h => ?_)
  · obtain ⟨a, ns, k, rfl, _⟩ := h
    rfl
  · obtain ⟨a, ns, j, rfl, hS, hj, k⟩ := h
    refine ⟨_, (pss_cons (ps_set (i := 2) sc_law_wound.nd rfl (Or.inl rfl) pe_int)
  (pss_cons (ps_if (pt_cmpR op_lt (pv 1) (pe_callB cLen (by rfl) T.len PySem.boot_len (pa_cons (pv 0) pa_nil)) (nomark _)) (pss_one (ps_set (i := 2) sc_law_wound.nd rfl (Or.inl rfl) (pe_ix ix_list (pv 0) (pv 1) (fun _ _ => rfl)))) pss_nil)
  (pss_one (ps_ret (pe_lst (pa_cons (pe_callB (cMax rfl) (by rfl) T.max (by decide +kernel) (pa_cons pe_int (pa_cons (pe_op op_sub (pv 2) (pe_op op_pow pe_int pe_int)) pa_nil))) (pa_cons (pe_op op_add (pe_op op_add (pe_op op_mul (pe_op op_mod (pe_callTy cInt (by rfl) T.int (by decide +kernel) (pa_cons (pv 2) pa_nil)) (pe_op op_add (pe_op op_pow pe_int pe_int) pe_int)) pe_int) (pe_op op_mul pe_int (pv 1))) pe_int) (pa_cons pe_int pa_nil)))))))), ?_⟩
    refine z_start (σ' := [some _, some _, none]) rfl ?_
    repeat walk_at "z"
    refine z_len hS ?_
    repeat walk_at "z"
    refine ite2 ?ha ?hb
    case' ha =>
      intro h1
      have h2 : j < ns.length := by
        have := of_decide_eq_true h1
        rw [List.length_map] at this
        omega
      repeat walk_at "z"
      refine z_ixL (v := .int ns[j]) hS (atI_nat (j := j) (by rw [List.getElem?_map, List.getElem?_eq_getElem h2]; rfl)) ?_
    case' hb => intro h1
    all_goals
      repeat walk_at "z"
      refine z_I (z_pow (by decide) (by decide) (by decide)) ?_
      repeat walk_at "z"
      refine z_I (z_pow (by decide) (by decide) (by decide)) ?_
      repeat walk_at "z"
      refine z_modG (by decide) fun r h0 h3 => ?_
      repeat walk_at "z"
      refine z_I (C := CMul) (.inr ⟨by decide, by decide⟩) ?_
      repeat walk_at "z"
      refine z_I (C := CMul) (.inl ⟨by decide, by decide⟩) ?_
      repeat walk_at "z"
      refine ⟨by show 3 ≤ sizeLine; decide, fun p hp => k p _ _ ?_ ?_ hp⟩
      · omega
      · have e : (10 : Int) ^ Int.toNat 38 + 133 < 2 ^ 130 := by decide
        omega
def spSpin : Sp := fun vs H Q _ => ∃ (b : Addr) (x c t many : Int), vs = [.ref b, .int many] ∧ H b = some (.lst [.int x, .int c, .int t]) ∧ 0 ≤ c ∧ c < 2 ^ 140 ∧ 0 ≤ t ∧ t < 100000 ∧ 0 < many ∧ many.natAbs < 2 ^ 9000 ∧
  ∀ r z t' : Int, 0 ≤ r → r < many → t ≤ t' → t' ≤ t + 1 → Q (.int r) (upd H b (.lst [.int z, .int c, .int t']))
theorem ok_spin (D : Def K mg "_law_spin" s_law_spin) (T : Txt K mg) : CallOk P w K mg base CX0 1 "_law_spin" ["reel", "many"] spSpin := by
  refine def_ok D sc_law_spin (fun vs H Q E h => ?_) (fun _ _ _ _ _ _ us hl => match us, hl with | [_, _], _ => rfl) (fun fa cdv A outer s H vs Q E hr h => ?_)
  · obtain ⟨b, x, c, t, many, rfl, _⟩ := h
    rfl
  · obtain ⟨b, x, c, t, many, rfl, hb, hc0, hc1, ht0, ht1, hp, h9, k⟩ := h
    refine ⟨_, (pss_cons (ps_if (pt_cmpR op_gt (pe_ix ix_list (pv 0) pe_int (fun _ _ => rfl)) pe_int (nomark _)) (pss_cons (ps_set (i := 2) sc_law_spin.nd rfl (Or.inl rfl) (pe_op op_mod (pe_callTy cInt (by rfl) T.int (by decide +kernel) (pa_cons (pe_ix ix_list (pv 0) pe_int (fun _ _ => rfl)) pa_nil)) (pv 1)))
  (pss_cons (ps_asg (pe_op op_fdivW (pe_ix ix_list (pv 0) pe_int (fun _ _ => rfl)) (pv 1)) (pg_sub (pv 0) pe_int set_list))
  (pss_one (ps_ret (pv 2))))) pss_nil)
  (pss_cons (ps_asg (pe_op op_add (pe_ix ix_list (pv 0) pe_int (fun _ _ => rfl)) pe_int) (pg_sub (pv 0) pe_int set_list))
  (pss_cons (ps_set (i := 3) sc_law_spin.nd rfl (Or.inl rfl) (pe_op op_mod (pe_callTy cInt (by rfl) T.int (by decide +kernel) (pa_cons (pe_op op_powW (pe_op op_add (pe_ix ix_list (pv 0) pe_int (fun _ _ => rfl)) (pe_op op_mul pe_int (pe_ix ix_list (pv 0) pe_int (fun _ _ => rfl)))) pe_int) pa_nil)) (pe_op op_add (pe_op op_powW pe_int pe_int) pe_int)))
  (pss_cons (ps_set (i := 3) sc_law_spin.nd rfl (Or.inl rfl) (pe_op op_mod (pe_callTy cInt (by rfl) T.int (by decide +kernel) (pa_cons (pe_op op_powW (pe_op op_add (pv 3) (pe_op op_mul pe_int (pe_ix ix_list (pv 0) pe_int (fun _ _ => rfl)))) pe_int) pa_nil)) (pe_op op_add (pe_op op_powW pe_int pe_int) pe_int)))
  (pss_one (ps_ret (pe_op op_mod (pe_callTy cInt (by rfl) T.int (by decide +kernel) (pa_cons (pe_op op_fdiv (pv 3) pe_int) pa_nil)) (pv 1)))))))), ?_⟩
    refine z_start (σ' := [some _, some _, none, none]) rfl ?_
    repeat walk_at "z"
    refine z_ixL (SqL.of hb) rfl ?_
    repeat walk_at "z"
    refine ite2 (fun hx => ?_) (fun hx => ?_)
    · repeat walk_at "z"
      refine z_ixL (SqL.of hb) rfl ?_
      repeat walk_at "z"
      refine z_I hp ?_
      repeat walk_at "z"
      refine z_ixL (SqL.of hb) rfl ?_
      repeat walk_at "z"
      refine z_I (wide_div hp h9 (by decide) (by decide)) ?_
      repeat walk_at "z"
      refine z_setL hb rfl ?_
      repeat walk_at "z"
      exact k _ _ _ (Int.emod_nonneg _ (by omega)) (Int.emod_lt_of_pos _ hp) (by omega) (by omega)
    · repeat walk_at "z"
      refine z_ixL (SqL.of hb) rfl ?_
      repeat walk_at "z"
      refine z_setL hb rfl ?_
      have hb1 : (upd H b (.lst [.int x, .int c, .int (t + 1)])) b = some (.lst [.int x, .int c, .int (t + 1)]) := upd_same
      repeat walk_at "z"
      refine z_ixL (SqL.of hb1) rfl ?_
      repeat walk_at "z"
      refine z_ixL (SqL.of hb1) rfl ?_
      repeat walk_at "z"
      refine z_I (C := CMul) (.inl ⟨by decide, by decide⟩) ?_
      repeat walk_at "z"
      refine z_I (C := CPowW) (powW_of (b := 141) (by decide) (by omega) (by decide) (by decide)) ?_
      repeat walk_at "z"
      refine z_I (C := CPowW) (powW_of (b := 4) (by decide) (by decide) (by decide) (by decide)) ?_
      repeat walk_at "z"
      refine z_modG (by decide) fun r1 h1 h1' => ?_
      have e1 : (10 : Int) ^ Int.toNat 42 + 63 < 2 ^ 140 := by decide
      repeat walk_at "z"
      refine z_ixL (SqL.of hb1) rfl ?_
      repeat walk_at "z"
      refine z_I (C := CMul) (.inl ⟨by decide, by decide⟩) ?_
      repeat walk_at "z"
      refine z_I (C := CPowW) (powW_of (b := 141) (by decide) (by omega) (by decide) (by decide)) ?_
      repeat walk_at "z"
      refine z_I (C := CPowW) (powW_of (b := 4) (by decide) (by decide) (by decide) (by decide)) ?_
      repeat walk_at "z"
      refine z_modG (by decide) fun r2 h2 h2' => ?_
      repeat walk_at "z"
      refine z_I (C := CDiv) ⟨by decide, by decide⟩ ?_
      repeat walk_at "z"
      refine z_modG hp fun r3 h3 h3' => ?_
      exact k _ _ _ h3 h3' (by omega) (by omega)
/-- so many numbers as turns of a rule have given -/
def Turns (wide : Int) : Nat → List Int → Prop
  | 0, xs => xs = []
  | n + 1, xs => ∃ ys m a, xs = ys ++ [m, a] ∧ Turns wide n ys ∧ Ok2 m a ∧ m < 3 + wide
theorem Turns.len {wide : Int} : ∀ {n : Nat} {xs : List Int}, Turns wide n xs → xs.length = 2 * n
  | 0, _, h => by rw [show _ = [] from h]; rfl
  | n + 1, _, h => by
    obtain ⟨ys, m, a, rfl, h, _⟩ := h
    rw [List.length_append, h.len]
    rfl
def spRule : Sp := fun vs H Q _ => ∃ (b : Addr) (x c t wide : Int), vs = [.ref b, .int wide] ∧ H b = some (.lst [.int x, .int c, .int t]) ∧ 0 ≤ c ∧ c < 2 ^ 140 ∧ 0 ≤ t ∧ t < 90000 ∧ 1 ≤ wide ∧ wide ≤ 999999999999999999999999999998 ∧
  ∀ (q : Addr) (H' : Hp) (m a f p z t' : Int), SameBut b H H' → H q = none → q ≠ b → H' q = some (.lst [.int m, .int a, .int f, .int p]) → H' b = some (.lst [.int z, .int c, .int t']) → t ≤ t' → t' ≤ t + 4 → Ok2 m a → Ok2 f p → m < 3 + wide → f < 3 + wide → Q (.ref q) H'
theorem ok_rule (D : Def K mg "_law_rule" s_law_rule) (T : Txt K mg) (C_law_spin : CallOk P w K mg base CX0 1 "_law_spin" ["reel", "many"] spSpin) : CallOk P w K mg base CX0 2 "_law_rule" ["reel", "wide"] spRule := by
  refine def_ok0 D sc_law_rule (fun vs H Q E h => ?_) (fun _ _ _ _ _ _ us hl => match us, hl with | [_, _], _ => rfl) (fun fa cdv A outer s H vs Q E hr h => ?_)
  · obtain ⟨b, x, c, t, wide, rfl, _⟩ := h
    rfl
  · obtain ⟨b, x, c, t, wide, rfl, hb, hc0, hc1, ht0, ht1, hw1, hw2, k⟩ := h
    refine ⟨_, (pss_cons (ps_set (i := 2) sc_law_rule.nd rfl (Or.inl rfl) (pe_lst pa_nil))
  (pss_cons (ps_for PassesOwn.never rfl (pi_range1 rfl T.range (pa_cons pe_int pa_nil)) (pg_name (i := 3) sc_law_rule.nd rfl (Or.inl rfl)) (pss_cons (ps_set (i := 4) sc_law_rule.nd rfl (Or.inl rfl) (pe_op op_add pe_int (pe_own C_law_spin (hr.mono (by decide)) rfl pass0 (pa_cons (pv 0) (pa_cons (pv 1) pa_nil)))))
  (pss_cons (ps_set (i := 5) sc_law_rule.nd rfl (Or.inl rfl) (pe_callB (cMax rfl) (by rfl) T.max (by decide +kernel) (pa_cons pe_int (pa_cons (pe_op op_sub pe_int (pe_op op_fdiv (pe_op op_sub (pe_op op_sub pe_int (pv 4)) pe_int) pe_int)) pa_nil))))
  (pss_one (ps_set (i := 2) sc_law_rule.nd rfl (Or.inl rfl) (pe_op op_cat (pv 2) (pe_lst (pa_cons (pv 4) (pa_cons (pe_op op_add (pv 5) (pe_own C_law_spin (hr.mono (by decide)) rfl pass0 (pa_cons (pv 0) (pa_cons (pe_op op_sub (pe_op op_add (pv 4) pe_int) (pe_op op_mul pe_int (pv 5))) pa_nil)))) pa_nil)))))))))
  (pss_one (ps_ret (pv 2))))), ?_⟩
    refine z_start (σ' := [some _, some _, none, none, none, none]) rfl ?_
    repeat walk_at "z"
    refine ⟨by show 0 ≤ sizeLine; decide, fun p0 hp0 => ?_⟩
    repeat walk_at "z"
    refine ⟨2, rfl, by decide, by decide, for_range (lo := 0) (n := 2) (fun i σ H' => ∃ (x' t' : Int) (q : Addr) (xs : List Int) (v3 v4 v5 : Option V), σ = [some (.ref b), some (.int wide), some (.ref q), v3, v4, v5] ∧ SameBut b H H' ∧ H q = none ∧ q ≠ b ∧ H' q = some (.lst (xs.map V.int)) ∧
      H' b = some (.lst [.int x', .int c, .int t']) ∧ t ≤ t' ∧ t' ≤ t + 2 * (i : Int) ∧ Turns wide i xs)
      ⟨x, t, p0, [], _, _, _, rfl, .same (same_new (Same.refl H) hp0), hp0, (fun e => by rw [e, hb] at hp0; cases hp0), upd_same, by rw [upd_ne (ne_of_none hb hp0)]; exact hb, by omega, by omega, rfl⟩ ?_ ?_⟩
    · rintro turn σ H1 hturn ⟨x1, t1, q1, xs, v3, v4, v5, rfl, s1, n1, d1, hq1, hb1, l1, l2, tu⟩
      repeat walk_at "z"
      refine ⟨b, x1, c, t1, wide, rfl, hb1, hc0, hc1, by omega, by omega, by omega, by omega, fun r z2 t2 hr0 hr1 l3 l4 => ?_⟩
      repeat walk_at "z"
      refine z_I (C := CDiv) ⟨by decide, by decide⟩ ?_
      repeat walk_at "z"
      generalize hl : (if 0 - (0 - (3 + r) - 1) / 4 > 2 then 0 - (0 - (3 + r) - 1) / 4 else 2 : Int) = least
      have hl1 : 2 ≤ least ∧ 3 + r + 1 ≤ 4 * least ∧ 2 * least ≤ 3 + r + 1 := by
        rw [← hl]
        split <;> omega
      refine z_I (C := CMul) (.inl ⟨by decide, by decide⟩) ?_
      repeat walk_at "z"
      refine ⟨b, z2, c, t2, _, rfl, upd_same, hc0, hc1, by omega, by omega, by omega, by omega, fun r2 z3 t3 h20 h21 l5 l6 => ?_⟩
      repeat walk_at "z"
      rw [upd_upd]
      refine ⟨by show 2 ≤ sizeLine; decide, fun p2 hp2 => ?_⟩
      have hb2 : upd H1 b (.lst [.int z3, .int c, .int t3]) b = some (.lst [.int z3, .int c, .int t3]) := upd_same
      have hq2 : upd H1 b (.lst [.int z3, .int c, .int t3]) q1 = some (.lst (xs.map V.int)) := by rw [upd_ne d1]; exact hq1
      have s2 := (s1.trans (SameBut.upd (o := .lst [.int z3, .int c, .int t3])))
      have sm2 := same_new (o := .lst [.int (3 + r), .int (least + r2)]) (Same.refl _) hp2
      refine ⟨q1, p2, _, _, rfl, rfl, sm2 _ _ hq2, upd_same, ?_, fun p3 hp3 => ?_⟩
      · rw [List.length_map, tu.len]
        show 2 * turn + 2 ≤ sizeLine
        exact Nat.le_trans (by omega : 2 * turn + 2 ≤ 1000) (by decide)
      have sm3 := sm2.trans (same_new (o := .lst (xs.map V.int ++ [.int (3 + r), .int (least + r2)])) (Same.refl _) hp3)
      have n3 : p3 ≠ b := fun e => by
        rw [e, sm2 _ _ hb2] at hp3
        cases hp3
      repeat walk_at "z"
      refine ⟨z3, t3, p3, xs ++ [3 + r, least + r2], _, _, _, rfl, s2.trans (.same sm3), SameBut.free (s2.trans (.same sm2)) n3 hp3, n3, by rw [upd_same, List.map_append]; rfl, sm3 _ _ hb2, by omega, by omega, xs, _, _, rfl, tu, ⟨by omega, by omega, by omega, by omega, by omega, by omega⟩, by omega⟩
    · rintro σ H1 ⟨x1, t1, q1, xs, v3, v4, v5, rfl, s1, n1, d1, hq1, hb1, l1, l2, tu⟩
      obtain ⟨ys, f, p, rfl, ⟨zs, m, a, rfl, e0, o1, w1⟩, o2, w2⟩ := tu
      have e0' : zs = [] := e0
      subst e0'
      repeat walk_at "z"
      exact k q1 H1 m a f p x1 t1 s1 n1 d1 hq1 hb1 l1 (by omega) o1 o2 w1 w2
def spTold (K : PySem.W.Frag) : Sp := fun vs H Q _ => ∃ x m a f p, vs = [.ref x] ∧ RuleAt K H x m a f p ∧ ∀ q, H q = none → Q (.ref q) (upd H q (.lst [.int m, .int a, .int (m + 1 - a), .int f, .int p, .int (f + 1 - p)]))
structure Ps (P : Program) (w : World) (K : PySem.W.Frag) (mg : Str → Option Value) (base : Heap) : Prop where
  leaf : PropOk P w K mg base 1 (RC K) "leaf" (spGet K fun m a f p => m)
  leaf_stays : PropOk P w K mg base 1 (RC K) "leaf_stays" (spGet K fun m a f p => a)
  leaf_goes : PropOk P w K mg base 1 (RC K) "leaf_goes" (spGet K fun m a f p => m + 1 - a)
  inner : PropOk P w K mg base 1 (RC K) "inner" (spGet K fun m a f p => f)
  inner_stays : PropOk P w K mg base 1 (RC K) "inner_stays" (spGet K fun m a f p => p)
  inner_goes : PropOk P w K mg base 1 (RC K) "inner_goes" (spGet K fun m a f p => f + 1 - p)
theorem z_get {σ : L2.St} {i : Nat} {H : Hp} {Q : VK} {x : Addr} {m a f p : Int} {g : Int → Int → Int → Int → Int} (e : σ[i]? = some (some (.ref x))) (h : RuleAt K H x m a f p) (q : Q (.int (g m a f p)) H) : tProp (RC K) (spGet K g) [] E0 (tVar i) σ H Q := by
  obtain ⟨dx, hx⟩ := h
  exact z_prop e hx ⟨x, m, a, f, p, rfl, ⟨dx, hx⟩, q⟩
theorem ok_told (D : Def K mg "_law_told" s_law_told) (T : Txt K mg) (X : Ps P w K mg base) : CallOk P w K mg base CX0 3 "_law_told" ["one"] (spTold K) := by
  refine def_ok0 D sc_law_told (fun vs H Q E h => ?_) (fun _ _ _ _ _ _ us hl => match us, hl with | [_], _ => rfl) (fun fa cdv A outer s H vs Q E hr h => ?_)
  · obtain ⟨x, m, a, f, p, rfl, _⟩ := h
    rfl
  · obtain ⟨x, m, a, f, p, rfl, hx, k⟩ := h
    refine ⟨_, (pss_one (ps_ret (pe_lst (pa_cons (pe_propO X.leaf T.l_Rule (hr.mono (by decide)) (pv 0)) (pa_cons (pe_propO X.leaf_stays T.l_Rule (hr.mono (by decide)) (pv 0)) (pa_cons (pe_propO X.leaf_goes T.l_Rule (hr.mono (by decide)) (pv 0)) (pa_cons (pe_propO X.inner T.l_Rule (hr.mono (by decide)) (pv 0)) (pa_cons (pe_propO X.inner_stays T.l_Rule (hr.mono (by decide)) (pv 0)) (pa_cons (pe_propO X.inner_goes T.l_Rule (hr.mono (by decide)) (pv 0)) pa_nil))))))))), ?_⟩
    refine z_start (σ' := [some _]) rfl ?_
    repeat walk_at "z"
    refine z_get rfl hx ?_
    repeat walk_at "z"
    refine z_get rfl hx ?_
    repeat walk_at "z"
    refine z_get rfl hx ?_
    repeat walk_at "z"
    refine z_get rfl hx ?_
    repeat walk_at "z"
    refine z_get rfl hx ?_
    repeat walk_at "z"
    refine z_get rfl hx ?_
    repeat walk_at "z"
    exact ⟨by show 6 ≤ sizeLine; decide, fun q hq => k q hq⟩
def fitsB (m a : Int) : Bool := decide (2 ≤ a ∧ a < m ∧ m < 4 * a ∧ m < 4 * (m + 1 - a))
def spFits : Sp := fun vs H Q _ => ∃ m a, vs = [.int m, .int a] ∧ Q (.bl (fitsB m a)) H
theorem ok_fits (D : Def K mg "_law_fits" s_law_fits) (T : Txt K mg) : CallOk P w K mg base CX0 1 "_law_fits" ["most", "stays"] spFits := by
  refine def_ok D sc_law_fits (fun vs H Q E h => ?_) (fun _ _ _ _ _ _ us hl => match us, hl with | [_, _], _ => rfl) (fun fa cdv A outer s H vs Q E hr h => ?_)
  · obtain ⟨m, a, rfl, _⟩ := h
    rfl
  · obtain ⟨m, a, rfl, k⟩ := h
    refine ⟨_, (pss_one (ps_ret (pe_and (pe_chain op_le op_lt pe_int (pv 1) (pv 0)) (pe_and (pe_cmpR op_gt (pe_op op_mul pe_int (pv 1)) (pv 0) (nomark _)) (pe_one (pe_cmpR op_gt (pe_op op_mul pe_int (pe_op op_sub (pe_op op_add (pv 0) pe_int) (pv 1))) (pv 0) (nomark _))))))), ?_⟩
    refine z_start (σ' := [some _, some _]) rfl ?_
    repeat walk_at "z"
    unfold fitsB at k
    refine ite2 (fun h1 => ?_) (fun h1 => ?_)
    · repeat walk_at "z"
      refine ite2 (fun h2 => ?_) (fun h2 => ?_)
      · repeat walk_at "z"
        refine z_I (C := CMul) (.inl ⟨by decide, by decide⟩) ?_
        repeat walk_at "z"
        refine ite2 (fun h3 => ?_) (fun h3 => ?_)
        · repeat walk_at "z"
          refine z_I (C := CMul) (.inl ⟨by decide, by decide⟩) ?_
          repeat walk_at "z"
          rw [show decide (2 ≤ a ∧ a < m ∧ m < 4 * a ∧ m < 4 * (m + 1 - a)) = decide (m < 4 * (m + 1 - a)) from by simp_all] at k
          exact k
        · rw [show decide (2 ≤ a ∧ a < m ∧ m < 4 * a ∧ m < 4 * (m + 1 - a)) = false from decide_eq_false (fun q => h3 (decide_eq_true q.2.2.1))] at k
          exact k
      · rw [show decide (2 ≤ a ∧ a < m ∧ m < 4 * a ∧ m < 4 * (m + 1 - a)) = false from decide_eq_false (fun q => h2 (decide_eq_true q.2.1))] at k
        exact k
    · rw [show decide (2 ≤ a ∧ a < m ∧ m < 4 * a ∧ m < 4 * (m + 1 - a)) = false from decide_eq_false (fun q => h1 (decide_eq_true q.1))] at k
      exact z_ex _ (iteF k)
end
end K01
set_option Elab.async false
set_option linter.all false
set_option maxRecDepth 100000
set_option maxHeartbeats 4000000
namespace K01
open PySem PySem.Spec L2 Z
open PyProof.Rows hiding St
local macro_rules | `(tactic| walk_at "z") => `(tactic| first
  | with_reducible refine Z.z_seq ?_
  | with_reducible refine Z.z_asg ?_
  | with_reducible refine Z.z_op ?_
  | with_reducible refine Z.z_cons ?_
  | with_reducible refine Z.z_nil ?_
  | with_reducible refine Z.z_c ?_
  | ((with_reducible refine' Z.z_var ?e ?_); (case e => exact rfl))
  | ((with_reducible refine' Z.z_name ?e ?_); (case e => repeat constructor))
  | with_reducible refine Z.z_sub ?_
  | with_reducible refine Z.z_I0 ?_
  | with_reducible refine Z.z_eqI ?_
  | with_reducible refine Z.z_neI ?_
  | with_reducible refine Z.z_cb ?_
  | with_reducible refine Z.z_int1 ?_
  | with_reducible refine Z.z_max2 ?_
  | with_reducible refine Z.z_min2 ?_
  | with_reducible refine Z.z_call ?_
  | with_reducible refine Z.z_test ?_
  | with_reducible refine Z.z_B ?_
  | with_reducible refine Z.z_ex _ ?_
  | with_reducible refine Z.z_and ?_
  | with_reducible refine Z.z_or ?_
  | with_reducible refine Z.z_not ?_
  | with_reducible refine Z.z_andV ?_
  | with_reducible refine Z.z_orV ?_
  | with_reducible refine Z.z_notV ?_
  | with_reducible refine Z.z_ifE ?_
  | with_reducible refine Z.z_chain ?_
  | with_reducible refine Z.z_if ?_
  | with_reducible refine Z.z_ret ?_
  | with_reducible refine Z.z_retN ?_
  | with_reducible refine Z.z_next ?_
  | with_reducible refine Z.z_brk ?_
  | with_reducible refine Z.z_cont ?_
  | with_reducible refine Z.z_drop ?_
  | with_reducible refine Z.z_un ?_
  | with_reducible refine Z.z_U ?_
  | with_reducible refine Z.z_lst ?_
  | with_reducible refine Z.z_tup ?_
  | with_reducible refine Z.z_par ?_
  | ((with_reducible refine' Z.z_par2 ?e1 ?e2 ?_); (case e1 => repeat constructor); (case e2 => repeat constructor))
  | with_reducible refine Z.z_iteT ?_
  | with_reducible refine Z.z_iteF ?_)
local macro_rules | `(tactic| walk_at "z") => `(tactic| first
  | with_reducible refine Z.z_iteNT ?_
  | with_reducible refine Z.z_iteNF ?_
  | with_reducible refine Z.z_sfld ?_)
local macro_rules | `(tactic| walk_at "z") => `(tactic| first
  | with_reducible refine Z.z_iTup ?_
  | with_reducible refine Z.z_iList ?_
  | with_reducible refine Z.z_lc ?_)

section
variable {P : Program} {w w2 : World} {K : PySem.W.Frag} {mg : Str → Option Value} {base : Heap}
/-- Rule(m, a, f, p) of numbers that make one -/
theorem z_mk {ta : TA} {σ : L2.St} {H : Hp} {Q : VK} (h : ta σ H fun vs H1 => ∃ m a f p, vs = [.int m, .int a, .int f, .int p] ∧ Ok2 m a ∧ Ok2 f p ∧ ∀ x H2, Same H1 H2 → H1 x = none → RuleAt K H2 x m a f p → Q (.ref x) H2)
    (hm : ∀ (P1 P2 : List V → Hp → Prop), (∀ vs H, P1 vs H → P2 vs H) → ta σ H P1 → ta σ H P2) : tMake (He.ga K "Rule") (spInit K) [] E0 ta σ H Q := by
  refine z_make (hm _ _ (fun vs H1 q => ?_) h)
  obtain ⟨m, a, f, p, rfl, o1, o2, k⟩ := q
  intro x dx hx hd hne
  refine ⟨x, dx, m, a, f, p, rfl, upd_same, o1, o2, rfl, ?_⟩
  rw [upd_upd]
  exact k x _ (same_new (same_new (Same.refl H1) hd) (by rw [upd_ne (fun e => hne e.symm)]; exact hx)) hx ⟨dx, upd_same⟩
theorem z_mk4 {σ : L2.St} {H : Hp} {Q : VK} {t1 t2 t3 t4 : TE} {m a f p : Int} (h1 : PuT t1 σ H (.int m)) (h2 : PuT t2 σ H (.int a)) (h3 : PuT t3 σ H (.int f)) (h4 : PuT t4 σ H (.int p)) (o1 : Ok2 m a) (o2 : Ok2 f p)
    (q : ∀ x H2, Same H H2 → H x = none → RuleAt K H2 x m a f p → Q (.ref x) H2) : tMake (He.ga K "Rule") (spInit K) [] E0 (tCons t1 (tCons t2 (tCons t3 (tCons t4 tNil)))) σ H Q := by
  refine z_make (PuA.cons h1 (PuA.cons h2 (PuA.cons h3 (PuA.cons h4 .nil))) H (Same.refl H) _ ?_)
  intro x dx hx hd hne
  refine ⟨x, dx, m, a, f, p, rfl, upd_same, o1, o2, rfl, ?_⟩
  rw [upd_upd]
  exact q x _ (same_new (same_new (Same.refl H) hd) (by rw [upd_ne (fun e => hne e.symm)]; exact hx)) hx ⟨dx, upd_same⟩
theorem z_eqRR (cI : insB K (RC K) = true) (cO : onB K (RC K) = true) (cl : Cls K (RC K)) {H : Hp} {Q : VK} {x y : Addr} {m a f p m' a' f' p' : Int} (h1 : RuleAt K H x m a f p) (h2 : RuleAt K H y m' a' f' p')
    (q : Q (.bl (decide (m = m' ∧ a = a' ∧ f = f' ∧ p = p'))) H) : rEqO K (RC K) (spEq K) (.ref x) (.ref y) H Q := by
  obtain ⟨dx, hx⟩ := h1
  obtain ⟨dy, hy⟩ := h2
  exact z_eqO hx (insB_ok cI cl hy) (He.ba cO).1 ⟨x, .ref y, m, a, f, p, rfl, ⟨dx, hx⟩, .inl ⟨y, m', a', f', p', rfl, ⟨dy, hy⟩, _, rfl, q⟩⟩
theorem z_eqRO {H : Hp} {Q : VK} {x : Addr} {y : V} {t : Value} {m a f p : Int} (h1 : RuleAt K H x m a f p) (ty : TyX K H y t) (c : offB K (RC K) t = true) (q : Q (.bl false) H) : rEqO K (RC K) (spEq K) (.ref x) y H Q := by
  obtain ⟨dx, hx⟩ := h1
  exact z_eqO hx ty (He.ba c).1 ⟨x, y, m, a, f, p, rfl, ⟨dx, hx⟩, .inr ⟨t, ty, of_decide_eq_true (He.ba c).2, _, rfl, q⟩⟩
theorem z_neRR {H : Hp} {Q : VK} {x y : Addr} {m a f p m' a' f' p' : Int} (h1 : RuleAt K H x m a f p) (h2 : RuleAt K H y m' a' f' p') (q : Q (.bl (!decide (m = m' ∧ a = a' ∧ f = f' ∧ p = p'))) H) : rNeO (RC K) (spEq K) (.ref x) (.ref y) H Q := by
  obtain ⟨dx, hx⟩ := h1
  obtain ⟨dy, hy⟩ := h2
  exact z_neO hx hy ⟨x, .ref y, m, a, f, p, rfl, ⟨dx, hx⟩, .inl ⟨y, m', a', f', p', rfl, ⟨dy, hy⟩, _, rfl, q⟩⟩
theorem z_neS {x y : V} {b : Bool} {H : Hp} {Q : VK} (hs : scal x y = true) (e : decide (x = y) = b) (h : Q (.bl (!b)) H) : rNe x y H Q := by
  subst e
  exact ⟨hs, h⟩
theorem log_of {n : Int} (h : n.natAbs < 2 ^ 1000) : n.natAbs.log2 < 1000 := by
  rcases Nat.eq_zero_or_pos n.natAbs with e | e
  · rw [e]; decide
  · exact (Nat.log2_lt (by omega)).mpr h
theorem Ok2.log {m a : Int} (h : Ok2 m a) : m.natAbs.log2 < 1000 ∧ a.natAbs.log2 < 1000 ∧ (m + 1 - a).natAbs.log2 < 1000 := by
  obtain ⟨h1, h2, h3, h4, h5, h6⟩ := h
  have e : (1000000000000000000000000000001 : Nat) < 2 ^ 1000 := by decide +kernel
  exact ⟨log_of (Nat.lt_of_le_of_lt (by omega) e), log_of (Nat.lt_of_le_of_lt (by omega) e), log_of (Nat.lt_of_le_of_lt (by omega) e)⟩
theorem Ok2.of {m a : Int} (h : fitsB m a = true) (hm : m ≤ 10 ^ Int.toNat 30) : Ok2 m a := by
  obtain ⟨h1, h2, h3, h4⟩ := of_decide_eq_true h
  have e : (10 : Int) ^ Int.toNat 30 = 1000000000000000000000000000000 := by decide
  rw [e] at hm
  exact ⟨by omega, hm, h1, by omega, by omega, by omega⟩
theorem pu_ixT {σ : L2.St} {H : Hp} {i : Nat} {q : Addr} {xs : List V} {k : Int} {v : V} (e : σ[i]? = some (some (.ref q))) (h : H q = some (.tup xs)) (hk : atI xs k = some v) : PuT (tOp (rIxT K) (tVar i) (tC (.int k))) σ H v := fun _ s _ q' =>
  ⟨_, e, ⟨q, xs, k, v, rfl, rfl, SqT.of (s _ _ h), hk, q'⟩⟩
theorem four_eq (m a f p i1 i2 i3 i4 : Int) : decide (m = i1 ∧ a = i2 ∧ f = i3 ∧ p = i4) = decide ([i1, i2, i3, i4] = [m, a, f, p]) := by
  rw [decide_eq_decide]
  constructor
  · rintro ⟨rfl, rfl, rfl, rfl⟩
    rfl
  · intro h
    simp only [List.cons.injEq, and_true] at h
    obtain ⟨h1, h2, h3, h4⟩ := h
    exact ⟨h1.symm, h2.symm, h3.symm, h4.symm⟩
theorem four_comm (m a f p i1 i2 i3 i4 : Int) : decide (i1 = m ∧ i2 = a ∧ i3 = f ∧ i4 = p) = decide (m = i1 ∧ a = i2 ∧ f = i3 ∧ p = i4) := by
  rw [decide_eq_decide]
  exact ⟨fun ⟨h1, h2, h3, h4⟩ => ⟨h1.symm, h2.symm, h3.symm, h4.symm⟩, fun ⟨h1, h2, h3, h4⟩ => ⟨h1.symm, h2.symm, h3.symm, h4.symm⟩⟩
theorem z_startT {t : TT} {σ σ' : L2.St} {H : Hp} {QT : Bool → Hp → Prop} (e : σ = σ') (h : t σ' H QT) : t σ H QT := by
  rw [e]
  exact h
/-- a tuple of four whole numbers -/
def Four (H : Hp) (e : V) : Prop := ∃ (t : Addr) (i1 i2 i3 i4 : Int), e = .ref t ∧ H t = some (.tup [.int i1, .int i2, .int i3, .int i4])
theorem Four.mono {H H' : Hp} {e : V} (s : Same H H') (h : Four H e) : Four H' e := by
  obtain ⟨t, i1, i2, i3, i4, rfl, h⟩ := h
  exact ⟨t, i1, i2, i3, i4, rfl, s _ _ h⟩
structure KitG (K : PySem.W.Frag) : Prop where
  cI : insB K (RC K) = true
  cO : onB K (RC K) = true
  cF : ∀ t ∈ offs, offB K (RC K) t = true
  cN : neB K (RC K) (He.ma K (RC K) "__eq__") = true
  cK : kitsB K = true
theorem kitG_of (h : exB K = true) : KitG K := by
  obtain ⟨h1, h⟩ := He.ba h
  obtain ⟨h2, h⟩ := He.ba h
  obtain ⟨h3, h⟩ := He.ba h
  obtain ⟨h4, h5⟩ := He.ba h
  exact ⟨h1, h2, List.all_eq_true.mp h3, h4, h5⟩
def spRight : Sp := fun vs H Q _ => ∃ (b : Addr) (x c t wide : Int), vs = [.ref b, .int wide] ∧ H b = some (.lst [.int x, .int c, .int t]) ∧ 0 ≤ c ∧ c < 2 ^ 140 ∧ 0 ≤ t ∧ t < 80000 ∧ 1 ≤ wide ∧ wide ≤ 999999999999999999999999999998 ∧
  ∀ (H' : Hp) (z t' : Int), SameBut b H H' → H' b = some (.lst [.int z, .int c, .int t']) → t ≤ t' → t' ≤ t + 4 → Q (.bl true) H'
theorem ok_right (D : Def K mg "_law_right" s_law_right) (T : Txt K mg) (G : KitG K) (C_law_rule : CallOk P w K mg base CX0 2 "_law_rule" ["reel", "wide"] spRule) (C_law_told : CallOk P w K mg base CX0 3 "_law_told" ["one"] (spTold K))
    (C_law_fits : CallOk P w K mg base CX0 1 "_law_fits" ["most", "stays"] spFits) (C_Rule : MakeOk P w K mg base 4 "Rule" ["self", "leaf", "leaf_stays", "inner", "inner_stays"] (spInit K)) (E_Rule : EqOk P w K mg base 1 (RC K) (spEq K)) :
    CallOkG P w K mg base CX0 6 "_law_right" ["reel", "wide"] spRight := by
  refine def_okG0 D sc_law_right (fun vs H Q E h => ?_) (fun _ _ _ _ _ _ us hl => match us, hl with | [_, _], _ => rfl) (fun fa cdv A outer s H vs Q E hr hgd h => ?_)
  · obtain ⟨b, x, c, t, wide, rfl, _⟩ := h
    rfl
  · obtain ⟨b, x, c, t, wide, rfl, hb, hc0, hc1, ht0, ht1, hw1, hw2, k⟩ := h
    refine ⟨_, (pss_cons (ps_asg (pe_own C_law_rule (hr.mono (by decide)) rfl pass0 (pa_cons (pv 0) (pa_cons (pv 1) pa_nil))) (pg_unl (by rfl) (pgs_cons (pg_name (i := 2) sc_law_right.nd rfl (Or.inl rfl)) (pgs_cons (pg_name (i := 3) sc_law_right.nd rfl (Or.inl rfl)) (pgs_cons (pg_name (i := 4) sc_law_right.nd rfl (Or.inl rfl)) (pgs_cons (pg_name (i := 5) sc_law_right.nd rfl (Or.inl rfl)) pgs_nil))))))
  (pss_cons (ps_set (i := 6) sc_law_right.nd rfl (Or.inr rfl) (pe_makeO C_Rule (hr.mono (by decide)) rfl (pa_cons (pv 2) (pa_cons (pv 3) (pa_cons (pv 4) (pa_cons (pv 5) pa_nil))))))
  (pss_cons (ps_if (pt_cmpR op_ne (pe_callB (cReprD hgd hr.units) (by rfl) T.repr (by decide +kernel) (pa_cons (pe_own C_law_told (hr.mono (by decide)) rfl pass0 (pa_cons (pv 6) pa_nil)) pa_nil)) (pe_callB (cReprD hgd hr.units) (by rfl) T.repr (by decide +kernel) (pa_cons (pe_lst (pa_cons (pv 2) (pa_cons (pv 3) (pa_cons (pe_op op_sub (pe_op op_add (pv 2) pe_int) (pv 3)) (pa_cons (pv 4) (pa_cons (pv 5) (pa_cons (pe_op op_sub (pe_op op_add (pv 4) pe_int) (pv 5)) pa_nil))))))) pa_nil)) (nomark _)) (pss_one (ps_ret pe_bl)) pss_nil)
  (pss_cons (ps_if (PW.pt (pw_or (pt_not (pt_cmpR (op_eqK (k := 1) (K := K) rfl E_Rule (hr.mono (by decide))) (pv 6) (pe_makeO C_Rule (hr.mono (by decide)) rfl (pa_cons (pv 2) (pa_cons (pv 3) (pa_cons (pv 4) (pa_cons (pv 5) pa_nil))))) (nomark _))) (pw_or1 (pt_cmpR (op_neE E_Rule (hr.mono (by decide))) (pv 6) (pe_makeO C_Rule (hr.mono (by decide)) rfl (pa_cons (pv 2) (pa_cons (pv 3) (pa_cons (pv 4) (pa_cons (pv 5) pa_nil))))) (nomark _))))) (pss_one (ps_ret pe_bl)) pss_nil)
  (pss_cons (ps_for PassesOwn.never rfl (pi_list (pe_lst (pa_cons (pe_tup (pa_cons (pe_op op_add (pv 2) pe_int) (pa_cons (pv 3) (pa_cons (pv 4) (pa_cons (pv 5) pa_nil))))) (pa_cons (pe_tup (pa_cons (pv 2) (pa_cons (pe_op op_add (pv 3) pe_int) (pa_cons (pv 4) (pa_cons (pv 5) pa_nil))))) (pa_cons (pe_tup (pa_cons (pv 2) (pa_cons (pv 3) (pa_cons (pe_op op_add (pv 4) pe_int) (pa_cons (pv 5) pa_nil))))) (pa_cons (pe_tup (pa_cons (pv 2) (pa_cons (pv 3) (pa_cons (pv 4) (pa_cons (pe_op op_sub (pv 5) pe_int) pa_nil))))) (pa_cons (pe_tup (pa_cons (pv 4) (pa_cons (pv 5) (pa_cons (pv 2) (pa_cons (pv 3) pa_nil))))) pa_nil))))))) (pg_name (i := 7) sc_law_right.nd rfl (Or.inl rfl)) (pss_one (ps_if (PW.pt (pw_and (pt_val (pe_own C_law_fits (hr.mono (by decide)) rfl pass0 (pa_cons (pe_ix ix_tup (pv 7) pe_int (fun _ _ => rfl)) (pa_cons (pe_ix ix_tup (pv 7) pe_int (fun _ _ => rfl)) pa_nil)))) (pw_and (pt_val (pe_own C_law_fits (hr.mono (by decide)) rfl pass0 (pa_cons (pe_ix ix_tup (pv 7) pe_int (fun _ _ => rfl)) (pa_cons (pe_ix ix_tup (pv 7) pe_int (fun _ _ => rfl)) pa_nil)))) (pw_and1 (pt_cmpR op_le (pe_callB (cMaxT rfl hr.units) (by rfl) T.max (by decide +kernel) (pa_cons (pv 7) pa_nil)) (pe_op op_pow pe_int pe_int) (nomark _)))))) (pss_cons (ps_set (i := 8) sc_law_right.nd rfl (Or.inl rfl) (pe_makeO C_Rule (hr.mono (by decide)) rfl (pa_cons (pe_ix ix_tup (pv 7) pe_int (fun _ _ => rfl)) (pa_cons (pe_ix ix_tup (pv 7) pe_int (fun _ _ => rfl)) (pa_cons (pe_ix ix_tup (pv 7) pe_int (fun _ _ => rfl)) (pa_cons (pe_ix ix_tup (pv 7) pe_int (fun _ _ => rfl)) pa_nil))))))
  (pss_one (ps_if (PW.pt (pw_or (pt_cmpR op_ne (pe_cmpR (op_eqK (k := 1) (K := K) rfl E_Rule (hr.mono (by decide))) (pv 6) (pv 8) (nomark _)) (pe_cmpR (op_eqD hr.units) (pv 7) (pe_tup (pa_cons (pv 2) (pa_cons (pv 3) (pa_cons (pv 4) (pa_cons (pv 5) pa_nil))))) (nomark _)) (nomark _)) (pw_or1 (pt_cmpR op_ne (pe_cmpR (op_eqK (k := 1) (K := K) rfl E_Rule (hr.mono (by decide))) (pv 8) (pv 6) (nomark _)) (pe_cmpR (op_eqK (k := 1) (K := K) rfl E_Rule (hr.mono (by decide))) (pv 6) (pv 8) (nomark _)) (nomark _))))) (pss_one (ps_ret pe_bl)) pss_nil))) pss_nil)))
  (pss_one (ps_ret (pe_cmpR (op_eqD hr.units) (pe_lc (own := [("odd", 9)]) (g := gName 9)  rfl sc_law_right.nd (pi_tup (pe_tup (pa_cons pe_non (pa_cons pe_int (pa_cons pe_str (pa_cons (pe_tup (pa_cons (pv 2) (pa_cons (pv 3) (pa_cons (pv 4) (pa_cons (pv 5) pa_nil))))) (pa_cons (pe_lst (pa_cons (pv 2) (pa_cons (pv 3) (pa_cons (pv 4) (pa_cons (pv 5) pa_nil))))) (pa_cons (pv 2) pa_nil)))))))) (blkOk_by (own := [("odd", 9)]) (N := ["reel", "wide", "m", "a", "f", "p", "one", "other", "two", "odd"]) (sc := defScope s_law_right) (by decide +kernel)) (fun _ _ _ _ _ => (pg_name (i := 9) sc_law_right.nd rfl (Or.inl rfl))) (fun _ _ _ _ _ => (pts_one (pt_cmpR (op_eqK (k := 1) (K := K) rfl E_Rule (hr.mono (by decide))) (pv 6) (pv 9) (nomark _)))) (fun _ _ _ _ _ => (pv 9))) (pe_lst pa_nil) (nomark _))))))))), ?_⟩
    refine z_start (σ' := [some _, some _, none, none, none, none, none, none, none, none]) rfl ?_
    repeat walk_at "z"
    refine ⟨b, x, c, t, wide, rfl, hb, hc0, hc1, ht0, by omega, hw1, hw2, fun q H1 m a f p z t1 sb1 nq dq hq hb1 l1 l2 o1 o2 w1 w2 => ?_⟩
    repeat walk_at "z"
    refine ⟨q, _, rfl, SqL.of hq, rfl, ?_⟩
    refine ⟨_, _, rfl, ?_⟩
    walk_at "z"
    refine ⟨_, _, rfl, ?_⟩
    walk_at "z"
    refine ⟨_, _, rfl, ?_⟩
    walk_at "z"
    refine ⟨_, _, rfl, ?_⟩
    walk_at "z"
    refine ⟨rfl, ?_⟩
    repeat walk_at "z"
    refine z_mk4 (PuT.var rfl) (PuT.var rfl) (PuT.var rfl) (PuT.var rfl) o1 o2 fun x1 H2 s2 n2 r2 => ?_
    repeat walk_at "z"
    refine ⟨x1, m, a, f, p, rfl, r2, fun q3 hq3 => ?_⟩
    have s3 := same_new (o := .lst [.int m, .int a, .int (m + 1 - a), .int f, .int p, .int (f + 1 - p)]) (Same.refl H2) hq3
    have lg : ∀ n ∈ [m, a, m + 1 - a, f, p, f + 1 - p], n.natAbs.log2 < 1000 := by
      obtain ⟨g1, g2, g3⟩ := o1.log
      obtain ⟨g4, g5, g6⟩ := o2.log
      simp [g1, g2, g3, g4, g5, g6]
    repeat walk_at "z"
    refine z_reprLI (ns := [m, a, m + 1 - a, f, p, f + 1 - p]) (SqL.of upd_same) lg (shown_list_fits lg (by show 6 ≤ 1000; decide)) ?_
    repeat walk_at "z"
    refine ⟨by show 6 ≤ sizeLine; decide, fun q4 hq4 => ?_⟩
    repeat walk_at "z"
    refine z_reprLI (ns := [m, a, m + 1 - a, f, p, f + 1 - p]) (SqL.of upd_same) lg (shown_list_fits lg (by show 6 ≤ 1000; decide)) ?_
    repeat walk_at "z"
    refine z_neS (b := true) rfl (by simp) ?_
    repeat walk_at "z"
    have s4 := s3.trans (same_new (o := .lst [.int m, .int a, .int (m + 1 - a), .int f, .int p, .int (f + 1 - p)]) (Same.refl _) hq4)
    have r4 := r2.mono s4
    repeat walk_at "z"
    refine z_mk4 (PuT.var rfl) (PuT.var rfl) (PuT.var rfl) (PuT.var rfl) o1 o2 fun x5 H5 s5 n5 r5 => ?_
    repeat walk_at "z"
    refine z_eqRR G.cI G.cO T.l_Rule (r4.mono s5) r5 ?_
    repeat walk_at "z"
    rw [show decide (m = m ∧ a = a ∧ f = f ∧ p = p) = true from by simp]
    repeat walk_at "z"
    repeat walk_at "z"
    refine z_mk4 (PuT.var rfl) (PuT.var rfl) (PuT.var rfl) (PuT.var rfl) o1 o2 fun x6 H6 s6 n6 r6 => ?_
    have r56 := (r4.mono s5).mono s6
    repeat walk_at "z"
    refine z_neRR r56 r6 ?_
    rw [show decide (m = m ∧ a = a ∧ f = f ∧ p = p) = true from by simp]
    repeat walk_at "z"
    repeat walk_at "z"
    refine z_for ?_
    repeat walk_at "z"
    refine ⟨by show 4 ≤ sizeLine; decide, fun u1 hu1 => ?_⟩
    repeat walk_at "z"
    refine ⟨by show 4 ≤ sizeLine; decide, fun u2 hu2 => ?_⟩
    repeat walk_at "z"
    refine ⟨by show 4 ≤ sizeLine; decide, fun u3 hu3 => ?_⟩
    repeat walk_at "z"
    refine ⟨by show 4 ≤ sizeLine; decide, fun u4 hu4 => ?_⟩
    repeat walk_at "z"
    refine ⟨by show 4 ≤ sizeLine; decide, fun u5 hu5 => ?_⟩
    repeat walk_at "z"
    refine ⟨by show 5 ≤ sizeLine; decide, fun ul hul => ?_⟩
    have su1 := same_new (o := .tup [.int (m + 1), .int a, .int f, .int p]) (Same.refl H6) hu1
    have su2 := same_new (o := .tup [.int m, .int (a + 1), .int f, .int p]) (Same.refl _) hu2
    have su3 := same_new (o := .tup [.int m, .int a, .int (f + 1), .int p]) (Same.refl _) hu3
    have su4 := same_new (o := .tup [.int m, .int a, .int f, .int (p - 1)]) (Same.refl _) hu4
    have su5 := same_new (o := .tup [.int f, .int p, .int m, .int a]) (Same.refl _) hu5
    have sul := same_new (o := .lst [.ref u1, .ref u2, .ref u3, .ref u4, .ref u5]) (Same.refl _) hul
    have sb6 : SameBut b H H6 := sb1.trans (.same (s2.trans (s4.trans (s5.trans s6))))
    have hb6 : H6 b = some (.lst [.int z, .int c, .int t1]) := s6 _ _ (s5 _ _ (s4 _ _ (s2 _ _ hb1)))
    have ro6 : RuleAt K H6 x1 m a f p := r56
    refine ⟨ul, rfl, ⟨_, SqL.of upd_same⟩, for_it (walk_list (xs := [.ref u1, .ref u2, .ref u3, .ref u4, .ref u5])) (fun i σ H' => ∃ (v7 v8 : Option V), σ = [some (.ref b), some (.int wide), some (.int m), some (.int a), some (.int f), some (.int p), some (.ref x1), v7, v8, none] ∧
      Same H6 H' ∧ H' ul = some (.lst [.ref u1, .ref u2, .ref u3, .ref u4, .ref u5]) ∧ ∀ e ∈ [V.ref u1, .ref u2, .ref u3, .ref u4, .ref u5], Four H' e)
      ⟨_, _, rfl, su1.trans (su2.trans (su3.trans (su4.trans (su5.trans sul)))), upd_same, ?_⟩ (fun i σ H' _ ⟨_, _, _, _, h, _⟩ => SqL.of h) ?_ ?_⟩
    · intro e he
      simp only [List.mem_cons, List.not_mem_nil, or_false] at he
      rcases he with rfl | rfl | rfl | rfl | rfl
      · exact ⟨u1, _, _, _, _, rfl, sul _ _ (su5 _ _ (su4 _ _ (su3 _ _ (su2 _ _ upd_same))))⟩
      · exact ⟨u2, _, _, _, _, rfl, sul _ _ (su5 _ _ (su4 _ _ (su3 _ _ upd_same)))⟩
      · exact ⟨u3, _, _, _, _, rfl, sul _ _ (su5 _ _ (su4 _ _ upd_same))⟩
      · exact ⟨u4, _, _, _, _, rfl, sul _ _ (su5 _ _ upd_same)⟩
      · exact ⟨u5, _, _, _, _, rfl, sul _ _ upd_same⟩
    · rintro i e σ H7 H8 hi ⟨v7, v8, rfl, s67, hl7, f7⟩ ⟨rfl, he⟩
      obtain ⟨tu, i1, i2, i3, i4, rfl, htu⟩ := f7 e (List.mem_of_getElem? he)
      have ro7 := ro6.mono s67
      repeat walk_at "z"
      refine z_ixT (SqT.of htu) rfl ?_
      repeat walk_at "z"
      refine z_ixT (SqT.of htu) rfl ?_
      repeat walk_at "z"
      refine ⟨_, _, rfl, ?_⟩
      repeat walk_at "z"
      refine ite2 (fun g1 => ?_) (fun g1 => ?_)
      · repeat walk_at "z"
        refine z_ixT (SqT.of htu) rfl ?_
        repeat walk_at "z"
        refine z_ixT (SqT.of htu) rfl ?_
        repeat walk_at "z"
        refine ⟨_, _, rfl, ?_⟩
        repeat walk_at "z"
        refine ite2 (fun g2 => ?_) (fun g2 => ?_)
        · repeat walk_at "z"
          refine ⟨tu, i1, [i2, i3, i4], rfl, SqT.of htu, fun mx hmx => ?_⟩
          repeat walk_at "z"
          refine z_I (z_pow (by decide) (by decide) (by decide)) ?_
          repeat walk_at "z"
          refine ite2 (fun g3 => ?_) (fun g3 => ?_)
          · have g4 := of_decide_eq_true g3
            repeat walk_at "z"
            refine z_mk4 (pu_ixT rfl htu rfl) (pu_ixT rfl htu rfl) (pu_ixT rfl htu rfl) (pu_ixT rfl htu rfl) (Ok2.of g1 (Int.le_trans (hmx i1 (by simp)) g4)) (Ok2.of g2 (Int.le_trans (hmx i3 (by simp)) g4)) fun x9 H9 s9 n9 r9 => ?_
            repeat walk_at "z"
            refine z_eqRR G.cI G.cO T.l_Rule (ro7.mono s9) r9 ?_
            repeat walk_at "z"
            refine ⟨by show 4 ≤ sizeLine; decide, fun u9 hu9 => ?_⟩
            have s99 := same_new (o := .tup [.int m, .int a, .int f, .int p]) (Same.refl H9) hu9
            repeat walk_at "z"
            refine z_eqTI (xs := [i1, i2, i3, i4]) (ys := [m, a, f, p]) (SqT.of (s99 _ _ (s9 _ _ htu))) (SqT.of upd_same) ?_
            refine z_neS (b := true) rfl (by rw [four_eq]; simp) ?_
            repeat walk_at "z"
            refine z_eqRR G.cI G.cO T.l_Rule (r9.mono s99) ((ro7.mono s9).mono s99) ?_
            repeat walk_at "z"
            refine z_eqRR G.cI G.cO T.l_Rule ((ro7.mono s9).mono s99) (r9.mono s99) ?_
            repeat walk_at "z"
            refine z_neS (b := true) rfl (by rw [four_comm]; simp) ?_
            repeat walk_at "z"
            exact ⟨_, _, rfl, s67.trans (s9.trans s99), s99 _ _ (s9 _ _ hl7), fun e he => ((f7 e he).mono s9).mono s99⟩
          · exact ⟨_, _, rfl, s67, hl7, f7⟩
        · exact ⟨_, _, rfl, s67, hl7, f7⟩
      · exact ⟨_, _, rfl, s67, hl7, f7⟩
    · rintro σ H7 ⟨v7, v8, rfl, s67, hl7, f7⟩
      repeat walk_at "z"
      refine ⟨by show 4 ≤ sizeLine; decide, fun tp htp => ?_⟩
      repeat walk_at "z"
      refine ⟨by show 4 ≤ sizeLine; decide, fun lp hlp => ?_⟩
      repeat walk_at "z"
      refine ⟨by show 6 ≤ sizeLine; decide, fun ut hut => ?_⟩
      have e1 := same_new (o := .tup [.int m, .int a, .int f, .int p]) (Same.refl H7) htp
      have e2 := same_new (o := .lst [.int m, .int a, .int f, .int p]) (Same.refl _) hlp
      have e3 := same_new (o := .tup [.non, .int 0, .str "rule", .ref tp, .ref lp, .int m]) (Same.refl _) hut
      refine ⟨ut, rfl, ⟨_, SqT.of upd_same⟩, fun Dl hDl => lc_tup (xs := [.non, .int 0, .str "rule", .ref tp, .ref lp, .int m]) (fun i H' => H' ut = some (.tup [.non, .int 0, .str "rule", .ref tp, .ref lp, .int m]) ∧ H' Dl = some (.lst []) ∧ Same H7 H' ∧
        H' tp = some (.tup [.int m, .int a, .int f, .int p]) ∧ H' lp = some (.lst [.int m, .int a, .int f, .int p])) ?_ (fun i H' _ h => SqT.of h.1) ?_ ?_⟩
      · have e4 := same_new (o := .lst []) (Same.refl _) hDl
        exact ⟨e4 _ _ upd_same, upd_same, e1.trans (e2.trans (e3.trans e4)), e4 _ _ (e3 _ _ (e2 _ _ upd_same)), e4 _ _ (e3 _ _ upd_same)⟩
      · rintro i y H8 hy ⟨k1, k2, k3, k4, k5⟩
        obtain ⟨ty, hty, tx⟩ : ∃ ty ∈ offs, TyX K H8 y ty := by
          have hm := List.mem_of_getElem? hy
          simp only [List.mem_cons, List.not_mem_nil, or_false] at hm
          rcases hm with rfl | rfl | rfl | rfl | rfl | rfl
          · exact ⟨.type "NoneType", by simp [offs], .base .non⟩
          · exact ⟨.type "int", by simp [offs], .base (.int _)⟩
          · exact ⟨.type "str", by simp [offs], .base (.str _)⟩
          · exact ⟨.type "tuple", by simp [offs], .base (.tup k4)⟩
          · exact ⟨.type "list", by simp [offs], .base (.lst k5)⟩
          · exact ⟨.type "int", by simp [offs], .base (.int _)⟩
        refine ⟨rfl, ?_⟩
        refine z_startT (σ' := [some (.ref b), some (.int wide), some (.int m), some (.int a), some (.int f), some (.int p), some (.ref x1), v7, v8, some y]) rfl ?_
        repeat walk_at "z"
        refine z_eqRO (ro6.mono (s67.trans k3)) tx (G.cF ty hty) ?_
        repeat walk_at "z"
        exact ⟨k1, k2, k3, k4, k5⟩
      · rintro H8 ⟨k1, k2, k3, k4, k5⟩
        repeat walk_at "z"
        refine ⟨by show 0 ≤ sizeLine; decide, fun pe hpe => ?_⟩
        have e5 := same_new (o := .lst []) (Same.refl H8) hpe
        refine z_eqSame (SqL.of (e5 _ _ k2)) (SqL.of upd_same) rfl ?_
        have s68 := s67.trans (k3.trans e5)
        exact k _ z t1 (sb6.trans (.same s68)) (s68 _ _ hb6) l1 l2
end
end K01
set_option Elab.async false
set_option linter.all false
set_option maxRecDepth 100000
set_option maxHeartbeats 4000000
namespace K01
open PySem PySem.Spec L2 Z
open PyProof.Rows hiding St
local macro_rules | `(tactic| walk_at "z") => `(tactic| first
  | with_reducible refine Z.z_seq ?_
  | with_reducible refine Z.z_asg ?_
  | with_reducible refine Z.z_op ?_
  | with_reducible refine Z.z_cons ?_
  | with_reducible refine Z.z_nil ?_
  | with_reducible refine Z.z_c ?_
  | ((with_reducible refine' Z.z_var ?e ?_); (case e => exact rfl))
  | ((with_reducible refine' Z.z_name ?e ?_); (case e => repeat constructor))
  | with_reducible refine Z.z_sub ?_
  | with_reducible refine Z.z_I0 ?_
  | with_reducible refine Z.z_eqI ?_
  | with_reducible refine Z.z_neI ?_
  | with_reducible refine Z.z_cb ?_
  | with_reducible refine Z.z_int1 ?_
  | with_reducible refine Z.z_max2 ?_
  | with_reducible refine Z.z_min2 ?_
  | with_reducible refine Z.z_call ?_
  | with_reducible refine Z.z_test ?_
  | with_reducible refine Z.z_B ?_
  | with_reducible refine Z.z_ex _ ?_
  | with_reducible refine Z.z_and ?_
  | with_reducible refine Z.z_or ?_
  | with_reducible refine Z.z_not ?_
  | with_reducible refine Z.z_andV ?_
  | with_reducible refine Z.z_orV ?_
  | with_reducible refine Z.z_notV ?_
  | with_reducible refine Z.z_ifE ?_
  | with_reducible refine Z.z_chain ?_
  | with_reducible refine Z.z_if ?_
  | with_reducible refine Z.z_ret ?_
  | with_reducible refine Z.z_retN ?_
  | with_reducible refine Z.z_next ?_
  | with_reducible refine Z.z_brk ?_
  | with_reducible refine Z.z_cont ?_
  | with_reducible refine Z.z_drop ?_
  | with_reducible refine Z.z_un ?_
  | with_reducible refine Z.z_U ?_
  | with_reducible refine Z.z_lst ?_
  | with_reducible refine Z.z_tup ?_
  | with_reducible refine Z.z_par ?_
  | ((with_reducible refine' Z.z_par2 ?e1 ?e2 ?_); (case e1 => repeat constructor); (case e2 => repeat constructor))
  | with_reducible refine Z.z_iteT ?_
  | with_reducible refine Z.z_iteF ?_)
local macro_rules | `(tactic| walk_at "z") => `(tactic| first
  | with_reducible refine Z.z_iteNT ?_
  | with_reducible refine Z.z_iteNF ?_
  | with_reducible refine Z.z_sfld ?_)
local macro_rules | `(tactic| walk_at "z") => `(tactic| first
  | with_reducible refine Z.z_iTup ?_
  | with_reducible refine Z.z_iList ?_
  | with_reducible refine Z.z_lc ?_)

section
variable {P : Program} {w w2 : World} {K : PySem.W.Frag} {mg : Str → Option Value} {base : Heap}
theorem z_iRng1 {ta : TA} {σ : L2.St} {H : Hp} {R : It → Hp → Prop} (h : ta σ H fun vs H1 => ∃ j : Int, vs = [.int j] ∧ -(2 ^ 62) ≤ j ∧ j < 2 ^ 62 ∧ R (Itr 0 j.toNat) H1) : iRng1 ta σ H R := h
theorem pu_I {C : Int → Int → Prop} {g : Int → Int → V} {t1 t2 : TE} {σ : L2.St} {H : Hp} {i j : Int} (h1 : PuT t1 σ H (.int i)) (h2 : PuT t2 σ H (.int j)) (hc : C i j) : PuT (tOp (rI C g) t1 t2) σ H (g i j) := fun H' s Q q => h1 H' s _ (h2 H' s _ ⟨i, j, rfl, rfl, hc, q⟩)
theorem pu_I0 {g : Int → Int → V} {t1 t2 : TE} {σ : L2.St} {H : Hp} {i j : Int} (h1 : PuT t1 σ H (.int i)) (h2 : PuT t2 σ H (.int j)) : PuT (tOp (rI0 g) t1 t2) σ H (g i j) := fun H' s Q q => h1 H' s _ (h2 H' s _ ⟨i, j, rfl, rfl, q⟩)
def cells (l : Int) : Int := if (if l < 6 then l else 6) > 1 then (if l < 6 then l else 6) else 1
theorem cells_le (l : Int) : 1 ≤ cells l ∧ cells l ≤ 6 := by
  unfold cells
  split <;> split <;> omega
def spLaw (K : PySem.W.Frag) : Sp := fun vs H Q _ => ∃ (a : Addr) (ns : List Int), vs = [.ref a] ∧ SqL K H a (ns.map V.int) ∧ ns.length ≤ 63 ∧ ∀ H', Q (.bl true) H'
theorem ok_law {f : Addr} {fd : FuncData} (F : FnP K "law" s_law f fd) (T : Txt K mg) (C_law_wound : CallOk P w K mg base CX0 1 "_law_wound" ["script", "k"] (spWound K)) (C_law_right : CallOkG P w K mg base CX0 6 "_law_right" ["reel", "wide"] spRight)
    (C_law_told : CallOk P w K mg base CX0 3 "_law_told" ["one"] (spTold K)) (C_Rule : MakeOk P w K mg base 4 "Rule" ["self", "leaf", "leaf_stays", "inner", "inner_stays"] (spInit K)) : FnOkG P w K mg base CX0 7 f fd ["script"] (spLaw K) := by
  refine fn_okG0 F sc_law (fun vs H Q E h => ?_) (fun cdv A outer s H vs Q E hr hgd h => ?_)
  · obtain ⟨a, ns, rfl, _⟩ := h
    rfl
  · obtain ⟨a, ns, rfl, hS, hlen, k⟩ := h
    refine ⟨_, (pss_cons (ps_for PassesOwn.never rfl (pi_range1 rfl T.range (pa_cons (pe_callB (cMax rfl) (by rfl) T.max (by decide +kernel) (pa_cons pe_int (pa_cons (pe_callB (cMin rfl) (by rfl) T.min (by decide +kernel) (pa_cons pe_int (pa_cons (pe_callB cLen (by rfl) T.len PySem.boot_len (pa_cons (pv 0) pa_nil)) pa_nil))) pa_nil))) pa_nil)) (pg_name (i := 1) sc_law.nd rfl (Or.inl rfl)) (pss_cons (ps_set (i := 2) sc_law.nd rfl (Or.inl rfl) (pe_own C_law_wound (hr.mono (by decide)) rfl pass0 (pa_cons (pv 0) (pa_cons (pv 1) pa_nil))))
  (pss_one (ps_for PassesOwn.never rfl (pi_list (pe_lst (pa_cons pe_int (pa_cons pe_int (pa_cons pe_int (pa_cons (pe_op op_sub (pe_op op_pow pe_int pe_int) pe_int) pa_nil)))))) (pg_name (i := 3) sc_law.nd rfl (Or.inl rfl)) (pss_one (ps_if (pt_not (pt_val (pe_ownG C_law_right hgd (hr.mono (by decide)) rfl pass0 (pa_cons (pv 2) (pa_cons (pv 3) pa_nil))))) (pss_one (ps_ret pe_bl)) pss_nil))))))
  (pss_cons (ps_set (i := 4) sc_law.nd rfl (Or.inl rfl) (pe_own C_law_told (hr.mono (by decide)) rfl pass0 (pa_cons (pe_makeO C_Rule (hr.mono (by decide)) rfl (pa_cons pe_int (pa_cons pe_int (pa_cons (pe_op op_pow pe_int pe_int) (pa_cons (pe_op op_add (pe_op op_fdiv (pe_op op_pow pe_int pe_int) pe_int) pe_int) pa_nil))))) pa_nil)))
  (pss_cons (ps_if (pt_cmpR (op_neD hr.units) (pe_own C_law_told (hr.mono (by decide)) rfl pass0 (pa_cons (pe_makeO C_Rule (hr.mono (by decide)) rfl (pa_cons pe_int (pa_cons pe_int (pa_cons pe_int (pa_cons pe_int pa_nil))))) pa_nil)) (pe_lst (pa_cons pe_int (pa_cons pe_int (pa_cons pe_int (pa_cons pe_int (pa_cons pe_int (pa_cons pe_int pa_nil))))))) (nomark _)) (pss_one (ps_ret pe_bl)) pss_nil)
  (pss_one (ps_ret (pe_cmpR (op_eqD hr.units) (pv 4) (pe_lst (pa_cons pe_int (pa_cons pe_int (pa_cons pe_int (pa_cons (pe_op op_pow pe_int pe_int) (pa_cons (pe_op op_add (pe_op op_fdiv (pe_op op_pow pe_int pe_int) pe_int) pe_int) (pa_cons (pe_op op_mul pe_int (pe_op op_pow pe_int pe_int)) pa_nil))))))) (nomark _))))))), ?_⟩
    refine z_start (σ' := [some _, none, none, none, none]) rfl ?_
    repeat walk_at "z"
    refine z_for ?_
    refine z_iRng1 ?_
    repeat walk_at "z"
    refine z_len hS ?_
    repeat walk_at "z"
    obtain ⟨c1, c2⟩ := cells_le ((ns.map V.int).length)
    refine ⟨cells ((ns.map V.int).length), rfl, by omega, by omega, for_range (lo := 0) (n := (cells ((ns.map V.int).length)).toNat) (fun i σ H' => ∃ (v1 v2 v3 : Option V), σ = [some (.ref a), v1, v2, v3, none] ∧ Same H H') ⟨_, _, _, rfl, Same.refl H⟩ ?_ ?_⟩
    · rintro i σ H1 hi ⟨v1, v2, v3, rfl, s1⟩
      repeat walk_at "z"
      refine ⟨a, ns, i, by show [V.ref a, V.int (0 + (i : Int))] = _; rw [Int.zero_add], s1.seq hS, by omega, fun p x c hc0 hc1 hp => ?_⟩
      repeat walk_at "z"
      refine z_for ?_
      repeat walk_at "z"
      refine z_I (z_pow (by decide) (by decide) (by decide)) ?_
      repeat walk_at "z"
      refine ⟨by show 4 ≤ sizeLine; decide, fun ul hul => ?_⟩
      have dl : ul ≠ p := fun e => by rw [e, upd_same] at hul; cases hul
      have s2 := same_new (o := .lst [.int x, .int c, .int 0]) (Same.refl H1) hp
      refine ⟨ul, rfl, ⟨_, SqL.of upd_same⟩, for_it (walk_list (xs := [.int 1, .int 5, .int 60, .int (10 ^ Int.toNat 30 - 2)])) (fun j σ H' => ∃ (v3 : Option V) (x' t' : Int), σ = [some (.ref a), some (.int (0 + (i : Int))), some (.ref p), v3, none] ∧ Same H1 H' ∧
        H' ul = some (.lst [.int 1, .int 5, .int 60, .int (10 ^ Int.toNat 30 - 2)]) ∧ H' p = some (.lst [.int x', .int c, .int t']) ∧ 0 ≤ t' ∧ t' ≤ 4 * (j : Int))
        ⟨_, x, 0, rfl, same_new s2 hul, upd_same, by rw [upd_ne (fun e => dl e.symm)]; exact upd_same, by omega, by omega⟩ (fun j σ H' _ ⟨_, _, _, _, _, h, _⟩ => SqL.of h) ?_ ?_⟩
      · rintro j e σ H2 H3 hj ⟨v3, x', t', rfl, s3, hl3, hp3, t0, t1⟩ ⟨rfl, he⟩
        obtain ⟨wd, rfl, w1, w2⟩ : ∃ wd : Int, e = .int wd ∧ 1 ≤ wd ∧ wd ≤ 999999999999999999999999999998 := by
          have hm := List.mem_of_getElem? he
          simp only [List.mem_cons, List.not_mem_nil, or_false] at hm
          rcases hm with rfl | rfl | rfl | rfl
          · exact ⟨_, rfl, by decide, by decide⟩
          · exact ⟨_, rfl, by decide, by decide⟩
          · exact ⟨_, rfl, by decide, by decide⟩
          · exact ⟨_, rfl, by decide, by decide⟩
        have hj4 : j < 4 := hj
        repeat walk_at "z"
        refine ⟨p, x', c, t', wd, rfl, hp3, hc0, hc1, t0, by omega, w1, w2, fun H4 z t2 sb hz l1 l2 => ?_⟩
        repeat walk_at "z"
        exact ⟨_, z, t2, rfl, fun b o hb => sb b o (fun e => by rw [e, hp] at hb; cases hb) (s3 b o hb), sb _ _ dl hl3, hz, by omega, by omega⟩
      · rintro σ H2 ⟨v3, x', t', rfl, s3, _⟩
        exact ⟨_, _, _, rfl, s1.trans s3⟩
    · rintro σ H1 ⟨v1, v2, v3, rfl, s1⟩
      repeat walk_at "z"
      refine z_mk4 PuT.c PuT.c (pu_I PuT.c PuT.c (z_pow (by decide) (by decide) (by decide))) (pu_I0 (pu_I (pu_I PuT.c PuT.c (z_pow (by decide) (by decide) (by decide))) PuT.c ⟨by decide, by decide⟩) PuT.c) (by unfold Ok2; decide) (by unfold Ok2; decide) fun x2 H2 s2 n2 r2 => ?_
      repeat walk_at "z"
      refine ⟨x2, _, _, _, _, rfl, r2, fun q3 hq3 => ?_⟩
      repeat walk_at "z"
      refine z_mk4 PuT.c PuT.c PuT.c PuT.c (by unfold Ok2; decide) (by unfold Ok2; decide) fun x4 H4 s4 n4 r4 => ?_
      repeat walk_at "z"
      refine ⟨x4, _, _, _, _, rfl, r4, fun q5 hq5 => ?_⟩
      repeat walk_at "z"
      refine ⟨by show 6 ≤ sizeLine; decide, fun q6 hq6 => ?_⟩
      have s5 := same_new (o := .lst [.int 3, .int 2, .int (3 + 1 - 2), .int 3, .int 2, .int (3 + 1 - 2)]) (Same.refl H4) hq5
      have s6 := same_new (o := .lst [.int 3, .int 2, .int 2, .int 3, .int 2, .int 2]) (Same.refl _) hq6
      refine z_neLI (xs := [3, 2, 3 + 1 - 2, 3, 2, 3 + 1 - 2]) (ys := [3, 2, 2, 3, 2, 2]) (SqL.of (s6 _ _ upd_same)) (SqL.of upd_same) ?_
      rw [show (decide (([3, 2, 3 + 1 - 2, 3, 2, 3 + 1 - 2] : List Int) = [3, 2, 2, 3, 2, 2])) = true from by decide]
      repeat walk_at "z"
      refine z_I (z_pow (by decide) (by decide) (by decide)) ?_
      repeat walk_at "z"
      refine z_I (z_pow (by decide) (by decide) (by decide)) ?_
      repeat walk_at "z"
      refine z_I (C := CDiv) ⟨by decide, by decide⟩ ?_
      repeat walk_at "z"
      refine z_I (z_pow (by decide) (by decide) (by decide)) ?_
      repeat walk_at "z"
      refine z_I (C := CMul) (.inl ⟨by decide, by decide⟩) ?_
      repeat walk_at "z"
      refine ⟨by show 6 ≤ sizeLine; decide, fun q7 hq7 => ?_⟩
      have s7 := same_new (o := .lst [.int 7, .int 6, .int 2, .int (10 ^ Int.toNat 30), .int (10 ^ Int.toNat 30 / 4 + 1), .int (75 * 10 ^ Int.toNat 28)]) (Same.refl _) hq7
      have h3 := s7 _ _ (s6 _ _ (s5 _ _ (s4 _ _ (upd_same (H := H2) (a := q3) (o := .lst [.int 7, .int 6, .int (7 + 1 - 6), .int (10 ^ Int.toNat 30), .int (10 ^ Int.toNat 30 / 4 + 1), .int (10 ^ Int.toNat 30 + 1 - (10 ^ Int.toNat 30 / 4 + 1))])))))
      refine z_eqLI (xs := [7, 6, 7 + 1 - 6, 10 ^ Int.toNat 30, 10 ^ Int.toNat 30 / 4 + 1, 10 ^ Int.toNat 30 + 1 - (10 ^ Int.toNat 30 / 4 + 1)]) (ys := [7, 6, 2, 10 ^ Int.toNat 30, 10 ^ Int.toNat 30 / 4 + 1, 75 * 10 ^ Int.toNat 28]) (SqL.of h3) (SqL.of upd_same) ?_
      rw [show (decide (([7, 6, 7 + 1 - 6, 10 ^ Int.toNat 30, 10 ^ Int.toNat 30 / 4 + 1, 10 ^ Int.toNat 30 + 1 - (10 ^ Int.toNat 30 / 4 + 1)] : List Int) = [7, 6, 2, 10 ^ Int.toNat 30, 10 ^ Int.toNat 30 / 4 + 1, 75 * 10 ^ Int.toNat 28])) = true from by decide +kernel]
      exact k _
theorem facts {h : Heap} {f : Addr} (X : K.In h) (G : h.Ns mainGlobals mg) (hfa : mg ("law" : Str) = some (.ref f)) (c : SaysG fa fn gs ex w h K) :
    ∃ fd : FuncData, (∀ (s : Shared) (v : Value), BindsTo s fd ⟨[v], []⟩ [("script", v)]) ∧ ∀ base : Heap, K.In base → base.Ns mainGlobals mg → FnOkG P w K mg base CX0 7 f fd ["script"] (spLaw K) := by
  obtain ⟨f', fd, F, g⟩ := D_law X G c
  have e := hfa.symm.trans g
  cases e
  have T := txt_ok X G c
  have k := kitG_of (exB_ok c)
  obtain ⟨fi, Fi⟩ := D_Rule_init X G c
  obtain ⟨fe, Fe⟩ := D_Rule_eq X G c
  refine ⟨fd, fun s v => FunD.bindsA (ps := ["script"]) F (fun _ _ _ _ _ _ us hl => match us, hl with | [_], _ => rfl) s [v] rfl, fun base _ _ => ?_⟩
  have cI : CallOk P w K mg base CX0 1 "is_integer" ["value"] (spIsInt K) := ok_is_integer (D_is_integer X G c) T
  have cB := ok_is_between (D_is_between X G c) T k.cK cI
  have cH := ok_can_hold (D_can_hold X G c) T cB
  have cS := ok_can_stay (D_can_stay X G c) T k.cK cI
  have cR := ok_init Fi T cH cS
  have pr : Ps P w K mg base := ⟨ok_leaf (w := w) c T, ok_leaf_stays (w := w) c T, ok_leaf_goes (w := w) c T, ok_inner (w := w) c T, ok_inner_stays (w := w) c T, ok_inner_goes (w := w) c T⟩
  have cT := ok_told (D_law_told X G c) T pr
  have cP : CallOk P w K mg base CX0 1 "_law_spin" ["reel", "many"] spSpin := ok_spin (D_law_spin X G c) T
  exact ok_law F T (ok_wound (D_law_wound X G c) T) (ok_right (D_law_right X G c) T k (ok_rule (D_law_rule X G c) T cP) cT (ok_fits (D_law_fits X G c) T) cR (ok_eq Fe T k.cI k.cO k.cN)) cT cR
end

end K01
open PySem PySem.W PySem.Calls PyProof.Rows
set_option maxRecDepth 100000 in
set_option maxHeartbeats 0 in
theorem PySem.Challenge.cw_leafsplits_k01_rules_told_holds : PySem.Challenge.rw_leafsplits_k01_rules_told.Holds := by
  w_on; o_law
  refine HandSHeadRun.head_any (r := OpenLaw.row PySem.Challenge.rw_leafsplits_k01_rules_told) (q := view (OpenLaw.row PySem.Challenge.rw_leafsplits_k01_rules_told).prog [19]) (H := K01.hk) (ob := K01.ob) (M := 20000) (loose := K01.loose) (d := HandSHeadRun.topDef (OpenLaw.row PySem.Challenge.rw_leafsplits_k01_rules_told).prog 19) (kwd := []) K01.ob_eq
    (by kernel_rfl) (fun s => by kernel_rfl) K01.run (by kernel_rfl) (by kernel_rfl) (by kernel_rfl) (by rfl) (by first | assumption | decide +kernel) (by decide +kernel) ⟨rfl, rfl, rfl, rfl, rfl, by decide +kernel⟩ ?hw ?hc
  case hw => w_witness2
  case hc =>
    refine Z.walk_G (l := PySem.Challenge.rw_leafsplits_k01_rules_told) (n := 63) (k := 7) (x := "script") rfl (by decide) (by kernel_rfl) ⟨rfl, by decide, by decide⟩ ?F
    intro w mg fa h Y G hmg0
    obtain ⟨K, KX, c⟩ := Y
    have hmg : mg ("law" : PySem.Str) = some (.ref fa) := by
      have e : (HandSHeadRun.topDef (OpenLaw.row PySem.Challenge.rw_leafsplits_k01_rules_told).prog 19).name = ("law" : PySem.Str) := by kernel_rfl
      rw [← e]
      exact hmg0
    obtain ⟨fd, hb, hF⟩ := K01.facts (P := (PySem.Challenge.rw_leafsplits_k01_rules_told).prog) (w := w) KX G hmg c
    exact ⟨K, fd, K01.spLaw K, KX, hb, fun H a ns hl hS => ⟨a, ns, rfl, hS, hl, fun _ => rfl⟩, hF⟩
