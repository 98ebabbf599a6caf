import PyProof.Rows.All
import Wide.All
import OpenK.AllK
import Wide.FinOn
import KE.KStateDown
import KE.KExcIs
import Lean
import HandS.ForMost
import HandS.ForExc
import HandS.ExcInit
import HandS.ExcValue
import HandS.ExcField
import HandS.ExcIs
import HandS.IsInst
import HandS.Defaults
import HandS.Property
import HandS.OwnEq
import HandS.Wide
import HandS.Flow
import HandS.Walk
import HandS.Head0
import HandS.Head1
import HandS.Head2
import HandS.HeadEnd
import HandS.HeadHook1
import HandS.HeadHook2
import HandS.HeadHook3
import HandS.HeadHook4
import PyProof.ReprRoads
import HandS.RaiseMore
import PyProof.InstNe
import PyProof.Rows.RuleB_pow
import KE.DatumOrd
import HandS.NoneIn
import HandS.ExcOwn
import PyProof.ReprLen
import PyProof.FitsInt
import HandS.WordsExc
import HandS.List
import HandS.Conv
import HandS.Star
import HandS.Style
import KE.KRevSl
import HandS.SetFor
import HandS.Strs
import HandS.Gcd
import HandS.SortRule
import HandS.WordsDict
import HandS.WideBits
import HandS.SortInts
import PySem.Challenge.RW_leafsplits_k40_great_seen
set_option Elab.async false
set_option linter.all false
set_option maxRecDepth 100000
set_option maxHeartbeats 4000000
namespace Z
open PySem PySem.Spec L2
open PyProof.Rows hiding St

/-! ### a def as its callers see it -/
structure CallOk (P : Program) (w : World) (K : PySem.W.Frag) (mg : Str → Option Value) (base : Heap) (CX : CXT) (k : Nat) (x : Str) (ps : List Str) (sp : Sp) : Prop where
  ex : ∃ (f : Addr) (fd : FuncData), FnOk P w K mg base CX k f fd ps sp ∧ mg x = some (.ref f) ∧ PySem.W.keepIn K (.ref f) = true ∧ Binds K fd ps []
section
variable {X : Cx} {CX : CXT} {k : Nat} {x : Str} {ps : List Str} {sp : Sp} {E : XK} {p pos : Pos} {e : Expr} {es : List Expr} {t : TA}
theorem pe_own (C : CallOk X.prog X.w X.K X.mg X.base CX k x ps sp) (hr : Room k X.A) (hg : Gl X x) (hx : Passes CX X E) (ha : PA X (e :: es) t)
    (hdb : (x == ("__debug__" : Str)) = false := by decide) (he : starEach (e :: es) X.env = (false, eval e X.env) :: starEach es X.env := by rfl) (hpl : (backTo pos (starEach es X.env)).any (·.1) = false := by rfl) :
    PE X (.Call (.Name x p) (e :: es) [] pos) (tCall sp [] E t) := by
  obtain ⟨f, fd, F, hm, hk, hb⟩ := C.ex
  exact pe_call F hr hg hm hk hb .nil hx ha hdb he hpl
end

/-- a def of the text as it stands behind the top -/
abbrev FnP (K : PySem.W.Frag) (x : Str) (st : Stmt) (f : Addr) (fd : FuncData) : Prop := FunD K x x (defArgs st) (defBody st) (defScope st) [] [] f fd
def Def (K : PySem.W.Frag) (mg : Str → Option Value) (x : Str) (st : Stmt) : Prop := ∃ (f : Addr) (fd : FuncData), FnP K x st f fd ∧ mg x = some (.ref f)
theorem def_ok {P : Program} {w : World} {K : PySem.W.Frag} {mg : Str → Option Value} {base : Heap} {CX : CXT} {x : Str} {st : Stmt} {N ps : List Str} {k : Nat} {sp : Sp} (D : Def K mg x st) (S : FnScope N ps (defScope st)) (len : ∀ vs H Q E, sp vs H Q E → vs.length = ps.length)
    (hbind : ∀ (kV doc pm : Value) (an : Option Addr) (cdv ct : Value) (us : List Value), us.length = ps.length → bindArgs (PySem.W.fnOf x x (defArgs st) (defBody st) (defScope st) .none kV doc pm an cdv ct) ⟨us, []⟩ = pure (ps.zip us))
    (hbody : ∀ (f : Addr) (cdv : Value) (A : Around) (outer : List Env) (s : Shared) (H : Hp) (vs : List V) (Q : VK) (E : XK), Room k (A.deeper (envOfC x (defScope st) s.heap.objs.size f cdv)) → sp vs H Q E →
      ∃ t, PSs (cxOf CX P w K mg base N x (defScope st) f cdv A outer s H E) (defBody st) t ∧ t { nx := fun _ H' => Q .non H', rt := Q } (start N vs) H) : CallOk P w K mg base CX (k + 1) x ps sp := by
  obtain ⟨f, fd, F, g⟩ := D
  exact ⟨⟨f, fd, F.ok S len (fun cdv A outer s H vs Q E hr h => hbody f cdv A outer s H vs Q E hr h), g, F.kp, F.bindsN hbind⟩⟩
/-- for a def that lets nothing out -/
theorem fn_ok0 {P : Program} {w : World} {K : PySem.W.Frag} {mg : Str → Option Value} {base : Heap} {x : Str} {st : Stmt} {N ps : List Str} {k : Nat} {sp : Sp} {f : Addr} {fd : FuncData} (F : FnP K x st f fd) (S : FnScope N ps (defScope st)) (len : ∀ vs H Q E, sp vs H Q E → vs.length = ps.length)
    (hbody : ∀ (cdv : Value) (A : Around) (outer : List Env) (s : Shared) (H : Hp) (vs : List V) (Q : VK) (E : XK), Room k (A.deeper (envOfC x (defScope st) s.heap.objs.size f cdv)) → sp vs H Q E →
      ∃ t, PSs (cxOf CX0 P w K mg base N x (defScope st) f cdv A outer s H E).nox (defBody st) t ∧ t { nx := fun _ H' => Q .non H', rt := Q } (start N vs) H) : FnOk P w K mg base CX0 (k + 1) f fd ps sp :=
  F.ok S len fun cdv A outer s H vs Q E hr h => by
    obtain ⟨t, h1, h2⟩ := hbody cdv A outer s H vs Q E hr h
    exact ⟨t, h1.nox, h2⟩
theorem def_ok0 {P : Program} {w : World} {K : PySem.W.Frag} {mg : Str → Option Value} {base : Heap} {x : Str} {st : Stmt} {N ps : List Str} {k : Nat} {sp : Sp} (D : Def K mg x st) (S : FnScope N ps (defScope st)) (len : ∀ vs H Q E, sp vs H Q E → vs.length = ps.length)
    (hbind : ∀ (kV doc pm : Value) (an : Option Addr) (cdv ct : Value) (us : List Value), us.length = ps.length → bindArgs (PySem.W.fnOf x x (defArgs st) (defBody st) (defScope st) .none kV doc pm an cdv ct) ⟨us, []⟩ = pure (ps.zip us))
    (hbody : ∀ (f : Addr) (cdv : Value) (A : Around) (outer : List Env) (s : Shared) (H : Hp) (vs : List V) (Q : VK) (E : XK), Room k (A.deeper (envOfC x (defScope st) s.heap.objs.size f cdv)) → sp vs H Q E →
      ∃ t, PSs (cxOf CX0 P w K mg base N x (defScope st) f cdv A outer s H E).nox (defBody st) t ∧ t { nx := fun _ H' => Q .non H', rt := Q } (start N vs) H) : CallOk P w K mg base CX0 (k + 1) x ps sp := by
  obtain ⟨f, fd, F, g⟩ := D
  exact ⟨⟨f, fd, fn_ok0 F S len (fun cdv A outer s H vs Q E hr h => hbody f cdv A outer s H vs Q E hr h), g, F.kp, F.bindsN hbind⟩⟩
theorem CallOk.mono {P : Program} {w : World} {K : PySem.W.Frag} {mg : Str → Option Value} {base : Heap} {CX : CXT} {j k : Nat} {x : Str} {ps : List Str} {sp : Sp} (C : CallOk P w K mg base CX j x ps sp) (h : j ≤ k) : CallOk P w K mg base CX k x ps sp := by
  obtain ⟨f, fd, F, r⟩ := C.ex
  exact ⟨⟨f, fd, F.mono h, r⟩⟩
/-! ### built-ins whose readings bear names -/
def rInt1 : List V → Hp → VK → Prop := fun xs H Q => (∃ i, xs = [.int i] ∧ Q (.int i) H) ∨ ∃ k, xs = [.bl k] ∧ Q (.int (if k then 1 else 0)) H
def rMax2 : List V → Hp → VK → Prop := fun xs H Q => ∃ i j, xs = [.int i, .int j] ∧ Q (.int (if j > i then j else i)) H
def rMin2 : List V → Hp → VK → Prop := fun xs H Q => ∃ i j, xs = [.int i, .int j] ∧ Q (.int (if j < i then j else i)) H
def rLenS (K : PySem.W.Frag) : List V → Hp → VK → Prop := fun xs H Q => ∃ p ys, xs = [.ref p] ∧ (SqL K H p ys ∨ SqT K H p ys) ∧ Q (.int ys.length) H
section
variable {X : Cx}
theorem cInt : CallR X (.type "int") rInt1 := call_int1
theorem cMax (hc : X.calm = true) : CallR X (.builtin "max") rMax2 := call_max2 hc
theorem cMin (hc : X.calm = true) : CallR X (.builtin "min") rMin2 := call_min2 hc
theorem cLen : CallR X (.builtin "len") (rLenS X.K) := call_len_seq
end
/-! ### readings, one step at a time -/
inductive SetTo : St → Nat → V → St → Prop where
  | zero {a : Option V} {l : St} {v : V} : SetTo (a :: l) 0 v (some v :: l)
  | succ {a : Option V} {l l' : St} {i : Nat} {v : V} (h : SetTo l i v l') : SetTo (a :: l) (i + 1) v (a :: l')
theorem SetTo.eq {σ σ' : St} {i : Nat} {v : V} (h : SetTo σ i v σ') : σ.set i (some v) = σ' := by
  induction h with
  | zero => rfl
  | succ _ ih => rw [List.set_cons_succ, ih]
section
variable {σ σ' : St} {H : Hp} {Q : VK} {QT : Bool → Hp → Prop} {v x y : V} {i : Nat} {nx bk ct : St → Hp → Prop} {rt : VK} {t u : TS} {te ta tb tc : TE} {g : TG} {gs : TGs} {c : TT} {tc2 : TT} {r r' : R2} {b : Bool} {tA : TA} {QA : List V → Hp → Prop}
theorem z_var (e : σ[i]? = some (some v)) (h : Q v H) : tVar i σ H Q := ⟨v, e, h⟩
theorem z_c (h : Q v H) : tC v σ H Q := h
theorem z_op (h : ta σ H fun x H1 => tb σ H1 fun y H2 => r x y H2 Q) : tOp r ta tb σ H Q := h
theorem z_un {ru : V → Hp → VK → Prop} (h : ta σ H fun x H1 => ru x H1 Q) : tUn ru ta σ H Q := h
theorem z_I0 {f : Int → Int → V} {m n : Int} (h : Q (f m n) H) : rI0 f (.int m) (.int n) H Q := ⟨m, n, rfl, rfl, h⟩
theorem z_I {C : Int → Int → Prop} {f : Int → Int → V} {m n : Int} (hc : C m n) (h : Q (f m n) H) : rI C f (.int m) (.int n) H Q := ⟨m, n, rfl, rfl, hc, h⟩
theorem z_U {f : Int → V} {m : Int} (h : Q (f m) H) : rU f (.int m) H Q := ⟨m, rfl, h⟩
theorem z_eq (hs : scal x y = true) (h : Q (.bl (decide (x = y))) H) : rEq x y H Q := ⟨hs, h⟩
theorem z_ne (hs : scal x y = true) (h : Q (.bl (!decide (x = y))) H) : rNe x y H Q := ⟨hs, h⟩
theorem z_eqI {m n : Int} (h : Q (.bl (decide (m = n))) H) : rEq (.int m) (.int n) H Q := ⟨rfl, by
  have e : decide (V.int m = V.int n) = decide (m = n) := by simp
  rw [e]; exact h⟩
theorem z_neI {m n : Int} (h : Q (.bl (!decide (m = n))) H) : rNe (.int m) (.int n) H Q := ⟨rfl, by
  have e : decide (V.int m = V.int n) = decide (m = n) := by simp
  rw [e]; exact h⟩
theorem z_test (h : te σ H fun x H' => ∃ k, x = .bl k ∧ QT k H') : tTest te σ H QT := h
theorem z_B (h : te σ H fun x H' => ∃ k, x = .bl k ∧ QT k H') : tB te σ H QT := h
theorem z_ex (P : Bool → Prop) (h : P b) : ∃ k, V.bl b = .bl k ∧ P k := ⟨b, rfl, h⟩
theorem z_and (h : c σ H fun d H1 => if d = true then tc2 σ H1 QT else QT false H1) : tAnd c tc2 σ H QT := h
theorem z_or (h : c σ H fun d H1 => if d = true then QT true H1 else tc2 σ H1 QT) : tOr c tc2 σ H QT := h
theorem z_not (h : c σ H fun d H1 => QT (!d) H1) : tNot c σ H QT := h
theorem z_andV (h : ta σ H fun x H1 => ∃ d, x = .bl d ∧ if d = true then tb σ H1 Q else Q (.bl false) H1) : tAndV ta tb σ H Q := h
theorem z_orV (h : ta σ H fun x H1 => ∃ d, x = .bl d ∧ if d = true then Q (.bl true) H1 else tb σ H1 Q) : tOrV ta tb σ H Q := h
theorem z_notV (h : ta σ H fun x H1 => ∃ d, x = .bl d ∧ Q (.bl (!d)) H1) : tNotV ta σ H Q := h
theorem z_ifE (h : c σ H fun d H1 => if d = true then ta σ H1 Q else tb σ H1 Q) : tIf c ta tb σ H Q := h
theorem z_chain (h : ta σ H fun x H1 => tb σ H1 fun y H2 => r x y H2 fun z H3 => ∃ k, z = .bl k ∧ (if k = true then tc σ H3 fun w' H4 => r' y w' H4 Q else Q (.bl false) H3)) : tChain r r' ta tb tc σ H Q := h
theorem z_seq (h : t ⟨u ⟨nx, rt, bk, ct⟩, rt, bk, ct⟩ σ H) : tSeq t u ⟨nx, rt, bk, ct⟩ σ H := h
theorem z_next (h : nx σ H) : tNext ⟨nx, rt, bk, ct⟩ σ H := h
theorem z_brk (h : bk σ H) : tBreak ⟨nx, rt, bk, ct⟩ σ H := h
theorem z_cont (h : ct σ H) : tCont ⟨nx, rt, bk, ct⟩ σ H := h
theorem z_asg (h : te σ H fun x H1 => g x σ H1 nx) : tAsg te g ⟨nx, rt, bk, ct⟩ σ H := h
theorem z_drop (h : te σ H fun _ H1 => nx σ H1) : tDrop te ⟨nx, rt, bk, ct⟩ σ H := h
theorem z_ret (h : te σ H rt) : tRet te ⟨nx, rt, bk, ct⟩ σ H := h
theorem z_retN (h : rt .non H) : tRetN ⟨nx, rt, bk, ct⟩ σ H := h
theorem z_if (h : c σ H fun d H1 => if d = true then t ⟨nx, rt, bk, ct⟩ σ H1 else u ⟨nx, rt, bk, ct⟩ σ H1) : tIfS c t u ⟨nx, rt, bk, ct⟩ σ H := h
theorem z_name {R : St → Hp → Prop} (e : SetTo σ i v σ') (h : R σ' H) : gName i v σ H R := by
  show R (σ.set i (some v)) H
  rw [e.eq]
  exact h
theorem z_sub {to ti : TE} {ts : TSet} {R : St → Hp → Prop} (h : to σ H fun o H1 => ti σ H1 fun j H2 => ts o j v H2 fun H3 => R σ H3) : gSub to ti ts v σ H R := h
theorem z_par {j : Nat} (h : tA σ H fun vs H1 => ∃ v w, vs = [v, w] ∧ nx ((σ.set i (some v)).set j (some w)) H1) : tPar i j tA ⟨nx, rt, bk, ct⟩ σ H := h
theorem z_par2 {j : Nat} {σ1 σ2 : St} {w : V} {R : St → Hp → Prop} (e1 : SetTo σ i v σ1) (e2 : SetTo σ1 j w σ2) (h : R σ2 H) : ∃ v' w', [v, w] = [v', w'] ∧ R ((σ.set i (some v')).set j (some w')) H :=
  ⟨v, w, rfl, by rw [e1.eq, e2.eq]; exact h⟩
theorem z_nil (h : QA [] H) : tNil σ H QA := h
theorem z_cons (h : ta σ H fun x H1 => tA σ H1 fun xs H2 => QA (x :: xs) H2) : tCons ta tA σ H QA := h
theorem z_cb {rc : List V → Hp → VK → Prop} (h : tA σ H fun vs H1 => rc vs H1 Q) : tCB rc tA σ H Q := h
theorem z_call {sp : Sp} {E : XK} (h : tA σ H fun vs H1 => sp (vs ++ []) H1 Q E) : tCall sp [] E tA σ H Q := h
theorem z_lst (h : tA σ H fun xs H1 => xs.length ≤ sizeLine ∧ ∀ p, H1 p = none → Q (.ref p) (upd H1 p (.lst xs))) : tLst tA σ H Q := h
theorem z_tup (h : tA σ H fun xs H1 => xs.length ≤ sizeLine ∧ ∀ p, H1 p = none → Q (.ref p) (upd H1 p (.tup xs))) : tTup tA σ H Q := h
theorem z_ixL {K : PySem.W.Frag} {p : Addr} {xs : List V} {n : Int} (h : SqL K H p xs) (e : atI xs n = some v) (q : Q v H) : rIxL K (.ref p) (.int n) H Q := ⟨p, xs, n, v, rfl, rfl, h, e, q⟩
theorem z_ixT {K : PySem.W.Frag} {p : Addr} {xs : List V} {n : Int} (h : SqT K H p xs) (e : atI xs n = some v) (q : Q v H) : rIxT K (.ref p) (.int n) H Q := ⟨p, xs, n, v, rfl, rfl, h, e, q⟩
theorem z_setL {p : Addr} {xs : List V} {n : Int} {j : Nat} {R : Hp → Prop} (h : H p = some (.lst xs)) (e : ixN xs.length n = some j) (q : R (upd H p (.lst (xs.set j v)))) : rSetL (.ref p) (.int n) v H R := ⟨p, xs, n, j, rfl, rfl, h, e, q⟩
theorem z_int1 {n : Int} (h : Q (.int n) H) : rInt1 [.int n] H Q := .inl ⟨n, rfl, h⟩
theorem z_max2 {m n : Int} (h : Q (.int (if n > m then n else m)) H) : rMax2 [.int m, .int n] H Q := ⟨m, n, rfl, h⟩
theorem z_min2 {m n : Int} (h : Q (.int (if n < m then n else m)) H) : rMin2 [.int m, .int n] H Q := ⟨m, n, rfl, h⟩
theorem z_len {K : PySem.W.Frag} {p : Addr} {xs : List V} (h : SqL K H p xs) (q : Q (.int xs.length) H) : rLenS K [.ref p] H Q := ⟨p, xs, rfl, .inl h, q⟩
theorem z_lenT {K : PySem.W.Frag} {p : Addr} {xs : List V} (h : SqT K H p xs) (q : Q (.int xs.length) H) : rLenS K [.ref p] H Q := ⟨p, xs, rfl, .inr h, q⟩
theorem z_pow {m n : Int} (h0 : 0 ≤ n) (h1 : n ≤ 1000000) (h2 : m.natAbs < 2 ^ 64) : CPow m n := ⟨h0, h1, h2⟩
theorem z_modG {m n : Int} (hn : 0 < n) (h : ∀ r : Int, 0 ≤ r → r < n → Q (.int r) H) : rI (fun _ j => 0 < j) (fun i j => .int (i % j)) (.int m) (.int n) H Q := ⟨m, n, rfl, rfl, hn, h _ (Int.emod_nonneg _ (by omega)) (Int.emod_lt_of_pos _ hn)⟩
theorem z_start {D : Ends} (e : σ = σ') (h : t D σ' H) : t D σ H := by
  rw [e]
  exact h
theorem z_iteT {A B : Prop} (h : A) : if true = true then A else B := iteT h
theorem z_iteF {A B : Prop} (h : B) : if false = true then A else B := iteF h
end

/-! ### lists: the left one may be locked, or of the written part -/
theorem list_add_sl (l : Addr) (items : Array Value) (n : Nat) (sl : Array (Option Value)) (b : Addr) (items2 : Array Value) (n2 : Nat) (hc0 : items.size + items2.size ≤ sizeLine) :
    Meets (Builtin.«list.__add__» ⟨[.ref l, .ref b], []⟩) (fun _ R s => s.heap.get? l = some { cls := .type "list", dict := none, data := .seq items n, slots := sl } ∧ s.heap.get? b = some { cls := .type "list", dict := none, data := .seq items2 n2, slots := #[] } ∧
      R (.ok (.ret (Value.ref s.heap.objs.size))) { s with heap := s.heap.push { cls := Value.type "list", data := Data.seq (items ++ items2) }, toks := s.toks }) :=
  .of_wp fun prog w A R s h => by
    obtain ⟨hp, g, d, tk, os⟩ := s
    obtain ⟨hl, hb, h⟩ := h
    have f1 := AutoSeq1.idx_int
    have f3 := AutoSeq1.sub_list_list
    wp_walk using wpAny_loadPart' hl, wpAny_loadPart' hb
    exact ⟨_, rfl, h⟩
def rCatS (K : PySem.W.Frag) : R2 := fun x y H Q => ∃ l b xs zs, x = .ref l ∧ y = .ref b ∧ SqL K H l xs ∧ H b = some (.lst zs) ∧ xs.length + zs.length ≤ sizeLine ∧ ∀ p, H p = none → Q (.ref p) (upd H p (.lst (xs ++ zs)))
theorem op_catS {X : Cx} : OpR X (binaryOp .Add) (rCatS X.K) := by
  intro pins s σ H x y v u Q I rx ry h
  obtain ⟨l, b, xs, zs, rfl, rfl, hL, hB, hz, q⟩ := h
  cases rx
  cases ry
  obtain ⟨its, r, ⟨o, n, ho, hc, hd, hs⟩, hl⟩ := I.list hL
  obtain ⟨oc, od, dt, sl⟩ := o
  simp only at hc hd hs
  subst hc hd hs
  obtain ⟨z2, its2, n2, r2, hl2, e2⟩ := I.lstM hB
  have h1 := r.length
  refine concat_meets ⟨_, ho, rfl⟩ ⟨_, e2, rfl⟩ noFill_list_add seq_list_add F.slot_list_add F.entry_list_add (F.args_list_add_2 _ _) (list_add_sl l its.toArray n sl b its2.toArray n2 (by rw [List.size_toArray, List.size_toArray]; omega)) ⟨ho, e2, ?_⟩
  have ea : its.toArray ++ its2.toArray = (its ++ its2).toArray := by simp
  rw [ea]
  exact ⟨.ref _, _, I.lnew (t' := s.toks) (r.append r2) (by rw [List.length_append]; omega), rfl, q _ I.fresh⟩

/-! ### lists of plain things compared -/
def plainV : V → Bool
  | .non => true
  | .bl _ => true
  | .int _ => true
  | _ => false
def datV : V → PyData
  | .bl b => .bool b
  | .int i => .int i
  | _ => .none
theorem dp_plain {K : PySem.W.Frag} {H : Hp} : ∀ {v : V}, plainV v = true → Dp K H v (datV v)
  | .non, _ => .non
  | .bl b, _ => .bl b
  | .int i, _ => .int i
  | .str _, h => nomatch h
  | .byt _, h => nomatch h
  | .flt _, h => nomatch h
  | .ref _, h => nomatch h
  | .ty _, h => nomatch h
theorem dpAll_plain {K : PySem.W.Frag} {H : Hp} : ∀ {vs : List V}, vs.all plainV = true → DpAll K H vs (vs.map datV)
  | [], _ => .nil
  | v :: vs, h => by
    rw [List.all_cons, Bool.and_eq_true] at h
    exact .cons (dp_plain h.1) (dpAll_plain h.2)
theorem can_datV (v : V) : (datV v).canLay0 = true ∧ (datV v).depth ≤ 1 := by cases v <;> exact ⟨rfl, by simp [datV, PyData.depth]⟩
theorem can_all : ∀ vs : List V, PyData.canLayAll0 (vs.map datV) = true ∧ PyData.depthAll (vs.map datV) ≤ 1
  | [] => ⟨rfl, by simp [PyData.depthAll]⟩
  | v :: vs => by
    obtain ⟨h1, h2⟩ := can_datV v
    obtain ⟨h3, h4⟩ := can_all vs
    refine ⟨by simp [PyData.canLayAll0, h1, h3], ?_⟩
    rw [List.map_cons, PyData.depthAll]
    omega
theorem shaped_list (vs : List V) : SeqAt.shaped (.list (vs.map datV)) = true := by
  obtain ⟨h3, h4⟩ := can_all vs
  have hd : (PyData.list (vs.map datV)).depth ≤ 64 := by
    rw [PyData.depth]
    omega
  unfold SeqAt.shaped
  rw [decide_eq_true hd, Bool.and_true]
  exact h3
theorem dp_lst {K : PySem.W.Frag} {H : Hp} {p : Addr} {vs : List V} (h : SqL K H p vs) (hp : vs.all plainV = true) : Dp K H (.ref p) (.list (vs.map datV)) := .lst h (dpAll_plain hp)
theorem eqv_same (vs : List V) : PyData.eqv (.list (vs.map datV)) (.list (vs.map datV)) = true := SeqAt.eqv_refl _ (can_all vs).1
/-- two lists that hold the same -/
theorem z_neSame {K : PySem.W.Frag} {H : Hp} {Q : VK} {p q : Addr} {vs : List V} (h1 : SqL K H p vs) (h2 : SqL K H q vs) (hp : vs.all plainV = true) (h : Q (.bl false) H) : rNeD K (.ref p) (.ref q) H Q :=
  ⟨_, _, dp_lst h1 hp, dp_lst h2 hp, shaped_list vs, shaped_list vs, by rw [eqv_same]; exact h⟩
theorem z_eqSame {K : PySem.W.Frag} {H : Hp} {Q : VK} {p q : Addr} {vs : List V} (h1 : SqL K H p vs) (h2 : SqL K H q vs) (hp : vs.all plainV = true) (h : Q (.bl true) H) : rEqD K (.ref p) (.ref q) H Q :=
  ⟨_, _, dp_lst h1 hp, dp_lst h2 hp, shaped_list vs, shaped_list vs, by rw [eqv_same]; exact h⟩

/-! ### exceptions held as values -/
theorem findObj_E {K : PySem.W.Frag} {C : Addr} {od : Option Obj} {name : Str} {a g : Value} (hc : (PySem.W.clsIn K C).isSome = true) (ha : PySem.W.findIn K (.ref C) name = some (some a)) (hg : PySem.W.specialIn K a "__get__" = some (some g)) (ht : PySem.W.takesIn K a = some true) :
    PySem.W.findObj K C od name = some (.bind g a) := PySem.W.findObj_dataE hc ha hg ht
/-- what stands at a: an exception of the class at C, made without fields, or with its dict at d -/
def ExAt (H : Hp) (a C : Addr) : Prop := H a = some (ExO (.ref C) a) ∨ ∃ (d : Addr) (fs : List (Str × V)), H a = some (exo a C (some d)) ∧ H d = some (exd d fs)
theorem exAt_inst {P : Program} {w : World} {H : Hp} {h : Heap} {a C : Addr} (hok : HOk P w H h) (e : ExAt H a C) : ∃ (ox : Obj) (od : Option Obj), PySem.W.InstAt h a ox C od := by
  rcases e with e | ⟨d, fs, e, ed⟩
  · obtain ⟨⟨oe, vs, ho, hz, hd, _⟩, _, _⟩ := hok a _ e
    obtain ⟨oc, odd, dt, sl⟩ := oe
    obtain ⟨h1, h2⟩ := hz
    dsimp only at h1 h2 hd
    subst h1 h2 hd
    exact ⟨_, none, ho, rfl, rfl, trivial⟩
  · obtain ⟨t1, ho⟩ := exo_at hok e
    obtain ⟨mA, hns, _⟩ := exd_at hok ed
    obtain ⟨o, es, ep, e1, _⟩ := hns
    exact ⟨_, some o, ho, rfl, rfl, e1⟩
def rIsQ (K : PySem.W.Frag) : List V → Hp → VK → Prop := fun xs H Q => ∃ (a C : Addr) (c : V) (cv : Value) (b : Bool), xs = [.ref a, c] ∧ ExAt H a C ∧ ExcC K C ∧ ClsV c cv ∧ PySem.W.kitOne K (.ref C) cv = some b ∧ Q (.bl b) H
section
variable {X : Cx}
theorem call_isQ : CallR X (.builtin "isinstance") (rIsQ X.K) := by
  intro pins s σ H xs us Q I r h
  obtain ⟨a, C, c, cv, b, rfl, ea, T, k, e, q⟩ := h
  obtain ⟨u1, u2, rfl, r1, r2⟩ := vals2 r
  cases (show u1 = Value.ref a from r1)
  have e2 := k.eq r2
  subst e2
  obtain ⟨ox, od, J⟩ := exAt_inst I.hok ea
  have hcl : (PySem.W.clsIn X.K C).isSome = true := by
    obtain ⟨cd, hc, _⟩ := PySem.W.any_some T.hd
    rw [hc]; rfl
  exact PySem.W.kia_one (PySem.W.kitx_exc hcl T.hg T.hk T.hs T.ha T.hn T.ht T.hm) I.kIn J e (fun z => nomatch z) fun tk => ⟨.bl b, H, I.tok tk, rfl, q⟩
/-- e.f of a held exception with fields -/
def tXfV (K : PySem.W.Frag) (f : Str) (te : TE) : TE := fun σ H Q => te σ H fun x H1 => ∃ (a C d : Addr) (fs : List (Str × V)) (v : V), x = .ref a ∧ H1 a = some (exo a C (some d)) ∧ H1 d = some (exd d fs) ∧ XfC K C ∧ PySem.W.findIn K (.ref C) f = some none ∧ fs.lookup f = some v ∧ Q v H1
theorem pe_xfV {e : Expr} {te : TE} {pos : Pos} {n : Str} (he : PE X e te) (hb : attributeBase e n X.env (eval e X.env) = eval e X.env := by rfl) : PE X (.Attribute e n pos) (tXfV X.K n te) := by
  refine ⟨fun pins s σ H Q I h => ?_⟩
  refine attr_of hb (thn (he.run pins s σ H _ I h) fun u s1 hh => ?_)
  obtain ⟨x, H1, I1, rx, a, C, d, fs, v, ex, ea, ed, T, hno, l, q⟩ := hh
  subst ex
  obtain rfl : u = Value.ref a := rx
  obtain ⟨t1, ho⟩ := exo_at I1.hok ea
  obtain ⟨mA, hns, hr⟩ := exd_at I1.hok ed
  obtain ⟨od, hod, hl⟩ := lookIn_ns hns
  obtain ⟨u, hu, ru⟩ := RelO.some_of (v := v) (o := mA n) (by rw [← l]; exact hr n)
  have J : PySem.W.InstAt s1.heap a { cls := .ref C, dict := some d, data := .fields #[.ref t1, .none, .none, .none, .bool false, .none] } C (some od) := ⟨ho, rfl, rfl, hod⟩
  exact HandSPX.exc_get I1.kIn J T.ga T.gg T.exC (PySem.W.findObj_own T.hdC hno rfl (by rw [hl, hu])) (handed_of ru) ⟨v, H1, I1.tok _, ru, q⟩
/-- X(e, ..) as a value, X an own exception class with its own __init__ -/
def tMkV (C : Addr) (sp : Sp) (ta : TA) : TE := fun σ H Q => ta σ H fun vs H1 => vs.length ≤ 1000 ∧ ∀ a, H1 a = none → sp (.ref a :: vs) (upd H1 a (exo a C none)) (fun v H2 => v = .non ∧ Q (.ref a) H2) (fun _ _ _ => False)
theorem pe_excV {CX : CXT} {x : Str} {C fI : Addr} {k : Nat} {fd : FuncData} {ps : List Str} {sp : Sp} {e : Expr} {es : List Expr} {ta : TA} {p pos : Pos} (T : OexC X.K C) (iC : PySem.W.findIn X.K (.ref C) "__init__" = some (some (.ref fI))) (tI : PySem.W.typeIn X.K (.ref fI) = some (.type "function"))
    (F1 : FnOk X.prog X.w X.K X.mg X.base CX k fI fd ps sp) (hr : Room (k + 1) X.A) (hb : Binds X.K fd ps []) (hx : Passes CX X (fun _ _ _ => False)) (hg : Gl X x) (hm : X.mg x = some (.ref C)) (ha : PA X (e :: es) ta)
    (hdb : (x == ("__debug__" : Str)) = false := by decide) (he : starEach (e :: es) X.env = (false, eval e X.env) :: starEach es X.env := by rfl) (hpl : (backTo pos (starEach es X.env)).any (·.1) = false := by rfl) :
    PE X (.Call (.Name x p) (e :: es) [] pos) (tMkV C sp ta) := by
  refine ⟨fun pins s σ H Q I h => ?_⟩
  obtain ⟨nm, q, N, bs, bm, sn, sub, ab, col, dd, k0, k1, k2, k3, k5, hC, hbm⟩ := T.cls
  refine wpAny_Call_Name_kw (ld_glob I hg hm ?_ hdb)
  refine PySem.W.callWith_K (h₀ := X.base) I.ok.mod.kin T.kC (thn (ha.run pos pins s σ H _ I h) fun us s1 ⟨vs, H1, I1, r1, hz, q1⟩ => ⟨I1.kIn, ?_⟩) he hpl
  show wpAny _ _ (call (.ref C) us) _ _ _
  obtain ⟨hp, g, dr, tk, os⟩ := s1
  have hsz : hp.objs.size ≤ hp.objs.size + 1 := Nat.le_succ _
  have hn : H1 (hp.objs.size + 1) = none := I1.hok.fresh hsz
  have hq := q1 (hp.objs.size + 1) hn
  have kk : ∀ b o, hp.get? b = some o → ((hp.push (PySem.W.kdv_tup us)).push (PySem.HandSPX.excO C hp.objs.size)).get? b = some o := fun b o e => Heap.get?_push_of_some _ (Heap.get?_push_of_some _ e)
  have hget : ((hp.push (PySem.W.kdv_tup us)).push (PySem.HandSPX.excO C hp.objs.size)).get? (hp.objs.size + 1) = some (PySem.HandSPX.excO C hp.objs.size) := by heap_get
  have I2 : Inv X pins σ (upd H1 (hp.objs.size + 1) (exo (hp.objs.size + 1) C none)) ⟨(hp.push (PySem.W.kdv_tup us)).push (PySem.HandSPX.excO C hp.objs.size), g, dr, tk, os⟩ :=
    I1.laid (t' := tk) (a := hp.objs.size + 1) (o := exo (hp.objs.size + 1) C none) (h' := (hp.push (PySem.W.kdv_tup us)).push (PySem.HandSPX.excO C hp.objs.size)) kk hsz (exo_ok hget)
  have r2 : Vals (V.ref (hp.objs.size + 1) :: vs) (Value.ref (hp.objs.size + 1) :: us) := .cons rfl r1
  have hl : (Value.ref (hp.objs.size + 1) :: us).length = ps.length := by
    have e := r2.length
    rw [F1.len _ _ _ _ hq] at e
    exact e.symm
  have hus : us.length ≤ sizeLine := by
    rw [← Paired.length r1, sizeLine_eq]
    omega
  have hb' : BindsTo ⟨(hp.push (PySem.W.kdv_tup us)).push (PySem.HandSPX.excO C hp.objs.size), g, dr, tk, os⟩ fd ⟨Value.ref (hp.objs.size + 1) :: us, []⟩ (ps.zip (Value.ref (hp.objs.size + 1) :: us)) := by
    have z := hb _ (Value.ref (hp.objs.size + 1) :: us) I2.kIn (by rw [List.append_nil]; exact hl)
    rw [List.append_nil] at z
    exact z
  refine wpAny_call (PySem.HandSPX.call_own F.excBase_ValueError (fun Y => PySem.HandSPX.refsVE_contains Y bm hbm) (I1.kIn _ _ hC) (PySem.W.looks_findIn I1.kIn iC) (fun self => PySem.W.bind_fn I1.kIn self tI) hus
    (codeAny_mono (F1.run _ X.stack _ _ ⟨Value.ref (hp.objs.size + 1) :: us, []⟩ (Value.ref (hp.objs.size + 1) :: us) _ _ (fun _ _ _ => False) (hr.make C us []) (I2.env0.make C us []) hb' r2 hq) fun r s' hq' => ?_))
  cases r with
  | error er => exact hx pins σ _ _ er s' I2 hq'
  | ok fl =>
    cases fl with
    | ret u =>
      obtain ⟨v, H', I3, rv, ev, q3⟩ := I2.after hq'
      subst ev
      exact ⟨rv, ⟨V.ref (hp.objs.size + 1), H', I3, rfl, q3⟩⟩
    | next => exact False.elim hq'
    | brk => exact False.elim hq'
    | cont => exact False.elim hq'
end

/-- the promise of «self.f = v» -/
def spX (C : Addr) (f : Str) : Sp := fun vs H Q _ => ∃ (a : Addr) (v : V), vs = [.ref a, v] ∧ H a = some (exo a C none) ∧ ∀ dx, H dx = none → dx ≠ a → Q .non (upd (upd H dx (exd dx [(f, v)])) a (exo a C (some dx)))
/-! ### made and held: what a row of such values leaves -/
theorem same_new {H H' : Hp} {p : Addr} {o : HO} (s : Same H H') (h : H' p = none) : Same H (upd H' p o) := fun a u e => by
  rw [upd_ne (ne_of_none (s a u e) h)]
  exact s a u e
def HasX (H : Hp) (e : V) (C : Addr) (o : Option (Str × V)) : Prop := ∃ a, e = .ref a ∧ (match o with
  | none => H a = some (ExO (.ref C) a)
  | some (f, v) => ∃ d, H a = some (exo a C (some d)) ∧ H d = some (exd d [(f, v)]))
theorem HasX.mono {H H' : Hp} {e : V} {C : Addr} {o : Option (Str × V)} (s : Same H H') (h : HasX H e C o) : HasX H' e C o := by
  obtain ⟨a, ea, h⟩ := h
  refine ⟨a, ea, ?_⟩
  cases o with
  | none => exact s _ _ h
  | some q =>
    obtain ⟨f, v⟩ := q
    obtain ⟨d, h1, h2⟩ := h
    exact ⟨d, s _ _ h1, s _ _ h2⟩
theorem HasX.at {H : Hp} {a C : Addr} {o : Option (Str × V)} (h : HasX H (.ref a) C o) : ExAt H a C := by
  obtain ⟨a', ea, h⟩ := h
  cases ea
  cases o with
  | none => exact .inl h
  | some q =>
    obtain ⟨f, v⟩ := q
    obtain ⟨d, h1, h2⟩ := h
    exact .inr ⟨d, _, h1, h2⟩
abbrev HasAll (H : Hp) : List V → List (Addr × Option (Str × V)) → Prop := Paired fun e c => HasX H e c.1 c.2
theorem HasAll.mono {H H' : Hp} {es : List V} {cs : List (Addr × Option (Str × V))} (s : Same H H') (h : HasAll H es cs) : HasAll H' es cs := Paired.mapP h fun _ _ q => q.mono s
theorem paired_append {α β : Type} {F : α → β → Prop} : ∀ {a : List α} {b : List β} {c : List α} {d : List β}, Paired F a b → Paired F c d → Paired F (a ++ c) (b ++ d)
  | _, _, _, _, .nil, s => s
  | _, _, _, _, .cons r t, s => .cons r (paired_append t s)
theorem paired_get2 {α β : Type} {F : α → β → Prop} : ∀ {a : List α} {b : List β} {i : Nat} {y : β}, Paired F a b → b[i]? = some y → ∃ x, a[i]? = some x ∧ F x y
  | _, _, _, _, .nil, e => by simp at e
  | _, _, 0, _, .cons r _, e => by simp at e; subst e; exact ⟨_, rfl, r⟩
  | _, _, i + 1, x, .cons _ t, e => by
    obtain ⟨u, h1, h2⟩ := paired_get2 (i := i) (y := x) t (by simpa using e)
    exact ⟨u, by simpa using h1, h2⟩
def MkT (te : TE) (σ : St) (C : Addr) (o : Option (Str × V)) : Prop := ∀ (H : Hp) (Q : VK), (∀ e H', Same H H' → HasX H' e C o → Q e H') → te σ H Q
def MkA (ta : TA) (σ : St) (cs : List (Addr × Option (Str × V))) : Prop := ∀ (H : Hp) (Q : List V → Hp → Prop), (∀ es H', Same H H' → HasAll H' es cs → Q es H') → ta σ H Q
theorem MkA.nil {σ : St} : MkA tNil σ [] := fun H Q q => q [] H (Same.refl H) .nil
theorem MkA.cons {te : TE} {ta : TA} {σ : St} {C : Addr} {o : Option (Str × V)} {cs : List (Addr × Option (Str × V))} (h : MkT te σ C o) (t : MkA ta σ cs) : MkA (tCons te ta) σ ((C, o) :: cs) := fun H Q q =>
  h H _ fun e H1 s1 x => t H1 _ fun es H2 s2 xs => q (e :: es) H2 (s1.trans s2) (.cons (x.mono s2) xs)
theorem MkA.lst {ta : TA} {σ : St} {cs : List (Addr × Option (Str × V))} (h : MkA ta σ cs) (hl : cs.length ≤ 1000) {H : Hp} {Q : VK} (q : ∀ p es H', Same H H' → H p = none → H' p = some (.lst es) → HasAll H' es cs → Q (.ref p) H') : tLst ta σ H Q :=
  h H _ fun es H1 s1 xs => ⟨Nat.le_trans (Nat.le_of_eq (Paired.length xs)) (Nat.le_trans hl (by decide)), fun p hp => q p es _ (same_new s1 hp) (s1.free hp) upd_same (xs.mono (same_new (Same.refl _) hp))⟩
theorem MkA.cat {ta : TA} {σ : St} {cs cs2 : List (Addr × Option (Str × V))} {i : Nat} {p : Addr} {es : List V} (h : MkA ta σ cs2) (hl : cs.length + cs2.length ≤ 1000) {H : Hp} {Q : VK} (e : σ[i]? = some (some (.ref p))) (hp : H p = some (.lst es)) (hx : HasAll H es cs)
    (q : ∀ r zs H', Same H H' → H r = none → H' r = some (.lst zs) → HasAll H' zs (cs ++ cs2) → Q (.ref r) H') : tOp rCat (tVar i) (tLst ta) σ H Q := by
  refine ⟨_, e, h.lst (by omega) fun p2 es2 H2 s2 n2 h2 x2 => ?_⟩
  refine ⟨p, p2, es, es2, rfl, rfl, s2 _ _ hp, h2, ?_, fun r hr => ?_⟩
  · rw [Paired.length hx, Paired.length x2]
    exact Nat.le_trans hl (by decide)
  · have s3 : Same H2 (upd H2 r (.lst (es ++ es2))) := same_new (Same.refl _) hr
    exact q r (es ++ es2) _ (s2.trans s3) (s2.free hr) upd_same (HasAll.mono s3 (paired_append (hx.mono s2) x2))
/-- values that leave the heap as it is, whatever has come to it -/
def PuT (te : TE) (σ : St) (H : Hp) (v : V) : Prop := ∀ H', Same H H' → ∀ Q : VK, Q v H' → te σ H' Q
def PuA (ta : TA) (σ : St) (H : Hp) (vs : List V) : Prop := ∀ H', Same H H' → ∀ Q : List V → Hp → Prop, Q vs H' → ta σ H' Q
theorem PuA.nil {σ : St} {H : Hp} : PuA tNil σ H [] := fun _ _ _ q => q
theorem PuA.cons {te : TE} {ta : TA} {σ : St} {H : Hp} {v : V} {vs : List V} (h : PuT te σ H v) (t : PuA ta σ H vs) : PuA (tCons te ta) σ H (v :: vs) := fun H' s Q q => h H' s _ (t H' s _ q)
theorem PuT.var {σ : St} {H : Hp} {i : Nat} {v : V} (e : σ[i]? = some (some v)) : PuT (tVar i) σ H v := fun _ _ _ q => ⟨v, e, q⟩
theorem PuT.c {σ : St} {H : Hp} {v : V} : PuT (tC v) σ H v := fun _ _ _ q => q
theorem PuT.mono {te : TE} {σ : St} {H H' : Hp} {v : V} (s : Same H H') (h : PuT te σ H v) : PuT te σ H' v := fun H2 s2 Q q => h H2 (s.trans s2) Q q
theorem PuA.mono {te : TA} {σ : St} {H H' : Hp} {v : List V} (s : Same H H') (h : PuA te σ H v) : PuA te σ H' v := fun H2 s2 Q q => h H2 (s.trans s2) Q q
theorem PuA.lst {ta : TA} {σ : St} {H : Hp} {vs : List V} (h : PuA ta σ H vs) (hl : vs.length ≤ 1000) {Q : VK} (q : ∀ p H', Same H H' → H p = none → H' p = some (.lst vs) → Q (.ref p) H') : tLst ta σ H Q :=
  h H (Same.refl H) _ ⟨Nat.le_trans hl (by decide), fun p hp => q p _ (same_new (Same.refl H) hp) hp upd_same⟩
theorem PuA.cat {ta : TA} {σ : St} {H : Hp} {vs ws : List V} {i : Nat} {p : Addr} (h : PuA ta σ H ws) (hl : vs.length + ws.length ≤ 1000) (e : σ[i]? = some (some (.ref p))) (hp : H p = some (.lst vs)) {Q : VK}
    (q : ∀ r H', Same H H' → H r = none → H' r = some (.lst (vs ++ ws)) → Q (.ref r) H') : tOp rCat (tVar i) (tLst ta) σ H Q := by
  refine ⟨_, e, h.lst (by omega) fun p2 H2 s2 n2 h2 => ?_⟩
  refine ⟨p, p2, vs, ws, rfl, rfl, s2 _ _ hp, h2, Nat.le_trans hl (by decide), fun r hr => ?_⟩
  exact q r _ (s2.trans (same_new (Same.refl _) hr)) (s2.free hr) upd_same
theorem pu_ix {K : PySem.W.Frag} {σ : St} {H : Hp} {i : Nat} {p : Addr} {xs : List V} {k : Int} {v : V} (e : σ[i]? = some (some (.ref p))) (h : H p = some (.lst xs)) (hk : atI xs k = some v) : PuT (tOp (rIxL K) (tVar i) (tC (.int k))) σ H v := fun _ s _ q =>
  ⟨_, e, z_ixL (SqL.of (s _ _ h)) hk q⟩
theorem pu_len {K : PySem.W.Frag} {σ : St} {H : Hp} {i : Nat} {p : Addr} {xs : List V} {n : Int} (e : σ[i]? = some (some (.ref p))) (h : H p = some (.lst xs)) (hn : (xs.length : Int) = n) : PuT (tCB (rLenS K) (tCons (tVar i) tNil)) σ H (.int n) := fun _ s _ q =>
  ⟨_, e, z_len (SqL.of (s _ _ h)) (by rw [hn]; exact q)⟩
theorem pu_xf {K : PySem.W.Frag} {te : TE} {σ : St} {H : Hp} {e0 C d : Addr} {f : Str} {v : V} (h : PuT te σ H (.ref e0)) (h1 : H e0 = some (exo e0 C (some d))) (h2 : H d = some (exd d [(f, v)])) (T : XfC K C) (no : PySem.W.findIn K (.ref C) f = some none) :
    PuT (tXfV K f te) σ H v := fun H' s Q q => h H' s _ ⟨e0, C, d, _, v, rfl, s _ _ h1, s _ _ h2, T, no, by simp [List.lookup], q⟩
/-- values on whose way new things may be made -/
def GrT (te : TE) (σ : St) (v : V) : Prop := ∀ (H : Hp) (Q : VK), (∀ H', Same H H' → Q v H') → te σ H Q
def GrA (ta : TA) (σ : St) (vs : List V) : Prop := ∀ (H : Hp) (Q : List V → Hp → Prop), (∀ H', Same H H' → Q vs H') → ta σ H Q
theorem GrA.nil {σ : St} : GrA tNil σ [] := fun H _ q => q H (Same.refl H)
theorem GrA.cons {te : TE} {ta : TA} {σ : St} {v : V} {vs : List V} (h : GrT te σ v) (t : GrA ta σ vs) : GrA (tCons te ta) σ (v :: vs) := fun H Q q => h H _ fun H1 s1 => t H1 _ fun H2 s2 => q H2 (s1.trans s2)
theorem GrA.lst {ta : TA} {σ : St} {vs : List V} (h : GrA ta σ vs) (hl : vs.length ≤ 1000) {H : Hp} {Q : VK} (q : ∀ p H', Same H H' → H p = none → H' p = some (.lst vs) → Q (.ref p) H') : tLst ta σ H Q :=
  h H _ fun H1 s1 => ⟨Nat.le_trans hl (by decide), fun p hp => q p _ (same_new s1 hp) (s1.free hp) upd_same⟩
theorem GrA.cat {ta : TA} {σ : St} {vs ws : List V} {i : Nat} {p : Addr} (h : GrA ta σ ws) (hl : vs.length + ws.length ≤ 1000) (e : σ[i]? = some (some (.ref p))) {H : Hp} (hp : H p = some (.lst vs)) {Q : VK}
    (q : ∀ r H', Same H H' → H r = none → H' r = some (.lst (vs ++ ws)) → Q (.ref r) H') : tOp rCat (tVar i) (tLst ta) σ H Q := by
  refine ⟨_, e, h.lst (by omega) fun p2 H2 s2 n2 h2 => ?_⟩
  exact ⟨p, p2, vs, ws, rfl, rfl, s2 _ _ hp, h2, Nat.le_trans hl (by decide), fun r hr => q r _ (s2.trans (same_new (Same.refl _) hr)) (s2.free hr) upd_same⟩
theorem gr_xf {K : PySem.W.Frag} {te : TE} {σ : St} {C : Addr} {f : Str} {v : V} (h : MkT te σ C (some (f, v))) (T : XfC K C) (no : PySem.W.findIn K (.ref C) f = some none) : GrT (tXfV K f te) σ v := fun H Q q =>
  h H _ fun e H' s x => by
    obtain ⟨a, ea, d, h1, h2⟩ := x
    exact ⟨a, C, d, _, v, ea, h1, h2, T, no, by simp [List.lookup], q H' s⟩
/-- [e for i in range(n)], e pure -/
theorem lc_pure {ta : TA} {te : TE} {sl : Nat} {σ : St} {H : Hp} {Q : VK} {n : Nat} {f : Nat → V} (hn : n ≤ 10000) (ha : PuA ta σ H [.int n])
    (he : ∀ i < n, ∀ H', Same H H' → ∀ Q' : VK, Q' (f i) H' → te ((wipe σ [sl]).set sl (some (.int (0 + (i : Int))))) H' Q') (hw : ∀ x : V, wipe ((wipe σ [sl]).set sl (some x)) [sl] = wipe σ [sl])
    (q : ∀ p H', Same H H' → H p = none → H' p = some (.lst ((List.range n).map f)) → Q (.ref p) H') : tLc (iRng1 ta) (gName sl) tYes te [sl] σ H Q := by
  refine ha H (Same.refl H) _ ⟨n, rfl, by omega, by omega, fun D hD => ?_⟩
  have e0 : ((n : Int)).toNat = n := by omega
  rw [e0]
  refine lc_range (fun i H' => Same H H' ∧ H' D = some (.lst ((List.range i).map f))) ⟨same_new (Same.refl H) hD, upd_same⟩ (fun i H' hi ⟨s1, h1⟩ => ?_) (fun H' ⟨s1, h1⟩ => q D H' s1 hD h1)
  refine ⟨hw _, ?_⟩
  show te _ H' _
  refine he i hi H' s1 _ ?_
  refine ⟨_, h1, ?_, fun b o e => ?_, ?_⟩
  · rw [List.length_map, List.length_range]
    exact Nat.lt_of_lt_of_le (by omega : i < 10001) (by decide)
  · rw [upd_ne (ne_of_none e hD)]
    exact s1 b o e
  · rw [upd_same, List.range_succ, List.map_append]
    rfl
/-- X('m') where X has no __init__ of its own -/
def tMk1 (C : Addr) (ta : TE) : TE := fun σ H Q => ta σ H fun _ H1 => ∀ a, H1 a = none → Q (.ref a) (upd H1 a (ExO (.ref C) a))
theorem mk_1 {te : TE} {σ : St} {C : Addr} {v : V} (h : ∀ H, PuT te σ H v) : MkT (tMk1 C te) σ C none := fun H Q q =>
  h H H (Same.refl H) _ fun a ha => q _ _ (same_new (Same.refl H) ha) ⟨a, rfl, upd_same⟩
theorem mk_V {ta : TA} {σ : St} {C : Addr} {f : Str} {v : V} (h : ∀ H, PuA ta σ H [v]) : MkT (tMkV C (spX C f) ta) σ C (some (f, v)) := fun H Q q =>
  h H H (Same.refl H) _ ⟨by show 1 ≤ 1000; decide, fun a ha => ⟨a, v, rfl, upd_same, fun dx hdx hne => ⟨rfl, q _ _ (fun b o e => by
    have n1 : b ≠ a := ne_of_none e ha
    have hd0 : H dx = none := by rw [upd_ne hne] at hdx; exact hdx
    rw [upd_ne n1, upd_ne (ne_of_none e hd0), upd_ne n1]
    exact e) ⟨a, rfl, dx, upd_same, by rw [upd_ne hne, upd_same]⟩⟩⟩⟩
theorem pu_isQ {K : PySem.W.Frag} {ta : TA} {σ : St} {H : Hp} {a C : Addr} {c : V} {cv : Value} {b : Bool} (h : PuA ta σ H [.ref a, c]) (ea : ExAt H a C) (T : ExcC K C) (k : ClsV c cv) (e : PySem.W.kitOne K (.ref C) cv = some b) : PuT (tCB (rIsQ K) ta) σ H (.bl b) := fun H' s Q q =>
  h H' s _ ⟨a, C, c, cv, b, rfl, by
    rcases ea with h | ⟨d, fs, h1, h2⟩
    · exact .inl (s _ _ h)
    · exact .inr ⟨d, fs, s _ _ h1, s _ _ h2⟩, T, k, e, q⟩
theorem ExAt.mono {H H' : Hp} {a C : Addr} (s : Same H H') (h : ExAt H a C) : ExAt H' a C := by
  rcases h with h | ⟨d, fs, h1, h2⟩
  · exact .inl (s _ _ h)
  · exact .inr ⟨d, fs, s _ _ h1, s _ _ h2⟩
theorem z_isQ {K : PySem.W.Frag} {H : Hp} {Q : VK} {a C : Addr} {c : V} {cv : Value} {b : Bool} (ea : ExAt H a C) (T : ExcC K C) (k : ClsV c cv) (e : PySem.W.kitOne K (.ref C) cv = some b) (q : Q (.bl b) H) : rIsQ K [.ref a, c] H Q := ⟨a, C, c, cv, b, rfl, ea, T, k, e, q⟩
/-- an own exception class with one field, as the text has it -/
structure ClsX (P : Program) (w : World) (K : PySem.W.Frag) (mg : Str → Option Value) (base : Heap) (x f : Str) : Prop where
  T : OexC K (He.ga K x)
  g : mg x = some (.ref (He.ga K x))
  i : PySem.W.findIn K (.ref (He.ga K x)) "__init__" = some (some (.ref (He.ma K (He.ga K x) "__init__")))
  t : PySem.W.typeIn K (.ref (He.ma K (He.ga K x) "__init__")) = some (.type "function")
  fn : ∃ fd, FnOk P w K mg base CX0 1 (He.ma K (He.ga K x) "__init__") fd ["self", f] (spX (He.ga K x) f) ∧ Binds K fd ["self", f] []
  no : PySem.W.findIn K (.ref (He.ga K x)) f = some none
/-- one without fields -/
structure Cls0 (K : PySem.W.Frag) (mg : Str → Option Value) (x : Str) : Prop where
  q : PySem.W.excIn K (He.ga K x) He.veBase "ValueError.__new__" = true
  g : mg x = some (.ref (He.ga K x))
  k : PySem.W.keepIn K (.ref (He.ga K x)) = true
section
variable {X : Cx} {x f : Str} {e : Expr} {es : List Expr} {ta : TA} {te : TE} {p pos : Pos}
theorem pe_clsX (C : ClsX X.prog X.w X.K X.mg X.base x f) (hr : Room 2 X.A) (hg : Gl X x) (ha : PA X (e :: es) ta) (hdb : (x == ("__debug__" : Str)) = false := by decide) (he : starEach (e :: es) X.env = (false, eval e X.env) :: starEach es X.env := by rfl)
    (hpl : (backTo pos (starEach es X.env)).any (·.1) = false := by rfl) : PE X (.Call (.Name x p) (e :: es) [] pos) (tMkV (He.ga X.K x) (spX (He.ga X.K x) f) ta) := by
  obtain ⟨fd, F, b⟩ := C.fn
  exact pe_excV C.T C.i C.t F hr b pass0 hg C.g ha hdb he hpl
theorem pe_cls0 (C : Cls0 X.K X.mg x) (hg : Gl X x) (he : PE X e te) (hs : starEach [e] X.env = (false, eval e X.env) :: starEach [] X.env := by rfl) (hdb : (x == ("__debug__" : Str)) = false := by decide) :
    PE X (.Call (.Name x p) [e] [] pos) (tMk1 (He.ga X.K x) te) := pe_exc1 PySem.F.excBase_ValueError C.q C.g C.k hg he hs hdb
end
/-- the __init__ of such a class -/
theorem init_ok {P : Program} {w : World} {K : PySem.W.Frag} {mg : Str → Option Value} {base : Heap} {x f qual : Str} {st : Stmt} {fd : FuncData} (F : FunD K "__init__" qual (defArgs st) (defBody st) (defScope st) [] [] (He.ma K (He.ga K x) "__init__") fd) (S : FnScope ["self", f] ["self", f] (defScope st))
    (T : OexC K (He.ga K x)) (no : PySem.W.findIn K (.ref (He.ga K x)) f = some none)
    (hbody : ∀ (cdv : Value) (A : Around) (outer : List Env) (s : Shared) (H : Hp) (E : XK), PSs (cxOf CX0 P w K mg base ["self", f] qual (defScope st) (He.ma K (He.ga K x) "__init__") cdv A outer s H E) (defBody st) (tOst K f (tVar 0) (tVar 1))) :
    FnOk P w K mg base CX0 1 (He.ma K (He.ga K x) "__init__") fd ["self", f] (spX (He.ga K x) f) := by
  refine F.ok S (fun vs H Q E h => ?_) (fun cdv A outer s H vs Q E hr h => ⟨_, hbody cdv A outer s H E, ?_⟩)
  · obtain ⟨a, v, rfl, _⟩ := h
    rfl
  · obtain ⟨a, v, rfl, ea, k⟩ := h
    exact ⟨v, rfl, .ref a, rfl, a, _, rfl, T, no, .inl ⟨ea, fun dx hd hne => k dx hd hne⟩⟩
/-! ### facts of the head, as one test -/
def xcB (K : PySem.W.Frag) (D : Addr) : Bool :=
  decide (PySem.W.findIn K (.ref D) "__getattribute__" = some (some (.builtin "BaseException.__getattribute__"))) && (decide (PySem.W.findIn K (.ref D) "__getattr__" = some none) && (decide (PySem.W.subIn K (.ref D) (.type "BaseException") = some true) &&
  (PySem.W.hasDictIn K D && (decide (PySem.W.findIn K (.ref D) "__class__" = some (some (.builtin "object.__class__"))) && (decide (PySem.W.specialIn K (.builtin "object.__class__") "__get__" = some (some (.builtin "getset_descriptor.__get__"))) &&
  (decide (PySem.W.takesIn K (.builtin "object.__class__") = some true) && decide (PySem.W.mroIn K D (.type "object") = some true)))))))
theorem xcB_ok {K : PySem.W.Frag} {D : Addr} (h : xcB K D = true) : ExcC K D := by
  obtain ⟨h1, h⟩ := He.ba h
  obtain ⟨h2, h⟩ := He.ba h
  obtain ⟨h3, h⟩ := He.ba h
  obtain ⟨h4, h⟩ := He.ba h
  obtain ⟨h5, h⟩ := He.ba h
  obtain ⟨h6, h⟩ := He.ba h
  obtain ⟨h7, h8⟩ := He.ba h
  exact ⟨of_decide_eq_true h1, of_decide_eq_true h2, of_decide_eq_true h3, h4, of_decide_eq_true h5, of_decide_eq_true h6, of_decide_eq_true h7, of_decide_eq_true h8⟩
theorem xf_of {K : PySem.W.Frag} {D : Addr} (h : ExcC K D) : XfC K D := ⟨h.hg, h.hk, h.hs, h.hd⟩
def oexB (K : PySem.W.Frag) (C : Addr) : Bool := (match K.lookup C with
  | some ⟨.type "type", _, .cls cd, sl⟩ => (match cd.mro, sl.toList with
    | .ref C' :: bm, [_, _, _, _, some (.builtin n), _] => C' == C && (n == "ValueError.__new__" && (!cd.hasDel && (cd.hasDict && PySem.HandSPX.refsVE bm)))
    | _, _ => false)
  | _ => false) && (decide (PySem.W.findIn K (.ref C) "__setattr__" = some (some (.builtin "object.__setattr__"))) && (decide (PySem.W.subIn K (.ref C) (.type "BaseException") = some true) && (decide (PySem.W.typeIn K (.ref C) = some (.type "type")) && PySem.W.keepIn K (.ref C))))
theorem oexB_ok {K : PySem.W.Frag} {C : Addr} (h : oexB K C = true) : OexC K C := by
  obtain ⟨q, h⟩ := He.ba h
  obtain ⟨h2, h⟩ := He.ba h
  obtain ⟨h3, h⟩ := He.ba h
  obtain ⟨h4, h5⟩ := He.ba h
  refine ⟨?_, of_decide_eq_true h2, of_decide_eq_true h3, of_decide_eq_true h4, h5⟩
  split at q
  · rename_i dd cd sl ho
    split at q
    · rename_i C' bm k0 k1 k2 k3 n k5 hm hs
      simp only [Bool.and_eq_true, beq_iff_eq, Bool.not_eq_true'] at q
      obtain ⟨rfl, rfl, hdel, hdct, ht⟩ := q
      obtain ⟨nm, bs, mro, ns, qn, hd, sn, sub, ab, col, del⟩ := cd
      dsimp only at hm hdel hdct
      subst hm hdel hdct
      have hsl : sl = #[k0, k1, k2, k3, some (.builtin "ValueError.__new__"), k5] := by
        obtain ⟨l⟩ := sl
        simp only at hs
        rw [hs]
      subst hsl
      exact ⟨nm, qn, ns, bs, bm, sn, sub, ab, col, dd, k0, k1, k2, k3, k5, ho, ht⟩
    · cases q
  · cases q
end Z

set_option Elab.async false
set_option linter.all false
set_option maxRecDepth 100000
set_option maxHeartbeats 4000000
namespace Z
open PySem PySem.Spec L2
open PyProof.Rows hiding St
/-! ### defs that are called where no repr is under way -/
structure FnOkG (P : Program) (w : World) (K : PySem.W.Frag) (mg : Str → Option Value) (base : Heap) (CX : CXT) (k : Nat) (f : Addr) (fd : FuncData) (ps : List Str) (sp : Sp) : Prop where
  len : ∀ vs H Q E, sp vs H Q E → vs.length = ps.length
  run : ∀ (A : Around) (outer : List Env) (s : Shared) (H : Hp) (args : Args) (us : List Value) (vs : List V) (Q : VK) (E : XK), Room k A → A.guards = some [] → Env0 P w K mg base A outer s H → BindsTo s fd args (ps.zip us) → Vals vs us → sp vs H Q E →
    codeAny (model P w) A (.call (.ref f) args) (CR CX outer P w H s Q E) s
section
variable {P : Program} {w : World} {K : PySem.W.Frag} {mg : Str → Option Value} {base : Heap} {CX : CXT} {k : Nat}
theorem FnOkG.of {f : Addr} {fd : FuncData} {ps : List Str} {sp : Sp} (F : FnOk P w K mg base CX k f fd ps sp) : FnOkG P w K mg base CX k f fd ps sp := ⟨F.len, fun A o s H a us vs Q E hr _ e b v h => F.run A o s H a us vs Q E hr e b v h⟩
theorem FnOkG.mono {j : Nat} {f : Addr} {fd : FuncData} {ps : List Str} {sp : Sp} (F : FnOkG P w K mg base CX j f fd ps sp) (h : j ≤ k) : FnOkG P w K mg base CX k f fd ps sp := ⟨F.len, fun A o s H a us vs Q E hr => F.run A o s H a us vs Q E (hr.mono h)⟩
theorem fn_okG {x : Str} {st : Stmt} {N ps : List Str} {sp : Sp} {f : Addr} {fd : FuncData} (F : FnP K x st f fd) (S : FnScope N ps (defScope st)) (len : ∀ vs H Q E, sp vs H Q E → vs.length = ps.length)
    (hbody : ∀ (cdv : Value) (A : Around) (outer : List Env) (s : Shared) (H : Hp) (vs : List V) (Q : VK) (E : XK), Room k (A.deeper (envOfC x (defScope st) s.heap.objs.size f cdv)) → (A.deeper (envOfC x (defScope st) s.heap.objs.size f cdv)).guards = some [] → sp vs H Q E →
      ∃ t, PSs (cxOf CX P w K mg base N x (defScope st) f cdv A outer s H E) (defBody st) t ∧ t { nx := fun _ H' => Q .non H', rt := Q } (start N vs) H) : FnOkG P w K mg base CX (k + 1) f fd ps sp := by
  obtain ⟨oc, od, dV, kV, doc, pm, an, cdv, ct, osl, rfl, lk, hcd, _, _⟩ := F.ex
  refine ⟨len, fun A outer s H args us vs Q E hr hgd e0 hb r hsp => ?_⟩
  have hl : vs.length = ps.length := len _ _ _ _ hsp
  have KX : K.In s.heap := e0.mod.kin.keeps fun b o e => (e0.bs b o e).1
  have lim : s.heap.NoLimit := e0.mod.nolimit.keeps fun b o e => (e0.bs b o e).1
  have names : ∀ y ∈ ps.zip us, (defScope st).names.lookup y.1 = some .local ∨ ((defScope st).names.lookup y.1 = some .cell ∧ ((cellsFrom (s.heap.objs.size + 1) (defScope st).names []).lookup y.1).isSome = true) := fun y hy =>
    (S.par y.1 (List.of_mem_zip hy).1).imp id fun q => ⟨q, PySem.W.cellsFrom_some _ _ _ (.inl q)⟩
  refine codeAny_call_function hr.depth (KX _ _ lk) rfl S.co S.gen rfl (PySem.W.codeRec_of KX hcd) (hb _ _ _ _ (wpAny_newFunctionEnv_cells S.kind names fun env he s1 y => ?_))
  subst he
  refine ⟨lim.keeps y.toInCall.keep, codeAny_func ?_⟩
  obtain ⟨t, ht, hq⟩ := hbody cdv A outer s H vs Q E (hr.deeper _) hgd hsp
  refine wpAny_mono (ht.run [] s1 (start N vs) H _ (inv_start S hr.hd e0 hl r y) hq) (fun fl s' hs => ?_) fun _ _ z => z
  cases fl with
  | ret u =>
    obtain ⟨v, _, H', J, rv, q⟩ := hs
    exact ⟨v, H', J.os, J.bare, J.base, J.hok, rv, q⟩
  | next =>
    obtain ⟨_, H', J, q⟩ := hs
    exact ⟨.non, H', J.os, J.bare, J.base, J.hok, rfl, q⟩
  | brk => exact hs.choose_spec.choose_spec.2.elim
  | cont => exact hs.choose_spec.choose_spec.2.elim
structure CallOkG (P : Program) (w : World) (K : PySem.W.Frag) (mg : Str → Option Value) (base : Heap) (CX : CXT) (k : Nat) (x : Str) (ps : List Str) (sp : Sp) : Prop where
  ex : ∃ (f : Addr) (fd : FuncData), FnOkG P w K mg base CX k f fd ps sp ∧ mg x = some (.ref f) ∧ PySem.W.keepIn K (.ref f) = true ∧ Binds K fd ps []
theorem fn_okG0 {x : Str} {st : Stmt} {N ps : List Str} {sp : Sp} {f : Addr} {fd : FuncData} (F : FnP K x st f fd) (S : FnScope N ps (defScope st)) (len : ∀ vs H Q E, sp vs H Q E → vs.length = ps.length)
    (hbody : ∀ (cdv : Value) (A : Around) (outer : List Env) (s : Shared) (H : Hp) (vs : List V) (Q : VK) (E : XK), Room k (A.deeper (envOfC x (defScope st) s.heap.objs.size f cdv)) → (A.deeper (envOfC x (defScope st) s.heap.objs.size f cdv)).guards = some [] → sp vs H Q E →
      ∃ t, PSs (cxOf CX0 P w K mg base N x (defScope st) f cdv A outer s H E).nox (defBody st) t ∧ t { nx := fun _ H' => Q .non H', rt := Q } (start N vs) H) : FnOkG P w K mg base CX0 (k + 1) f fd ps sp :=
  fn_okG F S len fun cdv A outer s H vs Q E hr hgd h => by
    obtain ⟨t, h1, h2⟩ := hbody cdv A outer s H vs Q E hr hgd h
    exact ⟨t, h1.nox, h2⟩
theorem def_okG0 {x : Str} {st : Stmt} {N ps : List Str} {sp : Sp} (D : Def K mg x st) (S : FnScope N ps (defScope st)) (len : ∀ vs H Q E, sp vs H Q E → vs.length = ps.length)
    (hbind : ∀ (kV doc pm : Value) (an : Option Addr) (cdv ct : Value) (us : List Value), us.length = ps.length → bindArgs (PySem.W.fnOf x x (defArgs st) (defBody st) (defScope st) .none kV doc pm an cdv ct) ⟨us, []⟩ = pure (ps.zip us))
    (hbody : ∀ (f : Addr) (cdv : Value) (A : Around) (outer : List Env) (s : Shared) (H : Hp) (vs : List V) (Q : VK) (E : XK), Room k (A.deeper (envOfC x (defScope st) s.heap.objs.size f cdv)) → (A.deeper (envOfC x (defScope st) s.heap.objs.size f cdv)).guards = some [] → sp vs H Q E →
      ∃ t, PSs (cxOf CX0 P w K mg base N x (defScope st) f cdv A outer s H E).nox (defBody st) t ∧ t { nx := fun _ H' => Q .non H', rt := Q } (start N vs) H) : CallOkG P w K mg base CX0 (k + 1) x ps sp := by
  obtain ⟨f, fd, F, g⟩ := D
  exact ⟨⟨f, fd, fn_okG0 F S len (fun cdv A outer s H vs Q E hr hgd h => hbody f cdv A outer s H vs Q E hr hgd h), g, F.kp, F.bindsN hbind⟩⟩
end
section
variable {X : Cx} {CX : CXT} {k : Nat} {x : Str} {ps : List Str} {sp : Sp} {E : XK} {p pos : Pos} {e : Expr} {es : List Expr} {t : TA}
theorem pe_ownG (C : CallOkG X.prog X.w X.K X.mg X.base CX k x ps sp) (hgd : X.A.guards = some []) (hr : Room k X.A) (hg : Gl X x) (hx : Passes CX X E) (ha : PA X (e :: es) t)
    (hdb : (x == ("__debug__" : Str)) = false := by decide) (he : starEach (e :: es) X.env = (false, eval e X.env) :: starEach es X.env := by rfl) (hpl : (backTo pos (starEach es X.env)).any (·.1) = false := by rfl) :
    PE X (.Call (.Name x p) (e :: es) [] pos) (tCall sp [] E t) := by
  obtain ⟨f, fd, F, hm, hk, hb⟩ := C.ex
  refine ⟨fun pins s σ H Q I h => wpAny_Call_Name_kw (ld_glob I hg hm ?_ hdb)⟩
  refine PySem.W.callWith_K (h₀ := X.base) I.ok.mod.kin hk (thn (ha.run pos pins s σ H _ I h) fun us s1 ⟨vs, H1, I1, r, q⟩ => ⟨I1.kIn, ?_⟩) he hpl
  have q' : sp vs H1 Q E := by
    have z : sp (vs ++ []) H1 Q E := q
    rw [List.append_nil] at z
    exact z
  have b' : BindsTo s1 fd ⟨us, []⟩ (ps.zip us) := by
    have z := hb s1 us I1.kIn (by rw [List.append_nil, ← r.length]; exact F.len _ _ _ _ q')
    rw [List.append_nil] at z
    exact z
  refine wpAny_call (codeAny_mono (F.run X.A X.stack s1 H1 ⟨us, []⟩ us vs Q E hr hgd I1.env0 b' r q') fun r s' hq => ?_)
  cases r with
  | error e => exact hx pins σ H1 s1 e s' I1 hq
  | ok fl =>
    cases fl with
    | ret u => exact I1.after hq
    | _ => exact False.elim hq
/-- repr of data -/
def rReprD (K : PySem.W.Frag) : List V → Hp → VK → Prop := fun xs H Q => ∃ (a : Addr) (d : PyData), xs = [.ref a] ∧ Dp K H (.ref a) d ∧ d.showable = true ∧ d.hasDict = false ∧ d.depth ≤ 60 ∧ d.shown.length ≤ sizeLine ∧ Q (.str d.shown) H
theorem cReprD (hgd : X.A.guards = some []) (hu : X.A.units + 64 < cLine) : CallR X (.builtin "repr") (rReprD X.K) := by
  intro pins s σ H xs us Q I r h
  obtain ⟨a, d, rfl, hd, hs, hn, hdp, hz, q⟩ := h
  obtain ⟨u, rfl, ru⟩ := vals1 r
  cases (show u = Value.ref a from ru)
  obtain ⟨as, R⟩ := Dp.reads I d _ _ hd ru
  exact repr_of_reads' R hs (PyData.noDict_hsm hn) hgd (by omega) (fun _ _ e => e) (fun h' u tk k => ⟨.str d.shown, H, I.kept k, ⟨u, rfl⟩, q⟩) hz
end
/-! ### the law's end -/
theorem law_callG {P : Program} {w : World} {K : PySem.W.Frag} {mg mb : Str → Option Value} {k : Nat} {fa a : Addr} {fd : FuncData} {x : Str} {sp : Sp} {s₁ : Shared} {vs : List Value} {ns : List Int}
    (KX : K.In s₁.heap) (hns : s₁.heap.Ns mainGlobals mg) (hb : s₁.heap.Ns builtinsNs mb) (hbb : ∀ x : Str, x ≠ "__name__" → mb x = bootBuiltins x) (hlim : s₁.heap.NoLimit) (hg : s₁.gens = #[])
    (ha : s₁.heap.get? a = some { cls := .type "list", data := .seq vs.toArray }) (hi : IntsAre vs ns) (hl : ns.length ≤ sizeLine) (hr : Room k callerA)
    (F : ∀ base : Heap, K.In base → base.Ns mainGlobals mg → FnOkG P w K mg base CX0 k fa fd [x] sp) (hbind : ∀ (s : Shared) (u : Value), BindsTo s fd ⟨[u], []⟩ [(x, u)])
    (hsp : ∀ H : Hp, SqL K H a (ns.map V.int) → sp [.ref a] H (fun v _ => v = .bl true) fun _ _ _ => False) :
    codeAny (model P w) callerA (.call (.ref fa) ⟨[.ref a], []⟩) (fun r s' => r = .ok (.ret (.bool true)) ∧ OldK s₁.heap s'.heap ∧ s'.os = s₁.os ∧ AllBare s'.gens) s₁ := by
  have rv : Vals (ns.map V.int) vs := vals_of_ints hi
  -- at a heap of which the script alone may be tracked
  have core : ∀ H : Hp, (∀ b u, H b = some u → b = a ∧ ∃ o xs, u = .frz o (.lst xs)) → SqL K H a (ns.map V.int) → HOk P w H s₁.heap → (H a = none ∨ K.lookup a = none) →
      codeAny (model P w) callerA (.call (.ref fa) ⟨[.ref a], []⟩) (fun r s' => r = .ok (.ret (.bool true)) ∧ OldK s₁.heap s'.heap ∧ s'.os = s₁.os ∧ AllBare s'.gens) s₁ := by
    intro H hO hS hok hK
    have dict0 : ∀ {b : Addr} {o : Obj} {es : Array DictEntry} {ep : Nat}, s₁.heap.get? b = some o → o.data = .dict es ep → H b = none := fun {b o es ep} e d => by
      cases q : H b with
      | none => rfl
      | some u =>
        obtain ⟨rfl, _⟩ := hO b u q
        rw [ha] at e
        cases e
        exact absurd (show Data.seq vs.toArray _ = Data.dict es ep from d) (fun z => by cases z)
    have ns' : ∀ {b : Addr} {m : Str → Option Value}, s₁.heap.Ns b m → (hidT s₁.heap H).Ns b m := fun ⟨o, es, ep, e, d, r⟩ => ⟨o, es, ep, hidT_get e (dict0 e d), d, r⟩
    have K' : K.In (hidT s₁.heap H) := fun b o e => hidT_get (KX b o e) (by
      cases q : H b with
      | none => rfl
      | some u =>
        obtain ⟨rfl, _⟩ := hO b u q
        rcases hK with z | z
        · rw [q] at z
          cases z
        · rw [z] at e
          cases e)
    have lim' : (hidT s₁.heap H).NoLimit := by
      obtain ⟨mc, h1, h2⟩ := hlim
      exact ⟨mc, ns' h1, h2⟩
    have e0 : Env0 P w K mg (hidT s₁.heap H) callerA [] s₁ H := ⟨rfl, ⟨K', ns' hns, ⟨mb, ns' hb, hbb⟩, lim'⟩, fun _ _ e => of_hidT e, Nat.le_of_eq (hidT_size _ _), trivial, (fun b z => absurd z (by simp [frs])), hok, .of_eq hg⟩
    refine codeAny_mono ((F _ K' (ns' hns)).run callerA [] s₁ H ⟨[.ref a], []⟩ [.ref a] [.ref a] _ _ hr rfl e0 (hbind s₁ (.ref a)) (.cons rfl .nil) (hsp H hS)) fun r s' h => ?_
    cases r with
    | error e => exact False.elim h
    | ok fl =>
      cases fl with
      | ret u =>
        obtain ⟨v, H', os, bare, un, hok', rvu, q⟩ := h
        cases (show v = .bl true from q)
        cases (show u = Value.bool true from rvu)
        refine ⟨rfl, OldK.of_keep fun b o e => ?_, os, bare⟩
        cases q : H b with
        | none => exact un.keep b o e q (by simp [frs]) (by simp)
        | some u =>
          obtain ⟨rfl, ob, xs, rfl⟩ := hO b u q
          obtain ⟨e1, _⟩ := hok b _ q
          obtain ⟨e2, _⟩ := hok' b _ (un.frzs b ob _ q)
          exact e2.trans (e1.symm.trans e)
      | _ => exact False.elim h
  cases hk : K.lookup a with
  | some o =>
    have e := KX a o hk
    rw [ha] at e
    cases e
    exact core (fun _ => none) (fun b u z => by cases z) (.inr ⟨_, vs.toArray, _, hk, rfl, rfl, rfl, by rw [List.size_toArray, hi.length]; exact hl, by simpa using rv⟩) (fun b u z => by cases z) (.inl rfl)
  | none =>
    have at_ : ∀ b u, (if b = a then some (HO.frz { cls := .type "list", data := .seq vs.toArray } (.lst (ns.map V.int))) else none) = some u → b = a ∧ u = HO.frz { cls := .type "list", data := .seq vs.toArray } (.lst (ns.map V.int)) := fun b u z => by
      by_cases hba : b = a
      · rw [if_pos hba] at z
        exact ⟨hba, (Option.some.inj z).symm⟩
      · rw [if_neg hba] at z
        cases z
    refine core (fun b => if b = a then some (.frz { cls := .type "list", data := .seq vs.toArray } (.lst (ns.map V.int))) else none) (fun b u z => ⟨(at_ b u z).1, _, _, (at_ b u z).2⟩) (.inl (.inr ⟨_, if_pos rfl⟩)) (fun b u z => ?_) (.inr hk)
    obtain ⟨rfl, rfl⟩ := at_ b u z
    exact ⟨ha, by rw [List.length_map]; exact hl, vs, _, rv, ha⟩
theorem walk_G {l : PySem.W.OpenLaw} {n k : Nat} {q : Program} {loose : List Str} {XP : (Str → Option Value) → Heap → Prop} {YP : World → Heap → Prop} {d : DefRec} {x : Str}
    (hn : l.most = some n) (hn2 : n ≤ sizeLine) (hdf : d.params.defaults = []) (hr : Room k callerA)
    (F : ∀ (w : World) (mg : Str → Option Value) (fa : Addr) (h : Heap), YP w h → h.Ns mainGlobals mg → mg d.name = some (.ref fa) →
      ∃ (K : PySem.W.Frag) (fd : FuncData) (sp : Sp), K.In h ∧ (∀ (s : Shared) (u : Value), BindsTo s fd ⟨[u], []⟩ [(x, u)]) ∧
        (∀ (H : Hp) (a : Addr) (ns : List Int), ns.length ≤ n → SqL K H a (ns.map V.int) → sp [.ref a] H (fun v _ => v = .bl true) fun _ _ _ => False) ∧
        ∀ base : Heap, K.In base → base.Ns mainGlobals mg → FnOkG l.prog w K mg base CX0 k fa fd [x] sp) :
    PySem.W.WalkO q loose XP YP l.row.toRowW d [] (fun f vs => PySem.call f vs) := by
  refine Att.attach_call hn hdf fun w s₀ s₁ mg mb fa o pm cd doc a vs ns G Y ho hd hcd hmg hobj hints hlen hg => ?_
  obtain ⟨K, fd, sp, KX, hb, hsp, hF⟩ := F w mg fa _ Y G.T.g hmg
  exact law_callG KX G.T.g G.T.b G.T.builtins G.T.nolimit hg hobj hints (Nat.le_trans hlen hn2) hr hF hb fun H hS => hsp H a ns hlen hS
end Z

set_option Elab.async false
set_option linter.all false
set_option maxRecDepth 100000
set_option maxHeartbeats 4000000
namespace Z
open PySem PySem.Spec L2
open PyProof.Rows hiding St
/-! ### powers of great numbers -/
def CPowW (i j : Int) : Prop := 0 ≤ j ∧ (Builtin.Int.intBits i : Int) * j ≤ 2 ^ 27
theorem powW_of {i j : Int} {b : Nat} (h0 : 0 ≤ j) (hb : i.natAbs < 2 ^ b) (h1 : 0 < b) (h : ((b : Int) + 1) * j ≤ 2 ^ 27) : CPowW i j := by
  refine ⟨h0, Int.le_trans (Int.mul_le_mul_of_nonneg_right ?_ h0) h⟩
  have q := PySem.Flt.log2_lt_of h1 hb
  unfold Builtin.Int.intBits
  split <;> omega
section
variable {X : Cx}
theorem op_powW : OpR X (binaryOp .Pow) (rI CPowW fun i j => .int (i ^ j.toNat)) := opI fun _ _ _ _ _ _ _ hc q => pow_int hc.1 hc.2 q
/-! ### max of a tuple of whole numbers -/
def rMaxT (K : PySem.W.Frag) : List V → Hp → VK → Prop := fun xs H Q => ∃ (a : Addr) (n : Int) (ns : List Int), xs = [.ref a] ∧ SqT K H a ((n :: ns).map V.int) ∧ ∀ m, m ∈ n :: ns → Q (.int m) H
end
/-! ### == and != of own instances -/
def rEqO (K : PySem.W.Frag) (C : Addr) (sp : Sp) : R2 := fun x y H Q => ∃ (a dx : Addr) (fs : List (Str × V)) (t : Value), x = .ref a ∧ H a = some (.ins C dx fs) ∧ TyX K H y t ∧ PySem.W.notFirst K C t = true ∧ sp [.ref a, y] H (fun v H' => ∃ b, v = .bl b ∧ Q (.bl b) H') (fun _ _ _ => False)
def rNeO (C : Addr) (sp : Sp) : R2 := fun x y H Q => ∃ (a b dx dy : Addr) (fs gs : List (Str × V)), x = .ref a ∧ y = .ref b ∧ H a = some (.ins C dx fs) ∧ H b = some (.ins C dy gs) ∧ sp [.ref a, .ref b] H (fun v H' => ∃ b, v = .bl b ∧ Q (.bl (!b)) H') (fun _ _ _ => False)
/-- the class's own ==, no != of its own, no other base -/
def neB (K : PySem.W.Frag) (C f : Addr) : Bool := match K.lookup C with
  | some ⟨.type "type", _, .cls cd, sl⟩ => (match cd.mro, sl.toList with
    | [.ref C', .type "object"], [_, _, _, _, some (.builtin n), _] => C' == C && (!cd.hasDel && (PySem.W.nsOkIn K cd.ns && (decide (PySem.W.nsIn K cd.ns "__eq__" = some (some (.ref f))) && decide (PySem.W.nsIn K cd.ns "__ne__" = some none))))
    | _, _ => false)
  | _ => false
theorem ns_some_of {K : PySem.W.Frag} {h : Heap} {N : Addr} {mg : Str → Option Value} {n : Str} {v : Value} (X : K.In h) (G : h.Ns N mg) (e : PySem.W.nsIn K N n = some (some v)) : mg n = some v := by
  obtain ⟨o, es, ep, ho, hd, _, hf⟩ := G
  unfold PySem.W.nsIn at e
  split at e
  · rename_i c d es' n' sl q
    have q2 := X _ _ q
    rw [ho] at q2
    cases q2
    cases hd
    split at e
    · rename_i en he
      cases e
      rw [← hf]
      unfold nsFind findBy
      rw [← Array.find?_toList, he]
      rfl
    · split at e <;> cases e
  · cases e
theorem ownNe_of {K : PySem.W.Frag} {h : Heap} {C f x dx : Addr} {od : Option Obj} {ox : Obj} (X : K.In h) (q : neB K C f = true) (hf : PySem.W.isFn K (.ref f) = true) (I : PySem.W.InstAt h x ox C od) : h.OwnEqNoNe x C f "object" [.type "object"] := by
  unfold neB at q
  split at q
  · rename_i dd cd sl ho
    split at q
    · rename_i C' k0 k1 k2 k3 n k5 hm hs
      simp only [Bool.and_eq_true, beq_iff_eq, Bool.not_eq_true', decide_eq_true_eq] at q
      obtain ⟨rfl, hdel, hok, heq, hne⟩ := q
      obtain ⟨nm, bs, mro, ns, qn, hd, sn, sub, ab, col, del⟩ := cd
      dsimp only at hm hdel hok heq hne
      subst hm hdel
      have hsl : sl = #[k0, k1, k2, k3, some (.builtin n), k5] := by
        obtain ⟨l⟩ := sl
        simp only at hs
        rw [hs]
      subst hsl
      have hfn : (K.lookup f).map (·.cls) = some (.type "function") := beq_iff_eq.mp hf
      obtain ⟨ofn, hlf, hcf⟩ := Option.map_eq_some_iff.mp hfn
      have G : h.Ns ns (h.nsMap ns) := .of_isNs (PySem.W.isNs_of_in X hok)
      exact ⟨ox, ofn, nm, qn, ns, bs, hd, sn, sub, ab, col, dd, k0, k1, k2, k3, k5, n, h.nsMap ns, _, I.1, I.2, X _ _ ho, G, ns_some_of X G heq, X _ _ hlf, hcf, F.cmp_object.mro, F.cmp_object.eq.lookup, PySem.W.ns_none_of X G hne⟩
    · cases q
  · cases q
section
variable {X : Cx} {C f : Addr} {k : Nat} {fd : FuncData} {ps : List Str} {sp : Sp}
theorem op_eqO (F : FnOk X.prog X.w X.K X.mg X.base CX0 k f fd ps sp) (hs : PySem.W.findIn X.K (.ref C) "__eq__" = some (some (.ref f))) (hf : PySem.W.isFn X.K (.ref f) = true) (hb : Binds X.K fd ps []) (hr : Room k X.A) : OpR X (compareOp .Eq) (rEqO X.K C sp) := by
  intro pins s σ H x y v u Q I rx ry hq
  obtain ⟨a, dx, fs, t, rfl, ha, ty, hn, q⟩ := hq
  cases rx
  obtain ⟨P, Z, p, _⟩ := kit_of I ry ty
  obtain ⟨mA, J, _⟩ := ins_get I.hok ha
  obtain ⟨od, J, _⟩ := J.look
  obtain ⟨m, hF⟩ := I.fr
  show wpAny (model X.prog X.w) X.A (richCompare .Eq (.ref a) u) (EP X pins σ Q) X.xe s
  refine PySem.W.cmp_K (op := .Eq) (tb := t) hr.units0 hF I.ok.mod.kin J (Z.ty _ _ I.kIn p) hn hs hf ?_
  refine wpAny_mono (run_fn (us := [.ref a, u]) (vs := [.ref a, y]) (E := fun _ _ _ => False) F hr hb .nil pass0 I (.cons rfl (.cons ry .nil)) (by rw [List.append_nil]; exact q)) (fun r s' h => ?_) fun _ _ z => z
  obtain ⟨z, H', I', rz, b, ez, q'⟩ := h
  subst ez
  cases rz
  exact ⟨.bl b, H', I', rfl, q'⟩
theorem op_neO (F : FnOk X.prog X.w X.K X.mg X.base CX0 k f fd ps sp) (q0 : neB X.K C f = true) (hf : PySem.W.isFn X.K (.ref f) = true) (hb : Binds X.K fd ps []) (hr : Room (k + 1) X.A) : OpR X (compareOp .NotEq) (rNeO C sp) := by
  intro pins s σ H x y v u Q I rx ry hq
  obtain ⟨a, b, dx, dy, fs, gs, rfl, rfl, ha, hb', q⟩ := hq
  cases rx
  cases ry
  obtain ⟨mA, J, _⟩ := ins_get I.hok ha
  obtain ⟨od, J, _⟩ := J.look
  obtain ⟨mB, J2, _⟩ := ins_get I.hok hb'
  obtain ⟨od2, J2, _⟩ := J2.look
  have W := ownNe_of (dx := dx) I.kIn q0 hf J
  have e0 : Env0 X.prog X.w X.K X.mg X.base X.A.in1 X.stack s H := I.env0.in1
  have bd : BindsTo s fd ⟨[.ref a, .ref b], []⟩ (ps.zip [.ref a, .ref b]) := by
    have z := hb s [.ref a, .ref b] I.kIn (by
      have l := F.len _ _ _ _ q
      rw [← l]
      rfl)
    rw [List.append_nil] at z
    exact z
  obtain ⟨h, g, d, t, os⟩ := s
  refine compareOp_ne_ownEq PySem.F.cmp_object W (oy := PySem.W.instObj C dy) J2.1 rfl (by have := hr.un; omega) ?_
  refine wpAny_call (codeAny_mono (F.run X.A.in1 X.stack _ H ⟨[.ref a, .ref b], []⟩ [.ref a, .ref b] [.ref a, .ref b] _ _ hr.in1 e0 bd (.cons rfl (.cons rfl .nil)) q) fun r s' hq => ?_)
  cases r with
  | error e => exact hq.elim
  | ok fl =>
    cases fl with
    | ret w =>
      obtain ⟨z, H', I', rz, c, ez, q'⟩ := I.after hq
      subst ez
      cases rz
      exact ⟨c, rfl, ⟨.bl (!c), H', I', rfl, q'⟩⟩
    | _ => exact False.elim hq
end
/-! ### properties -/
structure PropOk (P : Program) (w : World) (K : PySem.W.Frag) (mg : Str → Option Value) (base : Heap) (k : Nat) (C : Addr) (f : Str) (sp : Sp) : Prop where
  ex : ∃ (p g : Addr) (fd : FuncData), PropOf K C f p g ∧ FnOk P w K mg base CX0 k g fd ["self"] sp ∧ Binds K fd ["self"] []
theorem pe_propO {X : Cx} {k : Nat} {C : Addr} {f : Str} {sp : Sp} {e : Expr} {pos : Pos} {ta : TE} (Po : PropOk X.prog X.w X.K X.mg X.base k C f sp) (c : Cls X.K C) (hr : Room (k + 1) X.A) (he : PE X e ta) (hab : attributeBase e f X.env (eval e X.env) = eval e X.env := by rfl) :
    PE X (.Attribute e f pos) (tProp C sp [] E0 ta) := by
  obtain ⟨p, g, fd, hp, F, hb⟩ := Po.ex
  exact pe_prop he c hp F hr hb .nil pass0 hab
/-- a property of the class whose getter gives an attribute -/
def propB (K : PySem.W.Frag) (C : Addr) (f : Str) (g : Addr) : Bool := match PySem.W.findIn K (.ref C) f with
  | some (some (.ref p)) => decide (PySem.W.specialIn K (.ref p) "__get__" = some (some (.builtin "property.__get__"))) && (decide (PySem.W.takesIn K (.ref p) = some true) && (match PySem.W.recIn K p "property" with
    | some (.ref g' :: _) => decide (g' = g)
    | _ => false))
  | _ => false
theorem propB_ok {K : PySem.W.Frag} {C : Addr} {f : Str} {g : Addr} (h : propB K C f g = true) : ∃ p, PropOf K C f p g := by
  unfold propB at h
  split at h
  · rename_i p e
    obtain ⟨h1, h⟩ := He.ba h
    obtain ⟨h2, h3⟩ := He.ba h
    split at h3
    · rename_i g' r e2
      have eg := of_decide_eq_true h3
      subst eg
      exact ⟨p, e, of_decide_eq_true h1, of_decide_eq_true h2, _, e2⟩
    · cases h3
  · cases h
/-- where a property's getter stands -/
def getterAt (K : PySem.W.Frag) (C : Addr) (f : Str) : Addr := match PySem.W.findIn K (.ref C) f with
  | some (some (.ref p)) => (match PySem.W.recIn K p "property" with
    | some (.ref g :: _) => g
    | _ => 0)
  | _ => 0
end Z

set_option Elab.async false
set_option linter.all false
set_option maxRecDepth 100000
set_option maxHeartbeats 4000000
namespace Z
open PySem PySem.Spec L2
open PyProof.Rows hiding St
/-! ### the head's facts, the getters of properties too -/
abbrev GW : Type := Option (Str × Str × Arguments × FuncBody × Scope × Addr × List (Str × Addr) × Value × Addr)
def gW (K : PySem.W.Frag) (a : Addr) : GW := match K.lookup a with
  | some ⟨_, _, .func fd, _⟩ => some (fd.name, fd.qualname, fd.params, fd.body, fd.scope, fd.globals, fd.closure, fd.defaults, fd.builtins)
  | _ => none
structure GetD where
  cls : Str
  prop : Str
  qual : Str
  st : Stmt
def GetD.at_ (d : GetD) (K : PySem.W.Frag) : Addr := getterAt K (He.ga K d.cls) d.prop
def GetD.val (d : GetD) : GW := some (d.prop, d.qual, defArgs d.st, .stmts (defBody d.st), defScope d.st, mainGlobals, [], .none, builtinsNs)
def GetD.ok (d : GetD) (K : PySem.W.Frag) : Bool := propB K (He.ga K d.cls) d.prop (d.at_ K) && (match K.lookup (d.at_ K) with
  | some ⟨_, _, .func fd, _⟩ => PySem.W.codeIn K fd.code d.qual
  | _ => false)
abbrev AlG : Type := He.AlX × (Bool × List GW)
def obsG (n : Nat) (fa : List He.Fa) (fn : List He.DefD) (gs : List GetD) (ex : PySem.W.Frag → Bool) (g : Addr → Option Obj) : AlG :=
  (He.obsX n fa fn [] [] ex g, (gs.all fun d => d.ok (He.frT g (He.asD g n)), gs.map fun d => gW (He.frT g (He.asD g n)) (d.at_ (He.frT g (He.asD g n)))))
def valG (fn : List He.DefD) (gs : List GetD) (w : World) : AlG := (He.valX fn [] w, (true, gs.map GetD.val))
structure SaysG (fa : List He.Fa) (fn : List He.DefD) (gs : List GetD) (ex : PySem.W.Frag → Bool) (w : World) (h : Heap) (K : PySem.W.Frag) : Prop where
  x : He.SaysX fa fn [] [] ex w h K
  okG : (gs.all fun d => d.ok K) = true
  eqG : (gs.map fun d => gW K (d.at_ K)) = gs.map GetD.val
def hookG (n : Nat) (fa : List He.Fa) (fn : List He.DefD) (gs : List GetD) (ex : PySem.W.Frag → Bool) : PySem.W.Hook where
  α := AlG
  obs := fun s => obsG n fa fn gs ex s.heap.get?
  val := fun w => valG fn gs w
  says := fun w h => ∃ K : PySem.W.Frag, K.In h ∧ SaysG fa fn gs ex w h K
  of := fun _ _ e => ⟨_, He.frT_in, He.saysX_of (congrArg (fun z : AlG => z.1) e), congrArg (fun z : AlG => z.2.1) e, congrArg (fun z : AlG => z.2.2) e⟩
  keeps := fun _ _ _ ⟨K, hK, c⟩ k => ⟨K, PySem.W.Frag.In.keeps hK k, ⟨⟨c.x.t, c.x.more, c.x.hd, c.x.out, fun p hp => nomatch hp⟩, c.okG, c.eqG⟩⟩
theorem obsG_eq {n : Nat} {fa : List He.Fa} {fn : List He.DefD} {gs : List GetD} {ex : PySem.W.Frag → Bool} {g : Addr → Option Obj} {s : Shared} (h : ∀ a, g a = s.heap.get? a) : obsG n fa fn gs ex g = (hookG n fa fn gs ex).obs s := by
  have e : g = s.heap.get? := funext h
  rw [e] <;> rfl
theorem SaysG.get {fa : List He.Fa} {fn : List He.DefD} {gs : List GetD} {ex : PySem.W.Frag → Bool} {w : World} {h : Heap} {K : PySem.W.Frag} (c : SaysG fa fn gs ex w h K) (i : Nat) {d : GetD} (e : gs[i]? = some d := by rfl) :
    (∃ p, PropOf K (He.ga K d.cls) d.prop p (d.at_ K)) ∧ ∃ oc od osl kV doc pm an cdv ct, K.lookup (d.at_ K) = some ⟨oc, od, .func (PySem.W.fnOf d.prop d.qual (defArgs d.st) (defBody d.st) (defScope d.st) .none kV doc pm an cdv ct), osl⟩ ∧ PySem.W.codeIn K cdv d.qual = true := by
  obtain ⟨c1, c2⟩ := He.ba (List.all_eq_true.mp c.okG d (List.mem_of_getElem? e))
  refine ⟨propB_ok c1, ?_⟩
  have e2 : (gs.map fun d => gW K (d.at_ K))[i]? = (gs.map GetD.val)[i]? := by rw [c.eqG]
  rw [List.getElem?_map, List.getElem?_map, e] at e2
  have e3 : gW K (d.at_ K) = d.val := Option.some.inj e2
  unfold gW at e3
  cases q : K.lookup (d.at_ K) with
  | none =>
    rw [q] at c2
    cases c2
  | some o =>
    obtain ⟨oc, od, dt, osl⟩ := o
    rw [q] at c2 e3
    cases dt with
    | func fd =>
      obtain ⟨n1, n2, n3, n4, n5, n6, n7, n8, n9, n10, n11, n12, n13, n14, n15⟩ := fd
      have e4 : (some (n1, n2, n3, n4, n5, n6, n7, n8, n15) : GW) = some (d.prop, d.qual, defArgs d.st, .stmts (defBody d.st), defScope d.st, mainGlobals, [], .none, builtinsNs) := e3
      simp only [Option.some.injEq, Prod.mk.injEq] at e4
      obtain ⟨h1, h2, h3, h4, h5, h6, h7, h8, h9⟩ := e4
      subst h1 h2 h3 h4 h5 h6 h7 h8 h9
      exact ⟨oc, od, osl, n9, n10, n11, n12, n13, n14, rfl, c2⟩
    | _ => cases c2
/-- a getter by its body -/
theorem prop_ok {P : Program} {w w2 : World} {K : PySem.W.Frag} {mg : Str → Option Value} {base h : Heap} {fa : List He.Fa} {fn : List He.DefD} {gs : List GetD} {ex : PySem.W.Frag → Bool} {k : Nat} {sp : Sp} (c : SaysG fa fn gs ex w h K) (i : Nat) {d : GetD} (e : gs[i]? = some d) (S : FnScope ["self"] ["self"] (defScope d.st))
    (len : ∀ vs H Q E, sp vs H Q E → vs.length = 1) (hbind : ∀ (kV doc pm : Value) (an : Option Addr) (cdv ct : Value) (us : List Value), us.length = (["self"] : List Str).length → bindArgs (PySem.W.fnOf d.prop d.qual (defArgs d.st) (defBody d.st) (defScope d.st) .none kV doc pm an cdv ct) ⟨us, []⟩ = pure ((["self"] : List Str).zip us))
    (hbody : ∀ (g : Addr) (cdv : Value) (A : Around) (outer : List Env) (s : Shared) (H : Hp) (vs : List V) (Q : VK) (E : XK), Room k (A.deeper (envOfC d.qual (defScope d.st) s.heap.objs.size g cdv)) → sp vs H Q E →
      ∃ t, PSs (cxOf CX0 P w2 K mg base ["self"] d.qual (defScope d.st) g cdv A outer s H E) (defBody d.st) t ∧ t { nx := fun _ H' => Q .non H', rt := Q } (start ["self"] vs) H) : PropOk P w2 K mg base (k + 1) (He.ga K d.cls) d.prop sp := by
  obtain ⟨⟨p, hp⟩, oc, od, osl, kV, doc, pm, an, cdv, ct, lk, hcd⟩ := c.get i e
  exact ⟨⟨p, _, _, hp, fn_of lk hcd S len (fun A outer s H vs Q E hr h => hbody _ cdv A outer s H vs Q E hr h), .all (hbind kV doc pm an cdv ct)⟩⟩
/-! ### methods of a class (its own ==, its __init__) -/
abbrev MtP (K : PySem.W.Frag) (C m qual : Str) (st : Stmt) (fd : FuncData) : Prop := FunD K m qual (defArgs st) (defBody st) (defScope st) [] [] (He.ma K (He.ga K C) m) fd
/-! ### readings of fields -/
section
variable {K : PySem.W.Frag} {σ : St} {H : Hp} {Q : VK} {i : Nat} {a C dx : Addr} {fs : List (Str × V)} {f : Str} {v : V}
theorem z_fld (e : σ[i]? = some (some (.ref a))) (h : H a = some (.ins C dx fs)) (c : Cls K C) (n : NoAttr K C f) (l : fs.lookup f = some v) (q : Q v H) : tFld K (tVar i) f σ H Q := ⟨_, e, a, C, dx, fs, v, rfl, h, c, n, l, q⟩
theorem z_prop {sp : Sp} {E : XK} (e : σ[i]? = some (some (.ref a))) (h : H a = some (.ins C dx fs)) (q : sp [.ref a] H Q E) : tProp C sp [] E (tVar i) σ H Q := ⟨_, e, a, dx, fs, rfl, h, q⟩
theorem z_make {sp : Sp} {E : XK} {t : TA} (h : t σ H fun vs H1 => ∀ x dx, H1 x = none → H1 dx = none → dx ≠ x → sp (.ref x :: (vs ++ [])) (upd (upd H1 dx (.own x)) x (.ins C dx [])) (fun v H2 => v = .non ∧ Q (.ref x) H2) E) : tMake C sp [] E t σ H Q := h
theorem z_sfld {tv : TE} {nx bk ct : St → Hp → Prop} {rt : VK} (h : tv σ H fun y H1 => ∃ v, σ[i]? = some (some v) ∧ ∃ a C dx fs, v = .ref a ∧ H1 a = some (.ins C dx fs) ∧ Cls K C ∧ NoAttr K C f ∧ fs.length < 1000 ∧ nx σ (upd H1 a (.ins C dx (putF f y fs)))) : sFld K (tVar i) tv f ⟨nx, rt, bk, ct⟩ σ H := h
end
/-! ### all but one place -/
def SameBut (b : Addr) (H H' : Hp) : Prop := ∀ c o, c ≠ b → H c = some o → H' c = some o
theorem SameBut.refl (b : Addr) (H : Hp) : SameBut b H H := fun _ _ _ h => h
theorem SameBut.trans {b : Addr} {H H1 H2 : Hp} (a : SameBut b H H1) (c : SameBut b H1 H2) : SameBut b H H2 := fun x o n h => c x o n (a x o n h)
theorem SameBut.same {b : Addr} {H H' : Hp} (s : Same H H') : SameBut b H H' := fun x o _ h => s x o h
theorem SameBut.upd {b : Addr} {H : Hp} {o : HO} : SameBut b H (L2.upd H b o) := fun x u n h => by rw [upd_ne n]; exact h
theorem SameBut.free {b : Addr} {H H' : Hp} (s : SameBut b H H') {l : Addr} (n : l ≠ b) (h : H' l = none) : H l = none := by
  cases q : H l with
  | none => rfl
  | some o =>
    rw [s l o n q] at h
    cases h
/-! ### lists and tuples of whole numbers compared -/
theorem eqvAll_ints : ∀ xs ys : List Int, PyData.eqvAll (xs.map PyData.int) (ys.map PyData.int) = decide (xs = ys)
  | [], [] => by simp [PyData.eqvAll]
  | [], _ :: _ => by simp [PyData.eqvAll]
  | _ :: _, [] => by simp [PyData.eqvAll]
  | x :: xs, y :: ys => by
    rw [List.map_cons, List.map_cons, PyData.eqvAll, eqvAll_ints xs ys]
    by_cases h : x = y
    · subst h
      simp [PyData.eqv]
    · simp [PyData.eqv, h]
theorem dat_ints (xs : List Int) : (xs.map V.int).map datV = xs.map PyData.int := by
  rw [List.map_map]
  rfl
theorem plain_ints (xs : List Int) : (xs.map V.int).all plainV = true := by
  rw [List.all_map]
  exact List.all_eq_true.mpr fun _ _ => rfl
theorem shaped_tup (vs : List V) : SeqAt.shaped (.tuple (vs.map datV)) = true := by
  obtain ⟨h3, h4⟩ := can_all vs
  have hd : (PyData.tuple (vs.map datV)).depth ≤ 64 := by
    rw [PyData.depth]
    omega
  unfold SeqAt.shaped
  rw [decide_eq_true hd, Bool.and_true]
  exact h3
theorem z_eqTI {K : PySem.W.Frag} {H : Hp} {Q : VK} {p q : Addr} {xs ys : List Int} (h1 : SqT K H p (xs.map V.int)) (h2 : SqT K H q (ys.map V.int)) (h : Q (.bl (decide (xs = ys))) H) : rEqD K (.ref p) (.ref q) H Q :=
  ⟨_, _, .tup h1 (dpAll_plain (plain_ints xs)), .tup h2 (dpAll_plain (plain_ints ys)), shaped_tup _, shaped_tup _, by
    have e : PyData.eqv (.tuple ((xs.map V.int).map datV)) (.tuple ((ys.map V.int).map datV)) = decide (xs = ys) := by rw [PyData.eqv, dat_ints, dat_ints, eqvAll_ints]
    rw [e]; exact h⟩
theorem z_neLI {K : PySem.W.Frag} {H : Hp} {Q : VK} {p q : Addr} {xs ys : List Int} (h1 : SqL K H p (xs.map V.int)) (h2 : SqL K H q (ys.map V.int)) (h : Q (.bl (!decide (xs = ys))) H) : rNeD K (.ref p) (.ref q) H Q :=
  ⟨_, _, dp_lst h1 (plain_ints xs), dp_lst h2 (plain_ints ys), shaped_list _, shaped_list _, by
    have e : PyData.eqv (.list ((xs.map V.int).map datV)) (.list ((ys.map V.int).map datV)) = decide (xs = ys) := by rw [PyData.eqv, dat_ints, dat_ints, eqvAll_ints]
    rw [e]; exact h⟩
theorem z_eqLI {K : PySem.W.Frag} {H : Hp} {Q : VK} {p q : Addr} {xs ys : List Int} (h1 : SqL K H p (xs.map V.int)) (h2 : SqL K H q (ys.map V.int)) (h : Q (.bl (decide (xs = ys))) H) : rEqD K (.ref p) (.ref q) H Q :=
  ⟨_, _, dp_lst h1 (plain_ints xs), dp_lst h2 (plain_ints ys), shaped_list _, shaped_list _, by
    have e : PyData.eqv (.list ((xs.map V.int).map datV)) (.list ((ys.map V.int).map datV)) = decide (xs = ys) := by rw [PyData.eqv, dat_ints, dat_ints, eqvAll_ints]
    rw [e]; exact h⟩
/-! ### repr of a list of whole numbers -/
theorem shown_len : ∀ ns : List Int, (∀ n ∈ ns, n.natAbs.log2 < 1000) → PyData.showableAll (ns.map PyData.int) = true ∧ PyData.hasDictAll (ns.map PyData.int) = false ∧ PyData.depthAll (ns.map PyData.int) ≤ 0
  | [], _ => by simp [PyData.showableAll, PyData.hasDictAll, PyData.depthAll]
  | n :: ns, h => by
    obtain ⟨h1, h2, h3⟩ := shown_len ns fun m hm => h m (List.mem_cons_of_mem _ hm)
    have hn : n.natAbs.log2 < 1920 := Nat.lt_trans (h n List.mem_cons_self) (by decide)
    refine ⟨by simp [PyData.showableAll, PyData.showable, h1, hn], by simp [PyData.hasDictAll, PyData.hasDict, h2], ?_⟩
    rw [List.map_cons, PyData.depthAll, PyData.depth]
    omega
theorem z_reprLI {K : PySem.W.Frag} {H : Hp} {Q : VK} {p : Addr} {ns : List Int} (h : SqL K H p (ns.map V.int)) (hn : ∀ n ∈ ns, n.natAbs.log2 < 1000) (hz : (PyData.list (ns.map PyData.int)).shown.length ≤ sizeLine) (q : Q (.str (PyData.list (ns.map PyData.int)).shown) H) : rReprD K [.ref p] H Q := by
  obtain ⟨h1, h2, h3⟩ := shown_len ns hn
  refine ⟨p, .list (ns.map PyData.int), rfl, ?_, by rw [PyData.showable]; exact h1, by rw [PyData.hasDict]; exact h2, by rw [PyData.depth]; omega, hz, q⟩
  have d := dp_lst h (plain_ints ns)
  rw [dat_ints] at d
  exact d
end Z

set_option Elab.async false
set_option linter.all false
set_option maxRecDepth 100000
set_option maxHeartbeats 4000000
namespace Z
open PySem PySem.Spec L2
open PyProof.Rows hiding St
/-! ### max of a tuple of whole numbers -/
theorem maxOf_ge : ∀ (xs : List Int) (x : Int), x ≤ PySem.W.maxOf x xs ∧ ∀ y ∈ xs, y ≤ PySem.W.maxOf x xs
  | [], x => ⟨Int.le_refl _, fun _ h => nomatch h⟩
  | z :: zs, x => by
    have e : PySem.W.maxOf x (z :: zs) = PySem.W.maxOf (if PySem.W.DatumOrd.lt x z = true then z else x) zs := rfl
    have e2 : (PySem.W.DatumOrd.lt x z) = decide (x < z) := rfl
    rw [e, e2]
    obtain ⟨h1, h2⟩ := maxOf_ge zs (if decide (x < z) = true then z else x)
    by_cases c : x < z
    · simp only [c, decide_true, if_true] at h1 h2 ⊢
      refine ⟨by omega, fun y hy => ?_⟩
      cases hy with
      | head => exact h1
      | tail _ h => exact h2 y h
    · simp only [c, decide_false, Bool.false_eq_true, if_false] at h1 h2 ⊢
      refine ⟨h1, fun y hy => ?_⟩
      cases hy with
      | head => omega
      | tail _ h => exact h2 y h
theorem hold_ints {h : Heap} : ∀ {ns : List Int} {us : List Value}, Vals (ns.map V.int) us → PySem.W.HoldAll h us ns
  | [], _, .nil => PySem.W.HoldAll.nil
  | n :: ns, _, .cons r rs => by
    obtain ⟨t, rfl⟩ := r
    exact PySem.W.HoldAll.cons ⟨_, .int n t⟩ (hold_ints rs)
def rMaxTI (K : PySem.W.Frag) : List V → Hp → VK → Prop := fun xs H Q => ∃ (a : Addr) (n : Int) (ns : List Int), xs = [.ref a] ∧ SqT K H a ((n :: ns).map V.int) ∧ ∀ m, (∀ y, y ∈ n :: ns → y ≤ m) → Q (.int m) H
theorem cMaxT {X : Cx} (hc : X.calm = true) (hu : X.A.units + 64 < cLine) : CallR X (.builtin "max") (rMaxTI X.K) := by
  intro pins s σ H vs us Q I r h
  obtain ⟨a, n, ns, rfl, hs, q⟩ := h
  obtain ⟨its, rv, ht, _⟩ := I.tuple hs
  rw [Vals.ref1 r]
  refine PySem.W.max_tuple_datum (I.ok.hd hc) ht (hold_ints (ns := n :: ns) (by simpa using rv)) (by show X.A.units + 1 + 0 < cLine; omega) fun i v h' tk _ hv hk => ?_
  obtain ⟨as, rd⟩ := hv
  generalize he : PySem.W.Datum.toD (PySem.W.maxOf n ns) = d at rd
  have he2 : PyData.int (PySem.W.maxOf n ns) = d := he
  subst he2
  cases rd with
  | int _ t =>
    refine ⟨.int _, H, I.kept hk, ⟨_, rfl⟩, q _ fun y hy => ?_⟩
    obtain ⟨h1, h2⟩ := maxOf_ge ns n
    cases hy with
    | head => exact h1
    | tail _ hy => exact h2 y hy
/-! ### own instances' kinds -/
def insB (K : PySem.W.Frag) (C : Addr) : Bool := decide (PySem.W.findIn K (.ref C) "__class__" = some (some (.builtin "object.__class__"))) && (decide (PySem.W.specialIn K (.builtin "object.__class__") "__get__" = some (some (.builtin "getset_descriptor.__get__"))) &&
  (decide (PySem.W.takesIn K (.builtin "object.__class__") = some true) && decide (PySem.W.mroIn K C (.type "object") = some true)))
theorem insB_ok {K : PySem.W.Frag} {C : Addr} (h : insB K C = true) (cl : Cls K C) {H : Hp} {a dx : Addr} {fs : List (Str × V)} (e : H a = some (.ins C dx fs)) : TyX K H (.ref a) (.ref C) := by
  obtain ⟨h1, h⟩ := He.ba h
  obtain ⟨h2, h⟩ := He.ba h
  obtain ⟨h3, h4⟩ := He.ba h
  exact .base (.ins e cl (of_decide_eq_true h1) (of_decide_eq_true h2) (of_decide_eq_true h3) (of_decide_eq_true h4))
/-- a kind that is not the class's -/
def offB (K : PySem.W.Frag) (C : Addr) (t : Value) : Bool := PySem.W.notFirst K C t && decide (PySem.W.kitOne K t (.ref C) = some false)
def onB (K : PySem.W.Frag) (C : Addr) : Bool := PySem.W.notFirst K C (.ref C) && decide (PySem.W.kitOne K (.ref C) (.ref C) = some true)
theorem z_isi {K : PySem.W.Frag} {H : Hp} {Q : VK} {x c : V} {t u : Value} {b : Bool} (k : ClsV c u) (ty : TyX K H x t) (e : PySem.W.kitOne K t u = some b) (q : Q (.bl b) H) : rIsi K [x, c] H Q := ⟨x, c, t, u, b, rfl, k, ty, e, q⟩
/-! ### own classes' calls -/
structure MakeOk (P : Program) (w : World) (K : PySem.W.Frag) (mg : Str → Option Value) (base : Heap) (k : Nat) (x : Str) (ps : List Str) (sp : Sp) : Prop where
  ex : ∃ (f : Addr) (fd : FuncData), Mk K (He.ga K x) f ∧ FnOk P w K mg base CX0 k f fd ps sp ∧ mg x = some (.ref (He.ga K x)) ∧ Binds K fd ps []
theorem pe_makeO {X : Cx} {k : Nat} {x : Str} {ps : List Str} {sp : Sp} {e : Expr} {es : List Expr} {t : TA} {p pos : Pos} (M : MakeOk X.prog X.w X.K X.mg X.base k x ps sp) (hr : Room (k + 1) X.A) (hg : Gl X x) (ha : PA X (e :: es) t)
    (hdb : (x == ("__debug__" : Str)) = false := by decide) (he : starEach (e :: es) X.env = (false, eval e X.env) :: starEach es X.env := by rfl) (hpl : (backTo pos (starEach es X.env)).any (·.1) = false := by rfl) :
    PE X (.Call (.Name x p) (e :: es) [] pos) (tMake (He.ga X.K x) sp [] E0 t) := by
  obtain ⟨f, fd, M, F, hm, hb⟩ := M.ex
  exact pe_make M F hr hg hm hb .nil pass0 ha hdb he hpl
/-- a class's own == -/
structure EqOk (P : Program) (w : World) (K : PySem.W.Frag) (mg : Str → Option Value) (base : Heap) (k : Nat) (C : Addr) (sp : Sp) : Prop where
  ex : ∃ (f : Addr) (fd : FuncData), FnOk P w K mg base CX0 k f fd ["self", "other"] sp ∧ PySem.W.findIn K (.ref C) "__eq__" = some (some (.ref f)) ∧ PySem.W.isFn K (.ref f) = true ∧ neB K C f = true ∧ Binds K fd ["self", "other"] []
section
variable {X : Cx} {C : Addr} {k : Nat} {sp : Sp}
theorem op_eqE (F : EqOk X.prog X.w X.K X.mg X.base k C sp) (hr : Room k X.A) : OpR X (compareOp .Eq) (rEqO X.K C sp) := by
  obtain ⟨f, fd, F, h1, h2, h3, h4⟩ := F.ex
  exact op_eqO F h1 h2 h4 hr
theorem op_eqK {K : PySem.W.Frag} (hK : X.K = K) (F : EqOk X.prog X.w K X.mg X.base k C sp) (hr : Room k X.A) : OpR X (compareOp .Eq) (rEqO K C sp) := by
  subst hK
  exact op_eqE F hr
theorem op_neE (F : EqOk X.prog X.w X.K X.mg X.base k C sp) (hr : Room (k + 1) X.A) : OpR X (compareOp .NotEq) (rNeO C sp) := by
  obtain ⟨f, fd, F, h1, h2, h3, h4⟩ := F.ex
  exact op_neO F h3 h2 h4 hr
end
theorem z_eqO {K : PySem.W.Frag} {C : Addr} {sp : Sp} {a dx : Addr} {fs : List (Str × V)} {y : V} {t : Value} {H : Hp} {Q : VK} (ha : H a = some (.ins C dx fs)) (ty : TyX K H y t) (n : PySem.W.notFirst K C t = true)
    (q : sp [.ref a, y] H (fun v H' => ∃ b, v = .bl b ∧ Q (.bl b) H') (fun _ _ _ => False)) : rEqO K C sp (.ref a) y H Q := ⟨a, dx, fs, t, rfl, ha, ty, n, q⟩
theorem z_neO {C : Addr} {sp : Sp} {a b dx dy : Addr} {fs gs : List (Str × V)} {H : Hp} {Q : VK} (ha : H a = some (.ins C dx fs)) (hb : H b = some (.ins C dy gs))
    (q : sp [.ref a, .ref b] H (fun v H' => ∃ b, v = .bl b ∧ Q (.bl (!b)) H') (fun _ _ _ => False)) : rNeO C sp (.ref a) (.ref b) H Q := ⟨a, b, dx, dy, fs, gs, rfl, rfl, ha, hb, q⟩
theorem shown_ints_len : ∀ ns : List Int, (∀ n ∈ ns, n.natAbs.log2 < 1000) → (((PyData.shownAll (ns.map PyData.int)).map (·.length)).sum ≤ 1001 * ns.length ∧ (PyData.shownAll (ns.map PyData.int)).length = ns.length)
  | [], _ => ⟨Nat.le_refl _, rfl⟩
  | n :: ns, h => by
    obtain ⟨h1, h2⟩ := shown_ints_len ns fun m hm => h m (List.mem_cons_of_mem _ hm)
    have h3 := int_text_length_le (k := 1000) (by decide) (h n List.mem_cons_self)
    have h4 : (Str.ofString (toString n)).length ≤ 1001 := by
      rw [PySem.ofString_length]
      exact h3
    constructor
    · show ((Str.ofString (toString n)).length :: (PyData.shownAll (ns.map PyData.int)).map (·.length)).sum ≤ 1001 * (ns.length + 1)
      rw [List.sum_cons]
      omega
    · show (PyData.shownAll (ns.map PyData.int)).length + 1 = ns.length + 1
      omega
theorem shown_list_fits {ns : List Int} (h : ∀ n ∈ ns, n.natAbs.log2 < 1000) (hl : ns.length ≤ 1000) : (PyData.list (ns.map PyData.int)).shown.length ≤ sizeLine := by
  obtain ⟨h1, h2⟩ := shown_ints_len ns h
  have h3 := listText_len_le (PyData.shownAll (ns.map PyData.int))
  have e : (PyData.list (ns.map PyData.int)).shown = listText (PyData.shownAll (ns.map PyData.int)) := by
    rw [PyData.shown]
  rw [e]
  have hs : sizeLine = 16777216 := sizeLine_eq
  omega
section
variable {K : PySem.W.Frag} {tl : TE} {wi : TI} {g : TG} {tt : TT} {te : TE} {vs : List Nat} {σ : St} {H : Hp} {Q : VK} {R : It → Hp → Prop}
theorem z_iTup (h : tl σ H fun x H1 => ∃ a, x = .ref a ∧ (∃ xs, SqT K H1 a xs) ∧ R (Itt K a) H1) : iTup K tl σ H R := h
theorem z_iList (h : tl σ H fun x H1 => ∃ a, x = .ref a ∧ (∃ xs, SqL K H1 a xs) ∧ R (Itl K a) H1) : iList K tl σ H R := h
theorem z_for {tb : TS} {D : Ends} (h : wi σ H fun J H1 => ∃ W : Nat → Nat → St → Hp → Prop, (∃ m, W 0 m σ H1) ∧ ∀ i m σ H, W i m σ H →
  (J.stop i H ∧ D.nx σ H) ∨ (J.go i H ∧ ∃ N : St → Hp → Prop, (∀ σ' H', N σ' H' → ∃ m', m' < m ∧ W (i + 1) m' σ' H') ∧ ∀ x H', J.yld i H x H' → g x σ H' fun σ2 H2 => tb { D with nx := N, ct := N, bk := D.nx } σ2 H2)) : tFor wi g tb D σ H := h
theorem z_lc (h : wi σ H fun J H1 => ∀ D, H1 D = none → ∃ W : Nat → Nat → Hp → Prop, (∃ m, W 0 m (upd H1 D (.lst []))) ∧ ∀ i m H, W i m H →
  (J.stop i H ∧ Q (.ref D) H) ∨ (J.go i H ∧ ∃ Nx : Hp → Prop, (∀ H', Nx H' → ∃ m', m' < m ∧ W (i + 1) m' H') ∧ ∀ x H', J.yld i H x H' → g x (wipe σ vs) H' fun σ2 H2 => wipe σ2 vs = wipe σ vs ∧ tt σ2 H2 fun b H3 =>
    if b = true then te σ2 H3 fun y H4 => ∃ acc, H4 D = some (.lst acc) ∧ acc.length < sizeLine ∧ Nx (upd H4 D (.lst (acc ++ [y]))) else Nx H3)) : tLc wi g tt te vs σ H Q := h
end
theorem z_iteNT {A B : Prop} (h : B) : if (!true) = true then A else B := iteF h
theorem z_iteNF {A B : Prop} (h : A) : if (!false) = true then A else B := iteT h
end Z

set_option Elab.async false
set_option linter.all false
set_option maxRecDepth 100000
set_option maxHeartbeats 4000000
namespace Z
open PySem PySem.Spec L2
open PyProof.Rows hiding St
/-! ### a caught exception that stays known behind its clause -/
/-- at a there is an exception, its class and its dict -/
def exz (a : Addr) (cls : Value) (d : Option Addr) : HO := .ext fun h => ∃ (o : Obj) (v : Array Value), h.get? a = some o ∧ Zc cls d o ∧ o.data = .fields v
theorem exz_ok {P : Program} {w : World} {H : Hp} {h : Heap} {a : Addr} {cls : Value} {d : Option Addr} {o : Obj} {v : Array Value} (e : h.get? a = some o) (z : Zc cls d o) (f : o.data = .fields v) : ObjOk P w H h a (exz a cls d) :=
  ⟨⟨o, v, e, z, f⟩, ⟨o, e⟩, fun _ _ ⟨o1, v1, e1, r⟩ k => ⟨o1, v1, k _ e1, r⟩⟩
/-- something new, not yet looked at, is looked at from now on -/
theorem inv_take {X : Cx} {pins : List (Addr × Obj)} {σ : St} {H : Hp} {s : Shared} {a : Addr} {u : HO} (I : Inv X pins σ H s) (na : H a = none) (nL : a ≠ X.env.locals) (nC : ∀ y c, X.env.cells.lookup y = some c → c ≠ a)
    (nP : ∀ p ∈ X.pn ++ pins, p.1 ≠ a) (n0 : X.s_0.heap.get? a = none) (ok : ObjOk X.prog X.w (upd H a u) s.heap a u) : Inv X pins σ (upd H a u) s := by
  have other : ∀ {b : Addr} {v : HO}, H b = some v → upd H a u b = some v := fun {b v} e => by
    rw [upd_ne (ne_of_none e na)]
    exact e
  have base : Un X.fs X.ex X.H_0 (upd H a u) X.s_0.heap s.heap := {
    keep := I.base.keep
    slot := I.base.slot
    free := fun b o e n x => by
      have ne : b ≠ a := fun q => by
        rw [q, n0] at e
        cases e
      rw [upd_ne ne]
      exact I.base.free b o e n x
    there := I.base.there
    tups := fun b xs e => other (I.base.tups b xs e)
    frzs := fun b o v e => other (I.base.frzs b o v e)
    tbls := fun b ps e => by
      obtain ⟨m, q⟩ := I.base.tbls b ps e
      exact ⟨m, other q⟩ }
  refine ⟨I.ok, I.os, I.bare, base, I.loc, I.cell, by rw [upd_ne nL.symm]; exact I.free, fun y c e => by rw [upd_ne (nC y c e)]; exact I.freeC y c e, fun p hp => ?_, fun b v e => ?_, I.len⟩
  · obtain ⟨q1, q2, q3⟩ := I.pin p hp
    exact ⟨q1, by rw [upd_ne (nP p hp)]; exact q2, q3⟩
  · by_cases eb : b = a
    · subst eb
      rw [upd_same] at e
      cases e
      exact ok
    · rw [upd_ne eb] at e
      exact (I.hok b v e).stay (fun _ _ _ z => z) (fun _ z => other z) fun _ _ z => other z
/-- what a clause that takes all there is asks of an exception; i: the slot of its name -/
def wK (K : PySem.W.Frag) (c : Value) (i : Nat) (ts : TS) (nx : St → Hp → Prop) : WX := fun cls d σ H => PySem.W.exmOne K cls c = some true ∧
  ∀ a, H a = none → ts { nx := fun τ G => nx (τ.set i none) (upd G a (exz a cls d)), rt := fun _ _ => False } (σ.set i (some (.ref a))) H
section
variable {X : Cx} {x n : Str} {c : Value} {i : Nat} {body suite : List Stmt} {b0 : Stmt} {q1 q2 q3 : Pos} {tb : WX → TS} {ts : TS}
theorem ps_tryK (hs : X.stack = X.env :: X.outer) (hf : X.env.frame = some X.env.locals) (hex : X.ex = []) (hN : X.N.Nodup) (hi : X.N[i]? = some n) (hl : X.env.kindOf n = some .local) (hc : Names X x c)
    (hb : ∀ (W : WX) (pn : List (Addr × Obj)) (xe : Value → Shared → Prop), Takes (X.tr pn xe) W → PSs (X.tr pn xe) body (tb W))
    (hsu : ∀ (a : Addr) (oe : Obj) (pn : List (Addr × Obj)), PSs (X.suite a ((a, oe) :: pn)) (b0 :: suite) ts) :
    PS X (.Try body [.ExceptHandler (some (.Name x q1)) (some n) (b0 :: suite) q2] [] [] q3) (fun D σ H => tb (wK X.K c i ts D.nx) D σ H) := by
  refine ⟨fun pins s σ H D I h => ?_⟩
  have fr : X.A.frames = some (X.env :: X.outer) := I.ok.frames.trans (congrArg some hs)
  refine wpAny_Try_except (wpAny_mono ((hb (wK X.K c i ts D.nx) (X.pn ++ pins) _ ?tk).run [] s σ H D (I.toTry _) h) ?fine fun _ _ z => z)
  case fine =>
    intro f s1 r
    match f, r with
    | .next, ⟨τ, G, J, q⟩ => exact wpAny_execs_nil ⟨τ, G, J.ofTry I.ok, q⟩
    | .brk, ⟨τ, G, J, q⟩ => exact ⟨τ, G, J.ofTry I.ok, q⟩
    | .cont, ⟨τ, G, J, q⟩ => exact ⟨τ, G, J.ofTry I.ok, q⟩
    | .ret u, ⟨v, τ, G, J, rv, q⟩ => exact ⟨v, τ, G, J.ofTry I.ok, rv, q⟩
  case tk =>
    rintro u t ⟨a, B, sI, p1, τ, G, cls, d, rfl, J0, nb, up, sky, na, os, ag, hm, hts⟩
    have J := J0.ofTry I.ok
    refine Sky.land (B := B) (Z := Zc cls d) (L := X.env.locals) Zc.steady fr hf (by have z := sky; rw [show (X.tr (X.pn ++ pins) _).stack = X.env :: X.outer from hs] at z; exact z) fun h3 fl up3 => ?_
    -- it is none of what was there
    obtain ⟨o3, v3, e3, z3, d3⟩ := fl.there
    have off : a ∉ frs (X.env :: X.outer) := fun m => by
      obtain ⟨_, o, e, z⟩ := fl.2.2.1.mem m
      rw [e3] at e
      cases e
      exact z _ d3
    have newI : sI.heap.get? a = none := by
      cases e : sI.heap.get? a with
      | none => rfl
      | some o =>
        have z := nb a o e (by show a ∉ frs X.stack; rw [hs]; exact off)
        rw [fl.2.1] at z
        cases z
    have new0 : X.s_0.heap.get? a = none := by
      cases e : X.s_0.heap.get? a with
      | none => rfl
      | some o =>
        obtain ⟨o', z⟩ := J.base.there a o e (by rw [hex]; exact List.not_mem_nil)
        rw [newI] at z
        cases z
    have nL : a ≠ X.env.locals := fun z => off (List.mem_filterMap.mpr ⟨X.env, List.mem_cons_self, hf.trans (congrArg some z.symm)⟩)
    have nF : a ∉ X.fs := fun m => by
      obtain ⟨e, me, q⟩ := List.mem_filterMap.mp m
      exact off (List.mem_filterMap.mpr ⟨e, List.mem_cons_of_mem _ me, q⟩)
    have nP : ∀ p ∈ X.pn ++ pins, p.1 ≠ a := fun p hp z => by
      have w := (J0.pin p (List.mem_append_left _ hp)).1
      rw [z, newI] at w
      cases w
    have nC : ∀ y k, X.env.cells.lookup y = some k → k ≠ a := fun y k e z => by
      obtain ⟨v, o, w, _⟩ := J.cell y k e
      rw [z, newI] at w
      cases w
    have J3 : Inv X pins τ G { t with heap := h3 } := J.landed nb fl.1 (up.trans up3) os ag
    have S3 := J3.suite e3 d3 na nL nF
    refine wpAny_handleBy_cons (codeAny_handlers_test ?_) (fun z => nomatch z)
    have name : ∀ {R : Value → Shared → Prop} {E : Value → Shared → Prop}, R c { t with heap := h3 } → wpAny (model X.prog X.w) (X.A.mark (some (.ref a))) (eval (.Name x q1) X.env) R E { t with heap := h3 } := fun {R E} r => by
      obtain ⟨hg, hd, ⟨m⟩ | ⟨m, v, ne⟩⟩ := hc
      · exact ld_glob (X := X.suite a ((a, o3) :: (X.pn ++ pins))) S3 hg (by assumption) r hd
      · exact ld_blt (X := X.suite a ((a, o3) :: (X.pn ++ pins))) S3 hg m v r ne hd
    have type : PySem.W.Looks (model X.prog X.w) h3 (typeOf (.ref a)) cls := fun _ _ _ _ k r => wpAny_typeOf_ref (k _ _ e3) (by rw [z3.1]; exact r)
    refine name ((PySem.W.exm_one J3.kIn type hm).here ?_)
    refine codeAny_handlers_suite_as (HandSPX.lands_againZ fl fun h4 fl4 up4 => ?_)
    obtain ⟨o4, v4, e4, z4, d4⟩ := fl4.there
    have S4 := (J.landed nb fl4.1 ((up.trans up3).trans up4) os ag : Inv X pins τ G { t with heap := h4 }).suite e4 d4 na nL nF
    refine store_ok (X := X.suite a ((a, o4) :: (X.pn ++ pins))) (v := .ref a) S4 hN hi (.inl hl) rfl (fun s5 S5 => ?_) (.inr hl)
    refine wpAny_mono ((hsu a o4 (X.pn ++ pins)).run [] s5 _ G _ S5 (hts a na)) (fun f s6 r => ?_) fun _ _ z => z.elim
    match f, r with
    | .next, ⟨τ6, G6, S6, q6⟩ =>
      obtain ⟨e6, n6, _⟩ := S6.pin (a, o4) (List.mem_append_left _ List.mem_cons_self)
      exact gone_ok (inv_take (S6.unsuite I.ok) n6 nL nC nP new0 (exz_ok e6 z4 d4)) hN hi hl fun s7 J7 => ⟨_, _, J7, q6⟩
    | .brk, ⟨_, _, _, z⟩ => exact z.elim
    | .cont, ⟨_, _, _, z⟩ => exact z.elim
    | .ret u, ⟨_, _, _, _, _, z⟩ => exact z.elim
end
end Z

set_option Elab.async false
set_option linter.all false
set_option maxRecDepth 100000
set_option maxHeartbeats 4000000
namespace Z
open PySem PySem.Spec L2
open PyProof.Rows hiding St
/-! ### what was caught: its class, its field -/
def Caught (H : Hp) (a C : Addr) : Option (Str × V) → Prop
  | none => H a = some (exz a (.ref C) none)
  | some q => ∃ dd, H a = some (exz a (.ref C) (some dd)) ∧ H dd = some (.xd [q])
theorem Caught.mono {H H' : Hp} {a C : Addr} {q : Option (Str × V)} (s : Same H H') (h : Caught H a C q) : Caught H' a C q := by
  cases q with
  | none => exact s _ _ h
  | some q =>
    obtain ⟨dd, h1, h2⟩ := h
    exact ⟨dd, s _ _ h1, s _ _ h2⟩
theorem caught_obj {P : Program} {w : World} {H : Hp} {h : Heap} {a : Addr} {cls : Value} {d : Option Addr} (hok : HOk P w H h) (e : H a = some (exz a cls d)) : ∃ (vs : Array Value) (sl : Array (Option Value)), h.get? a = some ⟨cls, d, .fields vs, sl⟩ := by
  obtain ⟨⟨⟨c, dd, dt, sl⟩, vs, ho, ⟨h1, h2⟩, h3⟩, _, _⟩ := hok a _ e
  dsimp only at h1 h2 h3
  subst h1 h2 h3
  exact ⟨vs, sl, ho⟩
theorem caught_inst {P : Program} {w : World} {H : Hp} {h : Heap} {a C : Addr} {q : Option (Str × V)} (hok : HOk P w H h) (e : Caught H a C q) : ∃ (ox : Obj) (od : Option Obj), PySem.W.InstAt h a ox C od := by
  cases q with
  | none =>
    obtain ⟨vs, sl, ho⟩ := caught_obj hok e
    exact ⟨_, none, ho, rfl, rfl, trivial⟩
  | some q =>
    obtain ⟨dd, e, ed⟩ := e
    obtain ⟨vs, sl, ho⟩ := caught_obj hok e
    obtain ⟨mA, hns, _⟩ := hok dd _ ed
    obtain ⟨od, hod, _⟩ := lookIn_ns hns
    exact ⟨_, some od, ho, rfl, rfl, hod⟩
def rIsC (K : PySem.W.Frag) : List V → Hp → VK → Prop := fun xs H Q => ∃ (a C : Addr) (f : Option (Str × V)) (c : V) (cv : Value) (b : Bool), xs = [.ref a, c] ∧ Caught H a C f ∧ ExcC K C ∧ ClsV c cv ∧ PySem.W.kitOne K (.ref C) cv = some b ∧ Q (.bl b) H
def tXfC (K : PySem.W.Frag) (f : Str) (te : TE) : TE := fun σ H Q => te σ H fun x H1 => ∃ (a C : Addr) (v : V), x = .ref a ∧ Caught H1 a C (some (f, v)) ∧ XfC K C ∧ PySem.W.findIn K (.ref C) f = some none ∧ Q v H1
section
variable {X : Cx}
theorem call_isC : CallR X (.builtin "isinstance") (rIsC X.K) := by
  intro pins s σ H xs us Q I r ⟨a, C, f, c, cv, b, ex, ea, T, k, e, q⟩
  subst ex
  obtain ⟨u1, u2, rfl, r1, r2⟩ := vals2 r
  cases (show u1 = Value.ref a from r1)
  cases k.eq r2
  obtain ⟨ox, od, J⟩ := caught_inst I.hok ea
  obtain ⟨cd, hc, _⟩ := PySem.W.any_some T.hd
  exact PySem.W.kia_one (PySem.W.kitx_exc (by rw [hc]; rfl) T.hg T.hk T.hs T.ha T.hn T.ht T.hm) I.kIn J e (fun z => nomatch z) fun tk => ⟨.bl b, H, I.tok tk, rfl, q⟩
theorem pe_xfC {e : Expr} {te : TE} {pos : Pos} {n : Str} (he : PE X e te) (hb : attributeBase e n X.env (eval e X.env) = eval e X.env := by rfl) : PE X (.Attribute e n pos) (tXfC X.K n te) := by
  refine ⟨fun pins s σ H Q I h => attr_of hb (thn (he.run pins s σ H _ I h) fun u s1 ⟨x, H1, I1, rx, a, C, v, ex, ⟨dd, ea, ed⟩, T, hno, q⟩ => ?_)⟩
  subst ex
  cases (show u = Value.ref a from rx)
  obtain ⟨vs, sl, ho⟩ := caught_obj I1.hok ea
  obtain ⟨mA, hns, hr⟩ := I1.hok dd _ ed
  obtain ⟨od, hod, hl⟩ := lookIn_ns hns
  obtain ⟨u2, hu, ru⟩ := RelO.some_of (v := v) (o := mA n) (by have z := hr n; rw [show List.lookup n [(n, v)] = some v from by simp [List.lookup]] at z; exact z)
  have J : PySem.W.InstAt s1.heap a ⟨.ref C, some dd, .fields vs, sl⟩ C (some od) := ⟨ho, rfl, rfl, hod⟩
  exact HandSPX.exc_get I1.kIn J T.ga T.gg T.exC (PySem.W.findObj_own T.hdC hno rfl (by rw [hl, hu])) (handed_of ru) ⟨v, H1, I1.tok _, ru, q⟩
end
theorem z_isC {K : PySem.W.Frag} {H : Hp} {Q : VK} {a C : Addr} {f : Option (Str × V)} {c : V} {cv : Value} {b : Bool} (ea : Caught H a C f) (T : ExcC K C) (k : ClsV c cv) (e : PySem.W.kitOne K (.ref C) cv = some b) (q : Q (.bl b) H) : rIsC K [.ref a, c] H Q := ⟨a, C, f, c, cv, b, rfl, ea, T, k, e, q⟩
theorem pu_isC {K : PySem.W.Frag} {ta : TA} {σ : St} {H : Hp} {a C : Addr} {f : Option (Str × V)} {c : V} {cv : Value} {b : Bool} (h : PuA ta σ H [.ref a, c]) (ea : Caught H a C f) (T : ExcC K C) (k : ClsV c cv) (e : PySem.W.kitOne K (.ref C) cv = some b) : PuT (tCB (rIsC K) ta) σ H (.bl b) :=
  fun H' s Q q => h H' s _ (z_isC (ea.mono s) T k e q)
/-! ### calls that may raise, inside a try -/
/-- raised at whatever slots there may be -/
def EL (n : Nat) (W : WX) : XK := fun cls d H => ∀ τ : St, τ.length = n → W cls d τ H
theorem pass_len {X : Cx} {n : Nat} {W : WX} (hn : X.N.length = n) (tk : Takes X W) : Passes (L2.CX X.prog X.w) X (EL n W) := fun _ τ _ _ e s' I c => tk e s' (XE.of_call I (fun _ _ _ h => h τ (I.len.trans hn)) c)
structure MakeX (P : Program) (w : World) (K : PySem.W.Frag) (mg : Str → Option Value) (base : Heap) (k : Nat) (x : Str) (ps : List Str) (sp : Sp) : Prop where
  ex : ∃ (f : Addr) (fd : FuncData), Mk K (He.ga K x) f ∧ FnOk P w K mg base (L2.CX P w) k f fd ps sp ∧ mg x = some (.ref (He.ga K x)) ∧ Binds K fd ps []
theorem pe_makeX {X : Cx} {K : PySem.W.Frag} {k n : Nat} {x : Str} {ps : List Str} {sp : Sp} {W : WX} {e : Expr} {es : List Expr} {t : TA} {p pos : Pos} (hK : X.K = K) (hn : X.N.length = n) (tk : Takes X W) (M : MakeX X.prog X.w K X.mg X.base k x ps sp) (hr : Room (k + 1) X.A) (hg : Gl X x) (ha : PA X (e :: es) t)
    (hdb : (x == ("__debug__" : Str)) = false := by decide) (he : starEach (e :: es) X.env = (false, eval e X.env) :: starEach es X.env := by rfl) (hpl : (backTo pos (starEach es X.env)).any (·.1) = false := by rfl) :
    PE X (.Call (.Name x p) (e :: es) [] pos) (tMake (He.ga K x) sp [] (EL n W) t) := by
  subst hK
  obtain ⟨f, fd, M, F, hm, hb⟩ := M.ex
  exact pe_make M F hr hg hm hb .nil (pass_len hn tk) ha hdb he hpl
/-! ### raise X(e) -/
def sRaise (C : Addr) (sp : Sp) (ta : TA) (E : XK) : TS := fun _ σ H => tMkO C sp [] ta σ H E
theorem ps_raiseX {X : Cx} {E : XK} {x f : Str} {e : Expr} {es : List Expr} {ta : TA} {p pos pos2 : Pos} (hc : X.calm = true) (tk : Takes X fun cls d _ H => E cls d H) (C : ClsX X.prog X.w X.K X.mg X.base x f) (hr : Room 2 X.A) (hg : Gl X x) (ha : PA X (e :: es) ta)
    (hdb : (x == ("__debug__" : Str)) = false := by decide) (he : starEach (e :: es) X.env = (false, eval e X.env) :: starEach es X.env := by rfl) (hpl : (backTo pos (starEach es X.env)).any (·.1) = false := by rfl) :
    PS X (.Raise (some (.Call (.Name x p) (e :: es) [] pos)) none pos2) (sRaise (He.ga X.K x) (spX (He.ga X.K x) f) ta E) := by
  obtain ⟨fd, F, b⟩ := C.fn
  exact ps_raise hc tk (pmk_oex C.T C.i C.t F hr b .nil pass0 hg C.g ha hdb he hpl)
theorem z_raiseX {C : Addr} {f : Str} {ta : TA} {E : XK} {D : Ends} {σ : St} {H : Hp} {v : V} (h : PuA ta σ H [v]) (q : ∀ d H', Same H H' → H d = none → H' d = some (.xd [(f, v)]) → E (.ref C) (some d) H') : sRaise C (spX C f) ta E D σ H := by
  refine h H (Same.refl H) _ ⟨by show 1 ≤ 1000; decide, fun a ha => ⟨a, v, rfl, upd_same, fun dx hd hne => ⟨rfl, dx, [(f, v)], upd_same, ?_, ?_, ?_⟩⟩⟩
  · rw [upd_ne hne, upd_same]
  · rw [upd_ne hne] at hd
    exact hd
  · rw [upd_ne hne] at hd
    refine q dx _ (fun b o e => ?_) hd upd_same
    rw [upd_ne (ne_of_none e hd), del_ne (ne_of_none e ha), upd_ne (ne_of_none e ha), upd_ne (ne_of_none e hd), upd_ne (ne_of_none e ha)]
    exact e
/-! ### kinds stay -/
theorem TyX.mono {K : PySem.W.Frag} {H H' : Hp} {x : V} {t : Value} (s : Same H H') (h : TyX K H x t) : TyX K H' x t := by
  cases h with
  | base b =>
    refine .base ?_
    cases b with
    | non => exact .non
    | bl x => exact .bl x
    | int i => exact .int i
    | str x => exact .str x
    | flt x => exact .flt x
    | lst e => exact .lst (s _ _ e)
    | frz e => exact .frz (s _ _ e)
    | tup e => exact .tup (s _ _ e)
    | dK e => exact .dK (s _ _ e)
    | dT e => exact .dT (s _ _ e)
    | ins e cl ha hn htk hm => exact .ins (s _ _ e) cl ha hn htk hm
  | byt b => exact .byt b
  | set e => exact .set (s _ _ e)
  | kList e c => exact .kList e c
  | kTuple e c => exact .kTuple e c
  | kDict e c => exact .kDict e c
  | fTuple e => exact .fTuple (s _ _ e)
  | fDict e => exact .fDict (s _ _ e)
/-- a def that may raise -/
theorem fn_okX {P : Program} {w : World} {K : PySem.W.Frag} {mg : Str → Option Value} {base : Heap} {x qual : Str} {st : Stmt} {N ps : List Str} {k : Nat} {sp : Sp} {f : Addr} {fd : FuncData} (F : FunD K x qual (defArgs st) (defBody st) (defScope st) [] [] f fd) (S : FnScope N ps (defScope st)) (len : ∀ vs H Q E, sp vs H Q E → vs.length = ps.length)
    (hbody : ∀ (cdv : Value) (A : Around) (outer : List Env) (s : Shared) (H : Hp) (vs : List V) (Q : VK) (E : XK), Room k (A.deeper (envOfC qual (defScope st) s.heap.objs.size f cdv)) → sp vs H Q E →
      (Takes (cxOf (L2.CX P w) P w K mg base N qual (defScope st) f cdv A outer s H E) fun cls d _ G => E cls d G) →
      ∃ t, PSs (cxOf (L2.CX P w) P w K mg base N qual (defScope st) f cdv A outer s H E) (defBody st) t ∧ t { nx := fun _ H' => Q .non H', rt := Q } (start N vs) H) : FnOk P w K mg base (L2.CX P w) (k + 1) f fd ps sp :=
  F.ok S len fun cdv A outer s H vs Q E hr h => hbody cdv A outer s H vs Q E hr h (takes_of rfl rfl rfl rfl)
theorem z_expr {te : TE} {nx bk ct : St → Hp → Prop} {rt : VK} {σ : St} {H : Hp} (h : te σ H fun _ H1 => nx σ H1) : tDrop te ⟨nx, rt, bk, ct⟩ σ H := h
theorem z_dnew {σ : St} {H : Hp} {Q : VK} (h : ∀ p, H p = none → Q (.ref p) (upd H p (.dK []))) : tDNewK σ H Q := h
section
variable {r : V → Option Int → Option Int → Hp → VK → Prop} {te : TE} {tl th : TO} {σ : St} {H : Hp} {Q : VK} {R : Option Int → Hp → Prop}
theorem z_sl (h : te σ H fun x H1 => tl σ H1 fun l H2 => th σ H2 fun u H3 => r x l u H3 Q) : L2.tSl r te tl th σ H Q := h
theorem z_noPart (h : R none H) : tNoPart σ H R := h
theorem z_part (h : te σ H fun x H1 => ∃ i, x = .int i ∧ R (some i) H1) : tPart te σ H R := h
theorem z_partI {i : Int} {P : Int → Prop} (h : P i) : ∃ j, V.int i = .int j ∧ P j := ⟨i, rfl, h⟩
end
/-! ### named readings -/
def rTxtI : List V → Hp → VK → Prop := fun xs H Q => ∃ i, xs = [.int i] ∧ i.natAbs.log2 < 1920 ∧ Q (.str (toString i)) H
theorem cReprI {X : Cx} : CallR X (.builtin "repr") rTxtI := SkE.call_repr_int
theorem cStrI {X : Cx} : CallR X (.type "str") rTxtI := call_str_int
def rAddS : R2 := fun x y H Q => ∃ i j, x = .str i ∧ y = .str j ∧ i.length + j.length ≤ sizeLine ∧ Q (.str (i ++ j)) H
theorem op_addS {X : Cx} : OpR X (binaryOp .Add) rAddS := op_add_str
def rNil : R2 := fun x y H Q => y = .non ∧ Q (.bl (decide (x = .non))) H
theorem op_nil {X : Cx} : OpR X (compareOp .Is) rNil := op_isN
theorem ix_listK {X : Cx} {K : PySem.W.Frag} (hK : X.K = K) : IxR X (rIxL K) := by
  subst hK
  exact ix_list
/-! ### tuples (text, bool) that are made -/
def Two (H : Hp) (e : V) (q : Str × Bool) : Prop := ∃ t, e = .ref t ∧ H t = some (.tup [.str q.1, .bl q.2])
theorem Two.mono {H H' : Hp} {e : V} {q : Str × Bool} (s : Same H H') (h : Two H e q) : Two H' e q := by
  obtain ⟨t, e1, e2⟩ := h
  exact ⟨t, e1, s _ _ e2⟩
abbrev Twos (H : Hp) : List V → List (Str × Bool) → Prop := Paired (Two H)
theorem Twos.mono {H H' : Hp} {es : List V} {qs : List (Str × Bool)} (s : Same H H') (h : Twos H es qs) : Twos H' es qs := Paired.mapP h fun _ _ q => q.mono s
def TwT (te : TE) (σ : St) (H : Hp) (q : Str × Bool) : Prop := ∀ H1, Same H H1 → ∀ Q : VK, (∀ e H2, Same H1 H2 → Two H2 e q → Q e H2) → te σ H1 Q
def TwA (ta : TA) (σ : St) (H : Hp) (qs : List (Str × Bool)) : Prop := ∀ H1, Same H H1 → ∀ Q : List V → Hp → Prop, (∀ es H2, Same H1 H2 → Twos H2 es qs → Q es H2) → ta σ H1 Q
theorem TwA.nil {σ : St} {H : Hp} : TwA tNil σ H [] := fun H1 _ _ q => q [] H1 (Same.refl _) .nil
theorem TwA.cons {te : TE} {ta : TA} {σ : St} {H : Hp} {q : Str × Bool} {qs : List (Str × Bool)} (h : TwT te σ H q) (t : TwA ta σ H qs) : TwA (tCons te ta) σ H (q :: qs) := fun H1 s Q k =>
  h H1 s _ fun e H2 s2 x => t H2 (s.trans s2) _ fun es H3 s3 y => k (e :: es) H3 (s2.trans s3) (.cons (x.mono s3) y)
theorem tw_tup {ta : TA} {σ : St} {H : Hp} {x : Str} {b : Bool} (h : PuA ta σ H [.str x, .bl b]) : TwT (tTup ta) σ H (x, b) := fun H1 s Q k =>
  h H1 s _ ⟨by show 2 ≤ sizeLine; decide, fun p hp => k _ _ (same_new (Same.refl _) hp) ⟨p, rfl, upd_same⟩⟩
theorem TwA.lst {ta : TA} {σ : St} {H : Hp} {qs : List (Str × Bool)} (h : TwA ta σ H qs) (hl : qs.length ≤ 1000) {Q : VK} (k : ∀ p es H', Same H H' → H p = none → H' p = some (.lst es) → Twos H' es qs → Q (.ref p) H') : tLst ta σ H Q :=
  h H (Same.refl H) _ fun es H1 s1 x => ⟨by rw [Paired.length x]; exact Nat.le_trans hl (by decide), fun p hp => k p es _ (same_new s1 hp) (s1.free hp) upd_same (Twos.mono (same_new (Same.refl _) hp) x)⟩
theorem TwA.cat {ta : TA} {σ : St} {H : Hp} {qs rs : List (Str × Bool)} {i : Nat} {p : Addr} {es : List V} (h : TwA ta σ H rs) (hl : qs.length + rs.length ≤ 1000) (e : σ[i]? = some (some (.ref p))) (hp : H p = some (.lst es)) (hx : Twos H es qs) {Q : VK}
    (k : ∀ r fs H', Same H H' → H r = none → H' r = some (.lst fs) → Twos H' fs (qs ++ rs) → Q (.ref r) H') : tOp rCat (tVar i) (tLst ta) σ H Q := by
  refine ⟨_, e, h.lst (by omega) fun p2 fs H2 s2 n2 h2 x2 => ?_⟩
  refine ⟨p, p2, es, fs, rfl, rfl, s2 _ _ hp, h2, ?_, fun r hr => ?_⟩
  · rw [Paired.length hx, Paired.length x2]
    exact Nat.le_trans hl (by decide)
  · have s3 := same_new (o := .lst (es ++ fs)) (Same.refl H2) hr
    exact k r _ _ (s2.trans s3) (s2.free hr) upd_same (paired_append (Twos.mono (s2.trans s3) hx) (Twos.mono s3 x2))
end Z

set_option Elab.async false
set_option linter.all false
set_option maxRecDepth 100000
set_option maxHeartbeats 4000000
namespace Z
open PySem PySem.Spec L2
open PyProof.Rows hiding St
/-! ### levels: lists of (size, times) -/
abbrev Pr (H : Hp) (e : V) (q : Int × Int) : Prop := ∃ t, e = .ref t ∧ H t = some (.tup [.int q.1, .int q.2])
abbrev Prs (H : Hp) : List V → List (Int × Int) → Prop := Paired (Pr H)
def Lev (H : Hp) (l : Addr) (L : List (Int × Int)) : Prop := ∃ es, H l = some (.lst es) ∧ Prs H es L
theorem Prs.mono {H H' : Hp} {es : List V} {L : List (Int × Int)} (s : Same H H') (h : Prs H es L) : Prs H' es L := Paired.mapP h fun _ _ ⟨t, e1, e2⟩ => ⟨t, e1, s _ _ e2⟩
theorem Lev.mono {H H' : Hp} {l : Addr} {L : List (Int × Int)} (s : Same H H') (h : Lev H l L) : Lev H' l L := by
  obtain ⟨es, h1, h2⟩ := h
  exact ⟨es, s _ _ h1, Prs.mono s h2⟩
def Sml (L : List (Int × Int)) : Prop := L.length ≤ 1000000 ∧ ∀ q ∈ L, 0 ≤ q.1 ∧ q.1 < 2 ^ 1000 ∧ 0 ≤ q.2 ∧ q.2 < 2 ^ 1000
def pagesL (L : List (Int × Int)) : Int := (L.map fun q => q.2).sum
def itemsL (L : List (Int × Int)) : Int := (L.map fun q => q.1 * q.2).sum
def aheadL : List (Int × Int) → Int → Int
  | [], _ => 0
  | (s, t) :: L, p => s * min t p + aheadL L (p - min t p)
def withL : List (Int × Int) → Int → Int → Int
  | [], g, _ => g
  | (s, t) :: L, g, i => if i < s * t then g + i / s else withL L (g + t) (i - s * t)
theorem Sml.wide {L : List (Int × Int)} (h : Sml L) {q : Int × Int} (hq : q ∈ L) : q.1.natAbs < 2 ^ 1000 ∧ q.2.natAbs < 2 ^ 1000 := by
  obtain ⟨h1, h2, h3, h4⟩ := h.2 q hq
  have e : ((2 : Int) ^ 1000) = ((2 ^ 1000 : Nat) : Int) := by decide +kernel
  constructor <;> omega
section
variable {K : PySem.W.Frag} {σ : St} {H : Hp} {Q : VK} {te : TE} {i s1 s2 : Nat} {l : Addr} {L : List (Int × Int)} {f : Int × Int → V}
theorem lc_pairs (e : σ[i]? = some (some (.ref l))) (lv : Lev H l L) (hl : L.length ≤ 1000000) (hw : ∀ x y : V, wipe (((wipe σ [s1, s2]).set s1 (some x)).set s2 (some y)) [s1, s2] = wipe σ [s1, s2])
    (he : ∀ q ∈ L, ∀ H', Same H H' → ∀ Q' : VK, Q' (f q) H' → te (((wipe σ [s1, s2]).set s1 (some (.int q.1))).set s2 (some (.int q.2))) H' Q')
    (k : ∀ p H', Same H H' → H p = none → H' p = some (.lst (L.map f)) → Q (.ref p) H') : tLc (iList K (tVar i)) (gTup K 2 (gCons (gName s1) (gCons (gName s2) gNil))) tYes te [s1, s2] σ H Q := by
  obtain ⟨es, h1, h2⟩ := lv
  have hn : es.length = L.length := Paired.length h2
  refine ⟨.ref l, e, l, rfl, ⟨es, SqL.of h1⟩, fun D hD => lc_list (xs := es) (fun j H' => Same H H' ∧ H' D = some (.lst ((L.take j).map f))) ⟨same_new (Same.refl H) hD, upd_same⟩ (fun j H' _ h => SqL.of (h.1 _ _ h1)) ?_ ?_⟩
  · rintro j x H' hx ⟨s, hd⟩
    obtain ⟨q, hq, t, rfl, ht⟩ := paired_get h2 hx
    have hj : j < L.length := (List.getElem?_eq_some_iff.mp hq).1
    refine ⟨t, _, rfl, SqT.of (s _ _ ht), rfl, _, _, rfl, ?_⟩
    refine ⟨_, _, rfl, ?_⟩
    refine ⟨rfl, hw _ _, ?_⟩
    show te _ H' _
    refine he q (List.mem_of_getElem? hq) H' s _ ?_
    refine ⟨_, hd, ?_, fun b o eb => ?_, ?_⟩
    · rw [List.length_map, List.length_take]
      exact Nat.lt_of_lt_of_le (by omega : min j L.length < 1000001) (by decide)
    · rw [upd_ne (ne_of_none eb hD)]
      exact s b o eb
    · rw [upd_same, List.take_add_one, hq, List.map_append]
      rfl
  · rintro H' ⟨s, hd⟩
    rw [hn, List.take_length] at hd
    exact k D H' s hD hd
theorem z_aug {ti : TIp} {x : V} {nx bk ct : St → Hp → Prop} {rt : VK} (e : σ[i]? = some (some x)) (h : te σ H fun y H1 => ti x y H1 fun z H2 => nx (σ.set i (some z)) H2) : tAug i te ti ⟨nx, rt, bk, ct⟩ σ H := ⟨x, e, h⟩
theorem z_ip {g : Int → Int → Int} {m n : Int} (h : Q (.int (g m n)) H) : ipI g (.int m) (.int n) H Q := ⟨m, n, rfl, rfl, h⟩
end
/-! ### neighbours of one size put together -/
def addL (T : List (Int × Int)) (q : Int × Int) : List (Int × Int) := match T.getLast? with
  | some z => if z.1 = q.1 then T.dropLast ++ [(z.1, z.2 + q.2)] else T ++ [q]
  | none => [q]
def mergedL (L : List (Int × Int)) : List (Int × Int) := L.foldl addL []
theorem addL_nil (q : Int × Int) : addL [] q = [q] := rfl
theorem addL_snoc (T : List (Int × Int)) (z q : Int × Int) : addL (T ++ [z]) q = if z.1 = q.1 then T ++ [(z.1, z.2 + q.2)] else T ++ [z] ++ [q] := by
  unfold addL
  rw [List.getLast?_append]
  simp
theorem addL_len (T : List (Int × Int)) (q : Int × Int) : (addL T q).length ≤ T.length + 1 := by
  rcases List.eq_nil_or_concat T with rfl | ⟨T0, z, rfl⟩
  · exact Nat.le_refl _
  · rw [List.concat_eq_append, addL_snoc]
    split <;> simp
theorem mergedL_snoc (L : List (Int × Int)) (q : Int × Int) : mergedL (L ++ [q]) = addL (mergedL L) q := by
  unfold mergedL
  rw [List.foldl_append]
  rfl
theorem paired_snoc {α β : Type} {F : α → β → Prop} : ∀ {es : List α} {T : List β} {z : β}, Paired F es (T ++ [z]) → ∃ es0 e, es = es0 ++ [e] ∧ Paired F es0 T ∧ F e z
  | _, [], _, .cons h .nil => ⟨[], _, rfl, .nil, h⟩
  | _, t :: T, z, .cons h r => by
    obtain ⟨es0, e, rfl, r2, f⟩ := paired_snoc (T := T) r
    exact ⟨_ :: es0, e, rfl, .cons h r2, f⟩
theorem Prs.write {H : Hp} {es xs ys : List V} {L : List (Int × Int)} {p : Addr} (h : Prs H es L) (hp : H p = some (.lst xs)) : Prs (upd H p (.lst ys)) es L := Paired.mapP h fun _ _ ⟨t, e1, e2⟩ => ⟨t, e1, by
  rw [upd_ne (fun e => by rw [e, hp] at e2; cases e2)]
  exact e2⟩
theorem ixN_last {α : Type} (xs : List α) (e : α) : ixN (xs ++ [e]).length (-1) = some xs.length := by
  unfold ixN
  rw [if_neg (by decide), if_pos (by simp; omega)]
  congr 1
  simp
  omega
theorem z_truth {K : PySem.W.Frag} {te : TE} {σ : St} {H : Hp} {QT : Bool → Hp → Prop} (h : te σ H fun x H' => ∃ k, TruV K x H' k ∧ QT k H') : (fun σ H Q => te σ H fun x H' => ∃ k, TruV K x H' k ∧ Q k H' : TT) σ H QT := h
end Z

set_option Elab.async false
set_option linter.all false
set_option maxRecDepth 100000
set_option maxHeartbeats 4000000
namespace Z
open PySem PySem.Spec L2
open PyProof.Rows hiding St
/-! ### the head's facts, looked up at written addresses -/
def obsH (as : List Addr) (fa : List He.Fa) (fn : List He.DefD) (gs : List GetD) (ex : PySem.W.Frag → Bool) (g : Addr → Option Obj) : AlG :=
  ((He.obsT fa fn [] (He.frT g as), ex (He.frT g as)), (gs.all fun d => d.ok (He.frT g as), gs.map fun d => gW (He.frT g as) (d.at_ (He.frT g as))))
def hookH (as : List Addr) (fa : List He.Fa) (fn : List He.DefD) (gs : List GetD) (ex : PySem.W.Frag → Bool) : PySem.W.Hook where
  α := AlG
  obs := fun s => obsH as fa fn gs ex s.heap.get?
  val := fun w => valG fn gs w
  says := fun w h => ∃ K : PySem.W.Frag, K.In h ∧ SaysG fa fn gs ex w h K
  of := fun _ _ e => ⟨_, He.frT_in, ⟨⟨congrArg (fun z : AlG => z.1.1) e, congrArg (fun z : AlG => z.1.2) e, fun _ hp => (nomatch hp), fun _ hp => (nomatch hp), fun _ hp => (nomatch hp)⟩, congrArg (fun z : AlG => z.2.1) e, congrArg (fun z : AlG => z.2.2) e⟩⟩
  keeps := fun _ _ _ ⟨K, hK, c⟩ k => ⟨K, PySem.W.Frag.In.keeps hK k, ⟨⟨c.x.t, c.x.more, c.x.hd, c.x.out, fun p hp => nomatch hp⟩, c.okG, c.eqG⟩⟩
theorem obsH_eq {as : List Addr} {fa : List He.Fa} {fn : List He.DefD} {gs : List GetD} {ex : PySem.W.Frag → Bool} {g : Addr → Option Obj} {s : Shared} (h : ∀ a, g a = s.heap.get? a) : obsH as fa fn gs ex g = (hookH as fa fn gs ex).obs s := by
  have e : g = s.heap.get? := funext h
  rw [e] <;> rfl
end Z

set_option Elab.async false
set_option linter.all false
set_option maxRecDepth 100000
set_option maxHeartbeats 4000000
namespace Z
open PySem PySem.Spec L2
open PyProof.Rows hiding St
/-! ### values as trees, things that change as cells of a store -/
inductive D where
  | non | bl (b : Bool) | int (i : Int) | str (x : Str) | ty (n : String)
  | lst (ds : List D) | tup (ds : List D) | obj (C : Str) (ns : List Str) (ds : List D) | cls (C : Str) | cell (i : Nat) | scr (ds : List D) | ktp (ds : List D)
inductive Cell where
  | lst (ds : List D) | ins (C : Str) (ns : List Str) (ds : List D) | dct (ks : List L2.Key) (ds : List D) | dead
abbrev Sto := List Cell
abbrev Fr := List (Option D)
def hide (H : Hp) (l : List Addr) : Hp := fun a => if a ∈ l then none else H a
theorem hide_in {H : Hp} {l : List Addr} {a : Addr} (h : a ∈ l) : hide H l a = none := if_pos h
theorem hide_out {H : Hp} {l : List Addr} {a : Addr} (h : a ∉ l) : hide H l a = H a := if_neg h
theorem hide_some {H : Hp} {l : List Addr} {a : Addr} {o : HO} (h : hide H l a = some o) : H a = some o ∧ a ∉ l := by
  by_cases c : a ∈ l
  · rw [hide_in c] at h; cases h
  · rw [hide_out c] at h; exact ⟨h, c⟩
/-- the addresses of what still may change -/
def lives : List Addr → Sto → List Addr
  | _ :: ι, .dead :: μ => lives ι μ
  | a :: ι, _ :: μ => a :: lives ι μ
  | _, _ => []
theorem mem_lives {a : Addr} : ∀ {ι : List Addr} {μ : Sto}, a ∈ lives ι μ ↔ ∃ (i : Nat) (c : Cell), ι[i]? = some a ∧ μ[i]? = some c ∧ c ≠ .dead
  | [], μ => by cases μ <;> simp [lives]
  | b :: ι, [] => by simp [lives]
  | b :: ι, c :: μ => by
    have tail : a ∈ lives ι μ ↔ ∃ (i : Nat) (c : Cell), ι[i]? = some a ∧ μ[i]? = some c ∧ c ≠ .dead := mem_lives
    constructor
    · intro h
      cases c with
      | dead =>
        obtain ⟨i, c, h1, h2, h3⟩ := tail.mp h
        exact ⟨i + 1, c, by simpa using h1, by simpa using h2, h3⟩
      | lst ds =>
        rcases List.mem_cons.mp (show a ∈ b :: lives ι μ from h) with rfl | h
        · exact ⟨0, _, rfl, rfl, fun z => nomatch z⟩
        · obtain ⟨i, c, h1, h2, h3⟩ := tail.mp h
          exact ⟨i + 1, c, by simpa using h1, by simpa using h2, h3⟩
      | ins C ns ds =>
        rcases List.mem_cons.mp (show a ∈ b :: lives ι μ from h) with rfl | h
        · exact ⟨0, _, rfl, rfl, fun z => nomatch z⟩
        · obtain ⟨i, c, h1, h2, h3⟩ := tail.mp h
          exact ⟨i + 1, c, by simpa using h1, by simpa using h2, h3⟩
      | dct ks ds =>
        rcases List.mem_cons.mp (show a ∈ b :: lives ι μ from h) with rfl | h
        · exact ⟨0, _, rfl, rfl, fun z => nomatch z⟩
        · obtain ⟨i, c, h1, h2, h3⟩ := tail.mp h
          exact ⟨i + 1, c, by simpa using h1, by simpa using h2, h3⟩
    · rintro ⟨i, c', h1, h2, h3⟩
      have push : a ∈ lives ι μ → a ∈ lives (b :: ι) (c :: μ) := fun m => by
        cases c with
        | dead => exact m
        | lst ds => exact List.mem_cons_of_mem _ m
        | ins C ns ds => exact List.mem_cons_of_mem _ m
        | dct ks ds => exact List.mem_cons_of_mem _ m
      cases i with
      | zero =>
        simp only [List.getElem?_cons_zero, Option.some.injEq] at h1 h2
        subst h1 h2
        cases c with
        | dead => exact absurd rfl h3
        | lst ds => exact List.mem_cons_self
        | ins C ns ds => exact List.mem_cons_self
        | dct ks ds => exact List.mem_cons_self
      | succ i => exact push (tail.mpr ⟨i, c', by simpa using h1, by simpa using h2, h3⟩)
/-! ### what a value stands for -/
theorem seqT_mono {K : PySem.W.Frag} {H H' : Hp} {a : Addr} {xs : List V} (e : Same H H') (h : SqT K H a xs) : SqT K H' a xs := by
  rcases h with h | h
  · exact .inl (h.elim (fun h => .inl (e _ _ h)) (fun ⟨o, h⟩ => .inr ⟨o, e _ _ h⟩))
  · exact .inr h
mutual
def Rep (K : PySem.W.Frag) (G : Hp) (ι : List Addr) : D → V → Prop
  | .non, v => v = .non
  | .bl b, v => v = .bl b
  | .int i, v => v = .int i
  | .str x, v => v = .str x
  | .ty n, v => v = .ty n
  | .lst ds, v => ∃ p es, v = .ref p ∧ G p = some (.lst es) ∧ Reps K G ι ds es
  | .tup ds, v => ∃ p es, v = .ref p ∧ G p = some (.tup es) ∧ Reps K G ι ds es
  | .obj C ns ds, v => ∃ a dx es, v = .ref a ∧ G a = some (.ins (He.ga K C) dx (ns.zip es)) ∧ ns.length = ds.length ∧ Reps K G ι ds es
  | .cls C, v => v = .ref (He.ga K C)
  | .cell i, v => ∃ a, ι[i]? = some a ∧ v = .ref a
  | .scr ds, v => ∃ p es, v = .ref p ∧ SqL K G p es ∧ Reps K G ι ds es
  | .ktp ds, v => ∃ p es, v = .ref p ∧ SqT K G p es ∧ Reps K G ι ds es
def Reps (K : PySem.W.Frag) (G : Hp) (ι : List Addr) : List D → List V → Prop
  | [], es => es = []
  | d :: ds, es => ∃ e r, es = e :: r ∧ Rep K G ι d e ∧ Reps K G ι ds r
end
/-- the store's addresses go on -/
def Pre (ι ι' : List Addr) : Prop := ∀ (i : Nat) (a : Addr), ι[i]? = some a → ι'[i]? = some a
theorem Pre.refl (ι : List Addr) : Pre ι ι := fun _ _ h => h
theorem Pre.trans {a b c : List Addr} (h : Pre a b) (k : Pre b c) : Pre a c := fun i x e => k i x (h i x e)
mutual
theorem Rep.mono {K : PySem.W.Frag} {G G' : Hp} {ι ι' : List Addr} (s : Same G G') (p : Pre ι ι') : ∀ {d : D} {v : V}, Rep K G ι d v → Rep K G' ι' d v
  | .non, _, h => h
  | .bl _, _, h => h
  | .int _, _, h => h
  | .str _, _, h => h
  | .ty _, _, h => h
  | .lst ds, _, ⟨a, es, e, h, r⟩ => ⟨a, es, e, s _ _ h, Reps.mono s p r⟩
  | .tup ds, _, ⟨a, es, e, h, r⟩ => ⟨a, es, e, s _ _ h, Reps.mono s p r⟩
  | .obj C ns ds, _, ⟨a, dx, es, e, h, l, r⟩ => ⟨a, dx, es, e, s _ _ h, l, Reps.mono s p r⟩
  | .cls _, _, h => h
  | .cell _, _, ⟨a, h, e⟩ => ⟨a, p _ _ h, e⟩
  | .scr ds, _, ⟨a, es, e, h, r⟩ => ⟨a, es, e, s.seq h, Reps.mono s p r⟩
  | .ktp ds, _, ⟨a, es, e, h, r⟩ => ⟨a, es, e, seqT_mono s h, Reps.mono s p r⟩
theorem Reps.mono {K : PySem.W.Frag} {G G' : Hp} {ι ι' : List Addr} (s : Same G G') (p : Pre ι ι') : ∀ {ds : List D} {es : List V}, Reps K G ι ds es → Reps K G' ι' ds es
  | [], _, h => h
  | _ :: _, _, ⟨e, r, q, h1, h2⟩ => ⟨e, r, q, Rep.mono s p h1, Reps.mono s p h2⟩
end
theorem Reps.length {K : PySem.W.Frag} {G : Hp} {ι : List Addr} : ∀ {ds : List D} {es : List V}, Reps K G ι ds es → es.length = ds.length
  | [], _, h => by have h' : _ = [] := h; rw [h']; rfl
  | _ :: _, _, ⟨e, r, q, _, h2⟩ => by rw [q, List.length_cons, List.length_cons, Reps.length h2]
theorem Reps.at {K : PySem.W.Frag} {G : Hp} {ι : List Addr} : ∀ {ds : List D} {es : List V} {i : Nat} {d : D}, Reps K G ι ds es → ds[i]? = some d → ∃ e, es[i]? = some e ∧ Rep K G ι d e
  | [], _, _, _, _, e => by simp at e
  | _ :: _, _, 0, _, ⟨e, r, q, h1, _⟩, x => by
    simp at x; subst x; subst q; exact ⟨e, rfl, h1⟩
  | _ :: ds, _, i + 1, d, ⟨e, r, q, _, h2⟩, x => by
    obtain ⟨y, h3, h4⟩ := Reps.at (i := i) h2 (by simpa using x)
    subst q
    exact ⟨y, by simpa using h3, h4⟩
theorem Reps.append {K : PySem.W.Frag} {G : Hp} {ι : List Addr} : ∀ {ds : List D} {es : List V} {cs : List D} {fs : List V}, Reps K G ι ds es → Reps K G ι cs fs → Reps K G ι (ds ++ cs) (es ++ fs)
  | [], _, _, _, h, k => by rw [show _ = [] from h]; exact k
  | _ :: _, _, _, _, ⟨e, r, q, h1, h2⟩, k => by subst q; exact ⟨e, r ++ _, rfl, h1, Reps.append h2 k⟩
theorem Reps.snoc {K : PySem.W.Frag} {G : Hp} {ι : List Addr} {ds : List D} {es : List V} {d : D} {v : V} (h : Reps K G ι ds es) (k : Rep K G ι d v) : Reps K G ι (ds ++ [d]) (es ++ [v]) := h.append ⟨v, [], rfl, k, rfl⟩
theorem Reps.take {K : PySem.W.Frag} {G : Hp} {ι : List Addr} : ∀ {ds : List D} {es : List V} (n : Nat), Reps K G ι ds es → Reps K G ι (ds.take n) (es.take n)
  | [], _, n, h => by rw [show _ = [] from h, List.take_nil, List.take_nil]; rfl
  | _ :: _, _, 0, _ => rfl
  | _ :: _, _, n + 1, ⟨e, r, q, h1, h2⟩ => by subst q; exact ⟨e, r.take n, rfl, h1, Reps.take n h2⟩
theorem Reps.drop {K : PySem.W.Frag} {G : Hp} {ι : List Addr} : ∀ {ds : List D} {es : List V} (n : Nat), Reps K G ι ds es → Reps K G ι (ds.drop n) (es.drop n)
  | [], _, n, h => by rw [show _ = [] from h, List.drop_nil, List.drop_nil]; rfl
  | _ :: _, _, 0, h => h
  | _ :: _, _, n + 1, ⟨e, r, q, _, h2⟩ => by subst q; exact Reps.drop n h2
theorem Reps.set {K : PySem.W.Frag} {G : Hp} {ι : List Addr} {d : D} {v : V} (k : Rep K G ι d v) : ∀ {ds : List D} {es : List V} (n : Nat), Reps K G ι ds es → Reps K G ι (ds.set n d) (es.set n v)
  | [], _, n, h => by rw [show _ = [] from h]; rfl
  | _ :: _, _, 0, ⟨e, r, q, _, h2⟩ => by subst q; exact ⟨v, r, rfl, k, h2⟩
  | _ :: _, _, n + 1, ⟨e, r, q, h1, h2⟩ => by subst q; exact ⟨e, r.set n v, rfl, h1, Reps.set k n h2⟩
/-! ### which cells a value names -/
mutual
def D.lt (k : Nat) : D → Prop
  | .lst ds => D.lts k ds
  | .tup ds => D.lts k ds
  | .obj _ _ ds => D.lts k ds
  | .scr ds => D.lts k ds
  | .ktp ds => D.lts k ds
  | .cell i => i < k
  | _ => True
def D.lts (k : Nat) : List D → Prop
  | [] => True
  | d :: ds => d.lt k ∧ D.lts k ds
end
mutual
theorem Rep.lt {K : PySem.W.Frag} {G : Hp} {ι : List Addr} : ∀ {d : D} {v : V}, Rep K G ι d v → d.lt ι.length
  | .non, _, _ => trivial
  | .bl _, _, _ => trivial
  | .int _, _, _ => trivial
  | .str _, _, _ => trivial
  | .ty _, _, _ => trivial
  | .cls _, _, _ => trivial
  | .lst ds, _, ⟨_, _, _, _, r⟩ => Reps.lts r
  | .tup ds, _, ⟨_, _, _, _, r⟩ => Reps.lts r
  | .scr ds, _, ⟨_, _, _, _, r⟩ => Reps.lts r
  | .ktp ds, _, ⟨_, _, _, _, r⟩ => Reps.lts r
  | .obj _ _ ds, _, ⟨_, _, _, _, _, _, r⟩ => Reps.lts r
  | .cell _, _, ⟨_, h, _⟩ => (List.getElem?_eq_some_iff.mp h).1
theorem Reps.lts {K : PySem.W.Frag} {G : Hp} {ι : List Addr} : ∀ {ds : List D} {es : List V}, Reps K G ι ds es → D.lts ι.length ds
  | [], _, _ => trivial
  | _ :: _, _, ⟨_, _, _, h1, h2⟩ => ⟨Rep.lt h1, Reps.lts h2⟩
end
mutual
theorem Rep.cut {K : PySem.W.Frag} {G : Hp} {ι : List Addr} {k : Nat} : ∀ {d : D} {v : V}, Rep K G ι d v → d.lt k → Rep K G (ι.take k) d v
  | .non, _, h, _ => h
  | .bl _, _, h, _ => h
  | .int _, _, h, _ => h
  | .str _, _, h, _ => h
  | .ty _, _, h, _ => h
  | .cls _, _, h, _ => h
  | .lst ds, _, ⟨a, es, e, h, r⟩, l => ⟨a, es, e, h, Reps.cut r l⟩
  | .tup ds, _, ⟨a, es, e, h, r⟩, l => ⟨a, es, e, h, Reps.cut r l⟩
  | .scr ds, _, ⟨a, es, e, h, r⟩, l => ⟨a, es, e, h, Reps.cut r l⟩
  | .ktp ds, _, ⟨a, es, e, h, r⟩, l => ⟨a, es, e, h, Reps.cut r l⟩
  | .obj _ _ ds, _, ⟨a, dx, es, e, h, z, r⟩, l => ⟨a, dx, es, e, h, z, Reps.cut r l⟩
  | .cell _, _, ⟨a, h, e⟩, l => ⟨a, by rw [List.getElem?_take_of_lt l]; exact h, e⟩
theorem Reps.cut {K : PySem.W.Frag} {G : Hp} {ι : List Addr} {k : Nat} : ∀ {ds : List D} {es : List V}, Reps K G ι ds es → D.lts k ds → Reps K G (ι.take k) ds es
  | [], _, h, _ => h
  | _ :: _, _, ⟨e, r, q, h1, h2⟩, l => ⟨e, r, q, Rep.cut h1 l.1, Reps.cut h2 l.2⟩
end
/-! ### a heap with its store -/
structure Cf where
  H : Hp
  i : List Addr
  m : Sto
def vis (X : List Addr) (c : Cf) : Hp := hide c.H (X ++ lives c.i c.m)
def CellOk (K : PySem.W.Frag) (H G : Hp) (ι : List Addr) (a : Addr) : Cell → Prop
  | .lst ds => ∃ es, H a = some (.lst es) ∧ Reps K G ι ds es
  | .ins C ns ds => ∃ dx es, H a = some (.ins (He.ga K C) dx (ns.zip es)) ∧ ns.length = ds.length ∧ Reps K G ι ds es
  | .dct ks ds => ∃ es, H a = some (.dK (ks.zip es)) ∧ ks.length = ds.length ∧ Reps K G ι ds es
  | .dead => True
structure Okk (K : PySem.W.Frag) (X : List Addr) (c : Cf) : Prop where
  len : c.i.length = c.m.length
  inj : ∀ (i j : Nat) (a : Addr), c.i[i]? = some a → c.i[j]? = some a → (∃ x : Cell, c.m[i]? = some x ∧ x ≠ .dead) → (∃ x : Cell, c.m[j]? = some x ∧ x ≠ .dead) → i = j
  cell : ∀ (i : Nat) (x : Cell) (a : Addr), c.m[i]? = some x → c.i[i]? = some a → x ≠ .dead → CellOk K c.H (vis X c) c.i a x ∧ a ∉ X
  xs : ∀ a ∈ X, c.H a ≠ none
abbrev RepC (K : PySem.W.Frag) (X : List Addr) (c : Cf) (d : D) (v : V) : Prop := Rep K (vis X c) c.i d v
abbrev RepsC (K : PySem.W.Frag) (X : List Addr) (c : Cf) (ds : List D) (vs : List V) : Prop := Reps K (vis X c) c.i ds vs
structure Slots (K : PySem.W.Frag) (X : List Addr) (c : Cf) (τ : Fr) (σ : St) : Prop where
  len : σ.length = τ.length
  at_ : ∀ (i : Nat) (d : D), τ[i]? = some (some d) → ∃ v, σ[i]? = some (some v) ∧ RepC K X c d v
structure Grow (X : List Addr) (c : Cf) (X' : List Addr) (c' : Cf) : Prop where
  same : Same (vis X c) (vis X' c')
  pre : Pre c.i c'.i
  hid : ∀ a ∈ X, c'.H a = c.H a
theorem Grow.refl (X : List Addr) (c : Cf) : Grow X c X c := ⟨Same.refl _, Pre.refl _, fun _ _ => rfl⟩
theorem Grow.trans {X X1 X2 : List Addr} {c c1 c2 : Cf} (h : Grow X c X1 c1) (k : Grow X1 c1 X2 c2) (s : ∀ a ∈ X, a ∈ X1) : Grow X c X2 c2 := ⟨h.same.trans k.same, h.pre.trans k.pre, fun a m => (k.hid a (s a m)).trans (h.hid a m)⟩
theorem Grow.tr {X : List Addr} {c c1 c2 : Cf} (h : Grow X c X c1) (k : Grow X c1 X c2) : Grow X c X c2 := h.trans k fun _ m => m
theorem Grow.rep {K : PySem.W.Frag} {X X' : List Addr} {c c' : Cf} (g : Grow X c X' c') {d : D} {v : V} (h : RepC K X c d v) : RepC K X' c' d v := Rep.mono g.same g.pre h
theorem Grow.reps {K : PySem.W.Frag} {X X' : List Addr} {c c' : Cf} (g : Grow X c X' c') {d : List D} {v : List V} (h : RepsC K X c d v) : RepsC K X' c' d v := Reps.mono g.same g.pre h
theorem Grow.slots {K : PySem.W.Frag} {X X' : List Addr} {c c' : Cf} (g : Grow X c X' c') {τ : Fr} {σ : St} (h : Slots K X c τ σ) : Slots K X' c' τ σ := ⟨h.len, fun i d e => by
  obtain ⟨v, h1, h2⟩ := h.at_ i d e
  exact ⟨v, h1, g.rep h2⟩⟩
theorem vis_some {X : List Addr} {c : Cf} {a : Addr} {o : HO} (h : vis X c a = some o) : c.H a = some o := (hide_some h).1
/-- something new, that no one may change -/
theorem Okk.laid {K : PySem.W.Frag} {X : List Addr} {c : Cf} (k : Okk K X c) {p : Addr} {o : HO} (hp : c.H p = none) : Okk K X ⟨upd c.H p o, c.i, c.m⟩ ∧ Grow X c X ⟨upd c.H p o, c.i, c.m⟩ ∧ vis X ⟨upd c.H p o, c.i, c.m⟩ p = some o := by
  have nX : p ∉ X := fun m => k.xs p m hp
  have nL : p ∉ lives c.i c.m := fun m => by
    obtain ⟨i, x, h1, h2, h3⟩ := mem_lives.mp m
    have q := (k.cell i x p h2 h1 h3).1
    cases x with
    | lst ds => obtain ⟨es, e, _⟩ := q; rw [hp] at e; cases e
    | ins C ns ds => obtain ⟨dx, es, e, _⟩ := q; rw [hp] at e; cases e
    | dct ks ds => obtain ⟨es, e, _⟩ := q; rw [hp] at e; cases e
    | dead => exact h3 rfl
  have nn : p ∉ X ++ lives c.i c.m := fun m => (List.mem_append.mp m).elim nX nL
  have s : Same (vis X c) (vis X ⟨upd c.H p o, c.i, c.m⟩) := fun b u e => by
    obtain ⟨e1, e2⟩ := hide_some e
    show hide (upd c.H p o) (X ++ lives c.i c.m) b = some u
    rw [hide_out e2, upd_ne (ne_of_none e1 hp)]
    exact e1
  refine ⟨⟨k.len, k.inj, fun i x a h1 h2 h3 => ?_, fun a m => ?_⟩, ⟨s, Pre.refl _, fun a m => upd_ne (fun e => nX (e ▸ m))⟩, ?_⟩
  · obtain ⟨q, q2⟩ := k.cell i x a h1 h2 h3
    refine ⟨?_, q2⟩
    cases x with
    | lst ds =>
      obtain ⟨es, e, r⟩ := q
      exact ⟨es, by show upd c.H p o a = _; rw [upd_ne (ne_of_none e hp)]; exact e, Reps.mono s (Pre.refl _) r⟩
    | ins C ns ds =>
      obtain ⟨dx, es, e, l, r⟩ := q
      exact ⟨dx, es, by show upd c.H p o a = _; rw [upd_ne (ne_of_none e hp)]; exact e, l, Reps.mono s (Pre.refl _) r⟩
    | dct ks ds =>
      obtain ⟨es, e, l, r⟩ := q
      exact ⟨es, by show upd c.H p o a = _; rw [upd_ne (ne_of_none e hp)]; exact e, l, Reps.mono s (Pre.refl _) r⟩
    | dead => trivial
  · show upd c.H p o a ≠ none
    by_cases e : a = p
    · rw [e, upd_same]; exact fun z => nomatch z
    · rw [upd_ne e]; exact k.xs a m
  · show hide (upd c.H p o) (X ++ lives c.i c.m) p = some o
    rw [hide_out nn, upd_same]
/-- the same, hidden: a list that is one's own -/
theorem Okk.own {K : PySem.W.Frag} {X : List Addr} {c : Cf} (k : Okk K X c) {p : Addr} {o : HO} (hp : c.H p = none) : Okk K (p :: X) ⟨upd c.H p o, c.i, c.m⟩ ∧ Grow X c (p :: X) ⟨upd c.H p o, c.i, c.m⟩ := by
  have nX : p ∉ X := fun m => k.xs p m hp
  have cells : ∀ (i : Nat) (x : Cell) (a : Addr), c.m[i]? = some x → c.i[i]? = some a → x ≠ .dead → a ≠ p := fun i x a h2 h1 h3 e => by
    have q := (k.cell i x a h2 h1 h3).1
    subst e
    cases x with
    | lst ds => obtain ⟨es, e, _⟩ := q; rw [hp] at e; cases e
    | ins C ns ds => obtain ⟨dx, es, e, _⟩ := q; rw [hp] at e; cases e
    | dct ks ds => obtain ⟨es, e, _⟩ := q; rw [hp] at e; cases e
    | dead => exact h3 rfl
  have s : Same (vis X c) (vis (p :: X) ⟨upd c.H p o, c.i, c.m⟩) := fun b u e => by
    obtain ⟨e1, e2⟩ := hide_some e
    have ne : b ≠ p := ne_of_none e1 hp
    show hide (upd c.H p o) (p :: X ++ lives c.i c.m) b = some u
    rw [hide_out (l := p :: X ++ lives c.i c.m) (fun m => (List.mem_cons.mp (show b ∈ p :: (X ++ lives c.i c.m) from m)).elim ne e2), upd_ne ne]
    exact e1
  refine ⟨⟨k.len, k.inj, fun i x a h1 h2 h3 => ?_, fun a m => ?_⟩, ⟨s, Pre.refl _, fun a m => upd_ne (fun e => nX (e ▸ m))⟩⟩
  · obtain ⟨q, q2⟩ := k.cell i x a h1 h2 h3
    have ne := cells i x a h1 h2 h3
    refine ⟨?_, fun m => (List.mem_cons.mp m).elim ne q2⟩
    cases x with
    | lst ds =>
      obtain ⟨es, e, r⟩ := q
      exact ⟨es, by show upd c.H p o a = _; rw [upd_ne ne]; exact e, Reps.mono s (Pre.refl _) r⟩
    | ins C ns ds =>
      obtain ⟨dx, es, e, l, r⟩ := q
      exact ⟨dx, es, by show upd c.H p o a = _; rw [upd_ne ne]; exact e, l, Reps.mono s (Pre.refl _) r⟩
    | dct ks ds =>
      obtain ⟨es, e, l, r⟩ := q
      exact ⟨es, by show upd c.H p o a = _; rw [upd_ne ne]; exact e, l, Reps.mono s (Pre.refl _) r⟩
    | dead => trivial
  · show upd c.H p o a ≠ none
    by_cases e : a = p
    · rw [e, upd_same]; exact fun z => nomatch z
    · rw [upd_ne e]; exact k.xs a ((List.mem_cons.mp m).resolve_left e)
/-- what is hidden may be seen again -/
theorem Okk.show_ {K : PySem.W.Frag} {X : List Addr} {c : Cf} {p : Addr} (k : Okk K (p :: X) c) (nX : p ∉ X) : Okk K X c ∧ Grow (p :: X) c X c ∧ vis X c p = c.H p := by
  have nL : p ∉ lives c.i c.m := fun m => by
    obtain ⟨i, x, h1, h2, h3⟩ := mem_lives.mp m
    exact (k.cell i x p h2 h1 h3).2 List.mem_cons_self
  have s : Same (vis (p :: X) c) (vis X c) := fun b u e => by
    obtain ⟨e1, e2⟩ := hide_some e
    show hide c.H (X ++ lives c.i c.m) b = some u
    rw [hide_out (l := X ++ lives c.i c.m) fun m => e2 (List.mem_cons_of_mem _ m)]
    exact e1
  refine ⟨⟨k.len, k.inj, fun i x a h1 h2 h3 => ?_, fun a m => k.xs a (List.mem_cons_of_mem _ m)⟩, ⟨s, Pre.refl _, fun _ _ => rfl⟩, hide_out fun m => (List.mem_append.mp m).elim nX nL⟩
  obtain ⟨q, q2⟩ := k.cell i x a h1 h2 h3
  refine ⟨?_, fun m => q2 (List.mem_cons_of_mem _ m)⟩
  cases x with
  | lst ds =>
    obtain ⟨es, e, r⟩ := q
    exact ⟨es, e, Reps.mono s (Pre.refl _) r⟩
  | ins C ns ds =>
    obtain ⟨dx, es, e, l, r⟩ := q
    exact ⟨dx, es, e, l, Reps.mono s (Pre.refl _) r⟩
  | dct ks ds =>
    obtain ⟨es, e, l, r⟩ := q
    exact ⟨es, e, l, Reps.mono s (Pre.refl _) r⟩
  | dead => trivial
/-- what is hidden is changed -/
theorem Okk.poke {K : PySem.W.Frag} {X : List Addr} {c : Cf} {p : Addr} (k : Okk K (p :: X) c) (o : HO) : Okk K (p :: X) ⟨upd c.H p o, c.i, c.m⟩ ∧ vis (p :: X) ⟨upd c.H p o, c.i, c.m⟩ = vis (p :: X) c := by
  have e0 : vis (p :: X) ⟨upd c.H p o, c.i, c.m⟩ = vis (p :: X) c := by
    funext b
    show hide (upd c.H p o) (p :: X ++ lives c.i c.m) b = hide c.H (p :: X ++ lives c.i c.m) b
    by_cases m : b ∈ p :: X ++ lives c.i c.m
    · rw [hide_in m, hide_in m]
    · rw [hide_out m, hide_out m, upd_ne fun e => m (by rw [e]; exact List.mem_cons_self)]
  refine ⟨⟨k.len, k.inj, fun i x a h1 h2 h3 => ?_, fun a m => ?_⟩, e0⟩
  · obtain ⟨q, q2⟩ := k.cell i x a h1 h2 h3
    have ne : a ≠ p := fun e => q2 (e ▸ List.mem_cons_self)
    refine ⟨?_, q2⟩
    rw [e0]
    cases x with
    | lst ds =>
      obtain ⟨es, e, r⟩ := q
      exact ⟨es, by show upd c.H p o a = _; rw [upd_ne ne]; exact e, r⟩
    | ins C ns ds =>
      obtain ⟨dx, es, e, l, r⟩ := q
      exact ⟨dx, es, by show upd c.H p o a = _; rw [upd_ne ne]; exact e, l, r⟩
    | dct ks ds =>
      obtain ⟨es, e, l, r⟩ := q
      exact ⟨es, by show upd c.H p o a = _; rw [upd_ne ne]; exact e, l, r⟩
    | dead => trivial
  · show upd c.H p o a ≠ none
    by_cases e : a = p
    · rw [e, upd_same]; exact fun z => nomatch z
    · rw [upd_ne e]; exact k.xs a m
end Z

set_option Elab.async false
set_option linter.all false
set_option maxRecDepth 100000
set_option maxHeartbeats 4000000
namespace Z
open PySem PySem.Spec L2
open PyProof.Rows hiding St
theorem hide_congr {H : Hp} {l l' : List Addr} (h : ∀ a, a ∈ l ↔ a ∈ l') : hide H l = hide H l' := by
  funext a
  by_cases m : a ∈ l
  · rw [hide_in m, hide_in ((h a).mp m)]
  · rw [hide_out m, hide_out fun z => m ((h a).mpr z)]
theorem CellOk.mono {K : PySem.W.Frag} {H H' G G' : Hp} {ι ι' : List Addr} {a : Addr} {x : Cell} (h : CellOk K H G ι a x) (e : H' a = H a) (s : Same G G') (p : Pre ι ι') : CellOk K H' G' ι' a x := by
  cases x with
  | lst ds =>
    obtain ⟨es, h1, r⟩ := h
    exact ⟨es, e.trans h1, Reps.mono s p r⟩
  | ins C ns ds =>
    obtain ⟨dx, es, h1, l, r⟩ := h
    exact ⟨dx, es, e.trans h1, l, Reps.mono s p r⟩
  | dct ks ds =>
    obtain ⟨es, h1, l, r⟩ := h
    exact ⟨es, e.trans h1, l, Reps.mono s p r⟩
  | dead => trivial
theorem CellOk.there {K : PySem.W.Frag} {H G : Hp} {ι : List Addr} {a : Addr} {x : Cell} (h : CellOk K H G ι a x) (n : x ≠ .dead) : H a ≠ none := by
  cases x with
  | lst ds => obtain ⟨es, h1, r⟩ := h; rw [h1]; exact fun z => nomatch z
  | ins C ns ds => obtain ⟨dx, es, h1, l, r⟩ := h; rw [h1]; exact fun z => nomatch z
  | dct ks ds => obtain ⟨es, h1, l, r⟩ := h; rw [h1]; exact fun z => nomatch z
  | dead => exact absurd rfl n
section
variable {K : PySem.W.Frag} {X : List Addr} {c : Cf} {p a : Addr} {i : Nat} {x x' : Cell} {o : HO}
/-- what is one's own is put into the store -/
theorem Okk.keep (k : Okk K (p :: X) c) (nX : p ∉ X) (hx : CellOk K c.H (vis (p :: X) c) c.i p x) (n : x ≠ .dead) :
    Okk K X ⟨c.H, c.i ++ [p], c.m ++ [x]⟩ ∧ Grow (p :: X) c X ⟨c.H, c.i ++ [p], c.m ++ [x]⟩ ∧ RepC K X ⟨c.H, c.i ++ [p], c.m ++ [x]⟩ (.cell c.m.length) (.ref p) := by
  have pre : Pre c.i (c.i ++ [p]) := fun i a e => by rw [List.getElem?_append_left (List.getElem?_eq_some_iff.mp e).1]; exact e
  have split : ∀ {i : Nat} {a : Addr}, (c.i ++ [p])[i]? = some a → c.i[i]? = some a ∨ (i = c.m.length ∧ a = p) := fun {i a} e => by
    by_cases h : i < c.i.length
    · rw [List.getElem?_append_left h] at e
      exact .inl e
    · rw [List.getElem?_append_right (by omega)] at e
      have h2 : i - c.i.length = 0 := by
        cases q : i - c.i.length with
        | zero => rfl
        | succ z => rw [q] at e; simp at e
      rw [h2] at e
      exact .inr ⟨by rw [← k.len]; omega, by simpa using e.symm⟩
  have splitm : ∀ {i : Nat} {y : Cell}, (c.m ++ [x])[i]? = some y → c.m[i]? = some y ∨ (i = c.m.length ∧ y = x) := fun {i y} e => by
    by_cases h : i < c.m.length
    · rw [List.getElem?_append_left h] at e
      exact .inl e
    · rw [List.getElem?_append_right (by omega)] at e
      have h2 : i - c.m.length = 0 := by
        cases q : i - c.m.length with
        | zero => rfl
        | succ z => rw [q] at e; simp at e
      rw [h2] at e
      exact .inr ⟨by omega, by simpa using e.symm⟩
  have lt1 : ∀ {i : Nat} {a : Addr}, c.i[i]? = some a → i < c.m.length := fun e => by rw [← k.len]; exact (List.getElem?_eq_some_iff.mp e).1
  have lt2 : ∀ {i : Nat} {y : Cell}, c.m[i]? = some y → i < c.m.length := fun e => (List.getElem?_eq_some_iff.mp e).1
  have e0 : vis X ⟨c.H, c.i ++ [p], c.m ++ [x]⟩ = vis (p :: X) c := hide_congr fun b => by
    rw [List.mem_append, List.mem_append, List.mem_cons, mem_lives, mem_lives]
    constructor
    · rintro (h | ⟨i, y, h1, h2, h3⟩)
      · exact .inl (.inr h)
      · rcases split h1 with s1 | ⟨rfl, rfl⟩
        · rcases splitm h2 with m2 | ⟨rfl, rfl⟩
          · exact .inr ⟨i, y, s1, m2, h3⟩
          · exact absurd (lt1 s1) (Nat.lt_irrefl _)
        · exact .inl (.inl rfl)
    · rintro ((h | h) | ⟨i, y, h1, h2, h3⟩)
      · refine .inr ⟨c.m.length, x, ?_, ?_, n⟩
        · rw [List.getElem?_append_right (by rw [k.len]; exact Nat.le_refl _), k.len, Nat.sub_self, h]
          rfl
        · rw [List.getElem?_append_right (Nat.le_refl _), Nat.sub_self]
          rfl
      · exact .inl h
      · exact .inr ⟨i, y, pre _ _ h1, by rw [List.getElem?_append_left (lt2 h2)]; exact h2, h3⟩
  have notp : ∀ (i : Nat) (y : Cell), c.m[i]? = some y → c.i[i]? = some p → y ≠ .dead → False := fun i y h1 h2 h3 => (k.cell i y p h1 h2 h3).2 List.mem_cons_self
  refine ⟨⟨?_, fun i j b h1 h2 h3 h4 => ?_, fun i y b h1 h2 h3 => ?_, fun b m => k.xs b (List.mem_cons_of_mem _ m)⟩, ⟨by rw [e0]; exact Same.refl _, pre, fun _ _ => rfl⟩, ⟨p, ?_, rfl⟩⟩
  · show (c.i ++ [p]).length = (c.m ++ [x]).length
    rw [List.length_append, List.length_append, k.len]
    rfl
  · obtain ⟨y, h3, h5⟩ := h3
    obtain ⟨z, h4, h6⟩ := h4
    rcases split h1 with s1 | ⟨rfl, rfl⟩
    · rcases split h2 with s2 | ⟨rfl, rfl⟩
      · rcases splitm h3 with m3 | ⟨rfl, rfl⟩
        · rcases splitm h4 with m4 | ⟨rfl, rfl⟩
          · exact k.inj i j b s1 s2 ⟨y, m3, h5⟩ ⟨z, m4, h6⟩
          · exact absurd (lt1 s2) (Nat.lt_irrefl _)
        · exact absurd (lt1 s1) (Nat.lt_irrefl _)
      · rcases splitm h3 with m3 | ⟨rfl, rfl⟩
        · exact (notp i y m3 s1 h5).elim
        · exact absurd (lt1 s1) (Nat.lt_irrefl _)
    · rcases split h2 with s2 | ⟨rfl, _⟩
      · rcases splitm h4 with m4 | ⟨rfl, rfl⟩
        · exact (notp j z m4 s2 h6).elim
        · exact absurd (lt1 s2) (Nat.lt_irrefl _)
      · rfl
  · show CellOk K c.H (vis X ⟨c.H, c.i ++ [p], c.m ++ [x]⟩) (c.i ++ [p]) b y ∧ b ∉ X
    rw [e0]
    rcases split h2 with s2 | ⟨rfl, rfl⟩
    · rcases splitm h1 with m1 | ⟨rfl, rfl⟩
      · obtain ⟨q1, q2⟩ := k.cell i y b m1 s2 h3
        exact ⟨q1.mono rfl (Same.refl _) pre, fun m => q2 (List.mem_cons_of_mem _ m)⟩
      · exact absurd (lt1 s2) (Nat.lt_irrefl _)
    · rcases splitm h1 with m1 | ⟨_, rfl⟩
      · exact absurd (lt2 m1) (Nat.lt_irrefl _)
      · exact ⟨hx.mono rfl (Same.refl _) pre, nX⟩
  · show (c.i ++ [p])[c.m.length]? = some p
    rw [← k.len, List.getElem?_append_right (Nat.le_refl _), Nat.sub_self]
    rfl
/-- a thing of the store is changed -/
theorem Okk.change (k : Okk K X c) (hi : c.m[i]? = some x) (ha : c.i[i]? = some a) (n : x ≠ .dead) (n' : x' ≠ .dead) (hx : CellOk K (upd c.H a o) (vis X c) c.i a x') :
    Okk K X ⟨upd c.H a o, c.i, c.m.set i x'⟩ ∧ Grow X c X ⟨upd c.H a o, c.i, c.m.set i x'⟩ := by
  have li : i < c.m.length := (List.getElem?_eq_some_iff.mp hi).1
  obtain ⟨q1, q2⟩ := k.cell i x a hi ha n
  have liv : ∀ b, b ∈ lives c.i (c.m.set i x') ↔ b ∈ lives c.i c.m := fun b => by
    rw [mem_lives, mem_lives]
    constructor
    · rintro ⟨j, y, h1, h2, h3⟩
      by_cases e : i = j
      · subst e
        rw [ha] at h1
        cases h1
        exact ⟨i, x, ha, hi, n⟩
      · rw [List.getElem?_set_ne e] at h2
        exact ⟨j, y, h1, h2, h3⟩
    · rintro ⟨j, y, h1, h2, h3⟩
      by_cases e : i = j
      · subst e
        exact ⟨i, x', h1, by rw [List.getElem?_set_self li], n'⟩
      · exact ⟨j, y, h1, by rw [List.getElem?_set_ne e]; exact h2, h3⟩
  have am : a ∈ X ++ lives c.i c.m := List.mem_append_right _ (mem_lives.mpr ⟨i, x, ha, hi, n⟩)
  have e0 : vis X ⟨upd c.H a o, c.i, c.m.set i x'⟩ = vis X c := by
    funext b
    show hide (upd c.H a o) (X ++ lives c.i (c.m.set i x')) b = hide c.H (X ++ lives c.i c.m) b
    have e1 : b ∈ X ++ lives c.i (c.m.set i x') ↔ b ∈ X ++ lives c.i c.m := by rw [List.mem_append, List.mem_append, liv]
    by_cases m : b ∈ X ++ lives c.i c.m
    · rw [hide_in m, hide_in (e1.mpr m)]
    · rw [hide_out m, hide_out fun z => m (e1.mp z), upd_ne fun e => m (by rw [e]; exact am)]
  have live : ∀ {j : Nat}, (∃ y : Cell, (c.m.set i x')[j]? = some y ∧ y ≠ .dead) → ∃ y : Cell, c.m[j]? = some y ∧ y ≠ .dead := fun {j} ⟨y, h1, h2⟩ => by
    by_cases e : i = j
    · subst e
      exact ⟨x, hi, n⟩
    · rw [List.getElem?_set_ne e] at h1
      exact ⟨y, h1, h2⟩
  refine ⟨⟨?_, fun j l b h1 h2 h3 h4 => k.inj j l b h1 h2 (live h3) (live h4), fun j y b h1 h2 h3 => ?_, fun b m => ?_⟩, ⟨by rw [e0]; exact Same.refl _, Pre.refl _, fun b m => upd_ne fun e => q2 (by rw [← e]; exact m)⟩⟩
  · show c.i.length = (c.m.set i x').length
    rw [List.length_set, k.len]
  · show CellOk K (upd c.H a o) (vis X ⟨upd c.H a o, c.i, c.m.set i x'⟩) c.i b y ∧ b ∉ X
    rw [e0]
    by_cases e : i = j
    · subst e
      rw [List.getElem?_set_self li] at h1
      cases h1
      rw [ha] at h2
      cases h2
      exact ⟨hx, q2⟩
    · rw [List.getElem?_set_ne e] at h1
      obtain ⟨q3, q4⟩ := k.cell j y b h1 h2 h3
      refine ⟨q3.mono (upd_ne fun e2 => e ?_) (Same.refl _) (Pre.refl _), q4⟩
      subst e2
      exact k.inj i j b ha h2 ⟨x, hi, n⟩ ⟨y, h1, h3⟩
  · show upd c.H a o b ≠ none
    rw [upd_ne fun e => q2 (by rw [← e]; exact m)]
    exact k.xs b m
/-- a thing of the store changes no more -/
theorem Okk.kill (k : Okk K X c) (hi : c.m[i]? = some x) (ha : c.i[i]? = some a) (n : x ≠ .dead) :
    Okk K X ⟨c.H, c.i, c.m.set i .dead⟩ ∧ Grow X c X ⟨c.H, c.i, c.m.set i .dead⟩ ∧ vis X ⟨c.H, c.i, c.m.set i .dead⟩ a = c.H a := by
  have li : i < c.m.length := (List.getElem?_eq_some_iff.mp hi).1
  obtain ⟨q1, q2⟩ := k.cell i x a hi ha n
  have sub : ∀ b, b ∈ lives c.i (c.m.set i .dead) → b ∈ lives c.i c.m ∧ b ≠ a := fun b m => by
    obtain ⟨j, y, h1, h2, h3⟩ := mem_lives.mp m
    by_cases e : i = j
    · subst e
      rw [List.getElem?_set_self li] at h2
      cases h2
      exact absurd rfl h3
    · rw [List.getElem?_set_ne e] at h2
      refine ⟨mem_lives.mpr ⟨j, y, h1, h2, h3⟩, fun e2 => e ?_⟩
      subst e2
      exact k.inj i j b ha h1 ⟨x, hi, n⟩ ⟨y, h2, h3⟩
  have s : Same (vis X c) (vis X ⟨c.H, c.i, c.m.set i .dead⟩) := fun b u e => by
    obtain ⟨e1, e2⟩ := hide_some e
    show hide c.H (X ++ lives c.i (c.m.set i .dead)) b = some u
    rw [hide_out fun m => e2 ((List.mem_append.mp m).elim (fun z => List.mem_append_left _ z) fun z => List.mem_append_right _ (sub b z).1)]
    exact e1
  have live : ∀ {j : Nat}, (∃ y : Cell, (c.m.set i .dead)[j]? = some y ∧ y ≠ .dead) → ∃ y : Cell, c.m[j]? = some y ∧ y ≠ .dead := fun {j} ⟨y, h1, h2⟩ => by
    by_cases e : i = j
    · subst e
      exact ⟨x, hi, n⟩
    · rw [List.getElem?_set_ne e] at h1
      exact ⟨y, h1, h2⟩
  refine ⟨⟨?_, fun j l b h1 h2 h3 h4 => k.inj j l b h1 h2 (live h3) (live h4), fun j y b h1 h2 h3 => ?_, k.xs⟩, ⟨s, Pre.refl _, fun _ _ => rfl⟩, hide_out fun m => (List.mem_append.mp m).elim q2 fun z => (sub a z).2 rfl⟩
  · show c.i.length = (c.m.set i .dead).length
    rw [List.length_set, k.len]
  · by_cases e : i = j
    · subst e
      rw [show (c.m.set i .dead)[i]? = some .dead from List.getElem?_set_self li] at h1
      cases h1
      exact absurd rfl h3
    · rw [show (c.m.set i .dead)[j]? = c.m[j]? from List.getElem?_set_ne e] at h1
      obtain ⟨q3, q4⟩ := k.cell j y b h1 h2 h3
      exact ⟨q3.mono rfl s (Pre.refl _), q4⟩
end
def Cell.lt (k : Nat) : Cell → Prop
  | .lst ds => D.lts k ds
  | .ins _ _ ds => D.lts k ds
  | .dct _ ds => D.lts k ds
  | .dead => True
theorem CellOk.lt {K : PySem.W.Frag} {H G : Hp} {ι : List Addr} {a : Addr} {x : Cell} (h : CellOk K H G ι a x) : x.lt ι.length := by
  cases x with
  | lst ds => obtain ⟨es, h1, r⟩ := h; exact Reps.lts r
  | ins C ns ds => obtain ⟨dx, es, h1, l, r⟩ := h; exact Reps.lts r
  | dct ks ds => obtain ⟨es, h1, l, r⟩ := h; exact Reps.lts r
  | dead => trivial
theorem CellOk.cut {K : PySem.W.Frag} {H G : Hp} {ι : List Addr} {a : Addr} {x : Cell} {k : Nat} (h : CellOk K H G ι a x) (l : x.lt k) : CellOk K H G (ι.take k) a x := by
  cases x with
  | lst ds => obtain ⟨es, h1, r⟩ := h; exact ⟨es, h1, Reps.cut r l⟩
  | ins C ns ds => obtain ⟨dx, es, h1, z, r⟩ := h; exact ⟨dx, es, h1, z, Reps.cut r l⟩
  | dct ks ds => obtain ⟨es, h1, z, r⟩ := h; exact ⟨es, h1, z, Reps.cut r l⟩
  | dead => trivial
/-- what is dead behind the first k cells is left out -/
def TrimOk (μ : Sto) (d : D) (μ' : Sto) : Prop := (∀ x ∈ μ'.drop μ.length, x = Cell.dead) ∧ d.lt μ.length ∧ ∀ (i : Nat) (x : Cell), i < μ.length → μ'[i]? = some x → μ[i]? = some x ∨ x.lt μ.length
open Classical in
noncomputable def trimO (μ : Sto) (d : D) (μ' : Sto) : Option (D × Sto) := if μ'.length = μ.length then some (d, μ') else if TrimOk μ d μ' then some (d, μ'.take μ.length) else some (d, μ')
theorem Okk.trim {K : PySem.W.Frag} {X : List Addr} {c0 c : Cf} {d : D} {v : V} (k0 : Okk K X c0) (k : Okk K X c) (g : Grow X c0 X c) (r : RepC K X c d v) (t : TrimOk c0.m d c.m) :
    Okk K X ⟨c.H, c.i.take c0.m.length, c.m.take c0.m.length⟩ ∧ Grow X c0 X ⟨c.H, c.i.take c0.m.length, c.m.take c0.m.length⟩ ∧ RepC K X ⟨c.H, c.i.take c0.m.length, c.m.take c0.m.length⟩ d v := by
  obtain ⟨t1, t2, t3⟩ := t
  have old : ∀ {j : Nat} {y : Cell}, c.m[j]? = some y → y ≠ .dead → j < c0.m.length := fun {j y} h n => by
    rcases Nat.lt_or_ge j c0.m.length with l | l
    · exact l
    · refine absurd (t1 y (List.mem_of_getElem? (i := j - c0.m.length) ?_)) n
      rw [List.getElem?_drop, Nat.add_sub_cancel' l]
      exact h
  have ti : ∀ {j : Nat} {b : Addr}, (c.i.take c0.m.length)[j]? = some b → c.i[j]? = some b ∧ j < c0.m.length := fun {j b} h => by
    rcases Nat.lt_or_ge j c0.m.length with l | l
    · rw [List.getElem?_take_of_lt l] at h
      exact ⟨h, l⟩
    · rw [List.getElem?_eq_none (by rw [List.length_take]; omega)] at h
      cases h
  have tm : ∀ {j : Nat} {y : Cell}, (c.m.take c0.m.length)[j]? = some y → c.m[j]? = some y ∧ j < c0.m.length := fun {j y} h => by
    rcases Nat.lt_or_ge j c0.m.length with l | l
    · rw [List.getElem?_take_of_lt l] at h
      exact ⟨h, l⟩
    · rw [List.getElem?_eq_none (by rw [List.length_take]; omega)] at h
      cases h
  have e0 : vis X ⟨c.H, c.i.take c0.m.length, c.m.take c0.m.length⟩ = vis X c := hide_congr fun b => by
    rw [List.mem_append, List.mem_append, mem_lives, mem_lives]
    constructor
    · rintro (h | ⟨j, y, h1, h2, h3⟩)
      · exact .inl h
      · exact .inr ⟨j, y, (ti h1).1, (tm h2).1, h3⟩
    · rintro (h | ⟨j, y, h1, h2, h3⟩)
      · exact .inl h
      · have l := old h2 h3
        exact .inr ⟨j, y, by rw [List.getElem?_take_of_lt l]; exact h1, by rw [List.getElem?_take_of_lt l]; exact h2, h3⟩
  refine ⟨⟨?_, fun i j b h1 h2 ⟨y, h3, h5⟩ ⟨z, h4, h6⟩ => k.inj i j b (ti h1).1 (ti h2).1 ⟨y, (tm h3).1, h5⟩ ⟨z, (tm h4).1, h6⟩, fun i y b h1 h2 h3 => ?_, k.xs⟩, ⟨by rw [e0]; exact g.same, fun i a e => ?_, g.hid⟩, ?_⟩
  · show (c.i.take _).length = (c.m.take _).length
    rw [List.length_take, List.length_take, k.len]
  · show CellOk K c.H (vis X ⟨c.H, c.i.take c0.m.length, c.m.take c0.m.length⟩) (c.i.take c0.m.length) b y ∧ b ∉ X
    rw [e0]
    obtain ⟨h4, l⟩ := tm h1
    obtain ⟨q1, q2⟩ := k.cell i y b h4 (ti h2).1 h3
    refine ⟨q1.cut ?_, q2⟩
    rcases t3 i y l h4 with h5 | h5
    · have l2 : i < c0.i.length := by rw [k0.len]; exact l
      have z := (k0.cell i y c0.i[i] h5 (List.getElem?_eq_getElem l2) h3).1.lt
      rw [k0.len] at z
      exact z
    · exact h5
  · show (c.i.take _)[i]? = some a
    rw [List.getElem?_take_of_lt (by rw [← k0.len]; exact (List.getElem?_eq_some_iff.mp e).1)]
    exact g.pre i a e
  · show Rep K (vis X _) (c.i.take _) d v
    rw [e0]
    exact Rep.cut r t2
end Z

set_option Elab.async false
set_option linter.all false
set_option maxRecDepth 100000
set_option maxHeartbeats 4000000
namespace Z
open PySem PySem.Spec L2
open PyProof.Rows hiding St
/-! ### what a text computes, as a function of its slots and the store -/
abbrev ME := Fr → Sto → Option (D × Sto)
abbrev MF := Fr → Sto → Option (List D × Sto)
abbrev MT := Fr → Sto → Option (Bool × Sto)
abbrev MG := D → Fr → Sto → Option (Fr × Sto)
inductive Ox where
  | nx (τ : Fr) (μ : Sto) | rt (d : D) (μ : Sto) | bk (τ : Fr) (μ : Sto) | ct (τ : Fr) (μ : Sto)
abbrev MS := Fr → Sto → Option Ox
abbrev MB := D → D → Sto → Option (D × Sto)
abbrev ML := List D → Sto → Option (D × Sto)
section
variable (K : PySem.W.Frag)
def RefE (te : TE) (m : ME) : Prop := ∀ (X : List Addr) (c : Cf) (τ : Fr) (σ : St) (d : D) (μ' : Sto) (Q : VK), m τ c.m = some (d, μ') → Okk K X c → Slots K X c τ σ →
  (∀ (v : V) (c' : Cf), c'.m = μ' → Okk K X c' → Grow X c X c' → RepC K X c' d v → Q v c'.H) → te σ c.H Q
/-- a list that is new, and one's own -/
def RefF (te : TE) (m : MF) : Prop := ∀ (X : List Addr) (c : Cf) (τ : Fr) (σ : St) (ds : List D) (μ' : Sto) (Q : VK), m τ c.m = some (ds, μ') → Okk K X c → Slots K X c τ σ →
  (∀ (p : Addr) (es : List V) (c' : Cf), c'.m = μ' → p ∉ X → Okk K (p :: X) c' → Grow X c (p :: X) c' → c'.H p = some (.lst es) → RepsC K (p :: X) c' ds es → Q (.ref p) c'.H) → te σ c.H Q
def RefA (ta : TA) (m : MF) : Prop := ∀ (X : List Addr) (c : Cf) (τ : Fr) (σ : St) (ds : List D) (μ' : Sto) (Q : List V → Hp → Prop), m τ c.m = some (ds, μ') → Okk K X c → Slots K X c τ σ →
  (∀ (vs : List V) (c' : Cf), c'.m = μ' → Okk K X c' → Grow X c X c' → RepsC K X c' ds vs → Q vs c'.H) → ta σ c.H Q
def RefT (tt : TT) (m : MT) : Prop := ∀ (X : List Addr) (c : Cf) (τ : Fr) (σ : St) (b : Bool) (μ' : Sto) (Q : Bool → Hp → Prop), m τ c.m = some (b, μ') → Okk K X c → Slots K X c τ σ →
  (∀ (c' : Cf), c'.m = μ' → Okk K X c' → Grow X c X c' → Q b c'.H) → tt σ c.H Q
def RefG (vs : List Nat) (g : TG) (m : MG) : Prop := ∀ (X : List Addr) (c : Cf) (τ : Fr) (σ : St) (d : D) (v : V) (τ' : Fr) (μ' : Sto) (Q : St → Hp → Prop), m d τ c.m = some (τ', μ') → Okk K X c → Slots K X c τ σ → RepC K X c d v →
  (∀ (σ' : St) (c' : Cf), c'.m = μ' → Okk K X c' → Grow X c X c' → Slots K X c' τ' σ' → wipe σ' vs = wipe σ vs → Q σ' c'.H) → g v σ c.H Q
def EndOk (X : List Addr) (c : Cf) (D : Ends) : Ox → Prop
  | .nx τ' μ' => ∀ (σ' : St) (c' : Cf), c'.m = μ' → Okk K X c' → Grow X c X c' → Slots K X c' τ' σ' → D.nx σ' c'.H
  | .bk τ' μ' => ∀ (σ' : St) (c' : Cf), c'.m = μ' → Okk K X c' → Grow X c X c' → Slots K X c' τ' σ' → D.bk σ' c'.H
  | .ct τ' μ' => ∀ (σ' : St) (c' : Cf), c'.m = μ' → Okk K X c' → Grow X c X c' → Slots K X c' τ' σ' → D.ct σ' c'.H
  | .rt d μ' => ∀ (v : V) (c' : Cf), c'.m = μ' → Okk K X c' → Grow X c X c' → RepC K X c' d v → D.rt v c'.H
def RefS (ts : TS) (m : MS) : Prop := ∀ (X : List Addr) (c : Cf) (τ : Fr) (σ : St) (o : Ox) (D : Ends), m τ c.m = some o → Okk K X c → Slots K X c τ σ → EndOk K X c D o → ts D σ c.H
def RefB (r : R2) (m : MB) : Prop := ∀ (X : List Addr) (c : Cf) (dx dy : D) (x y : V) (d : D) (μ' : Sto) (Q : VK), m dx dy c.m = some (d, μ') → Okk K X c → RepC K X c dx x → RepC K X c dy y →
  (∀ (v : V) (c' : Cf), c'.m = μ' → Okk K X c' → Grow X c X c' → RepC K X c' d v → Q v c'.H) → r x y c.H Q
def RefL (r : List V → Hp → VK → Prop) (m : ML) : Prop := ∀ (X : List Addr) (c : Cf) (ds : List D) (vs : List V) (d : D) (μ' : Sto) (Q : VK), m ds c.m = some (d, μ') → Okk K X c → RepsC K X c ds vs →
  (∀ (v : V) (c' : Cf), c'.m = μ' → Okk K X c' → Grow X c X c' → RepC K X c' d v → Q v c'.H) → r vs c.H Q
/-- a def's promise: it computes F -/
def spO (F : ML) : Sp := fun vs H Q _ => ∃ (X : List Addr) (c : Cf) (ds : List D) (d : D) (μ' : Sto), c.H = H ∧ F ds c.m = some (d, μ') ∧ Okk K X c ∧ RepsC K X c ds vs ∧
  ∀ (v : V) (c' : Cf), c'.m = μ' → Okk K X c' → Grow X c X c' → RepC K X c' d v → Q v c'.H
end
theorem bind2 {α β γ : Type} {m : Option (α × β)} {f : α × β → Option γ} {r : γ} (h : m.bind f = some r) : ∃ a b, m = some (a, b) ∧ f (a, b) = some r := by
  cases m with
  | none => cases h
  | some q => obtain ⟨a, b⟩ := q; exact ⟨a, b, rfl, h⟩
section
variable {K : PySem.W.Frag}
/-! ### expressions -/
def varO (i : Nat) : ME := fun τ μ => (τ[i]?.join).map fun d => (d, μ)
theorem refE_var {i : Nat} : RefE K (tVar i) (varO i) := fun X c τ σ d μ' Q e k s q => by
  unfold varO at e
  cases h : τ[i]? with
  | none => rw [h] at e; cases e
  | some o =>
    cases o with
    | none => rw [h] at e; cases e
    | some d' =>
      rw [h] at e
      cases e
      obtain ⟨v, h1, h2⟩ := s.at_ i d h
      exact ⟨v, h1, q v c rfl k (Grow.refl X c) h2⟩
/-- a written value -/
def cO (d : D) : ME := fun _ μ => some (d, μ)
theorem refE_c {d : D} {v : V} (h : ∀ G ι, Rep K G ι d v) : RefE K (tC v) (cO d) := fun X c τ σ d' μ' Q e k s q => by
  cases e
  exact q v c rfl k (Grow.refl X c) (h _ _)
theorem refE_int {i : Int} : RefE K (tC (.int i)) (cO (.int i)) := refE_c fun _ _ => rfl
theorem refE_bl {i : Bool} : RefE K (tC (.bl i)) (cO (.bl i)) := refE_c fun _ _ => rfl
theorem refE_non : RefE K (tC .non) (cO .non) := refE_c fun _ _ => rfl
theorem refE_str {x : Str} : RefE K (tC (.str x)) (cO (.str x)) := refE_c fun _ _ => rfl
theorem refE_ty {x : String} : RefE K (tC (.ty x)) (cO (.ty x)) := refE_c fun _ _ => rfl
theorem refE_cls {C : Str} : RefE K (tC (.ref (He.ga K C))) (cO (.cls C)) := refE_c fun _ _ => rfl
def opO (m : MB) (ma mb : ME) : ME := fun τ μ => (ma τ μ).bind fun p => (mb τ p.2).bind fun q => m p.1 q.1 q.2
theorem refE_op {r : R2} {ta tb : TE} {m : MB} {ma mb : ME} (h : RefB K r m) (ha : RefE K ta ma) (hb : RefE K tb mb) : RefE K (tOp r ta tb) (opO m ma mb) := fun X c τ σ d μ' Q e k s q => by
  obtain ⟨dx, μ1, e1, e⟩ := bind2 e
  obtain ⟨dy, μ2, e2, e⟩ := bind2 e
  refine ha X c τ σ dx μ1 _ e1 k s fun x c1 m1 k1 g1 r1 => ?_
  subst m1
  refine hb X c1 τ σ dy μ2 _ e2 k1 (g1.slots s) fun y c2 m2 k2 g2 r2 => ?_
  subst m2
  exact h X c2 dx dy x y d μ' Q e k2 (g2.rep r1) r2 fun v c3 m3 k3 g3 r3 => q v c3 m3 k3 ((g1.tr g2).tr g3) r3
def unO (m : D → Sto → Option (D × Sto)) (ma : ME) : ME := fun τ μ => (ma τ μ).bind fun p => m p.1 p.2
def RefU (K : PySem.W.Frag) (r : V → Hp → VK → Prop) (m : D → Sto → Option (D × Sto)) : Prop := ∀ (X : List Addr) (c : Cf) (dx : D) (x : V) (d : D) (μ' : Sto) (Q : VK), m dx c.m = some (d, μ') → Okk K X c → RepC K X c dx x →
  (∀ (v : V) (c' : Cf), c'.m = μ' → Okk K X c' → Grow X c X c' → RepC K X c' d v → Q v c'.H) → r x c.H Q
theorem refE_un {r : V → Hp → VK → Prop} {ta : TE} {m : D → Sto → Option (D × Sto)} {ma : ME} (h : RefU K r m) (ha : RefE K ta ma) : RefE K (tUn r ta) (unO m ma) := fun X c τ σ d μ' Q e k s q => by
  obtain ⟨dx, μ1, e1, e⟩ := bind2 e
  refine ha X c τ σ dx μ1 _ e1 k s fun x c1 m1 k1 g1 r1 => ?_
  subst m1
  exact h X c1 dx x d μ' Q e k1 r1 fun v c3 m3 k3 g3 r3 => q v c3 m3 k3 (g1.tr g3) r3
/-! argument lists -/
def nilA : MF := fun _ μ => some ([], μ)
def consA (ma : ME) (mb : MF) : MF := fun τ μ => (ma τ μ).bind fun p => (mb τ p.2).bind fun q => some (p.1 :: q.1, q.2)
theorem refA_nil : RefA K tNil nilA := fun X c τ σ ds μ' Q e k s q => by
  cases e
  exact q [] c rfl k (Grow.refl X c) rfl
theorem refA_cons {te : TE} {ta : TA} {ma : ME} {mb : MF} (ha : RefE K te ma) (hb : RefA K ta mb) : RefA K (tCons te ta) (consA ma mb) := fun X c τ σ ds μ' Q e k s q => by
  obtain ⟨dx, μ1, e1, e⟩ := bind2 e
  obtain ⟨dy, μ2, e2, e⟩ := bind2 e
  cases e
  refine ha X c τ σ dx μ1 _ e1 k s fun x c1 m1 k1 g1 r1 => ?_
  subst m1
  refine hb X c1 τ σ dy _ _ e2 k1 (g1.slots s) fun y c2 m2 k2 g2 r2 => ?_
  exact q (x :: y) c2 m2 k2 (g1.tr g2) ⟨x, y, rfl, g2.rep r1, r2⟩
/-- a call of what is built in, or of a def -/
def cbO (m : ML) (ma : MF) : ME := fun τ μ => (ma τ μ).bind fun p => m p.1 p.2
theorem refE_cb {r : List V → Hp → VK → Prop} {ta : TA} {m : ML} {ma : MF} (h : RefL K r m) (ha : RefA K ta ma) : RefE K (tCB r ta) (cbO m ma) := fun X c τ σ d μ' Q e k s q => by
  obtain ⟨dx, μ1, e1, e⟩ := bind2 e
  refine ha X c τ σ dx μ1 _ e1 k s fun x c1 m1 k1 g1 r1 => ?_
  subst m1
  exact h X c1 dx x d μ' Q e k1 r1 fun v c3 m3 k3 g3 r3 => q v c3 m3 k3 (g1.tr g3) r3
theorem refE_call {F : ML} {E : XK} {ta : TA} {ma : MF} (ha : RefA K ta ma) : RefE K (tCall (spO K F) [] E ta) (cbO F ma) := fun X c τ σ d μ' Q e k s q => by
  obtain ⟨dx, μ1, e1, e⟩ := bind2 e
  refine ha X c τ σ dx μ1 _ e1 k s fun x c1 m1 k1 g1 r1 => ?_
  subst m1
  exact ⟨X, c1, dx, d, μ', rfl, e, k1, by rw [List.append_nil]; exact r1, fun v c3 m3 k3 g3 r3 => q v c3 m3 k3 (g1.tr g3) r3⟩
/-! ### new lists, tuples -/
def lstO (ma : MF) : MF := fun τ μ => (ma τ μ).bind fun p => if p.1.length ≤ 1000000 then some p else none
theorem refF_lst {ta : TA} {ma : MF} (ha : RefA K ta ma) : RefF K (tLst ta) (lstO ma) := fun X c τ σ ds μ' Q e k s q => by
  obtain ⟨dx, μ1, e1, e⟩ := bind2 e
  by_cases hl : dx.length ≤ 1000000
  · rw [if_pos hl] at e
    cases e
    refine ha X c τ σ ds μ' _ e1 k s fun vs c1 m1 k1 g1 r1 => ⟨?_, fun p hp => ?_⟩
    · rw [Reps.length r1, sizeLine_eq]
      omega
    · obtain ⟨k2, g2⟩ := k1.own (o := .lst vs) hp
      exact q p vs ⟨upd c1.H p (.lst vs), c1.i, c1.m⟩ m1 (fun m => k1.xs p m hp) k2 (g1.trans g2 fun _ m => m) upd_same (g2.reps r1)
  · rw [if_neg hl] at e
    cases e
def tupO (ma : MF) : ME := fun τ μ => (ma τ μ).bind fun p => if p.1.length ≤ 1000000 then some (.tup p.1, p.2) else none
theorem refE_tup {ta : TA} {ma : MF} (ha : RefA K ta ma) : RefE K (tTup ta) (tupO ma) := fun X c τ σ ds μ' Q e k s q => by
  obtain ⟨dx, μ1, e1, e⟩ := bind2 e
  by_cases hl : dx.length ≤ 1000000
  · rw [if_pos hl] at e
    cases e
    refine ha X c τ σ dx _ _ e1 k s fun vs c1 m1 k1 g1 r1 => ⟨?_, fun p hp => ?_⟩
    · rw [Reps.length r1, sizeLine_eq]
      omega
    · obtain ⟨k2, g2, v2⟩ := k1.laid (o := .tup vs) hp
      exact q (.ref p) ⟨upd c1.H p (.tup vs), c1.i, c1.m⟩ m1 k2 (g1.tr g2) ⟨p, vs, rfl, v2, g2.reps r1⟩
  · rw [if_neg hl] at e
    cases e
/-- a new list, that no one will change -/
def valO (m : MF) : ME := fun τ μ => (m τ μ).bind fun p => some (.lst p.1, p.2)
theorem refE_val {te : TE} {m : MF} (h : RefF K te m) : RefE K te (valO m) := fun X c τ σ d μ' Q e k s q => by
  obtain ⟨ds, μ1, e1, e⟩ := bind2 e
  cases e
  refine h X c τ σ ds _ Q e1 k s fun p es c' m' nX k' g' h' r' => ?_
  obtain ⟨k2, g2, v2⟩ := k'.show_ nX
  exact q (.ref p) c' m' k2 (g'.trans g2 fun _ m => List.mem_cons_of_mem _ m) ⟨p, es, rfl, v2.trans h', g2.reps r'⟩
/-- a new list, that may be changed -/
def cellO (m : MF) : ME := fun τ μ => (m τ μ).bind fun p => some (.cell p.2.length, p.2 ++ [.lst p.1])
theorem refE_cell {te : TE} {m : MF} (h : RefF K te m) : RefE K te (cellO m) := fun X c τ σ d μ' Q e k s q => by
  obtain ⟨ds, μ1, e1, e⟩ := bind2 e
  cases e
  refine h X c τ σ ds μ1 Q e1 k s fun p es c' m' nX k' g' h' r' => ?_
  subst m'
  obtain ⟨k2, g2, v2⟩ := k'.keep nX (x := .lst ds) ⟨es, h', r'⟩ (fun z => nomatch z)
  exact q (.ref p) ⟨c'.H, c'.i ++ [p], c'.m ++ [.lst ds]⟩ rfl k2 (g'.trans g2 fun _ m => List.mem_cons_of_mem _ m) v2
/-- from now on it does not change -/
def frz1 (d : D) (μ : Sto) : D × Sto := match d with
  | .cell i => (match μ[i]? with
    | some (.lst ds) => (.lst ds, μ.set i .dead)
    | some (.ins C ns ds) => (.obj C ns ds, μ.set i .dead)
    | _ => (.cell i, μ))
  | d => (d, μ)
theorem frz1_ok {X : List Addr} {c : Cf} {d : D} {v : V} (k : Okk K X c) (r : RepC K X c d v) : ∃ c', c'.m = (frz1 d c.m).2 ∧ c'.H = c.H ∧ Okk K X c' ∧ Grow X c X c' ∧ RepC K X c' (frz1 d c.m).1 v := by
  have same : ∀ {d : D}, RepC K X c d v → ∃ c', c'.m = c.m ∧ c'.H = c.H ∧ Okk K X c' ∧ Grow X c X c' ∧ RepC K X c' d v := fun r => ⟨c, rfl, rfl, k, Grow.refl X c, r⟩
  unfold frz1
  cases d with
  | cell i =>
    dsimp only
    cases h : c.m[i]? with
    | none => exact same r
    | some x =>
      cases x with
      | dead => exact same r
      | dct _ _ => exact same r
      | lst ds =>
        obtain ⟨a, ha, rfl⟩ := r
        obtain ⟨⟨es, h1, r1⟩, _⟩ := k.cell i _ a h ha (fun z => nomatch z)
        obtain ⟨k2, g2, v2⟩ := k.kill h ha (fun z => nomatch z)
        exact ⟨⟨c.H, c.i, c.m.set i .dead⟩, rfl, rfl, k2, g2, a, es, rfl, v2.trans h1, g2.reps r1⟩
      | ins C ns ds =>
        obtain ⟨a, ha, rfl⟩ := r
        obtain ⟨⟨dx, es, h1, l1, r1⟩, _⟩ := k.cell i _ a h ha (fun z => nomatch z)
        obtain ⟨k2, g2, v2⟩ := k.kill h ha (fun z => nomatch z)
        exact ⟨⟨c.H, c.i, c.m.set i .dead⟩, rfl, rfl, k2, g2, a, dx, es, rfl, v2.trans h1, l1, g2.reps r1⟩
  | _ => exact same r
def frzO (m : ME) : ME := fun τ μ => (m τ μ).bind fun p => some (frz1 p.1 p.2)
theorem refE_frz {te : TE} {m : ME} (h : RefE K te m) : RefE K te (frzO m) := fun X c τ σ d μ' Q e k s q => by
  obtain ⟨d1, μ1, e1, e⟩ := bind2 e
  refine h X c τ σ d1 μ1 Q e1 k s fun v c1 m1 k1 g1 r1 => ?_
  subst m1
  obtain ⟨c2, m2, h2, k2, g2, r2⟩ := frz1_ok k1 r1
  have e' : frz1 d1 c1.m = (d, μ') := Option.some.inj e
  rw [e'] at m2 r2
  rw [← h2]
  exact q v c2 m2 k2 (g1.tr g2) r2
/-! ### reading lists -/
/-- a list that is known as one's own may be -/
def asL (μ : Sto) : D → Option (List D)
  | .lst ds => some ds
  | .cell i => (match μ[i]? with
    | some (.lst ds) => some ds
    | _ => none)
  | _ => none
theorem asL_ok {X : List Addr} {c : Cf} {d : D} {v : V} {ds : List D} (k : Okk K X c) (r : RepC K X c d v) (e : asL c.m d = some ds) : ∃ p es, v = .ref p ∧ c.H p = some (.lst es) ∧ RepsC K X c ds es := by
  unfold asL at e
  cases d with
  | lst ds' =>
    cases e
    obtain ⟨p, es, e1, h1, r1⟩ := r
    exact ⟨p, es, e1, vis_some h1, r1⟩
  | cell i =>
    dsimp only at e
    obtain ⟨a, ha, rfl⟩ := r
    cases h : c.m[i]? with
    | none => rw [h] at e; cases e
    | some x =>
      rw [h] at e
      cases x with
      | lst ds' =>
        cases e
        obtain ⟨⟨es, h1, r1⟩, _⟩ := k.cell i _ a h ha (fun z => nomatch z)
        exact ⟨a, es, rfl, h1, r1⟩
      | ins C ns ds => cases e
      | dct _ _ => cases e
      | dead => cases e
  | _ => cases e
/-- a list or a tuple, also the script -/
def asQ (μ : Sto) : D → Option (List D)
  | .tup ds => some ds
  | .scr ds => some ds
  | .ktp ds => some ds
  | d => asL μ d
theorem vis_same (X : List Addr) (c : Cf) : Same (vis X c) c.H := fun _ _ e => vis_some e
theorem asQ_ok {X : List Addr} {c : Cf} {d : D} {v : V} {ds : List D} (k : Okk K X c) (r : RepC K X c d v) (e : asQ c.m d = some ds) : ∃ p es, v = .ref p ∧ (SqL K c.H p es ∨ SqT K c.H p es) ∧ RepsC K X c ds es := by
  have main : asL c.m d = some ds → ∃ p es, v = .ref p ∧ (SqL K c.H p es ∨ SqT K c.H p es) ∧ RepsC K X c ds es := fun e => by
    obtain ⟨p, es, e1, h1, r1⟩ := asL_ok k r e
    exact ⟨p, es, e1, .inl (SqL.of h1), r1⟩
  cases d with
  | tup ds' =>
    cases e
    obtain ⟨p, es, e1, h1, r1⟩ := r
    exact ⟨p, es, e1, .inr (SqT.of (vis_some h1)), r1⟩
  | scr ds' =>
    cases e
    obtain ⟨p, es, e1, h1, r1⟩ := r
    exact ⟨p, es, e1, .inl ((vis_same X c).seq h1), r1⟩
  | ktp ds' =>
    cases e
    obtain ⟨p, es, e1, h1, r1⟩ := r
    exact ⟨p, es, e1, .inr (seqT_mono (vis_same X c) h1), r1⟩
  | _ => exact main e
end
end Z

set_option Elab.async false
set_option linter.all false
set_option maxRecDepth 100000
set_option maxHeartbeats 4000000
namespace Z
open PySem PySem.Spec L2
open PyProof.Rows hiding St
/-- the bound of great numbers -/
@[irreducible] def bigN : Nat := 2 ^ 8000
theorem bigN_eq : bigN = 2 ^ 8000 := by unfold bigN; rfl
theorem bigN_ge : (10 : Nat) ^ 200 ≤ bigN := by decide +kernel
theorem bigN_log {i : Int} (h : i.natAbs < bigN) : i.natAbs.log2 ≤ 8000 := by
  rcases Nat.lt_or_ge 8000 i.natAbs.log2 with l | l
  · exfalso
    have h0 : i.natAbs ≠ 0 := fun z => by rw [z] at l; exact absurd l (by decide)
    have h1 := (Nat.le_log2 h0).mp (Nat.le_of_lt l)
    rw [bigN_eq] at h
    exact absurd (Nat.lt_of_le_of_lt h1 h) (Nat.lt_irrefl _)
  · exact l
/-- the bound of factors -/
@[irreducible] def bigM : Nat := 2 ^ 400000
theorem bigM_eq : bigM = 2 ^ 400000 := by unfold bigM; rfl
theorem bigM_of {n k : Nat} (h : n < 2 ^ k) (hk : k ≤ 400000) : n < bigM := by
  rw [bigM_eq]
  exact Nat.lt_of_lt_of_le h (Nat.pow_le_pow_right (by decide) hk)
theorem bigM_ge : (10 : Nat) ^ 200 ≤ bigM := Nat.le_of_lt (bigM_of (k := 1000) (by decide +kernel) (by decide))
theorem bigM_log {i : Int} (h : i.natAbs < bigM) : i.natAbs.log2 ≤ 400000 := by
  rcases Nat.lt_or_ge 400000 i.natAbs.log2 with l | l
  · exfalso
    have h0 : i.natAbs ≠ 0 := fun z => by rw [z] at l; exact absurd l (by decide)
    have h1 := (Nat.le_log2 h0).mp (Nat.le_of_lt l)
    rw [bigM_eq] at h
    exact absurd (Nat.lt_of_le_of_lt h1 h) (Nat.lt_irrefl _)
  · exact l
theorem or_op {X : Cx} {f : Value → Value → Sem Value} {r r' : R2} (h : OpR X f r) (h' : OpR X f r') : OpR X f (fun x y H Q => r x y H Q ∨ r' x y H Q) := fun pins s σ H x y v u Q I rx ry q => by
  rcases q with q | q
  · exact h pins s σ H x y v u Q I rx ry q
  · exact h' pins s σ H x y v u Q I rx ry q
theorem or_call {X : Cx} {f : Value} {r r' : List V → Hp → VK → Prop} (h : CallR X f r) (h' : CallR X f r') : CallR X f (fun xs H Q => r xs H Q ∨ r' xs H Q) := fun pins s σ H xs us Q I rx q => by
  rcases q with q | q
  · exact h pins s σ H xs us Q I rx q
  · exact h' pins s σ H xs us Q I rx q
theorem or_ix {X : Cx} {r r' : R2} (h : IxR X r) (h' : IxR X r') : IxR X (fun x y H Q => r x y H Q ∨ r' x y H Q) := fun va sl pins s σ H x y v u Q I rx ry q e => by
  rcases q with q | q
  · exact h va sl pins s σ H x y v u Q I rx ry q e
  · exact h' va sl pins s σ H x y v u Q I rx ry q e
section
variable {K : PySem.W.Frag} {X : Cx}
theorem rep_int {G : Hp} {ι : List Addr} {i : Int} {v : V} (h : Rep K G ι (.int i) v) : v = .int i := h
/-! ### + -/
abbrev rAddU (K : PySem.W.Frag) : R2 := fun x y H Q => (rI0 (fun i j => .int (i + j)) x y H Q ∨ rAddS x y H Q) ∨ (rCatS K x y H Q ∨ rCatT K x y H Q)
theorem op_addU (hK : X.K = K) : OpR X (binaryOp .Add) (rAddU K) := by subst hK; exact or_op (or_op op_add op_addS) (or_op op_catS op_catT)
def asS (μ : Sto) : D → Option (List D)
  | .scr ds => some ds
  | d => asL μ d
theorem asS_ok {X : List Addr} {c : Cf} {d : D} {v : V} {ds : List D} (k : Okk K X c) (r : RepC K X c d v) (e : asS c.m d = some ds) : ∃ p es, v = .ref p ∧ SqL K c.H p es ∧ RepsC K X c ds es := by
  have main : asL c.m d = some ds → ∃ p es, v = .ref p ∧ SqL K c.H p es ∧ RepsC K X c ds es := fun e => by
    obtain ⟨p, es, e1, h1, r1⟩ := asL_ok k r e
    exact ⟨p, es, e1, SqL.of h1, r1⟩
  cases d with
  | scr ds' =>
    cases e
    obtain ⟨p, es, e1, h1, r1⟩ := r
    exact ⟨p, es, e1, (vis_same X c).seq h1, r1⟩
  | _ => exact main e
def catL (x y : D) (μ : Sto) : Option (List D × Sto) := (asS μ x).bind fun a => (asL μ y).bind fun b => if a.length + b.length ≤ 1000000 then some (a ++ b, μ) else none
def addB : MB := fun x y μ => match x, y with
  | .int i, .int j => some (.int (i + j), μ)
  | .str a, .str b => if a.length + b.length ≤ 1000000 then some (.str (a ++ b), μ) else none
  | .tup a, .tup b => if a ≠ [] ∧ b ≠ [] ∧ a.length + b.length ≤ 1000000 then some (.tup (a ++ b), μ) else none
  | x, y => (catL x y μ).bind fun p => some (.lst p.1, p.2)
/-- two lists put together: a new one -/
def RefBF (K : PySem.W.Frag) (r : R2) (m : D → D → Sto → Option (List D × Sto)) : Prop := ∀ (X : List Addr) (c : Cf) (dx dy : D) (x y : V) (ds : List D) (μ' : Sto) (Q : VK), m dx dy c.m = some (ds, μ') → Okk K X c → RepC K X c dx x → RepC K X c dy y →
  (∀ (p : Addr) (es : List V) (c' : Cf), c'.m = μ' → p ∉ X → Okk K (p :: X) c' → Grow X c (p :: X) c' → c'.H p = some (.lst es) → RepsC K (p :: X) c' ds es → Q (.ref p) c'.H) → r x y c.H Q
theorem fresh_list {X : List Addr} {c : Cf} {ds : List D} {es : List V} {Q : VK} (k : Okk K X c) (r : RepsC K X c ds es)
    (q : ∀ (p : Addr) (es : List V) (c' : Cf), c'.m = c.m → p ∉ X → Okk K (p :: X) c' → Grow X c (p :: X) c' → c'.H p = some (.lst es) → RepsC K (p :: X) c' ds es → Q (.ref p) c'.H) : ∀ p, c.H p = none → Q (.ref p) (upd c.H p (.lst es)) := fun p hp => by
  obtain ⟨k2, g2⟩ := k.own (o := .lst es) hp
  exact q p es ⟨upd c.H p (.lst es), c.i, c.m⟩ rfl (fun m => k.xs p m hp) k2 g2 upd_same (g2.reps r)
theorem refBF_cat : RefBF K (rAddU K) catL := fun X c dx dy x y ds μ' Q e k rx ry q => by
  unfold catL at e
  cases h1 : asS c.m dx with
  | none => rw [h1] at e; cases e
  | some a =>
    cases h2 : asL c.m dy with
    | none => rw [h1, h2] at e; cases e
    | some b =>
      rw [h1, h2] at e
      by_cases hl : a.length + b.length ≤ 1000000
      · have e' : some (a ++ b, c.m) = some (ds, μ') := by rw [← e]; show _ = if _ then _ else _; rw [if_pos hl]
        cases e'
        obtain ⟨p1, es1, rfl, s1, r1⟩ := asS_ok k rx h1
        obtain ⟨p2, es2, rfl, s2, r2⟩ := asL_ok k ry h2
        refine .inr (.inl ⟨p1, p2, es1, es2, rfl, rfl, s1, s2, ?_, ?_⟩)
        · rw [r1.length, r2.length, sizeLine_eq]
          omega
        · exact fresh_list k (r1.append r2) q
      · have e' : none = some (ds, μ') := by rw [← e]; show _ = if _ then _ else _; rw [if_neg hl]
        cases e'
theorem of_RefBF {r : R2} {m : D → D → Sto → Option (List D × Sto)} (h : RefBF K r m) : RefB K r (fun x y μ => (m x y μ).bind fun p => some (.lst p.1, p.2)) := fun X c dx dy x y d μ' Q e k rx ry q => by
  obtain ⟨ds, μ1, e1, e⟩ := bind2 e
  cases e
  refine h X c dx dy x y ds _ Q e1 k rx ry fun p es c' m' nX k' g' h' r' => ?_
  obtain ⟨k2, g2, v2⟩ := k'.show_ nX
  exact q (.ref p) c' m' k2 (g'.trans g2 fun _ m => List.mem_cons_of_mem _ m) ⟨p, es, rfl, v2.trans h', g2.reps r'⟩
theorem refB_add : RefB K (rAddU K) addB := fun X c dx dy x y d μ' Q e k rx ry q => by
  have rest : ((catL dx dy c.m).bind fun p => some (.lst p.1, p.2)) = some (d, μ') → rAddU K x y c.H Q := fun e => of_RefBF refBF_cat X c dx dy x y d μ' Q e k rx ry q
  have no : none = some (d, μ') → rAddU K x y c.H Q := fun z => nomatch z
  unfold addB at e
  cases dx with
  | int i =>
    cases dy with
    | int j =>
      cases e
      cases rep_int rx
      cases rep_int ry
      exact .inl (.inl ⟨i, j, rfl, rfl, q _ c rfl k (Grow.refl X c) rfl⟩)
    | _ => exact rest e
  | str a =>
    cases dy with
    | str b =>
      dsimp only at e
      by_cases hl : a.length + b.length ≤ 1000000
      · rw [if_pos hl] at e
        cases e
        cases (show x = .str a from rx)
        cases (show y = .str b from ry)
        exact .inl (.inr ⟨a, b, rfl, rfl, by rw [sizeLine_eq]; omega, q _ c rfl k (Grow.refl X c) rfl⟩)
      · rw [if_neg hl] at e
        exact no e
    | _ => exact rest e
  | tup a =>
    cases dy with
    | tup b =>
      dsimp only at e
      by_cases hl : a ≠ [] ∧ b ≠ [] ∧ a.length + b.length ≤ 1000000
      · rw [if_pos hl] at e
        cases e
        obtain ⟨p1, es1, rfl, h1, r1⟩ := rx
        obtain ⟨p2, es2, rfl, h2, r2⟩ := ry
        have l1 := r1.length
        have l2 := r2.length
        have n1 : es1 ≠ [] := fun z => hl.1 (List.length_eq_zero_iff.mp (by rw [← l1, z]; rfl))
        have n2 : es2 ≠ [] := fun z => hl.2.1 (List.length_eq_zero_iff.mp (by rw [← l2, z]; rfl))
        refine .inr (.inr ⟨p1, p2, es1, es2, rfl, rfl, SqT.of (vis_some h1), SqT.of (vis_some h2), n1, by rw [sizeLine_eq]; omega, fun z => absurd z n2, fun _ p hp => ?_⟩)
        obtain ⟨k2, g2, v2⟩ := k.laid (o := .tup (es1 ++ es2)) hp
        exact q (.ref p) ⟨upd c.H p (.tup (es1 ++ es2)), c.i, c.m⟩ rfl k2 g2 ⟨p, _, rfl, v2, g2.reps (r1.append r2)⟩
      · rw [if_neg hl] at e
        exact no e
    | _ => exact rest e
  | _ => exact rest e
/-- two expressions, a new list -/
def opF (m : D → D → Sto → Option (List D × Sto)) (ma mb : ME) : MF := fun τ μ => (ma τ μ).bind fun p => (mb τ p.2).bind fun q => m p.1 q.1 q.2
theorem refF_op {r : R2} {ta tb : TE} {m : D → D → Sto → Option (List D × Sto)} {ma mb : ME} (h : RefBF K r m) (ha : RefE K ta ma) (hb : RefE K tb mb) : RefF K (tOp r ta tb) (opF m ma mb) := fun X c τ σ d μ' Q e k s q => by
  obtain ⟨dx, μ1, e1, e⟩ := bind2 e
  obtain ⟨dy, μ2, e2, e⟩ := bind2 e
  refine ha X c τ σ dx μ1 _ e1 k s fun x c1 m1 k1 g1 r1 => ?_
  subst m1
  refine hb X c1 τ σ dy μ2 _ e2 k1 (g1.slots s) fun y c2 m2 k2 g2 r2 => ?_
  subst m2
  exact h X c2 dx dy x y d μ' Q e k2 (g2.rep r1) r2 fun p es c3 m3 nX k3 g3 h3 r3 => q p es c3 m3 nX k3 ((g1.tr g2).trans g3 fun _ m => m) h3 r3
/-! ### the other operations of whole numbers -/
def intB (f : Int → Int → D) : MB := fun x y μ => match x, y with
  | .int i, .int j => some (f i j, μ)
  | _, _ => none
theorem refB_int {f : Int → Int → D} {g : Int → Int → V} (h : ∀ G ι i j, Rep K G ι (f i j) (g i j)) : RefB K (rI0 g) (intB f) := fun X c dx dy x y d μ' Q e k rx ry q => by
  unfold intB at e
  cases dx with
  | int i =>
    cases dy with
    | int j =>
      cases e
      cases rep_int rx
      cases rep_int ry
      exact ⟨i, j, rfl, rfl, q _ c rfl k (Grow.refl X c) (h _ _ i j)⟩
    | _ => cases e
  | _ => cases e
theorem refB_sub : RefB K (rI0 fun i j => .int (i - j)) (intB fun i j => .int (i - j)) := refB_int fun _ _ _ _ => rfl
theorem refB_lt : RefB K (rI0 fun i j => .bl (decide (i < j))) (intB fun i j => .bl (decide (i < j))) := refB_int fun _ _ _ _ => rfl
theorem refB_le : RefB K (rI0 fun i j => .bl (decide (i ≤ j))) (intB fun i j => .bl (decide (i ≤ j))) := refB_int fun _ _ _ _ => rfl
theorem refB_gt : RefB K (rI0 fun i j => .bl (decide (j < i))) (intB fun i j => .bl (decide (j < i))) := refB_int fun _ _ _ _ => rfl
theorem refB_ge : RefB K (rI0 fun i j => .bl (decide (j ≤ i))) (intB fun i j => .bl (decide (j ≤ i))) := refB_int fun _ _ _ _ => rfl
open Classical in
noncomputable def intC (C : Int → Int → Prop) (f : Int → Int → D) : MB := fun x y μ => match x, y with
  | .int i, .int j => if C i j then some (f i j, μ) else none
  | _, _ => none
theorem intC_eq {C : Int → Int → Prop} {f : Int → Int → D} {i j : Int} {μ : Sto} (h : C i j) : intC C f (.int i) (.int j) μ = some (f i j, μ) := if_pos h
theorem refB_intC {C C' : Int → Int → Prop} {f : Int → Int → D} {g : Int → Int → V} (hC : ∀ i j, C i j → C' i j) (h : ∀ G ι i j, Rep K G ι (f i j) (g i j)) : RefB K (rI C' g) (intC C f) := fun X c dx dy x y d μ' Q e k rx ry q => by
  unfold intC at e
  cases dx with
  | int i =>
    cases dy with
    | int j =>
      dsimp only at e
      by_cases hc : C i j
      · rw [if_pos hc] at e
        cases e
        cases rep_int rx
        cases rep_int ry
        exact ⟨i, j, rfl, rfl, hC i j hc, q _ c rfl k (Grow.refl X c) (h _ _ i j)⟩
      · rw [if_neg hc] at e
        cases e
    | _ => cases e
  | _ => cases e
/-- * -/
def MulOk (i j : Int) : Prop := i.natAbs < 2 ^ 64 ∨ j.natAbs < 2 ^ 64 ∨ (i.natAbs < bigM ∧ j.natAbs < bigM)
def CMulU (i j : Int) : Prop := CMul i j ∨ CMulW i j
theorem op_mulV : OpR X (binaryOp .Mult) (rI CMulU fun i j => .int (i * j)) := opI fun _ _ _ _ _ _ _ hc q => mul_int q (hc.elim CMul.ok CMulW.ok)
theorem MulOk.ok {i j : Int} (h : MulOk i j) : CMulU i j := by
  rcases h with h | h | ⟨h1, h2⟩
  · exact .inl (.inl ⟨by omega, by omega⟩)
  · exact .inl (.inr ⟨by omega, by omega⟩)
  · refine .inr ?_
    have a := bigM_log h1
    have b := bigM_log h2
    show i.natAbs.log2 + j.natAbs.log2 < 1000000
    omega
abbrev rMulU (K : PySem.W.Frag) : R2 := fun x y H Q => rI CMulU (fun i j => .int (i * j)) x y H Q ∨ rRep x y H Q
theorem op_mulU : OpR X (binaryOp .Mult) (rMulU K) := or_op op_mulV op_rep
noncomputable def mulI : MB := intC MulOk fun i j => .int (i * j)
/-- a list, so often -/
def repL (x y : D) (μ : Sto) : Option (List D × Sto) := match y with
  | .int k => (asL μ x).bind fun a => if a.length * k.toNat ≤ 1000000 ∧ -(2 ^ 62) < k ∧ k < 2 ^ 62 then some ((List.replicate k.toNat a).flatten, μ) else none
  | _ => none
noncomputable def mulB : MB := fun x y μ => match x, y with
  | .int i, .int j => mulI (.int i) (.int j) μ
  | x, y => (repL x y μ).bind fun p => some (.lst p.1, p.2)
theorem Reps.rep {G : Hp} {ι : List Addr} {ds : List D} {es : List V} (h : Reps K G ι ds es) : ∀ n : Nat, Reps K G ι (List.replicate n ds).flatten (List.replicate n es).flatten
  | 0 => rfl
  | n + 1 => by
    rw [List.replicate_succ, List.replicate_succ, List.flatten_cons, List.flatten_cons]
    exact h.append (Reps.rep h n)
end
end Z

set_option Elab.async false
set_option linter.all false
set_option maxRecDepth 100000
set_option maxHeartbeats 4000000
namespace Z
open PySem PySem.Spec L2
open PyProof.Rows hiding St
section
variable {K : PySem.W.Frag} {X : Cx}
theorem refBF_rep : RefBF K (rMulU K) repL := fun X c dx dy x y ds μ' Q e k rx ry q => by
  unfold repL at e
  cases dy with
  | int n =>
    cases (show y = .int n from ry)
    dsimp only at e
    cases h1 : asL c.m dx with
    | none => rw [h1] at e; cases e
    | some a =>
      rw [h1] at e
      by_cases hl : a.length * n.toNat ≤ 1000000 ∧ -(2 ^ 62) < n ∧ n < 2 ^ 62
      · have e' : some ((List.replicate n.toNat a).flatten, c.m) = some (ds, μ') := by rw [← e]; show _ = if _ then _ else _; rw [if_pos hl]
        cases e'
        obtain ⟨p1, es1, rfl, s1, r1⟩ := asL_ok k rx h1
        refine .inr ⟨p1, n, es1, rfl, rfl, s1, by omega, by omega, ?_, ?_⟩
        · rw [r1.length, sizeLine_eq]
          omega
        · exact fresh_list k (r1.rep _) q
      · have e' : none = some (ds, μ') := by rw [← e]; show _ = if _ then _ else _; rw [if_neg hl]
        cases e'
  | _ => cases e
theorem refB_mul : RefB K (rMulU K) mulB := fun X c dx dy x y d μ' Q e k rx ry q => by
  have rest : ((repL dx dy c.m).bind fun p => some (.lst p.1, p.2)) = some (d, μ') → rMulU K x y c.H Q := fun e => of_RefBF refBF_rep X c dx dy x y d μ' Q e k rx ry q
  unfold mulB at e
  cases dx with
  | int i =>
    cases dy with
    | int j => exact .inl (refB_intC (f := fun i j => .int (i * j)) (fun _ _ => MulOk.ok) (fun _ _ _ _ => rfl) X c _ _ x y d μ' Q e k rx ry q)
    | _ => exact rest e
  | _ => exact rest e
/-! ### //, %, ** -/
def DivOk (i j : Int) : Prop := 0 < j ∧ j.natAbs < bigN
theorem refB_fdiv : RefB K (rI CDivW fun i j => .int (i / j)) (intC DivOk fun i j => .int (i / j)) := refB_intC (fun i j h => ⟨h.1, by have := bigN_log h.2; omega⟩) fun _ _ _ _ => rfl
theorem refB_mod : RefB K (rI (fun _ j => 0 < j) fun i j => .int (i % j)) (intC (fun _ j => 0 < j) fun i j => .int (i % j)) := refB_intC (fun _ _ h => h) fun _ _ _ _ => rfl
def PowOk (i j : Int) : Prop := 0 ≤ j ∧ j ≤ 10000 ∧ i.natAbs < bigN
theorem refB_pow : RefB K (rI CPowW fun i j => .int (i ^ j.toNat)) (intC PowOk fun i j => .int (i ^ j.toNat)) := refB_intC (fun i j h => by
  obtain ⟨h1, h2, h3⟩ := h
  refine ⟨h1, ?_⟩
  have l := bigN_log h3
  have b : Builtin.Int.intBits i ≤ 8001 := by
    unfold Builtin.Int.intBits
    split <;> omega
  have z : (Builtin.Int.intBits i : Int) * j ≤ 8001 * 10000 := Int.mul_le_mul (by omega) h2 h1 (by decide)
  exact Int.le_trans z (by decide)) fun _ _ _ _ => rfl
def negO (d : D) (μ : Sto) : Option (D × Sto) := match d with
  | .int i => some (.int (-i), μ)
  | _ => none
theorem refU_neg : RefU K (rU fun i => .int (-i)) negO := fun X c dx x d μ' Q e k rx q => by
  unfold negO at e
  cases dx with
  | int i => cases e; cases rep_int rx; exact ⟨i, rfl, q _ c rfl k (Grow.refl X c) rfl⟩
  | _ => cases e
/-! ### == -/
def toV : D → Option V
  | .non => some .non
  | .bl b => some (.bl b)
  | .int i => some (.int i)
  | .str x => some (.str x)
  | _ => none
theorem toV_ok {G : Hp} {ι : List Addr} {d : D} {v w : V} (r : Rep K G ι d v) (e : toV d = some w) : v = w := by
  cases d with
  | non => cases e; exact r
  | bl b => cases e; exact r
  | int b => cases e; exact r
  | str b => cases e; exact r
  | _ => cases e
mutual
def toPy : D → Option PyData
  | .non => some .none
  | .bl b => some (.bool b)
  | .int i => some (.int i)
  | .str x => some (.str x)
  | .lst ds => (toPys ds).map .list
  | .tup ds => (toPys ds).map .tuple
  | _ => none
def toPys : List D → Option (List PyData)
  | [] => some []
  | d :: ds => (toPy d).bind fun x => (toPys ds).map fun r => x :: r
end
mutual
theorem toPy_ok {H : Hp} {ι : List Addr} : ∀ {d : D} {v : V} {y : PyData}, Rep K H ι d v → toPy d = some y → Dp K H v y
  | .non, _, _, r, e => by cases e; cases (show _ = V.non from r); exact .non
  | .bl b, _, _, r, e => by cases e; cases (show _ = V.bl b from r); exact .bl b
  | .int b, _, _, r, e => by cases e; cases (show _ = V.int b from r); exact .int b
  | .str b, _, _, r, e => by cases e; cases (show _ = V.str b from r); exact .str b
  | .lst ds, _, _, ⟨p, es, e1, h, r⟩, e => by
    rw [toPy] at e
    obtain ⟨ys, e2, e3⟩ := Option.map_eq_some_iff.mp e
    subst e1 e3
    exact .lst (SqL.of h) (toPys_ok r e2)
  | .tup ds, _, _, ⟨p, es, e1, h, r⟩, e => by
    rw [toPy] at e
    obtain ⟨ys, e2, e3⟩ := Option.map_eq_some_iff.mp e
    subst e1 e3
    exact .tup (SqT.of h) (toPys_ok r e2)
  | .ty _, _, _, _, e => by cases e
  | .obj _ _ _, _, _, _, e => by cases e
  | .cls _, _, _, _, e => by cases e
  | .cell _, _, _, _, e => by cases e
  | .scr _, _, _, _, e => by cases e
  | .ktp _, _, _, _, e => by cases e
theorem toPys_ok {H : Hp} {ι : List Addr} : ∀ {ds : List D} {vs : List V} {ys : List PyData}, Reps K H ι ds vs → toPys ds = some ys → DpAll K H vs ys
  | [], _, _, r, e => by cases e; cases (show _ = [] from r); exact .nil
  | d :: ds, _, _, ⟨v, r, q, h1, h2⟩, e => by
    rw [toPys] at e
    obtain ⟨x, e1, e2⟩ := Option.bind_eq_some_iff.mp e
    obtain ⟨ys, e3, e4⟩ := Option.map_eq_some_iff.mp e2
    subst q e4
    exact .cons (toPy_ok h1 e1) (toPys_ok h2 e3)
end
def toPyT (μ : Sto) : D → Option PyData
  | .cell i => (asL μ (.cell i)).bind fun ds => (toPys ds).map .list
  | d => toPy d
theorem toPyT_ok {X : List Addr} {c : Cf} {d : D} {v : V} {y : PyData} (k : Okk K X c) (r : RepC K X c d v) (e : toPyT c.m d = some y) : Dp K c.H v y := by
  have main : toPy d = some y → Dp K c.H v y := fun e => toPy_ok (Rep.mono (vis_same X c) (Pre.refl _) r) e
  cases d with
  | cell i =>
    obtain ⟨ds, e1, e2⟩ := Option.bind_eq_some_iff.mp (show ((asL c.m (.cell i)).bind fun ds => (toPys ds).map .list) = some y from e)
    obtain ⟨ys, e3, e4⟩ := Option.map_eq_some_iff.mp e2
    obtain ⟨p, es, rfl, h1, r1⟩ := asL_ok k r e1
    subst e4
    exact .lst (SqL.of h1) (toPys_ok (Reps.mono (vis_same X c) (Pre.refl _) r1) e3)
  | _ => exact main e
def eqV2 (x y : D) : Option Bool := match toV x, toV y with
  | some a, some b => if scal a b = true then some (decide (a = b)) else none
  | _, _ => none
def eqD2 (μ : Sto) (x y : D) : Option Bool := match toPyT μ x, toPyT μ y with
  | some a, some b => if (SeqAt.shaped a && SeqAt.shaped b) = true then some (PyData.eqv a b) else none
  | _, _ => none
def eqB (neg : Bool) : MB := fun x y μ => match eqV2 x y with
  | some b => some (.bl (neg ^^ b), μ)
  | none => (eqD2 μ x y).bind fun b => some (.bl (neg ^^ b), μ)
abbrev rEqU (K : PySem.W.Frag) : R2 := fun x y H Q => rEq x y H Q ∨ rEqD K x y H Q
abbrev rNeU (K : PySem.W.Frag) : R2 := fun x y H Q => rNe x y H Q ∨ rNeD K x y H Q
theorem op_eqU (hK : X.K = K) (hu : X.A.units + 64 < cLine) : OpR X (compareOp .Eq) (rEqU K) := by subst hK; exact or_op op_eq (op_eqD hu)
theorem op_neU (hK : X.K = K) (hu : X.A.units + 64 < cLine) : OpR X (compareOp .NotEq) (rNeU K) := by subst hK; exact or_op op_ne (op_neD hu)
theorem eqV2_ok {G : Hp} {ι : List Addr} {dx dy : D} {x y : V} {b : Bool} (rx : Rep K G ι dx x) (ry : Rep K G ι dy y) (e : eqV2 dx dy = some b) : scal x y = true ∧ decide (x = y) = b := by
  unfold eqV2 at e
  cases h1 : toV dx with
  | none => rw [h1] at e; cases e
  | some a =>
    cases h2 : toV dy with
    | none => rw [h1, h2] at e; cases e
    | some a2 =>
      rw [h1, h2] at e
      dsimp only at e
      cases toV_ok rx h1
      cases toV_ok ry h2
      by_cases h : scal x y = true
      · rw [if_pos h] at e
        exact ⟨h, Option.some.inj e⟩
      · rw [if_neg h] at e
        cases e
theorem eqD2_ok {X : List Addr} {c : Cf} {dx dy : D} {x y : V} {b : Bool} (k : Okk K X c) (rx : RepC K X c dx x) (ry : RepC K X c dy y) (e : eqD2 c.m dx dy = some b) : ∃ p q, Dp K c.H x p ∧ Dp K c.H y q ∧ SeqAt.shaped p = true ∧ SeqAt.shaped q = true ∧ PyData.eqv p q = b := by
  unfold eqD2 at e
  cases h1 : toPyT c.m dx with
  | none => rw [h1] at e; cases e
  | some a =>
    cases h2 : toPyT c.m dy with
    | none => rw [h1, h2] at e; cases e
    | some a2 =>
      rw [h1, h2] at e
      dsimp only at e
      by_cases h : (SeqAt.shaped a && SeqAt.shaped a2) = true
      · rw [if_pos h] at e
        obtain ⟨s1, s2⟩ := Bool.and_eq_true_iff.mp h
        exact ⟨a, a2, toPyT_ok k rx h1, toPyT_ok k ry h2, s1, s2, Option.some.inj e⟩
      · rw [if_neg h] at e
        cases e
theorem refB_eq : RefB K (rEqU K) (eqB false) := fun X c dx dy x y d μ' Q e k rx ry q => by
  unfold eqB at e
  cases h : eqV2 dx dy with
  | some b =>
    rw [h] at e
    cases e
    obtain ⟨h1, h2⟩ := eqV2_ok rx ry h
    exact .inl ⟨h1, q _ c rfl k (Grow.refl X c) (by rw [h2]; show _ = V.bl (false ^^ b); rw [Bool.false_xor])⟩
  | none =>
    rw [h] at e
    obtain ⟨b, e1, e2⟩ := Option.bind_eq_some_iff.mp e
    cases e2
    obtain ⟨p, p2, h1, h2, h3, h4, h5⟩ := eqD2_ok k rx ry e1
    exact .inr ⟨p, p2, h1, h2, h3, h4, q _ c rfl k (Grow.refl X c) (by rw [h5]; show _ = V.bl (false ^^ b); rw [Bool.false_xor])⟩
theorem refB_ne : RefB K (rNeU K) (eqB true) := fun X c dx dy x y d μ' Q e k rx ry q => by
  unfold eqB at e
  cases h : eqV2 dx dy with
  | some b =>
    rw [h] at e
    cases e
    obtain ⟨h1, h2⟩ := eqV2_ok rx ry h
    exact .inl ⟨h1, q _ c rfl k (Grow.refl X c) (by rw [h2]; show _ = V.bl (true ^^ b); rw [Bool.true_xor])⟩
  | none =>
    rw [h] at e
    obtain ⟨b, e1, e2⟩ := Option.bind_eq_some_iff.mp e
    cases e2
    obtain ⟨p, p2, h1, h2, h3, h4, h5⟩ := eqD2_ok k rx ry e1
    exact .inr ⟨p, p2, h1, h2, h3, h4, q _ c rfl k (Grow.refl X c) (by rw [h5]; show _ = V.bl (true ^^ b); rw [Bool.true_xor])⟩
/-- is None -/
def isNonD : D → Bool
  | .non => true
  | _ => false
def isB (neg : Bool) : MB := fun x y μ => match y with
  | .non => some (.bl (neg ^^ isNonD x), μ)
  | _ => none
theorem isNonD_ok {G : Hp} {ι : List Addr} {d : D} {v : V} (r : Rep K G ι d v) : decide (v = .non) = isNonD d := by
  cases d with
  | non => cases (show v = .non from r); rfl
  | bl _ => cases (show v = .bl _ from r); rfl
  | int _ => cases (show v = .int _ from r); rfl
  | str _ => cases (show v = .str _ from r); rfl
  | ty _ => cases (show v = .ty _ from r); rfl
  | cls _ => cases (show v = .ref _ from r); rfl
  | lst _ => obtain ⟨p, es, rfl, _⟩ := r; rfl
  | tup _ => obtain ⟨p, es, rfl, _⟩ := r; rfl
  | scr _ => obtain ⟨p, es, rfl, _⟩ := r; rfl
  | ktp _ => obtain ⟨p, es, rfl, _⟩ := r; rfl
  | obj _ _ _ => obtain ⟨p, dx, es, rfl, _⟩ := r; rfl
  | cell _ => obtain ⟨p, _, rfl⟩ := r; rfl
theorem refB_is : RefB K rNil (isB false) := fun X c dx dy x y d μ' Q e k rx ry q => by
  unfold isB at e
  cases dy with
  | non => cases e; exact ⟨ry, q _ c rfl k (Grow.refl X c) (by rw [isNonD_ok rx]; show _ = V.bl (false ^^ _); rw [Bool.false_xor])⟩
  | _ => cases e
def rNotNil : R2 := fun x y H Q => y = .non ∧ Q (.bl (!decide (x = .non))) H
theorem op_notNil : OpR X (compareOp .IsNot) rNotNil := op_notN
theorem refB_notIs : RefB K rNotNil (isB true) := fun X c dx dy x y d μ' Q e k rx ry q => by
  unfold isB at e
  cases dy with
  | non => cases e; exact ⟨ry, q _ c rfl k (Grow.refl X c) (by rw [isNonD_ok rx]; show _ = V.bl (true ^^ _); rw [Bool.true_xor])⟩
  | _ => cases e
/-! ### x in xs, of flat things -/
def toVs : List D → Option (List V)
  | [] => some []
  | d :: ds => (toV d).bind fun x => (toVs ds).map fun r => x :: r
theorem toVs_ok {G : Hp} {ι : List Addr} : ∀ {ds : List D} {vs ws : List V}, Reps K G ι ds vs → toVs ds = some ws → vs = ws
  | [], _, _, r, e => by cases e; exact r
  | d :: ds, _, _, ⟨v, r, q, h1, h2⟩, e => by
    rw [toVs] at e
    obtain ⟨x, e1, e2⟩ := Option.bind_eq_some_iff.mp e
    obtain ⟨ys, e3, e4⟩ := Option.map_eq_some_iff.mp e2
    rw [q, ← e4, toV_ok h1 e1, toVs_ok h2 e3]
theorem toV_flat {d : D} {v : V} (h : toV d = some v) : flatV v = true := by cases d <;> first | (cases h; rfl) | cases h
theorem toVs_flat : ∀ {ds : List D} {vs : List V}, toVs ds = some vs → vs.all flatV = true
  | [], _, e => by cases e; rfl
  | d :: ds, _, e => by
    rw [toVs] at e
    obtain ⟨x, e1, e2⟩ := Option.bind_eq_some_iff.mp e
    obtain ⟨ys, e3, e4⟩ := Option.map_eq_some_iff.mp e2
    subst e4
    rw [List.all_cons, toV_flat e1, toVs_flat e3]
    rfl
def inB (neg : Bool) : MB := fun x y μ => (toV x).bind fun v => (asQ μ y).bind fun ds => (toVs ds).bind fun vs => some (.bl (if neg then !inV v vs else inV v vs), μ)
theorem refB_in {neg : Bool} : RefB K (rIn K neg) (inB neg) := fun X c dx dy x y d μ' Q e k rx ry q => by
  obtain ⟨v, e1, e⟩ := Option.bind_eq_some_iff.mp e
  obtain ⟨ds, e2, e⟩ := Option.bind_eq_some_iff.mp e
  obtain ⟨vs, e3, e⟩ := Option.bind_eq_some_iff.mp e
  cases e
  cases toV_ok rx e1
  obtain ⟨p, es, rfl, h, r⟩ := asQ_ok k ry e2
  cases toVs_ok r e3
  exact ⟨p, _, rfl, h, toV_flat e1, toVs_flat e3, q _ c rfl k (Grow.refl X c) rfl⟩
/-! ### items, parts -/
theorem atI_reps {G : Hp} {ι : List Addr} {ds : List D} {es : List V} {i : Int} {d : D} (r : Reps K G ι ds es) (e : atI ds i = some d) : ∃ v, atI es i = some v ∧ Rep K G ι d v := by
  unfold atI at e ⊢
  rw [r.length]
  obtain ⟨j, h1, h2⟩ := Option.bind_eq_some_iff.mp e
  obtain ⟨v, h3, h4⟩ := r.at h2
  exact ⟨v, by rw [h1]; exact h3, h4⟩
abbrev rIxU (K : PySem.W.Frag) : R2 := fun x y H Q => rIxL K x y H Q ∨ rIxT K x y H Q
theorem ix_U (hK : X.K = K) : IxR X (rIxU K) := by subst hK; exact or_ix ix_list ix_tup
def ixB : MB := fun x y μ => match y with
  | .int i => (asQ μ x).bind fun ds => (atI ds i).bind fun d => some (d, μ)
  | _ => none
theorem refB_ix : RefB K (rIxU K) ixB := fun X c dx dy x y d μ' Q e k rx ry q => by
  unfold ixB at e
  cases dy with
  | int i =>
    cases rep_int ry
    obtain ⟨ds, e1, e⟩ := Option.bind_eq_some_iff.mp e
    obtain ⟨d', e2, e⟩ := Option.bind_eq_some_iff.mp e
    cases e
    obtain ⟨p, es, rfl, h, r⟩ := asQ_ok k rx e1
    obtain ⟨v, h1, r1⟩ := atI_reps r e2
    rcases h with h | h
    · exact .inl ⟨p, es, i, v, rfl, rfl, h, h1, q _ c rfl k (Grow.refl X c) r1⟩
    · exact .inr ⟨p, es, i, v, rfl, rfl, h, h1, q _ c rfl k (Grow.refl X c) r1⟩
  | _ => cases e
abbrev MO := Fr → Sto → Option (Option Int × Sto)
def RefO (K : PySem.W.Frag) (to : TO) (m : MO) : Prop := ∀ (X : List Addr) (c : Cf) (τ : Fr) (σ : St) (o : Option Int) (μ' : Sto) (Q : Option Int → Hp → Prop), m τ c.m = some (o, μ') → Okk K X c → Slots K X c τ σ →
  (∀ (c' : Cf), c'.m = μ' → Okk K X c' → Grow X c X c' → Q o c'.H) → to σ c.H Q
def noPartO : MO := fun _ μ => some (none, μ)
def partO (m : ME) : MO := fun τ μ => (m τ μ).bind fun p => match p.1 with
  | .int i => some (some i, p.2)
  | _ => none
theorem refO_no : RefO K tNoPart noPartO := fun X c τ σ o μ' Q e k s q => by
  cases e
  exact q c rfl k (Grow.refl X c)
theorem refO_part {te : TE} {m : ME} (h : RefE K te m) : RefO K (tPart te) (partO m) := fun X c τ σ o μ' Q e k s q => by
  obtain ⟨d, μ1, e1, e⟩ := bind2 e
  cases d with
  | int i =>
    cases e
    refine h X c τ σ _ _ _ e1 k s fun v c1 m1 k1 g1 r1 => ?_
    exact ⟨i, r1, q c1 m1 k1 g1⟩
  | _ => cases e
def cutD (xs : List D) (lo hi : Option Int) : List D := (xs.drop (HT.sIx xs.length 0 lo)).take (HT.sIx xs.length xs.length hi - HT.sIx xs.length 0 lo)
abbrev rSlU (K : PySem.W.Frag) : V → Option Int → Option Int → Hp → VK → Prop := fun x lo hi H Q => rSlL K x lo hi H Q ∨ rSlT K x lo hi H Q
theorem sl_U (hK : X.K = K) : L2.SlR X (rSlU K) := by subst hK; exact SlR.or sl_list sl_tup
def slF (m : ME) (ml mh : MO) : MF := fun τ μ => (m τ μ).bind fun p => (ml τ p.2).bind fun l => (mh τ l.2).bind fun h => (asS h.2 p.1).bind fun ds => some (cutD ds l.1 h.1, h.2)
def slT (m : ME) (ml mh : MO) : ME := fun τ μ => (m τ μ).bind fun p => (ml τ p.2).bind fun l => (mh τ l.2).bind fun h => match p.1 with
  | .tup ds => if ¬ (HT.sIx ds.length 0 l.1 = 0 ∧ HT.sIx ds.length ds.length h.1 = ds.length) then some (.tup (cutD ds l.1 h.1), h.2) else none
  | d => (asS h.2 d).bind fun ds => some (.lst (cutD ds l.1 h.1), h.2)
theorem Reps.cutD {G : Hp} {ι : List Addr} {ds : List D} {es : List V} {lo hi : Option Int} (r : Reps K G ι ds es) : Reps K G ι (cutD ds lo hi) (cutV es lo hi) := by
  unfold Z.cutD cutV
  rw [r.length]
  exact (r.drop _).take _
theorem refF_sl {te : TE} {tl th : TO} {m : ME} {ml mh : MO} (h : RefE K te m) (hl : RefO K tl ml) (hh : RefO K th mh) : RefF K (L2.tSl (rSlU K) te tl th) (slF m ml mh) := fun X c τ σ ds μ' Q e k s q => by
  obtain ⟨d, μ1, e1, e⟩ := bind2 e
  obtain ⟨l, μ2, e2, e⟩ := bind2 e
  obtain ⟨u, μ3, e3, e⟩ := bind2 e
  refine h X c τ σ d μ1 _ e1 k s fun x c1 m1 k1 g1 r1 => ?_
  subst m1
  refine hl X c1 τ σ l μ2 _ e2 k1 (g1.slots s) fun c2 m2 k2 g2 => ?_
  subst m2
  refine hh X c2 τ σ u μ3 _ e3 k2 ((g1.tr g2).slots s) fun c3 m3 k3 g3 => ?_
  subst m3
  obtain ⟨ds', e4, e⟩ := Option.bind_eq_some_iff.mp e
  cases e
  obtain ⟨p, es, rfl, h1, r⟩ := asS_ok k3 ((g2.tr g3).rep r1) e4
  exact .inl ⟨p, es, rfl, h1, fresh_list k3 r.cutD fun p es c4 m4 nX k4 g4 h4 r4 => q p es c4 m4 nX k4 (((g1.tr g2).tr g3).trans g4 fun _ m => m) h4 r4⟩
theorem refE_sl {te : TE} {tl th : TO} {m : ME} {ml mh : MO} (h : RefE K te m) (hl : RefO K tl ml) (hh : RefO K th mh) : RefE K (L2.tSl (rSlU K) te tl th) (slT m ml mh) := fun X c τ σ ds μ' Q e k s q => by
  obtain ⟨d, μ1, e1, e⟩ := bind2 e
  obtain ⟨l, μ2, e2, e⟩ := bind2 e
  obtain ⟨u, μ3, e3, e⟩ := bind2 e
  have rest : ((asS μ3 d).bind fun ds => some (.lst (Z.cutD ds l u), μ3)) = some (ds, μ') → L2.tSl (rSlU K) te tl th σ c.H Q := fun e => by
    refine refE_val (refF_sl h hl hh) X c τ σ ds μ' Q ?_ k s q
    obtain ⟨ds', e4, e⟩ := Option.bind_eq_some_iff.mp e
    cases e
    show ((slF m ml mh τ c.m).bind fun p => some (D.lst p.1, p.2)) = _
    unfold slF
    rw [e1, Option.bind_some, e2, Option.bind_some, e3, Option.bind_some, e4]
    rfl
  cases d with
  | tup dt =>
    dsimp only at e
    by_cases hc : ¬ (HT.sIx dt.length 0 l = 0 ∧ HT.sIx dt.length dt.length u = dt.length)
    · rw [if_pos hc] at e
      cases e
      refine h X c τ σ _ μ1 _ e1 k s fun x c1 m1 k1 g1 r1 => ?_
      subst m1
      refine hl X c1 τ σ l μ2 _ e2 k1 (g1.slots s) fun c2 m2 k2 g2 => ?_
      subst m2
      refine hh X c2 τ σ u _ _ e3 k2 ((g1.tr g2).slots s) fun c3 m3 k3 g3 => ?_
      obtain ⟨p, es, rfl, h1, r⟩ := (g2.tr g3).rep r1
      refine .inr ⟨p, es, rfl, SqT.of (vis_some h1), by rw [r.length]; exact hc, fun p2 hp => ?_⟩
      obtain ⟨k4, g4, v4⟩ := k3.laid (o := .tup (cutV es l u)) hp
      exact q (.ref p2) ⟨upd c3.H p2 (.tup (cutV es l u)), c3.i, c3.m⟩ m3 k4 (((g1.tr g2).tr g3).tr g4) ⟨p2, _, rfl, v4, g4.reps r.cutD⟩
    · rw [if_neg hc] at e
      cases e
  | _ => exact rest e
end
end Z

set_option Elab.async false
set_option linter.all false
set_option maxRecDepth 100000
set_option maxHeartbeats 4000000
namespace Z
open PySem PySem.Spec L2
open PyProof.Rows hiding St
section
variable {K : PySem.W.Frag} {X : Cx}
/-! ### what is built in -/
theorem reps1 {G : Hp} {ι : List Addr} {d : D} {vs : List V} (h : Reps K G ι [d] vs) : ∃ v, vs = [v] ∧ Rep K G ι d v := by
  obtain ⟨e, r, rfl, h1, h2⟩ := h
  cases (show r = [] from h2)
  exact ⟨e, rfl, h1⟩
theorem reps2 {G : Hp} {ι : List Addr} {d e : D} {vs : List V} (h : Reps K G ι [d, e] vs) : ∃ v w, vs = [v, w] ∧ Rep K G ι d v ∧ Rep K G ι e w := by
  obtain ⟨a, r, rfl, h1, h2⟩ := h
  obtain ⟨w, rfl, h3⟩ := reps1 h2
  exact ⟨a, w, rfl, h1, h3⟩
def lenL : ML := fun ds μ => match ds with
  | [d] => (asQ μ d).bind fun xs => some (.int xs.length, μ)
  | _ => none
theorem refL_len : RefL K (rLenS K) lenL := fun X c ds vs d μ' Q e k r q => by
  unfold lenL at e
  match ds, e with
  | [d1], e =>
    obtain ⟨xs, e1, e⟩ := Option.bind_eq_some_iff.mp e
    cases e
    obtain ⟨v, rfl, r1⟩ := reps1 r
    obtain ⟨p, es, rfl, h, r2⟩ := asQ_ok k r1 e1
    exact ⟨p, es, rfl, h, q _ c rfl k (Grow.refl X c) (by rw [r2.length]; rfl)⟩
def intL : ML := fun ds μ => match ds with
  | [.int i] => some (.int i, μ)
  | [.bl b] => some (.int (if b then 1 else 0), μ)
  | _ => none
theorem refL_int : RefL K rInt1 intL := fun X c ds vs d μ' Q e k r q => by
  unfold intL at e
  match ds, e with
  | [.int i], e =>
    cases e
    obtain ⟨v, rfl, r1⟩ := reps1 r
    cases rep_int r1
    exact .inl ⟨i, rfl, q _ c rfl k (Grow.refl X c) rfl⟩
  | [.bl b], e =>
    cases e
    obtain ⟨v, rfl, r1⟩ := reps1 r
    cases (show v = .bl b from r1)
    exact .inr ⟨b, rfl, q _ c rfl k (Grow.refl X c) rfl⟩
def maxL : ML := fun ds μ => match ds with
  | [.int i, .int j] => some (.int (if j > i then j else i), μ)
  | _ => none
theorem refL_max : RefL K rMax2 maxL := fun X c ds vs d μ' Q e k r q => by
  unfold maxL at e
  match ds, e with
  | [.int i, .int j], e =>
    cases e
    obtain ⟨v, w, rfl, r1, r2⟩ := reps2 r
    cases rep_int r1
    cases rep_int r2
    exact ⟨i, j, rfl, q _ c rfl k (Grow.refl X c) rfl⟩
def minL : ML := fun ds μ => match ds with
  | [.int i, .int j] => some (.int (if j < i then j else i), μ)
  | _ => none
theorem refL_min : RefL K rMin2 minL := fun X c ds vs d μ' Q e k r q => by
  unfold minL at e
  match ds, e with
  | [.int i, .int j], e =>
    cases e
    obtain ⟨v, w, rfl, r1, r2⟩ := reps2 r
    cases rep_int r1
    cases rep_int r2
    exact ⟨i, j, rfl, q _ c rfl k (Grow.refl X c) rfl⟩
def intsD : List D → Option (List Int)
  | [] => some []
  | .int i :: ds => (intsD ds).map fun r => i :: r
  | _ => none
theorem intsD_ok {G : Hp} {ι : List Addr} : ∀ {ds : List D} {vs : List V} {ns : List Int}, Reps K G ι ds vs → intsD ds = some ns → vs = ns.map V.int
  | [], _, _, r, e => by cases e; exact r
  | .int i :: ds, _, _, ⟨v, r, q, h1, h2⟩, e => by
    rw [intsD] at e
    obtain ⟨ys, e3, e4⟩ := Option.map_eq_some_iff.mp e
    rw [q, ← e4, rep_int h1, intsD_ok h2 e3]
    rfl
  | .non :: _, _, _, _, e => by cases e
  | .bl _ :: _, _, _, _, e => by cases e
  | .str _ :: _, _, _, _, e => by cases e
  | .ty _ :: _, _, _, _, e => by cases e
  | .lst _ :: _, _, _, _, e => by cases e
  | .tup _ :: _, _, _, _, e => by cases e
  | .scr _ :: _, _, _, _, e => by cases e
  | .ktp _ :: _, _, _, _, e => by cases e
  | .cls _ :: _, _, _, _, e => by cases e
  | .cell _ :: _, _, _, _, e => by cases e
  | .obj _ _ _ :: _, _, _, _, e => by cases e
theorem intsD_map (ns : List Int) : intsD (ns.map D.int) = some ns := by
  induction ns with
  | nil => rfl
  | cons n ns ih => rw [List.map_cons, intsD, ih]; rfl
def blsD : List D → Option (List Bool)
  | [] => some []
  | .bl i :: ds => (blsD ds).map fun r => i :: r
  | _ => none
theorem blsD_ok {G : Hp} {ι : List Addr} : ∀ {ds : List D} {vs : List V} {ns : List Bool}, Reps K G ι ds vs → blsD ds = some ns → vs = ns.map V.bl
  | [], _, _, r, e => by cases e; exact r
  | .bl i :: ds, _, _, ⟨v, r, q, h1, h2⟩, e => by
    rw [blsD] at e
    obtain ⟨ys, e3, e4⟩ := Option.map_eq_some_iff.mp e
    rw [q, ← e4, show v = .bl i from h1, blsD_ok h2 e3]
    rfl
  | .non :: _, _, _, _, e => by cases e
  | .int _ :: _, _, _, _, e => by cases e
  | .str _ :: _, _, _, _, e => by cases e
  | .ty _ :: _, _, _, _, e => by cases e
  | .lst _ :: _, _, _, _, e => by cases e
  | .tup _ :: _, _, _, _, e => by cases e
  | .scr _ :: _, _, _, _, e => by cases e
  | .ktp _ :: _, _, _, _, e => by cases e
  | .cls _ :: _, _, _, _, e => by cases e
  | .cell _ :: _, _, _, _, e => by cases e
  | .obj _ _ _ :: _, _, _, _, e => by cases e
theorem blsD_map (ns : List Bool) : blsD (ns.map D.bl) = some ns := by
  induction ns with
  | nil => rfl
  | cons n ns ih => rw [List.map_cons, blsD, ih]; rfl
def sumL : ML := fun ds μ => match ds with
  | [d] => (asS μ d).bind fun xs => (intsD xs).bind fun ns => some (.int ns.sum, μ)
  | _ => none
theorem refL_sum : RefL K (rSum K) sumL := fun X c ds vs d μ' Q e k r q => by
  unfold sumL at e
  match ds, e with
  | [d1], e =>
    obtain ⟨xs, e1, e⟩ := Option.bind_eq_some_iff.mp e
    obtain ⟨ns, e2, e⟩ := Option.bind_eq_some_iff.mp e
    cases e
    obtain ⟨v, rfl, r1⟩ := reps1 r
    obtain ⟨p, es, rfl, h, r2⟩ := asS_ok k r1 e1
    cases intsD_ok r2 e2
    exact ⟨p, ns, rfl, h, q _ c rfl k (Grow.refl X c) rfl⟩
def allL : ML := fun ds μ => match ds with
  | [d] => (asS μ d).bind fun xs => (blsD xs).bind fun ns => some (.bl (ns.all id), μ)
  | _ => none
theorem refL_all : RefL K (rAll K) allL := fun X c ds vs d μ' Q e k r q => by
  unfold allL at e
  match ds, e with
  | [d1], e =>
    obtain ⟨xs, e1, e⟩ := Option.bind_eq_some_iff.mp e
    obtain ⟨ns, e2, e⟩ := Option.bind_eq_some_iff.mp e
    cases e
    obtain ⟨v, rfl, r1⟩ := reps1 r
    obtain ⟨p, es, rfl, h, r2⟩ := asS_ok k r1 e1
    cases blsD_ok r2 e2
    exact ⟨p, ns, rfl, h, q _ c rfl k (Grow.refl X c) rfl⟩
def anyL : ML := fun ds μ => match ds with
  | [d] => (asS μ d).bind fun xs => (blsD xs).bind fun ns => some (.bl (ns.any id), μ)
  | _ => none
theorem refL_any : RefL K (rAny K) anyL := fun X c ds vs d μ' Q e k r q => by
  unfold anyL at e
  match ds, e with
  | [d1], e =>
    obtain ⟨xs, e1, e⟩ := Option.bind_eq_some_iff.mp e
    obtain ⟨ns, e2, e⟩ := Option.bind_eq_some_iff.mp e
    cases e
    obtain ⟨v, rfl, r1⟩ := reps1 r
    obtain ⟨p, es, rfl, h, r2⟩ := asS_ok k r1 e1
    cases blsD_ok r2 e2
    exact ⟨p, ns, rfl, h, q _ c rfl k (Grow.refl X c) rfl⟩
/-- list(xs) -/
def rListU (K : PySem.W.Frag) : List V → Hp → VK → Prop := fun xs H Q => ∃ p ys, xs = [.ref p] ∧ (SqL K H p ys ∨ SqT K H p ys) ∧ ∀ l, H l = none → Q (.ref l) (upd H l (.lst ys))
theorem cListU (hK : X.K = K) : CallR X (.type "list") (rListU K) := by subst hK; exact call_list_of
def listF (ma : MF) : MF := fun τ μ => (ma τ μ).bind fun p => match p.1 with
  | [d] => (asQ p.2 d).bind fun xs => some (xs, p.2)
  | _ => none
theorem refF_list {ta : TA} {ma : MF} (ha : RefA K ta ma) : RefF K (tCB (rListU K) ta) (listF ma) := fun X c τ σ ds μ' Q e k s q => by
  obtain ⟨as, μ1, e1, e⟩ := bind2 e
  refine ha X c τ σ as μ1 _ e1 k s fun vs c1 m1 k1 g1 r1 => ?_
  subst m1
  match as, e with
  | [d1], e =>
    obtain ⟨xs, e2, e⟩ := Option.bind_eq_some_iff.mp e
    cases e
    obtain ⟨v, rfl, r2⟩ := reps1 r1
    obtain ⟨p, es, rfl, h, r3⟩ := asQ_ok k1 r2 e2
    exact ⟨p, es, rfl, h, fresh_list k1 r3 fun p es c4 m4 nX k4 g4 h4 r4 => q p es c4 m4 nX k4 (g1.trans g4 fun _ m => m) h4 r4⟩
/-- repr of data -/
abbrev rReprU (K : PySem.W.Frag) : List V → Hp → VK → Prop := fun xs H Q => rTxtI xs H Q ∨ rReprD K xs H Q
theorem cReprU (hK : X.K = K) (hgd : X.A.guards = some []) (hu : X.A.units + 64 < cLine) : CallR X (.builtin "repr") (rReprU K) := by subst hK; exact or_call cReprI (cReprD hgd hu)
def ShowOk (d : PyData) : Prop := d.showable = true ∧ d.hasDict = false ∧ d.depth ≤ 60 ∧ d.shown.length ≤ 16000000
/-- data of a list whose items may be lists that change -/
def toPysT (μ : Sto) : List D → Option (List PyData)
  | [] => some []
  | d :: ds => (toPyT μ d).bind fun x => (toPysT μ ds).map fun r => x :: r
theorem toPysT_ok {X : List Addr} {c : Cf} (k : Okk K X c) : ∀ {ds : List D} {vs : List V} {ys : List PyData}, RepsC K X c ds vs → toPysT c.m ds = some ys → DpAll K c.H vs ys
  | [], _, _, r, e => by cases e; cases (show _ = [] from r); exact .nil
  | d :: ds, _, _, ⟨v, r, q, h1, h2⟩, e => by
    rw [toPysT] at e
    obtain ⟨x, e1, e2⟩ := Option.bind_eq_some_iff.mp e
    obtain ⟨ys, e3, e4⟩ := Option.map_eq_some_iff.mp e2
    subst q e4
    exact .cons (toPyT_ok k h1 e1) (toPysT_ok k h2 e3)
def refDat (μ : Sto) : D → Option PyData
  | .tup ds => (toPys ds).map .tuple
  | d => (asL μ d).bind fun xs => (toPysT μ xs).map .list
theorem refDat_ok {X : List Addr} {c : Cf} {d : D} {v : V} {y : PyData} (k : Okk K X c) (r : RepC K X c d v) (e : refDat c.m d = some y) : ∃ p, v = .ref p ∧ Dp K c.H v y := by
  have main : ((asL c.m d).bind fun xs => (toPysT c.m xs).map .list) = some y → ∃ p, v = .ref p ∧ Dp K c.H v y := fun e => by
    obtain ⟨xs, e1, e⟩ := Option.bind_eq_some_iff.mp e
    obtain ⟨ys, e2, e3⟩ := Option.map_eq_some_iff.mp e
    obtain ⟨p, es, rfl, h, r2⟩ := asL_ok k r e1
    subst e3
    exact ⟨p, rfl, .lst (SqL.of h) (toPysT_ok k r2 e2)⟩
  cases d with
  | tup ds =>
    obtain ⟨p, es, rfl, h, r2⟩ := r
    obtain ⟨ys, e2, e3⟩ := Option.map_eq_some_iff.mp (show (toPys ds).map .tuple = some y from e)
    subst e3
    exact ⟨p, rfl, .tup (SqT.of (vis_some h)) (toPys_ok (Reps.mono (vis_same X c) (Pre.refl _) r2) e2)⟩
  | _ => exact main e
open Classical in
noncomputable def reprL : ML := fun ds μ => match ds with
  | [.int i] => if i.natAbs.log2 < 1920 then some (.str (toString i), μ) else none
  | [d] => (refDat μ d).bind fun y => if ShowOk y then some (.str y.shown, μ) else none
  | _ => none
theorem refL_repr : RefL K (rReprU K) reprL := fun X c ds vs d μ' Q e k r q => by
  have main : ∀ d1, ds = [d1] → ((refDat c.m d1).bind fun y => @ite _ (ShowOk y) (Classical.propDecidable _) (some (.str y.shown, c.m)) none) = some (d, μ') → rReprU K vs c.H Q := fun d1 hd e' => by
    subst hd
    obtain ⟨y, e1, e2⟩ := Option.bind_eq_some_iff.mp e'
    by_cases hs : ShowOk y
    · rw [if_pos hs] at e2
      cases e2
      obtain ⟨v, rfl, r1⟩ := reps1 r
      obtain ⟨p, rfl, h⟩ := refDat_ok k r1 e1
      obtain ⟨s1, s2, s3, s4⟩ := hs
      exact .inr ⟨p, y, rfl, h, s1, s2, s3, by rw [sizeLine_eq]; omega, q _ c rfl k (Grow.refl X c) rfl⟩
    · rw [if_neg hs] at e2
      cases e2
  unfold reprL at e
  match ds, e, main with
  | [.int i], e, _ =>
    dsimp only at e
    by_cases h2 : i.natAbs.log2 < 1920
    · rw [if_pos h2] at e
      cases e
      obtain ⟨v, rfl, r1⟩ := reps1 r
      cases rep_int r1
      exact .inl ⟨i, rfl, h2, q _ c rfl k (Grow.refl X c) rfl⟩
    · rw [if_neg h2] at e; cases e
  | [.non], e, main => exact main _ rfl e
  | [.bl _], e, main => exact main _ rfl e
  | [.str _], e, main => exact main _ rfl e
  | [.ty _], e, main => exact main _ rfl e
  | [.lst _], e, main => exact main _ rfl e
  | [.tup _], e, main => exact main _ rfl e
  | [.scr _], e, main => exact main _ rfl e
  | [.ktp _], e, main => exact main _ rfl e
  | [.cls _], e, main => exact main _ rfl e
  | [.cell _], e, main => exact main _ rfl e
  | [.obj _ _ _], e, main => exact main _ rfl e
/-! ### isinstance -/
inductive Kd where
  | ty (n : String) | cl (C : Str)
  deriving DecidableEq
def Kd.val (K : PySem.W.Frag) : Kd → Value
  | .ty n => .type n
  | .cl C => .ref (He.ga K C)
def kd (μ : Sto) : D → Option Kd
  | .non => some (.ty "NoneType")
  | .bl _ => some (.ty "bool")
  | .int _ => some (.ty "int")
  | .str _ => some (.ty "str")
  | .lst _ => some (.ty "list")
  | .tup _ => some (.ty "tuple")
  | .obj C _ _ => some (.cl C)
  | .cell i => (match μ[i]? with
    | some (.lst _) => some (.ty "list")
    | some (.ins C _ _) => some (.cl C)
    | _ => none)
  | _ => none
/-- which classes' instances may be asked -/
def InsOk (K : PySem.W.Frag) (Cs : List Str) : Prop := ∀ C ∈ Cs, Cls K (He.ga K C) ∧ insB K (He.ga K C) = true
theorem kd_ok {Cs : List Str} (ic : InsOk K Cs) {X : List Addr} {c : Cf} {d : D} {v : V} {t : Kd} (k : Okk K X c) (r : RepC K X c d v) (e : kd c.m d = some t) (hc : ∀ C, t = .cl C → C ∈ Cs) : TyX K c.H v (t.val K) := by
  cases d with
  | non => cases e; cases (show v = .non from r); exact .base .non
  | bl b => cases e; cases (show v = .bl b from r); exact .base (.bl b)
  | int b => cases e; cases (show v = .int b from r); exact .base (.int b)
  | str b => cases e; cases (show v = .str b from r); exact .base (.str b)
  | lst ds => cases e; obtain ⟨p, es, rfl, h, _⟩ := r; exact .base (.lst (vis_some h))
  | tup ds => cases e; obtain ⟨p, es, rfl, h, _⟩ := r; exact .base (.tup (vis_some h))
  | obj C ns ds =>
    cases e
    obtain ⟨a, dx, es, rfl, h, _⟩ := r
    obtain ⟨c1, c2⟩ := ic C (hc C rfl)
    exact insB_ok c2 c1 (vis_some h)
  | cell i =>
    obtain ⟨a, ha, rfl⟩ := r
    unfold kd at e
    dsimp only at e
    cases h : c.m[i]? with
    | none => rw [h] at e; cases e
    | some x =>
      rw [h] at e
      cases x with
      | dead => cases e
      | dct _ _ => cases e
      | lst ds =>
        cases e
        obtain ⟨⟨es, h1, r1⟩, _⟩ := k.cell i _ a h ha (fun z => nomatch z)
        exact .base (.lst h1)
      | ins C ns ds =>
        cases e
        obtain ⟨⟨dx, es, h1, l1, r1⟩, _⟩ := k.cell i _ a h ha (fun z => nomatch z)
        obtain ⟨c1, c2⟩ := ic C (hc C rfl)
        exact insB_ok c2 c1 h1
  | _ => cases e
def kdC : D → Option Kd
  | .ty n => some (.ty n)
  | .cls C => some (.cl C)
  | _ => none
theorem kdC_ok {G : Hp} {ι : List Addr} {d : D} {v : V} {t : Kd} (r : Rep K G ι d v) (e : kdC d = some t) : ClsV v (t.val K) := by
  cases d with
  | ty n => cases e; cases (show v = .ty n from r); exact .ty n
  | cls C => cases e; cases (show v = .ref _ from r); exact .own _
  | _ => cases e
/-- tb: the table of what is a kind of what -/
def isiL (tb : Kd → Kd → Option Bool) : ML := fun ds μ => match ds with
  | [d, e] => (kd μ d).bind fun t => (kdC e).bind fun u => (tb t u).bind fun b => some (.bl b, μ)
  | _ => none
structure TbOk (K : PySem.W.Frag) (Cs : List Str) (tb : Kd → Kd → Option Bool) : Prop where
  ins : InsOk K Cs
  cl : ∀ C u b, tb (.cl C) u = some b → C ∈ Cs
  ok : ∀ t u b, tb t u = some b → PySem.W.kitOne K (t.val K) (u.val K) = some b
theorem refL_isi {Cs : List Str} {tb : Kd → Kd → Option Bool} (T : TbOk K Cs tb) : RefL K (rIsi K) (isiL tb) := fun X c ds vs d μ' Q e k r q => by
  unfold isiL at e
  match ds, e with
  | [d1, d2], e =>
    obtain ⟨t, e1, e⟩ := Option.bind_eq_some_iff.mp e
    obtain ⟨u, e2, e⟩ := Option.bind_eq_some_iff.mp e
    obtain ⟨b, e3, e⟩ := Option.bind_eq_some_iff.mp e
    cases e
    obtain ⟨v, w, rfl, r1, r2⟩ := reps2 r
    exact ⟨v, w, t.val K, u.val K, b, rfl, kdC_ok r2 e2, kd_ok T.ins k r1 e1 (fun C z => T.cl C u b (by rw [← z]; exact e3)), T.ok t u b e3, q _ c rfl k (Grow.refl X c) rfl⟩
end
end Z

set_option Elab.async false
set_option linter.all false
set_option maxRecDepth 100000
set_option maxHeartbeats 4000000
namespace Z
open PySem PySem.Spec L2
open PyProof.Rows hiding St
section
variable {K : PySem.W.Frag} {X : Cx}
/-! ### instances -/
def asI (μ : Sto) : D → Option (Str × List Str × List D)
  | .obj C ns ds => some (C, ns, ds)
  | .cell i => (match μ[i]? with
    | some (.ins C ns ds) => some (C, ns, ds)
    | _ => none)
  | _ => none
theorem asI_ok {X : List Addr} {c : Cf} {d : D} {v : V} {C : Str} {ns : List Str} {ds : List D} (k : Okk K X c) (r : RepC K X c d v) (e : asI c.m d = some (C, ns, ds)) :
    ∃ a dx es, v = .ref a ∧ c.H a = some (.ins (He.ga K C) dx (ns.zip es)) ∧ ns.length = ds.length ∧ RepsC K X c ds es := by
  cases d with
  | obj C' ns' ds' =>
    cases e
    obtain ⟨a, dx, es, rfl, h, l, r1⟩ := r
    exact ⟨a, dx, es, rfl, vis_some h, l, r1⟩
  | cell i =>
    obtain ⟨a, ha, rfl⟩ := r
    unfold asI at e
    dsimp only at e
    cases h : c.m[i]? with
    | none => rw [h] at e; cases e
    | some x =>
      rw [h] at e
      cases x with
      | dead => cases e
      | dct _ _ => cases e
      | lst ds => cases e
      | ins C' ns' ds' =>
        cases e
        obtain ⟨⟨dx, es, h1, l1, r1⟩, _⟩ := k.cell i _ a h ha (fun z => nomatch z)
        exact ⟨a, dx, es, rfl, h1, l1, r1⟩
  | _ => cases e
theorem zip_lookup {G : Hp} {ι : List Addr} {f : Str} : ∀ {ns : List Str} {ds : List D} {es : List V} {d : D}, Reps K G ι ds es → (ns.zip ds).lookup f = some d → ∃ v, (ns.zip es).lookup f = some v ∧ Rep K G ι d v
  | [], _, _, _, _, e => by cases e
  | _ :: _, [], _, _, _, e => by simp at e
  | n :: ns, d0 :: ds, _, d, ⟨v, r, q, h1, h2⟩, e => by
    subst q
    rw [List.zip_cons_cons, List.lookup_cons] at e ⊢
    cases h : f == n with
    | true => rw [h] at e; cases e; exact ⟨v, rfl, h1⟩
    | false => rw [h] at e; exact zip_lookup h2 e
theorem zip_none {G : Hp} {ι : List Addr} {f : Str} : ∀ {ns : List Str} {ds : List D} {es : List V}, Reps K G ι ds es → (ns.zip ds).lookup f = none → (ns.zip es).lookup f = none
  | [], _, _, _, _ => rfl
  | _ :: _, [], _, r, _ => by rw [show _ = [] from r]; rfl
  | n :: ns, d0 :: ds, _, ⟨v, r, q, h1, h2⟩, e => by
    subst q
    rw [List.zip_cons_cons, List.lookup_cons] at e ⊢
    cases h : f == n with
    | true => rw [h] at e; cases e
    | false => rw [h] at e; exact zip_none h2 e
/-- e.f -/
def fldO (Cs : List Str) (f : Str) (m : ME) : ME := fun τ μ => (m τ μ).bind fun p => (asI p.2 p.1).bind fun o => if o.1 ∈ Cs then ((o.2.1.zip o.2.2).lookup f).bind fun d => some (d, p.2) else none
def FldOk (K : PySem.W.Frag) (Cs : List Str) (f : Str) : Prop := ∀ C ∈ Cs, Cls K (He.ga K C) ∧ NoAttr K (He.ga K C) f
theorem refE_fld {te : TE} {m : ME} {Cs : List Str} {f : Str} (F : FldOk K Cs f) (h : RefE K te m) : RefE K (tFld K te f) (fldO Cs f m) := fun X c τ σ d μ' Q e k s q => by
  obtain ⟨d1, μ1, e1, e⟩ := bind2 e
  obtain ⟨⟨C, ns, ds⟩, e2, e⟩ := Option.bind_eq_some_iff.mp e
  dsimp only at e
  by_cases hC : C ∈ Cs
  · rw [if_pos hC] at e
    obtain ⟨d', e3, e⟩ := Option.bind_eq_some_iff.mp e
    cases e
    refine h X c τ σ d1 _ _ e1 k s fun x c1 m1 k1 g1 r1 => ?_
    subst m1
    obtain ⟨a, dx, es, rfl, h1, l1, r2⟩ := asI_ok k1 r1 e2
    obtain ⟨v, h2, r3⟩ := zip_lookup r2 e3
    exact ⟨a, _, dx, _, v, rfl, h1, (F C hC).1, (F C hC).2, h2, q v c1 rfl k1 g1 r3⟩
  · rw [if_neg hC] at e
    cases e
/-- e.f, a property -/
def propO (C : Str) (F : ML) (m : ME) : ME := fun τ μ => (m τ μ).bind fun p => (asI p.2 p.1).bind fun o => if o.1 = C then F [p.1] p.2 else none
theorem refE_prop {te : TE} {m : ME} {C : Str} {F : ML} {E : XK} (h : RefE K te m) : RefE K (tProp (He.ga K C) (spO K F) [] E te) (propO C F m) := fun X c τ σ d μ' Q e k s q => by
  obtain ⟨d1, μ1, e1, e⟩ := bind2 e
  obtain ⟨⟨C', ns, ds⟩, e2, e⟩ := Option.bind_eq_some_iff.mp e
  dsimp only at e
  by_cases hC : C' = C
  · have e' : F [d1] μ1 = some (d, μ') := by rw [if_pos hC] at e; exact e
    clear e
    subst hC
    refine h X c τ σ d1 _ _ e1 k s fun x c1 m1 k1 g1 r1 => ?_
    subst m1
    obtain ⟨a, dx, es, rfl, h1, l1, r2⟩ := asI_ok k1 r1 e2
    exact ⟨a, dx, _, rfl, h1, X, c1, [d1], d, μ', rfl, e', k1, ⟨_, [], rfl, r1, rfl⟩, fun v c2 m2 k2 g2 r3 => q v c2 m2 k2 (g1.tr g2) r3⟩
  · rw [if_neg hC] at e
    cases e
/-- e.m(..) -/
def methO (C m : Str) (F : ML) (mo : ME) (ma : MF) : ME := fun τ μ => (mo τ μ).bind fun p => (asI p.2 p.1).bind fun o => if o.1 = C ∧ (o.2.1.zip o.2.2).lookup m = none then (ma τ p.2).bind fun a => F (p.1 :: a.1) a.2 else none
theorem refE_meth {te : TE} {ta : TA} {mo : ME} {ma : MF} {C m : Str} {F : ML} {E : XK} (h : RefE K te mo) (ha : RefA K ta ma) : RefE K (tMeth (He.ga K C) m (spO K F) [] E te ta) (methO C m F mo ma) := fun X c τ σ d μ' Q e k s q => by
  obtain ⟨d1, μ1, e1, e⟩ := bind2 e
  obtain ⟨⟨C', ns, ds⟩, e2, e⟩ := Option.bind_eq_some_iff.mp e
  dsimp only at e
  by_cases hC : C' = C ∧ (ns.zip ds).lookup m = none
  · have e' : ((ma τ μ1).bind fun a => F (d1 :: a.1) a.2) = some (d, μ') := by rw [if_pos hC] at e; exact e
    clear e
    obtain ⟨hC, hm⟩ := hC
    subst hC
    obtain ⟨as, μ2, e3, e4⟩ := bind2 e'
    refine h X c τ σ d1 _ _ e1 k s fun x c1 m1 k1 g1 r1 => ?_
    subst m1
    obtain ⟨a, dx, es, rfl, h1, l1, r2⟩ := asI_ok k1 r1 e2
    refine ⟨a, dx, _, rfl, h1, zip_none r2 hm, ?_⟩
    refine ha X c1 τ σ as μ2 _ e3 k1 (g1.slots s) fun vs c2 m2 k2 g2 r3 => ?_
    subst m2
    exact ⟨X, c2, d1 :: as, d, μ', rfl, e4, k2, ⟨_, _, rfl, g2.rep r1, by rw [List.append_nil]; exact r3⟩, fun v c3 m3 k3 g3 r4 => q v c3 m3 k3 ((g1.tr g2).tr g3) r4⟩
  · rw [if_neg hC] at e
    cases e
/-- e.m() -/
def meth0O (C m : Str) (F : ML) (mo : ME) : ME := methO C m F mo nilA
/-- C(..): a new instance, that may be changed -/
def makeO (C : Str) (F : ML) (ma : MF) : ME := fun τ μ => (ma τ μ).bind fun a => match F (.cell a.2.length :: a.1) (a.2 ++ [.ins C [] []]) with
  | some (.non, μ') => some (.cell a.2.length, μ')
  | _ => none
theorem refE_make {ta : TA} {ma : MF} {C : Str} {F : ML} {E : XK} (ha : RefA K ta ma) : RefE K (tMake (He.ga K C) (spO K F) [] E ta) (makeO C F ma) := fun X c τ σ d μ' Q e k s q => by
  obtain ⟨as, μ1, e1, e⟩ := bind2 e
  dsimp only at e
  refine ha X c τ σ as μ1 _ e1 k s fun vs c1 m1 k1 g1 r1 x dx hx hdx hne => ?_
  subst m1
  obtain ⟨k2, g2, _⟩ := k1.laid (o := .own x) hdx
  have hx2 : (upd c1.H dx (.own x)) x = none := by rw [upd_ne (fun z => hne z.symm)]; exact hx
  have nX : x ∉ X := fun m => k1.xs x m hx
  obtain ⟨k3, g3⟩ := Okk.own (o := .ins (He.ga K C) dx []) k2 hx2
  obtain ⟨k4, g4, r4⟩ := k3.keep nX (x := .ins C [] []) ⟨dx, [], upd_same, rfl, rfl⟩ (fun z => nomatch z)
  have g : Grow X c1 X ⟨upd (upd c1.H dx (.own x)) x (.ins (He.ga K C) dx []), c1.i ++ [x], c1.m ++ [.ins C [] []]⟩ := (g2.trans g3 fun _ m => m).trans g4 fun _ m => List.mem_cons_of_mem _ m
  cases hF : F (.cell c1.m.length :: as) (c1.m ++ [.ins C [] []]) with
  | none => rw [hF] at e; cases e
  | some z =>
    obtain ⟨r, μ2⟩ := z
    rw [hF] at e
    cases r with
    | non =>
      cases e
      refine ⟨X, ⟨upd (upd c1.H dx (.own x)) x (.ins (He.ga K C) dx []), c1.i ++ [x], c1.m ++ [.ins C [] []]⟩, .cell c1.m.length :: as, .non, _, rfl, hF, k4, ⟨_, _, rfl, r4, by rw [List.append_nil]; exact g.reps r1⟩, fun v c5 m5 k5 g5 r5 => ⟨r5, ?_⟩⟩
      exact q (.ref x) c5 m5 k5 ((g1.tr g).tr g5) (g5.rep r4)
    | _ => cases e
/-! ### changes -/
def putD (f : Str) (d : D) : List Str → List D → List Str × List D
  | n :: ns, x :: ds => if n = f then (n :: ns, d :: ds) else (n :: (putD f d ns ds).1, x :: (putD f d ns ds).2)
  | _, _ => ([f], [d])
theorem putD_ok {G : Hp} {ι : List Addr} {f : Str} {d : D} {v : V} (rv : Rep K G ι d v) : ∀ {ns : List Str} {ds : List D} {es : List V}, ns.length = ds.length → Reps K G ι ds es →
    ∃ es', putF f v (ns.zip es) = (putD f d ns ds).1.zip es' ∧ (putD f d ns ds).1.length = (putD f d ns ds).2.length ∧ Reps K G ι (putD f d ns ds).2 es'
  | [], [], _, _, r => by
    rw [show _ = [] from r]
    exact ⟨[v], rfl, rfl, v, [], rfl, rv, rfl⟩
  | n :: ns, x :: ds, _, l, ⟨e, r, q, h1, h2⟩ => by
    subst q
    rw [putD]
    rw [List.zip_cons_cons]
    by_cases h : n = f
    · rw [if_pos h]
      refine ⟨v :: r, ?_, l, v, r, rfl, rv, h2⟩
      show (if n = f then (n, v) :: ns.zip r else _) = _
      rw [if_pos h]
      rfl
    · rw [if_neg h]
      obtain ⟨es', a1, a2, a3⟩ := putD_ok rv (ns := ns) (by simpa using l) h2
      refine ⟨e :: es', ?_, by simpa using a2, e, es', rfl, h1, a3⟩
      show (if n = f then _ else (n, e) :: putF f v (ns.zip r)) = _
      rw [if_neg h, a1]
      rfl
  | [], _ :: _, _, l, _ => by cases l
  | _ :: _, [], _, l, _ => by cases l
/-- e.f = v -/
def sfldO (Cs : List Str) (f : Str) (mo mv : ME) : MS := fun τ μ => (mv τ μ).bind fun p => (mo τ p.2).bind fun o => match o.1 with
  | .cell i => (match o.2[i]? with
    | some (.ins C ns ds) => if C ∈ Cs ∧ ns.length < 1000 then some (.nx τ (o.2.set i (.ins C (putD f p.1 ns ds).1 (putD f p.1 ns ds).2))) else none
    | _ => none)
  | _ => none
theorem refS_fld {te tv : TE} {mo mv : ME} {Cs : List Str} {f : Str} (F : FldOk K Cs f) (h : RefE K te mo) (hv : RefE K tv mv) : RefS K (sFld K te tv f) (sfldO Cs f mo mv) := fun X c τ σ o D e k s q => by
  obtain ⟨d1, μ1, e1, e⟩ := bind2 e
  obtain ⟨d2, μ2, e2, e⟩ := bind2 e
  refine hv X c τ σ d1 μ1 _ e1 k s fun y c1 m1 k1 g1 r1 => ?_
  subst m1
  refine h X c1 τ σ d2 μ2 _ e2 k1 (g1.slots s) fun x c2 m2 k2 g2 r2 => ?_
  subst m2
  cases d2 with
  | cell i =>
    dsimp only at e
    obtain ⟨a, ha, rfl⟩ := r2
    cases hi : c2.m[i]? with
    | none => rw [hi] at e; cases e
    | some z =>
      rw [hi] at e
      cases z with
      | dead => cases e
      | dct _ _ => cases e
      | lst ds => cases e
      | ins C ns ds =>
        dsimp only at e
        by_cases hC : C ∈ Cs ∧ ns.length < 1000
        · rw [if_pos hC] at e
          cases e
          obtain ⟨⟨dx, es, h1, l1, r3⟩, _⟩ := k2.cell i _ a hi ha (fun z => nomatch z)
          obtain ⟨es', a1, a2, a3⟩ := putD_ok (f := f) (g2.rep r1) l1 r3
          refine ⟨a, _, dx, _, rfl, h1, (F C hC.1).1, (F C hC.1).2, ?_, ?_⟩
          · rw [List.length_zip]
            have := hC.2
            omega
          · have hx : CellOk K (upd c2.H a (.ins (He.ga K C) dx (putF f y (ns.zip es)))) (vis X c2) c2.i a (.ins C (putD f d1 ns ds).1 (putD f d1 ns ds).2) := ⟨dx, es', by rw [upd_same, a1], a2, a3⟩
            obtain ⟨k3, g3⟩ := k2.change (o := .ins (He.ga K C) dx (putF f y (ns.zip es))) hi ha (fun z => nomatch z) (x' := .ins C (putD f d1 ns ds).1 (putD f d1 ns ds).2) (fun z => nomatch z) hx
            exact q σ ⟨upd c2.H a (.ins (He.ga K C) dx (putF f y (ns.zip es))), c2.i, _⟩ rfl k3 ((g1.tr g2).tr g3) (((g1.tr g2).tr g3).slots s)
        · rw [if_neg hC] at e
          cases e
  | _ => cases e
/-- a list of the store gets other items -/
theorem cell_set {X : List Addr} {c : Cf} {i : Nat} {ds ds' : List D} {v : V} {es' : List V} (k : Okk K X c) (hi : c.m[i]? = some (.lst ds)) (r : RepC K X c (.cell i) v) (r' : RepsC K X c ds' es') :
    ∃ a, v = .ref a ∧ (∃ es, c.H a = some (.lst es) ∧ RepsC K X c ds es) ∧ Okk K X ⟨upd c.H a (.lst es'), c.i, c.m.set i (.lst ds')⟩ ∧ Grow X c X ⟨upd c.H a (.lst es'), c.i, c.m.set i (.lst ds')⟩ := by
  obtain ⟨a, ha, rfl⟩ := r
  obtain ⟨⟨es, h1, r1⟩, _⟩ := k.cell i _ a hi ha (fun z => nomatch z)
  obtain ⟨k2, g2⟩ := k.change (o := .lst es') hi ha (fun z => nomatch z) (fun z => nomatch z) (x' := .lst ds') ⟨es', upd_same, r'⟩
  exact ⟨a, rfl, ⟨es, h1, r1⟩, k2, g2⟩
theorem cell_at {X : List Addr} {c : Cf} {i : Nat} {ds : List D} {v : V} (k : Okk K X c) (hi : c.m[i]? = some (.lst ds)) (r : RepC K X c (.cell i) v) : ∃ a es, v = .ref a ∧ c.H a = some (.lst es) ∧ RepsC K X c ds es := by
  obtain ⟨a, ha, rfl⟩ := r
  obtain ⟨⟨es, h1, r1⟩, _⟩ := k.cell i _ a hi ha (fun z => nomatch z)
  exact ⟨a, es, rfl, h1, r1⟩
/-- xs.append(y) -/
def appO (mo ma : ME) : ME := fun τ μ => (mo τ μ).bind fun p => match p.1 with
  | .cell i => (match p.2[i]? with
    | some (.lst _) => (ma τ p.2).bind fun a => (match a.2[i]? with
      | some (.lst ds) => if ds.length < 1000000 then some (.non, a.2.set i (.lst (ds ++ [a.1]))) else none
      | _ => none)
    | _ => none)
  | _ => none
theorem refE_app {te ta : TE} {mo ma : ME} (h : RefE K te mo) (ha : RefE K ta ma) : RefE K (tBM K "list" rAppend te (tCons ta tNil)) (appO mo ma) := fun X c τ σ d μ' Q e k s q => by
  obtain ⟨d1, μ1, e1, e0⟩ := bind2 e
  refine h X c τ σ d1 μ1 _ e1 k s fun x c1 m1 k1 g1 r1 => ?_
  subst m1
  cases d1 with
  | cell i =>
    dsimp only at e0
    cases hi0 : c1.m[i]? with
    | none => rw [hi0] at e0; cases e0
    | some z =>
      rw [hi0] at e0
      cases z with
      | dead => cases e0
      | ins _ _ _ => cases e0
      | dct _ _ => cases e0
      | lst ds0 =>
        dsimp only at e0
        obtain ⟨y, μ2, e2, e0⟩ := bind2 e0
        obtain ⟨a0, es0, rfl, h0, _⟩ := cell_at k1 hi0 r1
        refine ⟨.inl ⟨rfl, _, SqL.of h0⟩, ?_⟩
        refine ha X c1 τ σ y μ2 _ e2 k1 (g1.slots s) fun w c2 m2 k2 g2 r2 => ?_
        subst m2
        dsimp only at e0
        cases hi : c2.m[i]? with
        | none => rw [hi] at e0; cases e0
        | some z =>
          rw [hi] at e0
          cases z with
          | dead => cases e0
          | ins _ _ _ => cases e0
          | dct _ _ => cases e0
          | lst ds =>
            dsimp only at e0
            by_cases hn : ds.length < 1000000
            · rw [if_pos hn] at e0
              cases e0
              obtain ⟨a, es, ea, h2, r3⟩ := cell_at k2 hi (g2.rep r1)
              cases ea
              obtain ⟨a', ea, _, k3, g3⟩ := cell_set (ds' := ds ++ [y]) (es' := es ++ [w]) k2 hi (g2.rep r1) (r3.snoc r2)
              cases ea
              exact ⟨_, es, w, rfl, rfl, h2, by rw [r3.length, sizeLine_eq]; omega, q .non ⟨upd c2.H _ (.lst (es ++ [w])), c2.i, c2.m.set i (.lst (ds ++ [y]))⟩ rfl k3 ((g1.tr g2).tr g3) rfl⟩
            · rw [if_neg hn] at e0
              cases e0
  | _ => cases e0
end
end Z

set_option Elab.async false
set_option linter.all false
set_option maxRecDepth 100000
set_option maxHeartbeats 4000000
namespace Z
open PySem PySem.Spec L2
open PyProof.Rows hiding St
section
variable {K : PySem.W.Frag}
theorem bind1 {α γ : Type} {m : Option α} {f : α → Option γ} {r : γ} (h : m.bind f = some r) : ∃ a, m = some a ∧ f a = some r := Option.bind_eq_some_iff.mp h
/-! ### tests -/
def testO (m : ME) : MT := fun τ μ => (m τ μ).bind fun p => match p.1 with
  | .bl b => some (b, p.2)
  | _ => none
theorem refT_B {te : TE} {m : ME} (h : RefE K te m) : RefT K (tB te) (testO m) := fun X c τ σ b μ' Q e k s q => by
  obtain ⟨d, μ1, e1, e⟩ := bind2 e
  cases d with
  | bl b' =>
    cases e
    exact h X c τ σ _ _ _ e1 k s fun v c1 m1 k1 g1 r1 => ⟨b, r1, q c1 m1 k1 g1⟩
  | _ => cases e
theorem refT_test {te : TE} {m : ME} (h : RefE K te m) : RefT K (tTest te) (testO m) := refT_B h
/-- a value's truth -/
def truD (μ : Sto) : D → Option Bool
  | .non => some false
  | .bl b => some b
  | .int i => some (i != 0)
  | .str y => if y.length ≤ 1000000 then some ((y.length : Int) != 0) else none
  | d => (asQ μ d).map fun ds => !ds.isEmpty
def truO (m : ME) : MT := fun τ μ => (m τ μ).bind fun p => (truD p.2 p.1).bind fun b => some (b, p.2)
theorem truD_ok {X : List Addr} {c : Cf} {d : D} {v : V} {b : Bool} (k : Okk K X c) (r : RepC K X c d v) (e : truD c.m d = some b) : TruV K v c.H b := by
  have main : (asQ c.m d).map (fun ds => !ds.isEmpty) = some b → TruV K v c.H b := fun e => by
    obtain ⟨ds, e1, e2⟩ := Option.map_eq_some_iff.mp e
    obtain ⟨p, es, rfl, h, r1⟩ := asQ_ok k r e1
    have z : (!es.isEmpty) = b := by
      rw [← e2]
      have l := r1.length
      cases es with
      | nil => cases ds with
        | nil => rfl
        | cons _ _ => cases l
      | cons _ _ => cases ds with
        | nil => cases l
        | cons _ _ => rfl
    rcases h with h | h
    · exact .inl ⟨es, h, z.symm⟩
    · exact .inr (.inl ⟨es, h, z.symm⟩)
  cases d with
  | non => cases e; cases (show v = .non from r); exact (rfl : false = false)
  | bl b' => cases e; cases (show v = .bl b from r); exact (rfl : b = b)
  | int i => cases e; cases (show v = .int i from r); exact (rfl : (i != 0) = (i != 0))
  | str y =>
    cases (show v = .str y from r)
    have e' : (if y.length ≤ 1000000 then some ((y.length : Int) != 0) else none) = some b := e
    by_cases hl : y.length ≤ 1000000
    · rw [if_pos hl] at e'
      cases e'
      exact ⟨by rw [sizeLine_eq]; omega, rfl⟩
    · rw [if_neg hl] at e'
      cases e'
  | _ => exact main e
theorem refT_tru {te : TE} {m : ME} (h : RefE K te m) : RefT K (fun σ H Q => te σ H fun x H' => ∃ k, TruV K x H' k ∧ Q k H') (truO m) := fun X c τ σ b μ' Q e k s q => by
  obtain ⟨d, μ1, e1, e⟩ := bind2 e
  obtain ⟨b', e2, e⟩ := bind1 e
  cases e
  refine h X c τ σ _ _ _ e1 k s fun v c1 m1 k1 g1 r1 => ⟨b, truD_ok k1 r1 (by rw [m1]; exact e2), q c1 m1 k1 g1⟩
def andO (a b : MT) : MT := fun τ μ => (a τ μ).bind fun p => if p.1 = true then b τ p.2 else some (false, p.2)
def orO (a b : MT) : MT := fun τ μ => (a τ μ).bind fun p => if p.1 = true then some (true, p.2) else b τ p.2
def notO (a : MT) : MT := fun τ μ => (a τ μ).bind fun p => some (!p.1, p.2)
theorem refT_and {t u : TT} {a b : MT} (h : RefT K t a) (h2 : RefT K u b) : RefT K (tAnd t u) (andO a b) := fun X c τ σ r μ' Q e k s q => by
  obtain ⟨b1, μ1, e1, e⟩ := bind2 e
  refine h X c τ σ b1 μ1 _ e1 k s fun c1 m1 k1 g1 => ?_
  subst m1
  cases b1 with
  | true => exact h2 X c1 τ σ r μ' Q e k1 (g1.slots s) fun c2 m2 k2 g2 => q c2 m2 k2 (g1.tr g2)
  | false => cases e; exact q c1 rfl k1 g1
theorem refT_or {t u : TT} {a b : MT} (h : RefT K t a) (h2 : RefT K u b) : RefT K (tOr t u) (orO a b) := fun X c τ σ r μ' Q e k s q => by
  obtain ⟨b1, μ1, e1, e⟩ := bind2 e
  refine h X c τ σ b1 μ1 _ e1 k s fun c1 m1 k1 g1 => ?_
  subst m1
  cases b1 with
  | false => exact h2 X c1 τ σ r μ' Q e k1 (g1.slots s) fun c2 m2 k2 g2 => q c2 m2 k2 (g1.tr g2)
  | true => cases e; exact q c1 rfl k1 g1
theorem refT_not {t : TT} {a : MT} (h : RefT K t a) : RefT K (tNot t) (notO a) := fun X c τ σ r μ' Q e k s q => by
  obtain ⟨b1, μ1, e1, e⟩ := bind2 e
  cases e
  exact h X c τ σ b1 _ _ e1 k s fun c1 m1 k1 g1 => q c1 m1 k1 g1
/-! .. as values -/
def andV (a b : ME) : ME := fun τ μ => (a τ μ).bind fun p => match p.1 with
  | .bl true => b τ p.2
  | .bl false => some (.bl false, p.2)
  | _ => none
def orV (a b : ME) : ME := fun τ μ => (a τ μ).bind fun p => match p.1 with
  | .bl false => b τ p.2
  | .bl true => some (.bl true, p.2)
  | _ => none
def notV (a : ME) : ME := fun τ μ => (a τ μ).bind fun p => match p.1 with
  | .bl b => some (.bl (!b), p.2)
  | _ => none
theorem refE_and {ta tb : TE} {a b : ME} (h : RefE K ta a) (h2 : RefE K tb b) : RefE K (tAndV ta tb) (andV a b) := fun X c τ σ d μ' Q e k s q => by
  obtain ⟨b1, μ1, e1, e⟩ := bind2 e
  refine h X c τ σ b1 μ1 _ e1 k s fun v c1 m1 k1 g1 r1 => ?_
  subst m1
  cases b1 with
  | bl b1 =>
    refine ⟨b1, r1, ?_⟩
    cases b1 with
    | true => exact h2 X c1 τ σ d μ' Q e k1 (g1.slots s) fun w c2 m2 k2 g2 r2 => q w c2 m2 k2 (g1.tr g2) r2
    | false => cases e; exact q _ c1 rfl k1 g1 rfl
  | _ => cases e
theorem refE_or {ta tb : TE} {a b : ME} (h : RefE K ta a) (h2 : RefE K tb b) : RefE K (tOrV ta tb) (orV a b) := fun X c τ σ d μ' Q e k s q => by
  obtain ⟨b1, μ1, e1, e⟩ := bind2 e
  refine h X c τ σ b1 μ1 _ e1 k s fun v c1 m1 k1 g1 r1 => ?_
  subst m1
  cases b1 with
  | bl b1 =>
    refine ⟨b1, r1, ?_⟩
    cases b1 with
    | false => exact h2 X c1 τ σ d μ' Q e k1 (g1.slots s) fun w c2 m2 k2 g2 r2 => q w c2 m2 k2 (g1.tr g2) r2
    | true => cases e; exact q _ c1 rfl k1 g1 rfl
  | _ => cases e
theorem refE_not {ta : TE} {a : ME} (h : RefE K ta a) : RefE K (tNotV ta) (notV a) := fun X c τ σ d μ' Q e k s q => by
  obtain ⟨b1, μ1, e1, e⟩ := bind2 e
  cases b1 with
  | bl b1 =>
    cases e
    exact h X c τ σ _ _ _ e1 k s fun v c1 m1 k1 g1 r1 => ⟨b1, r1, q _ c1 m1 k1 g1 rfl⟩
  | _ => cases e
def ifO (t : MT) (a b : ME) : ME := fun τ μ => (t τ μ).bind fun p => if p.1 = true then a τ p.2 else b τ p.2
theorem refE_if {t : TT} {ta tb : TE} {m : MT} {a b : ME} (h : RefT K t m) (h1 : RefE K ta a) (h2 : RefE K tb b) : RefE K (tIf t ta tb) (ifO m a b) := fun X c τ σ d μ' Q e k s q => by
  obtain ⟨b1, μ1, e1, e⟩ := bind2 e
  refine h X c τ σ b1 μ1 _ e1 k s fun c1 m1 k1 g1 => ?_
  subst m1
  cases b1 with
  | true => exact h1 X c1 τ σ d μ' Q e k1 (g1.slots s) fun w c2 m2 k2 g2 r2 => q w c2 m2 k2 (g1.tr g2) r2
  | false => exact h2 X c1 τ σ d μ' Q e k1 (g1.slots s) fun w c2 m2 k2 g2 r2 => q w c2 m2 k2 (g1.tr g2) r2
def chainO (m m' : MB) (a b d : ME) : ME := fun τ μ => (a τ μ).bind fun x => (b τ x.2).bind fun y => (m x.1 y.1 y.2).bind fun z => match z.1 with
  | .bl true => (d τ z.2).bind fun w => m' y.1 w.1 w.2
  | .bl false => some (.bl false, z.2)
  | _ => none
theorem refE_chain {r r' : R2} {ta tb td : TE} {m m' : MB} {a b d : ME} (hr : RefB K r m) (hr' : RefB K r' m') (ha : RefE K ta a) (hb : RefE K tb b) (hd : RefE K td d) : RefE K (tChain r r' ta tb td) (chainO m m' a b d) := fun X c τ σ dd μ' Q e k s q => by
  obtain ⟨x, μ1, e1, e⟩ := bind2 e
  obtain ⟨y, μ2, e2, e⟩ := bind2 e
  obtain ⟨z, μ3, e3, e⟩ := bind2 e
  refine ha X c τ σ x μ1 _ e1 k s fun vx c1 m1 k1 g1 r1 => ?_
  subst m1
  refine hb X c1 τ σ y μ2 _ e2 k1 (g1.slots s) fun vy c2 m2 k2 g2 r2 => ?_
  subst m2
  refine hr X c2 x y vx vy z μ3 _ e3 k2 (g2.rep r1) r2 fun vz c3 m3 k3 g3 r3 => ?_
  subst m3
  cases z with
  | bl z =>
    refine ⟨z, r3, ?_⟩
    cases z with
    | true =>
      obtain ⟨w, μ4, e4, e⟩ := bind2 e
      refine hd X c3 τ σ w μ4 _ e4 k3 (((g1.tr g2).tr g3).slots s) fun vw c4 m4 k4 g4 r4 => ?_
      subst m4
      exact hr' X c4 y w vy vw dd μ' Q e k4 ((g3.tr g4).rep r2) r4 fun v c5 m5 k5 g5 r5 => q v c5 m5 k5 ((((g1.tr g2).tr g3).tr g4).tr g5) r5
    | false => cases e; exact q _ c3 rfl k3 ((g1.tr g2).tr g3) rfl
  | _ => cases e
/-! ### targets -/
theorem slots_set {X : List Addr} {c : Cf} {τ : Fr} {σ : St} {i : Nat} {d : D} {v : V} (s : Slots K X c τ σ) (r : RepC K X c d v) : Slots K X c (τ.set i (some d)) (σ.set i (some v)) := by
  refine ⟨by rw [List.length_set, List.length_set, s.len], fun j d' e => ?_⟩
  by_cases h : i = j
  · subst h
    by_cases l : i < τ.length
    · rw [List.getElem?_set_self l] at e
      cases e
      exact ⟨v, List.getElem?_set_self (by rw [s.len]; exact l), r⟩
    · rw [List.getElem?_eq_none (by rw [List.length_set]; omega)] at e
      cases e
  · rw [List.getElem?_set_ne h] at e
    obtain ⟨v', h1, h2⟩ := s.at_ j d' e
    exact ⟨v', by rw [List.getElem?_set_ne h]; exact h1, h2⟩
theorem wipe_set {σ : St} {i : Nat} {o : Option V} : ∀ {vs : List Nat}, i ∈ vs → wipe (σ.set i o) vs = wipe σ vs
  | v :: vs, m => by
    unfold wipe
    by_cases h : i ∈ vs
    · rw [wipe_set h]
    · have e : i = v := (List.mem_cons.mp m).resolve_right h
      subst e
      have comm : ∀ {σ : St} {ws : List Nat}, i ∉ ws → wipe (σ.set i o) ws = (wipe σ ws).set i o := fun {σ} {ws} => by
        induction ws with
        | nil => intro _; rfl
        | cons w ws ih =>
          intro hn
          show (wipe (σ.set i o) ws).set w none = ((wipe σ ws).set w none).set i o
          rw [ih fun z => hn (List.mem_cons_of_mem _ z), List.set_comm _ _ (fun z => hn (by rw [z]; exact List.mem_cons_self))]
      rw [comm h, List.set_set]
theorem wipe_wipe {σ : St} : ∀ {vs : List Nat}, wipe (wipe σ vs) vs = wipe σ vs := by
  intro vs
  have all : ∀ {ws us : List Nat}, (∀ w ∈ ws, w ∈ us) → wipe (wipe σ ws) us = wipe σ us := fun {ws us} => by
    induction ws with
    | nil => intro _; rfl
    | cons w ws ih =>
      intro h
      show wipe ((wipe σ ws).set w none) us = _
      rw [wipe_set (h w List.mem_cons_self), ih fun z m => h z (List.mem_cons_of_mem _ m)]
  exact all fun _ m => m
def nameG (i : Nat) : MG := fun d τ μ => some (τ.set i (some d), μ)
theorem refG_name {vs : List Nat} {i : Nat} (h : i ∈ vs) : RefG K vs (gName i) (nameG i) := fun X c τ σ d v τ' μ' Q e k s r q => by
  cases e
  exact q _ c rfl k (Grow.refl X c) (slots_set s r) (wipe_set h)
theorem refG_name0 {i : Nat} : RefG K [] (gName i) (nameG i) → RefG K [] (gName i) (nameG i) := id
abbrev MGs := List D → Fr → Sto → Option (Fr × Sto)
def RefGs (K : PySem.W.Frag) (vs : List Nat) (g : TGs) (m : MGs) : Prop := ∀ (X : List Addr) (c : Cf) (τ : Fr) (σ : St) (ds : List D) (es : List V) (τ' : Fr) (μ' : Sto) (Q : St → Hp → Prop), m ds τ c.m = some (τ', μ') → Okk K X c → Slots K X c τ σ → RepsC K X c ds es →
  (∀ (σ' : St) (c' : Cf), c'.m = μ' → Okk K X c' → Grow X c X c' → Slots K X c' τ' σ' → wipe σ' vs = wipe σ vs → Q σ' c'.H) → g es σ c.H Q
def nilG : MGs := fun ds τ μ => match ds with
  | [] => some (τ, μ)
  | _ => none
def consG (a : MG) (b : MGs) : MGs := fun ds τ μ => match ds with
  | d :: r => (a d τ μ).bind fun p => b r p.1 p.2
  | _ => none
theorem refGs_nil {vs : List Nat} : RefGs K vs gNil nilG := fun X c τ σ ds es τ' μ' Q e k s r q => by
  cases ds with
  | nil =>
    cases e
    exact ⟨r, q _ c rfl k (Grow.refl X c) s rfl⟩
  | cons _ _ => cases e
theorem refGs_cons {vs : List Nat} {t : TG} {u : TGs} {a : MG} {b : MGs} (h : RefG K vs t a) (h2 : RefGs K vs u b) : RefGs K vs (gCons t u) (consG a b) := fun X c τ σ ds es τ' μ' Q e k s r q => by
  cases ds with
  | nil => cases e
  | cons d ds =>
    obtain ⟨v, es', rfl, r1, r2⟩ := r
    obtain ⟨τ1, μ1, e1, e⟩ := bind2 e
    refine ⟨v, es', rfl, h X c τ σ d v τ1 μ1 _ e1 k s r1 fun σ1 c1 m1 k1 g1 s1 w1 => ?_⟩
    subst m1
    exact h2 X c1 τ1 σ1 ds es' τ' μ' Q e k1 s1 (g1.reps r2) fun σ2 c2 m2 k2 g2 s2 w2 => q σ2 c2 m2 k2 (g1.tr g2) s2 (w2.trans w1)
def tupG (n : Nat) (m : MGs) : MG := fun d τ μ => match d with
  | .tup ds => if ds.length = n then m ds τ μ else none
  | _ => none
theorem refG_tup {vs : List Nat} {n : Nat} {t : TGs} {m : MGs} (h : RefGs K vs t m) : RefG K vs (gTup K n t) (tupG n m) := fun X c τ σ d v τ' μ' Q e k s r q => by
  cases d with
  | tup ds =>
    have e' : (if ds.length = n then m ds τ c.m else none) = some (τ', μ') := e
    by_cases hn : ds.length = n
    · rw [if_pos hn] at e'
      obtain ⟨p, es, rfl, h1, r1⟩ := r
      exact ⟨p, es, rfl, SqT.of (vis_some h1), by rw [r1.length]; exact hn, h X c τ σ ds es τ' μ' Q e' k s r1 q⟩
    · rw [if_neg hn] at e'
      cases e'
  | _ => cases e
/-- o[i] = v -/
def subG (mo mi : ME) : MG := fun d τ μ => (mo τ μ).bind fun o => (mi τ o.2).bind fun i => match o.1, i.1 with
  | .cell j, .int n => (match i.2[j]? with
    | some (.lst ds) => (ixN ds.length n).bind fun x => some (τ, i.2.set j (.lst (ds.set x d)))
    | _ => none)
  | _, _ => none
theorem refG_sub {vs : List Nat} {to ti : TE} {mo mi : ME} (ho : RefE K to mo) (hi : RefE K ti mi) : RefG K vs (gSub to ti rSetL) (subG mo mi) := fun X c τ σ d v τ' μ' Q e k s r q => by
  obtain ⟨d1, μ1, e1, e⟩ := bind2 e
  obtain ⟨d2, μ2, e2, e⟩ := bind2 e
  refine ho X c τ σ d1 μ1 _ e1 k s fun x c1 m1 k1 g1 r1 => ?_
  subst m1
  refine hi X c1 τ σ d2 μ2 _ e2 k1 (g1.slots s) fun y c2 m2 k2 g2 r2 => ?_
  subst m2
  cases d1 with
  | cell j =>
    cases d2 with
    | int n =>
      cases rep_int r2
      dsimp only at e
      cases hj : c2.m[j]? with
      | none => rw [hj] at e; cases e
      | some z =>
        rw [hj] at e
        cases z with
        | dead => cases e
        | ins _ _ _ => cases e
        | dct _ _ => cases e
        | lst ds =>
          obtain ⟨x', e3, e⟩ := bind1 e
          cases e
          obtain ⟨a, es, ea, h2, r3⟩ := cell_at k2 hj (g2.rep r1)
          cases ea
          have r4 := r3.set ((g1.tr g2).rep r) x'
          obtain ⟨a', ea, _, k3, g3⟩ := cell_set k2 hj (g2.rep r1) r4
          cases ea
          exact ⟨_, es, n, x', rfl, rfl, h2, by rw [r3.length]; exact e3, q σ ⟨upd c2.H _ (.lst (es.set x' v)), c2.i, c2.m.set j (.lst (ds.set x' d))⟩ rfl k3 ((g1.tr g2).tr g3) (((g1.tr g2).tr g3).slots s) rfl⟩
    | _ => cases e
  | _ => cases e
/-! ### statements -/
def seqO (a b : MS) : MS := fun τ μ => (a τ μ).bind fun o => match o with
  | .nx τ1 μ1 => b τ1 μ1
  | o => some o
theorem EndOk.grow {X : List Addr} {c c1 : Cf} {D : Ends} {o : Ox} (g : Grow X c X c1) (h : EndOk K X c D o) : EndOk K X c1 D o := by
  cases o with
  | nx τ μ => exact fun σ' c' m k g' s => h σ' c' m k (g.tr g') s
  | bk τ μ => exact fun σ' c' m k g' s => h σ' c' m k (g.tr g') s
  | ct τ μ => exact fun σ' c' m k g' s => h σ' c' m k (g.tr g') s
  | rt d μ => exact fun v c' m k g' s => h v c' m k (g.tr g') s
theorem refS_seq {t u : TS} {a b : MS} (h : RefS K t a) (h2 : RefS K u b) : RefS K (tSeq t u) (seqO a b) := fun X c τ σ o D e k s q => by
  obtain ⟨o1, e1, e⟩ := bind1 e
  refine h X c τ σ o1 _ e1 k s ?_
  cases o1 with
  | nx τ1 μ1 =>
    intro σ1 c1 m1 k1 g1 s1
    subst m1
    exact h2 X c1 τ1 σ1 o D e k1 s1 (q.grow g1)
  | bk τ1 μ1 => cases e; exact q
  | ct τ1 μ1 => cases e; exact q
  | rt d μ1 => cases e; exact q
def nextO : MS := fun τ μ => some (.nx τ μ)
theorem refS_next : RefS K tNext nextO := fun X c τ σ o D e k s q => by
  cases e
  exact q σ c rfl k (Grow.refl X c) s
def brkO : MS := fun τ μ => some (.bk τ μ)
theorem refS_brk : RefS K tBreak brkO := fun X c τ σ o D e k s q => by
  cases e
  exact q σ c rfl k (Grow.refl X c) s
def contO : MS := fun τ μ => some (.ct τ μ)
theorem refS_cont : RefS K tCont contO := fun X c τ σ o D e k s q => by
  cases e
  exact q σ c rfl k (Grow.refl X c) s
def asgO (m : ME) (g : MG) : MS := fun τ μ => (m τ μ).bind fun p => (g p.1 τ p.2).bind fun r => some (.nx r.1 r.2)
theorem refS_asgN {te : TE} {i : Nat} {m : ME} (h : RefE K te m) : RefS K (tAsg te (gName i)) (asgO m (nameG i)) := fun X c τ σ o D e k s q => by
  obtain ⟨d, μ1, e1, e⟩ := bind2 e
  obtain ⟨τ2, μ2, e2, e⟩ := bind2 e
  cases e2
  cases e
  refine h X c τ σ d _ _ e1 k s fun v c1 m1 k1 g1 r1 => ?_
  exact q _ c1 m1 k1 g1 (slots_set (g1.slots s) r1)
theorem refS_asg {vs : List Nat} {te : TE} {g : TG} {m : ME} {mg : MG} (h : RefE K te m) (hg : RefG K vs g mg) : RefS K (tAsg te g) (asgO m mg) := fun X c τ σ o D e k s q => by
  obtain ⟨d, μ1, e1, e⟩ := bind2 e
  obtain ⟨τ2, μ2, e2, e⟩ := bind2 e
  cases e
  refine h X c τ σ d μ1 _ e1 k s fun v c1 m1 k1 g1 r1 => ?_
  subst m1
  exact hg X c1 τ σ d v τ2 μ2 _ e2 k1 (g1.slots s) r1 fun σ2 c2 m2 k2 g2 s2 _ => q σ2 c2 m2 k2 (g1.tr g2) s2
def parO (i j : Nat) (m : MF) : MS := fun τ μ => (m τ μ).bind fun p => match p.1 with
  | [a, b] => some (.nx ((τ.set i (some a)).set j (some b)) p.2)
  | _ => none
theorem refS_par {i j : Nat} {ta : TA} {m : MF} (h : RefA K ta m) : RefS K (tPar i j ta) (parO i j m) := fun X c τ σ o D e k s q => by
  obtain ⟨ds, μ1, e1, e⟩ := bind2 e
  match ds, e with
  | [a, b], e =>
    cases e
    refine h X c τ σ _ _ _ e1 k s fun vs c1 m1 k1 g1 r1 => ?_
    obtain ⟨v, w, rfl, r2, r3⟩ := reps2 r1
    exact ⟨v, w, rfl, q _ c1 m1 k1 g1 (slots_set (slots_set (g1.slots s) r2) r3)⟩
def dropO (m : ME) : MS := fun τ μ => (m τ μ).bind fun p => some (.nx τ p.2)
theorem refS_drop {te : TE} {m : ME} (h : RefE K te m) : RefS K (tDrop te) (dropO m) := fun X c τ σ o D e k s q => by
  obtain ⟨d, μ1, e1, e⟩ := bind2 e
  cases e
  exact h X c τ σ _ _ _ e1 k s fun v c1 m1 k1 g1 r1 => q σ c1 m1 k1 g1 (g1.slots s)
def retO (m : ME) : MS := fun τ μ => (m τ μ).bind fun p => some (.rt p.1 p.2)
theorem refS_ret {te : TE} {m : ME} (h : RefE K te m) : RefS K (tRet te) (retO m) := fun X c τ σ o D e k s q => by
  obtain ⟨d, μ1, e1, e⟩ := bind2 e
  cases e
  exact h X c τ σ _ _ _ e1 k s q
def retNO : MS := fun _ μ => some (.rt .non μ)
theorem refS_retN : RefS K tRetN retNO := fun X c τ σ o D e k s q => by
  cases e
  exact q _ c rfl k (Grow.refl X c) rfl
def ifS (t : MT) (a b : MS) : MS := fun τ μ => (t τ μ).bind fun p => if p.1 = true then a τ p.2 else b τ p.2
theorem refS_if {t : TT} {ta tb : TS} {m : MT} {a b : MS} (h : RefT K t m) (h1 : RefS K ta a) (h2 : RefS K tb b) : RefS K (tIfS t ta tb) (ifS m a b) := fun X c τ σ o D e k s q => by
  obtain ⟨b1, μ1, e1, e⟩ := bind2 e
  refine h X c τ σ b1 μ1 _ e1 k s fun c1 m1 k1 g1 => ?_
  subst m1
  cases b1 with
  | true => exact h1 X c1 τ σ o D e k1 (g1.slots s) (q.grow g1)
  | false => exact h2 X c1 τ σ o D e k1 (g1.slots s) (q.grow g1)
/-- x op= e, of whole numbers -/
def augO (i : Nat) (m : ME) (b : MB) : MS := fun τ μ => (τ[i]?.join).bind fun x => (m τ μ).bind fun p => (b x p.1 p.2).bind fun r => some (.nx (τ.set i (some r.1)) r.2)
theorem refS_aug {i : Nat} {te : TE} {ti : TIp} {m : ME} {b : MB} (h : RefE K te m) (hb : RefB K ti b) : RefS K (tAug i te ti) (augO i m b) := fun X c τ σ o D e k s q => by
  obtain ⟨x, e0, e⟩ := bind1 e
  obtain ⟨d, μ1, e1, e⟩ := bind2 e
  obtain ⟨r, μ2, e2, e⟩ := bind2 e
  cases e
  have hx : τ[i]? = some (some x) := by
    cases h : τ[i]? with
    | none => rw [h] at e0; cases e0
    | some o => rw [h] at e0; cases o with
      | none => cases e0
      | some y => cases e0; rfl
  obtain ⟨v, h1, r1⟩ := s.at_ i x hx
  refine ⟨v, h1, h X c τ σ d μ1 _ e1 k s fun y c1 m1 k1 g1 r2 => ?_⟩
  subst m1
  exact hb X c1 x d v y r _ _ e2 k1 (g1.rep r1) r2 fun z c2 m2 k2 g2 r3 => q _ c2 m2 k2 (g1.tr g2) (slots_set ((g1.tr g2).slots s) r3)
theorem refB_ip {f : Int → Int → Int} : RefB K (ipI f) (intB fun i j => .int (f i j)) := fun X c dx dy x y d μ' Q e k rx ry q => by
  unfold intB at e
  cases dx with
  | int i =>
    cases dy with
    | int j =>
      cases e
      cases rep_int rx
      cases rep_int ry
      exact ⟨i, j, rfl, rfl, q _ c rfl k (Grow.refl X c) rfl⟩
    | _ => cases e
  | _ => cases e
end
end Z

set_option Elab.async false
set_option linter.all false
set_option maxRecDepth 100000
set_option maxHeartbeats 4000000
namespace Z
open PySem PySem.Spec L2
open PyProof.Rows hiding St
section
variable {K : PySem.W.Frag}
/-! ### what is walked -/
def Goes (K : PySem.W.Frag) (X : List Addr) (c : Cf) (J : It) (ok : Sto → Prop) (ds : List D) : Prop := ∀ (i : Nat) (X1 : List Addr) (c1 : Cf), Okk K X1 c1 → Grow X c X1 c1 → ok c1.m →
  (ds.length ≤ i → J.stop i c1.H) ∧ (∀ d, ds[i]? = some d → J.go i c1.H ∧ ∀ x H', J.yld i c1.H x H' → ∃ c2, c2.H = H' ∧ c2.m = c1.m ∧ Okk K X1 c2 ∧ Grow X1 c1 X1 c2 ∧ RepC K X1 c2 d x)
/-- the items, and the cell that they stand in, which must stay as it is -/
def enumD : Nat → List D → List D
  | _, [] => []
  | k, d :: ds => .tup [.int k, d] :: enumD (k + 1) ds
theorem enumD_length : ∀ (k : Nat) (ds : List D), (enumD k ds).length = ds.length
  | _, [] => rfl
  | k, _ :: ds => by rw [enumD, List.length_cons, enumD_length, List.length_cons]
theorem enumD_at : ∀ (k : Nat) (ds : List D) (i : Nat), (enumD k ds)[i]? = ds[i]?.map fun d => .tup [.int ((k + i : Nat) : Int), d]
  | _, [], i => by rw [enumD]; simp
  | k, d :: ds, 0 => rfl
  | k, d :: ds, i + 1 => by
    rw [enumD, List.getElem?_cons_succ, enumD_at, List.getElem?_cons_succ]
    congr 2
    funext d
    rw [show k + 1 + i = k + (i + 1) from by omega]
theorem enumD_inj : ∀ {k : Nat} {a b : List D}, enumD k a = enumD k b → a = b
  | _, [], [], _ => rfl
  | _, [], _ :: _, h => by rw [enumD, enumD] at h; cases h
  | _, _ :: _, [], h => by rw [enumD, enumD] at h; cases h
  | _, _ :: a, _ :: b, h => by
    rw [enumD, enumD] at h
    injection h with h1 h2
    injection h1 with h3
    injection h3 with _ h4
    injection h4 with h5 _
    rw [h5, enumD_inj h2]
/-- whether the list that is walked must stay as it is: its cell, and whether its items come with their numbers -/
abbrev Wat := Option (Nat × Bool)
abbrev Src := List D × Wat
def chk : Wat → List D → Sto → Prop
  | none, _, _ => True
  | some (j, false), ds, μ => μ[j]? = some (.lst ds)
  | some (j, true), ds, μ => ∃ xs, μ[j]? = some (.lst xs) ∧ ds = enumD 0 xs
abbrev MI := Fr → Sto → Option (Src × Sto)
def RefI (K : PySem.W.Frag) (wi : TI) (m : MI) : Prop := ∀ (X : List Addr) (c : Cf) (τ : Fr) (σ : St) (s : Src) (μ' : Sto) (R : It → Hp → Prop), m τ c.m = some (s, μ') → Okk K X c → Slots K X c τ σ →
  (∀ (J : It) (c' : Cf), c'.m = μ' → Okk K X c' → Grow X c X c' → chk s.2 s.1 c'.m → Goes K X c' J (chk s.2 s.1) s.1 → R J c'.H) → wi σ c.H R
def src (μ : Sto) : D → Option Src
  | .lst ds => some (ds, none)
  | .tup ds => some (ds, none)
  | .scr ds => some (ds, none)
  | .cell i => (match μ[i]? with
    | some (.lst ds) => some (ds, some (i, false))
    | _ => none)
  | _ => none
def srcO (m : ME) : MI := fun τ μ => (m τ μ).bind fun p => (src p.2 p.1).bind fun s => some (s, p.2)
theorem goes_list {X : List Addr} {c : Cf} {p : Addr} {ds : List D} {ok : Sto → Prop} (h : ∀ (X1 : List Addr) (c1 : Cf), Okk K X1 c1 → Grow X c X1 c1 → ok c1.m → ∃ es, SqL K c1.H p es ∧ RepsC K X1 c1 ds es) : Goes K X c (Itl K p) ok ds := fun i X1 c1 k1 g1 o1 => by
  obtain ⟨es, hs, hr⟩ := h X1 c1 k1 g1 o1
  refine ⟨fun hi => ⟨es, hs, by rw [hr.length]; exact hi⟩, fun d hd => ?_⟩
  obtain ⟨v, h1, h2⟩ := hr.at hd
  refine ⟨⟨es, v, hs, h1⟩, fun x H' ⟨e1, e2⟩ => ⟨c1, e1.symm, rfl, k1, Grow.refl _ _, ?_⟩⟩
  have e3 := e2 es hs
  rw [h1] at e3
  cases e3
  exact h2
theorem goes_tup {X : List Addr} {c : Cf} {p : Addr} {ds : List D} {ok : Sto → Prop} (h : ∀ (X1 : List Addr) (c1 : Cf), Okk K X1 c1 → Grow X c X1 c1 → ok c1.m → ∃ es, SqT K c1.H p es ∧ RepsC K X1 c1 ds es) : Goes K X c (Itt K p) ok ds := fun i X1 c1 k1 g1 o1 => by
  obtain ⟨es, hs, hr⟩ := h X1 c1 k1 g1 o1
  refine ⟨fun hi => ⟨es, hs, by rw [hr.length]; exact hi⟩, fun d hd => ?_⟩
  obtain ⟨v, h1, h2⟩ := hr.at hd
  refine ⟨⟨es, v, hs, h1⟩, fun x H' ⟨e1, e2⟩ => ⟨c1, e1.symm, rfl, k1, Grow.refl _ _, ?_⟩⟩
  have e3 := e2 es hs
  rw [h1] at e3
  cases e3
  exact h2
def iSeq (K : PySem.W.Frag) (tl : TE) : TI := fun σ H R => iList K tl σ H R ∨ iTup K tl σ H R
theorem pi_seq {X : Cx} {tg iter : Expr} {tl : TE} (hK : X.K = K) (h1 : PI X tg iter (iList X.K tl)) (h2 : PI X tg iter (iTup X.K tl)) : PI X tg iter (iSeq K tl) := by
  subst hK
  refine ⟨fun pins s σ H R I h => ?_⟩
  rcases h with h | h
  · exact h1.run pins s σ H R I h
  · exact h2.run pins s σ H R I h
/-- a list's items at every later heap -/
theorem later_list {X : List Addr} {c : Cf} {d : D} {v : V} {s : Src} (k : Okk K X c) (r : RepC K X c d v) (e : src c.m d = some s) (ht : ∀ ds, d ≠ .tup ds) :
    ∃ p, v = .ref p ∧ chk s.2 s.1 c.m ∧ ∀ (X1 : List Addr) (c1 : Cf), Okk K X1 c1 → Grow X c X1 c1 → chk s.2 s.1 c1.m → ∃ es, SqL K c1.H p es ∧ RepsC K X1 c1 s.1 es := by
  cases d with
  | lst ds =>
    cases e
    obtain ⟨p, es, rfl, h, r1⟩ := r
    exact ⟨p, rfl, trivial, fun X1 c1 k1 g1 _ => ⟨es, SqL.of (vis_some (g1.same _ _ h)), g1.reps r1⟩⟩
  | scr ds =>
    cases e
    obtain ⟨p, es, rfl, h, r1⟩ := r
    exact ⟨p, rfl, trivial, fun X1 c1 k1 g1 _ => ⟨es, (vis_same X1 c1).seq (g1.same.seq h), g1.reps r1⟩⟩
  | tup ds => exact absurd rfl (ht ds)
  | cell i =>
    obtain ⟨a, ha, rfl⟩ := r
    unfold src at e
    dsimp only at e
    cases h : c.m[i]? with
    | none => rw [h] at e; cases e
    | some x =>
      rw [h] at e
      cases x with
      | lst ds =>
        cases e
        refine ⟨a, rfl, h, fun X1 c1 k1 g1 hk => ?_⟩
        obtain ⟨⟨es, h1, r1⟩, _⟩ := k1.cell i _ a hk (g1.pre _ _ ha) (fun z => nomatch z)
        exact ⟨es, SqL.of h1, r1⟩
      | _ => cases e
  | _ => cases e
theorem refI_seq {te : TE} {m : ME} (h : RefE K te m) : RefI K (iSeq K te) (srcO m) := fun X c τ σ s μ' R e k sl q => by
  obtain ⟨d, μ1, e1, e⟩ := bind2 e
  obtain ⟨s', e2, e⟩ := bind1 e
  cases e
  by_cases ht : ∃ ds, d = .tup ds
  · obtain ⟨ds, rfl⟩ := ht
    cases e2
    refine .inr (h X c τ σ _ _ _ e1 k sl fun v c1 m1 k1 g1 r1 => ?_)
    obtain ⟨p, es, rfl, h1, r2⟩ := r1
    refine ⟨p, rfl, ⟨es, SqT.of (vis_some h1)⟩, q _ c1 m1 k1 g1 trivial (goes_tup fun X1 c2 k2 g2 _ => ⟨es, SqT.of (vis_some (g2.same _ _ h1)), g2.reps r2⟩)⟩
  · refine .inl (h X c τ σ _ _ _ e1 k sl fun v c1 m1 k1 g1 r1 => ?_)
    subst m1
    obtain ⟨p, rfl, hk, hl⟩ := later_list k1 r1 e2 (fun ds z => ht ⟨ds, z⟩)
    obtain ⟨es, h1, _⟩ := hl X c1 k1 (Grow.refl _ _) hk
    exact ⟨p, rfl, ⟨es, h1⟩, q _ c1 rfl k1 g1 hk (goes_list hl)⟩
/-- range -/
def rangeD (lo : Int) (n : Nat) : List D := (List.range n).map fun (k : Nat) => D.int (lo + (k : Int))
theorem goes_range {X : List Addr} {c : Cf} {lo : Int} {n : Nat} {ok : Sto → Prop} : Goes K X c (Itr lo n) ok (rangeD lo n) := fun i X1 c1 k1 g1 _ => by
  unfold rangeD
  refine ⟨fun hi => (show n ≤ i from by simpa using hi), fun d hd => ?_⟩
  rw [List.getElem?_map] at hd
  have hi : i < n := by
    rcases Nat.lt_or_ge i n with l | l
    · exact l
    · rw [List.getElem?_eq_none (by simpa using l)] at hd
      cases hd
  rw [List.getElem?_range hi] at hd
  cases hd
  exact ⟨hi, fun x H' ⟨e1, e2⟩ => ⟨c1, e1.symm, rfl, k1, Grow.refl _ _, e2⟩⟩
def rng1O (ma : MF) : MI := fun τ μ => (ma τ μ).bind fun p => match p.1 with
  | [.int j] => if -(2 ^ 62) ≤ j ∧ j < 2 ^ 62 then some ((rangeD 0 j.toNat, none), p.2) else none
  | _ => none
theorem refI_rng1 {ta : TA} {ma : MF} (h : RefA K ta ma) : RefI K (iRng1 ta) (rng1O ma) := fun X c τ σ s μ' R e k sl q => by
  obtain ⟨ds, μ1, e1, e⟩ := bind2 e
  match ds, e with
  | [.int j], e =>
    dsimp only at e
    by_cases hj : -(2 ^ 62) ≤ j ∧ j < 2 ^ 62
    · rw [if_pos hj] at e
      cases e
      refine h X c τ σ _ _ _ e1 k sl fun vs c1 m1 k1 g1 r1 => ?_
      obtain ⟨v, rfl, r2⟩ := reps1 r1
      cases rep_int r2
      exact ⟨j, rfl, hj.1, hj.2, q _ c1 m1 k1 g1 trivial goes_range⟩
    · rw [if_neg hj] at e
      cases e
def rng2O (ma : MF) : MI := fun τ μ => (ma τ μ).bind fun p => match p.1 with
  | [.int i, .int j] => if (-(2 ^ 62) ≤ i ∧ i < 2 ^ 62) ∧ -(2 ^ 62) ≤ j ∧ j < 2 ^ 62 then some ((rangeD i (j - i).toNat, none), p.2) else none
  | _ => none
theorem refI_rng2 {ta : TA} {ma : MF} (h : RefA K ta ma) : RefI K (iRng2 ta) (rng2O ma) := fun X c τ σ s μ' R e k sl q => by
  obtain ⟨ds, μ1, e1, e⟩ := bind2 e
  match ds, e with
  | [.int i, .int j], e =>
    dsimp only at e
    by_cases hj : (-(2 ^ 62) ≤ i ∧ i < 2 ^ 62) ∧ -(2 ^ 62) ≤ j ∧ j < 2 ^ 62
    · rw [if_pos hj] at e
      cases e
      refine h X c τ σ _ _ _ e1 k sl fun vs c1 m1 k1 g1 r1 => ?_
      obtain ⟨v, w, rfl, r2, r3⟩ := reps2 r1
      cases rep_int r2
      cases rep_int r3
      exact ⟨i, j, rfl, ⟨hj.1.1, hj.1.2, hj.2.1, hj.2.2⟩, q _ c1 m1 k1 g1 trivial goes_range⟩
    · rw [if_neg hj] at e
      cases e
/-- enumerate -/
def enumO (ma : MF) : MI := fun τ μ => (ma τ μ).bind fun p => match p.1 with
  | [.tup _] => none
  | [d] => (src p.2 d).bind fun s => match s.2 with
    | none => some ((enumD 0 s.1, none), p.2)
    | some (j, false) => some ((enumD 0 s.1, some (j, true)), p.2)
    | some (_, true) => none
  | _ => none
theorem goes_enum {X : List Addr} {c : Cf} {p : Addr} {ds : List D} {ok : Sto → Prop} (h : ∀ (X1 : List Addr) (c1 : Cf), Okk K X1 c1 → Grow X c X1 c1 → ok c1.m → ∃ es, SqL K c1.H p es ∧ RepsC K X1 c1 ds es) : Goes K X c (Ite K p) ok (enumD 0 ds) := fun i X1 c1 k1 g1 o1 => by
  obtain ⟨es, hs, hr⟩ := h X1 c1 k1 g1 o1
  refine ⟨fun hi => ⟨es, hs, by rw [hr.length, ← enumD_length 0 ds]; exact hi⟩, fun d hd => ?_⟩
  rw [enumD_at] at hd
  obtain ⟨d', h0, rfl⟩ := Option.map_eq_some_iff.mp hd
  obtain ⟨v, h1, h2⟩ := hr.at h0
  refine ⟨⟨es, v, hs, h1⟩, fun x H' ⟨T, y, ex, hT, eH, ey⟩ => ?_⟩
  have e3 := ey es hs
  rw [h1] at e3
  cases e3
  obtain ⟨k2, g2, v2⟩ := k1.laid (o := .tup [.int (i : Nat), v]) hT
  exact ⟨⟨upd c1.H T (.tup [.int (i : Nat), v]), c1.i, c1.m⟩, eH.symm, rfl, k2, g2, T, _, ex, v2, .int (i : Nat), [v], rfl, (by show V.int (i : Nat) = V.int ((0 + i : Nat) : Int); rw [Nat.zero_add]), v, [], rfl, g2.rep h2, rfl⟩
theorem refI_enum {ta : TA} {ma : MF} (h : RefA K ta ma) : RefI K (iEnum K ta) (enumO ma) := fun X c τ σ s μ' R e k sl q => by
  obtain ⟨ds, μ1, e1, e⟩ := bind2 e
  have main : ∀ d, ds = [d] → (∀ z, d ≠ .tup z) → ((src μ1 d).bind fun s => match s.2 with
    | none => some ((enumD 0 s.1, (none : Wat)), μ1)
    | some (j, false) => some ((enumD 0 s.1, some (j, true)), μ1)
    | some (_, true) => none) = some (s, μ') → iEnum K ta σ c.H R := fun d hd ht e' => by
    subst hd
    obtain ⟨⟨xs, o⟩, e2, e3⟩ := bind1 e'
    cases o with
    | some jb =>
      obtain ⟨j, b⟩ := jb
      cases b with
      | true => cases e3
      | false =>
        cases e3
        refine h X c τ σ _ _ _ e1 k sl fun vs c1 m1 k1 g1 r1 => ?_
        subst m1
        obtain ⟨v, rfl, r2⟩ := reps1 r1
        obtain ⟨p, rfl, hk, hl⟩ := later_list k1 r2 e2 ht
        obtain ⟨es, h1, _⟩ := hl X c1 k1 (Grow.refl _ _) hk
        exact ⟨p, es, rfl, h1, q _ c1 rfl k1 g1 ⟨xs, hk, rfl⟩ (goes_enum fun X1 c2 k2 g2 o2 => hl X1 c2 k2 g2 (by
          obtain ⟨ys, y1, y2⟩ := o2
          rw [← enumD_inj y2] at y1
          exact y1))⟩
    | none =>
      cases e3
      refine h X c τ σ _ _ _ e1 k sl fun vs c1 m1 k1 g1 r1 => ?_
      subst m1
      obtain ⟨v, rfl, r2⟩ := reps1 r1
      obtain ⟨p, rfl, hk, hl⟩ := later_list k1 r2 e2 ht
      obtain ⟨es, h1, _⟩ := hl X c1 k1 (Grow.refl _ _) hk
      exact ⟨p, es, rfl, h1, q _ c1 rfl k1 g1 trivial (goes_enum fun X1 c2 k2 g2 _ => hl X1 c2 k2 g2 trivial)⟩
  match ds, e, main with
  | [.tup _], e, main => cases e
  | [.non], e, main => exact main _ rfl (fun _ z => nomatch z) e
  | [.bl _], e, main => exact main _ rfl (fun _ z => nomatch z) e
  | [.int _], e, main => exact main _ rfl (fun _ z => nomatch z) e
  | [.str _], e, main => exact main _ rfl (fun _ z => nomatch z) e
  | [.ty _], e, main => exact main _ rfl (fun _ z => nomatch z) e
  | [.lst _], e, main => exact main _ rfl (fun _ z => nomatch z) e
  | [.scr _], e, main => exact main _ rfl (fun _ z => nomatch z) e
  | [.ktp _], e, main => exact main _ rfl (fun _ z => nomatch z) e
  | [.cls _], e, main => exact main _ rfl (fun _ z => nomatch z) e
  | [.cell _], e, main => exact main _ rfl (fun _ z => nomatch z) e
  | [.obj _ _ _], e, main => exact main _ rfl (fun _ z => nomatch z) e
  | [], e, main => cases e
  | _ :: _ :: _, e, main => (exfalso; revert e; intro e; first | cases e | (dsimp only at e; split at e <;> simp_all))
/-! ### for -/
open Classical in
noncomputable def loopO (j : Wat) (all : List D) (g : MG) (b : MS) : List D → MS
  | [], τ, μ => if chk j all μ then some (.nx τ μ) else none
  | d :: ds, τ, μ => if chk j all μ then (g d τ μ).bind fun p => (b p.1 p.2).bind fun o => match o with
    | .nx τ2 μ2 => loopO j all g b ds τ2 μ2
    | .ct τ2 μ2 => loopO j all g b ds τ2 μ2
    | .bk τ2 μ2 => some (.nx τ2 μ2)
    | .rt d μ2 => some (.rt d μ2) else none
noncomputable def forO (i : MI) (g : MG) (b : MS) : MS := fun τ μ => (i τ μ).bind fun p => loopO p.1.2 p.1.1 g b p.1.1 τ p.2
theorem refS_for {vs : List Nat} {wi : TI} {g : TG} {tb : TS} {mi : MI} {mg : MG} {b : MS} (hi : RefI K wi mi) (hg : RefG K vs g mg) (hb : RefS K tb b) : RefS K (tFor wi g tb) (forO mi mg b) := fun X c τ σ o D e k s q => by
  obtain ⟨⟨ds, j⟩, μ1, e1, e⟩ := bind2 e
  refine hi X c τ σ (ds, j) μ1 _ e1 k s fun J c1 m1 k1 g1 hk1 go => ?_
  subst m1
  dsimp only at e go hk1
  have q1 := q.grow g1
  refine ⟨fun i m σ' H' => m = ds.length - i ∧ i ≤ ds.length ∧ ∃ (c' : Cf) (τ' : Fr), c'.H = H' ∧ Okk K X c' ∧ Grow X c1 X c' ∧ Slots K X c' τ' σ' ∧ loopO j ds mg b (ds.drop i) τ' c'.m = some o, ⟨_, rfl, Nat.zero_le _, c1, τ, rfl, k1, Grow.refl _ _, g1.slots s, e⟩, ?_⟩
  rintro i m σ' H' ⟨rfl, hle, c', τ', rfl, k', g', s', e'⟩
  rcases Nat.lt_or_ge i ds.length with hlt | hge
  · have hd : ds[i]? = some ds[i] := List.getElem?_eq_getElem hlt
    rw [List.drop_eq_getElem_cons hlt, loopO] at e'
    by_cases hck : chk j ds c'.m
    · rw [if_pos hck] at e'
      obtain ⟨_, hgo⟩ := go i X c' k' g' hck
      obtain ⟨hg1, hy⟩ := hgo _ hd
      obtain ⟨τ2, μ2, e2, e'⟩ := bind2 e'
      obtain ⟨o2, e3, e'⟩ := bind1 e'
      refine .inr ⟨hg1, fun σ2 H2 => ∃ (c2 : Cf) (τ2 : Fr), c2.H = H2 ∧ Okk K X c2 ∧ Grow X c1 X c2 ∧ Slots K X c2 τ2 σ2 ∧ loopO j ds mg b (ds.drop (i + 1)) τ2 c2.m = some o, fun σ2 H2 z => ⟨_, by omega, rfl, hlt, z⟩, fun x H2 y => ?_⟩
      obtain ⟨c2, rfl, m2, k2, g2, r2⟩ := hy x H2 y
      refine hg X c2 τ' σ' _ x τ2 μ2 _ (by rw [m2]; exact e2) k2 (g2.slots s') r2 fun σ3 c3 m3 k3 g3 s3 _ => ?_
      subst m3
      have g13 := (g'.tr g2).tr g3
      refine hb X c3 τ2 σ3 o2 _ e3 k3 s3 ?_
      cases o2 with
      | nx τ4 μ4 =>
        intro σ4 c4 m4 k4 g4 s4
        subst m4
        exact ⟨c4, τ4, rfl, k4, g13.tr g4, s4, e'⟩
      | ct τ4 μ4 =>
        intro σ4 c4 m4 k4 g4 s4
        subst m4
        exact ⟨c4, τ4, rfl, k4, g13.tr g4, s4, e'⟩
      | bk τ4 μ4 =>
        cases e'
        exact fun σ4 c4 m4 k4 g4 s4 => q1 σ4 c4 m4 k4 (g13.tr g4) s4
      | rt d μ4 =>
        cases e'
        exact fun v c4 m4 k4 g4 s4 => q1 v c4 m4 k4 (g13.tr g4) s4
    · rw [if_neg hck] at e'
      cases e'
  · rw [List.drop_eq_nil_of_le hge, loopO] at e'
    by_cases hck : chk j ds c'.m
    · rw [if_pos hck] at e'
      cases e'
      exact .inl ⟨(go i X c' k' g' hck).1 hge, q1 σ' c' rfl k' g' s'⟩
    · rw [if_neg hck] at e'
      cases e'
/-! ### while -/
def whileN (t : MT) (b : MS) : Nat → MS
  | 0 => fun _ _ => none
  | n + 1 => fun τ μ => (t τ μ).bind fun p => if p.1 = true then (b τ p.2).bind fun o => (match o with
    | .nx τ2 μ2 => whileN t b n τ2 μ2
    | .ct τ2 μ2 => whileN t b n τ2 μ2
    | .bk τ2 μ2 => some (.nx τ2 μ2)
    | .rt d μ2 => some (.rt d μ2)) else some (.nx τ p.2)
theorem whileN_mono {t : MT} {b : MS} : ∀ {n m : Nat} {τ : Fr} {μ : Sto} {o : Ox}, n ≤ m → whileN t b n τ μ = some o → whileN t b m τ μ = some o
  | 0, _, _, _, _, _, e => by cases e
  | n + 1, 0, _, _, _, h, _ => by omega
  | n + 1, m + 1, τ, μ, o, h, e => by
    rw [whileN] at e ⊢
    obtain ⟨b1, μ1, e1, e⟩ := bind2 e
    show (t τ μ).bind _ = _
    rw [e1, Option.bind_some]
    cases b1 with
    | false => exact e
    | true =>
      rw [if_pos rfl] at e ⊢
      obtain ⟨o2, e2, e⟩ := bind1 e
      rw [e2, Option.bind_some]
      cases o2 with
      | nx τ2 μ2 => exact whileN_mono (by omega) e
      | ct τ2 μ2 => exact whileN_mono (by omega) e
      | bk τ2 μ2 => exact e
      | rt d μ2 => exact e
open Classical in
noncomputable def whileO (t : MT) (b : MS) : MS := fun τ μ => if h : ∃ n o, whileN t b n τ μ = some o then whileN t b h.choose τ μ else none
theorem whileO_of {t : MT} {b : MS} {n : Nat} {τ : Fr} {μ : Sto} {o : Ox} (e : whileN t b n τ μ = some o) : whileO t b τ μ = some o := by
  have h : ∃ n o, whileN t b n τ μ = some o := ⟨n, o, e⟩
  unfold whileO
  rw [dif_pos h]
  obtain ⟨o2, e2⟩ := h.choose_spec
  have a := whileN_mono (Nat.le_max_left n h.choose) e
  have b' := whileN_mono (Nat.le_max_right n h.choose) e2
  rw [a] at b'
  rw [e2, ← b']
theorem refS_while {tt : TT} {tb : TS} {t : MT} {b : MS} (ht : RefT K tt t) (hb : RefS K tb b) : RefS K (tWhile tt tb) (whileO t b) := fun X c τ σ o D e k s q => by
  obtain ⟨n, e⟩ : ∃ n, whileN t b n τ c.m = some o := by
    unfold whileO at e
    split at e
    · exact ⟨_, e⟩
    · cases e
  refine ⟨fun m σ' H' => ∃ (c' : Cf) (τ' : Fr), c'.H = H' ∧ Okk K X c' ∧ Grow X c X c' ∧ Slots K X c' τ' σ' ∧ whileN t b m τ' c'.m = some o, ⟨n, c, τ, rfl, k, Grow.refl _ _, s, e⟩, ?_⟩
  rintro m σ' H' ⟨c', τ', rfl, k', g', s', e'⟩
  cases m with
  | zero => cases e'
  | succ m =>
    rw [whileN] at e'
    obtain ⟨b1, μ1, e1, e'⟩ := bind2 e'
    refine ht X c' τ' σ' b1 μ1 _ e1 k' s' fun c1 m1 k1 g1 => ?_
    subst m1
    cases b1 with
    | false =>
      have e2 : some (Ox.nx τ' c1.m) = some o := e'
      cases e2
      rw [if_neg (fun z => nomatch z)]
      exact q σ' c1 rfl k1 (g'.tr g1) (g1.slots s')
    | true =>
      rw [if_pos rfl] at e' ⊢
      obtain ⟨o2, e2, e'⟩ := bind1 e'
      refine ⟨fun σ2 H2 => ∃ (c2 : Cf) (τ2 : Fr), c2.H = H2 ∧ Okk K X c2 ∧ Grow X c X c2 ∧ Slots K X c2 τ2 σ2 ∧ whileN t b m τ2 c2.m = some o, fun σ2 H2 z => ⟨m, Nat.lt_succ_self _, z⟩, ?_⟩
      refine hb X c1 τ' σ' o2 _ e2 k1 (g1.slots s') ?_
      have g2 := g'.tr g1
      cases o2 with
      | nx τ4 μ4 =>
        intro σ4 c4 m4 k4 g4 s4
        subst m4
        exact ⟨c4, τ4, rfl, k4, g2.tr g4, s4, e'⟩
      | ct τ4 μ4 =>
        intro σ4 c4 m4 k4 g4 s4
        subst m4
        exact ⟨c4, τ4, rfl, k4, g2.tr g4, s4, e'⟩
      | bk τ4 μ4 =>
        cases e'
        exact fun σ4 c4 m4 k4 g4 s4 => q σ4 c4 m4 k4 (g2.tr g4) s4
      | rt d μ4 =>
        cases e'
        exact fun v c4 m4 k4 g4 s4 => q v c4 m4 k4 (g2.tr g4) s4
end
end Z

set_option Elab.async false
set_option linter.all false
set_option maxRecDepth 100000
set_option maxHeartbeats 4000000
namespace Z
open PySem PySem.Spec L2
open PyProof.Rows hiding St
section
variable {K : PySem.W.Frag}
def wipeT (τ : Fr) : List Nat → Fr
  | [] => τ
  | v :: vs => (wipeT τ vs).set v none
theorem slots_wipe {X : List Addr} {c : Cf} {τ : Fr} {σ : St} (s : Slots K X c τ σ) : ∀ vs : List Nat, Slots K X c (wipeT τ vs) (wipe σ vs)
  | [] => s
  | v :: vs => by
    have s' := slots_wipe s vs
    refine ⟨by show ((wipe σ vs).set v none).length = ((wipeT τ vs).set v none).length; rw [List.length_set, List.length_set, s'.len], fun j d e => ?_⟩
    have e' : ((wipeT τ vs).set v none)[j]? = some (some d) := e
    by_cases h : v = j
    · subst h
      by_cases l : v < (wipeT τ vs).length
      · rw [List.getElem?_set_self l] at e'
        cases e'
      · rw [List.getElem?_eq_none (by rw [List.length_set]; omega)] at e'
        cases e'
    · rw [List.getElem?_set_ne h] at e'
      obtain ⟨w, h1, h2⟩ := s'.at_ j d e'
      exact ⟨w, by show ((wipe σ vs).set v none)[j]? = _; rw [List.getElem?_set_ne h]; exact h1, h2⟩
open Classical in
noncomputable def lcO (j : Wat) (all : List D) (g : MG) (tt : MT) (e : ME) (τ : Fr) : List D → Sto → Option (List D × Sto)
  | [], μ => if chk j all μ then some ([], μ) else none
  | d :: ds, μ => if chk j all μ then (g d τ μ).bind fun p => (tt p.1 p.2).bind fun b => if b.1 = true then (e p.1 b.2).bind fun y => (lcO j all g tt e τ ds y.2).bind fun r => some (y.1 :: r.1, r.2) else lcO j all g tt e τ ds b.2 else none
noncomputable def compF (i : MI) (g : MG) (tt : MT) (e : ME) (vs : List Nat) : MF := fun τ μ => (i τ μ).bind fun p => (lcO p.1.2 p.1.1 g tt e (wipeT τ vs) p.1.1 p.2).bind fun r => if r.1.length ≤ 1000000 then some r else none
def yesO : MT := fun _ μ => some (true, μ)
theorem refT_yes : RefT K tYes yesO := fun X c τ σ b μ' Q e k s q => by
  cases e
  exact q c rfl k (Grow.refl X c)
theorem refF_comp {wi : TI} {g : TG} {tt : TT} {te : TE} {vs : List Nat} {mi : MI} {mg : MG} {mt : MT} {me : ME} (hi : RefI K wi mi) (hg : RefG K vs g mg) (ht : RefT K tt mt) (he : RefE K te me) : RefF K (tLc wi g tt te vs) (compF mi mg mt me vs) := fun X c τ σ rs μ' Q e k s q => by
  obtain ⟨⟨ds, j⟩, μ1, e1, e⟩ := bind2 e
  obtain ⟨rs', μ2, e2, e⟩ := bind2 e
  dsimp only at e e2
  by_cases hl : rs'.length ≤ 1000000
  · rw [if_pos hl] at e
    cases e
    refine hi X c τ σ (ds, j) μ1 _ e1 k s fun J c1 m1 k1 g1 hk1 go D hD => ?_
    subst m1
    dsimp only at go hk1
    have nX : D ∉ X := fun m => k1.xs D m hD
    obtain ⟨k2, g2⟩ := Okk.own (o := .lst []) k1 hD
    have s1 := slots_wipe (g1.slots s) vs
    refine ⟨fun i m H' => m = ds.length - i ∧ i ≤ ds.length ∧ ∃ (c' : Cf) (acc : List V) (as r : List Z.D), c'.H = H' ∧ Okk K (D :: X) c' ∧ Grow X c1 (D :: X) c' ∧ c'.H D = some (.lst acc) ∧ RepsC K (D :: X) c' as acc ∧ lcO j ds mg mt me (wipeT τ vs) (ds.drop i) c'.m = some (r, μ') ∧ as ++ r = rs,
      ⟨_, rfl, Nat.zero_le _, ⟨upd c1.H D (.lst []), c1.i, c1.m⟩, [], [], rs, rfl, k2, g2, upd_same, rfl, e2, rfl⟩, ?_⟩
    rintro i m H' ⟨rfl, hle, c', acc, as, r, rfl, k', g', hacc, racc, e', eas⟩
    have sw := g'.slots s1
    rcases Nat.lt_or_ge i ds.length with hlt | hge
    · have hd : ds[i]? = some ds[i] := List.getElem?_eq_getElem hlt
      rw [List.drop_eq_getElem_cons hlt, lcO] at e'
      by_cases hck : chk j ds c'.m
      · rw [if_pos hck] at e'
        obtain ⟨_, hgo⟩ := go i (D :: X) c' k' g' hck
        obtain ⟨hg1, hy⟩ := hgo _ hd
        obtain ⟨τ2, μ3, e3, e'⟩ := bind2 e'
        obtain ⟨b, μ4, e4, e'⟩ := bind2 e'
        refine .inr ⟨hg1, fun H2 => ∃ (c' : Cf) (acc : List V) (as r : List Z.D), c'.H = H2 ∧ Okk K (D :: X) c' ∧ Grow X c1 (D :: X) c' ∧ c'.H D = some (.lst acc) ∧ RepsC K (D :: X) c' as acc ∧ lcO j ds mg mt me (wipeT τ vs) (ds.drop (i + 1)) c'.m = some (r, μ') ∧ as ++ r = rs, fun H2 z => ⟨_, by omega, rfl, hlt, z⟩, fun x H2 y => ?_⟩
        obtain ⟨c2, rfl, m2, k2, g2, r2⟩ := hy x H2 y
        refine hg (D :: X) c2 _ _ _ x τ2 μ3 _ (by rw [m2]; exact e3) k2 (g2.slots sw) r2 fun σ3 c3 m3 k3 g3 s3 w3 => ⟨by rw [w3, wipe_wipe], ?_⟩
        subst m3
        refine ht (D :: X) c3 τ2 σ3 b μ4 _ e4 k3 s3 fun c4 m4 k4 g4 => ?_
        subst m4
        have g24 := (g2.tr g3).tr g4
        cases b with
        | false =>
          have e5 : lcO j ds mg mt me (wipeT τ vs) (ds.drop (i + 1)) c4.m = some (r, μ') := e'
          rw [if_neg (fun z => nomatch z)]
          exact ⟨c4, acc, as, r, rfl, k4, g'.trans g24 fun a m => List.mem_cons_of_mem _ m, (g24.hid D List.mem_cons_self).trans hacc, g24.reps racc, e5, eas⟩
        | true =>
          rw [if_pos rfl] at e' ⊢
          obtain ⟨y2, μ5, e5, e'⟩ := bind2 e'
          obtain ⟨r', μ6, e6, e'⟩ := bind2 e'
          cases e'
          refine he (D :: X) c4 τ2 σ3 y2 μ5 _ e5 k4 (g4.slots s3) fun v c5 m5 k5 g5 r5 => ?_
          subst m5
          have g25 := g24.tr g5
          have len : acc.length < sizeLine := by
            have l1 := racc.length
            have l2 : (as ++ y2 :: r').length ≤ 1000000 := by rw [eas]; exact hl
            rw [List.length_append] at l2
            rw [sizeLine_eq, l1]
            omega
          refine ⟨acc, (g25.hid D List.mem_cons_self).trans hacc, len, ?_⟩
          obtain ⟨k6, v6⟩ := k5.poke (.lst (acc ++ [v]))
          refine ⟨⟨upd c5.H D (.lst (acc ++ [v])), c5.i, c5.m⟩, acc ++ [v], as ++ [y2], r', rfl, k6, ?_, upd_same, ?_, e6, by rw [List.append_assoc]; exact eas⟩
          · have g6 := g'.trans g25 fun a m => List.mem_cons_of_mem _ m
            exact ⟨by rw [v6]; exact g6.same, g6.pre, fun a m => by show upd c5.H D _ a = _; rw [upd_ne fun z => nX (by rw [← z]; exact m)]; exact g6.hid a m⟩
          · show Reps K (vis (D :: X) ⟨upd c5.H D (.lst (acc ++ [v])), c5.i, c5.m⟩) c5.i _ _
            rw [v6]
            exact Reps.snoc (g25.reps racc) r5
      · rw [if_neg hck] at e'
        cases e'
    · rw [List.drop_eq_nil_of_le hge, lcO] at e'
      by_cases hck : chk j ds c'.m
      · rw [if_pos hck] at e'
        cases e'
        rw [List.append_nil] at eas
        subst eas
        exact .inl ⟨(go i (D :: X) c' k' g' hck).1 hge, q D acc c' rfl nX k' (g1.trans g' fun _ m => m) hacc racc⟩
      · rw [if_neg hck] at e'
        cases e'
  · rw [if_neg hl] at e
    cases e
/-! ### a def computes what its body computes -/
noncomputable def defO (np n : Nat) (b : MS) : ML := fun ds μ => if ds.length = np then (match b (ds.map some ++ List.replicate (n - np) none) μ with
  | some (.rt d μ') => trimO μ d μ'
  | some (.nx _ μ') => trimO μ .non μ'
  | _ => none) else none
theorem spO_len {F : ML} {np n : Nat} {b : MS} (h : F = defO np n b) {vs : List V} {H : Hp} {Q : VK} {E : XK} (q : spO K F vs H Q E) : vs.length = np := by
  obtain ⟨X, c, ds, d, μ', rfl, e, k, r, _⟩ := q
  subst h
  unfold defO at e
  by_cases hn : ds.length = np
  · rw [r.length, hn]
  · rw [if_neg hn] at e
    cases e
theorem slots_start {X : List Addr} {c : Cf} {ds : List D} {vs : List V} {N : List Str} (r : RepsC K X c ds vs) : Slots K X c (ds.map some ++ List.replicate (N.length - ds.length) none) (L2.start N vs) := by
  have l := r.length
  refine ⟨by unfold L2.start; rw [List.length_append, List.length_append, List.length_map, List.length_map, List.length_replicate, List.length_replicate, l], fun i d e => ?_⟩
  by_cases h : i < ds.length
  · rw [List.getElem?_append_left (by rw [List.length_map]; exact h), List.getElem?_map] at e
    obtain ⟨d', h1, h2⟩ := Option.map_eq_some_iff.mp e
    cases h2
    obtain ⟨v, h3, h4⟩ := r.at h1
    refine ⟨v, ?_, h4⟩
    unfold L2.start
    rw [List.getElem?_append_left (by rw [List.length_map, l]; exact h), List.getElem?_map, h3]
    rfl
  · rw [List.getElem?_append_right (by rw [List.length_map]; omega), List.getElem?_replicate] at e
    split at e <;> cases e
theorem spO_body {F : ML} {np : Nat} {N : List Str} {b : MS} {t : TS} (h : F = defO np N.length b) (hb : RefS K t b) {vs : List V} {H : Hp} {Q : VK} {E : XK} (q : spO K F vs H Q E) : t { nx := fun _ H' => Q .non H', rt := Q } (L2.start N vs) H := by
  obtain ⟨X, c, ds, d, μ', rfl, e, k, r, q⟩ := q
  subst h
  unfold defO at e
  by_cases hn : ds.length = np
  · rw [if_pos hn] at e
    have fin : ∀ (d1 : D) (μ1 : Sto), trimO c.m d1 μ1 = some (d, μ') → ∀ (v : V) (c' : Cf), c'.m = μ1 → Okk K X c' → Grow X c X c' → RepC K X c' d1 v → Q v c'.H := fun d1 μ1 et v c' m' k' g' r' => by
      subst m'
      unfold trimO at et
      by_cases h1 : c'.m.length = c.m.length
      · rw [if_pos h1] at et
        cases et
        exact q v c' rfl k' g' r'
      · rw [if_neg h1] at et
        by_cases h2 : TrimOk c.m d1 c'.m
        · rw [if_pos h2] at et
          cases et
          obtain ⟨k2, g2, r2⟩ := Okk.trim k k' g' r' h2
          exact q v ⟨c'.H, c'.i.take c.m.length, c'.m.take c.m.length⟩ rfl k2 g2 r2
        · rw [if_neg h2] at et
          cases et
          exact q v c' rfl k' g' r'
    cases hb' : b (ds.map some ++ List.replicate (N.length - np) none) c.m with
    | none => rw [hb'] at e; cases e
    | some o =>
      rw [hb'] at e
      refine hb X c _ _ o _ (by rw [← hn] at hb'; exact hb') k (slots_start r) ?_
      cases o with
      | nx τ μ1 => exact fun σ' c' m' k' g' s' => fin .non μ1 e .non c' m' k' g' rfl
      | rt d1 μ1 => exact fin d1 μ1 e
      | bk τ μ1 => cases e
      | ct τ μ1 => cases e
  · rw [if_neg hn] at e
    cases e
/-- the law's end -/
theorem spO_law {F : ML} {ns : List Int} {a : Addr} {H : Hp} {μ' : Sto} (hF : F [.scr (ns.map D.int)] [] = some (.bl true, μ')) (hS : SqL K H a (ns.map V.int)) : spO K F [.ref a] H (fun v _ => v = .bl true) fun _ _ _ => False := by
  have reps : ∀ {G : Hp} {ι : List Addr} {ms : List Int}, Reps K G ι (ms.map D.int) (ms.map V.int) := fun {G ι ms} => by
    induction ms with
    | nil => rfl
    | cons m ms ih => exact ⟨_, _, rfl, rfl, ih⟩
  have e : vis [] ⟨H, [], []⟩ = H := by
    funext b
    exact hide_out (by simp [lives])
  refine ⟨[], ⟨H, [], []⟩, [.scr (ns.map D.int)], .bl true, μ', rfl, hF, ⟨rfl, fun i j a h => by simp at h, fun i x a h => by simp at h, fun a m => by simp at m⟩, ⟨_, [], rfl, ⟨a, _, rfl, by rw [e]; exact hS, reps⟩, rfl⟩, fun v c' _ _ _ r => r⟩
end
end Z

set_option Elab.async false
set_option linter.all false
set_option maxRecDepth 100000
set_option maxHeartbeats 4000000
namespace Z
open PySem PySem.Spec L2
open PyProof.Rows hiding St
section
variable {X : Cx} {K : PySem.W.Frag}
theorem pe_fldK {e : Expr} {f : Str} {pos : Pos} {ta : TE} (hK : X.K = K) (he : PE X e ta) (hb : attributeBase e f X.env (eval e X.env) = eval e X.env := by rfl) : PE X (.Attribute e f pos) (tFld K ta f) := by subst hK; exact pe_fld he hb
theorem op_inK (hK : X.K = K) : OpR X (compareOp .In) (rIn K false) := by subst hK; exact op_in_seq
theorem op_notInK (hK : X.K = K) : OpR X (compareOp .NotIn) (rIn K true) := by subst hK; exact op_notIn_seq
theorem cLenK (hK : X.K = K) : CallR X (.builtin "len") (rLenS K) := by subst hK; exact cLen
theorem cSumK (hK : X.K = K) (hc : X.calm = true) : CallR X (.builtin "sum") (rSum K) := by subst hK; exact cr_sum hc
theorem cAllK (hK : X.K = K) (hc : X.calm = true) : CallR X (.builtin "all") (rAll K) := by subst hK; exact cr_all hc
theorem cAnyK (hK : X.K = K) (hc : X.calm = true) : CallR X (.builtin "any") (rAny K) := by subst hK; exact cr_any hc
theorem cIsiK (hK : X.K = K) : CallR X (.builtin "isinstance") (rIsi K) := by subst hK; exact call_isi
theorem pi_enumK {e : Expr} {ta : TA} {p pos tpos : Pos} {elts : List Expr} {kk : Nat} (hK : X.K = K) (hg : Gl X "enumerate") (hm : X.mg "enumerate" = none) (ha : PA X [e] ta) (hs : starEach [e] X.env = [(false, eval e X.env)] := by rfl) :
    PI X (.Tuple elts kk tpos) (.Call (.Name "enumerate" p) [e] [] pos) (iEnum K ta) := by subst hK; exact pi_enum hg hm ha hs
theorem pt_tru {a : Expr} {ta : TE} (hK : X.K = K) (ha : PE X a ta) (he : ∀ whole, isTrue a X.env whole = (do let v ← whole; standAt a.pos; holding [v] (truthy v)) := by intro _; rfl) :
    PT X a (fun σ H Q => ta σ H fun x H' => ∃ k, TruV K x H' k ∧ Q k H') := by subst hK; exact pt_truth ha he
theorem pe_appK {o e : Expr} {to te : TE} {pos apos : Pos} (hK : X.K = K) (ho : PE X o to) (ha : PE X e te) (h : PE X (.Call (.Attribute o "append" apos) [e] [] pos) (tBM X.K "list" rAppend to (tCons te tNil))) :
    PE X (.Call (.Attribute o "append" apos) [e] [] pos) (tBM K "list" rAppend to (tCons te tNil)) := by subst hK; exact h
theorem pe_bm0K {o : Expr} {n : Str} {to : TE} {r : V → List V → Hp → VK → Prop} {pos apos : Pos} (hK : X.K = K) (ho : PE X o to) (h : PE X (.Call (.Attribute o n apos) [] [] pos) (tBM0 X.K "list" r to)) :
    PE X (.Call (.Attribute o n apos) [] [] pos) (tBM0 K "list" r to) := by subst hK; exact h
/-- a method as its callers see it -/
structure MethOk (P : Program) (w : World) (K : PySem.W.Frag) (mg : Str → Option Value) (base : Heap) (k : Nat) (C : Addr) (m : Str) (ps : List Str) (sp : Sp) : Prop where
  ex : ∃ (f : Addr) (fd : FuncData), Meth K C m f ∧ FnOk P w K mg base CX0 k f fd ps sp ∧ Binds K fd ps []
theorem pe_methO {pl : Sem Bool} {o e : Expr} {es : List Expr} {ta : TE} {t : TA} {C : Addr} {m : Str} {k : Nat} {ps : List Str} {sp : Sp} {pos apos : Pos} (M : MethOk X.prog X.w X.K X.mg X.base k C m ps sp) (c : Cls X.K C) (hr : Room k X.A) (he : PE X o ta) (ha : PA X (e :: es) t)
    (hst : starEach (e :: es) X.env = (false, eval e X.env) :: starEach es X.env := by rfl) (hpl : (backTo pos (starEach es X.env)).any (·.1) = false := by rfl)
    (ht : eval (.Call (.Attribute o m apos) (e :: es) [] pos) X.env = (do
      let ov ← eval o X.env
      standAt apos.atName
      let (f, first) ← holding [ov] (getMethod ov m pl)
      callWith pos f first (backTo pos (starEach (e :: es) X.env)) (backToKw pos (keywordEach [] X.env))) := by rfl) :
    PE X (.Call (.Attribute o m apos) (e :: es) [] pos) (tMeth C m sp [] E0 ta t) := by
  obtain ⟨f, fd, hm, F, hb⟩ := M.ex
  exact pe_meth he c hm F hr hb .nil pass0 ha hst hpl ht
theorem pe_methO0 {pl : Sem Bool} {o : Expr} {ta : TE} {C : Addr} {m : Str} {k : Nat} {ps : List Str} {sp : Sp} {pos apos : Pos} (M : MethOk X.prog X.w X.K X.mg X.base k C m ps sp) (c : Cls X.K C) (hr : Room k X.A) (he : PE X o ta)
    (ht : eval (.Call (.Attribute o m apos) [] [] pos) X.env = (do
      let ov ← eval o X.env
      standAt apos.atName
      let (f, first) ← holding [ov] (getMethod ov m pl)
      callWith pos f first (backTo pos (starEach [] X.env)) (backToKw pos (keywordEach [] X.env))) := by rfl) :
    PE X (.Call (.Attribute o m apos) [] [] pos) (tMeth C m sp [] E0 ta tNil) := by
  obtain ⟨f, fd, hm, F, hb⟩ := M.ex
  exact pe_meth0 he c hm F hr hb .nil pass0 ht
theorem _root_.L2.FunD.ok0 {P : Program} {w : World} {K : PySem.W.Frag} {mg : Str → Option Value} {base : Heap} {x qual : Str} {st : Stmt} {N ps : List Str} {k : Nat} {sp : Sp} {f : Addr} {fd : FuncData} (F : FunD K x qual (defArgs st) (defBody st) (defScope st) [] [] f fd) (S : FnScope N ps (defScope st)) (len : ∀ vs H Q E, sp vs H Q E → vs.length = ps.length)
    (hbody : ∀ (cdv : Value) (A : Around) (outer : List Env) (s : Shared) (H : Hp) (vs : List V) (Q : VK) (E : XK), Room k (A.deeper (envOfC qual (defScope st) s.heap.objs.size f cdv)) → sp vs H Q E →
      ∃ t, PSs (cxOf CX0 P w K mg base N qual (defScope st) f cdv A outer s H E).nox (defBody st) t ∧ t { nx := fun _ H' => Q .non H', rt := Q } (start N vs) H) : FnOk P w K mg base CX0 (k + 1) f fd ps sp :=
  F.ok S len fun cdv A outer s H vs Q E hr h => by
    obtain ⟨t, h1, h2⟩ := hbody cdv A outer s H vs Q E hr h
    exact ⟨t, h1.nox, h2⟩
theorem prop_ok0 {P : Program} {w w2 : World} {K : PySem.W.Frag} {mg : Str → Option Value} {base h : Heap} {fa : List He.Fa} {fn : List He.DefD} {gs : List GetD} {ex : PySem.W.Frag → Bool} {k : Nat} {sp : Sp} {N : List Str} (c : SaysG fa fn gs ex w h K) (i : Nat) {d : GetD} (e : gs[i]? = some d) (S : FnScope N ["self"] (defScope d.st))
    (len : ∀ vs H Q E, sp vs H Q E → vs.length = 1) (hbind : ∀ (kV doc pm : Value) (an : Option Addr) (cdv ct : Value) (us : List Value), us.length = (["self"] : List Str).length → bindArgs (PySem.W.fnOf d.prop d.qual (defArgs d.st) (defBody d.st) (defScope d.st) .none kV doc pm an cdv ct) ⟨us, []⟩ = pure ((["self"] : List Str).zip us))
    (hbody : ∀ (g : Addr) (cdv : Value) (A : Around) (outer : List Env) (s : Shared) (H : Hp) (vs : List V) (Q : VK) (E : XK), Room k (A.deeper (envOfC d.qual (defScope d.st) s.heap.objs.size g cdv)) → sp vs H Q E →
      ∃ t, PSs (cxOf CX0 P w2 K mg base N d.qual (defScope d.st) g cdv A outer s H E).nox (defBody d.st) t ∧ t { nx := fun _ H' => Q .non H', rt := Q } (start N vs) H) : PropOk P w2 K mg base (k + 1) (He.ga K d.cls) d.prop sp := by
  obtain ⟨⟨p, hp⟩, oc, od, osl, kV, doc, pm, an, cdv, ct, lk, hcd⟩ := c.get i e
  exact ⟨⟨p, _, _, hp, fn_of lk hcd S len (fun A outer s H vs Q E hr h => by
    obtain ⟨t, h1, h2⟩ := hbody _ cdv A outer s H vs Q E hr h
    exact ⟨t, h1.nox, h2⟩), .all (hbind kV doc pm an cdv ct)⟩⟩
/-! ### own == -/
def clsIn (Cs : List Str) : Kd → Bool
  | .cl C => decide (C ∈ Cs)
  | _ => true
theorem clsIn_of {Cs : List Str} {t : Kd} (h : clsIn Cs t = true) : ∀ C', t = .cl C' → C' ∈ Cs := fun C' e => by subst e; exact of_decide_eq_true h
def eqoB (C : Str) (Cs : List Str) (F : ML) : MB := fun x y μ => (asI μ x).bind fun o => if o.1 = C then (kd μ y).bind fun t => if clsIn Cs t = true then (F [x, y] μ).bind fun p => (match p.1 with
  | .bl b => some (.bl b, p.2)
  | _ => none) else none else none
/-- nothing that is asked is of a class that goes first -/
def FirstOk (K : PySem.W.Frag) (C : Str) (Cs : List Str) : Prop := (∀ n ∈ (["NoneType", "bool", "int", "str", "list", "tuple"] : List String), PySem.W.notFirst K (He.ga K C) (.type n) = true) ∧ ∀ C' ∈ Cs, PySem.W.notFirst K (He.ga K C) (.ref (He.ga K C')) = true
end
section
variable {K : PySem.W.Frag}
theorem kd_names {μ : Sto} {d : D} {t : Kd} (e : kd μ d = some t) : (∃ n ∈ (["NoneType", "bool", "int", "str", "list", "tuple"] : List String), t = .ty n) ∨ ∃ C, t = .cl C := by
  cases d with
  | non => cases e; exact .inl ⟨_, by decide, rfl⟩
  | bl b => cases e; exact .inl ⟨_, by decide, rfl⟩
  | int b => cases e; exact .inl ⟨_, by decide, rfl⟩
  | str b => cases e; exact .inl ⟨_, by decide, rfl⟩
  | lst ds => cases e; exact .inl ⟨_, by decide, rfl⟩
  | tup ds => cases e; exact .inl ⟨_, by decide, rfl⟩
  | obj C ns ds => cases e; exact .inr ⟨C, rfl⟩
  | cell i =>
    unfold kd at e
    dsimp only at e
    split at e
    · cases e; exact .inl ⟨_, by decide, rfl⟩
    · cases e; exact .inr ⟨_, rfl⟩
    · cases e
  | _ => cases e
theorem refB_eqo {C : Str} {Cs : List Str} {F : ML} (ic : InsOk K Cs) (fo : FirstOk K C Cs) : RefB K (rEqO K (He.ga K C) (spO K F)) (eqoB C Cs F) := fun X c dx dy x y d μ' Q e k rx ry q => by
  obtain ⟨⟨C', ns, ds⟩, e1, e⟩ := bind1 e
  dsimp only at e
  by_cases hC : C' = C
  · have e' : ((kd c.m dy).bind fun t => if clsIn Cs t = true then (F [dx, dy] c.m).bind fun p => (match p.1 with
      | .bl b => some (.bl b, p.2)
      | _ => none) else none) = some (d, μ') := by rw [if_pos hC] at e; exact e
    clear e
    subst hC
    obtain ⟨t, e2, e3⟩ := bind1 e'
    by_cases ht : clsIn Cs t = true
    · rw [if_pos ht] at e3
      obtain ⟨d1, μ1, e4, e5⟩ := bind2 e3
      cases d1 with
      | bl b =>
        cases e5
        obtain ⟨a, dd, es, rfl, h1, l1, r2⟩ := asI_ok k rx e1
        have nf : PySem.W.notFirst K (He.ga K C') (t.val K) = true := by
          rcases kd_names e2 with ⟨n, hn, rfl⟩ | ⟨C2, rfl⟩
          · exact fo.1 n hn
          · exact fo.2 C2 (clsIn_of ht C2 rfl)
        exact ⟨a, dd, _, _, rfl, h1, kd_ok ic k ry e2 (clsIn_of ht), nf, X, c, [dx, dy], .bl b, _, rfl, e4, k, ⟨_, _, rfl, rx, _, _, rfl, ry, rfl⟩, fun v c2 m2 k2 g2 r3 => ⟨b, r3, q _ c2 m2 k2 g2 rfl⟩⟩
      | _ => cases e5
    · rw [if_neg ht] at e3
      cases e3
  · rw [if_neg hC] at e
    cases e
/-- xs.clear(), xs.pop() -/
def clearO (mo : ME) : ME := fun τ μ => (mo τ μ).bind fun p => match p.1 with
  | .cell i => (match p.2[i]? with
    | some (.lst _) => some (.non, p.2.set i (.lst []))
    | _ => none)
  | _ => none
theorem refE_clear {te : TE} {mo : ME} (h : RefE K te mo) : RefE K (tBM0 K "list" rClear te) (clearO mo) := fun X c τ σ d μ' Q e k s q => by
  obtain ⟨d1, μ1, e1, e0⟩ := bind2 e
  refine h X c τ σ d1 μ1 _ e1 k s fun x c1 m1 k1 g1 r1 => ?_
  subst m1
  cases d1 with
  | cell i =>
    dsimp only at e0
    cases hi : c1.m[i]? with
    | none => rw [hi] at e0; cases e0
    | some z =>
      rw [hi] at e0
      cases z with
      | lst ds =>
        cases e0
        obtain ⟨a, ea, ⟨es, h2, _⟩, k3, g3⟩ := cell_set (ds' := []) (es' := []) k1 hi r1 rfl
        subst ea
        exact ⟨.inl ⟨rfl, _, SqL.of h2⟩, a, es, rfl, rfl, h2, q .non ⟨upd c1.H a (.lst []), c1.i, c1.m.set i (.lst [])⟩ rfl k3 (g1.tr g3) rfl⟩
      | _ => cases e0
  | _ => cases e0
def popO (mo : ME) : ME := fun τ μ => (mo τ μ).bind fun p => match p.1 with
  | .cell i => (match p.2[i]? with
    | some (.lst ds) => (ds[ds.length - 1]?).bind fun y => some (y, p.2.set i (.lst ds.dropLast))
    | _ => none)
  | _ => none
theorem Reps.dropLast {G : Hp} {ι : List Addr} {ds : List D} {es : List V} (h : Reps K G ι ds es) : Reps K G ι ds.dropLast es.dropLast := by
  rw [List.dropLast_eq_take, List.dropLast_eq_take, h.length]
  exact h.take _
theorem refE_pop {te : TE} {mo : ME} (h : RefE K te mo) : RefE K (tBM0 K "list" rPop te) (popO mo) := fun X c τ σ d μ' Q e k s q => by
  obtain ⟨d1, μ1, e1, e0⟩ := bind2 e
  refine h X c τ σ d1 μ1 _ e1 k s fun x c1 m1 k1 g1 r1 => ?_
  subst m1
  cases d1 with
  | cell i =>
    dsimp only at e0
    cases hi : c1.m[i]? with
    | none => rw [hi] at e0; cases e0
    | some z =>
      rw [hi] at e0
      cases z with
      | lst ds =>
        obtain ⟨y, e2, e0⟩ := bind1 e0
        cases e0
        obtain ⟨a0, es0, ea0, h0, r0⟩ := cell_at k1 hi r1
        subst ea0
        obtain ⟨a, ea, ⟨es, h2, r2⟩, k3, g3⟩ := cell_set k1 hi r1 r0.dropLast
        cases ea
        rw [h0] at h2
        cases h2
        obtain ⟨v, h3, h4⟩ := r0.at e2
        exact ⟨.inl ⟨rfl, _, SqL.of h0⟩, a0, es0, v, rfl, rfl, h0, by rw [r0.length]; exact h3, q v ⟨upd c1.H a0 (.lst es0.dropLast), c1.i, c1.m.set i (.lst ds.dropLast)⟩ rfl k3 (g1.tr g3) (g3.rep h4)⟩
      | _ => cases e0
  | _ => cases e0
/-- what is not said -/
def neverO : MS := fun _ _ => none
theorem refS_never : RefS K tNever neverO := fun X c τ σ o D e k s q => nomatch e
/-- the table of kinds -/
def kds (Cs : List Str) : List Kd := [.ty "NoneType", .ty "bool", .ty "int", .ty "str", .ty "list", .ty "tuple"] ++ Cs.map .cl
def isK (t u : Kd) : Bool := t == u || (t == .ty "bool" && u == .ty "int")
def tbOf (Cs : List Str) (t u : Kd) : Option Bool := if t ∈ kds Cs ∧ u ∈ kds Cs then some (isK t u) else none
def tbB (K : PySem.W.Frag) (Cs : List Str) : Bool := (Cs.all fun C => insB K (He.ga K C)) && (((kds Cs).all fun t => (kds Cs).all fun u => decide (PySem.W.kitOne K (t.val K) (u.val K) = some (isK t u))) &&
  (Cs.all fun C => ((["NoneType", "bool", "int", "str", "list", "tuple"] : List String).all fun n => PySem.W.notFirst K (He.ga K C) (.type n)) && (Cs.all fun C' => PySem.W.notFirst K (He.ga K C) (.ref (He.ga K C')))))
theorem insOk_of {Cs : List Str} (h : tbB K Cs = true) (c : ∀ C ∈ Cs, Cls K (He.ga K C)) : InsOk K Cs := fun C m => ⟨c C m, List.all_eq_true.mp (He.ba h).1 C m⟩
theorem tbOk_of {Cs : List Str} (h : tbB K Cs = true) (c : ∀ C ∈ Cs, Cls K (He.ga K C)) : TbOk K Cs (tbOf Cs) where
  ins := insOk_of h c
  cl := fun C u b e => by
    unfold tbOf at e
    split at e
    · rename_i q
      have m := q.1
      unfold kds at m
      rcases List.mem_append.mp m with m | m
      · simp at m
      · obtain ⟨C', h1, h2⟩ := List.mem_map.mp m
        cases h2
        exact h1
    · cases e
  ok := fun t u b e => by
    unfold tbOf at e
    split at e
    · rename_i q
      cases e
      exact of_decide_eq_true (List.all_eq_true.mp (List.all_eq_true.mp (He.ba (He.ba h).2).1 t q.1) u q.2)
    · cases e
theorem firstOk_of {Cs : List Str} (h : tbB K Cs = true) {C : Str} (m : C ∈ Cs) : FirstOk K C Cs := by
  obtain ⟨h1, h2⟩ := He.ba (List.all_eq_true.mp (He.ba (He.ba h).2).2 C m)
  exact ⟨fun n hn => List.all_eq_true.mp h1 n hn, fun C' m' => List.all_eq_true.mp h2 C' m'⟩
theorem fldOk1 {C f : Str} (c : Cls K (He.ga K C)) (n : NoAttr K (He.ga K C) f) : FldOk K [C] f := fun C' m => by
  cases List.mem_singleton.mp m
  exact ⟨c, n⟩
end
end Z

set_option Elab.async false
set_option linter.all false
set_option maxRecDepth 100000
set_option maxHeartbeats 4000000
namespace Z
open PySem PySem.Spec L2
open PyProof.Rows hiding St
section
variable {K : PySem.W.Frag} {X : Cx}
theorem pe_idxK {o e : Expr} {to te : TE} {pos apos : Pos} (hK : X.K = K) (ho : PE X o to) (ha : PE X e te) (h : PE X (.Call (.Attribute o "index" apos) [e] [] pos) (tBM X.K "list" (rIndex X.K) to (tCons te tNil))) :
    PE X (.Call (.Attribute o "index" apos) [e] [] pos) (tBM K "list" (rIndex K) to (tCons te tNil)) := by subst hK; exact h
/-- the first place of a number in a list of numbers -/
def idxO (mo ma : ME) : ME := fun τ μ => (mo τ μ).bind fun p => (asS p.2 p.1).bind fun _ => (ma τ p.2).bind fun a => match a.1 with
  | .int i => (asS a.2 p.1).bind fun ds => (intsD ds).bind fun ns => if i ∈ ns then some (.int (ns.idxOf i : Nat), a.2) else none
  | _ => none
theorem eqV_ints {i j : Int} : eqV (.int i) (.int j) = (i == j) := rfl
theorem refE_idx {te ta : TE} {mo ma : ME} (h : RefE K te mo) (ha : RefE K ta ma) : RefE K (tBM K "list" (rIndex K) te (tCons ta tNil)) (idxO mo ma) := fun X c τ σ d μ' Q e k s q => by
  obtain ⟨d1, μ1, e1, e0⟩ := bind2 e
  refine h X c τ σ d1 μ1 _ e1 k s fun x c1 m1 k1 g1 r1 => ?_
  subst m1
  obtain ⟨xs, f1, e0⟩ := Option.bind_eq_some_iff.mp e0
  obtain ⟨y, μ2, e2, e0⟩ := bind2 e0
  obtain ⟨p0, es0, rfl, h0, _⟩ := asS_ok k1 r1 f1
  refine ⟨.inl ⟨rfl, _, h0⟩, ?_⟩
  refine ha X c1 τ σ y μ2 _ e2 k1 (g1.slots s) fun w c2 m2 k2 g2 r2 => ?_
  subst m2
  cases y with
  | int i =>
    cases rep_int r2
    obtain ⟨ds, f2, e0⟩ := Option.bind_eq_some_iff.mp e0
    obtain ⟨ns, f3, e0⟩ := Option.bind_eq_some_iff.mp e0
    by_cases hm : i ∈ ns
    · rw [if_pos hm] at e0
      cases e0
      obtain ⟨p, es, ep, h1, r3⟩ := asS_ok k2 (g2.rep r1) f2
      cases ep
      cases intsD_ok r3 f3
      have hl : ns.idxOf i < ns.length := List.idxOf_lt_length_iff.mpr hm
      refine ⟨p0, ns.map V.int, .int i, ns.idxOf i, .int i, rfl, rfl, h1, rfl, ?_, ?_, ?_, ?_, q _ c2 rfl k2 (g1.tr g2) rfl⟩
      · rw [List.all_eq_true]
        intro v hv
        obtain ⟨n, _, rfl⟩ := List.mem_map.mp hv
        rfl
      · rw [List.getElem?_map, List.getElem?_eq_getElem hl, List.getElem_idxOf]
        rfl
      · rw [eqV_ints]; exact beq_self_eq_true i
      · intro m z' hmj hz
        rw [List.getElem?_map] at hz
        obtain ⟨n, hn, rfl⟩ := Option.map_eq_some_iff.mp hz
        rw [eqV_ints]
        have a := List.not_of_lt_findIdx (show m < List.findIdx (· == i) ns from hmj)
        obtain ⟨hlt, hv⟩ := List.getElem?_eq_some_iff.mp hn
        rw [← hv]
        simpa using a
    · rw [if_neg hm] at e0
      cases e0
  | _ => cases e0
theorem Reps.eraseIdx {G : Hp} {ι : List Addr} : ∀ {ds : List D} {es : List V} (k : Nat), Reps K G ι ds es → Reps K G ι (ds.eraseIdx k) (es.eraseIdx k)
  | [], _, k, h => by cases (show _ = [] from h); exact (rfl : ([] : List V) = [])
  | d :: ds, _, 0, ⟨v, r, q, h1, h2⟩ => by subst q; exact h2
  | d :: ds, _, k + 1, ⟨v, r, q, h1, h2⟩ => by subst q; exact ⟨v, _, rfl, h1, Reps.eraseIdx k h2⟩
/-- `xs.pop(i)` -/
def popAtO (mo ma : ME) : ME := fun τ μ => (mo τ μ).bind fun p => match p.1 with
  | .cell i => (match p.2[i]? with
    | some (.lst _) => (ma τ p.2).bind fun a => match a.1 with
      | .int n => if -2 ^ 63 ≤ n ∧ n < 2 ^ 63 then (match a.2[i]? with
        | some (.lst ds) => (seqIndex? n ds.length).bind fun k => (ds[k]?).bind fun y => some (y, a.2.set i (.lst (ds.eraseIdx k)))
        | _ => none) else none
      | _ => none
    | _ => none)
  | _ => none
theorem pe_popAtK {o e : Expr} {to te : TE} {pos apos : Pos} (hK : X.K = K) (ho : PE X o to) (ha : PE X e te) (h : PE X (.Call (.Attribute o "pop" apos) [e] [] pos) (tBM X.K "list" rPopAt to (tCons te tNil))) :
    PE X (.Call (.Attribute o "pop" apos) [e] [] pos) (tBM K "list" rPopAt to (tCons te tNil)) := by subst hK; exact h
theorem refE_popAt {te ta : TE} {mo ma : ME} (h : RefE K te mo) (ha : RefE K ta ma) : RefE K (tBM K "list" rPopAt te (tCons ta tNil)) (popAtO mo ma) := fun X c τ σ d μ' Q e k s q => by
  obtain ⟨d1, μ1, e1, e0⟩ := bind2 e
  refine h X c τ σ d1 μ1 _ e1 k s fun x c1 m1 k1 g1 r1 => ?_
  subst m1
  cases d1 with
  | cell i =>
    dsimp only at e0
    cases hi0 : c1.m[i]? with
    | none => rw [hi0] at e0; cases e0
    | some z =>
      rw [hi0] at e0
      cases z with
      | lst ds0 =>
        dsimp only at e0
        obtain ⟨y, μ2, e2, e0⟩ := bind2 e0
        obtain ⟨a0, es0, rfl, h0, _⟩ := cell_at k1 hi0 r1
        refine ⟨.inl ⟨rfl, _, SqL.of h0⟩, ?_⟩
        refine ha X c1 τ σ y μ2 _ e2 k1 (g1.slots s) fun w c2 m2 k2 g2 r2 => ?_
        subst m2
        cases y with
        | int n =>
          cases rep_int r2
          dsimp only at e0
          by_cases hn : -2 ^ 63 ≤ n ∧ n < 2 ^ 63
          · rw [if_pos hn] at e0
            cases hi : c2.m[i]? with
            | none => rw [hi] at e0; cases e0
            | some z =>
              rw [hi] at e0
              cases z with
              | lst ds =>
                dsimp only at e0
                obtain ⟨kk, e3, e0⟩ := Option.bind_eq_some_iff.mp e0
                obtain ⟨y, e4, e0⟩ := Option.bind_eq_some_iff.mp e0
                cases e0
                obtain ⟨a, es, ea, h2, r3⟩ := cell_at k2 hi (g2.rep r1)
                cases ea
                obtain ⟨a', ea, _, k3, g3⟩ := cell_set (ds' := ds.eraseIdx kk) (es' := es.eraseIdx kk) k2 hi (g2.rep r1) (Reps.eraseIdx kk r3)
                cases ea
                obtain ⟨v, h3, h4⟩ := r3.at e4
                exact ⟨_, es, n, kk, v, rfl, rfl, h2, hn.1, hn.2, by rw [r3.length]; exact e3, h3, q v ⟨upd c2.H _ (.lst (es.eraseIdx kk)), c2.i, c2.m.set i (.lst (ds.eraseIdx kk))⟩ rfl k3 ((g1.tr g2).tr g3) (g3.rep h4)⟩
              | _ => cases e0
          · rw [if_neg hn] at e0
            cases e0
        | _ => cases e0
      | _ => cases e0
  | _ => cases e0
end
end Z

set_option Elab.async false
set_option linter.all false
set_option maxRecDepth 100000
set_option maxHeartbeats 4000000
namespace Z
open PySem PySem.Spec L2
open PyProof.Rows hiding St
section
variable {K : PySem.W.Frag} {X : Cx}
/-! ### the greatest and the least of a list of numbers -/
def maxI : List Int → Int
  | [] => 0
  | n :: ns => ns.foldl max n
def minI : List Int → Int
  | [] => 0
  | n :: ns => ns.foldl min n
theorem foldl_max : ∀ (ns : List Int) (n : Int), n ≤ ns.foldl max n ∧ (∀ y ∈ ns, y ≤ ns.foldl max n) ∧ (ns.foldl max n = n ∨ ns.foldl max n ∈ ns)
  | [], n => ⟨Int.le_refl _, fun _ h => (nomatch h), .inl rfl⟩
  | m :: ns, n => by
    obtain ⟨h1, h2, h3⟩ := foldl_max ns (max n m)
    rw [List.foldl_cons]
    refine ⟨by omega, fun y hy => ?_, ?_⟩
    · rcases List.mem_cons.mp hy with rfl | hy
      · omega
      · exact h2 y hy
    · rcases h3 with h3 | h3
      · rw [h3]
        rcases Int.le_total n m with l | l
        · rw [Int.max_eq_right l]; exact .inr List.mem_cons_self
        · rw [Int.max_eq_left l]; exact .inl rfl
      · exact .inr (List.mem_cons_of_mem _ h3)
theorem foldl_min : ∀ (ns : List Int) (n : Int), ns.foldl min n ≤ n ∧ (∀ y ∈ ns, ns.foldl min n ≤ y) ∧ (ns.foldl min n = n ∨ ns.foldl min n ∈ ns)
  | [], n => ⟨Int.le_refl _, fun _ h => (nomatch h), .inl rfl⟩
  | m :: ns, n => by
    obtain ⟨h1, h2, h3⟩ := foldl_min ns (min n m)
    rw [List.foldl_cons]
    refine ⟨by omega, fun y hy => ?_, ?_⟩
    · rcases List.mem_cons.mp hy with rfl | hy
      · omega
      · exact h2 y hy
    · rcases h3 with h3 | h3
      · rw [h3]
        rcases Int.le_total n m with l | l
        · rw [Int.min_eq_left l]; exact .inl rfl
        · rw [Int.min_eq_right l]; exact .inr List.mem_cons_self
      · exact .inr (List.mem_cons_of_mem _ h3)
theorem maxI_ge {ns : List Int} {y : Int} (h : y ∈ ns) : y ≤ maxI ns := by
  cases ns with
  | nil => cases h
  | cons n ns =>
    obtain ⟨h1, h2, _⟩ := foldl_max ns n
    rcases List.mem_cons.mp h with rfl | h
    · exact h1
    · exact h2 y h
theorem maxI_mem {ns : List Int} (h : ns ≠ []) : maxI ns ∈ ns := by
  cases ns with
  | nil => exact absurd rfl h
  | cons n ns =>
    obtain ⟨_, _, h3⟩ := foldl_max ns n
    rcases h3 with h3 | h3
    · show ns.foldl max n ∈ _
      rw [h3]; exact List.mem_cons_self
    · exact List.mem_cons_of_mem _ h3
theorem minI_le {ns : List Int} {y : Int} (h : y ∈ ns) : minI ns ≤ y := by
  cases ns with
  | nil => cases h
  | cons n ns =>
    obtain ⟨h1, h2, _⟩ := foldl_min ns n
    rcases List.mem_cons.mp h with rfl | h
    · exact h1
    · exact h2 y h
theorem minI_mem {ns : List Int} (h : ns ≠ []) : minI ns ∈ ns := by
  cases ns with
  | nil => exact absurd rfl h
  | cons n ns =>
    obtain ⟨_, _, h3⟩ := foldl_min ns n
    rcases h3 with h3 | h3
    · show ns.foldl min n ∈ _
      rw [h3]; exact List.mem_cons_self
    · exact List.mem_cons_of_mem _ h3
def maxsL : ML := fun ds μ => match ds with
  | [d] => (asS μ d).bind fun xs => (intsD xs).bind fun ns => if ns ≠ [] then some (.int (maxI ns), μ) else none
  | _ => none
def minsL : ML := fun ds μ => match ds with
  | [d] => (asS μ d).bind fun xs => (intsD xs).bind fun ns => if ns ≠ [] then some (.int (minI ns), μ) else none
  | _ => none
theorem cMaxs (hK : X.K = K) (hc : X.calm = true) : CallR X (.builtin "max") (rMax K) := by subst hK; exact cr_max hc
theorem cMins (hK : X.K = K) (hc : X.calm = true) : CallR X (.builtin "min") (rMin K) := by subst hK; exact cr_min hc
theorem refL_maxs : RefL K (rMax K) maxsL := fun X c ds vs d μ' Q e k r q => by
  unfold maxsL at e
  match ds, e with
  | [d1], e =>
    obtain ⟨xs, e1, e⟩ := Option.bind_eq_some_iff.mp e
    obtain ⟨ns, e2, e⟩ := Option.bind_eq_some_iff.mp e
    by_cases hn : ns ≠ []
    · rw [if_pos hn] at e
      cases e
      obtain ⟨v, rfl, r1⟩ := reps1 r
      obtain ⟨p, es, rfl, h, r2⟩ := asS_ok k r1 e1
      cases intsD_ok r2 e2
      refine ⟨p, ns, rfl, h, List.length_pos_iff.mpr hn, fun m hm hle => ?_⟩
      have em : m = maxI ns := Int.le_antisymm (maxI_ge hm) (hle _ (maxI_mem hn))
      exact q _ c rfl k (Grow.refl X c) (by rw [em]; rfl)
    · rw [if_neg hn] at e
      cases e
theorem refL_mins : RefL K (rMin K) minsL := fun X c ds vs d μ' Q e k r q => by
  unfold minsL at e
  match ds, e with
  | [d1], e =>
    obtain ⟨xs, e1, e⟩ := Option.bind_eq_some_iff.mp e
    obtain ⟨ns, e2, e⟩ := Option.bind_eq_some_iff.mp e
    by_cases hn : ns ≠ []
    · rw [if_pos hn] at e
      cases e
      obtain ⟨v, rfl, r1⟩ := reps1 r
      obtain ⟨p, es, rfl, h, r2⟩ := asS_ok k r1 e1
      cases intsD_ok r2 e2
      refine ⟨p, ns, rfl, h, List.length_pos_iff.mpr hn, fun m hm hle => ?_⟩
      have em : m = minI ns := Int.le_antisymm (hle _ (minI_mem hn)) (minI_le hm)
      exact q _ c rfl k (Grow.refl X c) (by rw [em]; rfl)
    · rw [if_neg hn] at e
      cases e
/-! ### abs -/
def absL : ML := fun ds μ => match ds with
  | [.int i] => some (.int (if i < 0 then -i else i), μ)
  | _ => none
theorem refL_abs : RefL K (fun xs H Q => ∃ i, xs = [.int i] ∧ Q (.int (if i < 0 then -i else i)) H) absL := fun X c ds vs d μ' Q e k r q => by
  unfold absL at e
  match ds, e with
  | [.int i], e =>
    cases e
    obtain ⟨v, rfl, r1⟩ := reps1 r
    cases rep_int r1
    exact ⟨i, rfl, q _ c rfl k (Grow.refl X c) rfl⟩
/-! ### tuple(xs) -/
def rTupU (K : PySem.W.Frag) : List V → Hp → VK → Prop := fun xs H Q => ∃ p ys, xs = [.ref p] ∧ ((SqL K H p ys ∧ ∀ l, H l = none → Q (.ref l) (upd H l (.tup ys))) ∨ (SqT K H p ys ∧ Q (.ref p) H))
theorem cTupU (hK : X.K = K) : CallR X (.type "tuple") (rTupU K) := by subst hK; exact call_tuple_of
def tupL : ML := fun ds μ => match ds with
  | [.tup xs] => some (.tup xs, μ)
  | [d] => (asS μ d).bind fun xs => some (.tup xs, μ)
  | _ => none
theorem refL_tup : RefL K (rTupU K) tupL := fun X c ds vs d μ' Q e k r q => by
  have main : ∀ d1, ds = [d1] → ((asS c.m d1).bind fun xs => some (D.tup xs, c.m)) = some (d, μ') → rTupU K vs c.H Q := fun d1 hd e' => by
    subst hd
    obtain ⟨xs, e1, e2⟩ := Option.bind_eq_some_iff.mp e'
    cases e2
    obtain ⟨v, rfl, r1⟩ := reps1 r
    obtain ⟨p, es, rfl, h, r2⟩ := asS_ok k r1 e1
    refine ⟨p, es, rfl, .inl ⟨h, fun l hl => ?_⟩⟩
    obtain ⟨k2, g2, v2⟩ := k.laid (o := .tup es) hl
    exact q (.ref l) ⟨upd c.H l (.tup es), c.i, c.m⟩ rfl k2 g2 ⟨l, es, rfl, v2, g2.reps r2⟩
  unfold tupL at e
  match ds, e, main with
  | [.tup xs], e, _ =>
    cases e
    obtain ⟨v, rfl, r1⟩ := reps1 r
    obtain ⟨p, es, rfl, h, r2⟩ := r1
    exact ⟨p, es, rfl, .inr ⟨SqT.of (vis_some h), q _ c rfl k (Grow.refl X c) ⟨p, es, rfl, h, r2⟩⟩⟩
  | [.non], e, main => exact main _ rfl e
  | [.bl _], e, main => exact main _ rfl e
  | [.int _], e, main => exact main _ rfl e
  | [.str _], e, main => exact main _ rfl e
  | [.ty _], e, main => exact main _ rfl e
  | [.lst _], e, main => exact main _ rfl e
  | [.scr _], e, main => exact main _ rfl e
  | [.ktp _], e, main => exact main _ rfl e
  | [.cls _], e, main => exact main _ rfl e
  | [.cell _], e, main => exact main _ rfl e
  | [.obj _ _ _], e, main => exact main _ rfl e
/-! ### list(range(a, b)) -/
def rgF2 (ma mb : ME) : MF := fun τ μ => (ma τ μ).bind fun p => (mb τ p.2).bind fun q => match p.1, q.1 with
  | .int i, .int j => if (-(2 ^ 62) ≤ i ∧ i < 2 ^ 62) ∧ (-(2 ^ 62) ≤ j ∧ j < 2 ^ 62) ∧ (j - i).toNat ≤ 2 ^ 24 then some (rangeD i (j - i).toNat, q.2) else none
  | _, _ => none
theorem rangeD_reps {G : Hp} {ι : List Addr} (lo : Int) (n : Nat) : Reps K G ι (rangeD lo n) ((List.range n).map fun i => V.int (lo + (i : Nat))) := by
  unfold rangeD
  generalize List.range n = l
  induction l with
  | nil => exact (rfl : ([] : List V) = [])
  | cons x l ih => exact ⟨_, _, rfl, rfl, ih⟩
theorem refF_rg2 {ta tb : TE} {ma mb : ME} (ha : RefE K ta ma) (hb : RefE K tb mb) : RefF K (tLstRg (tRg2 ta tb)) (rgF2 ma mb) := fun X c τ σ ds μ' Q e k s q => by
  obtain ⟨d1, μ1, e1, e⟩ := bind2 e
  obtain ⟨d2, μ2, e2, e⟩ := bind2 e
  refine ha X c τ σ d1 μ1 _ e1 k s fun x c1 m1 k1 g1 r1 => ?_
  subst m1
  refine hb X c1 τ σ d2 μ2 _ e2 k1 (g1.slots s) fun y c2 m2 k2 g2 r2 => ?_
  subst m2
  match d1, d2, e with
  | .int i, .int j, e =>
    dsimp only at e
    by_cases hj : (-(2 ^ 62) ≤ i ∧ i < 2 ^ 62) ∧ (-(2 ^ 62) ≤ j ∧ j < 2 ^ 62) ∧ (j - i).toNat ≤ 2 ^ 24
    · rw [if_pos hj] at e
      cases e
      cases rep_int (g2.rep r1)
      cases rep_int r2
      exact ⟨i, j, rfl, rfl, ⟨hj.1.1, hj.1.2, hj.2.1.1, hj.2.1.2, hj.2.2⟩, fresh_list k2 (rangeD_reps i _) fun p es c4 m4 nX k4 g4 h4 r4 => q p es c4 m4 nX k4 ((g1.tr g2).trans g4 fun _ m => m) h4 r4⟩
    · rw [if_neg hj] at e
      cases e
def rgF1 (ma : ME) : MF := fun τ μ => (ma τ μ).bind fun p => match p.1 with
  | .int j => if (-(2 ^ 62) ≤ j ∧ j < 2 ^ 62) ∧ j.toNat ≤ 2 ^ 24 then some (rangeD 0 j.toNat, p.2) else none
  | _ => none
theorem refF_rg1 {ta : TE} {ma : ME} (ha : RefE K ta ma) : RefF K (tLstRg (tRg1 ta)) (rgF1 ma) := fun X c τ σ ds μ' Q e k s q => by
  obtain ⟨d1, μ1, e1, e⟩ := bind2 e
  refine ha X c τ σ d1 μ1 _ e1 k s fun x c1 m1 k1 g1 r1 => ?_
  subst m1
  match d1, e with
  | .int j, e =>
    dsimp only at e
    by_cases hj : (-(2 ^ 62) ≤ j ∧ j < 2 ^ 62) ∧ j.toNat ≤ 2 ^ 24
    · rw [if_pos hj] at e
      cases e
      cases rep_int r1
      refine ⟨j, rfl, ⟨by decide, by decide, hj.1.1, hj.1.2, by rw [Int.sub_zero]; exact hj.2⟩, ?_⟩
      have er : rgV 0 j = ((List.range j.toNat).map fun i => V.int (0 + (i : Nat))) := by
        unfold rgV
        rw [Int.sub_zero]
      rw [er]
      exact fresh_list k1 (rangeD_reps 0 _) fun p es c4 m4 nX k4 g4 h4 r4 => q p es c4 m4 nX k4 (g1.trans g4 fun _ m => m) h4 r4
    · rw [if_neg hj] at e
      cases e
/-! ### *xs in a display or a call -/
def starA (m : ME) (mr : MF) : MF := fun τ μ => (m τ μ).bind fun p => (asQ p.2 p.1).bind fun xs => (mr τ p.2).bind fun r => some (xs ++ r.1, r.2)
abbrev tStarK (K : PySem.W.Frag) (te : TE) (t : TA) : TA := fun σ H Q => te σ H fun x H1 => ∃ p xs, x = V.ref p ∧ (SqT K H1 p xs ∨ SqL K H1 p xs) ∧ t σ H1 fun ys H2 => Q (xs ++ ys) H2
theorem pa_starK {e : Expr} {es : List Expr} {p : Pos} {te : TE} {t : TA} (hK : X.K = K) (he : PE X e te) (hs : PA X es t) (h : PA X (.Starred e p :: es) (tStarK X.K te t)) : PA X (.Starred e p :: es) (tStarK K te t) := by subst hK; exact h
theorem refA_star {te : TE} {ta : TA} {m : ME} {mr : MF} (h : RefE K te m) (ha : RefA K ta mr) : RefA K (tStarK K te ta) (starA m mr) := fun X c τ σ ds μ' Q e k s q => by
  obtain ⟨d1, μ1, e1, e⟩ := bind2 e
  obtain ⟨xs, e2, e⟩ := Option.bind_eq_some_iff.mp e
  obtain ⟨dy, μ2, e3, e⟩ := bind2 e
  cases e
  refine h X c τ σ d1 μ1 _ e1 k s fun x c1 m1 k1 g1 r1 => ?_
  subst m1
  obtain ⟨p, es, rfl, hs, r2⟩ := asQ_ok k1 r1 e2
  refine ⟨p, es, rfl, hs.symm, ha X c1 τ σ dy _ _ e3 k1 (g1.slots s) fun y c2 m2 k2 g2 r3 => ?_⟩
  exact q (es ++ y) c2 m2 k2 (g1.tr g2) ((g2.reps r2).append r3)
/-! ### a tuple of texts at the top -/
def strsB : List Value → List Str → Bool
  | [], [] => true
  | .str y _ :: vs, x :: xs => decide (y = x) && strsB vs xs
  | _, _ => false
def ktB (K : PySem.W.Frag) (a : Addr) (xs : List Str) : Bool := match List.lookup a K with
  | some o => match o.data with
    | .seq its n => decide (o.cls = PySem.Value.type "tuple") && (decide (its.size ≤ PySem.sizeLine) && strsB its.toList xs)
    | _ => false
  | none => false
theorem strs_reps {G : Hp} {ι : List Addr} : ∀ xs : List Str, Reps K G ι (xs.map D.str) (xs.map V.str)
  | [] => (rfl : ([] : List V) = [])
  | x :: xs => ⟨_, _, rfl, rfl, strs_reps xs⟩
theorem refE_ktp {x : Str} {xs : List Str} (h : ∀ H : Hp, SqT K H (He.ga K x) (xs.map V.str)) : RefE K (tC (.ref (He.ga K x))) (cO (.ktp (xs.map D.str))) := fun X c τ σ d μ' Q e k s q => by
  cases e
  exact q _ c rfl k (Grow.refl X c) ⟨_, _, rfl, h _, strs_reps xs⟩
theorem strsB_ok : ∀ {vs : List Value} {xs : List Str}, strsB vs xs = true → Vals (xs.map V.str) vs
  | [], [], _ => .nil
  | .str y t :: vs, x :: xs, h => by
    unfold strsB at h
    have h1 := (Bool.and_eq_true _ _ ▸ h : _ ∧ _)
    exact .cons ⟨t, by rw [of_decide_eq_true h1.1]⟩ (strsB_ok h1.2)
theorem ktB_ok {a : Addr} {xs : List Str} (h : ktB K a xs = true) : ∀ H : Hp, SqT K H a (xs.map V.str) := fun H => by
  unfold ktB at h
  cases h1 : List.lookup a K with
  | none => rw [h1] at h; cases h
  | some o =>
    rw [h1] at h
    dsimp only at h
    split at h
    · rename_i its n hd
      obtain ⟨h2, h3⟩ := He.ba h
      obtain ⟨h3, h4⟩ := He.ba h3
      exact .inr ⟨o, its, n, h1, of_decide_eq_true h2, hd, of_decide_eq_true h3, strsB_ok h4⟩
    · cases h
/-! ### three names at once -/
def par3O (i j l : Nat) (m : MF) : MS := fun τ μ => (m τ μ).bind fun p => match p.1 with
  | [x, y, z] => some (.nx (((τ.set i (some x)).set j (some y)).set l (some z)) p.2)
  | _ => none
theorem refS_par3 {ta : TA} {m : MF} {i j l : Nat} (h : RefA K ta m) : RefS K (tPar3 i j l ta) (par3O i j l m) := fun X c τ σ o D e k s q => by
  obtain ⟨ds, μ1, e1, e⟩ := bind2 e
  match ds, e with
  | [x, y, z], e =>
    cases e
    refine h X c τ σ _ _ _ e1 k s fun vs c1 m1 k1 g1 r1 => ?_
    obtain ⟨u, r', rfl, h1, h2⟩ := r1
    obtain ⟨v, w, rfl, h3, h4⟩ := reps2 h2
    exact ⟨u, v, w, rfl, q _ c1 m1 k1 g1 (slots_set (slots_set (slots_set (g1.slots s) h1) h3) h4)⟩
end
end Z

set_option Elab.async false
set_option linter.all false
set_option maxRecDepth 100000
set_option maxHeartbeats 4000000
namespace L2
open PySem PySem.Spec
open PyProof.Rows hiding St
/-! ### xs[a::-1]: from a on back to the first -/
def revV {α : Type} (xs : List α) : Option Int → Option (List α)
  | none => some xs.reverse
  | some k => if 0 ≤ k then some (xs.take (k.toNat + 1)).reverse else none
def rRev (K : PySem.W.Frag) : V → Option Int → Hp → VK → Prop := fun x lo H Q => ∃ a xs ys, x = .ref a ∧ SqL K H a xs ∧ revV xs lo = some ys ∧ ∀ p, H p = none → Q (.ref p) (upd H p (.lst ys))
def tSlR (K : PySem.W.Frag) (te : TE) (tl ts : TO) : TE := fun σ H Q => te σ H fun x H1 => tl σ H1 fun l H2 => ts σ H2 fun w H3 => w = some (-1) ∧ rRev K x l H3 Q
theorem pick_back (its : List Value) (m : Nat) (hm : m ≤ its.length) : ((List.range m).map fun k => m - 1 - k).filterMap (its.toArray[·]?) = (its.take m).reverse := by
  rw [PySem.W.krv_range, List.filterMap_reverse]
  have h := pick_run its.toArray 0 m
  have e : (List.range m).map (0 + ·) = List.range m := by
    rw [show ((0 + ·) : Nat → Nat) = id from funext fun k => Nat.zero_add k, List.map_id]
  rw [e, List.drop_zero] at h
  rw [h]
theorem pick_rev {its zs : List Value} {lo : Option Int} (h : revV its lo = some zs) : slicePick its.toArray lo none (some (-1)) = zs.toArray := by
  cases lo with
  | none =>
    cases h
    rw [PySem.W.krv_pick]
  | some k =>
    unfold revV at h
    dsimp only at h
    by_cases hk : 0 ≤ k
    · rw [if_pos hk] at h
      cases h
      unfold slicePick
      have e : sliceBounds (some k) none (some (-1)) its.toArray.size = (min k ((its.length : Int) - 1), -1, -1) := by
        unfold sliceBounds
        have h0 : ¬ ((-1 : Int) > 0) := by decide
        have h1 : ¬ k < 0 := by omega
        simp only [Option.getD_some, h0, h1, if_false, List.size_toArray]
        congr 1
        omega
      rw [e]
      show ((sliceRange (min k ((its.length : Int) - 1)) (-1) (-1)).filterMap (its.toArray[·]?)).toArray = _
      congr 1
      have e2 : min k ((its.length : Int) - 1) = ((min (k.toNat + 1) its.length : Nat) : Int) - 1 := by omega
      rw [e2, PySem.W.krv_sliceRange, pick_back its _ (by omega)]
      congr 1
      rw [List.take_eq_take_iff]
      omega
    · rw [if_neg hk] at h
      cases h
theorem revV_paired {xs : List V} {its : List Value} {lo : Option Int} {ys : List V} (r : Vals xs its) (h : revV xs lo = some ys) : ∃ zs, revV its lo = some zs ∧ Vals ys zs ∧ ys.length ≤ xs.length := by
  have rev : ∀ {xs : List V} {its : List Value}, Vals xs its → Vals xs.reverse its.reverse := fun {xs its} r => by
    induction r with
    | nil => exact .nil
    | cons h r ih =>
      rw [List.reverse_cons, List.reverse_cons]
      exact ih.append (.cons h .nil)
  cases lo with
  | none =>
    cases h
    exact ⟨_, rfl, rev r, by rw [List.length_reverse]; exact Nat.le_refl _⟩
  | some k =>
    unfold revV at h ⊢
    dsimp only at h ⊢
    by_cases hk : 0 ≤ k
    · rw [if_pos hk] at h ⊢
      cases h
      exact ⟨_, rfl, rev (r.take _), by rw [List.length_reverse, List.length_take]; omega⟩
    · rw [if_neg hk] at h
      cases h
section
variable {X : Cx} {e : Expr} {te : TE} {lo st : Option Expr} {tl ts : TO} {pos p2 : Pos}
theorem pe_sliceR {s0 : Expr} (he : PE X e te) (hl : PO X lo tl) (hs : PO X (some s0) ts) : PE X (.Subscript e (.Slice lo none (some s0) p2) pos) (tSlR X.K te tl ts) := by
  refine ⟨fun pins s σ H Q I h => ?_⟩
  refine Subscript_ (thn (he.run pins s σ H _ I h) fun v s1 ⟨x, H1, I1, r1, q1⟩ => ?_)
  refine wpAny_Slice (thn (hl.run pins s1 σ H1 _ I1 q1) fun vl s2 ⟨l, H2, I2, pl, q2⟩ => ?_)
  rw [evalPart_none]
  refine wpAny_pure ?_
  refine thn (hs.run pins s2 σ H2 _ I2 q2) fun vs s3 ⟨w, H3, I3, pw, q3⟩ => ?_
  obtain ⟨hw, a, xs, ys, rfl, hx, hy, q⟩ := q3
  subst hw
  have I4 : Inv X pins σ H3 { s3 with heap := s3.heap.push { cls := .type "slice", data := .fields #[vl, .none, vs] } } := I3.kept (t' := s3.toks) fun b ob q => Heap.get?_push_of_some _ q
  cases r1
  obtain ⟨its, r, ht, hz⟩ := I4.list hx
  obtain ⟨zs, e1, e2, e3⟩ := revV_paired r hy
  have hlen := r.length
  have hg : wpAny (model X.prog X.w) X.A (getItem (.ref a) (.ref s3.heap.objs.size)) (EP X pins σ Q) X.xe { s3 with heap := s3.heap.push { cls := .type "slice", data := .fields #[vl, .none, vs] } } := by
    refine wpAny_getItem_list_slice ht.isList (Heap.IsSliceOf.new ..) pl .none pw (by simp) ?_ (by rw [List.size_toArray] <;> omega)
    rw [pick_rev e1]
    refine ⟨.ref _, _, I4.laid (t' := s3.toks) (o := .lst ys) (fun b ob q => Heap.get?_push_of_some _ q) (Nat.le_refl _) ?_, rfl, q _ (I4.hok.fresh (Nat.le_refl _))⟩
    exact ⟨Nat.le_trans e3 hz, _, 0, e2, Heap.get?_push_size _ rfl⟩
  show wpAny (model X.prog X.w) X.A (subscriptTail e (.Slice lo none (some s0) p2) (.ref a) (.ref s3.heap.objs.size)) (EP X pins σ Q) X.xe { s3 with heap := s3.heap.push { cls := .type "slice", data := .fields #[vl, .none, vs] } }
  exact tail_any (ops := [.ref a, .ref s3.heap.objs.size]) ht.isList.typeIs slot_list_getitem.lookup hg (by with_unfolding_all rfl)
end
end L2
namespace Z
open PySem PySem.Spec L2
open PyProof.Rows hiding St
section
variable {K : PySem.W.Frag} {X : Cx}
theorem pe_slRK {e s0 : Expr} {te : TE} {lo : Option Expr} {tl ts : TO} {pos p2 : Pos} (hK : X.K = K) (he : PE X e te) (hl : PO X lo tl) (hs : PO X (some s0) ts) : PE X (.Subscript e (.Slice lo none (some s0) p2) pos) (tSlR K te tl ts) := by subst hK; exact pe_sliceR he hl hs
def slRF (m : ME) (ml ms : MO) : MF := fun τ μ => (m τ μ).bind fun p => (ml τ p.2).bind fun l => (ms τ l.2).bind fun w => if w.1 = some (-1) then (asS w.2 p.1).bind fun ds => (revV ds l.1).bind fun r => some (r, w.2) else none
theorem Reps.revV {G : Hp} {ι : List Addr} {ds rs : List D} {es : List V} {lo : Option Int} (r : Reps K G ι ds es) (h : L2.revV ds lo = some rs) : ∃ ys, L2.revV es lo = some ys ∧ Reps K G ι rs ys := by
  have rev : ∀ {ds : List D} {es : List V}, Reps K G ι ds es → Reps K G ι ds.reverse es.reverse := fun {ds} => by
    induction ds with
    | nil => intro es r; cases (show es = [] from r); exact (rfl : ([] : List V) = [])
    | cons d ds ih =>
      intro es r
      obtain ⟨v, vs, rfl, h1, h2⟩ := r
      rw [List.reverse_cons, List.reverse_cons]
      exact (ih h2).append ⟨v, [], rfl, h1, rfl⟩
  cases lo with
  | none =>
    cases h
    exact ⟨_, rfl, rev r⟩
  | some k =>
    unfold L2.revV at h ⊢
    dsimp only at h ⊢
    by_cases hk : 0 ≤ k
    · rw [if_pos hk] at h ⊢
      cases h
      exact ⟨_, rfl, rev (r.take _)⟩
    · rw [if_neg hk] at h
      cases h
theorem refF_slR {te : TE} {tl ts : TO} {m : ME} {ml ms : MO} (h : RefE K te m) (hl : RefO K tl ml) (hs : RefO K ts ms) : RefF K (tSlR K te tl ts) (slRF m ml ms) := fun X c τ σ ds μ' Q e k s q => by
  obtain ⟨d, μ1, e1, e⟩ := bind2 e
  obtain ⟨l, μ2, e2, e⟩ := bind2 e
  obtain ⟨w, μ3, e3, e⟩ := bind2 e
  refine h X c τ σ d μ1 _ e1 k s fun x c1 m1 k1 g1 r1 => ?_
  subst m1
  refine hl X c1 τ σ l μ2 _ e2 k1 (g1.slots s) fun c2 m2 k2 g2 => ?_
  subst m2
  refine hs X c2 τ σ w μ3 _ e3 k2 ((g1.tr g2).slots s) fun c3 m3 k3 g3 => ?_
  subst m3
  by_cases hw : w = some (-1)
  · rw [if_pos hw] at e
    obtain ⟨ds', e4, e⟩ := Option.bind_eq_some_iff.mp e
    obtain ⟨rs, e5, e⟩ := Option.bind_eq_some_iff.mp e
    cases e
    obtain ⟨p, es, rfl, h1, r⟩ := asS_ok k3 ((g2.tr g3).rep r1) e4
    obtain ⟨ys, e6, r2⟩ := r.revV e5
    exact ⟨hw, p, es, ys, rfl, h1, e6, fresh_list k3 r2 fun p es c4 m4 nX k4 g4 h4 r4 => q p es c4 m4 nX k4 (((g1.tr g2).tr g3).trans g4 fun _ m => m) h4 r4⟩
  · rw [if_neg hw] at e
    cases e
end
end Z

set_option Elab.async false
set_option linter.all false
set_option maxRecDepth 100000
set_option maxHeartbeats 4000000
namespace Z
open PySem PySem.Spec L2
open PyProof.Rows hiding St
/-! ### set(xs), xs a list of ints, with the order in which its members are met -/
section
variable {P : Program} {w : World} {A : Around} {E : Value → Shared → Prop} {s : Shared}
abbrev setOb (w : World) : Obj := { cls := .type "set", dict := none, data := .set #[] 0 (.fresh 0 0 (!w.params.followText "set-order")) }
set_option maxHeartbeats 8000000 in
theorem set_of_list {l : Addr} {its : Array Value} {ns : List Int} {Q : Value → Shared → Prop} (hh : A.handled = none) (hl : s.heap.IsList l its) (hi : IntsAre its.toList ns) (hb : ns.length + 1 < scanBound)
    (hQ : ∀ (h' : Heap) (tk c : Nat), SetR w h' s.heap.objs.size (fun j => decide (j ∈ ns)) c → c ≤ ns.length → (∀ b o, s.heap.get? b = some o → h'.get? b = some o) → Q (.ref s.heap.objs.size) { s with heap := h', toks := tk }) :
    wpAny (model P w) A (call (.type "set") [.ref l]) Q E s := by
  have hz : its.size = ns.length := by rw [← Array.length_toList, IntsAre.length hi]
  obtain ⟨cl, tl, hmro⟩ := F.called_set.mro
  have a1 := F.called_set.made
  have a2 := F.called_set.sub
  have a3 := F.called_set.notType
  have a4 := F.called_set.canCreate
  have a5 := F.typeCall_set_1 (.ref l)
  have a6 := F.called_set.init.lookup
  refine wpAny_call (codeAny_of_tree (show wpAny _ _ (callAny (.type "set") _) _ _ _ from wpAny_pure ⟨Code.quiet_builtin _ (by decide +kernel), codeAny_builtin F.entry_type_call ?_⟩))
  rw [Around.under_plain (weight_type_call_type "set" [.ref l] []) rfl]
  repeat (any_goals (first | assumption | wp_step))
  refine codeAny_mono (code_set_led1 (.ref l) (E := E) (Q₁ := fun v t => v = .ref s.heap.objs.size ∧ t = { s with heap := s.heap.push (setOb w) }) ⟨rfl, rfl⟩) fun r t hr => ?_
  match r, hr with
  | .error _, hr => exact hr
  | .ok (.ret v), hr =>
    obtain ⟨rfl, rfl⟩ := hr
    have hS : (s.heap.push (setOb w)).get? s.heap.objs.size = some (setOb w) := Heap.get?_push_size _ rfl
    have hT : Shared.TypeIs { s with heap := s.heap.push (setOb w) } (.ref s.heap.objs.size) "set" := ⟨_, hS, rfl⟩
    have a7 := F.called_set.init.bind (.ref s.heap.objs.size)
    repeat (any_goals (first | assumption | wp_step))
    refine codeAny_mono (codeAny_call_builtin (R := wants (fun v t => v = .none ∧ ∃ h' tk c, t = { s with heap := h', toks := tk } ∧ SetR w h' s.heap.objs.size (fun j => decide (j ∈ ns)) c ∧ c ≤ ns.length ∧ ∀ b o, s.heap.get? b = some o → h'.get? b = some o) E)
      F.called_set.init.plain F.entry_set_init (check_set_init_1 hT ?_)) fun r t hr => ?_
    · obtain ⟨⟨k1, k2, k3, k4⟩, ho, hc, n, hd⟩ := hl
      simp only at hc hd
      subst hc hd
      have hl1 : (s.heap.push (setOb w)).IsList l its := ⟨_, Heap.get?_push_of_some _ ho, rfl, n, rfl⟩
      have b1 := F.sub_list_set
      have b2 := F.sub_list_frozenset
      have b3 : (Value.type "list" == Value.type "dict") = false := by decide
      unfold Builtin.«set.__init__» noKeywords Builtin.Frozenset.updateFrom
      generalize hPI : pyIter = PI
      wp_walk
      subst hPI
      refine wpAny_pyIter_list hl1 (wpAny_bind (wpAny_runValue ?_))
      have lt : l < s.heap.objs.size := Heap.lt_size ho
      have sz : (s.heap.push (setOb w)).objs.size = s.heap.objs.size + 1 := Heap.size_push ..
      have ne1 : l ≠ (s.heap.push (setOb w)).objs.size := by rw [sz]; exact Nat.ne_of_lt (Nat.lt_succ_of_lt lt)
      have out : s.heap.objs.size ∉ [(s.heap.push (setOb w)).objs.size, l] := by
        rw [sz]
        intro z
        rcases List.mem_cons.mp z with z | z
        · exact absurd z (Nat.ne_of_lt (Nat.lt_succ_self _))
        · exact absurd (List.mem_singleton.mp z) (Nat.ne_of_gt lt)
      refine set_update_ints ((Walks.list (by simp [hh]) _ l ne1 its).toS) s.heap.objs.size out ns hz hb (fun i v hv => ?_) (its.size - 0) 0 _ (by omega) (Nat.zero_le _) ⟨⟨_, Heap.get?_push_size _ rfl, rfl, rfl⟩, (hl1.push _)⟩ ⟨0, Nat.le_refl 0, setR_new_at (Heap.get?_push_of_some _ hS)⟩ ?_
      · have hil : i < ns.length := by rw [← hz]; exact (Array.getElem?_eq_some_iff.mp hv).1
        obtain ⟨t, e⟩ := IntsAre.int_at hi i v (by rw [Array.getElem?_toList]; exact hv)
        rw [List.getD_eq_getElem?_getD, List.getElem?_eq_getElem hil, Option.getD_some] at e
        exact ⟨_, t, List.getElem?_eq_getElem hil, e⟩
      · rintro ⟨h', g', d', tk, o'⟩ c hm hc hR
        obtain rfl : g' = s.gens := hm.gens
        obtain rfl : d' = s.drawn := hm.drawn
        obtain rfl : o' = s.os := hm.os
        show wpAny _ _ _ _ _ _
        refine wpAny_pure ?_
        show wpAny _ _ (ret Value.none) _ _ _
        refine wpAny_pure ⟨rfl, h', tk, c, rfl, hR, by omega, fun b o e => hm.heap b o (fun z => ?_) (Heap.get?_push_of_some _ (Heap.get?_push_of_some _ e))⟩
        have lb := Heap.lt_size e
        rcases List.mem_cons.mp z with z | z
        · exact absurd z (Nat.ne_of_lt lb)
        · exact absurd ((List.mem_singleton.mp z).trans sz) (Nat.ne_of_lt (Nat.lt_succ_of_lt lb))
    · match r, hr with
      | .error _, hr => exact hr
      | .ok (.ret v), hr =>
        obtain ⟨rfl, h', tk, c, rfl, x1, x2, x3⟩ := hr
        repeat (any_goals (first | assumption | wp_step))
        exact hQ _ _ _ x1 x2 x3
end
/-! ### sorted(set(xs)) -/
section
variable {K : PySem.W.Frag} {X : Cx}
def rSetU (K : PySem.W.Frag) (w : World) : List V → Hp → VK → Prop := fun vs H Q => ∃ (l : Addr) (ns : List Int), vs = [.ref l] ∧ SqL K H l (ns.map V.int) ∧ ns.length < 64 ∧
  ∀ (c : Nat) (p : Addr), c ≤ ns.length → H p = none → Q (.ref p) (upd H p (SetO w p (fun j => decide (j ∈ ns)) c))
theorem cr_setU (hc : X.calm = true) : CallR X (.type "set") (rSetU X.K X.w) := by
  intro pins s σ H vs us Q I r h
  obtain ⟨l, ns, rfl, hq, h64, q⟩ := h
  rw [Vals.ref1 r]
  obtain ⟨its, rv, pl, hz⟩ := I.list hq
  refine set_of_list (I.ok.hd hc) pl.isList (ns := ns) (by simpa using rv.ints) (by unfold scanBound; omega) fun h' tk c hR hc' hk => ?_
  have hn : H s.heap.objs.size = none := I.hok.fresh (Nat.le_refl _)
  exact ⟨.ref _, upd H s.heap.objs.size (SetO X.w s.heap.objs.size (fun j => decide (j ∈ ns)) c), I.laid (t' := tk) hk (Nat.le_refl _) (setO_new hR), rfl, q c _ hc' hn⟩
end
end Z

set_option Elab.async false
set_option linter.all false
set_option maxRecDepth 100000
set_option maxHeartbeats 4000000
namespace Z
open PySem PySem.Spec L2
open PyProof.Rows hiding St
section
/-! ### a set in order -/
def insI (x : Int) : List Int → List Int
  | [] => [x]
  | y :: ys => if x < y then x :: y :: ys else if x = y then y :: ys else y :: insI x ys
def setI : List Int → List Int
  | [] => []
  | x :: xs => insI x (setI xs)
theorem mem_insI {x y : Int} : ∀ {l : List Int}, y ∈ insI x l ↔ y = x ∨ y ∈ l
  | [] => by rw [insI]; simp
  | z :: l => by
    rw [insI]
    by_cases h : x < z
    · rw [if_pos h]; simp
    · rw [if_neg h]
      by_cases h2 : x = z
      · rw [if_pos h2, h2]; simp
      · rw [if_neg h2, List.mem_cons, mem_insI, List.mem_cons]
        constructor
        · rintro (h | h | h)
          · exact .inr (.inl h)
          · exact .inl h
          · exact .inr (.inr h)
        · rintro (h | h | h)
          · exact .inr (.inl h)
          · exact .inl h
          · exact .inr (.inr h)
theorem mem_setI {y : Int} : ∀ {l : List Int}, y ∈ setI l ↔ y ∈ l
  | [] => Iff.rfl
  | x :: l => by rw [setI, mem_insI, mem_setI, List.mem_cons]
theorem insI_up {x : Int} : ∀ {l : List Int}, l.Pairwise (· < ·) → (insI x l).Pairwise (· < ·)
  | [], _ => List.pairwise_singleton _ _
  | z :: l, h => by
    obtain ⟨h1, h2⟩ := List.pairwise_cons.mp h
    rw [insI]
    by_cases c : x < z
    · rw [if_pos c]
      refine List.pairwise_cons.mpr ⟨fun y hy => ?_, h⟩
      rcases List.mem_cons.mp hy with rfl | hy
      · exact c
      · have := h1 y hy; omega
    · rw [if_neg c]
      by_cases c2 : x = z
      · rw [if_pos c2]; exact h
      · rw [if_neg c2]
        refine List.pairwise_cons.mpr ⟨fun y hy => ?_, insI_up h2⟩
        rcases mem_insI.mp hy with rfl | hy
        · omega
        · exact h1 y hy
theorem setI_up : ∀ {l : List Int}, (setI l).Pairwise (· < ·)
  | [] => .nil
  | x :: l => insI_up setI_up
theorem up_one : ∀ {l m : List Int}, l.Pairwise (· < ·) → m.Pairwise (· < ·) → (∀ k, k ∈ l ↔ k ∈ m) → l = m
  | [], [], _, _, _ => rfl
  | [], y :: m, _, _, h => nomatch (h y).mpr List.mem_cons_self
  | x :: l, [], _, _, h => nomatch (h x).mp List.mem_cons_self
  | x :: l, y :: m, h1, h2, h => by
    obtain ⟨a1, a2⟩ := List.pairwise_cons.mp h1
    obtain ⟨b1, b2⟩ := List.pairwise_cons.mp h2
    have e : x = y := by
      rcases List.mem_cons.mp ((h x).mp List.mem_cons_self) with e | e
      · exact e
      · rcases List.mem_cons.mp ((h y).mpr List.mem_cons_self) with e2 | e2
        · exact e2.symm
        · have := a1 y e2
          have := b1 x e
          omega
    subst e
    rw [up_one a2 b2 fun k => ⟨fun hk => ?_, fun hk => ?_⟩]
    · rcases List.mem_cons.mp ((h k).mp (List.mem_cons_of_mem _ hk)) with e | e
      · have := a1 k hk; omega
      · exact e
    · rcases List.mem_cons.mp ((h k).mpr (List.mem_cons_of_mem _ hk)) with e | e
      · have := b1 k hk; omega
      · exact e
theorem insI_len {x : Int} : ∀ {l : List Int}, (insI x l).length ≤ l.length + 1
  | [] => Nat.le_refl _
  | z :: l => by
    rw [insI]
    split
    · exact Nat.le_refl _
    · split
      · exact Nat.le_succ _
      · rw [List.length_cons, List.length_cons]
        have := insI_len (x := x) (l := l)
        omega
theorem setI_len : ∀ {l : List Int}, (setI l).length ≤ l.length
  | [] => Nat.le_refl _
  | x :: l => by
    rw [setI, List.length_cons]
    have := insI_len (x := x) (l := setI l)
    have := setI_len (l := l)
    omega
theorem setI_fix {l : List Int} (h : l.Pairwise (· < ·)) : setI l = l := up_one setI_up h fun _ => mem_setI
end
section
variable {K : PySem.W.Frag} {X : Cx} {w : World}
theorem cSetU (hK : X.K = K) (hw : X.w = w) (hc : X.calm = true) : CallR X (.type "set") (rSetU K w) := by subst hK; subst hw; exact cr_setU hc
theorem cSrtSet (hw : X.w = w) (hc : X.calm = true) : CallR X (.builtin "sorted") (rSortedSet w) := by subst hw; exact cr_sortedSet hc
/-- sorted(set(xs)) -/
def srsF (m : ME) : MF := fun τ μ => (m τ μ).bind fun p => (asS p.2 p.1).bind fun xs => (intsD xs).bind fun ns => if ns.length < 64 then some ((setI ns).map D.int, p.2) else none
theorem ints_reps {G : Hp} {ι : List Addr} : ∀ ns : List Int, Reps K G ι (ns.map D.int) (ns.map V.int)
  | [] => (rfl : ([] : List V) = [])
  | n :: ns => ⟨_, _, rfl, rfl, ints_reps ns⟩
theorem refF_srs {te : TE} {m : ME} (h : RefE K te m) : RefF K (tCB (rSortedSet w) (tCons (tCB (rSetU K w) (tCons te tNil)) tNil)) (srsF m) := fun X c τ σ ds μ' Q e k s q => by
  obtain ⟨d1, μ1, e1, e⟩ := bind2 e
  obtain ⟨xs, e2, e⟩ := Option.bind_eq_some_iff.mp e
  obtain ⟨ns, e3, e⟩ := Option.bind_eq_some_iff.mp e
  by_cases hl : ns.length < 64
  · rw [if_pos hl] at e
    cases e
    refine h X c τ σ d1 _ _ e1 k s fun x c1 m1 k1 g1 r1 => ?_
    obtain ⟨p, es, rfl, hs, r2⟩ := asS_ok k1 r1 (by rw [m1]; exact e2)
    cases intsD_ok r2 e3
    refine ⟨p, ns, rfl, hs, hl, fun n a hn ha => ⟨a, _, n, rfl, upd_same, by omega, fun ys b h1 h2 h3 hb => ?_⟩⟩
    have ey : ys = setI ns := up_one h1 setI_up fun k => by rw [h2, mem_setI, decide_eq_true_iff]
    subst ey
    obtain ⟨k2, g2, _⟩ := k1.laid (o := SetO w a (fun j => decide (j ∈ ns)) n) ha
    exact fresh_list k2 (ints_reps (setI ns)) (fun p' es' c4 m4 nX k4 g4 h4 r4 => q p' es' c4 (m4.trans m1) nX k4 (g1.trans (g2.trans g4 fun _ m => m) fun _ m => m) h4 r4) b hb
  · rw [if_neg hl] at e
    cases e
/-! ### sorted(xs) -/
def insL (x : Int) : List Int → List Int
  | [] => [x]
  | y :: ys => if x ≤ y then x :: y :: ys else y :: insL x ys
def srtI : List Int → List Int
  | [] => []
  | x :: xs => insL x (srtI xs)
theorem insL_perm {x : Int} : ∀ {l : List Int}, (insL x l).Perm (x :: l)
  | [] => .refl _
  | z :: l => by
    rw [insL]
    split
    · exact .refl _
    · exact (List.Perm.cons z insL_perm).trans (.swap x z l)
theorem srtI_perm : ∀ {l : List Int}, (srtI l).Perm l
  | [] => .refl _
  | x :: l => insL_perm.trans (srtI_perm.cons x)
theorem insL_up {x : Int} : ∀ {l : List Int}, l.Pairwise (· ≤ ·) → (insL x l).Pairwise (· ≤ ·)
  | [], _ => List.pairwise_singleton _ _
  | z :: l, h => by
    obtain ⟨h1, h2⟩ := List.pairwise_cons.mp h
    rw [insL]
    by_cases c : x ≤ z
    · rw [if_pos c]
      refine List.pairwise_cons.mpr ⟨fun y hy => ?_, h⟩
      rcases List.mem_cons.mp hy with rfl | hy
      · exact c
      · have := h1 y hy; omega
    · rw [if_neg c]
      refine List.pairwise_cons.mpr ⟨fun y hy => ?_, insL_up h2⟩
      rcases List.mem_cons.mp (insL_perm.mem_iff.mp hy) with rfl | hy
      · omega
      · exact h1 y hy
theorem srtI_up : ∀ {l : List Int}, (srtI l).Pairwise (· ≤ ·)
  | [] => .nil
  | x :: l => insL_up srtI_up
theorem le_one : ∀ {l m : List Int}, l.Pairwise (· ≤ ·) → m.Pairwise (· ≤ ·) → l.Perm m → l = m
  | [], m, _, _, h => (List.Perm.nil_eq h)
  | x :: l, [], _, _, h => nomatch h.length_eq
  | x :: l, y :: m, h1, h2, h => by
    obtain ⟨a1, a2⟩ := List.pairwise_cons.mp h1
    obtain ⟨b1, b2⟩ := List.pairwise_cons.mp h2
    have e : x = y := by
      rcases List.mem_cons.mp (h.mem_iff.mp List.mem_cons_self) with e | e
      · exact e
      · rcases List.mem_cons.mp (h.mem_iff.mpr List.mem_cons_self) with e2 | e2
        · exact e2.symm
        · have := a1 y e2
          have := b1 x e
          omega
    subst e
    rw [le_one a2 b2 (List.Perm.cons_inv h)]
theorem cSrt (hK : X.K = K) : CallR X (.builtin "sorted") (rSorted K) := by subst hK; exact cr_sorted
def srtF (m : ME) : MF := fun τ μ => (m τ μ).bind fun p => (asS p.2 p.1).bind fun xs => (intsD xs).bind fun ns => if ns.length < 64 then some ((srtI ns).map D.int, p.2) else none
theorem refF_srt {te : TE} {m : ME} (h : RefE K te m) : RefF K (tCB (rSorted K) (tCons te tNil)) (srtF m) := fun X c τ σ ds μ' Q e k s q => by
  obtain ⟨d1, μ1, e1, e⟩ := bind2 e
  obtain ⟨xs, e2, e⟩ := Option.bind_eq_some_iff.mp e
  obtain ⟨ns, e3, e⟩ := Option.bind_eq_some_iff.mp e
  by_cases hl : ns.length < 64
  · rw [if_pos hl] at e
    cases e
    refine h X c τ σ d1 _ _ e1 k s fun x c1 m1 k1 g1 r1 => ?_
    obtain ⟨p, es, rfl, hs, r2⟩ := asS_ok k1 r1 (by rw [m1]; exact e2)
    cases intsD_ok r2 e3
    refine ⟨p, ns, rfl, hs, hl, fun ys b h1 h2 hb => ?_⟩
    have ey : ys = srtI ns := le_one h2 srtI_up (h1.trans srtI_perm.symm)
    subst ey
    exact fresh_list k1 (ints_reps (srtI ns)) (fun p' es' c4 m4 nX k4 g4 h4 r4 => q p' es' c4 (m4.trans m1) nX k4 (g1.trans g4 fun _ m => m) h4 r4) b hb
  · rw [if_neg hl] at e
    cases e
/-! ### math.gcd -/
def gcdL : ML := fun ds μ => match ds with
  | [.int i, .int j] => some (.int ((Nat.gcd i.natAbs j.natAbs : Nat) : Int), μ)
  | _ => none
theorem refL_gcd : RefL K rGcd gcdL := fun X c ds vs d μ' Q e k r q => by
  unfold gcdL at e
  match ds, e with
  | [.int i, .int j], e =>
    cases e
    obtain ⟨u, r', rfl, h1, h2⟩ := r
    obtain ⟨v, rfl, h3⟩ := reps1 h2
    cases rep_int h1
    cases rep_int h3
    exact ⟨i, j, rfl, q _ c rfl k (Grow.refl X c) rfl⟩
end
end Z

set_option Elab.async false
set_option linter.all false
set_option maxRecDepth 100000
set_option maxHeartbeats 4000000
namespace Z
open PySem PySem.Spec L2
open PyProof.Rows hiding St
section
/-! ### pairs in their order -/
abbrev LeP (p q : Int × Int) : Prop := p.1 < q.1 ∨ (p.1 = q.1 ∧ p.2 ≤ q.2)
def insP (x : Int × Int) : List (Int × Int) → List (Int × Int)
  | [] => [x]
  | y :: ys => if LeP x y then x :: y :: ys else y :: insP x ys
def srtP : List (Int × Int) → List (Int × Int)
  | [] => []
  | x :: xs => insP x (srtP xs)
theorem insP_perm {x : Int × Int} : ∀ {l : List (Int × Int)}, (insP x l).Perm (x :: l)
  | [] => .refl _
  | z :: l => by
    rw [insP]
    split
    · exact .refl _
    · exact (List.Perm.cons z insP_perm).trans (.swap x z l)
theorem srtP_perm : ∀ {l : List (Int × Int)}, (srtP l).Perm l
  | [] => .refl _
  | x :: l => insP_perm.trans (srtP_perm.cons x)
theorem leP_trans {x y z : Int × Int} (h : LeP x y) (k : LeP y z) : LeP x z := by
  unfold LeP at *
  omega
theorem leP_total {x y : Int × Int} (h : ¬ LeP x y) : LeP y x := by
  unfold LeP at *
  omega
theorem leP_anti {x y : Int × Int} (h : LeP x y) (k : LeP y x) : x = y := by
  obtain ⟨a, b⟩ := x
  obtain ⟨c, d⟩ := y
  unfold LeP at *
  dsimp only at *
  have h1 : a = c := by omega
  have h2 : b = d := by omega
  rw [h1, h2]
theorem insP_up {x : Int × Int} : ∀ {l : List (Int × Int)}, l.Pairwise LeP → (insP x l).Pairwise LeP
  | [], _ => List.pairwise_singleton _ _
  | z :: l, h => by
    obtain ⟨h1, h2⟩ := List.pairwise_cons.mp h
    rw [insP]
    by_cases c : LeP x z
    · rw [if_pos c]
      refine List.pairwise_cons.mpr ⟨fun y hy => ?_, h⟩
      rcases List.mem_cons.mp hy with rfl | hy
      · exact c
      · exact leP_trans c (h1 y hy)
    · rw [if_neg c]
      refine List.pairwise_cons.mpr ⟨fun y hy => ?_, insP_up h2⟩
      rcases List.mem_cons.mp (insP_perm.mem_iff.mp hy) with rfl | hy
      · exact leP_total c
      · exact h1 y hy
theorem srtP_up : ∀ {l : List (Int × Int)}, (srtP l).Pairwise LeP
  | [] => .nil
  | x :: l => insP_up srtP_up
theorem leP_one : ∀ {l m : List (Int × Int)}, l.Pairwise LeP → m.Pairwise LeP → l.Perm m → l = m
  | [], m, _, _, h => (List.Perm.nil_eq h)
  | x :: l, [], _, _, h => nomatch h.length_eq
  | x :: l, y :: m, h1, h2, h => by
    obtain ⟨a1, a2⟩ := List.pairwise_cons.mp h1
    obtain ⟨b1, b2⟩ := List.pairwise_cons.mp h2
    have e : x = y := by
      rcases List.mem_cons.mp (h.mem_iff.mp List.mem_cons_self) with e | e
      · exact e
      · rcases List.mem_cons.mp (h.mem_iff.mpr List.mem_cons_self) with e2 | e2
        · exact e2.symm
        · exact leP_anti (a1 y e2) (b1 x e)
    subst e
    rw [leP_one a2 b2 (List.Perm.cons_inv h)]
end
section
variable {K : PySem.W.Frag} {X : Cx}
abbrev prD (q : Int × Int) : D := .tup [.int q.1, .int q.2]
def prsD : List D → Option (List (Int × Int))
  | [] => some []
  | .tup [.int i, .int j] :: ds => (prsD ds).map fun r => (i, j) :: r
  | _ => none
theorem prsD_map (ps : List (Int × Int)) : prsD (ps.map prD) = some ps := by
  induction ps with
  | nil => rfl
  | cons p ps ih => rw [List.map_cons, prsD, ih]; rfl
theorem prsD_ok : ∀ {ds : List D} {ps : List (Int × Int)}, prsD ds = some ps → ds = ps.map prD
  | [], ps, e => by cases e; rfl
  | d :: ds, ps, e => by
    unfold prsD at e
    split at e
    · cases ‹_ :: _ = []›
    · rename_i i j ds' h
      cases h
      obtain ⟨r, e1, e2⟩ := Option.map_eq_some_iff.mp e
      subst e2
      rw [List.map_cons, ← prsD_ok e1]
    · cases e
def AtP (G : Hp) (x : V) (q : Int × Int) : Prop := ∃ t, x = .ref t ∧ G t = some (.tup [.int q.1, .int q.2])
theorem atP_one {G : Hp} {x : V} {p q : Int × Int} (h : AtP G x p) (k : AtP G x q) : p = q := by
  obtain ⟨t, rfl, e1⟩ := h
  obtain ⟨t', e, e2⟩ := k
  cases e
  rw [e1] at e2
  obtain ⟨a, b⟩ := p
  obtain ⟨c, d⟩ := q
  cases e2
  rfl
open Classical in
noncomputable def keyP (G : Hp) (x : V) : Int × Int := if h : ∃ q, AtP G x q then h.choose else (0, 0)
theorem keyP_eq {G : Hp} {x : V} {q : Int × Int} (h : AtP G x q) : keyP G x = q := by
  unfold keyP
  rw [dif_pos ⟨q, h⟩]
  exact atP_one (Exists.choose_spec (⟨q, h⟩ : ∃ q, AtP G x q)) h
theorem reps_at {G : Hp} {ι : List Addr} : ∀ {ps : List (Int × Int)} {es : List V}, Reps K G ι (ps.map prD) es → (∀ x ∈ es, AtP G x (keyP G x)) ∧ es.map (keyP G) = ps
  | [], es, r => by
    cases (show es = [] from r)
    exact ⟨fun _ h => (nomatch h), rfl⟩
  | p :: ps, es, r => by
    obtain ⟨e, rs, rfl, h1, h2⟩ := r
    obtain ⟨a, b⟩ := reps_at h2
    obtain ⟨t, fs, rfl, h3, h4⟩ := h1
    obtain ⟨u, us, rfl, h5, h6⟩ := h4
    obtain ⟨w, ws, rfl, h7, h8⟩ := h6
    cases (show ws = [] from h8)
    cases (show u = .int p.1 from h5)
    cases (show w = .int p.2 from h7)
    have at_ : AtP G (.ref t) p := ⟨t, rfl, h3⟩
    have k := keyP_eq at_
    refine ⟨fun x hx => ?_, by rw [List.map_cons, k, b]⟩
    rcases List.mem_cons.mp hx with rfl | hx
    · rw [k]; exact at_
    · exact a x hx
theorem at_reps {G : Hp} {ι : List Addr} : ∀ {es : List V}, (∀ x ∈ es, AtP G x (keyP G x)) → Reps K G ι ((es.map (keyP G)).map prD) es
  | [], _ => (rfl : ([] : List V) = [])
  | e :: es, h => by
    obtain ⟨t, e1, h3⟩ := h e List.mem_cons_self
    rw [List.map_cons, List.map_cons]
    refine ⟨e, es, rfl, ?_, at_reps fun x hx => h x (List.mem_cons_of_mem _ hx)⟩
    exact ⟨t, _, e1, h3, ⟨_, _, rfl, rfl, ⟨_, _, rfl, rfl, (rfl : ([] : List V) = [])⟩⟩⟩
theorem cSrtP (hK : X.K = K) : CallR X (.builtin "sorted") (rSortedPO K) := by subst hK; exact cr_sortedPO
def srtPF (m : ME) : MF := fun τ μ => (m τ μ).bind fun p => (asS p.2 p.1).bind fun xs => (prsD xs).bind fun ps => some ((srtP ps).map prD, p.2)
theorem refF_srtP {te : TE} {m : ME} (h : RefE K te m) : RefF K (tCB (rSortedPO K) (tCons te tNil)) (srtPF m) := fun X c τ σ ds μ' Q e k s q => by
  obtain ⟨d1, μ1, e1, e⟩ := bind2 e
  obtain ⟨xs, e2, e⟩ := Option.bind_eq_some_iff.mp e
  obtain ⟨ps, e3, e⟩ := Option.bind_eq_some_iff.mp e
  cases e
  refine h X c τ σ d1 _ _ e1 k s fun x c1 m1 k1 g1 r1 => ?_
  obtain ⟨p, es, rfl, hs, r2⟩ := asS_ok k1 r1 (by rw [m1]; exact e2)
  rw [prsD_ok e3] at r2
  obtain ⟨a1, a2⟩ := reps_at r2
  refine ⟨p, es, keyP (vis X c1), rfl, hs, fun x hx => ?_, fun ys b h1 h2 hb => ?_⟩
  · obtain ⟨t, q1, q2⟩ := a1 x hx
    exact ⟨t, q1, vis_some q2⟩
  · have pm : (ys.map (keyP (vis X c1))).Perm ps := by rw [← a2]; exact h2.perm.map _
    have up : (ys.map (keyP (vis X c1))).Pairwise LeP := by
      rw [List.pairwise_map]
      refine List.Pairwise.imp (fun {u v} q => ?_) h1
      have q' : SrtO.lexB (keyP (vis X c1) v) (keyP (vis X c1) u) = false := q
      generalize keyP (vis X c1) v = v' at q' ⊢
      generalize keyP (vis X c1) u = u' at q' ⊢
      have z := SrtO.lexB_no.mp q'
      unfold LeP
      omega
    have ey : ys.map (keyP (vis X c1)) = srtP ps := leP_one up srtP_up (pm.trans srtP_perm.symm)
    have r3 : RepsC K X c1 ((srtP ps).map prD) ys := by
      rw [← ey]
      exact at_reps fun x hx => a1 x (h2.perm.mem_iff.mp hx)
    exact fresh_list k1 r3 (fun p' es' c4 m4 nX k4 g4 h4 r4 => q p' es' c4 (m4.trans m1) nX k4 (g1.trans g4 fun _ m => m) h4 r4) b hb
theorem ev_srtP {m : ME} {τ : Fr} {μ μ1 : Sto} {x : D} {ps : List (Int × Int)} (h : m τ μ = some (x, μ1)) (h2 : asS μ1 x = some (ps.map prD)) : srtPF m τ μ = some ((srtP ps).map prD, μ1) := by
  unfold srtPF
  rw [h, Option.bind_some]
  dsimp only
  rw [h2, Option.bind_some, prsD_map, Option.bind_some]
end
section
variable {K : PySem.W.Frag} {h : Heap} {mg : Str → Option Value}
/-- a name of the top that stands for a built-in of a module -/
def impB (K : PySem.W.Frag) (x : Str) (n : String) : Bool := He.eqO (PySem.W.nsIn K mainGlobals x) (some (some (.builtin n)))
theorem impB_ok (X : K.In h) (G : h.Ns mainGlobals mg) {x : Str} {n : String} (c : impB K x n = true) : mg x = some (.builtin n) := PySem.W.mg_of X G (He.eqO_ok c)
end
end Z

set_option Elab.async false
set_option linter.all false
set_option maxRecDepth 100000
set_option maxHeartbeats 4000000
namespace Z
open PySem PySem.Spec L2
open PyProof.Rows hiding St
section
variable {K : PySem.W.Frag} {X : Cx}
/-! ### dicts -/
def dnewO : ME := fun _ μ => some (.cell μ.length, μ ++ [.dct [] []])
theorem refE_dnew : RefE K tDNewK dnewO := fun X c τ σ d μ' Q e k s q => by
  cases e
  intro p hp
  have nX : p ∉ X := fun m => k.xs p m hp
  obtain ⟨k1, g1⟩ := Okk.own (o := .dK []) k hp
  obtain ⟨k2, g2, v2⟩ := k1.keep nX (x := .dct [] []) ⟨[], upd_same, rfl, rfl⟩ (fun z => nomatch z)
  exact q (.ref p) ⟨upd c.H p (.dK []), c.i ++ [p], c.m ++ [.dct [] []]⟩ rfl k2 (g1.trans g2 fun _ m => List.mem_cons_of_mem _ m) v2
def keyD : D → Option L2.Key
  | .int i => some (.inl i)
  | .str x => some (.inr x)
  | _ => none
theorem keyD_ok {G : Hp} {ι : List Addr} {d : D} {v : V} {k : L2.Key} (r : Rep K G ι d v) (e : keyD d = some k) : v = kV k := by
  cases d with
  | int i => cases e; exact rep_int r
  | str x => cases e; exact r
  | _ => cases e
/-- d[k] = v -/
def putKD (k : L2.Key) (d : D) (ks : List L2.Key) (ds : List D) : List L2.Key × List D :=
  if (ks.any fun x => decide (x = k)) = true then (ks, (ks.zip ds).map fun p => if p.1 = k then d else p.2) else (ks ++ [k], ds ++ [d])
theorem zip_any {α β : Type} {f : α → Bool} : ∀ {ks : List α} {es : List β}, ks.length = es.length → ((ks.zip es).any fun p => f p.1) = ks.any f
  | [], [], _ => rfl
  | k :: ks, e :: es, h => by
    rw [List.zip_cons_cons, List.any_cons, List.any_cons, zip_any (by simpa using h)]
theorem zip_put {k : L2.Key} {v : V} : ∀ {ks : List L2.Key} {es : List V}, ks.length = es.length → (ks.zip es).map (fun kv => if kv.1 = k then (kv.1, v) else kv) = ks.zip ((ks.zip es).map fun p => if p.1 = k then v else p.2)
  | [], [], _ => rfl
  | a :: ks, e :: es, h => by
    rw [List.zip_cons_cons, List.map_cons, List.map_cons, List.zip_cons_cons, zip_put (by simpa using h)]
    congr 1
    by_cases c : a = k
    · rw [if_pos c, if_pos c]
    · rw [if_neg c, if_neg c]
theorem reps_put {G : Hp} {ι : List Addr} {k : L2.Key} {d : D} {v : V} (rv : Rep K G ι d v) : ∀ {ks : List L2.Key} {ds : List D} {es : List V}, ks.length = ds.length → Reps K G ι ds es → Reps K G ι ((ks.zip ds).map fun p => if p.1 = k then d else p.2) ((ks.zip es).map fun p => if p.1 = k then v else p.2)
  | [], [], _, _, r => by rw [show _ = [] from r]; exact rfl
  | a :: ks, x :: ds, _, l, ⟨e, r, q, h1, h2⟩ => by
    subst q
    rw [List.zip_cons_cons, List.map_cons, List.zip_cons_cons, List.map_cons]
    refine ⟨_, _, rfl, ?_, reps_put rv (by simpa using l) h2⟩
    by_cases c : a = k
    · rw [if_pos c, if_pos c]; exact rv
    · rw [if_neg c, if_neg c]; exact h1
theorem reps_snoc {G : Hp} {ι : List Addr} {d : D} {v : V} (rv : Rep K G ι d v) : ∀ {ds : List D} {es : List V}, Reps K G ι ds es → Reps K G ι (ds ++ [d]) (es ++ [v])
  | [], _, r => by rw [show _ = [] from r]; exact ⟨v, [], rfl, rv, rfl⟩
  | x :: ds, _, ⟨e, r, q, h1, h2⟩ => by subst q; exact ⟨e, _, rfl, h1, reps_snoc rv h2⟩
theorem putKD_ok {G : Hp} {ι : List Addr} {k : L2.Key} {d : D} {v : V} (rv : Rep K G ι d v) {ks : List L2.Key} {ds : List D} {es : List V} (l : ks.length = ds.length) (r : Reps K G ι ds es) :
    ∃ es', putK (ks.zip es) k v = (putKD k d ks ds).1.zip es' ∧ (putKD k d ks ds).1.length = (putKD k d ks ds).2.length ∧ Reps K G ι (putKD k d ks ds).2 es' := by
  have le : ks.length = es.length := l.trans r.length.symm
  unfold putK putKD
  rw [zip_any (f := fun x => decide (x = k)) le]
  by_cases c : (ks.any fun x => decide (x = k)) = true
  · rw [if_pos c, if_pos c]
    exact ⟨_, zip_put le, by rw [List.length_map, List.length_zip, l, Nat.min_self], reps_put rv l r⟩
  · rw [if_neg c, if_neg c]
    exact ⟨es ++ [v], (List.zip_append le).symm ▸ rfl, by rw [List.length_append, List.length_append, l]; rfl, reps_snoc rv r⟩
def dputO (mo mk mv : ME) : MS := fun τ μ => (mv τ μ).bind fun p => (mo τ p.2).bind fun o => (mk τ o.2).bind fun k => match o.1 with
  | .cell i => (match k.2[i]? with
    | some (.dct ks ds) => (keyD k.1).bind fun key => if ks.length < 1000000 then some (.nx τ (k.2.set i (.dct (putKD key p.1 ks ds).1 (putKD key p.1 ks ds).2))) else none
    | _ => none)
  | _ => none
theorem refS_dput {td ty tv : TE} {mo mk mv : ME} (h : RefE K td mo) (hk : RefE K ty mk) (hv : RefE K tv mv) : RefS K (sDPut td ty tv) (dputO mo mk mv) := fun X c τ σ o D e k s q => by
  obtain ⟨d1, μ1, e1, e⟩ := bind2 e
  obtain ⟨d2, μ2, e2, e⟩ := bind2 e
  obtain ⟨d3, μ3, e3, e⟩ := bind2 e
  refine hv X c τ σ d1 μ1 _ e1 k s fun v c1 m1 k1 g1 r1 => ?_
  subst m1
  refine h X c1 τ σ d2 μ2 _ e2 k1 (g1.slots s) fun x c2 m2 k2 g2 r2 => ?_
  subst m2
  refine hk X c2 τ σ d3 μ3 _ e3 k2 ((g1.tr g2).slots s) fun y c3 m3 k3 g3 r3 => ?_
  subst m3
  cases d2 with
  | cell i =>
    dsimp only at e
    obtain ⟨a, ha, rfl⟩ := g3.rep r2
    cases hi : c3.m[i]? with
    | none => rw [hi] at e; cases e
    | some z =>
      rw [hi] at e
      cases z with
      | dead => cases e
      | lst _ => cases e
      | ins _ _ _ => cases e
      | dct ks ds =>
        obtain ⟨key, e4, e⟩ := bind1 e
        by_cases hC : ks.length < 1000000
        · rw [if_pos hC] at e
          cases e
          obtain ⟨⟨es, h1, l1, r4⟩, _⟩ := k3.cell i _ a hi ha (fun z => nomatch z)
          obtain ⟨es', a1, a2, a3⟩ := putKD_ok (k := key) ((g2.tr g3).rep r1) l1 r4
          have hy := keyD_ok r3 e4
          have hx : CellOk K (upd c3.H a (.dK (putK (ks.zip es) key v))) (vis X c3) c3.i a (.dct (putKD key d1 ks ds).1 (putKD key d1 ks ds).2) := ⟨es', by rw [upd_same, a1], a2, a3⟩
          obtain ⟨k4, g4⟩ := k3.change (o := .dK (putK (ks.zip es) key v)) hi ha (fun z => nomatch z) (x' := .dct (putKD key d1 ks ds).1 (putKD key d1 ks ds).2) (fun z => nomatch z) hx
          refine ⟨a, _, rfl, .inl ⟨ks.zip es, key, h1, hy, ?_, rfl⟩, ?_⟩
          · rw [List.length_zip, sizeLine_eq]
            omega
          · exact q σ ⟨upd c3.H a (.dK (putK (ks.zip es) key v)), c3.i, _⟩ rfl k4 (((g1.tr g2).tr g3).tr g4) ((((g1.tr g2).tr g3).tr g4).slots s)
        · rw [if_neg hC] at e
          cases e
  | _ => cases e
theorem ps_dputU {o i value : Expr} {pos pos' : Pos} {td ty tv : TE} (hu : X.A.units + 64 < cLine) (h : PE X o td) (hk : PE X i ty) (hv : PE X value tv) (hs : swapsWith value (some (o.Subscript i pos')) pos.line X.env = pure false) : PS X (Stmt.Assign [o.Subscript i pos'] value pos) (sDPut td ty tv) := ps_dput (by omega) h hk hv hs
/-- len of a dict -/
def lenDL : ML := fun ds μ => match ds with
  | [.cell i] => (match μ[i]? with
    | some (.dct ks _) => some (.int ks.length, μ)
    | _ => none)
  | _ => none
def rLenD : List V → Hp → VK → Prop := fun xs H Q => ∃ a kvs, xs = [V.ref a] ∧ H a = some (HO.dK kvs) ∧ Q (V.int ↑kvs.length) H
theorem cLenD : CallR X (.builtin "len") rLenD := call_lenD
theorem refL_lenD : RefL K rLenD lenDL := fun X c ds vs d μ' Q e k r q => by
  unfold lenDL at e
  match ds, e with
  | [.cell i], e =>
    dsimp only at e
    obtain ⟨v, rfl, r1⟩ := reps1 r
    obtain ⟨a, ha, rfl⟩ := r1
    cases hi : c.m[i]? with
    | none => rw [hi] at e; cases e
    | some z =>
      rw [hi] at e
      cases z with
      | dct ks ds' =>
        cases e
        obtain ⟨⟨es, h1, l1, r4⟩, _⟩ := k.cell i _ a hi ha (fun z => nomatch z)
        refine ⟨a, ks.zip es, rfl, h1, ?_⟩
        rw [List.length_zip, r4.length, ← l1, Nat.min_self]
        exact q _ c rfl k (Grow.refl X c) rfl
      | dead => cases e
      | lst _ => cases e
      | ins _ _ _ => cases e
end
section
variable {τ τ1 : Fr} {μ μ1 μ2 μ3 : Sto} {ma mb mk mv : ME} {x y d : D}
theorem ev_dnew : dnewO τ μ = some (.cell μ.length, μ ++ [.dct [] []]) := rfl
theorem ev_dput {i : Nat} {key : L2.Key} {ks : List L2.Key} {ds : List D} (h : mv τ μ = some (d, μ1)) (h2 : ma τ μ1 = some (.cell i, μ2)) (h3 : mk τ μ2 = some (y, μ3)) (h4 : μ3[i]? = some (.dct ks ds)) (h5 : keyD y = some key) (hl : ks.length < 1000000) :
    dputO ma mk mv τ μ = some (.nx τ (μ3.set i (.dct (putKD key d ks ds).1 (putKD key d ks ds).2))) := by
  unfold dputO
  rw [h, Option.bind_some, h2, Option.bind_some, h3, Option.bind_some]
  dsimp only
  rw [h4]
  dsimp only
  rw [h5, Option.bind_some, if_pos hl]
theorem ev_lenD {i : Nat} {ks : List L2.Key} {ds : List D} (h : μ[i]? = some (.dct ks ds)) : lenDL [.cell i] μ = some (.int ks.length, μ) := by
  unfold lenDL
  dsimp only
  rw [h]
end
end Z

set_option Elab.async false
set_option linter.all false
set_option maxRecDepth 100000
set_option maxHeartbeats 4000000
namespace Z
open PySem PySem.Spec L2
open PyProof.Rows hiding St
section
variable {K : PySem.W.Frag} {X : Cx}
/-! ### a field as a target -/
def gFld (K : PySem.W.Frag) (ta : TE) (f : Str) : TG := fun v σ H Q => ta σ H fun x H1 => ∃ a C dx fs, x = V.ref a ∧ H1 a = some (HO.ins C dx fs) ∧ Cls K C ∧ NoAttr K C f ∧ fs.length < 1000 ∧ Q σ (upd H1 a (HO.ins C dx (putF f v fs)))
theorem pg_fld {o : Expr} {f : Str} {pos : Pos} {ta : TE} (ho : PE X o ta)
    (ha : ∀ v, assign (.Attribute o f pos) X.env v = (do
      let ov ← holding [v] (eval o X.env)
      standAt pos.atName
      holding [v, ov] (setAttr ov f v)
      release [v, ov] []) := by intro _; rfl) : PG X (.Attribute o f pos) (gFld X.K ta f) := by
  refine ⟨fun pins s σ H v u Q I r h => ?_⟩
  rw [ha]
  refine wpAny_bind (wpAny_holding (thn (ho.run pins s σ H _ I h) fun ov s1 ⟨x, H1, I1, r1, a, C, dx, fs, ex, ea, c, n, l, q⟩ => ?_))
  subst ex
  obtain rfl : ov = Value.ref a := r1
  exact wpAny_bind (wpAny_standAt (wpAny_bind (wpAny_holding (setattr_ok I1 ea c n l r fun s3 I3 => wpAny_release ⟨σ, _, I3, q⟩))))
def fldG (Cs : List Str) (f : Str) (mo : ME) : MG := fun d τ μ => (mo τ μ).bind fun o => match o.1 with
  | .cell i => (match o.2[i]? with
    | some (.ins C ns ds) => if C ∈ Cs ∧ ns.length < 1000 then some (τ, o.2.set i (.ins C (putD f d ns ds).1 (putD f d ns ds).2)) else none
    | _ => none)
  | _ => none
theorem refG_fld {vs : List Nat} {te : TE} {mo : ME} {Cs : List Str} {f : Str} (F : FldOk K Cs f) (h : RefE K te mo) : RefG K vs (gFld K te f) (fldG Cs f mo) := fun X c τ σ d v τ' μ' Q e k s r q => by
  obtain ⟨d2, μ2, e2, e⟩ := bind2 e
  refine h X c τ σ d2 μ2 _ e2 k s fun x c2 m2 k2 g2 r2 => ?_
  subst m2
  cases d2 with
  | cell i =>
    dsimp only at e
    obtain ⟨a, ha, rfl⟩ := r2
    cases hi : c2.m[i]? with
    | none => rw [hi] at e; cases e
    | some z =>
      rw [hi] at e
      cases z with
      | dead => cases e
      | dct _ _ => cases e
      | lst ds => cases e
      | ins C ns ds =>
        dsimp only at e
        by_cases hC : C ∈ Cs ∧ ns.length < 1000
        · rw [if_pos hC] at e
          cases e
          obtain ⟨⟨dx, es, h1, l1, r3⟩, _⟩ := k2.cell i _ a hi ha (fun z => nomatch z)
          obtain ⟨es', a1, a2, a3⟩ := putD_ok (f := f) (g2.rep r) l1 r3
          refine ⟨a, _, dx, _, rfl, h1, (F C hC.1).1, (F C hC.1).2, ?_, ?_⟩
          · rw [List.length_zip]
            have := hC.2
            omega
          · have hx : CellOk K (upd c2.H a (.ins (He.ga K C) dx (putF f v (ns.zip es)))) (vis X c2) c2.i a (.ins C (putD f d ns ds).1 (putD f d ns ds).2) := ⟨dx, es', by rw [upd_same, a1], a2, a3⟩
            obtain ⟨k3, g3⟩ := k2.change (o := .ins (He.ga K C) dx (putF f v (ns.zip es))) hi ha (fun z => nomatch z) (x' := .ins C (putD f d ns ds).1 (putD f d ns ds).2) (fun z => nomatch z) hx
            exact q σ ⟨upd c2.H a (.ins (He.ga K C) dx (putF f v (ns.zip es))), c2.i, _⟩ rfl k3 (g2.tr g3) ((g2.tr g3).slots s) rfl
        · rw [if_neg hC] at e
          cases e
  | _ => cases e
/-! ### x = y = e -/
def asg2O (m : ME) (g h : MG) : MS := fun τ μ => (m τ μ).bind fun p => (g p.1 τ p.2).bind fun q => (h p.1 q.1 q.2).bind fun r => some (.nx r.1 r.2)
theorem refS_asg2 {vs ws : List Nat} {te : TE} {g1 g2 : TG} {m : ME} {m1 m2 : MG} (h : RefE K te m) (h1 : RefG K vs g1 m1) (h2 : RefG K ws g2 m2) : RefS K (tAsg2 te g1 g2) (asg2O m m1 m2) := fun X c τ σ o D e k s q => by
  obtain ⟨d, μ1, e1, e⟩ := bind2 e
  obtain ⟨τ2, μ2, e2, e⟩ := bind2 e
  obtain ⟨τ3, μ3, e3, e⟩ := bind2 e
  cases e
  refine h X c τ σ d μ1 _ e1 k s fun v c1 n1 k1 g1 r1 => ?_
  subst n1
  refine h1 X c1 τ σ d v τ2 μ2 _ e2 k1 (g1.slots s) r1 fun σ2 c2 n2 k2 g2 s2 _ => ?_
  subst n2
  exact h2 X c2 τ2 σ2 d v τ3 μ3 _ e3 k2 s2 (g2.rep r1) fun σ3 c3 n3 k3 g3 s3 _ => q σ3 c3 n3 k3 ((g1.tr g2).tr g3) s3
/-! ### divmod -/
noncomputable def divmodL : ML := fun ds μ => match ds with
  | [.int i, .int j] => (open Classical in if DivOk i j then some (.tup [.int (i / j), .int (i % j)], μ) else none)
  | _ => none
def rDivmod : List V → Hp → VK → Prop := fun xs H Q => ∃ i j, xs = [V.int i, V.int j] ∧ CDivP i j ∧ ∀ p, H p = none → Q (.ref p) (upd H p (.tup [.int (i / j), .int (i % j)]))
theorem cDivmod : CallR X (.builtin "divmod") rDivmod := call_divmodW
theorem cdivP_of {i j : Int} (h : DivOk i j) : CDivP i j := by
  refine ⟨h.1, ?_⟩
  have b := bigN_log h.2
  unfold PySem.Builtin.divisionGoesByPylong
  rw [Bool.and_eq_false_iff]
  left
  rw [decide_eq_false_iff_not]
  dsimp only
  split
  · decide
  · omega
theorem refL_divmod : RefL K rDivmod divmodL := fun X c ds vs d μ' Q e k r q => by
  unfold divmodL at e
  match ds, e with
  | [.int i, .int j], e =>
    dsimp only at e
    by_cases h2 : DivOk i j
    · rw [if_pos h2] at e
      cases e
      obtain ⟨v, w, rfl, r1, r2⟩ := reps2 r
      cases rep_int r1
      cases rep_int r2
      refine ⟨i, j, rfl, cdivP_of h2, fun p hp => ?_⟩
      obtain ⟨k2, g2, v2⟩ := k.laid (o := .tup [.int (i / j), .int (i % j)]) hp
      exact q (.ref p) ⟨upd c.H p (.tup [.int (i / j), .int (i % j)]), c.i, c.m⟩ rfl k2 g2 ⟨p, _, rfl, v2, _, _, rfl, rfl, _, _, rfl, rfl, rfl⟩
    · rw [if_neg h2] at e; cases e
/-! ### e.f op= e -/
def fldaugO (Cs : List Str) (f : Str) (mo mv : ME) (b : MB) : MS := fun τ μ => (mo τ μ).bind fun o => match o.1 with
  | .cell i => (match o.2[i]? with
    | some (.ins C ns ds) => if C ∈ Cs then ((ns.zip ds).lookup f).bind fun x => (mv τ o.2).bind fun y => (b x y.1 y.2).bind fun z => (match z.2[i]? with
      | some (.ins C' ns' ds') => if C' = C ∧ ns'.length < 1000 then some (.nx τ (z.2.set i (.ins C' (putD f z.1 ns' ds').1 (putD f z.1 ns' ds').2))) else none
      | _ => none) else none
    | _ => none)
  | _ => none
theorem refS_fldaug {te tv : TE} {mo mv : ME} {Cs : List Str} {f : Str} {rd : V → V → Hp → VK → Prop} {b : MB} (F : FldOk K Cs f) (h : RefE K te mo) (hv : RefE K tv mv) (hb : RefB K rd b) : RefS K (sFldAug K te tv rd f) (fldaugO Cs f mo mv b) := fun X c τ σ o D e k s q => by
  obtain ⟨d2, μ2, e2, e⟩ := bind2 e
  refine h X c τ σ d2 μ2 _ e2 k s fun x c2 m2 k2 g2 r2 => ?_
  subst m2
  cases d2 with
  | cell i =>
    dsimp only at e
    obtain ⟨a, ha, rfl⟩ := r2
    cases hi : c2.m[i]? with
    | none => rw [hi] at e; cases e
    | some z =>
      rw [hi] at e
      cases z with
      | dead => cases e
      | dct _ _ => cases e
      | lst ds => cases e
      | ins C ns ds =>
        dsimp only at e
        by_cases hC : C ∈ Cs
        · rw [if_pos hC] at e
          obtain ⟨dx0, e3, e⟩ := bind1 e
          obtain ⟨⟨dx, es, h1, l1, r3⟩, _⟩ := k2.cell i _ a hi ha (fun z => nomatch z)
          obtain ⟨v, z1, z2⟩ := zip_lookup r3 e3
          obtain ⟨dy, μ3, e4, e⟩ := bind2 e
          obtain ⟨dz, μ4, e5, e⟩ := bind2 e
          refine ⟨a, _, dx, _, v, rfl, h1, (F C hC).1, (F C hC).2, z1, ?_⟩
          refine hv X c2 τ σ dy μ3 _ e4 k2 (g2.slots s) fun y c3 m3 k3 g3 r4 => ?_
          subst m3
          refine hb X c3 dx0 dy v y dz μ4 _ e5 k3 (g3.rep z2) r4 fun w c4 m4 k4 g4 r5 => ?_
          subst m4
          dsimp only at e
          have ha4 : c4.i[i]? = some a := (g3.tr g4).pre i a ha
          cases hi4 : c4.m[i]? with
          | none => rw [hi4] at e; cases e
          | some z4 =>
            rw [hi4] at e
            cases z4 with
            | dead => cases e
            | dct _ _ => cases e
            | lst _ => cases e
            | ins C' ns' ds' =>
              dsimp only at e
              by_cases hC' : C' = C ∧ ns'.length < 1000
              · rw [if_pos hC'] at e
                cases e
                obtain ⟨rfl, hl⟩ := hC'
                obtain ⟨⟨dx', es4, h4, l4, r6⟩, _⟩ := k4.cell i _ a hi4 ha4 (fun z => nomatch z)
                obtain ⟨es', a1, a2, a3⟩ := putD_ok (f := f) r5 l4 r6
                refine ⟨dx', _, h4, ?_, ?_⟩
                · rw [List.length_zip]
                  omega
                · have hx : CellOk K (upd c4.H a (.ins (He.ga K C') dx' (putF f w (ns'.zip es4)))) (vis X c4) c4.i a (.ins C' (putD f dz ns' ds').1 (putD f dz ns' ds').2) := ⟨dx', es', by rw [upd_same, a1], a2, a3⟩
                  obtain ⟨k5, g5⟩ := k4.change (o := .ins (He.ga K C') dx' (putF f w (ns'.zip es4))) hi4 ha4 (fun z => nomatch z) (x' := .ins C' (putD f dz ns' ds').1 (putD f dz ns' ds').2) (fun z => nomatch z) hx
                  exact q σ ⟨upd c4.H a (.ins (He.ga K C') dx' (putF f w (ns'.zip es4))), c4.i, _⟩ rfl k5 (((g2.tr g3).tr g4).tr g5) ((((g2.tr g3).tr g4).tr g5).slots s)
              · rw [if_neg hC'] at e
                cases e
        · rw [if_neg hC] at e
          cases e
  | _ => cases e
theorem refB_iadd : RefB K rAdd (intB fun i j => .int (i + j)) := fun X c dx dy x y d μ' Q e k rx ry q => by
  unfold intB at e
  cases dx with
  | int i =>
    cases dy with
    | int j =>
      cases e
      cases rep_int rx
      cases rep_int ry
      exact ⟨i, j, rfl, rfl, q _ c rfl k (Grow.refl X c) rfl⟩
    | _ => cases e
  | _ => cases e
theorem refB_isub : RefB K rSub (intB fun i j => .int (i - j)) := fun X c dx dy x y d μ' Q e k rx ry q => by
  unfold intB at e
  cases dx with
  | int i =>
    cases dy with
    | int j =>
      cases e
      cases rep_int rx
      cases rep_int ry
      exact ⟨i, j, rfl, rfl, q _ c rfl k (Grow.refl X c) rfl⟩
    | _ => cases e
  | _ => cases e
end
end Z

set_option Elab.async false
set_option linter.all false
set_option maxRecDepth 100000
set_option maxHeartbeats 4000000
namespace Z
open PySem PySem.Spec L2
open PyProof.Rows hiding St
section
variable {M : Model} {A : Around} {E : Value → Shared → Prop} {s : Shared}
/-- a += b, lists -/
theorem wp_iadd_list {a b : Value} {Q : Value → Shared → Prop} (ha : s.TypeIs a "list") (hb : s.TypeIs b "list") (hc : wpAny M A (call (.builtin "list.__iadd__") [a, b]) Q E s) : wpAny M A (inplaceOp .Add a b) Q E s := by
  have look : typeLookup (.type "list") (dunderI "add") = pure (some (.builtin "list.__iadd__")) := PySem.F.slot_list_iadd.lookup
  have none_ : fillsInplaceSlot (.type "list") "add" (Operator.Add == .Add) = pure false := by
    unfold fillsInplaceSlot
    show (typeLookup (.type "list") (dunderI "add") >>= fun fi => pure (fi.isSome && !isSeqSlot fi)) = pure false
    rw [look, pure_bind, show isSeqSlot (some (.builtin "list.__iadd__")) = true from by decide +kernel]
    rfl
  have some_ : seqSlot? (.type "list") (dunderI "add") = pure (some (.builtin "list.__iadd__")) := PySem.seqSlot_of look (by decide +kernel)
  unfold inplaceOp
  refine wpAny_holding (wpAny_bind (wpAny_typeOf ha (wpAny_bind (wpAny_of_eq none_ ?_))))
  show wpAny M A (if false = true then _ else _) Q E s
  rw [if_neg Bool.false_ne_true]
  exact wpAny_bind (wpAny_binaryOp1_none (nm := "add") ha hb noFill_list_add (wpAny_bind (wpAny_of_eq some_ (wpAny_bind (wpAny_rule hc)))))
end
section
variable {K : PySem.W.Frag} {X : Cx}
def ipLst : TIp := fun x y H Q => ∃ l b xs zs, x = V.ref l ∧ y = V.ref b ∧ H l = some (HO.lst xs) ∧ H b = some (HO.lst zs) ∧ xs.length + zs.length ≤ sizeLine ∧ Q (V.ref l) (upd H l (.lst (xs ++ zs)))
theorem ip_lst : PIp X .Add ipLst := by
  intro pins s σ H x y v u Q I rx ry h
  obtain ⟨l, b, xs, zs, rfl, rfl, hH, hB, hz, q⟩ := h
  cases rx
  cases ry
  obtain ⟨z, its, n, r, hl, e⟩ := I.lstM hH
  obtain ⟨z2, its2, n2, r2, hl2, e2⟩ := I.lstM hB
  have hsz : its.toArray.size + its2.toArray.size ≤ sizeLine := by rw [List.size_toArray, List.size_toArray]; omega
  have hlong : ¬ (!its.toArray.isEmpty && Builtin.List.listTooLong (its.toArray.size + its2.toArray.size)) = true := by
    rw [notLongL hsz, Bool.and_false]
    exact Bool.false_ne_true
  refine wp_iadd_list ⟨_, e, rfl⟩ ⟨_, e2, rfl⟩ (call_meets PySem.F.slot_list_iadd ⟨_, e, rfl⟩ PySem.F.entry_list_iadd (PySem.F.args_list_iadd_2 _ _)
    (AutoSeq1.list___iadd___list_list_0 l its.toArray n b its2.toArray n2 hlong (by rw [List.size_toArray]; omega) (by omega)) ⟨e, e2, ?_⟩)
  refine ⟨.ref l, _, I.lset (its' := its ++ its2) hH e (by simp) (r.append r2) ?_, rfl, q⟩
  rw [List.length_append]
  omega
theorem fldOkC {C f : Str} {Cs : List Str} (h : FldOk K [C] f) (r : FldOk K Cs f) : FldOk K (C :: Cs) f := fun C' m => by
  rcases List.mem_cons.mp m with rfl | m
  · exact h _ List.mem_cons_self
  · exact r _ m
/-- found += more -/
def icatB : MB := fun x y μ => match x with
  | .cell i => (match μ[i]? with
    | some (.lst ds) => (asL μ y).bind fun es => if ds.length + es.length ≤ 1000000 then some (.cell i, μ.set i (.lst (ds ++ es))) else none
    | _ => none)
  | _ => none
theorem reps_append {G : Hp} {ι : List Addr} {es : List D} {ws : List V} (r2 : Reps K G ι es ws) : ∀ {ds : List D} {vs : List V}, Reps K G ι ds vs → Reps K G ι (ds ++ es) (vs ++ ws)
  | [], _, r => by rw [show _ = [] from r]; exact r2
  | x :: ds, _, ⟨e, r, q, h1, h2⟩ => by subst q; exact ⟨e, _, rfl, h1, reps_append r2 h2⟩
theorem refB_icat : RefB K ipLst icatB := fun X c dx dy x y d μ' Q e k rx ry q => by
  unfold icatB at e
  cases dx with
  | cell i =>
    dsimp only at e
    cases hi : c.m[i]? with
    | none => rw [hi] at e; cases e
    | some z =>
      rw [hi] at e
      cases z with
      | dead => cases e
      | dct _ _ => cases e
      | ins _ _ _ => cases e
      | lst ds =>
        obtain ⟨es, e1, e⟩ := bind1 e
        by_cases hl : ds.length + es.length ≤ 1000000
        · rw [if_pos hl] at e
          cases e
          obtain ⟨b, zs, rfl, hb, r2⟩ := asL_ok k ry e1
          obtain ⟨a, xs, ea, h1, r1⟩ := cell_at k hi rx
          obtain ⟨a', ea', _, k2, g2⟩ := cell_set k hi rx (reps_append r2 r1)
          rw [ea] at ea'
          cases ea'
          subst ea
          refine ⟨a, b, xs, zs, rfl, rfl, h1, hb, ?_, ?_⟩
          · rw [r1.length, r2.length, sizeLine_eq]
            omega
          · exact q (.ref a) ⟨upd c.H a (.lst (xs ++ zs)), c.i, c.m.set i (.lst (ds ++ es))⟩ rfl k2 g2 (g2.rep rx)
        · rw [if_neg hl] at e
          cases e
  | _ => cases e
end
end Z

set_option Elab.async false
set_option linter.all false
set_option maxRecDepth 100000
set_option maxHeartbeats 4000000
namespace Z
open PySem PySem.Spec L2
open PyProof.Rows hiding St
/-! ### own != -/
section
variable {X : Cx} {k : Nat} {C : Addr} {sp : Sp}
theorem op_neK {K : PySem.W.Frag} (hK : X.K = K) (F : EqOk X.prog X.w K X.mg X.base k C sp) (hr : Room (k + 1) X.A) : OpR X (compareOp .NotEq) (rNeO C sp) := by
  subst hK
  exact op_neE F hr
end
def neoB (C : Str) (F : ML) : MB := fun x y μ => (asI μ x).bind fun o => if o.1 = C then (asI μ y).bind fun o2 => if o2.1 = C then (F [x, y] μ).bind fun p => (match p.1 with
  | .bl b => some (.bl (!b), p.2)
  | _ => none) else none else none
section
variable {K : PySem.W.Frag}
theorem refB_neo {C : Str} {F : ML} : RefB K (rNeO (He.ga K C) (spO K F)) (neoB C F) := fun X c dx dy x y d μ' Q e k rx ry q => by
  obtain ⟨⟨C', ns, ds⟩, e1, e⟩ := bind1 e
  dsimp only at e
  by_cases hC : C' = C
  · rw [if_pos hC] at e
    subst hC
    obtain ⟨⟨C2, ns2, ds2⟩, e2, e3⟩ := bind1 e
    dsimp only at e3
    by_cases ht : C2 = C'
    · rw [if_pos ht] at e3
      subst ht
      obtain ⟨d1, μ1, e4, e5⟩ := bind2 e3
      cases d1 with
      | bl b =>
        cases e5
        obtain ⟨a, dd, es, rfl, h1, l1, r2⟩ := asI_ok k rx e1
        obtain ⟨a2, dd2, es2, rfl, h12, l12, r22⟩ := asI_ok k ry e2
        exact ⟨a, a2, dd, dd2, _, _, rfl, rfl, h1, h12, X, c, [dx, dy], .bl b, _, rfl, e4, k, ⟨_, _, rfl, rx, _, _, rfl, ry, rfl⟩, fun v c2 m2 k2 g2 r3 => ⟨b, r3, q _ c2 m2 k2 g2 rfl⟩⟩
      | _ => cases e5
    · rw [if_neg ht] at e3
      cases e3
  · rw [if_neg hC] at e
    cases e
end
end Z
namespace Z
open PySem PySem.Spec L2
/-- from here on the list that a name holds is changed no more -/
def frzV (i : Nat) (b : MS) : MS := fun τ μ => match τ[i]? with
  | some (some d) => b (τ.set i (some (frz1 d μ).1)) (frz1 d μ).2
  | _ => none
theorem endOk_tr {K : PySem.W.Frag} {X : List Addr} {c c2 : Cf} {D : Ends} {o : Ox} (g : Grow X c X c2) (q : EndOk K X c D o) : EndOk K X c2 D o := by
  cases o with
  | nx τ' μ' => exact fun σ' c' m k g' s => q σ' c' m k (g.tr g') s
  | bk τ' μ' => exact fun σ' c' m k g' s => q σ' c' m k (g.tr g') s
  | ct τ' μ' => exact fun σ' c' m k g' s => q σ' c' m k (g.tr g') s
  | rt d μ' => exact fun v c' m k g' r => q v c' m k (g.tr g') r
theorem refS_frzV {K : PySem.W.Frag} {ts : TS} {i : Nat} {b : MS} (h : RefS K ts b) : RefS K ts (frzV i b) := fun X c τ σ o D e k s q => by
  unfold frzV at e
  cases hi : τ[i]? with
  | none => rw [hi] at e; cases e
  | some x =>
    cases x with
    | none => rw [hi] at e; cases e
    | some d =>
      rw [hi] at e
      dsimp only at e
      obtain ⟨v, h1, h2⟩ := s.at_ i d hi
      obtain ⟨c2, m2, hH, k2, g2, r2⟩ := frz1_ok k h2
      have sl := slots_set (i := i) (g2.slots s) r2
      have e1 : σ.set i (some v) = σ := by
        apply List.ext_getElem?
        intro j
        by_cases hj : i = j
        · subst hj
          have hl := (List.getElem?_eq_some_iff.mp h1).1
          rw [List.getElem?_set_self hl, h1]
        · rw [List.getElem?_set_ne hj]
      rw [e1] at sl
      rw [← m2] at e
      have fin := h X c2 _ σ o D e k2 sl (endOk_tr g2 q)
      rw [hH] at fin
      exact fin
end Z
namespace Z
open PySem PySem.Spec L2
open PyProof.Rows hiding St
/-! ### not e as a value, by truth -/
section
variable {X : Cx} {e : Expr} {ta : TE}
theorem pe_notK {K : PySem.W.Frag} {pos : Pos} (hK : X.K = K) (h : PE X e ta) : PE X (.UnaryOp .Not e pos) (tNotT K ta) := by
  subst hK
  exact pe_notT h
end
def notT (a : ME) : ME := fun τ μ => (a τ μ).bind fun p => (truD p.2 p.1).bind fun b => some (.bl (!b), p.2)
theorem refE_notT {K : PySem.W.Frag} {te : TE} {m : ME} (h : RefE K te m) : RefE K (tNotT K te) (notT m) := fun X c τ σ b μ' Q e k s q => by
  obtain ⟨d, μ1, e1, e⟩ := bind2 e
  obtain ⟨b', e2, e⟩ := bind1 e
  cases e
  exact h X c τ σ _ _ _ e1 k s fun v c1 m1 k1 g1 r1 => ⟨b', truD_ok k1 r1 (by rw [m1]; exact e2), q _ c1 m1 k1 g1 rfl⟩
end Z

set_option Elab.async false
set_option linter.all false
set_option maxRecDepth 100000
set_option maxHeartbeats 4000000
namespace L2
open PySem PySem.Spec PyProof.Rows
/-! ### a set of ints in order, of any size -/
section
variable {PP : Program} {ww : World} {AA : Around} {EE : Value → Shared → Prop} {sh : Shared} {at0 : Addr}
theorem set_in_order {F : Int → Bool} {m : Nat} {QQ : Value → Shared → Prop} (G : SetR ww sh.heap at0 F m) (quiet : AA.handled = none) (few : m ≤ 1000000)
    (fin : ∀ t' q (zs : Array Value) (e : Nat) (ks : List Int), (∀ b o, sh.heap.get? b = some o → t'.heap.get? b = some o) → t'.gens = sh.gens → t'.os = sh.os →
      sh.heap.objs.size ≤ q → t'.heap.get? q = some (seqObj "list" zs e) → IntsAre zs.toList ks → ks.Pairwise (· < ·) → (∀ k, k ∈ ks ↔ F k = true) → ks.length = m → QQ (.ref q) t') :
    wpAny (model PP ww) AA (call (.builtin "sorted") [.ref at0]) QQ EE sh := by
  obtain ⟨ob, arr, epo, tab, hob, hcls, hdat, allInt, nodup, mems, bound, hfl, card, hreg, hlim⟩ := G
  apply Calls.call_function_entry kind_sorted plain_sorted entry_sorted (args_sorted1 _)
  unfold Builtin.«sorted»
  apply wpAny_bind (m := checkCount "sorted" 1 1 _)
  apply wpAny_pure
  apply wpAny_bind
  apply collect_set (A := AA.in1) quiet ⟨ob, hob, hcls.1, hdat⟩ hfl bound hreg hlim
  intro t1 xs keep grow gens os perm
  have lxs : xs.length = m := (perm.length_eq.trans (by rw [List.length_map, Array.length_toList])).trans card
  have are : IntsAre xs (xs.map Builtin.Re.reRawOf) := by
    apply ints_of xs
    intro u hu
    obtain ⟨pr, hpr, hq⟩ := List.mem_map.mp (perm.mem_iff.mp hu)
    obtain ⟨i, ti, hi, _⟩ := allInt pr hpr
    exact ⟨i, ti, hq ▸ hi⟩
  have pks : (xs.map Builtin.Re.reRawOf).Perm (arr.toList.map keyOf) := by
    have := perm.map Builtin.Re.reRawOf
    rwa [List.map_map] at this
  have fits : xs.length ≤ sizeLine := by
    have small : xs.length ≤ 1000000 := by omega
    exact Nat.le_trans small (by decide +kernel)
  apply wpAny_bind
  apply wpAny_newList _ fits
  have there : (t1.heap.push (seqObj "list" xs.toArray 0)).get? t1.heap.objs.size = some (seqObj "list" xs.toArray 0) := Heap.get?_push_size _ rfl
  apply wpAny_bind
  apply wpAny_holding
  refine wpAny_call_entry slot_list_sort ⟨_, there, rfl⟩ entry_list_sort (SrtO.list_sort_ord SrtO.swo_int there fits (fun two => SrtO.ints_sortable are two) ?_) (args_list_sort _)
  intro zs so sb
  refine ⟨_, rfl, ?_⟩
  obtain ⟨za, zp, zo⟩ := SrtO.ints_out are so sb
  obtain ⟨e, he⟩ := sortedHeap_at (vs := xs) (out := zs.toArray) there
  have pz := zp.trans pks
  apply wpAny_pure
  refine ⟨_, rfl, fin _ t1.heap.objs.size zs.toArray e (zs.map SrtO.iv) ?_ gens os grow he za (lt_of_le_nodup _ zo (pz.nodup_iff.mpr nodup)) ?_ ?_⟩
  · intro b u hb
    have old := keep b u hb
    have small := Heap.lt_size old
    show (sortedHeap (t1.heap.push (seqObj "list" xs.toArray 0)) t1.heap.objs.size xs zs.toArray).get? b = some u
    rw [sortedHeap_old (Nat.ne_of_lt small) (by rw [size_push']; exact Nat.lt_of_lt_of_le small (Nat.le_succ _))]
    exact Heap.get?_push_of_some _ old
  · intro k
    rw [pz.mem_iff, ← mems k]
  · rw [pz.length_eq, List.length_map, Array.length_toList]
    exact card
end
section
variable {X : Cx}
def rSetInOrder (w : World) : List V → Hp → VK → Prop := fun xs G Q => ∃ (b : Addr) (F : Int → Bool) (m : Nat), xs = [V.ref b] ∧ G b = some (SetO w b F m) ∧ m ≤ 1000000 ∧
  ∀ (ks : List Int) (q : Addr), ks.Pairwise (· < ·) → (∀ k, k ∈ ks ↔ F k = true) → ks.length = m → G q = none → Q (.ref q) (upd G q (.lst (ks.map V.int)))
theorem call_setInOrder (calm : X.calm = true) : CallR X (.builtin "sorted") (rSetInOrder X.w) := by
  intro pins sh σ G xs us Q I rel hyp
  obtain ⟨b, F, m, rfl, hb, few, fin⟩ := hyp
  rw [Vals.ref1 rel]
  apply set_in_order (setO_get I hb) (I.ok.hd calm) few
  intro t' q zs e ks keep gens os free hq are upw mem len
  have short : (ks.map V.int).length ≤ sizeLine := by
    rw [List.length_map, len]
    exact Nat.le_trans few (by decide +kernel)
  have fresh : G q = none := I.hok.fresh free
  have I2 : Inv X pins σ (upd G q (.lst (ks.map V.int))) { sh with heap := t'.heap, gens := t'.gens, drawn := t'.drawn, toks := t'.toks } :=
    I.call (ch := []) (Un.laid keep free fresh) (I.hok.laid keep free ⟨short, zs.toList, e, vals_of_ints are, hq⟩) (by rw [gens]; exact I.bare) (fun _ z => nomatch z)
  have same : t' = { sh with heap := t'.heap, gens := t'.gens, drawn := t'.drawn, toks := t'.toks } := by
    cases t'
    cases sh
    cases os
    rfl
  rw [same]
  exact ⟨.ref q, _, I2, rfl, fin ks q upw mem len fresh⟩
end
end L2
namespace Z
open PySem PySem.Spec L2
open PyProof.Rows hiding St
section
variable {K : PySem.W.Frag} {X : Cx} {w : World}
def rSetV (K : PySem.W.Frag) (w : World) : List V → Hp → VK → Prop := fun vs G Q => ∃ (b : Addr) (ks : List Int), vs = [.ref b] ∧ SqL K G b (ks.map V.int) ∧ ks.length ≤ 2000 ∧
  ∀ (m : Nat) (q : Addr), m ≤ ks.length → G q = none → Q (.ref q) (upd G q (SetO w q (fun j => decide (j ∈ ks)) m))
theorem cSetV (hK : X.K = K) (hw : X.w = w) (calm : X.calm = true) : CallR X (.type "set") (rSetV K w) := by
  subst hK
  subst hw
  intro pins sh σ G vs us Q I rel hyp
  obtain ⟨b, ks, rfl, hq, few, fin⟩ := hyp
  rw [Vals.ref1 rel]
  obtain ⟨its, rv, pl, hz⟩ := I.list hq
  have bd : ks.length + 1 < scanBound := by unfold scanBound; omega
  refine set_of_list (I.ok.hd calm) pl.isList (ns := ks) (by simpa using rv.ints) bd fun h' tk m hR hm keep => ?_
  exact ⟨.ref _, upd G sh.heap.objs.size (SetO X.w sh.heap.objs.size (fun j => decide (j ∈ ks)) m), I.laid (t' := tk) keep (Nat.le_refl _) (setO_new hR), rfl, fin m _ hm (I.hok.fresh (Nat.le_refl _))⟩
theorem cSrtSetL (hw : X.w = w) (hc : X.calm = true) : CallR X (.builtin "sorted") (rSetInOrder w) := by subst hw; exact call_setInOrder hc
/-- sorted(set(xs)), up to 2000 ints -/
def srsLF (m : ME) : MF := fun τ μ => (m τ μ).bind fun p => (asS p.2 p.1).bind fun xs => (intsD xs).bind fun ns => if ns.length ≤ 2000 then some ((setI ns).map D.int, p.2) else none
theorem refF_srsL {te : TE} {m : ME} (h : RefE K te m) : RefF K (tCB (rSetInOrder w) (tCons (tCB (rSetV K w) (tCons te tNil)) tNil)) (srsLF m) := fun X c τ σ ds μ' Q e k s q => by
  obtain ⟨d1, μ1, e1, e⟩ := bind2 e
  obtain ⟨xs, e2, e⟩ := Option.bind_eq_some_iff.mp e
  obtain ⟨ns, e3, e⟩ := Option.bind_eq_some_iff.mp e
  by_cases hl : ns.length ≤ 2000
  · rw [if_pos hl] at e
    cases e
    refine h X c τ σ d1 _ _ e1 k s fun x c1 m1 k1 g1 r1 => ?_
    obtain ⟨p, es, rfl, hs, r2⟩ := asS_ok k1 r1 (by rw [m1]; exact e2)
    cases intsD_ok r2 e3
    refine ⟨p, ns, rfl, hs, hl, fun n a hn ha => ⟨a, _, n, rfl, upd_same, by omega, fun ys b h1 h2 h3 hb => ?_⟩⟩
    have ey : ys = setI ns := up_one h1 setI_up fun k => by rw [h2, mem_setI, decide_eq_true_iff]
    subst ey
    obtain ⟨k2, g2, _⟩ := k1.laid (o := SetO w a (fun j => decide (j ∈ ns)) n) ha
    exact fresh_list k2 (ints_reps (setI ns)) (fun p' es' c4 m4 nX k4 g4 h4 r4 => q p' es' c4 (m4.trans m1) nX k4 (g1.trans (g2.trans g4 fun _ m => m) fun _ m => m) h4 r4) b hb
  · rw [if_neg hl] at e
    cases e
end
end Z

set_option Elab.async false
set_option linter.all false
set_option maxRecDepth 100000
set_option maxHeartbeats 4000000
namespace Z
open PySem PySem.Spec L2
open PyProof.Rows hiding St
section
variable {a b : MS} {τ τ1 : Fr} {μ μ1 μ2 μ3 : Sto} {o : Ox} {m ma mb mc : ME} {f : MB} {x y z d : D} {r : D × Sto} {k : Bool} {t u : MT} {i j : Nat} {fa : MF} {ds : List D} {F : ML} {g : MG}
theorem ev_seq (h : a τ μ = some (.nx τ1 μ1)) (h2 : b τ1 μ1 = some o) : seqO a b τ μ = some o := by unfold seqO; rw [h]; exact h2
theorem ev_seqR (h : a τ μ = some (.rt d μ1)) : seqO a b τ μ = some (.rt d μ1) := by unfold seqO; rw [h]; rfl
theorem ev_seqB (h : a τ μ = some (.bk τ1 μ1)) : seqO a b τ μ = some (.bk τ1 μ1) := by unfold seqO; rw [h]; rfl
def contS (b : MS) : Ox → Option Ox
  | .nx τ1 μ1 => b τ1 μ1
  | o => some o
theorem ev_seqX {o1 : Ox} (h : a τ μ = some o1) (h2 : contS b o1 = some o) : seqO a b τ μ = some o := by
  unfold seqO
  rw [h, Option.bind_some, ← h2]
  cases o1 <;> rfl
theorem ev_contN (h : b τ1 μ1 = some o) : contS b (.nx τ1 μ1) = some o := h
theorem ev_contR : contS b (.rt d μ) = some (.rt d μ) := rfl
theorem ev_contB : contS b (.bk τ μ) = some (.bk τ μ) := rfl
theorem ev_contC : contS b (.ct τ μ) = some (.ct τ μ) := rfl
theorem ev_next : nextO τ μ = some (.nx τ μ) := rfl
theorem ev_var (h : τ[i]?.join = some d) : varO i τ μ = some (d, μ) := by unfold varO; rw [h]; rfl
theorem len_le {ds : List D} (h : Nat.ble ds.length 1000000 = true) : ds.length ≤ 1000000 := Nat.le_of_ble_eq_true h
theorem ev_c : cO d τ μ = some (d, μ) := rfl
theorem ev_op (h : ma τ μ = some (x, μ1)) (h2 : mb τ μ1 = some (y, μ2)) (h3 : f x y μ2 = some r) : opO f ma mb τ μ = some r := by unfold opO; rw [h, Option.bind_some, h2]; exact h3
theorem ev_opF {f : D → D → Sto → Option (List D × Sto)} {r : List D × Sto} (h : ma τ μ = some (x, μ1)) (h2 : mb τ μ1 = some (y, μ2)) (h3 : f x y μ2 = some r) : opF f ma mb τ μ = some r := by unfold opF; rw [h, Option.bind_some, h2]; exact h3
theorem ev_un {f : D → Sto → Option (D × Sto)} (h : ma τ μ = some (x, μ1)) (h3 : f x μ1 = some r) : unO f ma τ μ = some r := by unfold unO; rw [h]; exact h3
theorem ev_nil : nilA τ μ = some ([], μ) := rfl
theorem ev_cons {mr : MF} (h : ma τ μ = some (x, μ1)) (h2 : mr τ μ1 = some (ds, μ2)) : consA ma mr τ μ = some (x :: ds, μ2) := by unfold consA; rw [h, Option.bind_some, h2]; rfl
theorem ev_cb (h : fa τ μ = some (ds, μ1)) (h2 : F ds μ1 = some r) : cbO F fa τ μ = some r := by unfold cbO; rw [h]; exact h2
theorem ev_lst (h : fa τ μ = some (ds, μ1)) (hl : ds.length ≤ 1000000) : lstO fa τ μ = some (ds, μ1) := by unfold lstO; rw [h, Option.bind_some, if_pos hl]
theorem ev_tup (h : fa τ μ = some (ds, μ1)) (hl : ds.length ≤ 1000000) : tupO fa τ μ = some (.tup ds, μ1) := by unfold tupO; rw [h, Option.bind_some, if_pos hl]
theorem ev_val (h : fa τ μ = some (ds, μ1)) : valO fa τ μ = some (.lst ds, μ1) := by unfold valO; rw [h]; rfl
theorem ev_cell (h : fa τ μ = some (ds, μ1)) : cellO fa τ μ = some (.cell μ1.length, μ1 ++ [.lst ds]) := by unfold cellO; rw [h]; rfl
theorem ev_frz (h : ma τ μ = some (x, μ1)) (h2 : frz1 x μ1 = r) : frzO ma τ μ = some r := by unfold frzO; rw [h, Option.bind_some, h2]
theorem ev_asg (h : ma τ μ = some (x, μ1)) (h2 : g x τ μ1 = some (τ1, μ2)) : asgO ma g τ μ = some (.nx τ1 μ2) := by unfold asgO; rw [h, Option.bind_some, h2]; rfl
inductive SetF : Fr → Nat → D → Fr → Prop where
  | zero {a : Option D} {l : Fr} {v : D} : SetF (a :: l) 0 v (some v :: l)
  | succ {a : Option D} {l l' : Fr} {i : Nat} {v : D} (h : SetF l i v l') : SetF (a :: l) (i + 1) v (a :: l')
theorem SetF.eq {σ σ' : Fr} {i : Nat} {v : D} (h : SetF σ i v σ') : σ.set i (some v) = σ' := by
  induction h with
  | zero => rfl
  | succ _ ih => rw [List.set_cons_succ, ih]
theorem ev_name (h : SetF τ i d τ1) : nameG i d τ μ = some (τ1, μ) := by rw [← h.eq]; rfl
theorem ev_drop (h : ma τ μ = some (x, μ1)) : dropO ma τ μ = some (.nx τ μ1) := by unfold dropO; rw [h]; rfl
theorem ev_ret (h : ma τ μ = some (x, μ1)) : retO ma τ μ = some (.rt x μ1) := by unfold retO; rw [h]; rfl
theorem ev_retN : retNO τ μ = some (.rt .non μ) := rfl
theorem ev_ifS (h : t τ μ = some (k, μ1)) (h2 : (if k = true then a τ μ1 else b τ μ1) = some o) : ifS t a b τ μ = some o := by unfold ifS; rw [h]; exact h2
theorem ev_ifE (h : t τ μ = some (k, μ1)) (h2 : (if k = true then ma τ μ1 else mb τ μ1) = some r) : ifO t ma mb τ μ = some r := by unfold ifO; rw [h]; exact h2
theorem ev_iteT {α : Type} {p q : Option α} {s : α} (h : p = some s) : (if true = true then p else q) = some s := by rw [if_pos rfl]; exact h
theorem ev_iteF {α : Type} {p q : Option α} {s : α} (h : q = some s) : (if false = true then p else q) = some s := by rw [if_neg (fun z => nomatch z)]; exact h
theorem ev_iteNT {α : Type} {p q : Option α} {s : α} (h : q = some s) : (if (!true) = true then p else q) = some s := by rw [if_neg (fun z => nomatch z)]; exact h
theorem ev_iteNF {α : Type} {p q : Option α} {s : α} (h : p = some s) : (if (!false) = true then p else q) = some s := by rw [if_pos (show (!false) = true from rfl)]; exact h
theorem ev_test (h : ma τ μ = some (.bl k, μ1)) : testO ma τ μ = some (k, μ1) := by unfold testO; rw [h]; rfl
theorem ev_tru (h : ma τ μ = some (x, μ1)) (h2 : truD μ1 x = some k) : truO ma τ μ = some (k, μ1) := by unfold truO; rw [h, Option.bind_some, h2]; rfl
theorem ev_truB : truD μ (.bl k) = some k := rfl
theorem ev_and (h : t τ μ = some (k, μ1)) {q : Bool × Sto} (h2 : (if k = true then u τ μ1 else some (false, μ1)) = some q) : andO t u τ μ = some q := by unfold andO; rw [h]; exact h2
theorem ev_or (h : t τ μ = some (k, μ1)) {q : Bool × Sto} (h2 : (if k = true then some (true, μ1) else u τ μ1) = some q) : orO t u τ μ = some q := by unfold orO; rw [h]; exact h2
theorem ev_not (h : t τ μ = some (k, μ1)) : notO t τ μ = some (!k, μ1) := by unfold notO; rw [h]; rfl
theorem ev_andV (h : ma τ μ = some (.bl k, μ1)) (h2 : (if k = true then mb τ μ1 else some (.bl false, μ1)) = some r) : andV ma mb τ μ = some r := by
  unfold andV; rw [h]
  cases k with
  | true => exact h2
  | false => exact h2
theorem ev_orV (h : ma τ μ = some (.bl k, μ1)) (h2 : (if k = true then some (.bl true, μ1) else mb τ μ1) = some r) : orV ma mb τ μ = some r := by
  unfold orV; rw [h]
  cases k with
  | true => exact h2
  | false => exact h2
theorem ev_notV (h : ma τ μ = some (.bl k, μ1)) : notV ma τ μ = some (.bl (!k), μ1) := by unfold notV; rw [h]; rfl
theorem ev_chain {f' : MB} (h : ma τ μ = some (x, μ1)) (h2 : mb τ μ1 = some (y, μ2)) (h3 : f x y μ2 = some (.bl k, μ3)) (h4 : (if k = true then (mc τ μ3).bind fun w => f' y w.1 w.2 else some (.bl false, μ3)) = some r) : chainO f f' ma mb mc τ μ = some r := by
  unfold chainO; rw [h, Option.bind_some, h2, Option.bind_some, h3]
  cases k with
  | true => exact h4
  | false => exact h4
theorem ev_bind {α β : Type} {p : Option α} {q : α → Option β} {x : α} {y : β} (h : p = some x) (h2 : q x = some y) : p.bind q = some y := by rw [h]; exact h2
/-! operations -/
theorem ev_addI {i j : Int} : addB (.int i) (.int j) μ = some (.int (i + j), μ) := rfl
theorem ev_int {h : Int → Int → D} {i j : Int} : intB h (.int i) (.int j) μ = some (h i j, μ) := rfl
theorem ev_intC {C : Int → Int → Prop} {h : Int → Int → D} {i j : Int} (hc : C i j) : intC C h (.int i) (.int j) μ = some (h i j, μ) := if_pos hc
theorem ev_mulI {i j : Int} (hc : MulOk i j) : mulB (.int i) (.int j) μ = some (.int (i * j), μ) := intC_eq (f := fun i j => D.int (i * j)) hc
theorem ev_eqI {i j : Int} : eqB false (.int i) (.int j) μ = some (.bl (decide (i = j)), μ) := by
  have e : decide (V.int i = V.int j) = decide (i = j) := by simp
  show some (D.bl (false ^^ decide (V.int i = V.int j)), μ) = _
  rw [e, Bool.false_xor]
theorem ev_neI {i j : Int} : eqB true (.int i) (.int j) μ = some (.bl (!decide (i = j)), μ) := by
  have e : decide (V.int i = V.int j) = decide (i = j) := by simp
  show some (D.bl (true ^^ decide (V.int i = V.int j)), μ) = _
  rw [e, Bool.true_xor]
theorem ev_eqB {i j : Bool} : eqB false (.bl i) (.bl j) μ = some (.bl (i == j), μ) := by cases i <;> cases j <;> rfl
theorem ev_neB {i j : Bool} : eqB true (.bl i) (.bl j) μ = some (.bl (i != j), μ) := by cases i <;> cases j <;> rfl
theorem ev_neS {x y : Str} : eqB true (.str x) (.str y) μ = some (.bl (!decide (x = y)), μ) := by
  have e : decide (V.str x = V.str y) = decide (x = y) := by simp
  show some (D.bl (true ^^ decide (V.str x = V.str y)), μ) = _
  rw [e, Bool.true_xor]
theorem ev_eqS {x y : Str} : eqB false (.str x) (.str y) μ = some (.bl (decide (x = y)), μ) := by
  have e : decide (V.str x = V.str y) = decide (x = y) := by simp
  show some (D.bl (false ^^ decide (V.str x = V.str y)), μ) = _
  rw [e, Bool.false_xor]
theorem ev_isN {d : D} : isB false d .non μ = some (.bl (isNonD d), μ) := by show some (D.bl (false ^^ isNonD d), μ) = _; rw [Bool.false_xor]
theorem ev_notN {d : D} : isB true d .non μ = some (.bl (!isNonD d), μ) := by show some (D.bl (true ^^ isNonD d), μ) = _; rw [Bool.true_xor]
theorem ev_ix {i : Int} (h : asQ μ x = some ds) (h2 : atI ds i = some d) : ixB x (.int i) μ = some (d, μ) := by
  show (asQ μ x).bind _ = _
  rw [h, Option.bind_some, h2]; rfl
theorem ev_neg {i : Int} : negO (.int i) μ = some (.int (-i), μ) := rfl
theorem ev_len (h : asQ μ x = some ds) : lenL [x] μ = some (.int ds.length, μ) := by
  show (asQ μ x).bind _ = _
  rw [h]; rfl
theorem ev_intL {i : Int} : intL [.int i] μ = some (.int i, μ) := rfl
theorem ev_intLB {i : Bool} : intL [.bl i] μ = some (.int (if i then 1 else 0), μ) := rfl
theorem ev_max {i j : Int} : maxL [.int i, .int j] μ = some (.int (max i j), μ) := by
  show some (D.int (if j > i then j else i), μ) = _
  congr 3
  rw [Int.max_def]
  split <;> split <;> omega
theorem ev_min {i j : Int} : minL [.int i, .int j] μ = some (.int (min i j), μ) := by
  show some (D.int (if j < i then j else i), μ) = _
  congr 3
  rw [Int.min_def]
  split <;> split <;> omega
theorem ev_sum {ns : List Int} (h : asS μ x = some (ns.map D.int)) : sumL [x] μ = some (.int ns.sum, μ) := by
  show (asS μ x).bind _ = _
  rw [h, Option.bind_some, intsD_map]; rfl
theorem ev_all {ns : List Bool} (h : asS μ x = some (ns.map D.bl)) : allL [x] μ = some (.bl (ns.all id), μ) := by
  show (asS μ x).bind _ = _
  rw [h, Option.bind_some, blsD_map]; rfl
theorem ev_any {ns : List Bool} (h : asS μ x = some (ns.map D.bl)) : anyL [x] μ = some (.bl (ns.any id), μ) := by
  show (asS μ x).bind _ = _
  rw [h, Option.bind_some, blsD_map]; rfl
theorem ev_isi {tb : Kd → Kd → Option Bool} {t u : Kd} (h : kd μ x = some t) (h2 : kdC y = some u) (h3 : tb t u = some k) : isiL tb [x, y] μ = some (.bl k, μ) := by
  show (kd μ x).bind _ = _
  rw [h, Option.bind_some, h2, Option.bind_some, h3]; rfl
theorem ev_cat {as bs : List D} (h : asS μ x = some as) (h2 : asL μ y = some bs) (hl : as.length + bs.length ≤ 1000000) : catL x y μ = some (as ++ bs, μ) := by
  unfold catL
  rw [h, Option.bind_some, h2, Option.bind_some, if_pos hl]
theorem ev_rep {as : List D} {i : Int} (h : asL μ x = some as) (hl : as.length * i.toNat ≤ 1000000 ∧ -(2 ^ 62) < i ∧ i < 2 ^ 62) : repL x (.int i) μ = some ((List.replicate i.toNat as).flatten, μ) := by
  show (asL μ x).bind _ = _
  rw [h, Option.bind_some, if_pos hl]
theorem ev_list (h : fa τ μ = some ([x], μ1)) (h2 : asQ μ1 x = some ds) : listF fa τ μ = some (ds, μ1) := by
  unfold listF
  rw [h, Option.bind_some]
  show (asQ μ1 x).bind _ = _
  rw [h2]; rfl
theorem ev_fld {Cs : List Str} {f C : Str} {ns : List Str} (h : ma τ μ = some (x, μ1)) (h2 : asI μ1 x = some (C, ns, ds)) (h3 : C ∈ Cs) (h4 : (ns.zip ds).lookup f = some d) : fldO Cs f ma τ μ = some (d, μ1) := by
  unfold fldO
  rw [h, Option.bind_some, h2, Option.bind_some, if_pos h3, h4]; rfl
theorem ev_prop {C : Str} {ns : List Str} (h : ma τ μ = some (x, μ1)) (h2 : asI μ1 x = some (C, ns, ds)) (h3 : F [x] μ1 = some r) : propO C F ma τ μ = some r := by
  unfold propO
  rw [h, Option.bind_some, h2, Option.bind_some, if_pos rfl]; exact h3
theorem ev_meth {C n : Str} {ns : List Str} {as : List D} (h : ma τ μ = some (x, μ1)) (h2 : asI μ1 x = some (C, ns, ds)) (h3 : (ns.zip ds).lookup n = none) (h4 : fa τ μ1 = some (as, μ2)) (h5 : F (x :: as) μ2 = some r) : methO C n F ma fa τ μ = some r := by
  unfold methO
  rw [h, Option.bind_some, h2, Option.bind_some, if_pos ⟨rfl, h3⟩, h4]; exact h5
theorem ev_make {C : Str} (h : fa τ μ = some (ds, μ1)) (h2 : F (.cell μ1.length :: ds) (μ1 ++ [.ins C [] []]) = some (.non, μ2)) : makeO C F fa τ μ = some (.cell μ1.length, μ2) := by
  unfold makeO
  rw [h, Option.bind_some]
  show (match F (.cell μ1.length :: ds) (μ1 ++ [.ins C [] []]) with
    | some (.non, μ') => some (D.cell μ1.length, μ')
    | _ => none) = _
  rw [h2]
theorem ev_sfld {Cs : List Str} {f C : Str} {ns : List Str} (h : mb τ μ = some (d, μ1)) (h2 : ma τ μ1 = some (.cell i, μ2)) (h3 : μ2[i]? = some (.ins C ns ds)) (h4 : C ∈ Cs) (h5 : ns.length < 1000) : sfldO Cs f ma mb τ μ = some (.nx τ (μ2.set i (.ins C (putD f d ns ds).1 (putD f d ns ds).2))) := by
  unfold sfldO
  rw [h, Option.bind_some, h2, Option.bind_some]
  show (match μ2[i]? with
    | some (.ins C ns ds) => if C ∈ Cs ∧ ns.length < 1000 then some (Ox.nx τ (μ2.set i (.ins C (putD f d ns ds).1 (putD f d ns ds).2))) else none
    | _ => none) = _
  rw [h3]
  show (if C ∈ Cs ∧ ns.length < 1000 then _ else none) = _
  rw [if_pos ⟨h4, h5⟩]
theorem ev_app {es : List D} (h : ma τ μ = some (.cell i, μ1)) (h0 : μ1[i]? = some (.lst es)) (h2 : mb τ μ1 = some (y, μ2)) (h3 : μ2[i]? = some (.lst ds)) (hl : ds.length < 1000000) : appO ma mb τ μ = some (.non, μ2.set i (.lst (ds ++ [y]))) := by
  unfold appO
  rw [h, Option.bind_some]
  show (match μ1[i]? with
    | some (.lst _) => (mb τ μ1).bind fun a => (match a.2[i]? with
      | some (.lst ds) => if ds.length < 1000000 then some (D.non, a.2.set i (.lst (ds ++ [a.1]))) else none
      | _ => none)
    | _ => none) = _
  rw [h0]
  show ((mb τ μ1).bind fun a => _) = _
  rw [h2, Option.bind_some]
  show (match μ2[i]? with
      | some (.lst ds) => if ds.length < 1000000 then some (D.non, μ2.set i (.lst (ds ++ [y]))) else none
      | _ => none) = _
  rw [h3]
  show (if ds.length < 1000000 then _ else none) = _
  rw [if_pos hl]
theorem ev_sub {n : Int} {q : Nat} (h : ma τ μ = some (.cell i, μ1)) (h2 : mb τ μ1 = some (.int n, μ2)) (h3 : μ2[i]? = some (.lst ds)) (h4 : ixN ds.length n = some q) : subG ma mb d τ μ = some (τ, μ2.set i (.lst (ds.set q d))) := by
  unfold subG
  rw [h, Option.bind_some, h2, Option.bind_some]
  show (match μ2[i]? with
    | some (.lst ds) => (ixN ds.length n).bind fun x => some (τ, μ2.set i (.lst (ds.set x d)))
    | _ => none) = _
  rw [h3]
  show ((ixN ds.length n).bind fun x => _) = _
  rw [h4]; rfl
theorem ev_aug {b : MB} (h0 : τ[i]?.join = some x) (h : ma τ μ = some (y, μ1)) (h2 : b x y μ1 = some (z, μ2)) (hs : SetF τ i z τ1) : augO i ma b τ μ = some (.nx τ1 μ2) := by
  unfold augO
  rw [h0, Option.bind_some, h, Option.bind_some, h2, ← hs.eq]; rfl
theorem ev_par {i j : Nat} {τ2 : Fr} (h : fa τ μ = some ([x, y], μ1)) (h1 : SetF τ i x τ1) (h2 : SetF τ1 j y τ2) : parO i j fa τ μ = some (.nx τ2 μ1) := by unfold parO; rw [h, ← h2.eq, ← h1.eq]; rfl
theorem ev_tupG {n : Nat} {gs : MGs} {q : Fr × Sto} (hl : ds.length = n) (h : gs ds τ μ = some q) : tupG n gs (.tup ds) τ μ = some q := by
  show (if ds.length = n then gs ds τ μ else none) = _
  rw [if_pos hl]; exact h
theorem ev_consG {gs : MGs} {q : Fr × Sto} (h : g d τ μ = some (τ1, μ1)) (h2 : gs ds τ1 μ1 = some q) : consG g gs (d :: ds) τ μ = some q := by
  show (g d τ μ).bind _ = _
  rw [h]; exact h2
theorem ev_nilG : nilG [] τ μ = some (τ, μ) := rfl
theorem powOk_of {i j : Int} (h0 : 0 ≤ j) (h1 : j ≤ 10000) (h2 : i.natAbs < 10 ^ 200) : PowOk i j := ⟨h0, h1, Nat.lt_of_lt_of_le h2 bigN_ge⟩
theorem divOk_of {i j : Int} (h0 : 0 < j) (h2 : j.natAbs < 10 ^ 200) : DivOk i j := ⟨h0, Nat.lt_of_lt_of_le h2 bigN_ge⟩
theorem mulOk_l {i j : Int} (h : i.natAbs < 2 ^ 64) : MulOk i j := .inl h
theorem mulOk_r {i j : Int} (h : j.natAbs < 2 ^ 64) : MulOk i j := .inr (.inl h)
/-! walks -/
theorem ev_for {mi : MI} {s : Src} (h : mi τ μ = some (s, μ1)) (h2 : loopO s.2 s.1 g b s.1 τ μ1 = some o) : forO mi g b τ μ = some o := by unfold forO; rw [h]; exact h2
theorem ev_src {s : Src} (h : ma τ μ = some (x, μ1)) (h2 : src μ1 x = some s) : srcO ma τ μ = some (s, μ1) := by unfold srcO; rw [h, Option.bind_some, h2]; rfl
theorem ev_rng1 {j : Int} (h : fa τ μ = some ([.int j], μ1)) (hj : -(2 ^ 62) ≤ j ∧ j < 2 ^ 62) : rng1O fa τ μ = some ((rangeD 0 j.toNat, none), μ1) := by
  unfold rng1O; rw [h, Option.bind_some]
  show (if _ then _ else _) = _
  rw [if_pos hj]
theorem ev_rng2 {i j : Int} (h : fa τ μ = some ([.int i, .int j], μ1)) (hj : (-(2 ^ 62) ≤ i ∧ i < 2 ^ 62) ∧ -(2 ^ 62) ≤ j ∧ j < 2 ^ 62) : rng2O fa τ μ = some ((rangeD i (j - i).toNat, none), μ1) := by
  unfold rng2O; rw [h, Option.bind_some]
  show (if _ then _ else _) = _
  rw [if_pos hj]
theorem ev_enum (h : fa τ μ = some ([.lst ds], μ1)) : enumO fa τ μ = some ((enumD 0 ds, none), μ1) := by unfold enumO; rw [h]; rfl
theorem ev_comp {mi : MI} {s : Src} {tt : MT} {vs : List Nat} {rs : List D} (h : mi τ μ = some (s, μ1)) (h2 : lcO s.2 s.1 g tt ma (wipeT τ vs) s.1 μ1 = some (rs, μ2)) (hl : rs.length ≤ 1000000) : compF mi g tt ma vs τ μ = some (rs, μ2) := by
  unfold compF
  rw [h, Option.bind_some, h2, Option.bind_some, if_pos hl]
theorem lc_map {g : MG} {e : ME} {j : Wat} {all : List D} {h : D → D} (hk : chk j all μ) : ∀ {ds : List D}, (∀ d ∈ ds, ∃ τ1, g d τ μ = some (τ1, μ) ∧ e τ1 μ = some (h d, μ)) → lcO j all g yesO e τ ds μ = some (ds.map h, μ)
  | [], _ => by unfold lcO; rw [if_pos hk]; rfl
  | d :: ds, q => by
    obtain ⟨τ1, h1, h2⟩ := q d List.mem_cons_self
    have ih := lc_map (ds := ds) hk fun x m => q x (List.mem_cons_of_mem _ m)
    unfold lcO
    rw [if_pos hk, h1, Option.bind_some]
    show ((e τ1 μ).bind fun y => (lcO j all g yesO e τ ds y.2).bind fun r => some (y.1 :: r.1, r.2)) = _
    rw [h2, Option.bind_some]
    show ((lcO j all g yesO e τ ds μ).bind fun r => some (h d :: r.1, r.2)) = _
    rw [ih]
    rfl
/-- as lc_map, over what stands for things of another kind -/
theorem lc_mapE {α : Type} {en : α → D} {g : MG} {e : ME} {j : Wat} {all : List D} {h : α → D} (hk : chk j all μ) : ∀ {L : List α}, (∀ x ∈ L, ∃ τ1, g (en x) τ μ = some (τ1, μ) ∧ e τ1 μ = some (h x, μ)) → lcO j all g yesO e τ (L.map en) μ = some (L.map h, μ)
  | [], _ => by rw [List.map_nil]; unfold lcO; rw [if_pos hk]; rfl
  | d :: ds, q => by
    obtain ⟨τ1, h1, h2⟩ := q d List.mem_cons_self
    have ih := lc_mapE (L := ds) hk fun x m => q x (List.mem_cons_of_mem _ m)
    rw [List.map_cons]
    unfold lcO
    rw [if_pos hk, h1, Option.bind_some]
    show ((e τ1 μ).bind fun y => (lcO j all g yesO e τ (ds.map en) y.2).bind fun r => some (y.1 :: r.1, r.2)) = _
    rw [h2, Option.bind_some]
    show ((lcO j all g yesO e τ (ds.map en) μ).bind fun r => some (h d :: r.1, r.2)) = _
    rw [ih]
    rfl
/-- a loop that goes on to its end -/
theorem loop_inv {α : Type} {en : α → D} {j : Wat} {all : List D} (I : Nat → Fr → Sto → Prop) : ∀ {L : List α} {k : Nat} {τ : Fr} {μ : Sto}, I k τ μ → (∀ i τ μ, I i τ μ → chk j all μ) → (∀ i x τ μ, I (k + i) τ μ → L[i]? = some x → ∃ τ1 μ1 τ2 μ2, g (en x) τ μ = some (τ1, μ1) ∧ b τ1 μ1 = some (.nx τ2 μ2) ∧ I (k + i + 1) τ2 μ2) →
    ∃ τ' μ', loopO j all g b (L.map en) τ μ = some (.nx τ' μ') ∧ I (k + L.length) τ' μ'
  | [], k, τ, μ, h0, hc, _ => ⟨τ, μ, by rw [List.map_nil]; unfold loopO; exact if_pos (hc _ _ _ h0), h0⟩
  | x :: L, k, τ, μ, h0, hc, hs => by
    obtain ⟨τ1, μ1, τ2, μ2, e1, e2, i2⟩ := hs 0 x τ μ h0 rfl
    obtain ⟨τ', μ', e3, i3⟩ := loop_inv (L := L) (k := k + 1) I i2 hc fun i y τ μ hi hy => by
      have e : k + 1 + i = k + (i + 1) := by omega
      rw [e] at hi ⊢
      exact hs (i + 1) y τ μ hi (by rw [List.getElem?_cons_succ]; exact hy)
    refine ⟨τ', μ', ?_, by rw [List.length_cons]; rw [show k + (L.length + 1) = k + 1 + L.length from by omega]; exact i3⟩
    rw [List.map_cons]
    unfold loopO
    rw [if_pos (hc _ _ _ h0), e1, Option.bind_some]
    show ((b τ1 μ1).bind fun o => _) = _
    rw [e2]
    exact e3
theorem ex_step {P : Fr → Sto → Prop} {τ2 : Fr} {d : D} (h : g d τ μ = some (τ1, μ1)) (h2 : b τ1 μ1 = some (.nx τ2 μ2)) (h3 : P τ2 μ2) : ∃ τ1 μ1 τ2 μ2, g d τ μ = some (τ1, μ1) ∧ b τ1 μ1 = some (.nx τ2 μ2) ∧ P τ2 μ2 := ⟨_, _, _, _, h, h2, h3⟩
theorem ex_elt {e : ME} {d : D} (h : g d τ μ = some (τ1, μ)) (h2 : e τ1 μ = some (x, μ)) : ∃ τ1, g d τ μ = some (τ1, μ) ∧ e τ1 μ = some (x, μ) := ⟨_, h, h2⟩
/-! a def's result -/
inductive Fram : Nat → List D → Fr → Prop where
  | nil : Fram 0 [] []
  | arg {n : Nat} {d : D} {ds : List D} {τ : Fr} (h : Fram n ds τ) : Fram (n + 1) (d :: ds) (some d :: τ)
  | loc {n : Nat} {τ : Fr} (h : Fram n [] τ) : Fram (n + 1) [] (none :: τ)
theorem Fram.eq {n : Nat} {ds : List D} {τ : Fr} (h : Fram n ds τ) : ds.map some ++ List.replicate (n - ds.length) none = τ := by
  induction h with
  | nil => rfl
  | @arg n d ds τ h ih =>
    rw [List.map_cons, List.cons_append, List.length_cons, Nat.add_sub_add_right, ih]
  | @loc n τ h ih =>
    rw [List.map_nil, List.nil_append, List.length_nil, Nat.sub_zero] at ih ⊢
    rw [List.replicate_succ, ih]
theorem ev_def {np n : Nat} {d : D} {τ0 : Fr} (hn : ds.length = np) (hf : Fram n ds τ0) (h : b τ0 μ = some (.rt d μ1)) (h2 : trimO μ d μ1 = some r) : defO np n b ds μ = some r := by
  unfold defO
  rw [if_pos hn, ← hn, hf.eq, h]
  exact h2
theorem ev_defN {np n : Nat} {τ0 : Fr} (hn : ds.length = np) (hf : Fram n ds τ0) (h : b τ0 μ = some (.nx τ1 μ1)) (h2 : trimO μ .non μ1 = some r) : defO np n b ds μ = some r := by
  unfold defO
  rw [if_pos hn, ← hn, hf.eq, h]
  exact h2
theorem trim_same {d : D} (h : μ1.length = μ.length) : trimO μ d μ1 = some (d, μ1) := if_pos h
theorem trim_dead {d : D} {n : Nat} (hd : d.lt μ.length) : trimO μ d (μ ++ List.replicate n .dead) = some (d, μ) := by
  unfold trimO
  by_cases h0 : (μ ++ List.replicate n Cell.dead).length = μ.length
  · have h1 : n = 0 := by rw [List.length_append, List.length_replicate] at h0; omega
    subst h1
    rw [if_pos h0]
    simp
  · rw [if_neg h0, if_pos ⟨fun x m => by rw [List.drop_left] at m; exact (List.mem_replicate.mp m).2, hd, fun i x hi e => .inl (by rw [List.getElem?_append_left hi] at e; exact e)⟩, List.take_left]
theorem trim_dead1 {d : D} (hd : d.lt μ.length) : trimO μ d (μ ++ [.dead]) = some (d, μ) := trim_dead (n := 1) hd
theorem trim_set {d : D} {n q : Nat} {c : Cell} (hd : d.lt μ.length) (hc : c.lt μ.length) : trimO μ d (μ.set q c ++ List.replicate n .dead) = some (d, μ.set q c) := by
  unfold trimO
  by_cases h0 : (μ.set q c ++ List.replicate n Cell.dead).length = μ.length
  · have h1 : n = 0 := by rw [List.length_append, List.length_replicate, List.length_set] at h0; omega
    subst h1
    rw [if_pos h0]
    simp
  · have l : (μ.set q c).length = μ.length := List.length_set
    have t : TrimOk μ d (μ.set q c ++ List.replicate n .dead) := by
      refine ⟨fun x m => by rw [← l, List.drop_left] at m; exact (List.mem_replicate.mp m).2, hd, fun i x hi e => ?_⟩
      rw [List.getElem?_append_left (by rw [l]; exact hi)] at e
      by_cases hq : q = i
      · subst hq
        rw [List.getElem?_set_self hi] at e
        cases e
        exact .inr hc
      · rw [List.getElem?_set_ne hq] at e
        exact .inl e
    rw [if_neg h0, if_pos t]
    congr 2
    rw [← l, List.take_left]
theorem last_at {c : Cell} : (μ ++ [c])[μ.length]? = some c := by rw [List.getElem?_append_right (Nat.le_refl _), Nat.sub_self]; rfl
theorem last_set {c c' : Cell} : (μ ++ [c]).set μ.length c' = μ ++ [c'] := by
  rw [List.set_append_right _ _ (Nat.le_refl _), Nat.sub_self]; rfl
theorem frz_last {ds : List D} : frz1 (.cell μ.length) (μ ++ [.lst ds]) = (.lst ds, μ ++ [.dead]) := by
  unfold frz1
  dsimp only
  rw [last_at, last_set]
end
end Z

set_option Elab.async false
set_option linter.all false
set_option maxRecDepth 100000
set_option maxHeartbeats 4000000
namespace Z
open PySem PySem.Spec L2
open PyProof.Rows hiding St
section
variable {μ : Sto} {d : D} {ds : List D}
theorem asL_src {μ : Sto} {d : D} {ds : List D} (h : asL μ d = some ds) : ∃ j, src μ d = some (ds, j) ∧ chk j ds μ := by
  unfold asL at h
  cases d with
  | lst ds' => cases h; exact ⟨none, rfl, trivial⟩
  | cell i =>
    dsimp only at h
    cases h1 : μ[i]? with
    | none => rw [h1] at h; cases h
    | some x =>
      rw [h1] at h
      cases x with
      | lst ds' =>
        cases h
        refine ⟨some (i, false), ?_, h1⟩
        show (match μ[i]? with
          | some (.lst ds) => some (ds, some (i, false))
          | _ => none) = _
        rw [h1]
      | _ => cases h
  | _ => cases h
theorem asQ_of {μ : Sto} {d : D} {ds : List D} (h : asL μ d = some ds) : asQ μ d = some ds := by
  cases d with
  | tup _ => cases h
  | scr _ => cases h
  | ktp _ => cases h
  | _ => exact h
theorem asS_of {μ : Sto} {d : D} {ds : List D} (h : asL μ d = some ds) : asS μ d = some ds := by
  cases d with
  | scr _ => cases h
  | _ => exact h
def Sm (i : Int) : Prop := i.natAbs < 10 ^ 200
theorem Sm.mul {i j : Int} (h : Sm i) (k : Sm j) : MulOk i j := .inr (.inr ⟨Nat.lt_of_lt_of_le h bigM_ge, Nat.lt_of_lt_of_le k bigM_ge⟩)
abbrev pairD (q : Int × Int) : D := .tup [.int q.1, .int q.2]
abbrev levD (L : List (Int × Int)) : D := .lst (L.map pairD)
theorem kd_list (h : asL μ d = some ds) : kd μ d = some (.ty "list") := by
  unfold asL at h
  cases d with
  | lst _ => rfl
  | cell i =>
    dsimp only at h
    unfold kd
    dsimp only
    cases h1 : μ[i]? with
    | none => rw [h1] at h; cases h
    | some x => rw [h1] at h; cases x <;> first | rfl | cases h
  | _ => cases h
theorem asL_app {cs : Sto} (h : asL μ d = some ds) : asL (μ ++ cs) d = some ds := by
  unfold asL at h ⊢
  cases d with
  | cell i =>
    dsimp only at h ⊢
    cases h1 : μ[i]? with
    | none => rw [h1] at h; cases h
    | some x =>
      rw [List.getElem?_append_left (List.getElem?_eq_some_iff.mp h1).1, h1]
      rw [h1] at h
      exact h
  | _ => exact h
theorem chk_app {j : Wat} {cs : Sto} (h : chk j ds μ) : chk j ds (μ ++ cs) := by
  have main : ∀ {i : Nat} {c : Cell}, μ[i]? = some c → (μ ++ cs)[i]? = some c := fun h => by rw [List.getElem?_append_left (List.getElem?_eq_some_iff.mp h).1]; exact h
  cases j with
  | none => trivial
  | some q =>
    obtain ⟨i, b⟩ := q
    cases b with
    | false => exact main h
    | true =>
      obtain ⟨xs, h1, h2⟩ := h
      exact ⟨xs, main h1, h2⟩
theorem asL_last : asL (μ ++ [.lst ds]) (.cell μ.length) = some ds := by
  show (match (μ ++ [Cell.lst ds])[μ.length]? with
    | some (.lst ds) => some ds
    | _ => none) = _
  rw [last_at]
theorem asQ_last : asQ (μ ++ [.lst ds]) (.cell μ.length) = some ds := asL_last
theorem atI_last {α : Type} {xs : List α} {x : α} : atI (xs ++ [x]) (-1) = some x := by
  unfold atI
  rw [ixN_last, Option.bind_some, List.getElem?_append_right (Nat.le_refl _), Nat.sub_self]
  rfl
theorem set_last {α : Type} {xs : List α} {x y : α} : (xs ++ [x]).set xs.length y = xs ++ [y] := by
  rw [List.set_append_right _ _ (Nat.le_refl _), Nat.sub_self]; rfl
theorem trim_live {d : D} {c : Cell} (h : c ≠ .dead) : trimO μ d (μ ++ [c]) = some (d, μ ++ [c]) := by
  unfold trimO
  rw [if_neg (by rw [List.length_append]; simp), if_neg]
  rintro ⟨h1, _⟩
  rw [List.drop_left] at h1
  exact h (h1 c List.mem_cons_self)
theorem set_lt {r : Nat} {c : Cell} (h : μ[r]? = some c) : r < μ.length := (List.getElem?_eq_some_iff.mp h).1
theorem trim_len {d : D} {μ1 : Sto} (h : μ1.length = μ.length) : trimO μ d μ1 = some (d, μ1) := trim_same h
theorem loop_cons {j : Wat} {all : List D} {g : MG} {b : MS} {d : D} {ds : List D} {τ τ1 τ2 : Fr} {μ1 μ2 : Sto} {o : Ox} (hk : chk j all μ) (h : g d τ μ = some (τ1, μ1)) (h2 : b τ1 μ1 = some (.nx τ2 μ2)) (h3 : loopO j all g b ds τ2 μ2 = some o) : loopO j all g b (d :: ds) τ μ = some o := by
  unfold loopO
  rw [if_pos hk, h, Option.bind_some]
  show ((b τ1 μ1).bind fun o => _) = _
  rw [h2]
  exact h3
theorem loop_nil {j : Wat} {all : List D} {g : MG} {b : MS} {τ : Fr} (hk : chk j all μ) : loopO j all g b [] τ μ = some (.nx τ μ) := by
  unfold loopO
  rw [if_pos hk]
theorem set_set {r : Nat} {c c' : Cell} : (μ.set r c).set r c' = μ.set r c' := List.set_set ..
theorem toPys_map {α : Type} {f : α → D} {g : α → PyData} (h : ∀ x, toPy (f x) = some (g x)) : ∀ L : List α, toPys (L.map f) = some (L.map g)
  | [] => rfl
  | x :: L => by
    rw [List.map_cons, toPys, h, Option.bind_some, toPys_map h L]
    rfl
def datP (q : Int × Int) : PyData := .tuple [.int q.1, .int q.2]
def datL (L : List (Int × Int)) : PyData := .list (L.map datP)
def datLL (LL : List (List (Int × Int))) : PyData := .list (LL.map datL)
theorem toPy_P (q : Int × Int) : toPy (pairD q) = some (datP q) := rfl
theorem toPy_L (L : List (Int × Int)) : toPy (levD L) = some (datL L) := by
  unfold levD datL
  rw [toPy, toPys_map toPy_P]
  rfl
theorem toPy_I (i : Int) : toPy (.int i) = some (.int i) := rfl
theorem eqv_P (p q : Int × Int) : PyData.eqv (datP p) (datP q) = decide (p = q) := by
  obtain ⟨a, b⟩ := p
  obtain ⟨c, d⟩ := q
  unfold datP
  by_cases h1 : a = c <;> by_cases h2 : b = d <;> simp [PyData.eqv, PyData.eqvAll, h1, h2]
theorem eqv_all {α : Type} [DecidableEq α] {f : α → PyData} (hf : ∀ x y, PyData.eqv (f x) (f y) = decide (x = y)) : ∀ xs ys : List α, PyData.eqvAll (xs.map f) (ys.map f) = decide (xs = ys)
  | [], [] => by simp [PyData.eqvAll]
  | [], _ :: _ => by simp [PyData.eqvAll]
  | _ :: _, [] => by simp [PyData.eqvAll]
  | x :: xs, y :: ys => by
    rw [List.map_cons, List.map_cons, PyData.eqvAll, eqv_all hf xs ys, hf]
    by_cases h : x = y
    · subst h
      simp
    · simp [h]
theorem eqv_L (p q : List (Int × Int)) : PyData.eqv (datL p) (datL q) = decide (p = q) := by
  unfold datL
  rw [PyData.eqv]
  exact eqv_all eqv_P p q
theorem can_all0 {α : Type} {f : α → PyData} {n : Nat} (hf : ∀ x, (f x).canLay0 = true ∧ (f x).depth ≤ n) : ∀ xs : List α, PyData.canLayAll0 (xs.map f) = true ∧ PyData.depthAll (xs.map f) ≤ n
  | [] => ⟨rfl, by simp [PyData.depthAll]⟩
  | x :: xs => by
    obtain ⟨h1, h2⟩ := hf x
    obtain ⟨h3, h4⟩ := can_all0 hf xs
    refine ⟨by simp [PyData.canLayAll0, h1, h3], ?_⟩
    rw [List.map_cons, PyData.depthAll]
    omega
theorem can_P (q : Int × Int) : (datP q).canLay0 = true ∧ (datP q).depth ≤ 3 := by
  unfold datP
  constructor
  · simp [PyData.canLay0, PyData.canLayAll0]
  · simp [PyData.depth, PyData.depthAll]
theorem can_L (L : List (Int × Int)) : (datL L).canLay0 = true ∧ (datL L).depth ≤ 4 := by
  obtain ⟨h1, h2⟩ := can_all0 can_P L
  unfold datL
  constructor
  · rw [PyData.canLay0]; exact h1
  · rw [PyData.depth]; omega
theorem shaped_L (L : List (Int × Int)) : SeqAt.shaped (datL L) = true := by
  obtain ⟨h1, h2⟩ := can_L L
  unfold SeqAt.shaped
  rw [Bool.and_eq_true]
  exact ⟨h1, by rw [decide_eq_true_iff]; omega⟩
theorem while_inv {t : MT} {b : MS} (I : Nat → Fr → Sto → Prop) (J : Fr → Sto → Prop) (hs : ∀ n τ μ, I n τ μ → ∃ k μ1, t τ μ = some (k, μ1) ∧ (k = false → J τ μ1) ∧ (k = true → ∃ n' τ2 μ2, b τ μ1 = some (.nx τ2 μ2) ∧ n' < n ∧ I n' τ2 μ2)) : ∀ {n : Nat} {τ : Fr} {μ : Sto}, I n τ μ → ∃ τ' μ', whileO t b τ μ = some (.nx τ' μ') ∧ J τ' μ' := by
  have main : ∀ m n τ μ, n < m → I n τ μ → ∃ τ' μ', whileN t b m τ μ = some (.nx τ' μ') ∧ J τ' μ' := by
    intro m
    induction m with
    | zero => intro n τ μ h; omega
    | succ m ih =>
      intro n τ μ h i
      obtain ⟨k, μ1, e1, h0, h1⟩ := hs n τ μ i
      rw [whileN]
      dsimp only
      rw [e1, Option.bind_some]
      cases k with
      | false => exact ⟨τ, μ1, rfl, h0 rfl⟩
      | true =>
        obtain ⟨n', τ2, μ2, e2, l, i2⟩ := h1 rfl
        obtain ⟨τ', μ', e3, j⟩ := ih n' τ2 μ2 (by omega) i2
        refine ⟨τ', μ', ?_, j⟩
        dsimp only
        rw [if_pos rfl, e2]
        exact e3
  intro n τ μ i
  obtain ⟨τ', μ', e, j⟩ := main (n + 1) n τ μ (Nat.lt_succ_self _) i
  exact ⟨τ', μ', whileO_of e, j⟩
theorem lc_inv {α : Type} {en : α → D} {g : MG} {e : ME} {j : Wat} {all : List D} {τ : Fr} (I : Nat → List D → Sto → Prop) (hc : ∀ i ys μ, I i ys μ → chk j all μ) : ∀ {L : List α} {k : Nat} {zs : List D} {μ : Sto}, I k zs μ →
    (∀ i x ys μ, I (k + i) ys μ → L[i]? = some x → ∃ τ1 μ1 y μ2, g (en x) τ μ = some (τ1, μ1) ∧ e τ1 μ1 = some (y, μ2) ∧ I (k + i + 1) (ys ++ [y]) μ2) →
    ∃ ys μ', lcO j all g yesO e τ (L.map en) μ = some (ys, μ') ∧ I (k + L.length) (zs ++ ys) μ'
  | [], k, zs, μ, h0, _ => ⟨[], μ, by rw [List.map_nil]; unfold lcO; rw [if_pos (hc _ _ _ h0)], by rw [List.append_nil]; exact h0⟩
  | x :: L, k, zs, μ, h0, hs => by
    obtain ⟨τ1, μ1, y, μ2, e1, e2, i2⟩ := hs 0 x zs μ h0 rfl
    obtain ⟨ys, μ', e3, i3⟩ := lc_inv I hc (L := L) (k := k + 1) i2 fun i x ys μ hi hx => by
      have e : k + 1 + i = k + (i + 1) := by omega
      rw [e] at hi ⊢
      exact hs (i + 1) x ys μ hi (by rw [List.getElem?_cons_succ]; exact hx)
    refine ⟨y :: ys, μ', ?_, by rw [List.length_cons, show k + (L.length + 1) = k + 1 + L.length from by omega, List.append_cons]; exact i3⟩
    rw [List.map_cons]
    unfold lcO
    rw [if_pos (hc _ _ _ h0), e1, Option.bind_some]
    show ((e τ1 μ1).bind fun y => (lcO j all g yesO e τ (L.map en) y.2).bind fun r => some (y.1 :: r.1, r.2)) = _
    rw [e2, Option.bind_some]
    show ((lcO j all g yesO e τ (L.map en) μ2).bind fun r => some (y :: r.1, r.2)) = _
    rw [e3]
    rfl
structure Keep (r : Nat) (μ μ' : Sto) : Prop where
  len : μ.length ≤ μ'.length
  same : ∀ i, i < μ.length → i ≠ r → μ'[i]? = μ[i]?
theorem Keep.refl {r : Nat} : Keep r μ μ := ⟨Nat.le_refl _, fun _ _ _ => rfl⟩
theorem Keep.trans {r : Nat} {μ1 μ2 : Sto} (h : Keep r μ μ1) (h2 : Keep r μ1 μ2) : Keep r μ μ2 := ⟨Nat.le_trans h.len h2.len, fun i hi hr => by rw [h2.same i (Nat.lt_of_lt_of_le hi h.len) hr, h.same i hi hr]⟩
theorem Keep.at_ {r i : Nat} {c : Cell} {μ1 : Sto} (h : Keep r μ μ1) (ha : μ[i]? = some c) (hr : i ≠ r) : μ1[i]? = some c := by rw [h.same i (List.getElem?_eq_some_iff.mp ha).1 hr]; exact ha
theorem Keep.app {r : Nat} {μ1 cs : Sto} (h : Keep r μ μ1) : Keep r μ (μ1 ++ cs) := ⟨by rw [List.length_append]; have := h.len; omega, fun i hi hr => by rw [List.getElem?_append_left (Nat.lt_of_lt_of_le hi h.len)]; exact h.same i hi hr⟩
theorem Keep.set {r i : Nat} {c : Cell} {μ1 : Sto} (h : Keep r μ μ1) (hi : μ.length ≤ i ∨ i = r) : Keep r μ (μ1.set i c) := ⟨by rw [List.length_set]; exact h.len, fun k hk hr => by
  rw [List.getElem?_set_ne (by rcases hi with hi | hi <;> omega)]
  exact h.same k hk hr⟩
theorem at_last {cs : Sto} {i : Nat} {c : Cell} (h : μ[i]? = some c) : (μ ++ cs)[i]? = some c := by rw [List.getElem?_append_left (List.getElem?_eq_some_iff.mp h).1]; exact h
theorem asQ_at {i : Nat} (h : μ[i]? = some (.lst ds)) : asQ μ (.cell i) = some ds := by
  unfold asQ asL
  dsimp only
  rw [h]
theorem asL_at {i : Nat} (h : μ[i]? = some (.lst ds)) : asL μ (.cell i) = some ds := by
  unfold asL
  dsimp only
  rw [h]
theorem frz_at {i : Nat} (h : μ[i]? = some (.lst ds)) : frz1 (.cell i) μ = (.lst ds, μ.set i .dead) := by
  unfold frz1
  dsimp only
  rw [h]
def Shw (k n : Nat) (d : PyData) : Prop := d.showable = true ∧ d.hasDict = false ∧ d.depth ≤ k ∧ d.shown.length ≤ n
theorem Shw.mono {k n k' n' : Nat} {d : PyData} (h : Shw k n d) (hk : k ≤ k') (hn : n ≤ n') : Shw k' n' d := ⟨h.1, h.2.1, Nat.le_trans h.2.2.1 hk, Nat.le_trans h.2.2.2 hn⟩
theorem Shw.ok {k n : Nat} {d : PyData} (h : Shw k n d) (hk : k ≤ 60) (hn : n ≤ 16000000) : ShowOk d := ⟨h.1, h.2.1, Nat.le_trans h.2.2.1 hk, Nat.le_trans h.2.2.2 hn⟩
theorem sm_log {i : Int} (h : Sm i) : i.natAbs.log2 < 1000 := by
  unfold Sm at h
  by_cases h0 : i.natAbs = 0
  · rw [h0]; decide +kernel
  · rw [Nat.log2_lt h0]
    exact Nat.lt_of_lt_of_le h (by decide +kernel)
theorem shw_int {i : Int} (h : Sm i) : Shw 1 1001 (.int i) := by
  have hn := sm_log h
  refine ⟨?_, ?_, ?_, ?_⟩
  · simp [PyData.showable]; omega
  · simp [PyData.hasDict]
  · simp [PyData.depth]
  · have h3 := int_text_length_le (k := 1000) (by decide) hn
    show (Str.ofString (toString i)).length ≤ 1001
    rw [PySem.ofString_length]
    exact h3
theorem shw_all {k n : Nat} : ∀ xs : List PyData, (∀ x ∈ xs, Shw k n x) → PyData.showableAll xs = true ∧ PyData.hasDictAll xs = false ∧ PyData.depthAll xs ≤ k ∧ ((PyData.shownAll xs).map (·.length)).sum ≤ n * xs.length ∧ (PyData.shownAll xs).length = xs.length
  | [], _ => ⟨by simp [PyData.showableAll], by simp [PyData.hasDictAll], by simp [PyData.depthAll], Nat.zero_le _, rfl⟩
  | x :: xs, h => by
    obtain ⟨a1, a2, a3, a4, a5⟩ := shw_all xs fun y hy => h y (List.mem_cons_of_mem _ hy)
    obtain ⟨b1, b2, b3, b4⟩ := h x List.mem_cons_self
    refine ⟨by simp [PyData.showableAll, a1, b1], by simp [PyData.hasDictAll, a2, b2], ?_, ?_, ?_⟩
    · rw [PyData.depthAll]; omega
    · show (x.shown.length :: (PyData.shownAll xs).map (·.length)).sum ≤ n * (xs.length + 1)
      rw [List.sum_cons, Nat.mul_succ]
      omega
    · show (PyData.shownAll xs).length + 1 = xs.length + 1
      omega
theorem shw_list {k n l : Nat} {xs : List PyData} (h : ∀ x ∈ xs, Shw k n x) (hl : xs.length ≤ l) : Shw (k + 1) ((n + 2) * l + 3) (.list xs) := by
  obtain ⟨a1, a2, a3, a4, a5⟩ := shw_all xs h
  refine ⟨by rw [PyData.showable]; exact a1, by rw [PyData.hasDict]; exact a2, by rw [PyData.depth]; omega, ?_⟩
  have e : (PyData.list xs).shown = listText (PyData.shownAll xs) := by rw [PyData.shown]
  have h3 := listText_len_le (PyData.shownAll xs)
  rw [e]
  have h4 : (n + 2) * xs.length ≤ (n + 2) * l := Nat.mul_le_mul_left _ hl
  have h5 : (n + 2) * xs.length = n * xs.length + 2 * xs.length := Nat.add_mul ..
  rw [a5] at h3
  omega
theorem shw_tuple {k n l : Nat} {xs : List PyData} (h : ∀ x ∈ xs, Shw k n x) (hl : xs.length ≤ l) : Shw (k + 1) ((n + 2) * l + 3) (.tuple xs) := by
  obtain ⟨a1, a2, a3, a4, a5⟩ := shw_all xs h
  refine ⟨by rw [PyData.showable]; exact a1, by rw [PyData.hasDict]; exact a2, by rw [PyData.depth]; omega, ?_⟩
  have e : (PyData.tuple xs).shown = tupleText (PyData.shownAll xs) := by rw [PyData.shown]
  have h3 := tupleText_len_le (PyData.shownAll xs)
  rw [e]
  have h4 : (n + 2) * xs.length ≤ (n + 2) * l := Nat.mul_le_mul_left _ hl
  have h5 : (n + 2) * xs.length = n * xs.length + 2 * xs.length := Nat.add_mul ..
  rw [a5] at h3
  omega
theorem shw_ints {ns : List Int} (h : ∀ i ∈ ns, Sm i) {l : Nat} (hl : ns.length ≤ l) : Shw 2 (1003 * l + 3) (.list (ns.map PyData.int)) := by
  refine shw_list (k := 1) (n := 1001) (fun x hx => ?_) (by rw [List.length_map]; exact hl)
  obtain ⟨i, hi, rfl⟩ := List.mem_map.mp hx
  exact shw_int (h i hi)
theorem shw_P {q : Int × Int} (h1 : Sm q.1) (h2 : Sm q.2) : Shw 2 2009 (datP q) := by
  refine shw_tuple (k := 1) (n := 1001) (l := 2) (fun x hx => ?_) (Nat.le_refl _)
  rcases List.mem_cons.mp hx with rfl | hx
  · exact shw_int h1
  · rw [List.mem_singleton.mp hx]; exact shw_int h2
theorem toPyT_tree {y : PyData} (h : toPy d = some y) : toPyT μ d = some y := by
  unfold toPyT
  cases d with
  | cell i => cases h
  | _ => exact h
theorem toPysT_tree : ∀ {ds : List D} {ys : List PyData}, toPys ds = some ys → toPysT μ ds = some ys
  | [], _, h => h
  | d :: ds, ys, h => by
    rw [toPys] at h
    obtain ⟨x, e1, e2⟩ := Option.bind_eq_some_iff.mp h
    obtain ⟨zs, e3, e4⟩ := Option.map_eq_some_iff.mp e2
    rw [toPysT, toPyT_tree e1, Option.bind_some, toPysT_tree e3]
    rw [← e4]
    rfl
theorem ev_repr {ds : List D} {ys : List PyData} (h : toPys ds = some ys) (hs : ShowOk (.list ys)) : reprL [.lst ds] μ = some (.str (PyData.list ys).shown, μ) := by
  have e : refDat μ (.lst ds) = some (.list ys) := by
    unfold refDat
    dsimp only
    rw [show asL μ (.lst ds) = some ds from rfl, Option.bind_some, toPysT_tree h]
    rfl
  show (refDat μ (.lst ds)).bind _ = _
  rw [e, Option.bind_some, if_pos hs]
theorem ev_reprI {i : Int} (h : Sm i) : reprL [.int i] μ = some (.str (toString i), μ) := by
  show (if i.natAbs.log2 < 1920 then _ else none) = _
  rw [if_pos (Nat.lt_trans (sm_log h) (by decide))]
theorem trim_any {μ μ1 : Sto} {d : D} : ∃ μ', trimO μ d μ1 = some (d, μ') := by
  unfold trimO
  split
  · exact ⟨_, rfl⟩
  · split
    · exact ⟨_, rfl⟩
    · exact ⟨_, rfl⟩
theorem src_app {cs : Sto} {j : Wat} (h1 : src μ d = some (ds, j)) : src (μ ++ cs) d = some (ds, j) := by
  unfold src at *
  cases d with
  | cell i =>
    dsimp only at *
    cases q : μ[i]? with
    | none => rw [q] at h1; cases h1
    | some z => rw [List.getElem?_append_left (List.getElem?_eq_some_iff.mp q).1]; exact h1
  | _ => exact h1
theorem lc_none {g : MG} {tt : MT} {e : ME} {j : Wat} {all : List D} {τ : Fr} (hk : chk j all μ) : ∀ {ds : List D}, (∀ d ∈ ds, ∃ τ1, g d τ μ = some (τ1, μ) ∧ tt τ1 μ = some (false, μ)) → lcO j all g tt e τ ds μ = some ([], μ)
  | [], _ => by unfold lcO; rw [if_pos hk]
  | d :: ds, q => by
    obtain ⟨τ1, h1, h2⟩ := q d List.mem_cons_self
    have ih := lc_none (e := e) hk (ds := ds) fun x hx => q x (List.mem_cons_of_mem _ hx)
    unfold lcO
    rw [if_pos hk, h1, Option.bind_some]
    dsimp only
    rw [h2, Option.bind_some, if_neg (fun z => nomatch z)]
    exact ih
theorem ev_clear {τ : Fr} {mo : ME} {i : Nat} {μ1 : Sto} (h : mo τ μ = some (.cell i, μ1)) (h2 : μ1[i]? = some (.lst ds)) : clearO mo τ μ = some (.non, μ1.set i (.lst [])) := by
  unfold clearO
  rw [h, Option.bind_some]
  dsimp only
  rw [h2]
theorem ev_pop {τ : Fr} {mo : ME} {i : Nat} {y : D} {μ1 : Sto} (h : mo τ μ = some (.cell i, μ1)) (h2 : μ1[i]? = some (.lst ds)) (h3 : ds[ds.length - 1]? = some y) : popO mo τ μ = some (y, μ1.set i (.lst ds.dropLast)) := by
  unfold popO
  rw [h, Option.bind_some]
  dsimp only
  rw [h2]
  dsimp only
  rw [h3]
  rfl
theorem trim_cases {μ1 : Sto} {d : D} (h : μ.length ≤ μ1.length) : ∃ μ', trimO μ d μ1 = some (d, μ') ∧ μ.length ≤ μ'.length ∧ ∀ i, i < μ.length → μ'[i]? = μ1[i]? := by
  unfold trimO
  by_cases h1 : μ1.length = μ.length
  · rw [if_pos h1]
    exact ⟨_, rfl, h, fun _ _ => rfl⟩
  · rw [if_neg h1]
    by_cases h2 : TrimOk μ d μ1
    · rw [if_pos h2]
      exact ⟨_, rfl, by rw [List.length_take]; omega, fun i hi => by rw [List.getElem?_take_of_lt hi]⟩
    · rw [if_neg h2]
      exact ⟨_, rfl, h, fun _ _ => rfl⟩
theorem Keep.trim {r : Nat} {μ1 : Sto} {d : D} (h : Keep r μ μ1) : ∃ μ', trimO μ d μ1 = some (d, μ') ∧ Keep r μ μ' ∧ (r < μ.length → μ'[r]? = μ1[r]?) := by
  obtain ⟨μ', e, l, s⟩ := trim_cases (d := d) h.len
  exact ⟨μ', e, ⟨l, fun i hi hr => by rw [s i hi]; exact h.same i hi hr⟩, fun hr => s r hr⟩
end
end Z

set_option Elab.async false
set_option linter.all false
set_option maxRecDepth 100000
set_option maxHeartbeats 4000000
namespace Z
open PySem PySem.Spec L2
open PyProof.Rows hiding St
section
variable {μ : Sto} {d : D} {ds : List D}
/-! ### the numbers from a on -/
def upto (a : Int) : Nat → List Int
  | 0 => []
  | n + 1 => a :: upto (a + 1) n
theorem upto_len : ∀ (n : Nat) (a : Int), (upto a n).length = n
  | 0, _ => rfl
  | n + 1, a => by rw [upto, List.length_cons, upto_len n]
theorem upto_snoc : ∀ (n : Nat) (a : Int), upto a (n + 1) = upto a n ++ [a + n]
  | 0, a => by rw [upto, upto, upto]; simp
  | n + 1, a => by
    rw [upto, upto_snoc n, upto, List.cons_append, show a + 1 + (n : Int) = a + ((n + 1 : Nat) : Int) from by omega]
theorem upto_at : ∀ (n : Nat) (a : Int) (i : Nat), i < n → (upto a n)[i]? = some (a + i)
  | 0, _, _, h => by omega
  | n + 1, a, 0, _ => by rw [upto]; simp
  | n + 1, a, i + 1, h => by rw [upto, List.getElem?_cons_succ, upto_at n (a + 1) i (by omega)]; congr 1; omega
theorem upto_get {n : Nat} {a x : Int} {i : Nat} (h : (upto a n)[i]? = some x) : i < n ∧ x = a + i := by
  have l : i < n := by rw [← upto_len n a]; exact (List.getElem?_eq_some_iff.mp h).1
  rw [upto_at n a i l] at h
  exact ⟨l, by cases h; rfl⟩
theorem mem_upto : ∀ (n : Nat) (a : Int) {x : Int}, x ∈ upto a n ↔ a ≤ x ∧ x < a + n
  | 0, a, x => by
    rw [upto]
    constructor
    · intro h; cases h
    · omega
  | n + 1, a, x => by
    rw [upto, List.mem_cons, mem_upto n]
    constructor <;> omega
theorem upto_take {n i : Nat} {a : Int} (h : i ≤ n) : (upto a n).take i = upto a i := by
  apply List.ext_getElem?
  intro k
  by_cases hk : k < i
  · rw [List.getElem?_take_of_lt hk, upto_at n a k (by omega), upto_at i a k hk]
  · rw [List.getElem?_eq_none (by rw [List.length_take]; omega), List.getElem?_eq_none (by rw [upto_len]; omega)]
theorem rangeD_upto (lo : Int) (n : Nat) : rangeD lo n = (upto lo n).map D.int := by
  unfold rangeD
  apply List.ext_getElem?
  intro k
  rw [List.getElem?_map, List.getElem?_map]
  by_cases hk : k < n
  · rw [List.getElem?_range hk, upto_at n lo k hk]
    rfl
  · rw [List.getElem?_eq_none (by rw [List.length_range]; omega), List.getElem?_eq_none (by rw [upto_len]; omega)]
    rfl
theorem filter_upto (A B : Int) : ∀ (n : Nat) (a : Int), (upto a n).filter (fun s => decide (A ≤ s) && decide (s ≤ B)) = upto (max a A) ((min (a + n) (B + 1) - max a A).toNat)
  | 0, a => by
    rw [show (min (a + (0 : Nat)) (B + 1) - max a A).toNat = 0 from by omega]
    rfl
  | n + 1, a => by
    rw [upto, List.filter_cons, filter_upto A B n (a + 1)]
    by_cases h1 : A ≤ a
    · by_cases h2 : a ≤ B
      · rw [decide_eq_true h1, decide_eq_true h2, Bool.and_self, if_pos rfl, show max (a + 1) A = a + 1 from by omega, show max a A = a from by omega,
          show (min (a + ((n + 1 : Nat) : Int)) (B + 1) - a).toNat = (min (a + 1 + n) (B + 1) - (a + 1)).toNat + 1 from by omega, upto]
      · rw [decide_eq_false h2, Bool.and_false, if_neg (fun z => nomatch z), show (min (a + 1 + n) (B + 1) - max (a + 1) A).toNat = 0 from by omega, show (min (a + ((n + 1 : Nat) : Int)) (B + 1) - max a A).toNat = 0 from by omega, upto, upto]
    · rw [decide_eq_false h1, Bool.false_and, if_neg (fun z => nomatch z), show max (a + 1) A = max a A from by omega, show a + 1 + (n : Int) = a + ((n + 1 : Nat) : Int) from by omega]
theorem filterMap_filter {α β : Type} {f : α → Option β} {p : α → Bool} : ∀ {l : List α}, (∀ x ∈ l, p x = false → f x = none) → l.filterMap f = (l.filter p).filterMap f
  | [], _ => rfl
  | x :: l, h => by
    have ih := filterMap_filter (l := l) fun y m => h y (List.mem_cons_of_mem _ m)
    rw [List.filter_cons]
    cases hp : p x with
    | true =>
      rw [if_pos rfl, List.filterMap_cons, List.filterMap_cons, ih]
    | false =>
      rw [if_neg (fun z => nomatch z), List.filterMap_cons, h x List.mem_cons_self hp, ih]
/-! ### equality of data -/
theorem ev_eqT {x y : D} {a b : PyData} {neg : Bool} (h0 : toV x = none) (h1 : toPyT μ x = some a) (h2 : toPyT μ y = some b) (h3 : SeqAt.shaped a = true) (h4 : SeqAt.shaped b = true) : eqB neg x y μ = some (.bl (neg ^^ PyData.eqv a b), μ) := by
  have e3 : eqV2 x y = none := by
    unfold eqV2
    rw [h0]
  have e4 : eqD2 μ x y = some (PyData.eqv a b) := by
    unfold eqD2
    rw [h1, h2]
    dsimp only
    rw [h3, h4, Bool.and_self, if_pos rfl]
  unfold eqB
  rw [e3]
  dsimp only
  rw [e4]
  rfl
theorem shaped_of {α : Type} {f : α → PyData} (hf : ∀ x, (f x).canLay0 = true ∧ (f x).depth ≤ 8) (L : List α) : SeqAt.shaped (.list (L.map f)) = true := by
  obtain ⟨h1, h2⟩ := can_all0 hf L
  unfold SeqAt.shaped
  rw [Bool.and_eq_true]
  constructor
  · rw [PyData.canLay0]; exact h1
  · rw [decide_eq_true_iff, PyData.depth]; omega
theorem toPyT_list {α : Type} {f : α → D} {g : α → PyData} (h : ∀ x, toPy (f x) = some (g x)) {L : List α} (hd : asL μ d = some (L.map f)) : toPyT μ d = some (.list (L.map g)) := by
  cases d with
  | lst ds =>
    cases hd
    show toPy _ = _
    rw [toPy, toPys_map h]
    rfl
  | cell i =>
    show (asL μ (.cell i)).bind _ = _
    rw [hd, Option.bind_some, toPys_map h]
    rfl
  | _ => cases hd
theorem asL_toV (h : asL μ d = some ds) : toV d = none := by
  cases d with
  | lst _ => rfl
  | cell _ => rfl
  | _ => cases h
/-- lists of things of one kind are compared -/
theorem ev_eqL {α : Type} [DecidableEq α] {f : α → D} {g : α → PyData} (h : ∀ x, toPy (f x) = some (g x)) (hf : ∀ x, (g x).canLay0 = true ∧ (g x).depth ≤ 8) (he : ∀ x y, PyData.eqv (g x) (g y) = decide (x = y)) {x y : D} {L M : List α} {neg : Bool}
    (hx : asL μ x = some (L.map f)) (hy : asL μ y = some (M.map f)) : eqB neg x y μ = some (.bl (neg ^^ decide (L = M)), μ) := by
  rw [ev_eqT (asL_toV hx) (toPyT_list h hx) (toPyT_list h hy) (shaped_of hf L) (shaped_of hf M), PyData.eqv, eqv_all he]
theorem can_I (i : Int) : (PyData.int i).canLay0 = true ∧ (PyData.int i).depth ≤ 8 := by
  constructor
  · simp [PyData.canLay0]
  · simp [PyData.depth]
theorem eqv_I (i j : Int) : PyData.eqv (.int i) (.int j) = decide (i = j) := by
  by_cases h : i = j <;> simp [PyData.eqv, h]
theorem ev_eqLI {x y : D} {L M : List Int} {neg : Bool} (hx : asL μ x = some (L.map D.int)) (hy : asL μ y = some (M.map D.int)) : eqB neg x y μ = some (.bl (neg ^^ decide (L = M)), μ) := ev_eqL (g := PyData.int) (fun _ => rfl) can_I eqv_I hx hy
abbrev tripD (q : Int × Int × Int) : D := .tup [.int q.1, .int q.2.1, .int q.2.2]
def datT (q : Int × Int × Int) : PyData := .tuple [.int q.1, .int q.2.1, .int q.2.2]
theorem can_T (q : Int × Int × Int) : (datT q).canLay0 = true ∧ (datT q).depth ≤ 8 := by
  unfold datT
  constructor
  · simp [PyData.canLay0, PyData.canLayAll0]
  · simp [PyData.depth, PyData.depthAll]
theorem eqv_T (p q : Int × Int × Int) : PyData.eqv (datT p) (datT q) = decide (p = q) := by
  obtain ⟨a, b, c⟩ := p
  obtain ⟨a', b', c'⟩ := q
  unfold datT
  by_cases h1 : a = a' <;> by_cases h2 : b = b' <;> by_cases h3 : c = c' <;> simp [PyData.eqv, PyData.eqvAll, h1, h2, h3]
theorem ev_eqLT {x y : D} {L M : List (Int × Int × Int)} {neg : Bool} (hx : asL μ x = some (L.map tripD)) (hy : asL μ y = some (M.map tripD)) : eqB neg x y μ = some (.bl (neg ^^ decide (L = M)), μ) := ev_eqL (g := datT) (fun _ => rfl) can_T eqv_T hx hy
/-! ### walks -/
theorem enumD_map {α : Type} {f : α → D} : ∀ {L : List α} {k : Nat}, enumD k (L.map f) = (L.zipIdx k).map fun x => .tup [.int (x.2 : Nat), f x.1]
  | [], k => rfl
  | x :: L, k => by
    rw [List.map_cons, enumD, enumD_map (L := L), List.zipIdx_cons, List.map_cons]
theorem ev_enumA {fa : MF} {τ : Fr} {μ1 : Sto} (h : fa τ μ = some ([d], μ1)) (hd : asL μ1 d = some ds) : ∃ j, enumO fa τ μ = some ((enumD 0 ds, j), μ1) ∧ chk j (enumD 0 ds) μ1 := by
  unfold enumO
  rw [h, Option.bind_some]
  cases d with
  | lst ds' =>
    cases hd
    exact ⟨none, rfl, trivial⟩
  | cell i =>
    unfold asL at hd
    dsimp only at hd
    cases h1 : μ1[i]? with
    | none => rw [h1] at hd; cases hd
    | some x =>
      rw [h1] at hd
      cases x with
      | lst ds' =>
        cases hd
        refine ⟨some (i, true), ?_, ds, h1, rfl⟩
        show (match μ1[i]? with
          | some (.lst ds) => some (ds, some (i, false))
          | _ => none).bind _ = _
        rw [h1]
        rfl
      | _ => cases hd
  | _ => cases hd
theorem lc_filt {α : Type} {en : α → D} {g : MG} {tt : MT} {e : ME} {τ : Fr} {j : Wat} {all : List D} {p : α → Bool} {h : α → D} (hk : chk j all μ) : ∀ {L : List α}, (∀ x ∈ L, ∃ τ1, g (en x) τ μ = some (τ1, μ) ∧ tt τ1 μ = some (p x, μ) ∧ (p x = true → e τ1 μ = some (h x, μ))) → lcO j all g tt e τ (L.map en) μ = some ((L.filter p).map h, μ)
  | [], _ => by rw [List.map_nil]; unfold lcO; rw [if_pos hk]; rfl
  | x :: L, q => by
    obtain ⟨τ1, h1, h2, h3⟩ := q x List.mem_cons_self
    have ih := lc_filt (L := L) hk fun y m => q y (List.mem_cons_of_mem _ m)
    rw [List.map_cons]
    unfold lcO
    rw [if_pos hk, h1, Option.bind_some]
    dsimp only
    rw [h2, Option.bind_some]
    dsimp only
    rw [List.filter_cons]
    cases hp : p x with
    | true =>
      rw [if_pos rfl, if_pos rfl, h3 hp, Option.bind_some]
      dsimp only
      rw [ih]
      rfl
    | false =>
      rw [if_neg (fun z => nomatch z), if_neg (fun z => nomatch z)]
      exact ih
theorem ev_maxs {x : D} {ns : List Int} (h : asS μ x = some (ns.map D.int)) (hn : ns ≠ []) : maxsL [x] μ = some (.int (maxI ns), μ) := by
  show (asS μ x).bind _ = _
  rw [h, Option.bind_some, intsD_map, Option.bind_some, if_pos hn]
theorem ev_mins {x : D} {ns : List Int} (h : asS μ x = some (ns.map D.int)) (hn : ns ≠ []) : minsL [x] μ = some (.int (minI ns), μ) := by
  show (asS μ x).bind _ = _
  rw [h, Option.bind_some, intsD_map, Option.bind_some, if_pos hn]
theorem ev_rgF2 {ma mb : ME} {τ : Fr} {μ1 μ2 : Sto} {i j : Int} (h : ma τ μ = some (.int i, μ1)) (h2 : mb τ μ1 = some (.int j, μ2)) (hi : -(2 ^ 62) ≤ i ∧ i < 2 ^ 62) (hj : -(2 ^ 62) ≤ j ∧ j < 2 ^ 62) (hl : (j - i).toNat ≤ 2 ^ 24) : rgF2 ma mb τ μ = some ((upto i (j - i).toNat).map D.int, μ2) := by
  unfold rgF2
  rw [h, Option.bind_some]
  dsimp only
  rw [h2, Option.bind_some]
  dsimp only
  rw [if_pos ⟨hi, hj, hl⟩, rangeD_upto]
theorem ev_rgF1 {ma : ME} {τ : Fr} {μ1 : Sto} {j : Int} (h : ma τ μ = some (.int j, μ1)) (hj : -(2 ^ 62) ≤ j ∧ j < 2 ^ 62) (hl : j.toNat ≤ 2 ^ 24) : rgF1 ma τ μ = some ((upto 0 j.toNat).map D.int, μ1) := by
  unfold rgF1
  rw [h, Option.bind_some]
  dsimp only
  rw [if_pos ⟨hj, hl⟩, rangeD_upto]
theorem ev_star {m : ME} {mr : MF} {τ : Fr} {μ1 μ2 : Sto} {x : D} {xs ys : List D} (h : m τ μ = some (x, μ1)) (h2 : asQ μ1 x = some xs) (h3 : mr τ μ1 = some (ys, μ2)) : starA m mr τ μ = some (xs ++ ys, μ2) := by
  unfold starA
  rw [h, Option.bind_some]
  dsimp only
  rw [h2, Option.bind_some, h3]
  rfl
theorem ev_par3 {i j l : Nat} {fa : MF} {τ τ1 τ2 τ3 : Fr} {μ1 : Sto} {x y z : D} (h : fa τ μ = some ([x, y, z], μ1)) (h1 : SetF τ i x τ1) (h2 : SetF τ1 j y τ2) (h3 : SetF τ2 l z τ3) : par3O i j l fa τ μ = some (.nx τ3 μ1) := by unfold par3O; rw [h, ← h3.eq, ← h2.eq, ← h1.eq]; rfl
end
end Z

set_option Elab.async false
set_option linter.all false
set_option maxRecDepth 100000
set_option maxHeartbeats 4000000
namespace k40
open PySem PySem.Spec L2 Z
open PyProof.Rows hiding St
def top (i : Nat) : Stmt := PySem.Challenge.pw_leafsplits_k40_great_seen.main.body.getD i (.Pass ⟨0, 0, 0, 0⟩)
abbrev s_is_between : Stmt := top 1
theorem sc_is_between : FnScope ["value", "least", "most"] ["value", "least", "most"] (defScope s_is_between) := ⟨rfl, rfl, rfl, by decide +kernel, rfl, by decide +kernel, by decide +kernel⟩
abbrev s_is_list : Stmt := top 2
theorem sc_is_list : FnScope ["value", "least", "most"] ["value", "least", "most"] (defScope s_is_list) := ⟨rfl, rfl, rfl, by decide +kernel, rfl, by decide +kernel, by decide +kernel⟩
abbrev s_is_pair : Stmt := top 3
theorem sc_is_pair : FnScope ["value"] ["value"] (defScope s_is_pair) := ⟨rfl, rfl, rfl, by decide +kernel, rfl, by decide +kernel, by decide +kernel⟩
abbrev s_is_word : Stmt := top 4
theorem sc_is_word : FnScope ["value", "words"] ["value", "words"] (defScope s_is_word) := ⟨rfl, rfl, rfl, by decide +kernel, rfl, by decide +kernel, by decide +kernel⟩
abbrev s_InvalidSeen_init : Stmt := inClass (top 7) 0
theorem sc_InvalidSeen_init : FnScope ["self", "item"] ["self", "item"] (defScope s_InvalidSeen_init) := ⟨rfl, rfl, rfl, by decide +kernel, rfl, by decide +kernel, by decide +kernel⟩
abbrev s_is_kind : Stmt := top 13
theorem sc_is_kind : FnScope ["kind"] ["kind"] (defScope s_is_kind) := ⟨rfl, rfl, rfl, by decide +kernel, rfl, by decide +kernel, by decide +kernel⟩
abbrev s_check_kind : Stmt := top 14
theorem sc_check_kind : FnScope ["kind"] ["kind"] (defScope s_check_kind) := ⟨rfl, rfl, rfl, by decide +kernel, rfl, by decide +kernel, by decide +kernel⟩
abbrev s_is_sight : Stmt := top 20
theorem sc_is_sight : FnScope ["item"] ["item"] (defScope s_is_sight) := ⟨rfl, rfl, rfl, by decide +kernel, rfl, by decide +kernel, by decide +kernel⟩
abbrev s_check_seen : Stmt := top 21
theorem sc_check_seen : FnScope ["seen", "at", "item"] ["seen"] (defScope s_check_seen) := ⟨rfl, rfl, rfl, by decide +kernel, rfl, by decide +kernel, by decide +kernel⟩
abbrev s_parts : Stmt := top 22
theorem sc_parts : FnScope ["leaf", "split", "least", "greatest", "entries", "leaves", "behind"] ["leaf", "split"] (defScope s_parts) := ⟨rfl, rfl, rfl, by decide +kernel, rfl, by decide +kernel, by decide +kernel⟩
abbrev s_fitting_rules : Stmt := top 23
theorem sc_fitting_rules : FnScope ["kind", "seen", "most", "split", "lowest", "highest", "found", "leaf", "least", "greatest", "parts", "entries", "leaves", "_"] ["kind", "seen", "most"] (defScope s_fitting_rules) := ⟨rfl, rfl, rfl, by decide +kernel, rfl, by decide +kernel, by decide +kernel⟩
abbrev s_law_bag : Stmt := top 25
theorem sc_law_bag : FnScope ["cell"] ["cell"] (defScope s_law_bag) := ⟨rfl, rfl, rfl, by decide +kernel, rfl, by decide +kernel, by decide +kernel⟩
abbrev s_law_pick : Stmt := top 26
theorem sc_law_pick : FnScope ["bag", "many", "told", "seed", "turn", "first", "second", "drawn"] ["bag", "many"] (defScope s_law_pick) := ⟨rfl, rfl, rfl, by decide +kernel, rfl, by decide +kernel, by decide +kernel⟩
abbrev s_law_part : Stmt := top 27
theorem sc_law_part : FnScope ["bag", "whole", "low"] ["bag", "whole"] (defScope s_law_part) := ⟨rfl, rfl, rfl, by decide +kernel, rfl, by decide +kernel, by decide +kernel⟩
abbrev s_law_fits : Stmt := top 28
theorem sc_law_fits : FnScope ["kind", "leaf", "stays", "seen", "step", "entries", "leaves", "due"] ["kind", "leaf", "stays", "seen"] (defScope s_law_fits) := ⟨rfl, rfl, rfl, by decide +kernel, rfl, by decide +kernel, by decide +kernel⟩
abbrev s_law_is_part : Stmt := top 29
theorem sc_law_is_part : FnScope ["leaf", "stays"] ["leaf", "stays"] (defScope s_law_is_part) := ⟨rfl, rfl, rfl, by decide +kernel, rfl, by decide +kernel, by decide +kernel⟩
abbrev s_law_row_right : Stmt := top 30
theorem sc_law_row_right : FnScope ["kind", "seen", "row", "leaf", "least", "greatest", "stays"] ["kind", "seen", "row"] (defScope s_law_row_right) := ⟨rfl, rfl, rfl, by decide +kernel, rfl, by decide +kernel, by decide +kernel⟩
abbrev s_law_lacks : Stmt := top 31
theorem sc_law_lacks : FnScope ["kind", "seen", "told", "leaf", "row", "stays"] ["kind", "seen", "told", "leaf"] (defScope s_law_lacks) := ⟨rfl, rfl, rfl, by decide +kernel, rfl, by decide +kernel, by decide +kernel⟩
abbrev s_law_right : Stmt := top 32
theorem sc_law_right : FnScope ["bag", "kind", "leaf", "stays", "seen", "turn", "entries", "step", "is_right", "at", "most", "told", "row", "leaves", "fits", "tried", "some"] ["bag", "kind"] (defScope s_law_right) := ⟨rfl, rfl, rfl, by decide +kernel, rfl, by decide +kernel, by decide +kernel⟩
abbrev s_law : Stmt := top 33
theorem sc_law : FnScope ["script", "cell", "bag", "kind"] ["script"] (defScope s_law) := ⟨rfl, rfl, rfl, by decide +kernel, rfl, by decide +kernel, by decide +kernel⟩
def d_is_between : He.DefD := ⟨("is_between", none), "is_between", "is_between", defArgs s_is_between, defBody s_is_between, defScope s_is_between, [], []⟩
def d_is_list : He.DefD := ⟨("is_list", none), "is_list", "is_list", defArgs s_is_list, defBody s_is_list, defScope s_is_list, [], []⟩
def d_is_pair : He.DefD := ⟨("is_pair", none), "is_pair", "is_pair", defArgs s_is_pair, defBody s_is_pair, defScope s_is_pair, [], []⟩
def d_is_word : He.DefD := ⟨("is_word", none), "is_word", "is_word", defArgs s_is_word, defBody s_is_word, defScope s_is_word, [], []⟩
def d_InvalidSeen_init : He.DefD := ⟨("InvalidSeen", some "__init__"), "__init__", "InvalidSeen.__init__", defArgs s_InvalidSeen_init, defBody s_InvalidSeen_init, defScope s_InvalidSeen_init, [], []⟩
def d_is_kind : He.DefD := ⟨("is_kind", none), "is_kind", "is_kind", defArgs s_is_kind, defBody s_is_kind, defScope s_is_kind, [], []⟩
def d_check_kind : He.DefD := ⟨("check_kind", none), "check_kind", "check_kind", defArgs s_check_kind, defBody s_check_kind, defScope s_check_kind, [], []⟩
def d_is_sight : He.DefD := ⟨("_is_sight", none), "_is_sight", "_is_sight", defArgs s_is_sight, defBody s_is_sight, defScope s_is_sight, [], []⟩
def d_check_seen : He.DefD := ⟨("_check_seen", none), "_check_seen", "_check_seen", defArgs s_check_seen, defBody s_check_seen, defScope s_check_seen, [], []⟩
def d_parts : He.DefD := ⟨("_parts", none), "_parts", "_parts", defArgs s_parts, defBody s_parts, defScope s_parts, [], []⟩
def d_fitting_rules : He.DefD := ⟨("fitting_rules", none), "fitting_rules", "fitting_rules", defArgs s_fitting_rules, defBody s_fitting_rules, defScope s_fitting_rules, [], []⟩
def d_law_bag : He.DefD := ⟨("_law_bag", none), "_law_bag", "_law_bag", defArgs s_law_bag, defBody s_law_bag, defScope s_law_bag, [], []⟩
def d_law_pick : He.DefD := ⟨("_law_pick", none), "_law_pick", "_law_pick", defArgs s_law_pick, defBody s_law_pick, defScope s_law_pick, [], []⟩
def d_law_part : He.DefD := ⟨("_law_part", none), "_law_part", "_law_part", defArgs s_law_part, defBody s_law_part, defScope s_law_part, [], []⟩
def d_law_fits : He.DefD := ⟨("_law_fits", none), "_law_fits", "_law_fits", defArgs s_law_fits, defBody s_law_fits, defScope s_law_fits, [], []⟩
def d_law_is_part : He.DefD := ⟨("_law_is_part", none), "_law_is_part", "_law_is_part", defArgs s_law_is_part, defBody s_law_is_part, defScope s_law_is_part, [], []⟩
def d_law_row_right : He.DefD := ⟨("_law_row_right", none), "_law_row_right", "_law_row_right", defArgs s_law_row_right, defBody s_law_row_right, defScope s_law_row_right, [], []⟩
def d_law_lacks : He.DefD := ⟨("_law_lacks", none), "_law_lacks", "_law_lacks", defArgs s_law_lacks, defBody s_law_lacks, defScope s_law_lacks, [], []⟩
def d_law_right : He.DefD := ⟨("_law_right", none), "_law_right", "_law_right", defArgs s_law_right, defBody s_law_right, defScope s_law_right, [], []⟩
def d_law : He.DefD := ⟨("law", none), "law", "law", defArgs s_law, defBody s_law, defScope s_law, [], []⟩
def fn : List He.DefD := [d_is_between, d_is_list, d_is_pair, d_is_word, d_InvalidSeen_init, d_is_kind, d_check_kind, d_is_sight, d_check_seen, d_parts, d_fitting_rules, d_law_bag, d_law_pick, d_law_part, d_law_fits, d_law_is_part, d_law_row_right, d_law_lacks, d_law_right, d_law]
def gs : List Z.GetD := []
def fa : List He.Fa := [.glo "is_between", .glo "is_list", .glo "is_pair", .glo "is_word", .glo "is_kind", .glo "check_kind", .glo "_is_sight", .glo "_check_seen", .glo "_parts", .glo "fitting_rules", .glo "_law_bag", .glo "_law_pick", .glo "_law_part", .glo "_law_fits", .glo "_law_is_part", .glo "_law_row_right", .glo "_law_lacks", .glo "_law_right", .glo "law", .glo "PageError", .glo "InvalidSeen", .glo "InvalidKind", .glo "InvalidNumber", .free "max", .free "min", .free "int", .free "bool", .free "list", .free "tuple", .free "str", .free "len", .free "isinstance", .free "range", .free "enumerate", .free "sorted", .free "set", .int "MOST_SEEN" (20), .int "MOST_COUNT" (1000000000000000000000000000000), .int "LEAST_ASKED" (3), .int "MOST_ASKED" (1000), .str "UP" (PySem.Str.ofString "up"), .glo "KINDS"]
def fielded : List (Str × Str) := []
def excs : List Str := []
def exA (K : PySem.W.Frag) : Bool := (excs.all fun x => Z.xcB K (He.ga K x)) &&
  (fielded.all fun q => Z.oexB K (He.ga K q.1) && (decide (PySem.W.findIn K (.ref (He.ga K q.1)) "__init__" = some (some (.ref (He.ma K (He.ga K q.1) "__init__")))) && (decide (PySem.W.typeIn K (.ref (He.ma K (He.ga K q.1) "__init__")) = some (.type "function")) && decide (PySem.W.findIn K (.ref (He.ga K q.1)) q.2 = some none))))
def CS0 : List Str := []
def exB (K : PySem.W.Frag) : Bool := tbB K CS0
def exT (K : PySem.W.Frag) : Bool := true && Z.ktB K (He.ga K "KINDS") [PySem.Str.ofString "up", PySem.Str.ofString "down"]
def ex (K : PySem.W.Frag) : Bool := (exA K && exT K) && exB K
abbrev R : PySem.W.OpenRow := PySem.W.OpenLaw.row PySem.Challenge.rw_leafsplits_k40_great_seen
def adr : List Addr := [3, 6, 4, 21, 28, 35, 42, 52, 72, 84, 96, 99, 106, 113, 120, 127, 134, 139, 146, 153, 160, 167, 174, 181, 186, 191, 198, 0, 20, 27, 34, 41, 51, 71, 83, 95, 105, 112, 119, 126, 133, 138, 145, 152, 159, 166, 173, 180, 185, 190, 197, 50, 53, 69, 70, 82, 94, 135, 136, 137, 182, 183, 184, 187, 188, 189, 68]
abbrev hk : PySem.W.Hook := Z.hookH adr fa fn gs ex
def ob (s : PySem.W.SharedT) : Z.AlG := Z.obsH adr fa fn gs ex (HandSHeadRun.getT s)
theorem ob_eq (s : PySem.W.SharedT) : ob s = hk.obs s.abs := Z.obsH_eq (HandSHeadRun.getT_eq s)

def loose0 : List Str := ["is_between", "is_list", "is_pair", "is_word", "PageError", "InvalidSeen", "InvalidKind", "InvalidNumber", "UP", "KINDS", "is_kind", "check_kind", "MOST_SEEN", "MOST_COUNT", "LEAST_ASKED", "MOST_ASKED", "_is_sight", "_check_seen", "_parts", "fitting_rules", "_law_bag", "_law_pick", "_law_part", "_law_fits", "_law_is_part", "_law_row_right", "_law_lacks", "_law_right"]
def loose : List Str := loose0
theorem run (w : World) : HandSHeadRun.RunEq R (PySem.W.view R.prog [33]) hk ob 20000 loose w := by
  intro os
  kernel_rfl
structure Txt (K : PySem.W.Frag) (mg : Str → Option Value) : Prop where
  max : mg "max" = none
  min : mg "min" = none
  int : mg "int" = none
  bool : mg "bool" = none
  list : mg "list" = none
  tuple : mg "tuple" = none
  str : mg "str" = none
  len : mg "len" = none
  isinstance : mg "isinstance" = none
  range : mg "range" = none
  enumerate : mg "enumerate" = none
  sorted : mg "sorted" = none
  set : mg "set" = none
  c_PageError : mg "PageError" = some (.ref (He.ga K "PageError"))
  c_InvalidSeen : mg "InvalidSeen" = some (.ref (He.ga K "InvalidSeen"))
  c_InvalidKind : mg "InvalidKind" = some (.ref (He.ga K "InvalidKind"))
  c_InvalidNumber : mg "InvalidNumber" = some (.ref (He.ga K "InvalidNumber"))
  k_MOST_SEEN : ∃ t, mg "MOST_SEEN" = some (.int (20) t)
  k_MOST_COUNT : ∃ t, mg "MOST_COUNT" = some (.int (1000000000000000000000000000000) t)
  k_LEAST_ASKED : ∃ t, mg "LEAST_ASKED" = some (.int (3) t)
  k_MOST_ASKED : ∃ t, mg "MOST_ASKED" = some (.int (1000) t)
  s_UP : ∃ t, mg "UP" = some (.str (PySem.Str.ofString "up") t)
  q_KINDS : mg "KINDS" = some (.ref (He.ga K "KINDS"))
  t_KINDS : ∀ H : Hp, SqT K H (He.ga K "KINDS") (List.map V.str [PySem.Str.ofString "up", PySem.Str.ofString "down"])
theorem txt_ok {K : PySem.W.Frag} {mg : Str → Option Value} {h : Heap} {w : World} (X : K.In h) (G : h.Ns mainGlobals mg) (c : Z.SaysG fa fn gs ex w h K) : Txt K mg where
  max := He.free_ok X G (c.x.t.d.fact 23 (f := .free "max") rfl)
  min := He.free_ok X G (c.x.t.d.fact 24 (f := .free "min") rfl)
  int := He.free_ok X G (c.x.t.d.fact 25 (f := .free "int") rfl)
  bool := He.free_ok X G (c.x.t.d.fact 26 (f := .free "bool") rfl)
  list := He.free_ok X G (c.x.t.d.fact 27 (f := .free "list") rfl)
  tuple := He.free_ok X G (c.x.t.d.fact 28 (f := .free "tuple") rfl)
  str := He.free_ok X G (c.x.t.d.fact 29 (f := .free "str") rfl)
  len := He.free_ok X G (c.x.t.d.fact 30 (f := .free "len") rfl)
  isinstance := He.free_ok X G (c.x.t.d.fact 31 (f := .free "isinstance") rfl)
  range := He.free_ok X G (c.x.t.d.fact 32 (f := .free "range") rfl)
  enumerate := He.free_ok X G (c.x.t.d.fact 33 (f := .free "enumerate") rfl)
  sorted := He.free_ok X G (c.x.t.d.fact 34 (f := .free "sorted") rfl)
  set := He.free_ok X G (c.x.t.d.fact 35 (f := .free "set") rfl)
  c_PageError := He.glo_ok X G (c.x.t.d.fact 19 (f := .glo "PageError") rfl)
  c_InvalidSeen := He.glo_ok X G (c.x.t.d.fact 20 (f := .glo "InvalidSeen") rfl)
  c_InvalidKind := He.glo_ok X G (c.x.t.d.fact 21 (f := .glo "InvalidKind") rfl)
  c_InvalidNumber := He.glo_ok X G (c.x.t.d.fact 22 (f := .glo "InvalidNumber") rfl)
  k_MOST_SEEN := He.int_ok X G (c.x.t.d.fact 36 (f := .int "MOST_SEEN" (20)) rfl)
  k_MOST_COUNT := He.int_ok X G (c.x.t.d.fact 37 (f := .int "MOST_COUNT" (1000000000000000000000000000000)) rfl)
  k_LEAST_ASKED := He.int_ok X G (c.x.t.d.fact 38 (f := .int "LEAST_ASKED" (3)) rfl)
  k_MOST_ASKED := He.int_ok X G (c.x.t.d.fact 39 (f := .int "MOST_ASKED" (1000)) rfl)
  s_UP := He.str_ok X G (c.x.t.d.fact 40 (f := .str "UP" (PySem.Str.ofString "up")) rfl)
  q_KINDS := He.glo_ok X G (c.x.t.d.fact 41 (f := .glo "KINDS") rfl)
  t_KINDS := Z.ktB_ok (He.ba (He.ba (He.ba c.x.more).1).2).2
theorem D_is_between {K : PySem.W.Frag} {mg : Str → Option Value} {h : Heap} {w : World} (X : K.In h) (G : h.Ns mainGlobals mg) (c : Z.SaysG fa fn gs ex w h K) : Def K mg "is_between" s_is_between := by
  obtain ⟨fd, F⟩ := c.x.t.d.def_ 0 (d := d_is_between) rfl
  exact ⟨_, fd, F, He.glo_ok X G (c.x.t.d.fact 0 (f := .glo "is_between") rfl)⟩
theorem D_is_list {K : PySem.W.Frag} {mg : Str → Option Value} {h : Heap} {w : World} (X : K.In h) (G : h.Ns mainGlobals mg) (c : Z.SaysG fa fn gs ex w h K) : Def K mg "is_list" s_is_list := by
  obtain ⟨fd, F⟩ := c.x.t.d.def_ 1 (d := d_is_list) rfl
  exact ⟨_, fd, F, He.glo_ok X G (c.x.t.d.fact 1 (f := .glo "is_list") rfl)⟩
theorem D_is_pair {K : PySem.W.Frag} {mg : Str → Option Value} {h : Heap} {w : World} (X : K.In h) (G : h.Ns mainGlobals mg) (c : Z.SaysG fa fn gs ex w h K) : Def K mg "is_pair" s_is_pair := by
  obtain ⟨fd, F⟩ := c.x.t.d.def_ 2 (d := d_is_pair) rfl
  exact ⟨_, fd, F, He.glo_ok X G (c.x.t.d.fact 2 (f := .glo "is_pair") rfl)⟩
theorem D_is_word {K : PySem.W.Frag} {mg : Str → Option Value} {h : Heap} {w : World} (X : K.In h) (G : h.Ns mainGlobals mg) (c : Z.SaysG fa fn gs ex w h K) : Def K mg "is_word" s_is_word := by
  obtain ⟨fd, F⟩ := c.x.t.d.def_ 3 (d := d_is_word) rfl
  exact ⟨_, fd, F, He.glo_ok X G (c.x.t.d.fact 3 (f := .glo "is_word") rfl)⟩
theorem D_is_kind {K : PySem.W.Frag} {mg : Str → Option Value} {h : Heap} {w : World} (X : K.In h) (G : h.Ns mainGlobals mg) (c : Z.SaysG fa fn gs ex w h K) : Def K mg "is_kind" s_is_kind := by
  obtain ⟨fd, F⟩ := c.x.t.d.def_ 5 (d := d_is_kind) rfl
  exact ⟨_, fd, F, He.glo_ok X G (c.x.t.d.fact 4 (f := .glo "is_kind") rfl)⟩
theorem D_check_kind {K : PySem.W.Frag} {mg : Str → Option Value} {h : Heap} {w : World} (X : K.In h) (G : h.Ns mainGlobals mg) (c : Z.SaysG fa fn gs ex w h K) : Def K mg "check_kind" s_check_kind := by
  obtain ⟨fd, F⟩ := c.x.t.d.def_ 6 (d := d_check_kind) rfl
  exact ⟨_, fd, F, He.glo_ok X G (c.x.t.d.fact 5 (f := .glo "check_kind") rfl)⟩
theorem D_is_sight {K : PySem.W.Frag} {mg : Str → Option Value} {h : Heap} {w : World} (X : K.In h) (G : h.Ns mainGlobals mg) (c : Z.SaysG fa fn gs ex w h K) : Def K mg "_is_sight" s_is_sight := by
  obtain ⟨fd, F⟩ := c.x.t.d.def_ 7 (d := d_is_sight) rfl
  exact ⟨_, fd, F, He.glo_ok X G (c.x.t.d.fact 6 (f := .glo "_is_sight") rfl)⟩
theorem D_check_seen {K : PySem.W.Frag} {mg : Str → Option Value} {h : Heap} {w : World} (X : K.In h) (G : h.Ns mainGlobals mg) (c : Z.SaysG fa fn gs ex w h K) : Def K mg "_check_seen" s_check_seen := by
  obtain ⟨fd, F⟩ := c.x.t.d.def_ 8 (d := d_check_seen) rfl
  exact ⟨_, fd, F, He.glo_ok X G (c.x.t.d.fact 7 (f := .glo "_check_seen") rfl)⟩
theorem D_parts {K : PySem.W.Frag} {mg : Str → Option Value} {h : Heap} {w : World} (X : K.In h) (G : h.Ns mainGlobals mg) (c : Z.SaysG fa fn gs ex w h K) : Def K mg "_parts" s_parts := by
  obtain ⟨fd, F⟩ := c.x.t.d.def_ 9 (d := d_parts) rfl
  exact ⟨_, fd, F, He.glo_ok X G (c.x.t.d.fact 8 (f := .glo "_parts") rfl)⟩
theorem D_fitting_rules {K : PySem.W.Frag} {mg : Str → Option Value} {h : Heap} {w : World} (X : K.In h) (G : h.Ns mainGlobals mg) (c : Z.SaysG fa fn gs ex w h K) : Def K mg "fitting_rules" s_fitting_rules := by
  obtain ⟨fd, F⟩ := c.x.t.d.def_ 10 (d := d_fitting_rules) rfl
  exact ⟨_, fd, F, He.glo_ok X G (c.x.t.d.fact 9 (f := .glo "fitting_rules") rfl)⟩
theorem D_law_bag {K : PySem.W.Frag} {mg : Str → Option Value} {h : Heap} {w : World} (X : K.In h) (G : h.Ns mainGlobals mg) (c : Z.SaysG fa fn gs ex w h K) : Def K mg "_law_bag" s_law_bag := by
  obtain ⟨fd, F⟩ := c.x.t.d.def_ 11 (d := d_law_bag) rfl
  exact ⟨_, fd, F, He.glo_ok X G (c.x.t.d.fact 10 (f := .glo "_law_bag") rfl)⟩
theorem D_law_pick {K : PySem.W.Frag} {mg : Str → Option Value} {h : Heap} {w : World} (X : K.In h) (G : h.Ns mainGlobals mg) (c : Z.SaysG fa fn gs ex w h K) : Def K mg "_law_pick" s_law_pick := by
  obtain ⟨fd, F⟩ := c.x.t.d.def_ 12 (d := d_law_pick) rfl
  exact ⟨_, fd, F, He.glo_ok X G (c.x.t.d.fact 11 (f := .glo "_law_pick") rfl)⟩
theorem D_law_part {K : PySem.W.Frag} {mg : Str → Option Value} {h : Heap} {w : World} (X : K.In h) (G : h.Ns mainGlobals mg) (c : Z.SaysG fa fn gs ex w h K) : Def K mg "_law_part" s_law_part := by
  obtain ⟨fd, F⟩ := c.x.t.d.def_ 13 (d := d_law_part) rfl
  exact ⟨_, fd, F, He.glo_ok X G (c.x.t.d.fact 12 (f := .glo "_law_part") rfl)⟩
theorem D_law_fits {K : PySem.W.Frag} {mg : Str → Option Value} {h : Heap} {w : World} (X : K.In h) (G : h.Ns mainGlobals mg) (c : Z.SaysG fa fn gs ex w h K) : Def K mg "_law_fits" s_law_fits := by
  obtain ⟨fd, F⟩ := c.x.t.d.def_ 14 (d := d_law_fits) rfl
  exact ⟨_, fd, F, He.glo_ok X G (c.x.t.d.fact 13 (f := .glo "_law_fits") rfl)⟩
theorem D_law_is_part {K : PySem.W.Frag} {mg : Str → Option Value} {h : Heap} {w : World} (X : K.In h) (G : h.Ns mainGlobals mg) (c : Z.SaysG fa fn gs ex w h K) : Def K mg "_law_is_part" s_law_is_part := by
  obtain ⟨fd, F⟩ := c.x.t.d.def_ 15 (d := d_law_is_part) rfl
  exact ⟨_, fd, F, He.glo_ok X G (c.x.t.d.fact 14 (f := .glo "_law_is_part") rfl)⟩
theorem D_law_row_right {K : PySem.W.Frag} {mg : Str → Option Value} {h : Heap} {w : World} (X : K.In h) (G : h.Ns mainGlobals mg) (c : Z.SaysG fa fn gs ex w h K) : Def K mg "_law_row_right" s_law_row_right := by
  obtain ⟨fd, F⟩ := c.x.t.d.def_ 16 (d := d_law_row_right) rfl
  exact ⟨_, fd, F, He.glo_ok X G (c.x.t.d.fact 15 (f := .glo "_law_row_right") rfl)⟩
theorem D_law_lacks {K : PySem.W.Frag} {mg : Str → Option Value} {h : Heap} {w : World} (X : K.In h) (G : h.Ns mainGlobals mg) (c : Z.SaysG fa fn gs ex w h K) : Def K mg "_law_lacks" s_law_lacks := by
  obtain ⟨fd, F⟩ := c.x.t.d.def_ 17 (d := d_law_lacks) rfl
  exact ⟨_, fd, F, He.glo_ok X G (c.x.t.d.fact 16 (f := .glo "_law_lacks") rfl)⟩
theorem D_law_right {K : PySem.W.Frag} {mg : Str → Option Value} {h : Heap} {w : World} (X : K.In h) (G : h.Ns mainGlobals mg) (c : Z.SaysG fa fn gs ex w h K) : Def K mg "_law_right" s_law_right := by
  obtain ⟨fd, F⟩ := c.x.t.d.def_ 18 (d := d_law_right) rfl
  exact ⟨_, fd, F, He.glo_ok X G (c.x.t.d.fact 17 (f := .glo "_law_right") rfl)⟩
theorem D_law {K : PySem.W.Frag} {mg : Str → Option Value} {h : Heap} {w : World} (X : K.In h) (G : h.Ns mainGlobals mg) (c : Z.SaysG fa fn gs ex w h K) : Def K mg "law" s_law := by
  obtain ⟨fd, F⟩ := c.x.t.d.def_ 19 (d := d_law) rfl
  exact ⟨_, fd, F, He.glo_ok X G (c.x.t.d.fact 18 (f := .glo "law") rfl)⟩
theorem exA_ok {K : PySem.W.Frag} {h : Heap} {w : World} (c : Z.SaysG fa fn gs ex w h K) : exA K = true := (He.ba (He.ba c.x.more).1).1
theorem exB_ok {K : PySem.W.Frag} {h : Heap} {w : World} (c : Z.SaysG fa fn gs ex w h K) : exB K = true := (He.ba c.x.more).2
theorem exc_ok {K : PySem.W.Frag} (c : exA K = true) (x : Str) (hx : x ∈ excs) : ExcC K (He.ga K x) := Z.xcB_ok (List.all_eq_true.mp (He.ba c).1 x hx)
end k40

set_option Elab.async false
set_option linter.all false
set_option maxRecDepth 100000
set_option maxHeartbeats 4000000

namespace M
open PySem PySem.Spec L2 Z
open PyProof.Rows hiding St

def CS : List Str := []
def tb : Kd → Kd → Option Bool := tbOf CS
noncomputable def B_law_bag : MS := (retO (valO (lstO (consA (cbO maxL (consA (cO (.int (0))) (consA (opO (intB fun i j => .int (i - j)) (varO 0) (opO (intC PowOk fun i j => .int (i ^ j.toNat)) (cO (.int (10))) (cO (.int (18))))) nilA))) (consA (varO 0) (consA (cO (.int (0))) nilA))))))
noncomputable def F_law_bag : ML := defO 1 1 B_law_bag
noncomputable def B_law_pick : MS := (seqO (asgO (opO addB (opO ixB (varO 0) (cO (.int (2)))) (cO (.int (1)))) (subG (varO 0) (cO (.int (2)))))
  (seqO (ifS (testO (opO (intB fun i j => .bl (decide (j < i))) (opO ixB (varO 0) (cO (.int (0)))) (cO (.int (0))))) (seqO (asgO (opO (intC (fun _ j => 0 < j) fun i j => .int (i % j)) (cbO intL (consA (opO ixB (varO 0) (cO (.int (0)))) nilA)) (varO 1)) (nameG 2))
  (seqO (asgO (opO (intC DivOk fun i j => .int (i / j)) (cbO intL (consA (opO ixB (varO 0) (cO (.int (0)))) nilA)) (varO 1)) (subG (varO 0) (cO (.int (0)))))
  (retO (varO 2)))) nextO)
  (seqO (parO 3 4 (consA (cbO intL (consA (opO ixB (varO 0) (cO (.int (1)))) nilA)) (consA (cbO intL (consA (opO ixB (varO 0) (cO (.int (2)))) nilA)) nilA)))
  (seqO (asgO (opO (intC (fun _ j => 0 < j) fun i j => .int (i % j)) (cbO intL (consA (opO addB (opO addB (opO mulB (opO (intC (fun _ j => 0 < j) fun i j => .int (i % j)) (varO 3) (cO (.int (2147483629)))) (cO (.int (48271)))) (opO mulB (varO 4) (cO (.int (69621))))) (cO (.int (12345)))) nilA)) (cO (.int (2147483647)))) (nameG 5))
  (seqO (asgO (opO (intC (fun _ j => 0 < j) fun i j => .int (i % j)) (cbO intL (consA (opO addB (opO mulB (varO 5) (varO 5)) (opO mulB (varO 4) (cO (.int (40692))))) nilA)) (cO (.int (2147483587)))) (nameG 6))
  (seqO (asgO (opO (intC DivOk fun i j => .int (i / j)) (cbO intL (consA (opO addB (opO mulB (varO 5) (cO (.int (2147483587)))) (varO 6)) nilA)) (cO (.int (32)))) (nameG 7))
  (seqO (ifS (testO (opO (intB fun i j => .bl (decide (j < i))) (varO 1) (opO (intC PowOk fun i j => .int (i ^ j.toNat)) (cO (.int (10))) (cO (.int (15)))))) (asgO (opO addB (opO (intC PowOk fun i j => .int (i ^ j.toNat)) (varO 7) (cO (.int (8)))) (varO 6)) (nameG 7)) nextO)
  (retO (opO (intC (fun _ j => 0 < j) fun i j => .int (i % j)) (cbO intL (consA (varO 7) nilA)) (varO 1))))))))))
noncomputable def F_law_pick : ML := defO 2 8 B_law_pick
noncomputable def B_law_part : MS := (seqO (asgO (cbO maxL (consA (cO (.int (2))) (consA (opO (intC DivOk fun i j => .int (i / j)) (opO addB (varO 1) (cO (.int (4)))) (cO (.int (4)))) nilA))) (nameG 2))
  (retO (opO addB (varO 2) (cbO F_law_pick (consA (varO 0) (consA (opO (intB fun i j => .int (i - j)) (opO addB (varO 1) (cO (.int (2)))) (opO mulB (cO (.int (2))) (varO 2))) nilA))))))
noncomputable def F_law_part : ML := defO 2 3 B_law_part
noncomputable def B_is_word : MS := (retO (andV (cbO (isiL tb) (consA (varO 0) (consA (cO (.ty "str")) nilA))) (opO (inB false) (varO 0) (varO 1))))
noncomputable def F_is_word : ML := defO 2 2 B_is_word
noncomputable def B_is_kind : MS := (retO (cbO F_is_word (consA (varO 0) (consA (cO (.ktp [.str (PySem.Str.ofString "up"), .str (PySem.Str.ofString "down")])) nilA))))
noncomputable def F_is_kind : ML := defO 1 1 B_is_kind
noncomputable def B_check_kind : MS := (ifS (notO (truO (cbO F_is_kind (consA (varO 0) nilA)))) neverO nextO)
noncomputable def F_check_kind : ML := defO 1 1 B_check_kind
noncomputable def B_is_list : MS := (retO (andV (cbO (isiL tb) (consA (varO 0) (consA (cO (.ty "list")) nilA))) (chainO (intB fun i j => .bl (decide (i ≤ j))) (intB fun i j => .bl (decide (i ≤ j))) (varO 1) (cbO lenL (consA (varO 0) nilA)) (varO 2))))
noncomputable def F_is_list : ML := defO 3 3 B_is_list
noncomputable def B_is_pair : MS := (retO (andV (cbO (isiL tb) (consA (varO 0) (consA (cO (.ty "tuple")) nilA))) (opO (eqB false) (cbO lenL (consA (varO 0) nilA)) (cO (.int (2))))))
noncomputable def F_is_pair : ML := defO 1 1 B_is_pair
noncomputable def B_is_between : MS := (retO (andV (cbO (isiL tb) (consA (varO 0) (consA (cO (.ty "int")) nilA))) (andV (notV (cbO (isiL tb) (consA (varO 0) (consA (cO (.ty "bool")) nilA)))) (chainO (intB fun i j => .bl (decide (i ≤ j))) (intB fun i j => .bl (decide (i ≤ j))) (varO 1) (varO 0) (varO 2)))))
noncomputable def F_is_between : ML := defO 3 3 B_is_between
noncomputable def B_is_sight : MS := (retO (andV (cbO F_is_pair (consA (varO 0) nilA)) (andV (cbO F_is_between (consA (opO ixB (varO 0) (cO (.int (0)))) (consA (cO (.int (1))) (consA (cO (.int (1000000000000000000000000000000))) nilA)))) (cbO F_is_between (consA (opO ixB (varO 0) (cO (.int (1)))) (consA (cO (.int (1))) (consA (cO (.int (1000000000000000000000000000000))) nilA)))))))
noncomputable def F_is_sight : ML := defO 1 1 B_is_sight
noncomputable def B_check_seen : MS := (seqO (ifS (notO (truO (cbO F_is_list (consA (varO 0) (consA (cO (.int (1))) (consA (cO (.int (20))) nilA)))))) neverO nextO)
  (forO (enumO (consA (varO 0) nilA)) (tupG 2 (consG (nameG 1) (consG (nameG 2) nilG))) (ifS (notO (truO (cbO F_is_sight (consA (varO 2) nilA)))) neverO nextO)))
noncomputable def F_check_seen : ML := defO 1 3 B_check_seen
noncomputable def B_parts : MS := (seqO (asgO (cbO maxL (consA (cO (.int (2))) (consA (opO (intC DivOk fun i j => .int (i / j)) (opO addB (varO 0) (cO (.int (4)))) (cO (.int (4)))) nilA))) (nameG 2))
  (seqO (asgO (opO (intB fun i j => .int (i - j)) (opO addB (varO 0) (cO (.int (1)))) (varO 2)) (nameG 3))
  (seqO (forO (srcO (varO 1)) (tupG 2 (consG (nameG 4) (consG (nameG 5) nilG))) (seqO (asgO (opO (intB fun i j => .int (i - j)) (opO (intB fun i j => .int (i - j)) (varO 4) (varO 0)) (cO (.int (1)))) (nameG 6))
  (seqO (asgO (cbO maxL (consA (varO 2) (consA (opO addB (opO (intC DivOk fun i j => .int (i / j)) (varO 6) (opO (intB fun i j => .int (i - j)) (varO 5) (cO (.int (1))))) (cO (.int (1)))) nilA))) (nameG 2))
  (seqO (ifS (testO (opO (intB fun i j => .bl (decide (j < i))) (varO 5) (cO (.int (2))))) (asgO (cbO minL (consA (varO 3) (consA (opO (intC DivOk fun i j => .int (i / j)) (varO 6) (opO (intB fun i j => .int (i - j)) (varO 5) (cO (.int (2))))) nilA))) (nameG 3)) nextO)
  (ifS (testO (opO (intB fun i j => .bl (decide (j < i))) (varO 2) (varO 3))) brkO nextO)))))
  (retO (tupO (consA (varO 2) (consA (varO 3) nilA)))))))
noncomputable def F_parts : ML := defO 2 7 B_parts
noncomputable def B_fitting_rules : MS := (seqO (dropO (cbO F_check_kind (consA (varO 0) nilA)))
  (seqO (dropO (cbO F_check_seen (consA (varO 1) nilA)))
  (seqO (ifS (notO (truO (cbO F_is_between (consA (varO 2) (consA (cO (.int (3))) (consA (cO (.int (1000))) nilA)))))) neverO nextO)
  (seqO (asgO (valO (compF (srcO (varO 1)) (tupG 2 (consG (nameG 11) (consG (nameG 12) nilG))) (testO (opO (intB fun i j => .bl (decide (j < i))) (varO 12) (cO (.int (1))))) (tupO (consA (varO 11) (consA (varO 12) nilA))) [11, 12])) (nameG 3))
  (seqO (asgO (cbO maxsL (consA (valO (opF catL (valO (lstO (consA (cO (.int (3))) nilA))) (valO (compF (srcO (varO 1)) (tupG 2 (consG (nameG 11) (consG (nameG 12) nilG))) (testO (opO (eqB false) (varO 12) (cO (.int (1))))) (varO 11) [11, 12])))) nilA)) (nameG 4))
  (seqO (asgO (cbO minsL (consA (valO (opF catL (valO (lstO (consA (varO 2) nilA))) (valO (compF (srcO (varO 3)) (tupG 2 (consG (nameG 11) (consG (nameG 13) nilG))) yesO (opO (intB fun i j => .int (i - j)) (varO 11) (cO (.int (1)))) [11, 13])))) nilA)) (nameG 5))
  (seqO (asgO (cellO (lstO nilA)) (nameG 6))
  (seqO (forO (rng2O (consA (varO 4) (consA (opO addB (varO 5) (cO (.int (1)))) nilA))) (nameG 7) (seqO (asgO (cbO F_parts (consA (varO 7) (consA (varO 3) nilA))) (tupG 2 (consG (nameG 8) (consG (nameG 9) nilG))))
  (ifS (testO (opO (intB fun i j => .bl (decide (i ≤ j))) (varO 8) (varO 9))) (seqO (asgO (ifO (testO (opO (eqB false) (varO 0) (cO (.str (PySem.Str.ofString "up"))))) (tupO (consA (varO 8) (consA (varO 9) nilA))) (tupO (consA (opO (intB fun i j => .int (i - j)) (opO addB (varO 7) (cO (.int (1)))) (varO 9)) (consA (opO (intB fun i j => .int (i - j)) (opO addB (varO 7) (cO (.int (1)))) (varO 8)) nilA)))) (nameG 10))
  (dropO (appO (varO 6) (tupO (consA (varO 7) (starA (varO 10) nilA)))))) nextO)))
  (retO (frzO (varO 6)))))))))))
noncomputable def F_fitting_rules : ML := defO 3 14 B_fitting_rules
noncomputable def B_law_is_part : MS := (seqO (ifS (orO (testO (opO (intB fun i j => .bl (decide (i < j))) (varO 1) (cO (.int (2))))) (testO (opO (intB fun i j => .bl (decide (i < j))) (opO (intB fun i j => .int (i - j)) (opO addB (varO 0) (cO (.int (1)))) (varO 1)) (cO (.int (2)))))) (retO (cO (.bl false))) nextO)
  (retO (andV (opO (intB fun i j => .bl (decide (j ≤ i))) (opO mulB (cO (.int (4))) (varO 1)) (opO addB (varO 0) (cO (.int (1))))) (opO (intB fun i j => .bl (decide (j ≤ i))) (opO mulB (cO (.int (4))) (opO (intB fun i j => .int (i - j)) (opO addB (varO 0) (cO (.int (1)))) (varO 1))) (opO addB (varO 0) (cO (.int (1))))))))
noncomputable def F_law_is_part : ML := defO 2 2 B_law_is_part
noncomputable def B_law_fits : MS := (seqO (asgO (ifO (testO (opO (eqB false) (varO 0) (cO (.str (PySem.Str.ofString "up"))))) (varO 2) (opO (intB fun i j => .int (i - j)) (opO addB (varO 1) (cO (.int (1)))) (varO 2))) (nameG 4))
  (seqO (forO (srcO (varO 3)) (tupG 2 (consG (nameG 5) (consG (nameG 6) nilG))) (seqO (asgO (ifO (testO (opO (intB fun i j => .bl (decide (i ≤ j))) (varO 5) (varO 1))) (cO (.int (1))) (opO addB (cO (.int (2))) (opO (intC DivOk fun i j => .int (i / j)) (opO (intB fun i j => .int (i - j)) (opO (intB fun i j => .int (i - j)) (varO 5) (varO 1)) (cO (.int (1)))) (varO 4)))) (nameG 7))
  (ifS (testO (opO (eqB true) (varO 6) (varO 7))) (retO (cO (.bl false))) nextO)))
  (retO (cO (.bl true)))))
noncomputable def F_law_fits : ML := defO 4 8 B_law_fits
noncomputable def B_law_row_right : MS := (seqO (asgO (varO 2) (tupG 3 (consG (nameG 3) (consG (nameG 4) (consG (nameG 5) nilG)))))
  (seqO (forO (srcO (tupO (consA (varO 4) (consA (varO 5) (consA (opO (intC DivOk fun i j => .int (i / j)) (opO addB (varO 4) (varO 5)) (cO (.int (2)))) nilA))))) (nameG 6) (ifS (orO (notO (truO (cbO F_law_is_part (consA (varO 3) (consA (varO 6) nilA))))) (notO (truO (cbO F_law_fits (consA (varO 0) (consA (varO 3) (consA (varO 6) (consA (varO 1) nilA)))))))) (retO (cO (.bl false))) nextO))
  (seqO (forO (srcO (tupO (consA (opO (intB fun i j => .int (i - j)) (varO 4) (cO (.int (1)))) (consA (opO addB (varO 5) (cO (.int (1)))) nilA)))) (nameG 6) (ifS (andO (truO (cbO F_law_is_part (consA (varO 3) (consA (varO 6) nilA)))) (truO (cbO F_law_fits (consA (varO 0) (consA (varO 3) (consA (varO 6) (consA (varO 1) nilA))))))) (retO (cO (.bl false))) nextO))
  (retO (cO (.bl true))))))
noncomputable def F_law_row_right : ML := defO 3 7 B_law_row_right
noncomputable def B_law_lacks : MS := (seqO (ifS (orO (testO (opO (inB false) (varO 3) (valO (compF (srcO (varO 2)) (nameG 4) yesO (opO ixB (varO 4) (cO (.int (0)))) [4])))) (testO (opO (intB fun i j => .bl (decide (i < j))) (varO 3) (cO (.int (3)))))) (retO (cO (.bl true))) nextO)
  (retO (opO (eqB false) (valO (compF (rng2O (consA (cO (.int (2))) (consA (varO 3) nilA))) (nameG 5) (andO (truO (cbO F_law_is_part (consA (varO 3) (consA (varO 5) nilA)))) (truO (cbO F_law_fits (consA (varO 0) (consA (varO 3) (consA (varO 5) (consA (varO 1) nilA))))))) (cO (.int (1))) [5])) (valO (lstO nilA)))))
noncomputable def F_law_lacks : ML := defO 4 6 B_law_lacks
noncomputable def B_law_right : MS := (seqO (asgO (opO addB (cO (.int (3))) (cbO F_law_pick (consA (varO 0) (consA (opO ixB (valO (lstO (consA (cO (.int (20))) (consA (cO (.int (998))) nilA)))) (cbO F_law_pick (consA (varO 0) (consA (cO (.int (2))) nilA)))) nilA)))) (nameG 2))
  (seqO (asgO (tupO (consA (cbO F_law_part (consA (varO 0) (consA (varO 2) nilA))) (consA (cellO (lstO nilA)) nilA))) (tupG 2 (consG (nameG 3) (consG (nameG 4) nilG))))
  (seqO (forO (rng1O (consA (opO addB (cO (.int (1))) (cbO F_law_pick (consA (varO 0) (consA (opO ixB (valO (lstO (consA (cO (.int (8))) (consA (cO (.int (20))) nilA)))) (cbO F_law_pick (consA (varO 0) (consA (cO (.int (2))) nilA)))) nilA)))) nilA)) (nameG 5) (seqO (asgO (opO addB (cO (.int (1))) (cbO F_law_pick (consA (varO 0) (consA (opO ixB (valO (lstO (consA (opO mulB (cO (.int (2))) (varO 2)) (consA (opO (intC PowOk fun i j => .int (i ^ j.toNat)) (cO (.int (10))) (cO (.int (4)))) (consA (opO (intC PowOk fun i j => .int (i ^ j.toNat)) (cO (.int (10))) (cO (.int (30)))) nilA))))) (cbO F_law_pick (consA (varO 0) (consA (cO (.int (3))) nilA)))) nilA)))) (nameG 6))
  (seqO (asgO (ifO (testO (opO (eqB false) (varO 1) (cO (.str (PySem.Str.ofString "up"))))) (varO 3) (opO (intB fun i j => .int (i - j)) (opO addB (varO 2) (cO (.int (1)))) (varO 3))) (nameG 7))
  (dropO (appO (varO 4) (tupO (consA (varO 6) (consA (ifO (testO (opO (intB fun i j => .bl (decide (i ≤ j))) (varO 6) (varO 2))) (cO (.int (1))) (opO addB (cO (.int (2))) (opO (intC DivOk fun i j => .int (i / j)) (opO (intB fun i j => .int (i - j)) (opO (intB fun i j => .int (i - j)) (varO 6) (varO 2)) (cO (.int (1)))) (varO 7)))) nilA))))))))
  (seqO (parO 8 9 (consA (opO (intB fun i j => .bl (decide (j < i))) (cbO F_law_pick (consA (varO 0) (consA (cO (.int (4))) nilA))) (cO (.int (0)))) (consA (cbO F_law_pick (consA (varO 0) (consA (cbO lenL (consA (varO 4) nilA)) nilA))) nilA)))
  (seqO (ifS (notO (truO (varO 8))) (asgO (tupO (consA (opO ixB (opO ixB (varO 4) (varO 9)) (cO (.int (0)))) (consA (cbO maxL (consA (cO (.int (1))) (consA (opO addB (opO ixB (opO ixB (varO 4) (varO 9)) (cO (.int (1)))) (opO ixB (valO (lstO (consA (cO (.int (1))) (consA (unO negO (cO (.int (1)))) nilA)))) (cbO F_law_pick (consA (varO 0) (consA (cO (.int (2))) nilA))))) nilA))) nilA))) (subG (varO 4) (varO 9))) nextO)
  (seqO (asgO (opO ixB (valO (lstO (consA (cO (.int (1000))) (consA (varO 2) (consA (cbO minL (consA (cO (.int (1000))) (consA (opO addB (varO 2) (cbO F_law_pick (consA (varO 0) (consA (cO (.int (30))) nilA)))) nilA))) nilA))))) (cbO F_law_pick (consA (varO 0) (consA (cO (.int (3))) nilA)))) (nameG 10))
  (seqO (asgO (cbO F_fitting_rules (consA (varO 1) (consA (varO 4) (consA (varO 10) nilA)))) (nameG 11))
  (seqO (ifS (testO (opO (eqB true) (valO (compF (srcO (varO 11)) (nameG 12) (orO (notO (truO (cbO (isiL tb) (consA (varO 12) (consA (cO (.ty "tuple")) nilA))))) (orO (testO (opO (eqB true) (cbO lenL (consA (varO 12) nilA)) (cO (.int (3))))) (notO (testO (chainO (intB fun i j => .bl (decide (i ≤ j))) (intB fun i j => .bl (decide (i ≤ j))) (cO (.int (3))) (opO ixB (varO 12) (cO (.int (0)))) (varO 10)))))) (cO (.int (1))) [12])) (valO (lstO nilA)))) (retO (cO (.bl false))) nextO)
  (seqO (asgO (valO (compF (srcO (varO 11)) (nameG 12) yesO (opO ixB (varO 12) (cO (.int (0)))) [12])) (nameG 13))
  (seqO (ifS (testO (opO (eqB true) (varO 13) (valO (srsLF (varO 13))))) (retO (cO (.bl false))) nextO)
  (seqO (asgO (valO (compF (srcO (varO 11)) (nameG 12) (andO (testO (opO (eqB false) (opO ixB (varO 12) (cO (.int (0)))) (varO 2))) (testO (chainO (intB fun i j => .bl (decide (i ≤ j))) (intB fun i j => .bl (decide (i ≤ j))) (opO ixB (varO 12) (cO (.int (1)))) (varO 3) (opO ixB (varO 12) (cO (.int (2))))))) (varO 12) [12])) (nameG 14))
  (seqO (ifS (andO (truO (varO 8)) (testO (opO (eqB false) (varO 14) (valO (lstO nilA))))) (retO (cO (.bl false))) nextO)
  (seqO (forO (rng1O (consA (cbO minL (consA (cO (.int (6))) (consA (cbO lenL (consA (varO 11) nilA)) nilA))) nilA)) (nameG 5) (seqO (asgO (opO ixB (varO 11) (opO ixB (valO (lstO (consA (cO (.int (0))) (consA (opO (intB fun i j => .int (i - j)) (cbO lenL (consA (varO 11) nilA)) (cO (.int (1)))) (consA (cbO F_law_pick (consA (varO 0) (consA (cbO lenL (consA (varO 11) nilA)) nilA))) nilA))))) (cbO F_law_pick (consA (varO 0) (consA (cO (.int (3))) nilA))))) (nameG 12))
  (ifS (orO (notO (truO (cbO F_law_row_right (consA (varO 1) (consA (varO 4) (consA (varO 12) nilA)))))) (notO (truO (cbO F_law_lacks (consA (varO 1) (consA (varO 4) (consA (varO 11) (consA (opO (intB fun i j => .int (i - j)) (opO ixB (varO 12) (cO (.int (0)))) (cO (.int (1)))) nilA)))))))) (retO (cO (.bl false))) nextO)))
  (seqO (asgO (valO (lstO (consA (opO addB (cO (.int (3))) (cbO F_law_pick (consA (varO 0) (consA (opO (intB fun i j => .int (i - j)) (varO 10) (cO (.int (2)))) nilA)))) (consA (cbO minL (consA (varO 10) (consA (opO addB (cO (.int (3))) (cbO F_law_pick (consA (varO 0) (consA (cO (.int (60))) nilA)))) nilA))) (consA (cbO minL (consA (varO 10) (consA (opO addB (varO 2) (cO (.int (1)))) nilA))) nilA))))) (nameG 15))
  (retO (opO (eqB false) (valO (compF (srcO (varO 15)) (nameG 16) (notO (truO (cbO F_law_lacks (consA (varO 1) (consA (varO 4) (consA (varO 11) (consA (varO 16) nilA))))))) (varO 16) [16])) (valO (lstO nilA))))))))))))))))))
noncomputable def F_law_right : ML := defO 2 17 B_law_right
noncomputable def B_law_bag_live : MS := (retO (cellO (lstO (consA (cbO maxL (consA (cO (.int (0))) (consA (opO (intB fun i j => .int (i - j)) (varO 0) (opO (intC PowOk fun i j => .int (i ^ j.toNat)) (cO (.int (10))) (cO (.int (18))))) nilA))) (consA (varO 0) (consA (cO (.int (0))) nilA))))))
noncomputable def F_law_bag_live : ML := defO 1 1 B_law_bag_live
noncomputable def B_law : MS := (seqO (forO (srcO (valO (opF catL (slT (varO 0) noPartO (partO (cO (.int (6))))) (valO (lstO (consA (cO (.int (0))) nilA)))))) (nameG 1) (seqO (asgO (cbO F_law_bag_live (consA (varO 1) nilA)) (nameG 2))
  (forO (srcO (tupO (consA (cO (.str (PySem.Str.ofString "up"))) (consA (cO (.str (PySem.Str.ofString "down"))) nilA)))) (nameG 3) (ifS (notO (truO (cbO F_law_right (consA (varO 2) (consA (varO 3) nilA))))) (retO (cO (.bl false))) nextO))))
  (seqO (ifS (testO (opO (eqB true) (cbO F_fitting_rules (consA (cO (.str (PySem.Str.ofString "up"))) (consA (valO (lstO (consA (tupO (consA (cO (.int (9))) (consA (cO (.int (2))) nilA))) (consA (tupO (consA (cO (.int (9))) (consA (cO (.int (3))) nilA))) nilA)))) (consA (cO (.int (1000))) nilA)))) (valO (lstO nilA)))) (retO (cO (.bl false))) nextO)
  (retO (opO (eqB false) (slT (cbO F_fitting_rules (consA (cO (.str (PySem.Str.ofString "up"))) (consA (valO (lstO (consA (tupO (consA (opO addB (cO (.int (1000))) (opO mulB (cO (.int (600))) (opO (intC PowOk fun i j => .int (i ^ j.toNat)) (cO (.int (10))) (cO (.int (27)))))) (consA (opO addB (opO (intC PowOk fun i j => .int (i ^ j.toNat)) (cO (.int (10))) (cO (.int (27)))) (cO (.int (1)))) nilA))) nilA))) (consA (cO (.int (1000))) nilA)))) (partO (unO negO (cO (.int (1))))) noPartO) (valO (lstO (consA (tupO (consA (cO (.int (1000))) (consA (cO (.int (600))) (consA (cO (.int (600))) nilA)))) nilA)))))))
noncomputable def F_law : ML := defO 1 4 B_law
end M

set_option Elab.async false
set_option linter.all false
set_option maxRecDepth 100000
set_option maxHeartbeats 4000000
namespace M
open PySem PySem.Spec L2 Z
open PyProof.Rows hiding St
noncomputable def S_law_pick_1 : MS := (asgO (opO addB (opO ixB (varO 0) (cO (.int (2)))) (cO (.int (1)))) (subG (varO 0) (cO (.int (2)))))
noncomputable def S_law_pick_2t1 : MS := (asgO (opO (intC (fun _ j => 0 < j) fun i j => .int (i % j)) (cbO intL (consA (opO ixB (varO 0) (cO (.int (0)))) nilA)) (varO 1)) (nameG 2))
noncomputable def S_law_pick_2t2 : MS := (asgO (opO (intC DivOk fun i j => .int (i / j)) (cbO intL (consA (opO ixB (varO 0) (cO (.int (0)))) nilA)) (varO 1)) (subG (varO 0) (cO (.int (0)))))
noncomputable def S_law_pick_2t3 : MS := (retO (varO 2))
noncomputable def S_law_pick_2t : MS := (seqO S_law_pick_2t1 (seqO S_law_pick_2t2 S_law_pick_2t3))
noncomputable def S_law_pick_2 : MS := (ifS (testO (opO (intB fun i j => .bl (decide (j < i))) (opO ixB (varO 0) (cO (.int (0)))) (cO (.int (0))))) S_law_pick_2t nextO)
noncomputable def S_law_pick_3 : MS := (parO 3 4 (consA (cbO intL (consA (opO ixB (varO 0) (cO (.int (1)))) nilA)) (consA (cbO intL (consA (opO ixB (varO 0) (cO (.int (2)))) nilA)) nilA)))
noncomputable def S_law_pick_4 : MS := (asgO (opO (intC (fun _ j => 0 < j) fun i j => .int (i % j)) (cbO intL (consA (opO addB (opO addB (opO mulB (opO (intC (fun _ j => 0 < j) fun i j => .int (i % j)) (varO 3) (cO (.int (2147483629)))) (cO (.int (48271)))) (opO mulB (varO 4) (cO (.int (69621))))) (cO (.int (12345)))) nilA)) (cO (.int (2147483647)))) (nameG 5))
noncomputable def S_law_pick_5 : MS := (asgO (opO (intC (fun _ j => 0 < j) fun i j => .int (i % j)) (cbO intL (consA (opO addB (opO mulB (varO 5) (varO 5)) (opO mulB (varO 4) (cO (.int (40692))))) nilA)) (cO (.int (2147483587)))) (nameG 6))
noncomputable def S_law_pick_6 : MS := (asgO (opO (intC DivOk fun i j => .int (i / j)) (cbO intL (consA (opO addB (opO mulB (varO 5) (cO (.int (2147483587)))) (varO 6)) nilA)) (cO (.int (32)))) (nameG 7))
noncomputable def S_law_pick_7 : MS := (ifS (testO (opO (intB fun i j => .bl (decide (j < i))) (varO 1) (opO (intC PowOk fun i j => .int (i ^ j.toNat)) (cO (.int (10))) (cO (.int (15)))))) (asgO (opO addB (opO (intC PowOk fun i j => .int (i ^ j.toNat)) (varO 7) (cO (.int (8)))) (varO 6)) (nameG 7)) nextO)
noncomputable def S_law_pick_8 : MS := (retO (opO (intC (fun _ j => 0 < j) fun i j => .int (i % j)) (cbO intL (consA (varO 7) nilA)) (varO 1)))
noncomputable def S_law_pick_ : MS := (seqO S_law_pick_1 (seqO S_law_pick_2 (seqO S_law_pick_3 (seqO S_law_pick_4 (seqO S_law_pick_5 (seqO S_law_pick_6 (seqO S_law_pick_7 S_law_pick_8)))))))
theorem B_law_pick_eq : B_law_pick = S_law_pick_ := rfl
noncomputable def S_law_part_1 : MS := (asgO (cbO maxL (consA (cO (.int (2))) (consA (opO (intC DivOk fun i j => .int (i / j)) (opO addB (varO 1) (cO (.int (4)))) (cO (.int (4)))) nilA))) (nameG 2))
noncomputable def S_law_part_2 : MS := (retO (opO addB (varO 2) (cbO F_law_pick (consA (varO 0) (consA (opO (intB fun i j => .int (i - j)) (opO addB (varO 1) (cO (.int (2)))) (opO mulB (cO (.int (2))) (varO 2))) nilA)))))
noncomputable def S_law_part_ : MS := (seqO S_law_part_1 S_law_part_2)
theorem B_law_part_eq : B_law_part = S_law_part_ := rfl
noncomputable def S_check_kind_1 : MS := (ifS (notO (truO (cbO F_is_kind (consA (varO 0) nilA)))) neverO nextO)
theorem B_check_kind_eq : B_check_kind = S_check_kind_1 := rfl
noncomputable def S_check_seen_1 : MS := (ifS (notO (truO (cbO F_is_list (consA (varO 0) (consA (cO (.int (1))) (consA (cO (.int (20))) nilA)))))) neverO nextO)
noncomputable def S_check_seen_2b : MS := (ifS (notO (truO (cbO F_is_sight (consA (varO 2) nilA)))) neverO nextO)
noncomputable def S_check_seen_2 : MS := (forO (enumO (consA (varO 0) nilA)) (tupG 2 (consG (nameG 1) (consG (nameG 2) nilG))) S_check_seen_2b)
noncomputable def S_check_seen_ : MS := (seqO S_check_seen_1 S_check_seen_2)
theorem B_check_seen_eq : B_check_seen = S_check_seen_ := rfl
noncomputable def S_parts_1 : MS := (asgO (cbO maxL (consA (cO (.int (2))) (consA (opO (intC DivOk fun i j => .int (i / j)) (opO addB (varO 0) (cO (.int (4)))) (cO (.int (4)))) nilA))) (nameG 2))
noncomputable def S_parts_2 : MS := (asgO (opO (intB fun i j => .int (i - j)) (opO addB (varO 0) (cO (.int (1)))) (varO 2)) (nameG 3))
noncomputable def S_parts_3b1 : MS := (asgO (opO (intB fun i j => .int (i - j)) (opO (intB fun i j => .int (i - j)) (varO 4) (varO 0)) (cO (.int (1)))) (nameG 6))
noncomputable def S_parts_3b2 : MS := (asgO (cbO maxL (consA (varO 2) (consA (opO addB (opO (intC DivOk fun i j => .int (i / j)) (varO 6) (opO (intB fun i j => .int (i - j)) (varO 5) (cO (.int (1))))) (cO (.int (1)))) nilA))) (nameG 2))
noncomputable def S_parts_3b3 : MS := (ifS (testO (opO (intB fun i j => .bl (decide (j < i))) (varO 5) (cO (.int (2))))) (asgO (cbO minL (consA (varO 3) (consA (opO (intC DivOk fun i j => .int (i / j)) (varO 6) (opO (intB fun i j => .int (i - j)) (varO 5) (cO (.int (2))))) nilA))) (nameG 3)) nextO)
noncomputable def S_parts_3b4 : MS := (ifS (testO (opO (intB fun i j => .bl (decide (j < i))) (varO 2) (varO 3))) brkO nextO)
noncomputable def S_parts_3b : MS := (seqO S_parts_3b1 (seqO S_parts_3b2 (seqO S_parts_3b3 S_parts_3b4)))
noncomputable def S_parts_3 : MS := (forO (srcO (varO 1)) (tupG 2 (consG (nameG 4) (consG (nameG 5) nilG))) S_parts_3b)
noncomputable def S_parts_4 : MS := (retO (tupO (consA (varO 2) (consA (varO 3) nilA))))
noncomputable def S_parts_ : MS := (seqO S_parts_1 (seqO S_parts_2 (seqO S_parts_3 S_parts_4)))
theorem B_parts_eq : B_parts = S_parts_ := rfl
noncomputable def S_fitting_rules_1 : MS := (dropO (cbO F_check_kind (consA (varO 0) nilA)))
noncomputable def S_fitting_rules_2 : MS := (dropO (cbO F_check_seen (consA (varO 1) nilA)))
noncomputable def S_fitting_rules_3 : MS := (ifS (notO (truO (cbO F_is_between (consA (varO 2) (consA (cO (.int (3))) (consA (cO (.int (1000))) nilA)))))) neverO nextO)
noncomputable def S_fitting_rules_4 : MS := (asgO (valO (compF (srcO (varO 1)) (tupG 2 (consG (nameG 11) (consG (nameG 12) nilG))) (testO (opO (intB fun i j => .bl (decide (j < i))) (varO 12) (cO (.int (1))))) (tupO (consA (varO 11) (consA (varO 12) nilA))) [11, 12])) (nameG 3))
noncomputable def S_fitting_rules_5 : MS := (asgO (cbO maxsL (consA (valO (opF catL (valO (lstO (consA (cO (.int (3))) nilA))) (valO (compF (srcO (varO 1)) (tupG 2 (consG (nameG 11) (consG (nameG 12) nilG))) (testO (opO (eqB false) (varO 12) (cO (.int (1))))) (varO 11) [11, 12])))) nilA)) (nameG 4))
noncomputable def S_fitting_rules_6 : MS := (asgO (cbO minsL (consA (valO (opF catL (valO (lstO (consA (varO 2) nilA))) (valO (compF (srcO (varO 3)) (tupG 2 (consG (nameG 11) (consG (nameG 13) nilG))) yesO (opO (intB fun i j => .int (i - j)) (varO 11) (cO (.int (1)))) [11, 13])))) nilA)) (nameG 5))
noncomputable def S_fitting_rules_7 : MS := (asgO (cellO (lstO nilA)) (nameG 6))
noncomputable def S_fitting_rules_8b1 : MS := (asgO (cbO F_parts (consA (varO 7) (consA (varO 3) nilA))) (tupG 2 (consG (nameG 8) (consG (nameG 9) nilG))))
noncomputable def S_fitting_rules_8b2t1 : MS := (asgO (ifO (testO (opO (eqB false) (varO 0) (cO (.str (PySem.Str.ofString "up"))))) (tupO (consA (varO 8) (consA (varO 9) nilA))) (tupO (consA (opO (intB fun i j => .int (i - j)) (opO addB (varO 7) (cO (.int (1)))) (varO 9)) (consA (opO (intB fun i j => .int (i - j)) (opO addB (varO 7) (cO (.int (1)))) (varO 8)) nilA)))) (nameG 10))
noncomputable def S_fitting_rules_8b2t2 : MS := (dropO (appO (varO 6) (tupO (consA (varO 7) (starA (varO 10) nilA)))))
noncomputable def S_fitting_rules_8b2t : MS := (seqO S_fitting_rules_8b2t1 S_fitting_rules_8b2t2)
noncomputable def S_fitting_rules_8b2 : MS := (ifS (testO (opO (intB fun i j => .bl (decide (i ≤ j))) (varO 8) (varO 9))) S_fitting_rules_8b2t nextO)
noncomputable def S_fitting_rules_8b : MS := (seqO S_fitting_rules_8b1 S_fitting_rules_8b2)
noncomputable def S_fitting_rules_8 : MS := (forO (rng2O (consA (varO 4) (consA (opO addB (varO 5) (cO (.int (1)))) nilA))) (nameG 7) S_fitting_rules_8b)
noncomputable def S_fitting_rules_9 : MS := (retO (frzO (varO 6)))
noncomputable def S_fitting_rules_ : MS := (seqO S_fitting_rules_1 (seqO S_fitting_rules_2 (seqO S_fitting_rules_3 (seqO S_fitting_rules_4 (seqO S_fitting_rules_5 (seqO S_fitting_rules_6 (seqO S_fitting_rules_7 (seqO S_fitting_rules_8 S_fitting_rules_9))))))))
theorem B_fitting_rules_eq : B_fitting_rules = S_fitting_rules_ := rfl
noncomputable def S_law_is_part_1 : MS := (ifS (orO (testO (opO (intB fun i j => .bl (decide (i < j))) (varO 1) (cO (.int (2))))) (testO (opO (intB fun i j => .bl (decide (i < j))) (opO (intB fun i j => .int (i - j)) (opO addB (varO 0) (cO (.int (1)))) (varO 1)) (cO (.int (2)))))) (retO (cO (.bl false))) nextO)
noncomputable def S_law_is_part_2 : MS := (retO (andV (opO (intB fun i j => .bl (decide (j ≤ i))) (opO mulB (cO (.int (4))) (varO 1)) (opO addB (varO 0) (cO (.int (1))))) (opO (intB fun i j => .bl (decide (j ≤ i))) (opO mulB (cO (.int (4))) (opO (intB fun i j => .int (i - j)) (opO addB (varO 0) (cO (.int (1)))) (varO 1))) (opO addB (varO 0) (cO (.int (1)))))))
noncomputable def S_law_is_part_ : MS := (seqO S_law_is_part_1 S_law_is_part_2)
theorem B_law_is_part_eq : B_law_is_part = S_law_is_part_ := rfl
noncomputable def S_law_fits_1 : MS := (asgO (ifO (testO (opO (eqB false) (varO 0) (cO (.str (PySem.Str.ofString "up"))))) (varO 2) (opO (intB fun i j => .int (i - j)) (opO addB (varO 1) (cO (.int (1)))) (varO 2))) (nameG 4))
noncomputable def S_law_fits_2b1 : MS := (asgO (ifO (testO (opO (intB fun i j => .bl (decide (i ≤ j))) (varO 5) (varO 1))) (cO (.int (1))) (opO addB (cO (.int (2))) (opO (intC DivOk fun i j => .int (i / j)) (opO (intB fun i j => .int (i - j)) (opO (intB fun i j => .int (i - j)) (varO 5) (varO 1)) (cO (.int (1)))) (varO 4)))) (nameG 7))
noncomputable def S_law_fits_2b2 : MS := (ifS (testO (opO (eqB true) (varO 6) (varO 7))) (retO (cO (.bl false))) nextO)
noncomputable def S_law_fits_2b : MS := (seqO S_law_fits_2b1 S_law_fits_2b2)
noncomputable def S_law_fits_2 : MS := (forO (srcO (varO 3)) (tupG 2 (consG (nameG 5) (consG (nameG 6) nilG))) S_law_fits_2b)
noncomputable def S_law_fits_3 : MS := (retO (cO (.bl true)))
noncomputable def S_law_fits_ : MS := (seqO S_law_fits_1 (seqO S_law_fits_2 S_law_fits_3))
theorem B_law_fits_eq : B_law_fits = S_law_fits_ := rfl
noncomputable def S_law_row_right_1 : MS := (asgO (varO 2) (tupG 3 (consG (nameG 3) (consG (nameG 4) (consG (nameG 5) nilG)))))
noncomputable def S_law_row_right_2b : MS := (ifS (orO (notO (truO (cbO F_law_is_part (consA (varO 3) (consA (varO 6) nilA))))) (notO (truO (cbO F_law_fits (consA (varO 0) (consA (varO 3) (consA (varO 6) (consA (varO 1) nilA)))))))) (retO (cO (.bl false))) nextO)
noncomputable def S_law_row_right_2 : MS := (forO (srcO (tupO (consA (varO 4) (consA (varO 5) (consA (opO (intC DivOk fun i j => .int (i / j)) (opO addB (varO 4) (varO 5)) (cO (.int (2)))) nilA))))) (nameG 6) S_law_row_right_2b)
noncomputable def S_law_row_right_3b : MS := (ifS (andO (truO (cbO F_law_is_part (consA (varO 3) (consA (varO 6) nilA)))) (truO (cbO F_law_fits (consA (varO 0) (consA (varO 3) (consA (varO 6) (consA (varO 1) nilA))))))) (retO (cO (.bl false))) nextO)
noncomputable def S_law_row_right_3 : MS := (forO (srcO (tupO (consA (opO (intB fun i j => .int (i - j)) (varO 4) (cO (.int (1)))) (consA (opO addB (varO 5) (cO (.int (1)))) nilA)))) (nameG 6) S_law_row_right_3b)
noncomputable def S_law_row_right_4 : MS := (retO (cO (.bl true)))
noncomputable def S_law_row_right_ : MS := (seqO S_law_row_right_1 (seqO S_law_row_right_2 (seqO S_law_row_right_3 S_law_row_right_4)))
theorem B_law_row_right_eq : B_law_row_right = S_law_row_right_ := rfl
noncomputable def S_law_lacks_1 : MS := (ifS (orO (testO (opO (inB false) (varO 3) (valO (compF (srcO (varO 2)) (nameG 4) yesO (opO ixB (varO 4) (cO (.int (0)))) [4])))) (testO (opO (intB fun i j => .bl (decide (i < j))) (varO 3) (cO (.int (3)))))) (retO (cO (.bl true))) nextO)
noncomputable def S_law_lacks_2 : MS := (retO (opO (eqB false) (valO (compF (rng2O (consA (cO (.int (2))) (consA (varO 3) nilA))) (nameG 5) (andO (truO (cbO F_law_is_part (consA (varO 3) (consA (varO 5) nilA)))) (truO (cbO F_law_fits (consA (varO 0) (consA (varO 3) (consA (varO 5) (consA (varO 1) nilA))))))) (cO (.int (1))) [5])) (valO (lstO nilA))))
noncomputable def S_law_lacks_ : MS := (seqO S_law_lacks_1 S_law_lacks_2)
theorem B_law_lacks_eq : B_law_lacks = S_law_lacks_ := rfl
noncomputable def S_law_right_1 : MS := (asgO (opO addB (cO (.int (3))) (cbO F_law_pick (consA (varO 0) (consA (opO ixB (valO (lstO (consA (cO (.int (20))) (consA (cO (.int (998))) nilA)))) (cbO F_law_pick (consA (varO 0) (consA (cO (.int (2))) nilA)))) nilA)))) (nameG 2))
noncomputable def S_law_right_2 : MS := (asgO (tupO (consA (cbO F_law_part (consA (varO 0) (consA (varO 2) nilA))) (consA (cellO (lstO nilA)) nilA))) (tupG 2 (consG (nameG 3) (consG (nameG 4) nilG))))
noncomputable def S_law_right_3b1 : MS := (asgO (opO addB (cO (.int (1))) (cbO F_law_pick (consA (varO 0) (consA (opO ixB (valO (lstO (consA (opO mulB (cO (.int (2))) (varO 2)) (consA (opO (intC PowOk fun i j => .int (i ^ j.toNat)) (cO (.int (10))) (cO (.int (4)))) (consA (opO (intC PowOk fun i j => .int (i ^ j.toNat)) (cO (.int (10))) (cO (.int (30)))) nilA))))) (cbO F_law_pick (consA (varO 0) (consA (cO (.int (3))) nilA)))) nilA)))) (nameG 6))
noncomputable def S_law_right_3b2 : MS := (asgO (ifO (testO (opO (eqB false) (varO 1) (cO (.str (PySem.Str.ofString "up"))))) (varO 3) (opO (intB fun i j => .int (i - j)) (opO addB (varO 2) (cO (.int (1)))) (varO 3))) (nameG 7))
noncomputable def S_law_right_3b3 : MS := (dropO (appO (varO 4) (tupO (consA (varO 6) (consA (ifO (testO (opO (intB fun i j => .bl (decide (i ≤ j))) (varO 6) (varO 2))) (cO (.int (1))) (opO addB (cO (.int (2))) (opO (intC DivOk fun i j => .int (i / j)) (opO (intB fun i j => .int (i - j)) (opO (intB fun i j => .int (i - j)) (varO 6) (varO 2)) (cO (.int (1)))) (varO 7)))) nilA)))))
noncomputable def S_law_right_3b : MS := (seqO S_law_right_3b1 (seqO S_law_right_3b2 S_law_right_3b3))
noncomputable def S_law_right_3 : MS := (forO (rng1O (consA (opO addB (cO (.int (1))) (cbO F_law_pick (consA (varO 0) (consA (opO ixB (valO (lstO (consA (cO (.int (8))) (consA (cO (.int (20))) nilA)))) (cbO F_law_pick (consA (varO 0) (consA (cO (.int (2))) nilA)))) nilA)))) nilA)) (nameG 5) S_law_right_3b)
noncomputable def S_law_right_4 : MS := (parO 8 9 (consA (opO (intB fun i j => .bl (decide (j < i))) (cbO F_law_pick (consA (varO 0) (consA (cO (.int (4))) nilA))) (cO (.int (0)))) (consA (cbO F_law_pick (consA (varO 0) (consA (cbO lenL (consA (varO 4) nilA)) nilA))) nilA)))
noncomputable def S_law_right_5 : MS := (ifS (notO (truO (varO 8))) (asgO (tupO (consA (opO ixB (opO ixB (varO 4) (varO 9)) (cO (.int (0)))) (consA (cbO maxL (consA (cO (.int (1))) (consA (opO addB (opO ixB (opO ixB (varO 4) (varO 9)) (cO (.int (1)))) (opO ixB (valO (lstO (consA (cO (.int (1))) (consA (unO negO (cO (.int (1)))) nilA)))) (cbO F_law_pick (consA (varO 0) (consA (cO (.int (2))) nilA))))) nilA))) nilA))) (subG (varO 4) (varO 9))) nextO)
noncomputable def S_law_right_6 : MS := (asgO (opO ixB (valO (lstO (consA (cO (.int (1000))) (consA (varO 2) (consA (cbO minL (consA (cO (.int (1000))) (consA (opO addB (varO 2) (cbO F_law_pick (consA (varO 0) (consA (cO (.int (30))) nilA)))) nilA))) nilA))))) (cbO F_law_pick (consA (varO 0) (consA (cO (.int (3))) nilA)))) (nameG 10))
noncomputable def S_law_right_7 : MS := (asgO (cbO F_fitting_rules (consA (varO 1) (consA (varO 4) (consA (varO 10) nilA)))) (nameG 11))
noncomputable def S_law_right_8 : MS := (ifS (testO (opO (eqB true) (valO (compF (srcO (varO 11)) (nameG 12) (orO (notO (truO (cbO (isiL tb) (consA (varO 12) (consA (cO (.ty "tuple")) nilA))))) (orO (testO (opO (eqB true) (cbO lenL (consA (varO 12) nilA)) (cO (.int (3))))) (notO (testO (chainO (intB fun i j => .bl (decide (i ≤ j))) (intB fun i j => .bl (decide (i ≤ j))) (cO (.int (3))) (opO ixB (varO 12) (cO (.int (0)))) (varO 10)))))) (cO (.int (1))) [12])) (valO (lstO nilA)))) (retO (cO (.bl false))) nextO)
noncomputable def S_law_right_9 : MS := (asgO (valO (compF (srcO (varO 11)) (nameG 12) yesO (opO ixB (varO 12) (cO (.int (0)))) [12])) (nameG 13))
noncomputable def S_law_right_10 : MS := (ifS (testO (opO (eqB true) (varO 13) (valO (srsLF (varO 13))))) (retO (cO (.bl false))) nextO)
noncomputable def S_law_right_11 : MS := (asgO (valO (compF (srcO (varO 11)) (nameG 12) (andO (testO (opO (eqB false) (opO ixB (varO 12) (cO (.int (0)))) (varO 2))) (testO (chainO (intB fun i j => .bl (decide (i ≤ j))) (intB fun i j => .bl (decide (i ≤ j))) (opO ixB (varO 12) (cO (.int (1)))) (varO 3) (opO ixB (varO 12) (cO (.int (2))))))) (varO 12) [12])) (nameG 14))
noncomputable def S_law_right_12 : MS := (ifS (andO (truO (varO 8)) (testO (opO (eqB false) (varO 14) (valO (lstO nilA))))) (retO (cO (.bl false))) nextO)
noncomputable def S_law_right_13b1 : MS := (asgO (opO ixB (varO 11) (opO ixB (valO (lstO (consA (cO (.int (0))) (consA (opO (intB fun i j => .int (i - j)) (cbO lenL (consA (varO 11) nilA)) (cO (.int (1)))) (consA (cbO F_law_pick (consA (varO 0) (consA (cbO lenL (consA (varO 11) nilA)) nilA))) nilA))))) (cbO F_law_pick (consA (varO 0) (consA (cO (.int (3))) nilA))))) (nameG 12))
noncomputable def S_law_right_13b2 : MS := (ifS (orO (notO (truO (cbO F_law_row_right (consA (varO 1) (consA (varO 4) (consA (varO 12) nilA)))))) (notO (truO (cbO F_law_lacks (consA (varO 1) (consA (varO 4) (consA (varO 11) (consA (opO (intB fun i j => .int (i - j)) (opO ixB (varO 12) (cO (.int (0)))) (cO (.int (1)))) nilA)))))))) (retO (cO (.bl false))) nextO)
noncomputable def S_law_right_13b : MS := (seqO S_law_right_13b1 S_law_right_13b2)
noncomputable def S_law_right_13 : MS := (forO (rng1O (consA (cbO minL (consA (cO (.int (6))) (consA (cbO lenL (consA (varO 11) nilA)) nilA))) nilA)) (nameG 5) S_law_right_13b)
noncomputable def S_law_right_14 : MS := (asgO (valO (lstO (consA (opO addB (cO (.int (3))) (cbO F_law_pick (consA (varO 0) (consA (opO (intB fun i j => .int (i - j)) (varO 10) (cO (.int (2)))) nilA)))) (consA (cbO minL (consA (varO 10) (consA (opO addB (cO (.int (3))) (cbO F_law_pick (consA (varO 0) (consA (cO (.int (60))) nilA)))) nilA))) (consA (cbO minL (consA (varO 10) (consA (opO addB (varO 2) (cO (.int (1)))) nilA))) nilA))))) (nameG 15))
noncomputable def S_law_right_15 : MS := (retO (opO (eqB false) (valO (compF (srcO (varO 15)) (nameG 16) (notO (truO (cbO F_law_lacks (consA (varO 1) (consA (varO 4) (consA (varO 11) (consA (varO 16) nilA))))))) (varO 16) [16])) (valO (lstO nilA))))
noncomputable def S_law_right_ : MS := (seqO S_law_right_1 (seqO S_law_right_2 (seqO S_law_right_3 (seqO S_law_right_4 (seqO S_law_right_5 (seqO S_law_right_6 (seqO S_law_right_7 (seqO S_law_right_8 (seqO S_law_right_9 (seqO S_law_right_10 (seqO S_law_right_11 (seqO S_law_right_12 (seqO S_law_right_13 (seqO S_law_right_14 S_law_right_15))))))))))))))
theorem B_law_right_eq : B_law_right = S_law_right_ := rfl
noncomputable def S_law_1b1 : MS := (asgO (cbO F_law_bag_live (consA (varO 1) nilA)) (nameG 2))
noncomputable def S_law_1b2b : MS := (ifS (notO (truO (cbO F_law_right (consA (varO 2) (consA (varO 3) nilA))))) (retO (cO (.bl false))) nextO)
noncomputable def S_law_1b2 : MS := (forO (srcO (tupO (consA (cO (.str (PySem.Str.ofString "up"))) (consA (cO (.str (PySem.Str.ofString "down"))) nilA)))) (nameG 3) S_law_1b2b)
noncomputable def S_law_1b : MS := (seqO S_law_1b1 S_law_1b2)
noncomputable def S_law_1 : MS := (forO (srcO (valO (opF catL (slT (varO 0) noPartO (partO (cO (.int (6))))) (valO (lstO (consA (cO (.int (0))) nilA)))))) (nameG 1) S_law_1b)
noncomputable def S_law_2 : MS := (ifS (testO (opO (eqB true) (cbO F_fitting_rules (consA (cO (.str (PySem.Str.ofString "up"))) (consA (valO (lstO (consA (tupO (consA (cO (.int (9))) (consA (cO (.int (2))) nilA))) (consA (tupO (consA (cO (.int (9))) (consA (cO (.int (3))) nilA))) nilA)))) (consA (cO (.int (1000))) nilA)))) (valO (lstO nilA)))) (retO (cO (.bl false))) nextO)
noncomputable def S_law_3 : MS := (retO (opO (eqB false) (slT (cbO F_fitting_rules (consA (cO (.str (PySem.Str.ofString "up"))) (consA (valO (lstO (consA (tupO (consA (opO addB (cO (.int (1000))) (opO mulB (cO (.int (600))) (opO (intC PowOk fun i j => .int (i ^ j.toNat)) (cO (.int (10))) (cO (.int (27)))))) (consA (opO addB (opO (intC PowOk fun i j => .int (i ^ j.toNat)) (cO (.int (10))) (cO (.int (27)))) (cO (.int (1)))) nilA))) nilA))) (consA (cO (.int (1000))) nilA)))) (partO (unO negO (cO (.int (1))))) noPartO) (valO (lstO (consA (tupO (consA (cO (.int (1000))) (consA (cO (.int (600))) (consA (cO (.int (600))) nilA)))) nilA)))))
noncomputable def S_law_ : MS := (seqO S_law_1 (seqO S_law_2 S_law_3))
theorem B_law_eq : B_law = S_law_ := rfl
end M

set_option Elab.async false
set_option linter.all false
set_option maxRecDepth 100000
set_option maxHeartbeats 4000000
namespace M
open PySem PySem.Spec L2 Z
open PyProof.Rows hiding St
local macro_rules | `(tactic| walk_at "e") => `(tactic| first
  | with_reducible exact ev_next
  | with_reducible exact (rfl : some _ = some _)
  | with_reducible exact ev_c
  | with_reducible exact ev_retN
  | with_reducible exact ev_nil
  | with_reducible exact ev_nilG
  | with_reducible exact ev_addI
  | with_reducible exact ev_int
  | with_reducible exact ev_eqI
  | with_reducible exact ev_neI
  | with_reducible exact ev_eqB
  | with_reducible exact ev_neB
  | with_reducible exact ev_isN
  | with_reducible exact ev_notN
  | with_reducible exact ev_neg
  | with_reducible exact ev_intL
  | with_reducible exact ev_intLB
  | with_reducible exact ev_max
  | with_reducible exact ev_min
  | with_reducible exact ev_truB
  | with_reducible exact ev_eqS
  | with_reducible exact ev_neS
  | ((with_reducible apply ev_name); focus (repeat constructor))
  | with_reducible apply ev_iteT
  | with_reducible apply ev_iteF
  | with_reducible apply ev_iteNT
  | with_reducible apply ev_iteNF
  | with_reducible apply ev_seqX
  | with_reducible apply ev_contN
  | with_reducible exact ev_contR
  | with_reducible exact ev_contB
  | with_reducible exact ev_contC
  | with_reducible apply ev_op
  | with_reducible apply ev_opF
  | with_reducible apply ev_un
  | with_reducible apply ev_cons
  | with_reducible apply ev_cb
  | with_reducible apply ev_val
  | with_reducible apply ev_cell
  | with_reducible apply ev_frz
  | with_reducible apply ev_asg
  | with_reducible apply ev_drop
  | with_reducible apply ev_ret
  | with_reducible apply ev_ifS
  | with_reducible apply ev_ifE
  | with_reducible apply ev_test
  | with_reducible apply ev_tru
  | with_reducible apply ev_and
  | with_reducible apply ev_or
  | with_reducible apply ev_not
  | with_reducible apply ev_andV
  | with_reducible apply ev_orV
  | with_reducible apply ev_notV
  | with_reducible apply ev_chain
  | with_reducible apply ev_for
  | with_reducible apply ev_src
  | with_reducible apply ev_consG
  | with_reducible apply ev_comp
  | ((with_reducible apply ev_tupG); exact rfl)
  | with_reducible apply ev_lst
  | with_reducible apply ev_tup
  | with_reducible apply ev_par
  | ((with_reducible apply ev_aug); exact rfl)
  | ((with_reducible apply ev_intC); first | (show (0 : Int) < _; decide) | exact powOk_of (by decide) (by decide) (by decide) | exact divOk_of (by decide) (by decide) | skip)
  | ((with_reducible apply ev_mulI); first | exact mulOk_l (by decide) | exact mulOk_r (by decide) | skip)
  | with_reducible exact SetF.zero
  | with_reducible apply SetF.succ
  | ((with_reducible apply len_le); exact rfl)
  | ((with_reducible apply ev_var); exact rfl))
local macro_rules | `(tactic| walk_at "d") => `(tactic| (apply ev_def; (focus exact rfl); (focus (repeat constructor))))
local macro_rules | `(tactic| walk_at "dn") => `(tactic| (apply ev_defN; (focus exact rfl); (focus (repeat constructor))))
section
variable {μ : Sto} {d : D} {ds : List D}
/-! ### the draws of a bag -/
def Bag (μ : Sto) (r : Nat) : Prop := ∃ x c t : Int, μ[r]? = some (.lst [.int x, .int c, .int t])
theorem Bag.lt {r : Nat} (h : Bag μ r) : r < μ.length := by
  obtain ⟨x, c, t, e⟩ := h
  exact (List.getElem?_eq_some_iff.mp e).1
theorem Bag.of {r : Nat} {μ' : Sto} (h : Bag μ r) (e : μ'[r]? = μ[r]?) : Bag μ' r := by
  obtain ⟨x, c, t, h⟩ := h
  exact ⟨x, c, t, e.trans h⟩
theorem Bag.app {r : Nat} {cs : Sto} (h : Bag μ r) : Bag (μ ++ cs) r := h.of (List.getElem?_append_left h.lt)
theorem Bag.set {r i : Nat} {c : Cell} (h : Bag μ r) (hi : i ≠ r) : Bag (μ.set i c) r := h.of (List.getElem?_set_ne hi)
theorem bag_live_ok {c : Int} : ∃ b, F_law_bag_live [.int c] μ = some (.cell μ.length, μ ++ [.lst b]) ∧ Bag (μ ++ [.lst b]) μ.length := by
  have main : F_law_bag_live [.int c] μ = some (.cell μ.length, μ ++ [.lst [.int (max 0 (c - 10 ^ Int.toNat 18)), .int c, .int 0]]) := by
    walk_at "d"
    unfold B_law_bag_live
    repeat walk_at "e"
    exact trim_live (fun z => nomatch z)
  exact ⟨_, main, _, _, _, last_at⟩
theorem pick_b (s t : Int) : ∃ f g : Int, (s % 2147483629 * 48271 + t * 69621 + 12345) % 2147483647 = f ∧ (f * f + t * 40692) % 2147483587 = g ∧ 0 ≤ f ∧ f < 2147483647 ∧ 0 ≤ g ∧ g < 2147483587 ∧ 0 ≤ (f * 2147483587 + g) / 32 ∧ (f * 2147483587 + g) / 32 < 2 ^ 64 := by
  refine ⟨_, _, rfl, rfl, Int.emod_nonneg _ (by decide), Int.emod_lt_of_pos _ (by decide), Int.emod_nonneg _ (by decide), Int.emod_lt_of_pos _ (by decide), ?_, ?_⟩
  all_goals
    have h3 := Int.emod_nonneg (s % 2147483629 * 48271 + t * 69621 + 12345) (show (2147483647 : Int) ≠ 0 from by decide)
    have h4 := Int.emod_lt_of_pos (s % 2147483629 * 48271 + t * 69621 + 12345) (show (0 : Int) < 2147483647 from by decide)
    generalize (s % 2147483629 * 48271 + t * 69621 + 12345) % 2147483647 = f at *
    have h1 := Int.emod_nonneg (f * f + t * 40692) (show (2147483587 : Int) ≠ 0 from by decide)
    have h2 := Int.emod_lt_of_pos (f * f + t * 40692) (show (0 : Int) < 2147483587 from by decide)
    generalize (f * f + t * 40692) % 2147483587 = g at *
  · apply Int.ediv_nonneg <;> omega
  · omega
theorem pick_ok {r : Nat} {many : Int} (h : Bag μ r) (h0 : 0 < many) (h1 : many.natAbs < 10 ^ 200) :
    ∃ v b, F_law_pick [.cell r, .int many] μ = some (.int v, μ.set r (.lst b)) ∧ 0 ≤ v ∧ v < many ∧ Bag (μ.set r (.lst b)) r := by
  obtain ⟨x, c, t, hr⟩ := h
  have lr := set_lt hr
  have aq : asQ μ (.cell r) = some [.int x, .int c, .int t] := asQ_at hr
  have hr1 : (μ.set r (.lst [.int x, .int c, .int (t + 1)]))[r]? = some (.lst [.int x, .int c, .int (t + 1)]) := List.getElem?_set_self lr
  have aq1 : asQ (μ.set r (.lst [.int x, .int c, .int (t + 1)])) (.cell r) = some [.int x, .int c, .int (t + 1)] := asQ_at hr1
  by_cases hx : 0 < x
  · refine ⟨x % many, [.int (x / many), .int c, .int (t + 1)], ?_, Int.emod_nonneg _ (by omega), Int.emod_lt_of_pos _ h0, x / many, c, t + 1, List.getElem?_set_self lr⟩
    walk_at "d"
    unfold B_law_pick
    repeat walk_at "e"
    exact ev_ix aq rfl
    repeat walk_at "e"
    exact ev_sub rfl rfl hr rfl
    show contS _ (.nx _ (μ.set r (.lst [.int x, .int c, .int (t + 1)]))) = _
    repeat walk_at "e"
    exact ev_ix aq1 rfl
    repeat walk_at "e"
    rw [decide_eq_true hx]
    repeat walk_at "e"
    exact ev_ix aq1 rfl
    repeat walk_at "e"
    exact h0
    repeat walk_at "e"
    exact ev_ix aq1 rfl
    repeat walk_at "e"
    exact divOk_of h0 h1
    exact ev_sub rfl rfl hr1 rfl
    repeat walk_at "e"
    rw [set_set]
    exact trim_same (by rw [List.length_set])
  · obtain ⟨f, g, ef, eg, f0, f1, g0, g1, d0, d1⟩ := pick_b c (t + 1)
    have q1 : 0 ≤ f * 2147483587 + g := by omega
    have hF : ((c % 2147483629 * 48271 + (t + 1) * 69621 + 12345) % 2147483647).natAbs < 2 ^ 64 := by rw [ef]; omega
    have hD : (((c % 2147483629 * 48271 + (t + 1) * 69621 + 12345) % 2147483647 * 2147483587 + ((c % 2147483629 * 48271 + (t + 1) * 69621 + 12345) % 2147483647 * ((c % 2147483629 * 48271 + (t + 1) * 69621 + 12345) % 2147483647) + (t + 1) * 40692) % 2147483587) / 32).natAbs < 10 ^ 200 := by
      rw [ef, eg]
      have e : (2 : Int) ^ 64 < 10 ^ 20 := by decide
      omega
    by_cases hm : 10 ^ Int.toNat 15 < many
    · refine ⟨(((f * 2147483587 + g) / 32) ^ Int.toNat 8 + g) % many, [.int x, .int c, .int (t + 1)], ?_, Int.emod_nonneg _ (by omega), Int.emod_lt_of_pos _ h0, x, c, t + 1, hr1⟩
      walk_at "d"
      unfold B_law_pick
      repeat walk_at "e"
      exact ev_ix aq rfl
      repeat walk_at "e"
      exact ev_sub rfl rfl hr rfl
      show contS _ (.nx _ (μ.set r (.lst [.int x, .int c, .int (t + 1)]))) = _
      repeat walk_at "e"
      exact ev_ix aq1 rfl
      repeat walk_at "e"
      rw [decide_eq_false hx]
      repeat walk_at "e"
      exact ev_ix aq1 rfl
      repeat walk_at "e"
      exact ev_ix aq1 rfl
      repeat walk_at "e"
      exact mulOk_l hF
      repeat walk_at "e"
      rw [decide_eq_true hm]
      repeat walk_at "e"
      exact powOk_of (by decide) (by decide) hD
      repeat walk_at "e"
      exact h0
      rw [ef, eg]
      exact trim_same (by rw [List.length_set])
    · refine ⟨((f * 2147483587 + g) / 32) % many, [.int x, .int c, .int (t + 1)], ?_, Int.emod_nonneg _ (by omega), Int.emod_lt_of_pos _ h0, x, c, t + 1, hr1⟩
      walk_at "d"
      unfold B_law_pick
      repeat walk_at "e"
      exact ev_ix aq rfl
      repeat walk_at "e"
      exact ev_sub rfl rfl hr rfl
      show contS _ (.nx _ (μ.set r (.lst [.int x, .int c, .int (t + 1)]))) = _
      repeat walk_at "e"
      exact ev_ix aq1 rfl
      repeat walk_at "e"
      rw [decide_eq_false hx]
      repeat walk_at "e"
      exact ev_ix aq1 rfl
      repeat walk_at "e"
      exact ev_ix aq1 rfl
      repeat walk_at "e"
      exact mulOk_l hF
      repeat walk_at "e"
      rw [decide_eq_false hm]
      repeat walk_at "e"
      exact h0
      rw [ef, eg]
      exact trim_same (by rw [List.length_set])
theorem pick_k {r : Nat} {many : Int} (h : Bag μ r) (h0 : 0 < many) (h1 : many.natAbs < 10 ^ 200) :
    ∃ v μ', F_law_pick [.cell r, .int many] μ = some (.int v, μ') ∧ 0 ≤ v ∧ v < many ∧ Keep r μ μ' ∧ μ'.length = μ.length ∧ Bag μ' r := by
  obtain ⟨v, b, e, v0, v1, R⟩ := pick_ok h h0 h1
  exact ⟨v, _, e, v0, v1, Keep.refl.set (.inr rfl), List.length_set, R⟩
end
end M

set_option Elab.async false
set_option linter.all false
set_option maxRecDepth 100000
set_option maxHeartbeats 4000000
namespace M
open PySem PySem.Spec L2 Z
open PyProof.Rows hiding St pairD
local macro_rules | `(tactic| walk_at "e") => `(tactic| first
  | with_reducible exact ev_next
  | with_reducible exact (rfl : some _ = some _)
  | with_reducible exact ev_c
  | with_reducible exact ev_retN
  | with_reducible exact ev_nil
  | with_reducible exact ev_nilG
  | with_reducible exact ev_addI
  | with_reducible exact ev_int
  | with_reducible exact ev_eqI
  | with_reducible exact ev_neI
  | with_reducible exact ev_eqB
  | with_reducible exact ev_neB
  | with_reducible exact ev_isN
  | with_reducible exact ev_notN
  | with_reducible exact ev_neg
  | with_reducible exact ev_intL
  | with_reducible exact ev_intLB
  | with_reducible exact ev_max
  | with_reducible exact ev_min
  | with_reducible exact ev_truB
  | with_reducible exact ev_eqS
  | with_reducible exact ev_neS
  | ((with_reducible apply ev_name); focus (repeat constructor))
  | with_reducible apply ev_iteT
  | with_reducible apply ev_iteF
  | with_reducible apply ev_iteNT
  | with_reducible apply ev_iteNF
  | with_reducible apply ev_seqX
  | with_reducible apply ev_contN
  | with_reducible exact ev_contR
  | with_reducible exact ev_contB
  | with_reducible exact ev_contC
  | with_reducible apply ev_op
  | with_reducible apply ev_opF
  | with_reducible apply ev_un
  | with_reducible apply ev_cons
  | with_reducible apply ev_cb
  | with_reducible apply ev_val
  | with_reducible apply ev_cell
  | with_reducible apply ev_frz
  | with_reducible apply ev_asg
  | with_reducible apply ev_drop
  | with_reducible apply ev_ret
  | with_reducible apply ev_ifS
  | with_reducible apply ev_ifE
  | with_reducible apply ev_test
  | with_reducible apply ev_tru
  | with_reducible apply ev_and
  | with_reducible apply ev_or
  | with_reducible apply ev_not
  | with_reducible apply ev_andV
  | with_reducible apply ev_orV
  | with_reducible apply ev_notV
  | with_reducible apply ev_chain
  | with_reducible apply ev_for
  | with_reducible apply ev_src
  | with_reducible apply ev_consG
  | with_reducible apply ev_comp
  | ((with_reducible apply ev_tupG); exact rfl)
  | with_reducible apply ev_lst
  | with_reducible apply ev_tup
  | with_reducible apply ev_par
  | ((with_reducible apply ev_aug); exact rfl)
  | ((with_reducible apply ev_intC); first | (show (0 : Int) < _; decide) | exact powOk_of (by decide) (by decide) (by decide) | exact divOk_of (by decide) (by decide) | skip)
  | ((with_reducible apply ev_mulI); first | exact mulOk_l (by decide) | exact mulOk_r (by decide) | skip)
  | with_reducible exact SetF.zero
  | with_reducible apply SetF.succ
  | ((with_reducible apply len_le); exact rfl)
  | ((with_reducible apply ev_var); exact rfl))
local macro_rules | `(tactic| walk_at "d") => `(tactic| (apply ev_def; (focus exact rfl); (focus (repeat constructor))))
local macro_rules | `(tactic| walk_at "dn") => `(tactic| (apply ev_defN; (focus exact rfl); (focus (repeat constructor))))
section
variable {μ : Sto} {d : D} {ds : List D}
/-! ### the program's tests -/
def TEN30 : Int := 1000000000000000000000000000000
theorem tb_ii : tb (.ty "int") (.ty "int") = some true := by decide
theorem tb_ib : tb (.ty "int") (.ty "bool") = some false := by decide
theorem tb_ll : tb (.ty "list") (.ty "list") = some true := by decide
theorem tb_tt : tb (.ty "tuple") (.ty "tuple") = some true := by decide
theorem tb_ss : tb (.ty "str") (.ty "str") = some true := by decide
theorem is_between_ok {i lo hi : Int} : F_is_between [.int i, .int lo, .int hi] μ = some (.bl (decide (lo ≤ i) && decide (i ≤ hi)), μ) := by
  walk_at "d"
  unfold B_is_between
  repeat walk_at "e"
  exact ev_isi (t := .ty "int") (u := .ty "int") rfl rfl tb_ii
  repeat walk_at "e"
  exact ev_isi (t := .ty "int") (u := .ty "bool") rfl rfl tb_ib
  repeat walk_at "e"
  show _ = some (D.bl (decide (lo ≤ i) && decide (i ≤ hi)), μ)
  by_cases h : lo ≤ i
  · rw [decide_eq_true h, if_pos rfl, Bool.true_and]
    refine ev_bind (x := (.int hi, μ)) rfl ?_
    repeat walk_at "e"
  · rw [decide_eq_false h, if_neg (fun z => nomatch z), Bool.false_and]
  exact trim_same rfl
theorem is_list_ok {lo hi : Int} (h : asL μ d = some ds) : F_is_list [d, .int lo, .int hi] μ = some (.bl (decide (lo ≤ ds.length) && decide ((ds.length : Int) ≤ hi)), μ) := by
  walk_at "d"
  unfold B_is_list
  repeat walk_at "e"
  exact ev_isi (t := .ty "list") (u := .ty "list") (kd_list h) rfl tb_ll
  repeat walk_at "e"
  exact ev_len (asQ_of h)
  repeat walk_at "e"
  show _ = some (D.bl (decide (lo ≤ ds.length) && decide ((ds.length : Int) ≤ hi)), μ)
  by_cases h : lo ≤ ds.length
  · rw [decide_eq_true h, if_pos rfl, Bool.true_and]
    refine ev_bind (x := (.int hi, μ)) rfl ?_
    repeat walk_at "e"
  · rw [decide_eq_false h, if_neg (fun z => nomatch z), Bool.false_and]
  exact trim_same rfl
theorem is_pair_ok {xs : List D} : F_is_pair [.tup xs] μ = some (.bl (decide ((xs.length : Int) = 2)), μ) := by
  walk_at "d"
  unfold B_is_pair
  repeat walk_at "e"
  exact ev_isi (t := .ty "tuple") (u := .ty "tuple") rfl rfl tb_tt
  repeat walk_at "e"
  exact ev_len rfl
  repeat walk_at "e"
  exact trim_same rfl
def kindS (up : Bool) : Str := if up then PySem.Str.ofString "up" else PySem.Str.ofString "down"
theorem kindS_up (up : Bool) : decide (kindS up = PySem.Str.ofString "up") = up := by cases up <;> decide
theorem is_word_ok (up : Bool) : F_is_word [.str (kindS up), .ktp [.str (PySem.Str.ofString "up"), .str (PySem.Str.ofString "down")]] μ = some (.bl true, μ) := by
  walk_at "d"
  unfold B_is_word
  repeat walk_at "e"
  exact ev_isi (t := .ty "str") (u := .ty "str") rfl rfl tb_ss
  repeat walk_at "e"
  have e : inV (.str (kindS up)) [.str (PySem.Str.ofString "up"), .str (PySem.Str.ofString "down")] = true := by cases up <;> decide
  show some (D.bl (inV (.str (kindS up)) [.str (PySem.Str.ofString "up"), .str (PySem.Str.ofString "down")]), μ) = _
  rw [e]
  exact trim_same rfl
theorem check_kind_ok (up : Bool) : F_check_kind [.str (kindS up)] μ = some (.non, μ) := by
  have h1 : F_is_kind [.str (kindS up)] μ = some (.bl true, μ) := by
    walk_at "d"
    unfold B_is_kind
    refine ev_ret (ev_cb (ev_cons rfl (ev_cons rfl ev_nil)) (is_word_ok up))
    exact trim_same rfl
  walk_at "dn"
  unfold B_check_kind
  repeat walk_at "e"
  exact h1
  repeat walk_at "e"
  exact trim_same rfl
/-- what was seen: a number of entries, and of leaves -/
def Seen1 (q : Int × Int) : Prop := (1 ≤ q.1 ∧ q.1 ≤ TEN30) ∧ 1 ≤ q.2 ∧ q.2 ≤ TEN30
theorem is_sight_ok {q : Int × Int} (h : Seen1 q) : F_is_sight [pairD q] μ = some (.bl true, μ) := by
  walk_at "d"
  unfold B_is_sight
  repeat walk_at "e"
  exact is_pair_ok
  rw [decide_eq_true (by rfl)]
  repeat walk_at "e"
  exact ev_ix (d := .int q.1) (ds := [.int q.1, .int q.2]) rfl rfl
  repeat walk_at "e"
  exact is_between_ok
  rw [decide_eq_true h.1.1, decide_eq_true (show q.1 ≤ 1000000000000000000000000000000 from h.1.2), Bool.and_self]
  repeat walk_at "e"
  exact ev_ix (d := .int q.2) (ds := [.int q.1, .int q.2]) rfl rfl
  repeat walk_at "e"
  exact is_between_ok
  rw [decide_eq_true h.2.1, decide_eq_true (show q.2 ≤ 1000000000000000000000000000000 from h.2.2)]
  exact trim_same rfl
/-- a list of what was seen -/
structure Seen (μ : Sto) (d : D) (L : List (Int × Int)) : Prop where
  at_ : asL μ d = some (L.map pairD)
  l1 : 1 ≤ L.length
  l2 : L.length ≤ 20
  ok : ∀ q ∈ L, Seen1 q
theorem check_seen_ok {L : List (Int × Int)} (h : Seen μ d L) : F_check_seen [d] μ = some (.non, μ) := by
  have hl : F_is_list [d, .int 1, .int 20] μ = some (.bl true, μ) := by
    have e := is_list_ok (lo := 1) (hi := 20) h.at_
    rw [List.length_map, decide_eq_true (by have := h.l1; omega), decide_eq_true (by have := h.l2; omega)] at e
    exact e
  obtain ⟨j, e1, hk⟩ := ev_enumA (fa := consA (varO 0) nilA) (τ := [some d, none, none]) (μ := μ) (ev_cons rfl ev_nil) h.at_
  rw [enumD_map] at e1 hk
  obtain ⟨τ', μ', e, rfl, v1, v2, rfl⟩ := loop_inv (en := fun x : (Int × Int) × Nat => D.tup [.int (x.2 : Nat), pairD x.1]) (L := L.zipIdx 0) (k := 0) (j := j) (all := (L.zipIdx 0).map fun x => .tup [.int (x.2 : Nat), pairD x.1]) (g := tupG 2 (consG (nameG 1) (consG (nameG 2) nilG))) (b := ifS (notO (truO (cbO F_is_sight (consA (varO 2) nilA)))) neverO nextO)
    (I := fun i τ μ' => μ' = μ ∧ ∃ v1 v2, τ = [some d, v1, v2]) (τ := [some d, none, none]) (μ := μ) ⟨rfl, _, _, rfl⟩ (fun i τ μ' z => by rw [z.1]; exact hk) (by
      rintro i ⟨q, n⟩ τ μ' ⟨rfl, v1, v2, rfl⟩ hx
      have hm : q ∈ L := by
        have := List.mem_of_getElem? hx
        rw [List.mem_zipIdx_iff_getElem?] at this
        exact List.mem_of_getElem? this
      apply ex_step
      · repeat walk_at "e"
      · repeat walk_at "e"
        exact is_sight_ok (h.ok q hm)
        repeat walk_at "e"
      exact ⟨rfl, _, _, rfl⟩)
  refine ev_defN rfl (by repeat constructor) (τ1 := [some d, v1, v2]) (μ1 := μ') ?_ (trim_same rfl)
  unfold B_check_seen
  refine ev_seq (τ1 := [some d, none, none]) (μ1 := μ') (ev_ifS (ev_not (ev_tru (ev_cb (ev_cons rfl (ev_cons rfl (ev_cons rfl ev_nil))) hl) rfl)) rfl) (ev_for e1 e)
end
end M

set_option Elab.async false
set_option linter.all false
set_option maxRecDepth 100000
set_option maxHeartbeats 4000000
namespace M
open PySem PySem.Spec L2 Z
open PyProof.Rows hiding St pairD
local macro_rules | `(tactic| walk_at "e") => `(tactic| first
  | with_reducible exact ev_next
  | with_reducible exact (rfl : some _ = some _)
  | with_reducible exact ev_c
  | with_reducible exact ev_retN
  | with_reducible exact ev_nil
  | with_reducible exact ev_nilG
  | with_reducible exact ev_addI
  | with_reducible exact ev_int
  | with_reducible exact ev_eqI
  | with_reducible exact ev_neI
  | with_reducible exact ev_eqB
  | with_reducible exact ev_neB
  | with_reducible exact ev_isN
  | with_reducible exact ev_notN
  | with_reducible exact ev_neg
  | with_reducible exact ev_intL
  | with_reducible exact ev_intLB
  | with_reducible exact ev_max
  | with_reducible exact ev_min
  | with_reducible exact ev_truB
  | with_reducible exact ev_eqS
  | with_reducible exact ev_neS
  | ((with_reducible apply ev_name); focus (repeat constructor))
  | with_reducible apply ev_iteT
  | with_reducible apply ev_iteF
  | with_reducible apply ev_iteNT
  | with_reducible apply ev_iteNF
  | with_reducible apply ev_seqX
  | with_reducible apply ev_contN
  | with_reducible exact ev_contR
  | with_reducible exact ev_contB
  | with_reducible exact ev_contC
  | with_reducible apply ev_op
  | with_reducible apply ev_opF
  | with_reducible apply ev_un
  | with_reducible apply ev_cons
  | with_reducible apply ev_cb
  | with_reducible apply ev_val
  | with_reducible apply ev_cell
  | with_reducible apply ev_frz
  | with_reducible apply ev_asg
  | with_reducible apply ev_drop
  | with_reducible apply ev_ret
  | with_reducible apply ev_ifS
  | with_reducible apply ev_ifE
  | with_reducible apply ev_test
  | with_reducible apply ev_tru
  | with_reducible apply ev_and
  | with_reducible apply ev_or
  | with_reducible apply ev_not
  | with_reducible apply ev_andV
  | with_reducible apply ev_orV
  | with_reducible apply ev_notV
  | with_reducible apply ev_chain
  | with_reducible apply ev_for
  | with_reducible apply ev_src
  | with_reducible apply ev_consG
  | with_reducible apply ev_comp
  | ((with_reducible apply ev_tupG); exact rfl)
  | with_reducible apply ev_lst
  | with_reducible apply ev_tup
  | with_reducible apply ev_par
  | ((with_reducible apply ev_aug); exact rfl)
  | ((with_reducible apply ev_intC); first | (show (0 : Int) < _; decide) | exact powOk_of (by decide) (by decide) (by decide) | exact divOk_of (by decide) (by decide) | skip)
  | ((with_reducible apply ev_mulI); first | exact mulOk_l (by decide) | exact mulOk_r (by decide) | skip)
  | with_reducible exact SetF.zero
  | with_reducible apply SetF.succ
  | ((with_reducible apply len_le); exact rfl)
  | ((with_reducible apply ev_var); exact rfl))
local macro_rules | `(tactic| walk_at "d") => `(tactic| (apply ev_def; (focus exact rfl); (focus (repeat constructor))))
local macro_rules | `(tactic| walk_at "dn") => `(tactic| (apply ev_defN; (focus exact rfl); (focus (repeat constructor))))
section
variable {μ : Sto} {d : D} {ds : List D}
/-! ### the parts that a split leaf may leave behind -/
def lo0 (leaf : Int) : Int := max 2 ((leaf + 4) / 4)
def stepP (leaf : Int) (st : Int × Int) (q : Int × Int) : Int × Int := (max st.1 ((q.1 - leaf - 1) / (q.2 - 1) + 1), if 2 < q.2 then min st.2 ((q.1 - leaf - 1) / (q.2 - 2)) else st.2)
def partsL (leaf : Int) : List (Int × Int) → Int × Int → Int × Int
  | [], st => st
  | q :: qs, st => if (stepP leaf st q).2 < (stepP leaf st q).1 then stepP leaf st q else partsL leaf qs (stepP leaf st q)
/-- what a part must be, by what was seen -/
def OkP (leaf s : Int) (q : Int × Int) : Prop := (q.1 - leaf - 1) / (q.2 - 1) + 1 ≤ s ∧ (2 < q.2 → s ≤ (q.1 - leaf - 1) / (q.2 - 2))
theorem stepP_ok {leaf s : Int} {st q : Int × Int} : ((stepP leaf st q).1 ≤ s ∧ s ≤ (stepP leaf st q).2) ↔ (st.1 ≤ s ∧ s ≤ st.2) ∧ OkP leaf s q := by
  unfold stepP OkP
  by_cases h : 2 < q.2
  · simp only [if_pos h]
    constructor
    · intro h1; exact ⟨by omega, by omega, fun _ => by omega⟩
    · intro ⟨h1, h2, h3⟩; have := h3 h; omega
  · simp only [if_neg h]
    constructor
    · intro h1; exact ⟨by omega, by omega, fun z => absurd z h⟩
    · intro ⟨h1, h2, h3⟩; omega
theorem partsL_ok {leaf s : Int} : ∀ (qs : List (Int × Int)) (st : Int × Int), ((partsL leaf qs st).1 ≤ s ∧ s ≤ (partsL leaf qs st).2) ↔ (st.1 ≤ s ∧ s ≤ st.2) ∧ ∀ q ∈ qs, OkP leaf s q
  | [], st => ⟨fun h => ⟨h, fun _ z => nomatch z⟩, fun h => h.1⟩
  | q :: qs, st => by
    rw [partsL]
    by_cases h : (stepP leaf st q).2 < (stepP leaf st q).1
    · rw [if_pos h]
      constructor
      · intro h1; omega
      · intro ⟨h1, h2⟩
        exact stepP_ok.mpr ⟨h1, h2 q List.mem_cons_self⟩
    · rw [if_neg h, partsL_ok qs]
      constructor
      · intro ⟨h1, h2⟩
        obtain ⟨h3, h4⟩ := stepP_ok.mp h1
        exact ⟨h3, fun x m => (List.mem_cons.mp m).elim (fun e => e ▸ h4) (h2 x)⟩
      · intro ⟨h1, h2⟩
        exact ⟨stepP_ok.mpr ⟨h1, h2 q List.mem_cons_self⟩, fun x m => h2 x (List.mem_cons_of_mem _ m)⟩
def SplOk (q : Int × Int) : Prop := q.2.natAbs < 10 ^ 100 ∧ 1 < q.2
theorem parts_loop {leaf : Int} {j : Wat} {all : List D} (hk : chk j all μ) : ∀ (qs : List (Int × Int)), (∀ q ∈ qs, SplOk q) → ∀ (st : Int × Int) (v4 v5 v6 : Option D), ∃ w4 w5 w6,
    loopO j all (tupG 2 (consG (nameG 4) (consG (nameG 5) nilG))) (seqO (asgO (opO (intB fun i j => .int (i - j)) (opO (intB fun i j => .int (i - j)) (varO 4) (varO 0)) (cO (.int (1)))) (nameG 6))
  (seqO (asgO (cbO maxL (consA (varO 2) (consA (opO addB (opO (intC DivOk fun i j => .int (i / j)) (varO 6) (opO (intB fun i j => .int (i - j)) (varO 5) (cO (.int (1))))) (cO (.int (1)))) nilA))) (nameG 2))
  (seqO (ifS (testO (opO (intB fun i j => .bl (decide (j < i))) (varO 5) (cO (.int (2))))) (asgO (cbO minL (consA (varO 3) (consA (opO (intC DivOk fun i j => .int (i / j)) (varO 6) (opO (intB fun i j => .int (i - j)) (varO 5) (cO (.int (2))))) nilA))) (nameG 3)) nextO)
  (ifS (testO (opO (intB fun i j => .bl (decide (j < i))) (varO 2) (varO 3))) brkO nextO)))) (qs.map pairD) [some (.int leaf), some d, some (.int st.1), some (.int st.2), v4, v5, v6] μ = some (.nx [some (.int leaf), some d, some (.int (partsL leaf qs st).1), some (.int (partsL leaf qs st).2), w4, w5, w6] μ)
  | [], _, st, v4, v5, v6 => ⟨v4, v5, v6, loop_nil hk⟩
  | q :: qs, hq, st, v4, v5, v6 => by
    obtain ⟨q0, q1⟩ := hq q List.mem_cons_self
    have e1 : DivOk (q.1 - leaf - 1) (q.2 - 1) := divOk_of (by omega) (by have e : (10 : Nat) ^ 100 + 100 < 10 ^ 200 := (by decide); omega)
    obtain ⟨w4, w5, w6, ih⟩ := parts_loop (leaf := leaf) hk qs (fun x m => hq x (List.mem_cons_of_mem _ m)) (stepP leaf st q) (some (.int q.1)) (some (.int q.2)) (some (.int (q.1 - leaf - 1)))
    have eb : ∀ {o : Ox}, (if decide ((stepP leaf st q).2 < (stepP leaf st q).1) = true then brkO [some (.int leaf), some d, some (.int (stepP leaf st q).1), some (.int (stepP leaf st q).2), some (.int q.1), some (.int q.2), some (.int (q.1 - leaf - 1))] μ else nextO [some (.int leaf), some d, some (.int (stepP leaf st q).1), some (.int (stepP leaf st q).2), some (.int q.1), some (.int q.2), some (.int (q.1 - leaf - 1))] μ) = some o → (seqO (asgO (opO (intB fun i j => .int (i - j)) (opO (intB fun i j => .int (i - j)) (varO 4) (varO 0)) (cO (.int (1)))) (nameG 6))
  (seqO (asgO (cbO maxL (consA (varO 2) (consA (opO addB (opO (intC DivOk fun i j => .int (i / j)) (varO 6) (opO (intB fun i j => .int (i - j)) (varO 5) (cO (.int (1))))) (cO (.int (1)))) nilA))) (nameG 2))
  (seqO (ifS (testO (opO (intB fun i j => .bl (decide (j < i))) (varO 5) (cO (.int (2))))) (asgO (cbO minL (consA (varO 3) (consA (opO (intC DivOk fun i j => .int (i / j)) (varO 6) (opO (intB fun i j => .int (i - j)) (varO 5) (cO (.int (2))))) nilA))) (nameG 3)) nextO)
  (ifS (testO (opO (intB fun i j => .bl (decide (j < i))) (varO 2) (varO 3))) brkO nextO)))) [some (.int leaf), some d, some (.int st.1), some (.int st.2), some (.int q.1), some (.int q.2), v6] μ = some o := fun {o} ho => by
      by_cases h2 : 2 < q.2
      · have e2 : DivOk (q.1 - leaf - 1) (q.2 - 2) := divOk_of (by omega) (by have e : (10 : Nat) ^ 100 + 100 < 10 ^ 200 := (by decide); omega)
        have es : stepP leaf st q = (max st.1 ((q.1 - leaf - 1) / (q.2 - 1) + 1), min st.2 ((q.1 - leaf - 1) / (q.2 - 2))) := by unfold stepP; rw [if_pos h2]
        rw [es] at ho
        repeat walk_at "e"
        exact e1
        repeat walk_at "e"
        rw [decide_eq_true h2]
        repeat walk_at "e"
        exact e2
        repeat walk_at "e"
        exact ho
      · have es : stepP leaf st q = (max st.1 ((q.1 - leaf - 1) / (q.2 - 1) + 1), st.2) := by unfold stepP; rw [if_neg h2]
        rw [es] at ho
        repeat walk_at "e"
        exact e1
        repeat walk_at "e"
        rw [decide_eq_false h2]
        repeat walk_at "e"
        exact ho
    rw [partsL]
    by_cases h : (stepP leaf st q).2 < (stepP leaf st q).1
    · refine ⟨some (.int q.1), some (.int q.2), some (.int (q.1 - leaf - 1)), ?_⟩
      rw [if_pos h, List.map_cons]
      unfold loopO
      rw [if_pos hk]
      refine ev_bind (x := ([some (.int leaf), some d, some (.int st.1), some (.int st.2), some (.int q.1), some (.int q.2), v6], μ)) rfl ?_
      refine ev_bind (eb (o := .bk _ μ) (by rw [if_pos (decide_eq_true h)]; rfl)) rfl
    · refine ⟨w4, w5, w6, ?_⟩
      rw [if_neg h, List.map_cons]
      exact loop_cons hk rfl (eb (by rw [if_neg (by rw [decide_eq_true_iff]; exact h)]; rfl)) ih
def partsOf (leaf : Int) (qs : List (Int × Int)) : Int × Int := partsL leaf qs (lo0 leaf, leaf + 1 - lo0 leaf)
theorem parts_ok {leaf : Int} {qs : List (Int × Int)} (hq : ∀ q ∈ qs, SplOk q) : F_parts [.int leaf, .lst (qs.map pairD)] μ = some (.tup [.int (partsOf leaf qs).1, .int (partsOf leaf qs).2], μ) := by
  obtain ⟨w4, w5, w6, e⟩ := parts_loop (d := .lst (qs.map pairD)) (μ := μ) (leaf := leaf) (j := none) (all := qs.map pairD) trivial qs hq (lo0 leaf, leaf + 1 - lo0 leaf) none none none
  refine ev_def rfl (by repeat constructor) (μ1 := μ) ?_ (trim_same rfl)
  unfold B_parts
  refine ev_seq (τ1 := [some (.int leaf), some (.lst (qs.map pairD)), some (.int (lo0 leaf)), none, none, none, none]) (μ1 := μ) ?_ (ev_seq (τ1 := [some (.int leaf), some (.lst (qs.map pairD)), some (.int (lo0 leaf)), some (.int (leaf + 1 - lo0 leaf)), none, none, none]) (μ1 := μ) ?_ (ev_seq (ev_for (ev_src rfl rfl) e) ?_))
  · unfold lo0
    repeat walk_at "e"
  · repeat walk_at "e"
  · repeat walk_at "e"
end
end M

set_option Elab.async false
set_option linter.all false
set_option maxRecDepth 100000
set_option maxHeartbeats 4000000
namespace M
open PySem PySem.Spec L2 Z
open PyProof.Rows hiding St pairD
local macro_rules | `(tactic| walk_at "e") => `(tactic| first
  | with_reducible exact ev_next
  | with_reducible exact (rfl : some _ = some _)
  | with_reducible exact ev_c
  | with_reducible exact ev_retN
  | with_reducible exact ev_nil
  | with_reducible exact ev_nilG
  | with_reducible exact ev_addI
  | with_reducible exact ev_int
  | with_reducible exact ev_eqI
  | with_reducible exact ev_neI
  | with_reducible exact ev_eqB
  | with_reducible exact ev_neB
  | with_reducible exact ev_isN
  | with_reducible exact ev_notN
  | with_reducible exact ev_neg
  | with_reducible exact ev_intL
  | with_reducible exact ev_intLB
  | with_reducible exact ev_max
  | with_reducible exact ev_min
  | with_reducible exact ev_truB
  | with_reducible exact ev_eqS
  | with_reducible exact ev_neS
  | ((with_reducible apply ev_name); focus (repeat constructor))
  | with_reducible apply ev_iteT
  | with_reducible apply ev_iteF
  | with_reducible apply ev_iteNT
  | with_reducible apply ev_iteNF
  | with_reducible apply ev_seqX
  | with_reducible apply ev_contN
  | with_reducible exact ev_contR
  | with_reducible exact ev_contB
  | with_reducible exact ev_contC
  | with_reducible apply ev_op
  | with_reducible apply ev_opF
  | with_reducible apply ev_un
  | with_reducible apply ev_cons
  | with_reducible apply ev_cb
  | with_reducible apply ev_val
  | with_reducible apply ev_cell
  | with_reducible apply ev_frz
  | with_reducible apply ev_asg
  | with_reducible apply ev_drop
  | with_reducible apply ev_ret
  | with_reducible apply ev_ifS
  | with_reducible apply ev_ifE
  | with_reducible apply ev_test
  | with_reducible apply ev_tru
  | with_reducible apply ev_and
  | with_reducible apply ev_or
  | with_reducible apply ev_not
  | with_reducible apply ev_andV
  | with_reducible apply ev_orV
  | with_reducible apply ev_notV
  | with_reducible apply ev_chain
  | with_reducible apply ev_for
  | with_reducible apply ev_src
  | with_reducible apply ev_consG
  | with_reducible apply ev_comp
  | ((with_reducible apply ev_tupG); exact rfl)
  | with_reducible apply ev_lst
  | with_reducible apply ev_tup
  | with_reducible apply ev_par
  | ((with_reducible apply ev_aug); exact rfl)
  | ((with_reducible apply ev_intC); first | (show (0 : Int) < _; decide) | exact powOk_of (by decide) (by decide) (by decide) | exact divOk_of (by decide) (by decide) | skip)
  | ((with_reducible apply ev_mulI); first | exact mulOk_l (by decide) | exact mulOk_r (by decide) | skip)
  | with_reducible exact SetF.zero
  | with_reducible apply SetF.succ
  | ((with_reducible apply len_le); exact rfl)
  | ((with_reducible apply ev_var); exact rfl))
local macro_rules | `(tactic| walk_at "d") => `(tactic| (apply ev_def; (focus exact rfl); (focus (repeat constructor))))
local macro_rules | `(tactic| walk_at "dn") => `(tactic| (apply ev_defN; (focus exact rfl); (focus (repeat constructor))))
section
variable {μ : Sto} {d : D} {ds : List D}
/-! ### fitting_rules -/
def splitL (L : List (Int × Int)) : List (Int × Int) := L.filter fun q => decide (1 < q.2)
def onesL (L : List (Int × Int)) : List (Int × Int) := L.filter fun q => decide (q.2 = 1)
def lowest (L : List (Int × Int)) : Int := maxI ([3] ++ (onesL L).map fun q => q.1)
def highest (L : List (Int × Int)) (most : Int) : Int := minI ([most] ++ (splitL L).map fun q => q.1 - 1)
def rowOf (up : Bool) (L : List (Int × Int)) (leaf : Int) : Option (Int × Int × Int) :=
  if (partsOf leaf (splitL L)).1 ≤ (partsOf leaf (splitL L)).2 then some (if up then (leaf, (partsOf leaf (splitL L)).1, (partsOf leaf (splitL L)).2) else (leaf, leaf + 1 - (partsOf leaf (splitL L)).2, leaf + 1 - (partsOf leaf (splitL L)).1)) else none
def fitD (up : Bool) (L : List (Int × Int)) (most : Int) : List (Int × Int × Int) := (upto (lowest L) (highest L most + 1 - lowest L).toNat).filterMap (rowOf up L)
theorem lowest_ge (L : List (Int × Int)) : 3 ≤ lowest L := maxI_ge (by rw [List.singleton_append]; exact List.mem_cons_self)
theorem highest_le (L : List (Int × Int)) (most : Int) : highest L most ≤ most := minI_le (by rw [List.singleton_append]; exact List.mem_cons_self)
theorem lowest_le {L : List (Int × Int)} (h : ∀ q ∈ L, Seen1 q) : lowest L ≤ TEN30 := by
  have m := maxI_mem (ns := [3] ++ (onesL L).map fun q => q.1) (by simp)
  show maxI _ ≤ _
  rcases List.mem_append.mp m with m | m
  · rw [List.mem_singleton.mp m]; unfold TEN30; decide
  · obtain ⟨q, hq, e⟩ := List.mem_map.mp m
    rw [← e]
    exact (h q ((List.mem_filter.mp hq).1)).1.2
theorem highest_ge {L : List (Int × Int)} {most : Int} (h : ∀ q ∈ L, Seen1 q) (hm : 0 ≤ most) : 0 ≤ highest L most := by
  have m := minI_mem (ns := [most] ++ (splitL L).map fun q => q.1 - 1) (by simp)
  show 0 ≤ minI _
  rcases List.mem_append.mp m with m | m
  · rw [List.mem_singleton.mp m]; exact hm
  · obtain ⟨q, hq, e⟩ := List.mem_map.mp m
    rw [← e]
    have := (h q ((List.mem_filter.mp hq).1)).1.1
    omega
theorem spl_ok {L : List (Int × Int)} (h : ∀ q ∈ L, Seen1 q) : ∀ q ∈ splitL L, SplOk q := fun q m => by
  obtain ⟨m1, m2⟩ := List.mem_filter.mp m
  have m2 := of_decide_eq_true m2
  obtain ⟨_, h1, h2⟩ := h q m1
  unfold TEN30 at h2
  have e : (1000000000000000000000000000000 : Nat) < 10 ^ 100 := by decide
  exact ⟨by omega, m2⟩
def upD (up : Bool) : D := .str (kindS up)
theorem opt_filterMap_snoc {α β : Type} (f : α → Option β) (l : List α) (x : α) : (l ++ [x]).filterMap f = l.filterMap f ++ (f x).toList := by
  rw [List.filterMap_append]
  cases h : f x <;> simp [h]
theorem set_same {i : Nat} {c : Cell} (h : μ[i]? = some c) : μ.set i c = μ := by
  apply List.ext_getElem?
  intro k
  by_cases e : i = k
  · subst e; rw [List.getElem?_set_self (List.getElem?_eq_some_iff.mp h).1, h]
  · rw [List.getElem?_set_ne e]
def fitFr (up : Bool) (d : D) (L : List (Int × Int)) (most : Int) (b : Nat) (v7 v8 v9 v10 : Option D) : Fr := [some (upD up), some d, some (.int most), some (.lst ((splitL L).map pairD)), some (.int (lowest L)), some (.int (highest L most)), some (.cell b), v7, v8, v9, v10, none, none, none]
theorem fit_turn {up : Bool} {L : List (Int × Int)} {most x : Int} {xs : List (Int × Int × Int)} {b : Nat} {v7 v8 v9 v10 : Option D} (h : ∀ q ∈ L, Seen1 q) (hb : μ[b]? = some (.lst (xs.map tripD))) (hl : xs.length < 1000000) : ∃ w8 w9 w10,
    seqO (asgO (cbO F_parts (consA (varO 7) (consA (varO 3) nilA))) (tupG 2 (consG (nameG 8) (consG (nameG 9) nilG))))
  (ifS (testO (opO (intB fun i j => .bl (decide (i ≤ j))) (varO 8) (varO 9))) (seqO (asgO (ifO (testO (opO (eqB false) (varO 0) (cO (.str (PySem.Str.ofString "up"))))) (tupO (consA (varO 8) (consA (varO 9) nilA))) (tupO (consA (opO (intB fun i j => .int (i - j)) (opO addB (varO 7) (cO (.int (1)))) (varO 9)) (consA (opO (intB fun i j => .int (i - j)) (opO addB (varO 7) (cO (.int (1)))) (varO 8)) nilA)))) (nameG 10))
  (dropO (appO (varO 6) (tupO (consA (varO 7) (starA (varO 10) nilA)))))) nextO) (fitFr up d L most b (some (.int x)) v8 v9 v10) μ = some (.nx (fitFr up d L most b (some (.int x)) w8 w9 w10) (μ.set b (.lst ((xs ++ (rowOf up L x).toList).map tripD)))) := by
  have e1 := parts_ok (leaf := x) (μ := μ) (spl_ok h)
  have s1 : asgO (cbO F_parts (consA (varO 7) (consA (varO 3) nilA))) (tupG 2 (consG (nameG 8) (consG (nameG 9) nilG))) (fitFr up d L most b (some (.int x)) v8 v9 v10) μ = some (.nx (fitFr up d L most b (some (.int x)) (some (.int (partsOf x (splitL L)).1)) (some (.int (partsOf x (splitL L)).2)) v10) μ) := by
    refine ev_asg (ev_cb (ev_cons rfl (ev_cons rfl ev_nil)) e1) (ev_tupG rfl (ev_consG rfl (ev_consG rfl ev_nilG)))
  by_cases hr : (partsOf x (splitL L)).1 ≤ (partsOf x (splitL L)).2
  · have e2 : rowOf up L x = some (if up then (x, (partsOf x (splitL L)).1, (partsOf x (splitL L)).2) else (x, x + 1 - (partsOf x (splitL L)).2, x + 1 - (partsOf x (splitL L)).1)) := if_pos hr
    generalize hA : (partsOf x (splitL L)).1 = A at *
    generalize hB : (partsOf x (splitL L)).2 = B at *
    let t : Int × Int := if up then (A, B) else (x + 1 - B, x + 1 - A)
    have e3 : rowOf up L x = some (x, t) := by rw [e2]; show _ = some (x, if up then (A, B) else _); cases up <;> rfl
    refine ⟨some (.int A), some (.int B), some (.tup [.int t.1, .int t.2]), ev_seq s1 ?_⟩
    refine ev_ifS (ev_test (ev_op rfl rfl ev_int)) ?_
    rw [decide_eq_true hr, if_pos rfl]
    refine ev_seq (τ1 := fitFr up d L most b (some (.int x)) (some (.int A)) (some (.int B)) (some (.tup [.int t.1, .int t.2]))) (μ1 := μ) (ev_asg (ev_ifE (ev_test (ev_op rfl rfl ev_eqS)) ?_) (ev_name (by repeat constructor))) ?_
    · rw [kindS_up]
      cases up with
      | true => exact ev_tup (ev_cons rfl (ev_cons rfl ev_nil)) (len_le rfl)
      | false =>
        show (if false = true then _ else _) = some (D.tup [.int (x + 1 - B), .int (x + 1 - A)], μ)
        rw [if_neg (fun z => nomatch z)]
        exact ev_tup (ev_cons (ev_op (ev_op rfl rfl ev_addI) rfl ev_int) (ev_cons (ev_op (ev_op rfl rfl ev_addI) rfl ev_int) ev_nil)) (len_le rfl)
    · rw [e3]
      refine ev_drop (ev_app rfl hb (ev_tup (ds := [.int x, .int t.1, .int t.2]) (ev_cons rfl (ev_star (xs := [.int t.1, .int t.2]) rfl rfl ev_nil)) (len_le rfl)) hb (by rw [List.length_map]; exact hl)) |>.trans ?_
      rw [List.map_append]
      rfl
  · have e2 : rowOf up L x = none := if_neg hr
    refine ⟨some (.int (partsOf x (splitL L)).1), some (.int (partsOf x (splitL L)).2), v10, ev_seq s1 ?_⟩
    refine ev_ifS (ev_test (ev_op rfl rfl ev_int)) ?_
    rw [decide_eq_false hr, if_neg (fun z => nomatch z), e2]
    show some (Ox.nx _ μ) = some (Ox.nx _ (μ.set b _))
    rw [show (xs ++ (none : Option (Int × Int × Int)).toList) = xs from List.append_nil _]
    congr 2
    exact (set_same hb).symm
noncomputable def fitLoop : MS := forO (rng2O (consA (varO 4) (consA (opO addB (varO 5) (cO (.int (1)))) nilA))) (nameG 7) (seqO (asgO (cbO F_parts (consA (varO 7) (consA (varO 3) nilA))) (tupG 2 (consG (nameG 8) (consG (nameG 9) nilG))))
  (ifS (testO (opO (intB fun i j => .bl (decide (i ≤ j))) (varO 8) (varO 9))) (seqO (asgO (ifO (testO (opO (eqB false) (varO 0) (cO (.str (PySem.Str.ofString "up"))))) (tupO (consA (varO 8) (consA (varO 9) nilA))) (tupO (consA (opO (intB fun i j => .int (i - j)) (opO addB (varO 7) (cO (.int (1)))) (varO 9)) (consA (opO (intB fun i j => .int (i - j)) (opO addB (varO 7) (cO (.int (1)))) (varO 8)) nilA)))) (nameG 10))
  (dropO (appO (varO 6) (tupO (consA (varO 7) (starA (varO 10) nilA)))))) nextO))
theorem fit_loop {up : Bool} {L : List (Int × Int)} {most : Int} {μ0 : Sto} (h : ∀ q ∈ L, Seen1 q) (hs : ∀ q ∈ onesL L, q.1 ≤ 1000000) (hm0 : 0 ≤ most) (hm : most ≤ 1000) : ∃ w7 w8 w9 w10,
    fitLoop (fitFr up d L most μ0.length none none none none) (μ0 ++ [.lst []]) = some (.nx (fitFr up d L most μ0.length w7 w8 w9 w10) (μ0 ++ [.lst ((fitD up L most).map tripD)])) := by
  have h1 := lowest_ge L
  have h2 : lowest L ≤ 1000000 := by
    have m := maxI_mem (ns := [3] ++ (onesL L).map fun q => q.1) (by simp)
    show maxI _ ≤ _
    rcases List.mem_append.mp m with m | m
    · rw [List.mem_singleton.mp m]; decide
    · obtain ⟨q, hq, e⟩ := List.mem_map.mp m
      rw [← e]
      exact hs q hq
  have h3 := highest_le L most
  have h4 := highest_ge h hm0
  obtain ⟨τ', μ', e, ⟨v7, v8, v9, v10, rfl, rfl⟩⟩ := loop_inv (en := D.int) (L := upto (lowest L) (highest L most + 1 - lowest L).toNat) (k := 0) (j := none) (all := (upto (lowest L) (highest L most + 1 - lowest L).toNat).map D.int) (g := nameG 7) (b := seqO (asgO (cbO F_parts (consA (varO 7) (consA (varO 3) nilA))) (tupG 2 (consG (nameG 8) (consG (nameG 9) nilG))))
  (ifS (testO (opO (intB fun i j => .bl (decide (i ≤ j))) (varO 8) (varO 9))) (seqO (asgO (ifO (testO (opO (eqB false) (varO 0) (cO (.str (PySem.Str.ofString "up"))))) (tupO (consA (varO 8) (consA (varO 9) nilA))) (tupO (consA (opO (intB fun i j => .int (i - j)) (opO addB (varO 7) (cO (.int (1)))) (varO 9)) (consA (opO (intB fun i j => .int (i - j)) (opO addB (varO 7) (cO (.int (1)))) (varO 8)) nilA)))) (nameG 10))
  (dropO (appO (varO 6) (tupO (consA (varO 7) (starA (varO 10) nilA)))))) nextO))
    (I := fun i τ μ' => ∃ v7 v8 v9 v10, τ = fitFr up d L most μ0.length v7 v8 v9 v10 ∧ μ' = μ0 ++ [.lst (((upto (lowest L) i).filterMap (rowOf up L)).map tripD)]) (τ := fitFr up d L most μ0.length none none none none) (μ := μ0 ++ [.lst []])
    ⟨none, none, none, none, rfl, rfl⟩ (fun _ _ _ _ => trivial) (by
      rintro i x τ μ' ⟨v7, v8, v9, v10, rfl, rfl⟩ hx
      rw [Nat.zero_add]
      obtain ⟨hi, ex⟩ := upto_get hx
      have hlen : ((upto (lowest L) i).filterMap (rowOf up L)).length < 1000000 := by
        have := List.length_filterMap_le (rowOf up L) (upto (lowest L) i)
        rw [upto_len] at this
        omega
      obtain ⟨w8, w9, w10, et⟩ := fit_turn (up := up) (d := d) (most := most) (x := x) (v7 := v7) (v8 := v8) (v9 := v9) (v10 := v10) h (last_at (μ := μ0) (c := .lst (((upto (lowest L) i).filterMap (rowOf up L)).map tripD))) hlen
      refine ⟨_, _, _, _, rfl, et, _, _, _, _, rfl, ?_⟩
      rw [last_set, upto_snoc, opt_filterMap_snoc, ← ex])
  rw [Nat.zero_add, upto_len] at e
  refine ⟨v7, v8, v9, v10, ?_⟩
  unfold fitLoop
  refine ev_for (s := ((upto (lowest L) (highest L most + 1 - lowest L).toNat).map D.int, none)) (μ1 := μ0 ++ [.lst []]) ?_ e
  rw [← rangeD_upto]
  exact ev_rng2 (ev_cons rfl (ev_cons (ev_op rfl rfl ev_addI) ev_nil)) (by omega)
theorem fit_head {up : Bool} {L : List (Int × Int)} {most : Int} (h : Seen μ d L) (hm : 3 ≤ most ∧ most ≤ 1000) {b : MS} {o : Ox} (hb : b (fitFr up d L most μ.length none none none none) (μ ++ [.lst []]) = some o) :
  (seqO (dropO (cbO F_check_kind (consA (varO 0) nilA)))
  (seqO (dropO (cbO F_check_seen (consA (varO 1) nilA)))
  (seqO (ifS (notO (truO (cbO F_is_between (consA (varO 2) (consA (cO (.int (3))) (consA (cO (.int (1000))) nilA)))))) neverO nextO)
  (seqO (asgO (valO (compF (srcO (varO 1)) (tupG 2 (consG (nameG 11) (consG (nameG 12) nilG))) (testO (opO (intB fun i j => .bl (decide (j < i))) (varO 12) (cO (.int (1))))) (tupO (consA (varO 11) (consA (varO 12) nilA))) [11, 12])) (nameG 3))
  (seqO (asgO (cbO maxsL (consA (valO (opF catL (valO (lstO (consA (cO (.int (3))) nilA))) (valO (compF (srcO (varO 1)) (tupG 2 (consG (nameG 11) (consG (nameG 12) nilG))) (testO (opO (eqB false) (varO 12) (cO (.int (1))))) (varO 11) [11, 12])))) nilA)) (nameG 4))
  (seqO (asgO (cbO minsL (consA (valO (opF catL (valO (lstO (consA (varO 2) nilA))) (valO (compF (srcO (varO 3)) (tupG 2 (consG (nameG 11) (consG (nameG 13) nilG))) yesO (opO (intB fun i j => .int (i - j)) (varO 11) (cO (.int (1)))) [11, 13])))) nilA)) (nameG 5))
  (seqO (asgO (cellO (lstO nilA)) (nameG 6)) b))))))) [some (upD up), some d, some (.int most), none, none, none, none, none, none, none, none, none, none, none] μ = some o := by
  obtain ⟨j, hs, hk⟩ := asL_src h.at_
  have hl := h.l2
  have fl : ∀ p : Int × Int → Bool, (L.filter p).length ≤ 1000000 := fun p => by have := List.length_filter_le p L; omega
  have s3 : F_is_between [.int most, .int 3, .int 1000] μ = some (.bl true, μ) := by
    have e := is_between_ok (μ := μ) (i := most) (lo := 3) (hi := 1000)
    rw [decide_eq_true hm.1, decide_eq_true hm.2] at e
    exact e
  refine ev_seq (ev_drop (ev_cb (ev_cons rfl ev_nil) (check_kind_ok up))) (ev_seq (ev_drop (ev_cb (ev_cons rfl ev_nil) (check_seen_ok h))) (ev_seq (ev_ifS (ev_not (ev_tru (ev_cb (ev_cons rfl (ev_cons rfl (ev_cons rfl ev_nil))) s3) rfl)) rfl) ?_))
  refine ev_seq (τ1 := [some (upD up), some d, some (.int most), some (.lst ((splitL L).map pairD)), none, none, none, none, none, none, none, none, none, none]) (μ1 := μ) (ev_asg (ev_val (ev_comp (ev_src rfl hs) (lc_filt (en := pairD) (h := pairD) (p := fun q => decide (1 < q.2)) hk fun q hq => ⟨_, rfl, ev_test (ev_op rfl rfl ev_int), fun _ => rfl⟩) (by rw [List.length_map]; exact fl _))) (ev_name (by repeat constructor))) ?_
  refine ev_seq (τ1 := [some (upD up), some d, some (.int most), some (.lst ((splitL L).map pairD)), some (.int (lowest L)), none, none, none, none, none, none, none, none, none]) (μ1 := μ) (ev_asg (ev_cb (ev_cons (ev_val (ev_opF (ev_val (ev_lst (ev_cons rfl ev_nil) (len_le rfl))) (ev_val (ev_comp (ev_src rfl hs) (lc_filt (en := pairD) (h := fun q => .int q.1) (p := fun q => decide (q.2 = 1)) hk fun q hq => ⟨_, rfl, ev_test (ev_op rfl rfl ev_eqI), fun _ => rfl⟩) (by rw [List.length_map]; exact fl _))) (ev_cat rfl rfl (by rw [List.length_map]; have := List.length_filter_le (fun q : Int × Int => decide (q.2 = 1)) L; show 1 + _ ≤ _; omega)))) ev_nil) (ev_maxs (ns := [3] ++ (onesL L).map fun q => q.1) ?_ (by simp))) (ev_name (by repeat constructor))) ?_
  · show some _ = some _
    rw [List.map_append, List.map_map]
    rfl
  refine ev_seq (τ1 := [some (upD up), some d, some (.int most), some (.lst ((splitL L).map pairD)), some (.int (lowest L)), some (.int (highest L most)), none, none, none, none, none, none, none, none]) (μ1 := μ) (ev_asg (ev_cb (ev_cons (ev_val (ev_opF (ev_val (ev_lst (ev_cons rfl ev_nil) (len_le rfl))) (ev_val (ev_comp (ev_src rfl rfl) (lc_mapE (en := pairD) (j := none) (all := (splitL L).map pairD) (μ := μ) (h := fun q => .int (q.1 - 1)) trivial fun q hq => ⟨_, rfl, ev_op rfl rfl ev_int⟩) (by rw [List.length_map]; exact fl _))) (ev_cat rfl rfl (by rw [List.length_map]; have := List.length_filter_le (fun q : Int × Int => decide (1 < q.2)) L; show 1 + _ ≤ _; unfold splitL; omega)))) ev_nil) (ev_mins (ns := [most] ++ (splitL L).map fun q => q.1 - 1) ?_ (by simp))) (ev_name (by repeat constructor))) ?_
  · show some _ = some _
    rw [List.map_append, List.map_map]
    rfl
  exact ev_seq (ev_asg (ev_cell (ev_lst ev_nil (len_le rfl))) rfl) hb
theorem D_lt_lst {k : Nat} (xs : List (Int × Int × Int)) : (D.lst (xs.map tripD)).lt k := by
  show D.lts k _
  induction xs with
  | nil => trivial
  | cons x xs ih => exact ⟨⟨trivial, trivial, trivial, trivial⟩, ih⟩
theorem fitting_ok {up : Bool} {L : List (Int × Int)} {most : Int} (h : Seen μ d L) (hs : ∀ q ∈ onesL L, q.1 ≤ 1000000) (hm : 3 ≤ most ∧ most ≤ 1000) : F_fitting_rules [upD up, d, .int most] μ = some (.lst ((fitD up L most).map tripD), μ) := by
  obtain ⟨w7, w8, w9, w10, e⟩ := fit_loop (up := up) (d := d) (L := L) (most := most) (μ0 := μ) h.ok hs (by omega) hm.2
  refine ev_def rfl (by repeat constructor) (fit_head h hm (ev_seq e (ev_ret (ev_frz rfl frz_last)))) ?_
  exact trim_dead1 (D_lt_lst _)
end
end M

set_option Elab.async false
set_option linter.all false
set_option maxRecDepth 100000
set_option maxHeartbeats 4000000
namespace M
open PySem PySem.Spec L2 Z
open PyProof.Rows hiding St pairD
local macro_rules | `(tactic| walk_at "e") => `(tactic| first
  | with_reducible exact ev_next
  | with_reducible exact (rfl : some _ = some _)
  | with_reducible exact ev_c
  | with_reducible exact ev_retN
  | with_reducible exact ev_nil
  | with_reducible exact ev_nilG
  | with_reducible exact ev_addI
  | with_reducible exact ev_int
  | with_reducible exact ev_eqI
  | with_reducible exact ev_neI
  | with_reducible exact ev_eqB
  | with_reducible exact ev_neB
  | with_reducible exact ev_isN
  | with_reducible exact ev_notN
  | with_reducible exact ev_neg
  | with_reducible exact ev_intL
  | with_reducible exact ev_intLB
  | with_reducible exact ev_max
  | with_reducible exact ev_min
  | with_reducible exact ev_truB
  | with_reducible exact ev_eqS
  | with_reducible exact ev_neS
  | ((with_reducible apply ev_name); focus (repeat constructor))
  | with_reducible apply ev_iteT
  | with_reducible apply ev_iteF
  | with_reducible apply ev_iteNT
  | with_reducible apply ev_iteNF
  | with_reducible apply ev_seqX
  | with_reducible apply ev_contN
  | with_reducible exact ev_contR
  | with_reducible exact ev_contB
  | with_reducible exact ev_contC
  | with_reducible apply ev_op
  | with_reducible apply ev_opF
  | with_reducible apply ev_un
  | with_reducible apply ev_cons
  | with_reducible apply ev_cb
  | with_reducible apply ev_val
  | with_reducible apply ev_cell
  | with_reducible apply ev_frz
  | with_reducible apply ev_asg
  | with_reducible apply ev_drop
  | with_reducible apply ev_ret
  | with_reducible apply ev_ifS
  | with_reducible apply ev_ifE
  | with_reducible apply ev_test
  | with_reducible apply ev_tru
  | with_reducible apply ev_and
  | with_reducible apply ev_or
  | with_reducible apply ev_not
  | with_reducible apply ev_andV
  | with_reducible apply ev_orV
  | with_reducible apply ev_notV
  | with_reducible apply ev_chain
  | with_reducible apply ev_for
  | with_reducible apply ev_src
  | with_reducible apply ev_consG
  | with_reducible apply ev_comp
  | ((with_reducible apply ev_tupG); exact rfl)
  | with_reducible apply ev_lst
  | with_reducible apply ev_tup
  | with_reducible apply ev_par
  | ((with_reducible apply ev_aug); exact rfl)
  | ((with_reducible apply ev_intC); first | (show (0 : Int) < _; decide) | exact powOk_of (by decide) (by decide) (by decide) | exact divOk_of (by decide) (by decide) | skip)
  | ((with_reducible apply ev_mulI); first | exact mulOk_l (by decide) | exact mulOk_r (by decide) | skip)
  | with_reducible exact SetF.zero
  | with_reducible apply SetF.succ
  | ((with_reducible apply len_le); exact rfl)
  | ((with_reducible apply ev_var); exact rfl))
local macro_rules | `(tactic| walk_at "d") => `(tactic| (apply ev_def; (focus exact rfl); (focus (repeat constructor))))
local macro_rules | `(tactic| walk_at "dn") => `(tactic| (apply ev_defN; (focus exact rfl); (focus (repeat constructor))))
section
variable {μ : Sto} {d : D} {ds : List D}
/-! ### a load, entry by entry -/
def cnt (leaf st e : Int) : Int := if e ≤ leaf then 1 else 2 + (e - leaf - 1) / st
def szOf (leaf st n : Int) : Int := if n ≤ leaf then n else leaf + 1 - st + (n - leaf - 1) % st
theorem cnt_step {leaf st i : Int} (hl : 1 ≤ leaf) (h0 : 0 < st) (h1 : st ≤ leaf) (hi : 0 ≤ i) :
    (leaf < szOf leaf st i + 1 → cnt leaf st (i + 1) = cnt leaf st i + 1 ∧ szOf leaf st (i + 1) = leaf + 1 - st) ∧ (¬ leaf < szOf leaf st i + 1 → cnt leaf st (i + 1) = cnt leaf st i ∧ szOf leaf st (i + 1) = szOf leaf st i + 1) := by
  unfold cnt szOf
  by_cases c1 : i ≤ leaf
  · rw [if_pos c1, if_pos c1]
    by_cases c2 : i + 1 ≤ leaf
    · rw [if_pos c2, if_pos c2]
      exact ⟨fun h => by omega, fun _ => ⟨rfl, rfl⟩⟩
    · rw [if_neg c2, if_neg c2]
      have e : i + 1 - leaf - 1 = 0 := by omega
      rw [e, Int.zero_ediv, Int.zero_emod]
      exact ⟨fun h => ⟨by omega, by omega⟩, fun h => by omega⟩
  · rw [if_neg c1, if_neg c1, if_neg (by omega), if_neg (by omega)]
    have e : i + 1 - leaf - 1 = (i - leaf - 1) + 1 := by omega
    rw [e]
    have k0 : 0 ≤ i - leaf - 1 := by omega
    generalize i - leaf - 1 = k at *
    have m1 := Int.emod_nonneg k (show st ≠ 0 from by omega)
    have m2 := Int.emod_lt_of_pos k h0
    have m3 := Int.mul_ediv_add_emod k st
    generalize hq : k / st = q at *
    generalize hr : k % st = r at *
    by_cases c3 : r = st - 1
    · have u : (k + 1) / st = q + 1 ∧ (k + 1) % st = 0 := (Int.ediv_emod_unique h0).mpr ⟨by rw [Int.mul_add]; omega, by omega, by omega⟩
      rw [u.1, u.2]
      exact ⟨fun _ => ⟨by omega, by omega⟩, fun h => by omega⟩
    · have u : (k + 1) / st = q ∧ (k + 1) % st = r + 1 := (Int.ediv_emod_unique h0).mpr ⟨by omega, by omega, by omega⟩
      rw [u.1, u.2]
      exact ⟨fun h => by omega, fun _ => ⟨rfl, by omega⟩⟩
def stp (up : Bool) (leaf s : Int) : Int := if up then s else leaf + 1 - s
def cntL (leaf st : Int) (n : Nat) : List Int := (upto 1 n).map (cnt leaf st)
theorem D_lt_ints {k : Nat} (xs : List Int) : (D.lst (xs.map D.int)).lt k := by
  show D.lts k _
  induction xs with
  | nil => trivial
  | cons x xs ih => exact ⟨trivial, ih⟩
end
end M

set_option Elab.async false
set_option linter.all false
set_option maxRecDepth 100000
set_option maxHeartbeats 4000000
namespace M
open PySem PySem.Spec L2 Z
open PyProof.Rows hiding St pairD
local macro_rules | `(tactic| walk_at "e") => `(tactic| first
  | with_reducible exact ev_next
  | with_reducible exact (rfl : some _ = some _)
  | with_reducible exact ev_c
  | with_reducible exact ev_retN
  | with_reducible exact ev_nil
  | with_reducible exact ev_nilG
  | with_reducible exact ev_addI
  | with_reducible exact ev_int
  | with_reducible exact ev_eqI
  | with_reducible exact ev_neI
  | with_reducible exact ev_eqB
  | with_reducible exact ev_neB
  | with_reducible exact ev_isN
  | with_reducible exact ev_notN
  | with_reducible exact ev_neg
  | with_reducible exact ev_intL
  | with_reducible exact ev_intLB
  | with_reducible exact ev_max
  | with_reducible exact ev_min
  | with_reducible exact ev_truB
  | with_reducible exact ev_eqS
  | with_reducible exact ev_neS
  | ((with_reducible apply ev_name); focus (repeat constructor))
  | with_reducible apply ev_iteT
  | with_reducible apply ev_iteF
  | with_reducible apply ev_iteNT
  | with_reducible apply ev_iteNF
  | with_reducible apply ev_seqX
  | with_reducible apply ev_contN
  | with_reducible exact ev_contR
  | with_reducible exact ev_contB
  | with_reducible exact ev_contC
  | with_reducible apply ev_op
  | with_reducible apply ev_opF
  | with_reducible apply ev_un
  | with_reducible apply ev_cons
  | with_reducible apply ev_cb
  | with_reducible apply ev_val
  | with_reducible apply ev_cell
  | with_reducible apply ev_frz
  | with_reducible apply ev_asg
  | with_reducible apply ev_drop
  | with_reducible apply ev_ret
  | with_reducible apply ev_ifS
  | with_reducible apply ev_ifE
  | with_reducible apply ev_test
  | with_reducible apply ev_tru
  | with_reducible apply ev_and
  | with_reducible apply ev_or
  | with_reducible apply ev_not
  | with_reducible apply ev_andV
  | with_reducible apply ev_orV
  | with_reducible apply ev_notV
  | with_reducible apply ev_chain
  | with_reducible apply ev_for
  | with_reducible apply ev_src
  | with_reducible apply ev_consG
  | with_reducible apply ev_comp
  | ((with_reducible apply ev_tupG); exact rfl)
  | with_reducible apply ev_lst
  | with_reducible apply ev_tup
  | with_reducible apply ev_par
  | ((with_reducible apply ev_aug); exact rfl)
  | ((with_reducible apply ev_intC); first | (show (0 : Int) < _; decide) | exact powOk_of (by decide) (by decide) (by decide) | exact divOk_of (by decide) (by decide) | skip)
  | ((with_reducible apply ev_mulI); first | exact mulOk_l (by decide) | exact mulOk_r (by decide) | skip)
  | with_reducible exact SetF.zero
  | with_reducible apply SetF.succ
  | ((with_reducible apply len_le); exact rfl)
  | ((with_reducible apply ev_var); exact rfl))
local macro_rules | `(tactic| walk_at "d") => `(tactic| (apply ev_def; (focus exact rfl); (focus (repeat constructor))))
local macro_rules | `(tactic| walk_at "dn") => `(tactic| (apply ev_defN; (focus exact rfl); (focus (repeat constructor))))
section
variable {μ : Sto} {d : D} {ds : List D}
/-! ### which parts fit -/
def fitB (up : Bool) (L : List (Int × Int)) (leaf s : Int) : Bool := (decide (leaf + 1 ≤ 4 * s) && decide (leaf + 1 ≤ 4 * (leaf + 1 - s))) && decide ((L.filter fun q => !decide (cnt leaf (stp up leaf s) q.1 = q.2)) = [])
def fitsOf (up : Bool) (L : List (Int × Int)) (leaf : Int) : List Int := (upto 2 (leaf - 2).toNat).filter (fitB up L leaf)
theorem partsL_in {leaf : Int} : ∀ (qs : List (Int × Int)) (st : Int × Int), st.1 ≤ (partsL leaf qs st).1 ∧ (partsL leaf qs st).2 ≤ st.2
  | [], st => ⟨Int.le_refl _, Int.le_refl _⟩
  | q :: qs, st => by
    have h1 : st.1 ≤ (stepP leaf st q).1 ∧ (stepP leaf st q).2 ≤ st.2 := by
      unfold stepP
      refine ⟨by omega, ?_⟩
      by_cases h : 2 < q.2
      · simp only [if_pos h]; omega
      · simp only [if_neg h]; omega
    rw [partsL]
    by_cases h : (stepP leaf st q).2 < (stepP leaf st q).1
    · rw [if_pos h]; exact h1
    · rw [if_neg h]
      have h2 := partsL_in (leaf := leaf) qs (stepP leaf st q)
      omega
theorem cnt_iff {b l st : Int} (h0 : 0 < st) (hb : 0 ≤ b) (hl : 2 ≤ l) : 2 + b / st = l ↔ (b / (l - 1) + 1 ≤ st ∧ (2 < l → st ≤ b / (l - 2))) := by
  have m1 := Int.emod_nonneg b (show st ≠ 0 from by omega)
  have m2 := Int.emod_lt_of_pos b h0
  have m3 := Int.mul_ediv_add_emod b st
  have a1 : b / (l - 1) + 1 ≤ st ↔ b < st * (l - 1) := by
    rw [← Int.ediv_lt_iff_lt_mul (show 0 < l - 1 from by omega)]
    omega
  have a2 : 2 < l → (st ≤ b / (l - 2) ↔ st * (l - 2) ≤ b) := fun h => Int.le_ediv_iff_mul_le (by omega)
  have b1 : 2 + b / st = l ↔ (st * (l - 2) ≤ b ∧ b < st * (l - 1)) := by
    have e : st * (l - 1) = st * (l - 2) + st := by rw [show l - 1 = (l - 2) + 1 from by omega, Int.mul_add]; omega
    constructor
    · intro h
      have : b / st = l - 2 := by omega
      rw [this] at m3
      omega
    · intro ⟨h1, h2⟩
      have u : b / st = l - 2 ∧ b % st = b - st * (l - 2) := (Int.ediv_emod_unique h0).mpr ⟨by omega, by omega, by omega⟩
      omega
  rw [b1, a1]
  constructor
  · intro ⟨h1, h2⟩
    exact ⟨h2, fun h => (a2 h).mpr h1⟩
  · intro ⟨h1, h2⟩
    refine ⟨?_, h1⟩
    by_cases h : 2 < l
    · exact (a2 h).mp (h2 h)
    · have : l = 2 := by omega
      subst this
      rw [show (2 : Int) - 2 = 0 from rfl, Int.mul_zero]
      exact hb
theorem stp_in {up : Bool} {leaf s : Int} (h0 : 2 ≤ s) (h1 : s < leaf) : 2 ≤ stp up leaf s ∧ stp up leaf s < leaf := by
  unfold stp
  cases up
  · rw [if_neg (fun z => nomatch z)]; omega
  · rw [if_pos rfl]; omega
theorem fitB_iff {up : Bool} {L : List (Int × Int)} {leaf s : Int} (hL : ∀ q ∈ L, Seen1 q) (h3 : 3 ≤ leaf) (hlo : lowest L ≤ leaf) (hhi : ∀ q ∈ splitL L, leaf < q.1) (h0 : 2 ≤ s) (h1 : s < leaf) :
    fitB up L leaf s = true ↔ ((partsOf leaf (splitL L)).1 ≤ stp up leaf s ∧ stp up leaf s ≤ (partsOf leaf (splitL L)).2) := by
  obtain ⟨t0, t1⟩ := stp_in (up := up) h0 h1
  unfold partsOf
  rw [partsL_ok]
  have ea : (leaf + 1 ≤ 4 * s ∧ leaf + 1 ≤ 4 * (leaf + 1 - s)) ↔ (lo0 leaf ≤ stp up leaf s ∧ stp up leaf s ≤ leaf + 1 - lo0 leaf) := by
    unfold lo0 stp
    cases up
    · rw [if_neg (fun z => nomatch z)]; omega
    · rw [if_pos rfl]; omega
  have eb : ((L.filter fun q => !decide (cnt leaf (stp up leaf s) q.1 = q.2)) = []) ↔ ∀ q ∈ splitL L, OkP leaf (stp up leaf s) q := by
    rw [List.filter_eq_nil_iff]
    have ec : ∀ q ∈ L, 1 < q.2 → leaf < q.1 → (cnt leaf (stp up leaf s) q.1 = q.2 ↔ OkP leaf (stp up leaf s) q) := fun q hq h2 h4 => by
      unfold cnt OkP
      rw [if_neg (by omega)]
      exact cnt_iff (by omega) (by omega) (by omega)
    constructor
    · intro h q hq
      obtain ⟨m1, m2⟩ := List.mem_filter.mp hq
      have h5 := h q m1
      rw [Bool.not_eq_true, Bool.not_eq_false', decide_eq_true_iff] at h5
      exact (ec q m1 (of_decide_eq_true m2) (hhi q hq)).mp h5
    · intro h q hq
      rw [Bool.not_eq_true, Bool.not_eq_false', decide_eq_true_iff]
      by_cases h6 : 1 < q.2
      · have m : q ∈ splitL L := List.mem_filter.mpr ⟨hq, decide_eq_true h6⟩
        exact (ec q hq h6 (hhi q m)).mpr (h q m)
      · have e1 : q.2 = 1 := by have := (hL q hq).2.1; omega
        have m : q.1 ≤ lowest L := maxI_ge (List.mem_append_right _ (List.mem_map.mpr ⟨q, List.mem_filter.mpr ⟨hq, decide_eq_true e1⟩, rfl⟩))
        unfold cnt
        rw [if_pos (by omega), e1]
  unfold fitB
  rw [Bool.and_eq_true, Bool.and_eq_true, decide_eq_true_iff, decide_eq_true_iff, decide_eq_true_iff, ea, eb]
/-- the row of an m, by the law -/
def dueRow (up : Bool) (L : List (Int × Int)) (most leaf : Int) : Option (Int × Int × Int) := if lowest L ≤ leaf ∧ leaf ≤ highest L most then rowOf up L leaf else none
theorem highest_spec {L : List (Int × Int)} {most leaf : Int} (h : leaf ≤ highest L most) : ∀ q ∈ splitL L, leaf < q.1 := fun q hq => by
  have : highest L most ≤ q.1 - 1 := minI_le (List.mem_append_right _ (List.mem_map.mpr ⟨q, hq, rfl⟩))
  omega
theorem fitsOf_eq {up : Bool} {L : List (Int × Int)} {most leaf : Int} (hL : ∀ q ∈ L, Seen1 q) (h3 : 3 ≤ leaf) (hm : leaf ≤ most) :
    (fitsOf up L leaf = [] ∧ dueRow up L most leaf = none) ∨ ∃ A n, fitsOf up L leaf = upto A (n + 1) ∧ dueRow up L most leaf = some (leaf, A, A + n) ∧ 2 ≤ A ∧ A + n < leaf := by
  by_cases hin : lowest L ≤ leaf ∧ leaf ≤ highest L most
  · have hhi := highest_spec hin.2
    unfold dueRow
    rw [if_pos hin]
    have pin := partsL_in (leaf := leaf) (splitL L) (lo0 leaf, leaf + 1 - lo0 leaf)
    have pin1 : lo0 leaf ≤ (partsOf leaf (splitL L)).1 := pin.1
    have pin2 : (partsOf leaf (splitL L)).2 ≤ leaf + 1 - lo0 leaf := pin.2
    have l2 : 2 ≤ lo0 leaf := by unfold lo0; omega
    have key : ∀ A B : Int, (∀ s, 2 ≤ s → s < leaf → (((partsOf leaf (splitL L)).1 ≤ stp up leaf s ∧ stp up leaf s ≤ (partsOf leaf (splitL L)).2) ↔ (A ≤ s ∧ s ≤ B))) → 2 ≤ A → B < leaf → fitsOf up L leaf = upto A (B + 1 - A).toNat := fun A B h hA hB => by
      have e1 : fitsOf up L leaf = (upto 2 (leaf - 2).toNat).filter (fun s => decide (A ≤ s) && decide (s ≤ B)) := by
        apply List.filter_congr
        intro s hs
        obtain ⟨s1, s2⟩ := (mem_upto _ _).mp hs
        have s3 : s < leaf := by omega
        have e2 := fitB_iff (up := up) hL h3 hin.1 hhi s1 s3
        rw [h s s1 s3] at e2
        rw [Bool.eq_iff_iff, e2, Bool.and_eq_true, decide_eq_true_iff, decide_eq_true_iff]
      rw [e1, filter_upto, show max 2 A = A from by omega, show (min (2 + ((leaf - 2).toNat : Int)) (B + 1) - A).toNat = (B + 1 - A).toNat from by omega]
    generalize hA : (partsOf leaf (splitL L)).1 = A0 at *
    generalize hB : (partsOf leaf (splitL L)).2 = B0 at *
    have k2 := key (if up then A0 else leaf + 1 - B0) (if up then B0 else leaf + 1 - A0) (fun s _ _ => by
      unfold stp
      cases up
      · rw [if_neg (fun z => nomatch z), if_neg (fun z => nomatch z), if_neg (fun z => nomatch z)]; omega
      · rw [if_pos rfl, if_pos rfl, if_pos rfl]) (by
      cases up
      · rw [if_neg (fun z => nomatch z)]; omega
      · rw [if_pos rfl]; omega) (by
      cases up
      · rw [if_neg (fun z => nomatch z)]; omega
      · rw [if_pos rfl]; omega)
    unfold rowOf
    rw [hA, hB]
    by_cases hr : A0 ≤ B0
    · rw [if_pos hr]
      refine .inr ⟨if up then A0 else leaf + 1 - B0, (B0 - A0).toNat, ?_, ?_, ?_, ?_⟩
      · rw [k2]
        congr 1
        cases up
        · rw [if_neg (fun z => nomatch z), if_neg (fun z => nomatch z)]; omega
        · rw [if_pos rfl, if_pos rfl]; omega
      · cases up
        · rw [if_neg (fun z => nomatch z), if_neg (fun z => nomatch z)]
          congr 3
          omega
        · rw [if_pos rfl, if_pos rfl]
          congr 3
          omega
      · cases up
        · rw [if_neg (fun z => nomatch z)]; omega
        · rw [if_pos rfl]; omega
      · cases up
        · rw [if_neg (fun z => nomatch z)]; omega
        · rw [if_pos rfl]; omega
    · rw [if_neg hr]
      refine .inl ⟨?_, rfl⟩
      rw [k2]
      have e : (((if up then B0 else leaf + 1 - A0) + 1 - if up then A0 else leaf + 1 - B0)).toNat = 0 := by
        cases up
        · rw [if_neg (fun z => nomatch z), if_neg (fun z => nomatch z)]; omega
        · rw [if_pos rfl, if_pos rfl]; omega
      rw [e]
      rfl
  · refine .inl ⟨?_, if_neg hin⟩
    unfold fitsOf
    rw [List.filter_eq_nil_iff]
    intro s hs
    obtain ⟨s1, s2⟩ := (mem_upto _ _).mp hs
    have s3 : s < leaf := by omega
    obtain ⟨t0, t1⟩ := stp_in (up := up) s1 s3
    have bad : ∃ q ∈ L, ¬ cnt leaf (stp up leaf s) q.1 = q.2 := by
      by_cases h : lowest L ≤ leaf
      · have h2 : highest L most < leaf := by omega
        have m := minI_mem (ns := [most] ++ (splitL L).map fun q => q.1 - 1) (by simp)
        have e0 : minI ([most] ++ (splitL L).map fun q => q.1 - 1) = highest L most := rfl
        rw [e0] at m
        rcases List.mem_append.mp m with m | m
        · have := List.mem_singleton.mp m; omega
        · obtain ⟨q, hq, e⟩ := List.mem_map.mp m
          obtain ⟨q1, q2⟩ := List.mem_filter.mp hq
          refine ⟨q, q1, ?_⟩
          have := of_decide_eq_true q2
          unfold cnt
          rw [if_pos (by omega)]
          omega
      · have m := maxI_mem (ns := [3] ++ (onesL L).map fun q => q.1) (by simp)
        have e0 : maxI ([3] ++ (onesL L).map fun q => q.1) = lowest L := rfl
        rw [e0] at m
        rcases List.mem_append.mp m with m | m
        · have := List.mem_singleton.mp m; omega
        · obtain ⟨q, hq, e⟩ := List.mem_map.mp m
          obtain ⟨q1, q2⟩ := List.mem_filter.mp hq
          refine ⟨q, q1, ?_⟩
          have := of_decide_eq_true q2
          unfold cnt
          rw [if_neg (by omega)]
          have := Int.ediv_nonneg (show 0 ≤ q.1 - leaf - 1 from by omega) (show 0 ≤ stp up leaf s from by omega)
          omega
    obtain ⟨q, q1, q2⟩ := bad
    intro hf
    unfold fitB at hf
    rw [Bool.and_eq_true, decide_eq_true_iff, List.filter_eq_nil_iff] at hf
    have := hf.2 q q1
    rw [Bool.not_eq_true, Bool.not_eq_false', decide_eq_true_iff] at this
    exact q2 this
theorem filterMap_same {α β : Type} {f g : α → Option β} : ∀ {l : List α}, (∀ x ∈ l, f x = g x) → l.filterMap f = l.filterMap g
  | [], _ => rfl
  | x :: l, h => by
    rw [List.filterMap_cons, List.filterMap_cons, h x List.mem_cons_self, filterMap_same fun y m => h y (List.mem_cons_of_mem _ m)]
theorem due_all {up : Bool} {L : List (Int × Int)} {most : Int} (hL : ∀ q ∈ L, Seen1 q) (hm : 3 ≤ most) : (upto 3 (most - 2).toNat).filterMap (dueRow up L most) = fitD up L most := by
  have h1 := lowest_ge L
  have h3 := highest_le L most
  rw [filterMap_filter (p := fun x => decide (lowest L ≤ x) && decide (x ≤ highest L most)) (fun x _ hx => by
    unfold dueRow
    rw [if_neg]
    intro h
    rw [decide_eq_true h.1, decide_eq_true h.2] at hx
    cases hx), filter_upto]
  unfold fitD
  rw [show max 3 (lowest L) = lowest L from by omega, show (min (3 + ((most - 2).toNat : Int)) (highest L most + 1) - lowest L).toNat = (highest L most + 1 - lowest L).toNat from by omega]
  apply filterMap_same
  intro x hx
  obtain ⟨x1, x2⟩ := (mem_upto _ _).mp hx
  unfold dueRow
  rw [if_pos (by omega)]
end
end M

set_option Elab.async false
set_option linter.all false
set_option maxRecDepth 100000
set_option maxHeartbeats 4000000
namespace M
open PySem PySem.Spec L2 Z
open PyProof.Rows hiding St pairD
local macro_rules | `(tactic| walk_at "e") => `(tactic| first
  | with_reducible exact ev_next
  | with_reducible exact (rfl : some _ = some _)
  | with_reducible exact ev_c
  | with_reducible exact ev_retN
  | with_reducible exact ev_nil
  | with_reducible exact ev_nilG
  | with_reducible exact ev_addI
  | with_reducible exact ev_int
  | with_reducible exact ev_eqI
  | with_reducible exact ev_neI
  | with_reducible exact ev_eqB
  | with_reducible exact ev_neB
  | with_reducible exact ev_isN
  | with_reducible exact ev_notN
  | with_reducible exact ev_neg
  | with_reducible exact ev_intL
  | with_reducible exact ev_intLB
  | with_reducible exact ev_max
  | with_reducible exact ev_min
  | with_reducible exact ev_truB
  | with_reducible exact ev_eqS
  | with_reducible exact ev_neS
  | ((with_reducible apply ev_name); focus (repeat constructor))
  | with_reducible apply ev_iteT
  | with_reducible apply ev_iteF
  | with_reducible apply ev_iteNT
  | with_reducible apply ev_iteNF
  | with_reducible apply ev_seqX
  | with_reducible apply ev_contN
  | with_reducible exact ev_contR
  | with_reducible exact ev_contB
  | with_reducible exact ev_contC
  | with_reducible apply ev_op
  | with_reducible apply ev_opF
  | with_reducible apply ev_un
  | with_reducible apply ev_cons
  | with_reducible apply ev_cb
  | with_reducible apply ev_val
  | with_reducible apply ev_cell
  | with_reducible apply ev_frz
  | with_reducible apply ev_asg
  | with_reducible apply ev_drop
  | with_reducible apply ev_ret
  | with_reducible apply ev_ifS
  | with_reducible apply ev_ifE
  | with_reducible apply ev_test
  | with_reducible apply ev_tru
  | with_reducible apply ev_and
  | with_reducible apply ev_or
  | with_reducible apply ev_not
  | with_reducible apply ev_andV
  | with_reducible apply ev_orV
  | with_reducible apply ev_notV
  | with_reducible apply ev_chain
  | with_reducible apply ev_for
  | with_reducible apply ev_src
  | with_reducible apply ev_consG
  | with_reducible apply ev_comp
  | ((with_reducible apply ev_tupG); exact rfl)
  | with_reducible apply ev_lst
  | with_reducible apply ev_tup
  | with_reducible apply ev_par
  | ((with_reducible apply ev_aug); exact rfl)
  | ((with_reducible apply ev_intC); first | (show (0 : Int) < _; decide) | exact powOk_of (by decide) (by decide) (by decide) | exact divOk_of (by decide) (by decide) | skip)
  | ((with_reducible apply ev_mulI); first | exact mulOk_l (by decide) | exact mulOk_r (by decide) | skip)
  | with_reducible exact SetF.zero
  | with_reducible apply SetF.succ
  | ((with_reducible apply len_le); exact rfl)
  | ((with_reducible apply ev_var); exact rfl))
local macro_rules | `(tactic| walk_at "d") => `(tactic| (apply ev_def; (focus exact rfl); (focus (repeat constructor))))
local macro_rules | `(tactic| walk_at "dn") => `(tactic| (apply ev_defN; (focus exact rfl); (focus (repeat constructor))))
section
variable {μ : Sto} {d : D} {ds : List D}
/-! ### the law's own rows -/
theorem asL_same {μ' : Sto} (h : asL μ d = some ds) (hs : ∀ i, i < μ.length → μ'[i]? = μ[i]?) : asL μ' d = some ds := by
  cases d with
  | cell i =>
    unfold asL at h ⊢
    dsimp only at h ⊢
    cases h1 : μ[i]? with
    | none => rw [h1] at h; cases h
    | some c => rw [hs i (List.getElem?_eq_some_iff.mp h1).1, h1]; rw [h1] at h; exact h
  | _ => exact h
theorem Seen.same {μ' : Sto} {L : List (Int × Int)} (h : Seen μ d L) (hs : ∀ i, i < μ.length → μ'[i]? = μ[i]?) : Seen μ' d L := ⟨asL_same h.at_ hs, h.l1, h.l2, h.ok⟩
theorem Seen.app {cs : Sto} {L : List (Int × Int)} (h : Seen μ d L) : Seen (μ ++ cs) d L := h.same fun i hi => List.getElem?_append_left hi
def lastOf (L : List (Int × Int)) : Int := maxI (L.map fun q => q.1)
theorem last_le {L : List (Int × Int)} (hl : 1 ≤ L.length) (hs : ∀ q ∈ L, q.1 ≤ 100000) : lastOf L ≤ 100000 := by
  have m := maxI_mem (ns := L.map fun q => q.1) (by intro z; rw [List.map_eq_nil_iff] at z; rw [z] at hl; simp at hl)
  obtain ⟨q, hq, e⟩ := List.mem_map.mp m
  show maxI _ ≤ _
  rw [← e]
  exact hs q hq
def dueFr (up : Bool) (d : D) (most : Int) (F : Nat) (last leaf : Int) (g : Nat) (v7 v8 v9 v10 : Option D) : Fr := [some (upD up), some d, some (.int most), some (.cell F), some (.int last), some (.int leaf), some (.cell g), v7, v8, v9, v10]
end
end M

set_option Elab.async false
set_option linter.all false
set_option maxRecDepth 100000
set_option maxHeartbeats 4000000
namespace M
open PySem PySem.Spec L2 Z
open PyProof.Rows hiding St pairD
local macro_rules | `(tactic| walk_at "e") => `(tactic| first
  | with_reducible exact ev_next
  | with_reducible exact (rfl : some _ = some _)
  | with_reducible exact ev_c
  | with_reducible exact ev_retN
  | with_reducible exact ev_nil
  | with_reducible exact ev_nilG
  | with_reducible exact ev_addI
  | with_reducible exact ev_int
  | with_reducible exact ev_eqI
  | with_reducible exact ev_neI
  | with_reducible exact ev_eqB
  | with_reducible exact ev_neB
  | with_reducible exact ev_isN
  | with_reducible exact ev_notN
  | with_reducible exact ev_neg
  | with_reducible exact ev_intL
  | with_reducible exact ev_intLB
  | with_reducible exact ev_max
  | with_reducible exact ev_min
  | with_reducible exact ev_truB
  | with_reducible exact ev_eqS
  | with_reducible exact ev_neS
  | ((with_reducible apply ev_name); focus (repeat constructor))
  | with_reducible apply ev_iteT
  | with_reducible apply ev_iteF
  | with_reducible apply ev_iteNT
  | with_reducible apply ev_iteNF
  | with_reducible apply ev_seqX
  | with_reducible apply ev_contN
  | with_reducible exact ev_contR
  | with_reducible exact ev_contB
  | with_reducible exact ev_contC
  | with_reducible apply ev_op
  | with_reducible apply ev_opF
  | with_reducible apply ev_un
  | with_reducible apply ev_cons
  | with_reducible apply ev_cb
  | with_reducible apply ev_val
  | with_reducible apply ev_cell
  | with_reducible apply ev_frz
  | with_reducible apply ev_asg
  | with_reducible apply ev_drop
  | with_reducible apply ev_ret
  | with_reducible apply ev_ifS
  | with_reducible apply ev_ifE
  | with_reducible apply ev_test
  | with_reducible apply ev_tru
  | with_reducible apply ev_and
  | with_reducible apply ev_or
  | with_reducible apply ev_not
  | with_reducible apply ev_andV
  | with_reducible apply ev_orV
  | with_reducible apply ev_notV
  | with_reducible apply ev_chain
  | with_reducible apply ev_for
  | with_reducible apply ev_src
  | with_reducible apply ev_consG
  | with_reducible apply ev_comp
  | ((with_reducible apply ev_tupG); exact rfl)
  | with_reducible apply ev_lst
  | with_reducible apply ev_tup
  | with_reducible apply ev_par
  | ((with_reducible apply ev_aug); exact rfl)
  | ((with_reducible apply ev_intC); first | (show (0 : Int) < _; decide) | exact powOk_of (by decide) (by decide) (by decide) | exact divOk_of (by decide) (by decide) | skip)
  | ((with_reducible apply ev_mulI); first | exact mulOk_l (by decide) | exact mulOk_r (by decide) | skip)
  | with_reducible exact SetF.zero
  | with_reducible apply SetF.succ
  | ((with_reducible apply len_le); exact rfl)
  | ((with_reducible apply ev_var); exact rfl))
local macro_rules | `(tactic| walk_at "d") => `(tactic| (apply ev_def; (focus exact rfl); (focus (repeat constructor))))
local macro_rules | `(tactic| walk_at "dn") => `(tactic| (apply ev_defN; (focus exact rfl); (focus (repeat constructor))))
section
variable {μ : Sto} {d : D} {ds : List D}
/-- all that was there is as it was -/
structure Kept (μ μ' : Sto) : Prop where
  len : μ.length ≤ μ'.length
  same : ∀ i, i < μ.length → μ'[i]? = μ[i]?
theorem Kept.refl : Kept μ μ := ⟨Nat.le_refl _, fun _ _ => rfl⟩
theorem Kept.trans {μ1 μ2 : Sto} (h : Kept μ μ1) (k : Kept μ1 μ2) : Kept μ μ2 := ⟨Nat.le_trans h.len k.len, fun i hi => by rw [k.same i (Nat.lt_of_lt_of_le hi h.len), h.same i hi]⟩
theorem Kept.app {cs : Sto} : Kept μ (μ ++ cs) := ⟨by rw [List.length_append]; omega, fun i hi => List.getElem?_append_left hi⟩
theorem Kept.set {μ1 : Sto} {i : Nat} {c : Cell} (h : Kept μ μ1) (hi : μ.length ≤ i) : Kept μ (μ1.set i c) := ⟨by rw [List.length_set]; exact h.len, fun k hk => by rw [List.getElem?_set_ne (by omega)]; exact h.same k hk⟩
theorem Kept.trim {μ1 : Sto} {d : D} (h : Kept μ μ1) : ∃ μ', trimO μ d μ1 = some (d, μ') ∧ Kept μ μ' := by
  obtain ⟨μ', e, l, s⟩ := trim_cases (d := d) h.len
  exact ⟨μ', e, l, fun i hi => by rw [s i hi]; exact h.same i hi⟩
theorem part_ok {r : Nat} {w : Int} (h : Bag μ r) (h3 : 3 ≤ w) (hw : w ≤ 10 ^ 40) : ∃ v μ', F_law_part [.cell r, .int w] μ = some (.int v, μ') ∧ (2 ≤ v ∧ v < w) ∧ Keep r μ μ' ∧ μ'.length = μ.length ∧ Bag μ' r := by
  have lp : 0 < w + 2 - 2 * max 2 ((w + 4) / 4) ∧ (w + 2 - 2 * max 2 ((w + 4) / 4)).natAbs < 10 ^ 200 := by
    have e : (10 : Int) ^ 40 < 10 ^ 60 := by decide
    have e2 : (10 : Nat) ^ 60 < 10 ^ 200 := by decide
    omega
  obtain ⟨v, μ', e, v0, v1, K, l, B⟩ := pick_k h lp.1 lp.2
  refine ⟨max 2 ((w + 4) / 4) + v, μ', ?_, by omega, K, l, B⟩
  walk_at "d"
  unfold B_law_part
  repeat walk_at "e"
  exact e
  repeat walk_at "e"
  exact trim_same l
end
end M

set_option Elab.async false
set_option linter.all false
set_option maxRecDepth 100000
set_option maxHeartbeats 4000000
namespace M
open PySem PySem.Spec L2 Z
open PyProof.Rows hiding St pairD
local macro_rules | `(tactic| walk_at "e") => `(tactic| first
  | with_reducible exact ev_next
  | with_reducible exact (rfl : some _ = some _)
  | with_reducible exact ev_c
  | with_reducible exact ev_retN
  | with_reducible exact ev_nil
  | with_reducible exact ev_nilG
  | with_reducible exact ev_addI
  | with_reducible exact ev_int
  | with_reducible exact ev_eqI
  | with_reducible exact ev_neI
  | with_reducible exact ev_eqB
  | with_reducible exact ev_neB
  | with_reducible exact ev_isN
  | with_reducible exact ev_notN
  | with_reducible exact ev_neg
  | with_reducible exact ev_intL
  | with_reducible exact ev_intLB
  | with_reducible exact ev_max
  | with_reducible exact ev_min
  | with_reducible exact ev_truB
  | with_reducible exact ev_eqS
  | with_reducible exact ev_neS
  | ((with_reducible apply ev_name); focus (repeat constructor))
  | with_reducible apply ev_iteT
  | with_reducible apply ev_iteF
  | with_reducible apply ev_iteNT
  | with_reducible apply ev_iteNF
  | with_reducible apply ev_seqX
  | with_reducible apply ev_contN
  | with_reducible exact ev_contR
  | with_reducible exact ev_contB
  | with_reducible exact ev_contC
  | with_reducible apply ev_op
  | with_reducible apply ev_opF
  | with_reducible apply ev_un
  | with_reducible apply ev_cons
  | with_reducible apply ev_cb
  | with_reducible apply ev_val
  | with_reducible apply ev_cell
  | with_reducible apply ev_frz
  | with_reducible apply ev_asg
  | with_reducible apply ev_drop
  | with_reducible apply ev_ret
  | with_reducible apply ev_ifS
  | with_reducible apply ev_ifE
  | with_reducible apply ev_test
  | with_reducible apply ev_tru
  | with_reducible apply ev_and
  | with_reducible apply ev_or
  | with_reducible apply ev_not
  | with_reducible apply ev_andV
  | with_reducible apply ev_orV
  | with_reducible apply ev_notV
  | with_reducible apply ev_chain
  | with_reducible apply ev_for
  | with_reducible apply ev_src
  | with_reducible apply ev_consG
  | with_reducible apply ev_comp
  | ((with_reducible apply ev_tupG); exact rfl)
  | with_reducible apply ev_lst
  | with_reducible apply ev_tup
  | with_reducible apply ev_par
  | ((with_reducible apply ev_aug); exact rfl)
  | ((with_reducible apply ev_intC); first | (show (0 : Int) < _; decide) | exact powOk_of (by decide) (by decide) (by decide) | exact divOk_of (by decide) (by decide) | skip)
  | ((with_reducible apply ev_mulI); first | exact mulOk_l (by decide) | exact mulOk_r (by decide) | skip)
  | with_reducible exact SetF.zero
  | with_reducible apply SetF.succ
  | ((with_reducible apply len_le); exact rfl)
  | ((with_reducible apply ev_var); exact rfl))
local macro_rules | `(tactic| walk_at "d") => `(tactic| (apply ev_def; (focus exact rfl); (focus (repeat constructor))))
local macro_rules | `(tactic| walk_at "dn") => `(tactic| (apply ev_defN; (focus exact rfl); (focus (repeat constructor))))
section
variable {μ : Sto} {d : D} {ds : List D}
theorem ixN_of {n k : Nat} (h : k < n) : ixN n (k : Int) = some k := by
  unfold ixN
  rw [if_pos (by omega), if_pos (by omega)]
  simp
theorem ev_slT_scr {m : ME} {ml mh : MO} {τ : Fr} {μ1 μ2 μ3 : Sto} {lo hi : Option Int} (h : m τ μ = some (.scr ds, μ1)) (h1 : ml τ μ1 = some (lo, μ2)) (h2 : mh τ μ2 = some (hi, μ3)) : slT m ml mh τ μ = some (.lst (Z.cutD ds lo hi), μ3) := by
  unfold slT
  rw [h, Option.bind_some]
  dsimp only
  rw [h1, Option.bind_some]
  dsimp only
  rw [h2, Option.bind_some]
  rfl
theorem cutD_map {α : Type} {f : α → D} (l : List α) (lo hi : Option Int) : ∃ L : List α, Z.cutD (l.map f) lo hi = L.map f ∧ L.length ≤ l.length := by
  refine ⟨(l.drop (HT.sIx l.length 0 lo)).take (HT.sIx l.length l.length hi - HT.sIx l.length 0 lo), ?_, ?_⟩
  · unfold Z.cutD
    rw [List.length_map, List.map_take, List.map_drop]
  · rw [List.length_take, List.length_drop]
    omega
open Classical in
theorem ev_reprL {α : Type} {f : α → D} {g : α → PyData} (h : ∀ x, toPy (f x) = some (g x)) {L : List α} (hd : asL μ d = some (L.map f)) (hs : ShowOk (.list (L.map g))) : reprL [d] μ = some (.str (PyData.list (L.map g)).shown, μ) := by
  have e : refDat μ d = some (.list (L.map g)) := by
    have e1 : ((asL μ d).bind fun xs => (toPysT μ xs).map .list) = some (PyData.list (L.map g)) := by
      rw [hd, Option.bind_some, toPysT_tree (toPys_map h L)]
      rfl
    cases d with
    | tup _ => cases hd
    | _ => exact e1
  have e2 : (refDat μ d).bind (fun y => if ShowOk y then some (D.str y.shown, μ) else none) = some (.str (PyData.list (L.map g)).shown, μ) := by
    rw [e, Option.bind_some, if_pos hs]
  cases d with
  | int _ => cases hd
  | _ => exact e2
theorem shw_T {q : Int × Int × Int} (h1 : Sm q.1) (h2 : Sm q.2.1) (h3 : Sm q.2.2) : Shw 2 3012 (datT q) := by
  have := shw_tuple (k := 1) (n := 1001) (l := 3) (xs := [.int q.1, .int q.2.1, .int q.2.2]) (by
    intro x hx
    simp only [List.mem_cons, List.not_mem_nil, or_false] at hx
    rcases hx with rfl | rfl | rfl
    · exact shw_int h1
    · exact shw_int h2
    · exact shw_int h3) (Nat.le_refl 3)
  exact this
theorem sm_of {i : Int} (h : i.natAbs < 10 ^ 60) : Sm i := by
  unfold Sm
  have e : (10 : Nat) ^ 60 < 10 ^ 200 := by decide
  omega
theorem fitD_mem {up : Bool} {L : List (Int × Int)} {most : Int} (hL : ∀ q ∈ L, Seen1 q) (hm : 3 ≤ most) (hm2 : most ≤ 1000) : ∀ t ∈ fitD up L most, (0 ≤ t.1 ∧ t.1 ≤ 1000) ∧ (0 ≤ t.2.1 ∧ t.2.1 ≤ 1000) ∧ (0 ≤ t.2.2 ∧ t.2.2 ≤ 1000) := by
  intro t ht
  rw [← due_all hL hm] at ht
  obtain ⟨x, hx, e⟩ := List.mem_filterMap.mp ht
  obtain ⟨x1, x2⟩ := (mem_upto _ _).mp hx
  rcases fitsOf_eq (up := up) (most := most) (leaf := x) hL x1 (by omega) with ⟨_, f2⟩ | ⟨A, n, _, f2, f3, f4⟩
  · rw [f2] at e; cases e
  · rw [f2] at e
    cases e
    exact ⟨⟨by show 0 ≤ x; omega, by show x ≤ 1000; omega⟩, ⟨by show 0 ≤ A; omega, by show A ≤ 1000; omega⟩, ⟨by show 0 ≤ A + (n : Int); omega, by show A + (n : Int) ≤ 1000; omega⟩⟩
theorem fitD_len {up : Bool} {L : List (Int × Int)} {most : Int} (hL : ∀ q ∈ L, Seen1 q) (hm : 3 ≤ most) (hm2 : most ≤ 1000) : (fitD up L most).length ≤ 1000 := by
  rw [← due_all hL hm]
  have := List.length_filterMap_le (dueRow up L most) (upto 3 (most - 2).toNat)
  rw [upto_len] at this
  omega
theorem show_fit {up : Bool} {L : List (Int × Int)} {most : Int} (hL : ∀ q ∈ L, Seen1 q) (hm : 3 ≤ most) (hm2 : most ≤ 1000) : ShowOk (.list ((fitD up L most).map datT)) := by
  refine (shw_list (k := 2) (n := 3012) (l := 1000) (fun x hx => ?_) (by rw [List.length_map]; exact fitD_len hL hm hm2)).ok (by decide) (by decide)
  obtain ⟨t, ht, rfl⟩ := List.mem_map.mp hx
  obtain ⟨a, b, c⟩ := fitD_mem hL hm hm2 t ht
  have e : 1000 < 10 ^ 60 := by decide
  exact shw_T (sm_of (by omega)) (sm_of (by omega)) (sm_of (by omega))
theorem show_seen {L : List (Int × Int)} (hl : L.length ≤ 20) (h : ∀ q ∈ L, Seen1 q) : ShowOk (.list (L.map datP)) := by
  refine (shw_list (k := 2) (n := 2009) (l := 20) (fun x hx => ?_) (by rw [List.length_map]; exact hl)).ok (by decide) (by decide)
  obtain ⟨q, hq, rfl⟩ := List.mem_map.mp hx
  obtain ⟨⟨a, b⟩, c, e⟩ := h q hq
  unfold TEN30 at b e
  have e : (1000000000000000000000000000000 : Nat) < 10 ^ 60 := by decide
  exact shw_P (sm_of (by omega)) (sm_of (by omega))
/-- what the law has seen -/
def SeenB (q : Int × Int) : Prop := (1 ≤ q.1 ∧ q.1 ≤ 90) ∧ 1 ≤ q.2 ∧ q.2 ≤ 1000
theorem SeenB.seen {q : Int × Int} (h : SeenB q) : Seen1 q := by
  obtain ⟨⟨a, b⟩, c, e⟩ := h
  unfold Seen1 TEN30
  omega
theorem cnt_in {leaf st e : Int} (h0 : 0 < st) (h1 : 1 ≤ e) (h2 : e ≤ 90) (h3 : 3 ≤ leaf) : 1 ≤ cnt leaf st e ∧ cnt leaf st e ≤ 92 := by
  unfold cnt
  by_cases h : e ≤ leaf
  · rw [if_pos h]; omega
  · rw [if_neg h]
    have a := Int.ediv_nonneg (show 0 ≤ e - leaf - 1 from by omega) (show 0 ≤ st from by omega)
    have b := Int.ediv_le_self st (show 0 ≤ e - leaf - 1 from by omega)
    omega
theorem three_at {v : Int} (h0 : 0 ≤ v) (h1 : v < 3) : ∃ x : Int, atI [D.int 12, .int 30, .int 90] v = some (.int x) ∧ 1 ≤ x ∧ x ≤ 90 := by
  have : v = 0 ∨ v = 1 ∨ v = 2 := by omega
  rcases this with rfl | rfl | rfl
  · exact ⟨12, rfl, by decide, by decide⟩
  · exact ⟨30, rfl, by decide, by decide⟩
  · exact ⟨90, rfl, by decide, by decide⟩
theorem four_at {v : Int} (h0 : 0 ≤ v) (h1 : v < 4) : ∃ x : Int, atI [D.int 1, .int (-1), .int 2, .int 40] v = some (.int x) ∧ -1 ≤ x ∧ x ≤ 40 := by
  have : v = 0 ∨ v = 1 ∨ v = 2 ∨ v = 3 := by omega
  rcases this with rfl | rfl | rfl | rfl
  · exact ⟨1, rfl, by decide, by decide⟩
  · exact ⟨-1, rfl, by decide, by decide⟩
  · exact ⟨2, rfl, by decide, by decide⟩
  · exact ⟨40, rfl, by decide, by decide⟩
def small {n : Nat} (h : n < 10 ^ 18) : n < 10 ^ 200 := Nat.lt_trans h (by decide)
theorem see_turn {r S : Nat} {up : Bool} {leaf st : Int} {v5 v6 : Option D} {L : List (Int × Int)} (B : Bag μ r) (hS : μ[S]? = some (.lst (L.map pairD))) (hne : S ≠ r) (h0 : 0 < st) (h3 : 3 ≤ leaf) (hl : L.length < 1000) : ∃ μ' q v6', SeenB q ∧
    (seqO (asgO (opO addB (cO (.int (1))) (cbO F_law_pick (consA (varO 0) (consA (opO ixB (valO (lstO (consA (cO (.int (12))) (consA (cO (.int (30))) (consA (cO (.int (90))) nilA))))) (cbO F_law_pick (consA (varO 0) (consA (cO (.int (3))) nilA)))) nilA)))) (nameG 6))
  (dropO (appO (varO 4) (tupO (consA (varO 6) (consA (opO ixB (varO 3) (opO (intB fun i j => .int (i - j)) (varO 6) (cO (.int (1))))) nilA))))))
      [some (.cell r), some (upD up), some (.int leaf), some (.lst ((cntL leaf st 90).map D.int)), some (.cell S), v5, v6, none, none, none, none, none] μ = some (.nx [some (.cell r), some (upD up), some (.int leaf), some (.lst ((cntL leaf st 90).map D.int)), some (.cell S), v5, v6', none, none, none, none, none] μ')
      ∧ Bag μ' r ∧ μ'[S]? = some (.lst ((L ++ [q]).map pairD)) ∧ μ'.length = μ.length ∧ ∀ i, i < μ.length → i ≠ r → i ≠ S → μ'[i]? = μ[i]? := by
  obtain ⟨v1, μ1, e1, a1, b1, K1, l1, B1⟩ := pick_k (many := 3) B (by decide) (by decide)
  obtain ⟨x, ex, x1, x2⟩ := three_at a1 b1
  obtain ⟨v2, μ2, e2, a2, b2, K2, l2, B2⟩ := pick_k (many := x) B1 (by omega) (small (by omega))
  have K := K1.trans K2
  have hS2 := K.at_ hS hne
  have hc := cnt_in h0 (show 1 ≤ 1 + v2 from by omega) (by omega) h3
  have ec : atI ((cntL leaf st 90).map D.int) (1 + v2 - 1) = some (.int (cnt leaf st (1 + v2))) := by
    obtain ⟨n, hn⟩ : ∃ n : Nat, v2 = (n : Int) := ⟨v2.toNat, by omega⟩
    rw [hn, show (1 : Int) + (n : Int) - 1 = (n : Int) from by omega]
    refine atI_nat ?_
    unfold cntL
    rw [List.getElem?_map, List.getElem?_map, upto_at _ _ _ (by omega)]
    rfl
  refine ⟨μ2.set S (.lst (L.map pairD ++ [pairD (1 + v2, cnt leaf st (1 + v2))])), (1 + v2, cnt leaf st (1 + v2)), some (.int (1 + v2)), ⟨⟨by show 1 ≤ 1 + v2; omega, by show 1 + v2 ≤ 90; omega⟩, by show 1 ≤ cnt leaf st (1 + v2); omega, by show cnt leaf st (1 + v2) ≤ 1000; omega⟩, ?_, B2.set hne, ?_, by rw [List.length_set]; omega, fun i hi h4 h5 => by rw [List.getElem?_set_ne (fun z => h5 z.symm)]; exact K.same i hi h4⟩
  · refine ev_seq (ev_asg (ev_op rfl (ev_cb (ev_cons rfl (ev_cons (ev_op (ev_val (ev_lst (ev_cons rfl (ev_cons rfl (ev_cons rfl ev_nil))) (len_le rfl))) (ev_cb (ev_cons rfl (ev_cons rfl ev_nil)) e1) (ev_ix rfl ex)) ev_nil)) e2) ev_addI) (ev_name (by repeat constructor))) (ev_drop (ev_app rfl hS2 (ev_tup (ev_cons rfl (ev_cons (ev_op rfl (ev_op rfl rfl ev_int) (ev_ix rfl ec)) ev_nil)) (len_le rfl)) hS2 (by rw [List.length_map]; omega)))
  · rw [List.getElem?_set_self (set_lt hS2), List.map_append]
    rfl
end
end M

set_option Elab.async false
set_option linter.all false
set_option maxRecDepth 100000
set_option maxHeartbeats 4000000
namespace M
open PySem PySem.Spec L2 Z
open PyProof.Rows hiding St pairD
local macro_rules | `(tactic| walk_at "e") => `(tactic| first
  | with_reducible exact ev_next
  | with_reducible exact (rfl : some _ = some _)
  | with_reducible exact ev_c
  | with_reducible exact ev_retN
  | with_reducible exact ev_nil
  | with_reducible exact ev_nilG
  | with_reducible exact ev_addI
  | with_reducible exact ev_int
  | with_reducible exact ev_eqI
  | with_reducible exact ev_neI
  | with_reducible exact ev_eqB
  | with_reducible exact ev_neB
  | with_reducible exact ev_isN
  | with_reducible exact ev_notN
  | with_reducible exact ev_neg
  | with_reducible exact ev_intL
  | with_reducible exact ev_intLB
  | with_reducible exact ev_max
  | with_reducible exact ev_min
  | with_reducible exact ev_truB
  | with_reducible exact ev_eqS
  | with_reducible exact ev_neS
  | ((with_reducible apply ev_name); focus (repeat constructor))
  | with_reducible apply ev_iteT
  | with_reducible apply ev_iteF
  | with_reducible apply ev_iteNT
  | with_reducible apply ev_iteNF
  | with_reducible apply ev_seqX
  | with_reducible apply ev_contN
  | with_reducible exact ev_contR
  | with_reducible exact ev_contB
  | with_reducible exact ev_contC
  | with_reducible apply ev_op
  | with_reducible apply ev_opF
  | with_reducible apply ev_un
  | with_reducible apply ev_cons
  | with_reducible apply ev_cb
  | with_reducible apply ev_val
  | with_reducible apply ev_cell
  | with_reducible apply ev_frz
  | with_reducible apply ev_asg
  | with_reducible apply ev_drop
  | with_reducible apply ev_ret
  | with_reducible apply ev_ifS
  | with_reducible apply ev_ifE
  | with_reducible apply ev_test
  | with_reducible apply ev_tru
  | with_reducible apply ev_and
  | with_reducible apply ev_or
  | with_reducible apply ev_not
  | with_reducible apply ev_andV
  | with_reducible apply ev_orV
  | with_reducible apply ev_notV
  | with_reducible apply ev_chain
  | with_reducible apply ev_for
  | with_reducible apply ev_src
  | with_reducible apply ev_consG
  | with_reducible apply ev_comp
  | ((with_reducible apply ev_tupG); exact rfl)
  | with_reducible apply ev_lst
  | with_reducible apply ev_tup
  | with_reducible apply ev_par
  | ((with_reducible apply ev_aug); exact rfl)
  | ((with_reducible apply ev_intC); first | (show (0 : Int) < _; decide) | exact powOk_of (by decide) (by decide) (by decide) | exact divOk_of (by decide) (by decide) | skip)
  | ((with_reducible apply ev_mulI); first | exact mulOk_l (by decide) | exact mulOk_r (by decide) | skip)
  | with_reducible exact SetF.zero
  | with_reducible apply SetF.succ
  | ((with_reducible apply len_le); exact rfl)
  | ((with_reducible apply ev_var); exact rfl))
local macro_rules | `(tactic| walk_at "d") => `(tactic| (apply ev_def; (focus exact rfl); (focus (repeat constructor))))
local macro_rules | `(tactic| walk_at "dn") => `(tactic| (apply ev_defN; (focus exact rfl); (focus (repeat constructor))))
section
variable {μ : Sto} {d : D} {ds : List D}
/-! ### the law's own tests of a rule -/
theorem ev_inI {x : Int} {ns : List Int} {y : D} (h : asQ μ y = some (ns.map D.int)) : inB false (.int x) y μ = some (.bl (decide (x ∈ ns)), μ) := by
  have tv : ∀ l : List Int, toVs (l.map D.int) = some (l.map V.int) := fun l => by
    induction l with
    | nil => rfl
    | cons a l ih => rw [List.map_cons, toVs, ih]; rfl
  have iv : ∀ l : List Int, inV (.int x) (l.map V.int) = decide (x ∈ l) := fun l => by
    induction l with
    | nil => rfl
    | cons a l ih =>
      have e : inV (.int x) (V.int a :: l.map V.int) = (eqV (.int a) (.int x) || inV (.int x) (l.map V.int)) := rfl
      rw [List.map_cons, e, ih]
      have e2 : eqV (.int a) (.int x) = decide (x = a) := by
        by_cases c : x = a
        · subst c; rw [decide_eq_true rfl]; simp [eqV]
        · rw [decide_eq_false c]; simp [eqV]; exact fun z => c z.symm
      rw [e2]
      by_cases c : x = a <;> by_cases c2 : x ∈ l <;> simp [c, c2]
  unfold inB
  show ((toV (.int x)).bind _) = _
  rw [show toV (.int x) = some (.int x) from rfl, Option.bind_some, h, Option.bind_some, tv, Option.bind_some, iv]
  rfl
theorem trim_bag {r : Nat} {μ1 : Sto} {d : D} (B : Bag μ1 r) (h : r < μ.length) : ∃ μ', trimO μ d μ1 = some (d, μ') ∧ Bag μ' r := by
  unfold trimO
  split
  · exact ⟨_, rfl, B⟩
  · split
    · refine ⟨_, rfl, B.of ?_⟩
      rw [List.getElem?_take]
      exact if_pos h
    · exact ⟨_, rfl, B⟩
/-- which part a rule may have, as the law asks -/
def partB (leaf s : Int) : Bool := decide (2 ≤ s ∧ s < leaf) && (decide (leaf + 1 ≤ 4 * s) && decide (leaf + 1 ≤ 4 * (leaf + 1 - s)))
theorem is_part_ok {leaf s : Int} : F_law_is_part [.int leaf, .int s] μ = some (.bl (partB leaf s), μ) := by
  refine ev_def rfl (by repeat constructor) (μ1 := μ) ?_ (trim_same rfl)
  rw [B_law_is_part_eq]
  have t1 : (testO (opO (intB fun i j => .bl (decide (i < j))) (varO 1) (cO (.int (2))))) [some (.int leaf), some (.int s)] μ = some (decide (s < 2), μ) := ev_test (ev_op rfl ev_c ev_int)
  have t2 : (testO (opO (intB fun i j => .bl (decide (i < j))) (opO (intB fun i j => .int (i - j)) (opO addB (varO 0) (cO (.int (1)))) (varO 1)) (cO (.int (2))))) [some (.int leaf), some (.int s)] μ = some (decide (leaf + 1 - s < 2), μ) := ev_test (ev_op (ev_op (ev_op rfl ev_c ev_addI) rfl ev_int) ev_c ev_int)
  have tt : (orO (testO (opO (intB fun i j => .bl (decide (i < j))) (varO 1) (cO (.int (2))))) (testO (opO (intB fun i j => .bl (decide (i < j))) (opO (intB fun i j => .int (i - j)) (opO addB (varO 0) (cO (.int (1)))) (varO 1)) (cO (.int (2)))))) [some (.int leaf), some (.int s)] μ = some (!decide (2 ≤ s ∧ s < leaf), μ) := by
    refine ev_or t1 ?_
    by_cases c : s < 2
    · rw [decide_eq_true c, if_pos rfl, decide_eq_false (by omega)]
      rfl
    · rw [decide_eq_false c, if_neg (fun z => nomatch z), t2]
      congr 2
      by_cases c2 : leaf + 1 - s < 2
      · rw [decide_eq_true c2, decide_eq_false (by omega)]; rfl
      · rw [decide_eq_false c2, decide_eq_true (by omega)]; rfl
  unfold partB
  by_cases c : 2 ≤ s ∧ s < leaf
  · rw [decide_eq_true c] at tt ⊢
    refine ev_seq (τ1 := [some (.int leaf), some (.int s)]) (μ1 := μ) (ev_ifS tt (ev_iteNT rfl)) (ev_ret (ev_andV (k := decide (leaf + 1 ≤ 4 * s)) (ev_op (ev_op ev_c rfl (ev_mulI (mulOk_l (by decide)))) (ev_op rfl ev_c ev_addI) ev_int) ?_))
    by_cases c2 : leaf + 1 ≤ 4 * s
    · rw [decide_eq_true c2, if_pos rfl, Bool.true_and, Bool.true_and]
      exact ev_op (ev_op ev_c (ev_op (ev_op rfl ev_c ev_addI) rfl ev_int) (ev_mulI (mulOk_l (by decide)))) (ev_op rfl ev_c ev_addI) ev_int
    · rw [decide_eq_false c2, if_neg (fun z => nomatch z)]
      rfl
  · rw [decide_eq_false c] at tt ⊢
    exact ev_seqR (ev_ifS tt (ev_iteNF (ev_ret ev_c)))
def allB (up : Bool) (L : List (Int × Int)) (leaf s : Int) : Bool := decide (∀ q ∈ L, cnt leaf (stp up leaf s) q.1 = q.2)
abbrev ftF (up : Bool) (leaf s : Int) (d : D) (st : Int) (v5 v6 v7 : Option D) : Fr := [some (upD up), some (.int leaf), some (.int s), some d, some (.int st), v5, v6, v7]
theorem eqS_upK {up : Bool} : eqB false (upD up) (.str (PySem.Str.ofString "up")) μ = some (.bl up, μ) := by rw [upD, ev_eqS, kindS_up]
theorem step_val {up : Bool} {leaf s : Int} {τ : Fr} {a b c : Nat} (ha : τ[a]?.join = some (upD up)) (hb : τ[b]?.join = some (.int leaf)) (hc : τ[c]?.join = some (.int s)) : (ifO (testO (opO (eqB false) (varO a) (cO (.str (PySem.Str.ofString "up"))))) (varO c) (opO (intB fun i j => .int (i - j)) (opO addB (varO b) (cO (.int (1)))) (varO c))) τ μ = some (.int (stp up leaf s), μ) := by
  refine ev_ifE (k := up) (ev_test (ev_op (ev_var ha) ev_c eqS_upK)) ?_
  unfold stp
  cases up with
  | true => exact ev_var hc
  | false => exact ev_op (ev_op (ev_var hb) ev_c ev_addI) (ev_var hc) ev_int
theorem fits_loop {up : Bool} {leaf s st : Int} {j : Wat} {all : List D} (hk : chk j all μ) (st0 : 0 < st) (stb : st.natAbs < 2 ^ 60) : ∀ (L : List (Int × Int)) {v5 v6 v7 : Option D},
    (∃ w5 w6 w7, loopO j all (tupG 2 (consG (nameG 5) (consG (nameG 6) nilG))) S_law_fits_2b (L.map pairD) (ftF up leaf s d st v5 v6 v7) μ = some (.nx (ftF up leaf s d st w5 w6 w7) μ) ∧ ∀ q ∈ L, cnt leaf st q.1 = q.2) ∨
    (loopO j all (tupG 2 (consG (nameG 5) (consG (nameG 6) nilG))) S_law_fits_2b (L.map pairD) (ftF up leaf s d st v5 v6 v7) μ = some (.rt (.bl false) μ) ∧ ¬ ∀ q ∈ L, cnt leaf st q.1 = q.2)
  | [], v5, v6, v7 => .inl ⟨v5, v6, v7, loop_nil hk, fun _ z => nomatch z⟩
  | q :: L, v5, v6, v7 => by
    have g : (tupG 2 (consG (nameG 5) (consG (nameG 6) nilG))) (pairD q) (ftF up leaf s d st v5 v6 v7) μ = some (ftF up leaf s d st (some (.int q.1)) (some (.int q.2)) v7, μ) := ev_tupG rfl (ev_consG (ev_name (by repeat constructor)) (ev_consG (ev_name (by repeat constructor)) ev_nilG))
    have dv : Z.DivOk (q.1 - leaf - 1) st := ⟨st0, Nat.lt_of_lt_of_le stb (by rw [bigN_eq]; exact Nat.pow_le_pow_right (by decide) (by decide))⟩
    have b1 : S_law_fits_2b1 (ftF up leaf s d st (some (.int q.1)) (some (.int q.2)) v7) μ = some (.nx (ftF up leaf s d st (some (.int q.1)) (some (.int q.2)) (some (.int (cnt leaf st q.1)))) μ) := by
      refine ev_asg (ev_ifE (k := decide (q.1 ≤ leaf)) (ev_test (ev_op rfl rfl ev_int)) ?_) (ev_name (by repeat constructor))
      unfold cnt
      by_cases c : q.1 ≤ leaf
      · rw [decide_eq_true c, if_pos rfl, if_pos c]; rfl
      · rw [decide_eq_false c, if_neg (fun z => nomatch z), if_neg c]
        exact ev_op ev_c (ev_op (ev_op (ev_op rfl rfl ev_int) ev_c ev_int) rfl (ev_intC dv)) ev_addI
    have t : (testO (opO (eqB true) (varO 6) (varO 7))) (ftF up leaf s d st (some (.int q.1)) (some (.int q.2)) (some (.int (cnt leaf st q.1)))) μ = some (!decide (q.2 = cnt leaf st q.1), μ) := ev_test (ev_op rfl rfl ev_neI)
    by_cases c : q.2 = cnt leaf st q.1
    · rw [decide_eq_true c] at t
      have b2 : S_law_fits_2b2 (ftF up leaf s d st (some (.int q.1)) (some (.int q.2)) (some (.int (cnt leaf st q.1)))) μ = some (.nx (ftF up leaf s d st (some (.int q.1)) (some (.int q.2)) (some (.int (cnt leaf st q.1)))) μ) := ev_ifS t (ev_iteNT rfl)
      rcases fits_loop (up := up) (leaf := leaf) (s := s) (all := all) hk st0 stb L (v5 := some (.int q.1)) (v6 := some (.int q.2)) (v7 := some (.int (cnt leaf st q.1))) with ⟨w5, w6, w7, e, h⟩ | ⟨e, h⟩
      · refine .inl ⟨w5, w6, w7, loop_cons hk g (ev_seq b1 b2) e, fun x hx => ?_⟩
        rcases List.mem_cons.mp hx with rfl | hx
        · exact c.symm
        · exact h x hx
      · exact .inr ⟨loop_cons hk g (ev_seq b1 b2) e, fun z => h fun x hx => z x (List.mem_cons_of_mem _ hx)⟩
    · rw [decide_eq_false c] at t
      have b2 : S_law_fits_2b2 (ftF up leaf s d st (some (.int q.1)) (some (.int q.2)) (some (.int (cnt leaf st q.1)))) μ = some (.rt (.bl false) μ) := ev_ifS t (ev_iteNF (ev_ret ev_c))
      refine .inr ⟨?_, fun z => c (z q List.mem_cons_self).symm⟩
      rw [List.map_cons]
      unfold loopO
      rw [if_pos hk, g, Option.bind_some]
      dsimp only
      rw [show S_law_fits_2b (ftF up leaf s d st (some (.int q.1)) (some (.int q.2)) v7) μ = _ from ev_seq b1 b2, Option.bind_some]
theorem law_fits_ok {up : Bool} {L : List (Int × Int)} {leaf s : Int} (h : Seen μ d L) (h3 : leaf ≤ 2000) (s0 : 2 ≤ s) (s1 : s < leaf) : F_law_fits [upD up, .int leaf, .int s, d] μ = some (.bl (allB up L leaf s), μ) := by
  obtain ⟨i0, i1⟩ := stp_in (up := up) s0 s1
  obtain ⟨j, hs, hk⟩ := asL_src h.at_
  refine ev_def rfl (by repeat constructor) (μ1 := μ) ?_ (trim_same rfl)
  rw [B_law_fits_eq]
  have b1 : S_law_fits_1 [some (upD up), some (.int leaf), some (.int s), some d, none, none, none, none] μ = some (.nx (ftF up leaf s d (stp up leaf s) none none none) μ) := ev_asg (step_val rfl rfl rfl) (ev_name (by repeat constructor))
  have sb : (stp up leaf s).natAbs < 2 ^ 60 := by omega
  unfold allB
  rcases fits_loop (up := up) (leaf := leaf) (s := s) (d := d) (all := L.map pairD) hk (show 0 < stp up leaf s by omega) sb L (v5 := none) (v6 := none) (v7 := none) with ⟨w5, w6, w7, e, q⟩ | ⟨e, q⟩
  · rw [decide_eq_true q]
    exact ev_seq b1 (ev_seq (ev_for (s := (L.map pairD, j)) (ev_src rfl hs) e) (ev_ret ev_c))
  · rw [decide_eq_false q]
    exact ev_seq b1 (ev_seqR (ev_for (s := (L.map pairD, j)) (ev_src rfl hs) e))
theorem mem_fits {up : Bool} {L : List (Int × Int)} {leaf s : Int} : s ∈ fitsOf up L leaf ↔ (partB leaf s && allB up L leaf s) = true := by
  unfold fitsOf partB allB fitB
  rw [List.mem_filter, mem_upto]
  simp only [List.filter_eq_nil_iff, Bool.and_eq_true, decide_eq_true_eq, Bool.not_eq_true', decide_eq_false_iff_not, Decidable.not_not]
  constructor
  · rintro ⟨⟨a, b⟩, ⟨c, e⟩, f⟩
    exact ⟨⟨⟨a, by omega⟩, c, e⟩, f⟩
  · rintro ⟨⟨⟨a, b⟩, c, e⟩, f⟩
    exact ⟨⟨a, by omega⟩, ⟨c, e⟩, f⟩
/-- the two tests, one behind the other -/
theorem both_ok {up : Bool} {L : List (Int × Int)} {leaf s : Int} (h : Seen μ d L) (h3 : leaf ≤ 2000) {τ : Fr} {a1 a2 : MF} (e1 : a1 τ μ = some ([.int leaf, .int s], μ)) (e2 : a2 τ μ = some ([upD up, .int leaf, .int s, d], μ)) : (andO (truO (cbO F_law_is_part a1)) (truO (cbO F_law_fits a2))) τ μ = some (decide (s ∈ fitsOf up L leaf), μ) := by
  have t1 : (truO (cbO F_law_is_part a1)) τ μ = some (partB leaf s, μ) := ev_tru (ev_cb e1 is_part_ok) ev_truB
  refine ev_and t1 ?_
  by_cases c : partB leaf s = true
  · rw [c, if_pos rfl]
    have c2 : 2 ≤ s ∧ s < leaf := by
      unfold partB at c
      rw [Bool.and_eq_true] at c
      exact of_decide_eq_true c.1
    have t2 : (truO (cbO F_law_fits a2)) τ μ = some (allB up L leaf s, μ) := ev_tru (ev_cb e2 (law_fits_ok h h3 c2.1 c2.2)) ev_truB
    rw [t2]
    congr 2
    by_cases z : allB up L leaf s = true
    · rw [z, decide_eq_true (mem_fits.mpr (by rw [c, z]; rfl))]
    · have z' : allB up L leaf s = false := by cases hh : allB up L leaf s with | true => exact absurd hh z | false => rfl
      rw [z', decide_eq_false fun q => by have := mem_fits.mp q; rw [c, z'] at this; cases this]
  · have c' : partB leaf s = false := by cases hh : partB leaf s with | true => exact absurd hh c | false => rfl
    rw [c', if_neg (fun z => nomatch z), decide_eq_false fun q => by have := mem_fits.mp q; rw [c'] at this; cases this]
theorem neither_ok {up : Bool} {L : List (Int × Int)} {leaf s : Int} (h : Seen μ d L) (h3 : leaf ≤ 2000) (hf : s ∈ fitsOf up L leaf) {τ : Fr} {a1 a2 : MF} (e1 : a1 τ μ = some ([.int leaf, .int s], μ)) (e2 : a2 τ μ = some ([upD up, .int leaf, .int s, d], μ)) : (orO (notO (truO (cbO F_law_is_part a1))) (notO (truO (cbO F_law_fits a2)))) τ μ = some (false, μ) := by
  have q := mem_fits.mp hf
  rw [Bool.and_eq_true] at q
  have c2 : 2 ≤ s ∧ s < leaf := by
    have c := q.1
    unfold partB at c
    rw [Bool.and_eq_true] at c
    exact of_decide_eq_true c.1
  have t1 : (truO (cbO F_law_is_part a1)) τ μ = some (true, μ) := by
    have := ev_tru (ev_cb e1 (is_part_ok (μ := μ))) ev_truB
    rw [q.1] at this
    exact this
  have t2 : (truO (cbO F_law_fits a2)) τ μ = some (true, μ) := by
    have := ev_tru (ev_cb e2 (law_fits_ok h h3 c2.1 c2.2)) ev_truB
    rw [q.2] at this
    exact this
  exact ev_or (k := false) (ev_not t1) (by rw [if_neg (fun z => nomatch z)]; exact ev_not t2)
end
end M

set_option Elab.async false
set_option linter.all false
set_option maxRecDepth 100000
set_option maxHeartbeats 4000000
namespace M
open PySem PySem.Spec L2 Z
open PyProof.Rows hiding St pairD
local macro_rules | `(tactic| walk_at "e") => `(tactic| first
  | with_reducible exact ev_next
  | with_reducible exact (rfl : some _ = some _)
  | with_reducible exact ev_c
  | with_reducible exact ev_retN
  | with_reducible exact ev_nil
  | with_reducible exact ev_nilG
  | with_reducible exact ev_addI
  | with_reducible exact ev_int
  | with_reducible exact ev_eqI
  | with_reducible exact ev_neI
  | with_reducible exact ev_eqB
  | with_reducible exact ev_neB
  | with_reducible exact ev_isN
  | with_reducible exact ev_notN
  | with_reducible exact ev_neg
  | with_reducible exact ev_intL
  | with_reducible exact ev_intLB
  | with_reducible exact ev_max
  | with_reducible exact ev_min
  | with_reducible exact ev_truB
  | with_reducible exact ev_eqS
  | with_reducible exact ev_neS
  | ((with_reducible apply ev_name); focus (repeat constructor))
  | with_reducible apply ev_iteT
  | with_reducible apply ev_iteF
  | with_reducible apply ev_iteNT
  | with_reducible apply ev_iteNF
  | with_reducible apply ev_seqX
  | with_reducible apply ev_contN
  | with_reducible exact ev_contR
  | with_reducible exact ev_contB
  | with_reducible exact ev_contC
  | with_reducible apply ev_op
  | with_reducible apply ev_opF
  | with_reducible apply ev_un
  | with_reducible apply ev_cons
  | with_reducible apply ev_cb
  | with_reducible apply ev_val
  | with_reducible apply ev_cell
  | with_reducible apply ev_frz
  | with_reducible apply ev_asg
  | with_reducible apply ev_drop
  | with_reducible apply ev_ret
  | with_reducible apply ev_ifS
  | with_reducible apply ev_ifE
  | with_reducible apply ev_test
  | with_reducible apply ev_tru
  | with_reducible apply ev_and
  | with_reducible apply ev_or
  | with_reducible apply ev_not
  | with_reducible apply ev_andV
  | with_reducible apply ev_orV
  | with_reducible apply ev_notV
  | with_reducible apply ev_chain
  | with_reducible apply ev_for
  | with_reducible apply ev_src
  | with_reducible apply ev_consG
  | with_reducible apply ev_comp
  | ((with_reducible apply ev_tupG); exact rfl)
  | with_reducible apply ev_lst
  | with_reducible apply ev_tup
  | with_reducible apply ev_par
  | ((with_reducible apply ev_aug); exact rfl)
  | ((with_reducible apply ev_intC); first | (show (0 : Int) < _; decide) | exact powOk_of (by decide) (by decide) (by decide) | exact divOk_of (by decide) (by decide) | skip)
  | ((with_reducible apply ev_mulI); first | exact mulOk_l (by decide) | exact mulOk_r (by decide) | skip)
  | with_reducible exact SetF.zero
  | with_reducible apply SetF.succ
  | ((with_reducible apply len_le); exact rfl)
  | ((with_reducible apply ev_var); exact rfl))
local macro_rules | `(tactic| walk_at "d") => `(tactic| (apply ev_def; (focus exact rfl); (focus (repeat constructor))))
local macro_rules | `(tactic| walk_at "dn") => `(tactic| (apply ev_defN; (focus exact rfl); (focus (repeat constructor))))
section
variable {μ : Sto} {d : D} {ds : List D}
/-! ### rows that are told, and greatest numbers that are not -/
theorem row_facts {up : Bool} {L : List (Int × Int)} {most : Int} (hL : ∀ q ∈ L, Seen1 q) (hm : 3 ≤ most) {t : Int × Int × Int} (ht : t ∈ fitD up L most) : ∃ n : Nat, 3 ≤ t.1 ∧ t.1 ≤ most ∧ fitsOf up L t.1 = upto t.2.1 (n + 1) ∧ t.2.2 = t.2.1 + n ∧ 2 ≤ t.2.1 ∧ t.2.2 < t.1 := by
  rw [← due_all hL hm] at ht
  obtain ⟨leaf, hl, hd⟩ := List.mem_filterMap.mp ht
  have hl' := (mem_upto _ _).mp hl
  rcases fitsOf_eq (up := up) hL (show 3 ≤ leaf by omega) (show leaf ≤ most by omega) with ⟨_, z⟩ | ⟨A, n, e1, e2, e3, e4⟩
  · rw [z] at hd; cases hd
  · rw [e2] at hd
    cases hd
    exact ⟨n, by show 3 ≤ leaf; omega, by show leaf ≤ most; omega, e1, rfl, e3, e4⟩
theorem no_row {up : Bool} {L : List (Int × Int)} {most leaf : Int} (hL : ∀ q ∈ L, Seen1 q) (hm : 3 ≤ most) (h3 : 3 ≤ leaf) (hl : leaf ≤ most) (hn : leaf ∉ (fitD up L most).map fun t => t.1) : fitsOf up L leaf = [] := by
  rcases fitsOf_eq (up := up) hL h3 hl with ⟨z, _⟩ | ⟨A, n, e1, e2, e3, e4⟩
  · exact z
  · refine absurd (List.mem_map.mpr ⟨(leaf, A, A + n), ?_, rfl⟩) hn
    rw [← due_all hL hm]
    exact List.mem_filterMap.mpr ⟨leaf, (mem_upto _ _).mpr (by omega), e2⟩
theorem row_of {up : Bool} {L : List (Int × Int)} {most leaf s : Int} (hL : ∀ q ∈ L, Seen1 q) (hm : 3 ≤ most) (h3 : 3 ≤ leaf) (hl : leaf ≤ most) (hs : s ∈ fitsOf up L leaf) : ∃ t ∈ fitD up L most, t.1 = leaf ∧ t.2.1 ≤ s ∧ s ≤ t.2.2 := by
  rcases fitsOf_eq (up := up) hL h3 hl with ⟨z, _⟩ | ⟨A, n, e1, e2, e3, e4⟩
  · rw [z] at hs; cases hs
  · refine ⟨(leaf, A, A + n), ?_, rfl, ?_⟩
    · rw [← due_all hL hm]
      exact List.mem_filterMap.mpr ⟨leaf, (mem_upto _ _).mpr (by omega), e2⟩
    · rw [e1] at hs
      have := (mem_upto _ _).mp hs
      exact ⟨by show A ≤ s; omega, by show s ≤ A + n; omega⟩
theorem firsts_up {up : Bool} {L : List (Int × Int)} {most : Int} (hL : ∀ q ∈ L, Seen1 q) (hm : 3 ≤ most) : ((fitD up L most).map fun t => t.1).Pairwise (· < ·) := by
  rw [← due_all hL hm]
  have main : ∀ (n : Nat) (a : Int), 3 ≤ a → a + n ≤ most + 1 → (((upto a n).filterMap (dueRow up L most)).map fun t => t.1).Pairwise (· < ·) ∧ ∀ x ∈ ((upto a n).filterMap (dueRow up L most)).map fun t => t.1, a ≤ x := fun n => by
    induction n with
    | zero => exact fun a _ _ => ⟨.nil, fun x hx => by cases hx⟩
    | succ n ih =>
      intro a h3 hn
      obtain ⟨i1, i2⟩ := ih (a + 1) (by omega) (by omega)
      rw [upto, List.filterMap_cons]
      rcases fitsOf_eq (up := up) hL h3 (show a ≤ most by omega) with ⟨_, z⟩ | ⟨A, k, e1, e2, e3, e4⟩
      · rw [z]
        exact ⟨i1, fun x hx => by have := i2 x hx; omega⟩
      · rw [e2]
        dsimp only
        rw [List.map_cons]
        refine ⟨List.pairwise_cons.mpr ⟨fun x hx => by have := i2 x hx; show a < x; omega, i1⟩, fun x hx => ?_⟩
        rcases List.mem_cons.mp hx with rfl | hx
        · exact Int.le_refl _
        · have := i2 x hx; omega
  exact (main (most - 2).toNat 3 (by omega) (by omega)).1
abbrev lkF (up : Bool) (d : D) (T : List (Int × Int × Int)) (x : Int) (v4 v5 : Option D) : Fr := [some (upD up), some d, some (.lst (T.map tripD)), some (.int x), v4, v5]
theorem leaves_comp {T : List (Int × Int × Int)} {τ τ1 : Fr} {i k : Nat} (hi : τ[i]?.join = some (.lst (T.map tripD))) (hn : ∀ t : Int × Int × Int, (nameG k) (tripD t) (wipeT τ [k]) μ = some ((wipeT τ [k]).set k (some (tripD t)), μ)) (hk : ∀ t : Int × Int × Int, ((wipeT τ [k]).set k (some (tripD t)))[k]?.join = some (tripD t)) (hl : T.length ≤ 1000000) : (valO (compF (srcO (varO i)) (nameG k) yesO (opO ixB (varO k) (cO (.int (0)))) [k])) τ μ = some (.lst ((T.map fun t => t.1).map D.int), μ) := by
  have lc := lc_mapE (en := tripD) (g := nameG k) (e := opO ixB (varO k) (cO (.int 0))) (j := none) (all := T.map tripD) (τ := wipeT τ [k]) (μ := μ) (h := fun t : Int × Int × Int => D.int t.1) trivial (L := T) fun t _ => ⟨_, hn t, ev_op (ev_var (hk t)) ev_c (ev_ix (ds := [.int t.1, .int t.2.1, .int t.2.2]) rfl rfl)⟩
  rw [List.map_map]
  exact ev_val (ev_comp (s := (T.map tripD, none)) (ev_src (ev_var hi) rfl) lc (by rw [List.length_map]; exact hl))
theorem lacks_ok {up : Bool} {L : List (Int × Int)} {most x : Int} (h : Seen μ d L) (hm : 3 ≤ most) (hm2 : most ≤ 1000) (hx : x ≤ most) : F_law_lacks [upD up, d, .lst ((fitD up L most).map tripD), .int x] μ = some (.bl true, μ) := by
  have hT : (fitD up L most).length ≤ 1000 := fitD_len h.ok hm hm2
  refine ev_def rfl (by repeat constructor) (μ1 := μ) ?_ (trim_same rfl)
  rw [B_law_lacks_eq]
  have c1 : (testO (opO (inB false) (varO 3) (valO (compF (srcO (varO 2)) (nameG 4) yesO (opO ixB (varO 4) (cO (.int (0)))) [4])))) (lkF up d (fitD up L most) x none none) μ = some (decide (x ∈ (fitD up L most).map fun t => t.1), μ) := ev_test (ev_op rfl (leaves_comp (τ1 := []) rfl (fun _ => rfl) (fun _ => rfl) (by omega)) (ev_inI rfl))
  have c2 : (testO (opO (intB fun i j => .bl (decide (i < j))) (varO 3) (cO (.int (3))))) (lkF up d (fitD up L most) x none none) μ = some (decide (x < 3), μ) := ev_test (ev_op rfl ev_c ev_int)
  by_cases m1 : x ∈ (fitD up L most).map fun t => t.1
  · rw [decide_eq_true m1] at c1
    exact ev_seqR (ev_ifS (ev_or c1 (ev_iteT rfl)) (ev_iteT (ev_ret ev_c)))
  · rw [decide_eq_false m1] at c1
    by_cases m2 : x < 3
    · rw [decide_eq_true m2] at c2
      exact ev_seqR (ev_ifS (ev_or c1 (by rw [if_neg (fun z => nomatch z)]; exact c2)) (ev_iteT (ev_ret ev_c)))
    · rw [decide_eq_false m2] at c2
      have s1 : S_law_lacks_1 (lkF up d (fitD up L most) x none none) μ = some (.nx (lkF up d (fitD up L most) x none none) μ) := ev_ifS (k := false) (ev_or c1 (by rw [if_neg (fun z => nomatch z)]; exact c2)) (ev_iteF rfl)
      have nf := no_row h.ok hm (by omega) hx m1
      have lc := lc_none (g := nameG 5) (tt := (andO (truO (cbO F_law_is_part (consA (varO 3) (consA (varO 5) nilA)))) (truO (cbO F_law_fits (consA (varO 0) (consA (varO 3) (consA (varO 5) (consA (varO 1) nilA)))))))) (e := cO (.int 1)) (j := none) (all := rangeD 2 (x - 2).toNat) (τ := wipeT (lkF up d (fitD up L most) x none none) [5]) (μ := μ) trivial (ds := rangeD 2 (x - 2).toNat) fun z hz => by
        obtain ⟨k, hk, rfl⟩ := List.mem_map.mp hz
        refine ⟨lkF up d (fitD up L most) x none (some (.int (2 + (k : Int)))), ev_name (by repeat constructor), ?_⟩
        have := both_ok (up := up) (leaf := x) (s := 2 + (k : Int)) h (by omega) (τ := lkF up d (fitD up L most) x none (some (.int (2 + (k : Int))))) (a1 := consA (varO 3) (consA (varO 5) nilA)) (a2 := consA (varO 0) (consA (varO 3) (consA (varO 5) (consA (varO 1) nilA)))) (ev_cons rfl (ev_cons rfl ev_nil)) (ev_cons rfl (ev_cons rfl (ev_cons rfl (ev_cons rfl ev_nil))))
        rw [nf, decide_eq_false (fun z => nomatch z)] at this
        exact this
      exact ev_seq s1 (ev_ret (ev_op (ev_val (ev_comp (ev_rng2 (ev_cons ev_c (ev_cons rfl ev_nil)) (by omega)) lc (Nat.zero_le _))) (ev_val (ev_lst ev_nil (len_le rfl))) rfl))
abbrev rrF (up : Bool) (d : D) (t : Int × Int × Int) (v3 v4 v5 v6 : Option D) : Fr := [some (upD up), some d, some (tripD t), v3, v4, v5, v6]
theorem row_right_ok {up : Bool} {L : List (Int × Int)} {most : Int} (h : Seen μ d L) (hm : 3 ≤ most) (hm2 : most ≤ 1000) {t : Int × Int × Int} (ht : t ∈ fitD up L most) : F_law_row_right [upD up, d, tripD t] μ = some (.bl true, μ) := by
  obtain ⟨n, t1, t2, t3, t4, t5, t6⟩ := row_facts h.ok hm ht
  obtain ⟨leaf, A, B⟩ := t
  dsimp only at t1 t2 t3 t4 t5 t6
  refine ev_def rfl (by repeat constructor) (μ1 := μ) ?_ (trim_same rfl)
  rw [B_law_row_right_eq]
  have s1 : S_law_row_right_1 (rrF up d (leaf, A, B) none none none none) μ = some (.nx (rrF up d (leaf, A, B) (some (.int leaf)) (some (.int A)) (some (.int B)) none) μ) := ev_asg rfl (ev_tupG rfl (ev_consG (ev_name (by repeat constructor)) (ev_consG (ev_name (by repeat constructor)) (ev_consG (ev_name (by repeat constructor)) ev_nilG))))
  have good : ∀ {s : Int} {v6 : Option D}, A ≤ s → s ≤ B → S_law_row_right_2b (rrF up d (leaf, A, B) (some (.int leaf)) (some (.int A)) (some (.int B)) (some (.int s))) μ = some (.nx (rrF up d (leaf, A, B) (some (.int leaf)) (some (.int A)) (some (.int B)) (some (.int s))) μ) := fun {s v6} a b => ev_ifS (k := false) (neither_ok (up := up) (leaf := leaf) (s := s) h (by omega) (by rw [t3]; exact (mem_upto _ _).mpr (by omega)) (ev_cons rfl (ev_cons rfl ev_nil)) (ev_cons rfl (ev_cons rfl (ev_cons rfl (ev_cons rfl ev_nil))))) (ev_iteF rfl)
  have bad : ∀ {s : Int}, (s < A ∨ B < s) → S_law_row_right_3b (rrF up d (leaf, A, B) (some (.int leaf)) (some (.int A)) (some (.int B)) (some (.int s))) μ = some (.nx (rrF up d (leaf, A, B) (some (.int leaf)) (some (.int A)) (some (.int B)) (some (.int s))) μ) := fun {s} ab => by
    have := both_ok (up := up) (leaf := leaf) (s := s) h (by omega) (τ := rrF up d (leaf, A, B) (some (.int leaf)) (some (.int A)) (some (.int B)) (some (.int s))) (a1 := consA (varO 3) (consA (varO 6) nilA)) (a2 := consA (varO 0) (consA (varO 3) (consA (varO 6) (consA (varO 1) nilA)))) (ev_cons rfl (ev_cons rfl ev_nil)) (ev_cons rfl (ev_cons rfl (ev_cons rfl (ev_cons rfl ev_nil))))
    rw [t3, decide_eq_false fun z => by have := (mem_upto _ _).mp z; omega] at this
    exact ev_ifS this (ev_iteF rfl)
  have dv : Z.DivOk (A + B) 2 := divOk_of (by decide) (by decide)
  have s2 : S_law_row_right_2 (rrF up d (leaf, A, B) (some (.int leaf)) (some (.int A)) (some (.int B)) none) μ = some (.nx (rrF up d (leaf, A, B) (some (.int leaf)) (some (.int A)) (some (.int B)) (some (.int ((A + B) / 2)))) μ) :=
    ev_for (s := ([.int A, .int B, .int ((A + B) / 2)], none)) (ev_src (ev_tup (ev_cons rfl (ev_cons rfl (ev_cons (ev_op (ev_op rfl rfl ev_addI) ev_c (ev_intC dv)) ev_nil))) (len_le rfl)) rfl) (loop_cons trivial (ev_name (by repeat constructor)) (good (v6 := none) (Int.le_refl _) (by omega)) (loop_cons trivial (ev_name (by repeat constructor)) (good (v6 := none) (by omega) (Int.le_refl _)) (loop_cons trivial (ev_name (by repeat constructor)) (good (v6 := none) (by omega) (by omega)) (loop_nil trivial))))
  have s3 : S_law_row_right_3 (rrF up d (leaf, A, B) (some (.int leaf)) (some (.int A)) (some (.int B)) (some (.int ((A + B) / 2)))) μ = some (.nx (rrF up d (leaf, A, B) (some (.int leaf)) (some (.int A)) (some (.int B)) (some (.int (B + 1)))) μ) :=
    ev_for (s := ([.int (A - 1), .int (B + 1)], none)) (ev_src (ev_tup (ev_cons (ev_op rfl ev_c ev_int) (ev_cons (ev_op rfl ev_c ev_addI) ev_nil)) (len_le rfl)) rfl) (loop_cons trivial (ev_name (by repeat constructor)) (bad (.inl (by omega))) (loop_cons trivial (ev_name (by repeat constructor)) (bad (.inr (by omega))) (loop_nil trivial)))
  exact ev_seq s1 (ev_seq s2 (ev_seq s3 (ev_ret ev_c)))
end
end M

set_option Elab.async false
set_option linter.all false
set_option maxRecDepth 100000
set_option maxHeartbeats 4000000
namespace M
open PySem PySem.Spec L2 Z
open PyProof.Rows hiding St pairD
local macro_rules | `(tactic| walk_at "e") => `(tactic| first
  | with_reducible exact ev_next
  | with_reducible exact (rfl : some _ = some _)
  | with_reducible exact ev_c
  | with_reducible exact ev_retN
  | with_reducible exact ev_nil
  | with_reducible exact ev_nilG
  | with_reducible exact ev_addI
  | with_reducible exact ev_int
  | with_reducible exact ev_eqI
  | with_reducible exact ev_neI
  | with_reducible exact ev_eqB
  | with_reducible exact ev_neB
  | with_reducible exact ev_isN
  | with_reducible exact ev_notN
  | with_reducible exact ev_neg
  | with_reducible exact ev_intL
  | with_reducible exact ev_intLB
  | with_reducible exact ev_max
  | with_reducible exact ev_min
  | with_reducible exact ev_truB
  | with_reducible exact ev_eqS
  | with_reducible exact ev_neS
  | ((with_reducible apply ev_name); focus (repeat constructor))
  | with_reducible apply ev_iteT
  | with_reducible apply ev_iteF
  | with_reducible apply ev_iteNT
  | with_reducible apply ev_iteNF
  | with_reducible apply ev_seqX
  | with_reducible apply ev_contN
  | with_reducible exact ev_contR
  | with_reducible exact ev_contB
  | with_reducible exact ev_contC
  | with_reducible apply ev_op
  | with_reducible apply ev_opF
  | with_reducible apply ev_un
  | with_reducible apply ev_cons
  | with_reducible apply ev_cb
  | with_reducible apply ev_val
  | with_reducible apply ev_cell
  | with_reducible apply ev_frz
  | with_reducible apply ev_asg
  | with_reducible apply ev_drop
  | with_reducible apply ev_ret
  | with_reducible apply ev_ifS
  | with_reducible apply ev_ifE
  | with_reducible apply ev_test
  | with_reducible apply ev_tru
  | with_reducible apply ev_and
  | with_reducible apply ev_or
  | with_reducible apply ev_not
  | with_reducible apply ev_andV
  | with_reducible apply ev_orV
  | with_reducible apply ev_notV
  | with_reducible apply ev_chain
  | with_reducible apply ev_for
  | with_reducible apply ev_src
  | with_reducible apply ev_consG
  | with_reducible apply ev_comp
  | ((with_reducible apply ev_tupG); exact rfl)
  | with_reducible apply ev_lst
  | with_reducible apply ev_tup
  | with_reducible apply ev_par
  | ((with_reducible apply ev_aug); exact rfl)
  | ((with_reducible apply ev_intC); first | (show (0 : Int) < _; decide) | exact powOk_of (by decide) (by decide) (by decide) | exact divOk_of (by decide) (by decide) | skip)
  | ((with_reducible apply ev_mulI); first | exact mulOk_l (by decide) | exact mulOk_r (by decide) | skip)
  | with_reducible exact SetF.zero
  | with_reducible apply SetF.succ
  | ((with_reducible apply len_le); exact rfl)
  | ((with_reducible apply ev_var); exact rfl))
local macro_rules | `(tactic| walk_at "d") => `(tactic| (apply ev_def; (focus exact rfl); (focus (repeat constructor))))
local macro_rules | `(tactic| walk_at "dn") => `(tactic| (apply ev_defN; (focus exact rfl); (focus (repeat constructor))))
section
variable {μ : Sto} {d : D} {ds : List D}
/-! ### what was seen -/
structure St (r S : Nat) (L : List (Int × Int)) (μ : Sto) : Prop where
  bag : Bag μ r
  at_ : μ[S]? = some (.lst (L.map pairD))
  ne : S ≠ r
theorem pick_t {r S : Nat} {L : List (Int × Int)} {many : Int} (h : St r S L μ) (h0 : 0 < many) (h1 : many ≤ 10 ^ 40) : ∃ v μ', F_law_pick [.cell r, .int many] μ = some (.int v, μ') ∧ 0 ≤ v ∧ v < many ∧ St r S L μ' := by
  obtain ⟨v, μ', e, v0, v1, K, l, B⟩ := pick_k h.bag h0 (many := many) (by
    have e : (10 : Int) ^ 40 < 10 ^ 60 := by decide
    have e2 : (10 : Nat) ^ 60 < 10 ^ 200 := by decide
    omega)
  exact ⟨v, μ', e, v0, v1, ⟨B, K.at_ h.at_ h.ne, h.ne⟩⟩
theorem part_ok2 {r : Nat} {w : Int} (h : Bag μ r) (h3 : 3 ≤ w) (hw : w ≤ 10 ^ 40) : ∃ v μ', F_law_part [.cell r, .int w] μ = some (.int v, μ') ∧ partB w v = true ∧ 2 ≤ v ∧ v < w ∧ Bag μ' r := by
  have lp : 0 < w + 2 - 2 * max 2 ((w + 4) / 4) ∧ (w + 2 - 2 * max 2 ((w + 4) / 4)).natAbs < 10 ^ 200 := by
    have e : (10 : Int) ^ 40 < 10 ^ 60 := by decide
    have e2 : (10 : Nat) ^ 60 < 10 ^ 200 := by decide
    omega
  obtain ⟨v, μ', e, v0, v1, K, l, B⟩ := pick_k h lp.1 lp.2
  refine ⟨max 2 ((w + 4) / 4) + v, μ', ?_, ?_, by omega, by omega, B⟩
  · walk_at "d"
    unfold B_law_part
    repeat walk_at "e"
    exact e
    repeat walk_at "e"
    exact trim_same l
  · unfold partB
    rw [decide_eq_true (by omega), decide_eq_true (by omega), decide_eq_true (by omega)]
    rfl
def El (leaf st : Int) (q : Int × Int) : Prop := (1 ≤ q.1 ∧ q.1 ≤ TEN30) ∧ q.2 = cnt leaf st q.1
theorem cnt_ge {leaf st e : Int} (h0 : 0 < st) : 1 ≤ cnt leaf st e := by
  unfold cnt
  split
  · exact Int.le_refl _
  · have := Int.ediv_nonneg (a := e - leaf - 1) (b := st) (by omega) (by omega)
    omega
theorem cnt_le {leaf st e : Int} (h0 : 2 ≤ st) (h1 : 1 ≤ e) (hl : 0 ≤ leaf) : cnt leaf st e ≤ e + 1 := by
  unfold cnt
  split
  · omega
  · have := Int.ediv_le_self (a := e - leaf - 1) st (by omega)
    omega
theorem cnt_few {leaf st e : Int} (h0 : 0 < st) (h : cnt leaf st e ≤ 2) : e ≤ leaf + st := by
  unfold cnt at h
  split at h
  · omega
  · have h2 : (e - leaf - 1) / st < 1 := by omega
    have := (Int.ediv_lt_iff_lt_mul h0).mp h2
    omega
theorem El.seen {leaf st : Int} {q : Int × Int} (h : El leaf st q) (h0 : 2 ≤ st) (hl : 0 ≤ leaf) : Seen1 q ∧ (q.2 ≤ 2 → q.1 ≤ leaf + st) ∧ q.2 + 1 ≤ TEN30 := by
  obtain ⟨⟨a, b⟩, c⟩ := h
  have c1 := cnt_ge (leaf := leaf) (e := q.1) (show 0 < st by omega)
  have c2 := cnt_le (leaf := leaf) (st := st) (e := q.1) h0 a hl
  have lt : cnt leaf st q.1 + 1 ≤ TEN30 := by
    unfold cnt at c2 ⊢
    split
    · decide
    · rename_i z
      have := Int.ediv_le_self (a := q.1 - leaf - 1) st (by omega)
      have h3 := Int.mul_ediv_self_le (x := q.1 - leaf - 1) (k := st) (by omega)
      have t10 : (10 : Int) ≤ TEN30 := by decide
      have h4 := Int.mul_le_mul_of_nonneg_right h0 (Int.ediv_nonneg (a := q.1 - leaf - 1) (b := st) (by omega) (by omega))
      omega
  exact ⟨⟨⟨a, b⟩, by omega, by omega⟩, fun z => cnt_few (by omega) (by omega), by omega⟩
abbrev rtF (r : Nat) (up : Bool) (leaf s : Int) (S : Nat) (v5 v6 v7 v8 v9 v10 v11 v12 v13 v14 v15 : Option D) : Fr := [some (.cell r), some (upD up), some (.int leaf), some (.int s), some (.cell S), v5, v6, v7, v8, v9, v10, v11, v12, v13, v14, v15, none]
theorem see_loop {r S : Nat} {up : Bool} {leaf s : Int} (h3 : 3 ≤ leaf) (hl : leaf ≤ 1000) (s0 : 2 ≤ s) (s1 : s < leaf) {all : List D} : ∀ (ds : List D) {μ : Sto} {L : List (Int × Int)} {v5 v6 v7 : Option D}, St r S L μ → L.length + ds.length ≤ 1000 → (∀ q ∈ L, El leaf (stp up leaf s) q) →
    ∃ (L' : List (Int × Int)) (w5 w6 w7 : Option D) (μ' : Sto), loopO none all (nameG 5) S_law_right_3b ds (rtF r up leaf s S v5 v6 v7 none none none none none none none none) μ = some (.nx (rtF r up leaf s S w5 w6 w7 none none none none none none none none) μ') ∧ St r S L' μ' ∧ L'.length = L.length + ds.length ∧ ∀ q ∈ L', El leaf (stp up leaf s) q
  | [], μ, L, v5, v6, v7, h, _, hL => ⟨L, v5, v6, v7, μ, loop_nil trivial, h, rfl, hL⟩
  | d :: ds, μ, L, v5, v6, v7, h, hn, hL => by
    rw [List.length_cons] at hn
    obtain ⟨i0, i1⟩ := stp_in (up := up) s0 s1
    obtain ⟨x, μ1, p1, x0, x1, S1⟩ := pick_t (many := 3) h (by decide) (by decide)
    obtain ⟨z, hz, z0, z1⟩ : ∃ z : Int, atI [D.int (2 * leaf), .int (10 ^ Int.toNat 4), .int (10 ^ Int.toNat 30)] x = some (.int z) ∧ 1 ≤ z ∧ z ≤ TEN30 := by
      have t4 : (10 : Int) ^ Int.toNat 4 = 10000 := by decide
      have t30 : (10 : Int) ^ Int.toNat 30 = TEN30 := by unfold TEN30; decide +kernel
      have tb : (10000 : Int) ≤ TEN30 := by decide
      have : x = 0 ∨ x = 1 ∨ x = 2 := by omega
      rcases this with rfl | rfl | rfl
      · exact ⟨2 * leaf, rfl, by omega, by omega⟩
      · exact ⟨10 ^ Int.toNat 4, rfl, by omega, by omega⟩
      · exact ⟨10 ^ Int.toNat 30, rfl, by omega, by omega⟩
    have T40 : TEN30 ≤ 10 ^ 40 := by decide
    obtain ⟨y, μ2, p2, y0, y1, S2⟩ := pick_t (many := z) S1 (by omega) (by omega)
    have b1 : S_law_right_3b1 (rtF r up leaf s S (some d) v6 v7 none none none none none none none none) μ = some (.nx (rtF r up leaf s S (some d) (some (.int (1 + y))) v7 none none none none none none none none) μ2) := ev_asg (ev_op ev_c (ev_cb (ev_cons rfl (ev_cons (ev_op (ev_val (ev_lst (ev_cons (ev_op ev_c rfl (ev_mulI (mulOk_l (by decide)))) (ev_cons (ev_op ev_c ev_c (ev_intC (powOk_of (by decide) (by decide) (by decide)))) (ev_cons (ev_op ev_c ev_c (ev_intC (powOk_of (by decide) (by decide) (by decide)))) ev_nil))) (len_le rfl))) (ev_cb (ev_cons rfl (ev_cons ev_c ev_nil)) p1) (ev_ix rfl hz)) ev_nil)) p2) ev_addI) (ev_name (by repeat constructor))
    have b2 : S_law_right_3b2 (rtF r up leaf s S (some d) (some (.int (1 + y))) v7 none none none none none none none none) μ2 = some (.nx (rtF r up leaf s S (some d) (some (.int (1 + y))) (some (.int (stp up leaf s))) none none none none none none none none) μ2) := ev_asg (step_val rfl rfl rfl) (ev_name (by repeat constructor))
    have dv : Z.DivOk (1 + y - leaf - 1) (stp up leaf s) := ⟨by omega, Nat.lt_of_lt_of_le (show (stp up leaf s).natAbs < 2 ^ 60 by omega) (by rw [bigN_eq]; exact Nat.pow_le_pow_right (by decide) (by decide))⟩
    have cv : (ifO (testO (opO (intB fun i j => .bl (decide (i ≤ j))) (varO 6) (varO 2))) (cO (.int (1))) (opO addB (cO (.int (2))) (opO (intC DivOk fun i j => .int (i / j)) (opO (intB fun i j => .int (i - j)) (opO (intB fun i j => .int (i - j)) (varO 6) (varO 2)) (cO (.int (1)))) (varO 7)))) (rtF r up leaf s S (some d) (some (.int (1 + y))) (some (.int (stp up leaf s))) none none none none none none none none) μ2 = some (.int (cnt leaf (stp up leaf s) (1 + y)), μ2) := by
      refine ev_ifE (k := decide (1 + y ≤ leaf)) (ev_test (ev_op rfl rfl ev_int)) ?_
      unfold cnt
      by_cases c : 1 + y ≤ leaf
      · rw [decide_eq_true c, if_pos rfl, if_pos c]; rfl
      · rw [decide_eq_false c, if_neg (fun z => nomatch z), if_neg c]
        exact ev_op ev_c (ev_op (ev_op (ev_op rfl rfl ev_int) ev_c ev_int) rfl (ev_intC dv)) ev_addI
    have b3 : S_law_right_3b3 (rtF r up leaf s S (some d) (some (.int (1 + y))) (some (.int (stp up leaf s))) none none none none none none none none) μ2 = some (.nx (rtF r up leaf s S (some d) (some (.int (1 + y))) (some (.int (stp up leaf s))) none none none none none none none none) (μ2.set S (.lst ((L ++ [(1 + y, cnt leaf (stp up leaf s) (1 + y))]).map pairD)))) := by
      rw [List.map_append]
      exact ev_drop (ev_app rfl S2.at_ (ev_tup (ev_cons rfl (ev_cons cv ev_nil)) (len_le rfl)) S2.at_ (by rw [List.length_map]; omega))
    have S3 : St r S (L ++ [(1 + y, cnt leaf (stp up leaf s) (1 + y))]) (μ2.set S (.lst ((L ++ [(1 + y, cnt leaf (stp up leaf s) (1 + y))]).map pairD))) := ⟨S2.bag.set S2.ne, by rw [List.getElem?_set_self (List.getElem?_eq_some_iff.mp S2.at_).1], S2.ne⟩
    obtain ⟨L', w5, w6, w7, μ', e, S', l', hL'⟩ := see_loop h3 hl s0 s1 (all := all) ds S3 (v5 := some d) (v6 := some (.int (1 + y))) (v7 := some (.int (stp up leaf s))) (by rw [List.length_append]; show L.length + 1 + ds.length ≤ 1000; omega) fun q hq => by
      rcases List.mem_append.mp hq with hq | hq
      · exact hL q hq
      · rw [List.mem_singleton.mp hq]
        exact ⟨⟨by show 1 ≤ 1 + y; omega, by show 1 + y ≤ TEN30; omega⟩, rfl⟩
    refine ⟨L', w5, w6, w7, μ', loop_cons trivial (ev_name (by repeat constructor)) (ev_seq b1 (ev_seq b2 b3)) e, S', ?_, hL'⟩
    rw [l', List.length_append, List.length_cons, List.length_cons, List.length_nil]
    omega
end
end M

set_option Elab.async false
set_option linter.all false
set_option maxRecDepth 100000
set_option maxHeartbeats 4000000
namespace M
open PySem PySem.Spec L2 Z
open PyProof.Rows hiding St pairD
local macro_rules | `(tactic| walk_at "e") => `(tactic| first
  | with_reducible exact ev_next
  | with_reducible exact (rfl : some _ = some _)
  | with_reducible exact ev_c
  | with_reducible exact ev_retN
  | with_reducible exact ev_nil
  | with_reducible exact ev_nilG
  | with_reducible exact ev_addI
  | with_reducible exact ev_int
  | with_reducible exact ev_eqI
  | with_reducible exact ev_neI
  | with_reducible exact ev_eqB
  | with_reducible exact ev_neB
  | with_reducible exact ev_isN
  | with_reducible exact ev_notN
  | with_reducible exact ev_neg
  | with_reducible exact ev_intL
  | with_reducible exact ev_intLB
  | with_reducible exact ev_max
  | with_reducible exact ev_min
  | with_reducible exact ev_truB
  | with_reducible exact ev_eqS
  | with_reducible exact ev_neS
  | ((with_reducible apply ev_name); focus (repeat constructor))
  | with_reducible apply ev_iteT
  | with_reducible apply ev_iteF
  | with_reducible apply ev_iteNT
  | with_reducible apply ev_iteNF
  | with_reducible apply ev_seqX
  | with_reducible apply ev_contN
  | with_reducible exact ev_contR
  | with_reducible exact ev_contB
  | with_reducible exact ev_contC
  | with_reducible apply ev_op
  | with_reducible apply ev_opF
  | with_reducible apply ev_un
  | with_reducible apply ev_cons
  | with_reducible apply ev_cb
  | with_reducible apply ev_val
  | with_reducible apply ev_cell
  | with_reducible apply ev_frz
  | with_reducible apply ev_asg
  | with_reducible apply ev_drop
  | with_reducible apply ev_ret
  | with_reducible apply ev_ifS
  | with_reducible apply ev_ifE
  | with_reducible apply ev_test
  | with_reducible apply ev_tru
  | with_reducible apply ev_and
  | with_reducible apply ev_or
  | with_reducible apply ev_not
  | with_reducible apply ev_andV
  | with_reducible apply ev_orV
  | with_reducible apply ev_notV
  | with_reducible apply ev_chain
  | with_reducible apply ev_for
  | with_reducible apply ev_src
  | with_reducible apply ev_consG
  | with_reducible apply ev_comp
  | ((with_reducible apply ev_tupG); exact rfl)
  | with_reducible apply ev_lst
  | with_reducible apply ev_tup
  | with_reducible apply ev_par
  | ((with_reducible apply ev_aug); exact rfl)
  | ((with_reducible apply ev_intC); first | (show (0 : Int) < _; decide) | exact powOk_of (by decide) (by decide) (by decide) | exact divOk_of (by decide) (by decide) | skip)
  | ((with_reducible apply ev_mulI); first | exact mulOk_l (by decide) | exact mulOk_r (by decide) | skip)
  | with_reducible exact SetF.zero
  | with_reducible apply SetF.succ
  | ((with_reducible apply len_le); exact rfl)
  | ((with_reducible apply ev_var); exact rfl))
local macro_rules | `(tactic| walk_at "d") => `(tactic| (apply ev_def; (focus exact rfl); (focus (repeat constructor))))
local macro_rules | `(tactic| walk_at "dn") => `(tactic| (apply ev_defN; (focus exact rfl); (focus (repeat constructor))))
section
variable {μ : Sto} {d : D} {ds : List D}
/-! ### the law at one draw -/
/-- what the list is then: as it was seen, or one number otherwise by one -/
def Fit (up : Bool) (leaf s : Int) (right : Bool) (L : List (Int × Int)) : Prop := (∀ q ∈ L, Seen1 q) ∧ (∀ q ∈ onesL L, q.1 ≤ 1000000) ∧ 1 ≤ L.length ∧ L.length ≤ 20 ∧ (right = true → allB up L leaf s = true)
theorem Fit.seen {up right : Bool} {leaf s : Int} {r S : Nat} {L : List (Int × Int)} (f : Fit up leaf s right L) (h : St r S L μ) : Seen μ (.cell S) L := ⟨asL_at h.at_, f.2.2.1, f.2.2.2.1, f.1⟩
theorem rows_loop {up : Bool} {leaf s : Int} {r S : Nat} {L : List (Int × Int)} {most : Int} {right : Bool} (f : Fit up leaf s right L) (hm : 3 ≤ most) (hm2 : most ≤ 1000) (hT : 1 ≤ (fitD up L most).length) {all : List D} {v6 v7 v8 v9 v13 v14 v15 : Option D} : ∀ (ds : List D) {μ : Sto} {v5 v12 : Option D}, St r S L μ →
    ∃ (w5 w12 : Option D) (μ' : Sto), loopO none all (nameG 5) S_law_right_13b ds (rtF r up leaf s S v5 v6 v7 v8 v9 (some (.int most)) (some (.lst ((fitD up L most).map tripD))) v12 v13 v14 v15) μ = some (.nx (rtF r up leaf s S w5 v6 v7 v8 v9 (some (.int most)) (some (.lst ((fitD up L most).map tripD))) w12 v13 v14 v15) μ') ∧ St r S L μ'
  | [], μ, v5, v12, h => ⟨v5, v12, μ, loop_nil trivial, h⟩
  | d :: ds, μ, v5, v12, h => by
    have hl : (fitD up L most).length ≤ 1000 := fitD_len f.1 hm hm2
    have ln : ∀ {τ : Fr} {μ : Sto}, τ[11]?.join = some (.lst ((fitD up L most).map tripD)) → (cbO lenL (consA (varO 11) nilA)) τ μ = some (.int ((fitD up L most).length : Int), μ) := fun h0 => ev_cb (ev_cons (ev_var h0) ev_nil) (by rw [ev_len (ds := (fitD up L most).map tripD) rfl, List.length_map])
    obtain ⟨v, μ1, p1, v0, v1, S1⟩ := pick_t (many := ((fitD up L most).length : Int)) h (by omega) (by omega)
    obtain ⟨w, μ2, p2, w0, w1, S2⟩ := pick_t (many := 3) S1 (by decide) (by decide)
    obtain ⟨k, hk, hk2⟩ : ∃ k : Nat, atI [D.int 0, .int (((fitD up L most).length : Int) - 1), .int v] w = some (.int (k : Int)) ∧ k < (fitD up L most).length := by
      have : w = 0 ∨ w = 1 ∨ w = 2 := by omega
      rcases this with rfl | rfl | rfl
      · exact ⟨0, rfl, by omega⟩
      · exact ⟨(fitD up L most).length - 1, by rw [show (((fitD up L most).length - 1 : Nat) : Int) = ((fitD up L most).length : Int) - 1 from by omega]; rfl, by omega⟩
      · exact ⟨v.toNat, by rw [show ((v.toNat : Nat) : Int) = v from by omega]; rfl, by omega⟩
    have ht : (fitD up L most)[k]? = some (fitD up L most)[k] := List.getElem?_eq_getElem hk2
    have mt : (fitD up L most)[k] ∈ fitD up L most := List.getElem_mem hk2
    generalize (fitD up L most)[k] = t at ht mt
    have b1 : S_law_right_13b1 (rtF r up leaf s S (some d) v6 v7 v8 v9 (some (.int most)) (some (.lst ((fitD up L most).map tripD))) v12 v13 v14 v15) μ = some (.nx (rtF r up leaf s S (some d) v6 v7 v8 v9 (some (.int most)) (some (.lst ((fitD up L most).map tripD))) (some (tripD t)) v13 v14 v15) μ2) :=
      ev_asg (ev_op rfl (ev_op (ev_val (ev_lst (ev_cons ev_c (ev_cons (ev_op (ln rfl) ev_c ev_int) (ev_cons (ev_cb (ev_cons rfl (ev_cons (ln rfl) ev_nil)) p1) ev_nil))) (len_le rfl))) (ev_cb (ev_cons rfl (ev_cons ev_c ev_nil)) p2) (ev_ix rfl hk)) (ev_ix (ds := (fitD up L most).map tripD) rfl (atI_nat (by rw [List.getElem?_map, ht]; rfl)))) (ev_name (by repeat constructor))
    obtain ⟨n, t1, t2, _⟩ := row_facts f.1 hm mt
    have r1 := row_right_ok (f.seen S2) hm hm2 mt
    have r2 := lacks_ok (up := up) (x := t.1 - 1) (f.seen S2) hm hm2 (by omega)
    have tr : ∀ {F : ML} {a : MF} {as : List D} {τ : Fr}, a τ μ2 = some (as, μ2) → F as μ2 = some (.bl true, μ2) → (notO (truO (cbO F a))) τ μ2 = some (false, μ2) := fun h1 h2 => ev_not (k := true) (ev_tru (ev_cb h1 h2) ev_truB)
    have b2 : S_law_right_13b2 (rtF r up leaf s S (some d) v6 v7 v8 v9 (some (.int most)) (some (.lst ((fitD up L most).map tripD))) (some (tripD t)) v13 v14 v15) μ2 = some (.nx (rtF r up leaf s S (some d) v6 v7 v8 v9 (some (.int most)) (some (.lst ((fitD up L most).map tripD))) (some (tripD t)) v13 v14 v15) μ2) :=
      ev_ifS (k := false) (ev_or (tr (ev_cons rfl (ev_cons rfl (ev_cons rfl ev_nil))) r1) (by rw [if_neg (fun z => nomatch z)]; exact tr (ev_cons rfl (ev_cons rfl (ev_cons rfl (ev_cons (ev_op (ev_op rfl ev_c (ev_ix (ds := [.int t.1, .int t.2.1, .int t.2.2]) rfl rfl)) ev_c ev_int) ev_nil)))) r2)) (ev_iteF rfl)
    obtain ⟨w5, w12, μ', e, S'⟩ := rows_loop f hm hm2 hT (all := all) (v6 := v6) (v7 := v7) (v8 := v8) (v9 := v9) (v13 := v13) (v14 := v14) (v15 := v15) ds S2 (v5 := some d) (v12 := some (tripD t))
    exact ⟨w5, w12, μ', loop_cons trivial (ev_name (by repeat constructor)) (ev_seq b1 b2) e, S'⟩
/-- from what was seen on -/
theorem right_b {up : Bool} {leaf s : Int} {r S : Nat} {L : List (Int × Int)} {right : Bool} (f : Fit up leaf s right L) (h3 : 3 ≤ leaf) (hl : leaf ≤ 1000) (pb : partB leaf s = true) (h : St r S L μ) {v5 v6 v7 v9 : Option D} {b : MS} (hb : b = seqO S_law_right_6 (seqO S_law_right_7 (seqO S_law_right_8 (seqO S_law_right_9 (seqO S_law_right_10 (seqO S_law_right_11 (seqO S_law_right_12 (seqO S_law_right_13 (seqO S_law_right_14 S_law_right_15))))))))) :
    ∃ μ', b (rtF r up leaf s S v5 v6 v7 (some (.bl right)) v9 none none none none none none) μ = some (.rt (.bl true) μ') ∧ Bag μ' r := by
  subst hb
  obtain ⟨x, μ1, p1, x0, x1, S1⟩ := pick_t (many := 30) h (by decide) (by decide)
  obtain ⟨y, μ2, p2, y0, y1, S2⟩ := pick_t (many := 3) S1 (by decide) (by decide)
  obtain ⟨most, hmo, m3, m1, mL⟩ : ∃ most : Int, atI [D.int 1000, .int leaf, .int (min 1000 (leaf + x))] y = some (.int most) ∧ 3 ≤ most ∧ most ≤ 1000 ∧ leaf ≤ most := by
    have : y = 0 ∨ y = 1 ∨ y = 2 := by omega
    rcases this with rfl | rfl | rfl
    · exact ⟨1000, rfl, by omega, by omega, hl⟩
    · exact ⟨leaf, rfl, by omega, by omega, Int.le_refl _⟩
    · exact ⟨min 1000 (leaf + x), rfl, by omega, by omega, by omega⟩
  have hT : (fitD up L most).length ≤ 1000 := fitD_len f.1 m3 m1
  have s6 : S_law_right_6 (rtF r up leaf s S v5 v6 v7 (some (.bl right)) v9 none none none none none none) μ = some (.nx (rtF r up leaf s S v5 v6 v7 (some (.bl right)) v9 (some (.int most)) none none none none none) μ2) := ev_asg (ev_op (ev_val (ev_lst (ev_cons ev_c (ev_cons rfl (ev_cons (ev_cb (ev_cons ev_c (ev_cons (ev_op rfl (ev_cb (ev_cons rfl (ev_cons ev_c ev_nil)) p1) ev_addI) ev_nil)) ev_min) ev_nil))) (len_le rfl))) (ev_cb (ev_cons rfl (ev_cons ev_c ev_nil)) p2) (ev_ix rfl hmo)) (ev_name (by repeat constructor))
  have s7 : S_law_right_7 (rtF r up leaf s S v5 v6 v7 (some (.bl right)) v9 (some (.int most)) none none none none none) μ2 = some (.nx (rtF r up leaf s S v5 v6 v7 (some (.bl right)) v9 (some (.int most)) (some (.lst ((fitD up L most).map tripD))) none none none none) μ2) := ev_asg (ev_cb (ev_cons rfl (ev_cons rfl (ev_cons rfl ev_nil))) (fitting_ok (f.seen S2) f.2.1 ⟨m3, m1⟩)) (ev_name (by repeat constructor))
  have s8 : S_law_right_8 (rtF r up leaf s S v5 v6 v7 (some (.bl right)) v9 (some (.int most)) (some (.lst ((fitD up L most).map tripD))) none none none none) μ2 = some (.nx (rtF r up leaf s S v5 v6 v7 (some (.bl right)) v9 (some (.int most)) (some (.lst ((fitD up L most).map tripD))) none none none none) μ2) := by
    have lc := lc_none (g := nameG 12) (tt := (orO (notO (truO (cbO (isiL tb) (consA (varO 12) (consA (cO (.ty "tuple")) nilA))))) (orO (testO (opO (eqB true) (cbO lenL (consA (varO 12) nilA)) (cO (.int (3))))) (notO (testO (chainO (intB fun i j => .bl (decide (i ≤ j))) (intB fun i j => .bl (decide (i ≤ j))) (cO (.int (3))) (opO ixB (varO 12) (cO (.int (0)))) (varO 10))))))) (e := cO (.int 1)) (j := none) (all := (fitD up L most).map tripD) (τ := wipeT (rtF r up leaf s S v5 v6 v7 (some (.bl right)) v9 (some (.int most)) (some (.lst ((fitD up L most).map tripD))) none none none none) [12]) (μ := μ2) trivial (ds := (fitD up L most).map tripD) fun z hz => by
      obtain ⟨t, mt, rfl⟩ := List.mem_map.mp hz
      obtain ⟨n, t1, t2, _⟩ := row_facts f.1 m3 mt
      refine ⟨rtF r up leaf s S v5 v6 v7 (some (.bl right)) v9 (some (.int most)) (some (.lst ((fitD up L most).map tripD))) (some (tripD t)) none none none, ev_name (by repeat constructor), ?_⟩
      refine ev_or (k := false) (ev_not (k := true) (ev_tru (ev_cb (ev_cons rfl (ev_cons ev_c ev_nil)) (ev_isi (t := .ty "tuple") (u := .ty "tuple") rfl rfl tb_tt)) ev_truB)) (by
        rw [if_neg (fun z => nomatch z)]
        refine ev_or (k := false) (ev_test (ev_op (ev_cb (ev_cons rfl ev_nil) (ev_len (ds := [.int t.1, .int t.2.1, .int t.2.2]) rfl)) ev_c ev_neI)) (by
          rw [if_neg (fun z => nomatch z)]
          refine ev_not (k := true) (ev_test (ev_chain (k := decide ((3 : Int) ≤ t.1)) ev_c (ev_op rfl ev_c (ev_ix (ds := [.int t.1, .int t.2.1, .int t.2.2]) rfl rfl)) ev_int ?_))
          rw [decide_eq_true t1, if_pos rfl]
          show (some (D.bl (decide (t.1 ≤ most)), μ2)) = _
          rw [decide_eq_true t2]))
    have cmp := ev_op (ma := valO (compF (srcO (varO 11)) (nameG 12) (orO (notO (truO (cbO (isiL tb) (consA (varO 12) (consA (cO (.ty "tuple")) nilA))))) (orO (testO (opO (eqB true) (cbO lenL (consA (varO 12) nilA)) (cO (.int (3))))) (notO (testO (chainO (intB fun i j => .bl (decide (i ≤ j))) (intB fun i j => .bl (decide (i ≤ j))) (cO (.int (3))) (opO ixB (varO 12) (cO (.int (0)))) (varO 10)))))) (cO (.int (1))) [12])) (mb := valO (lstO nilA)) (f := eqB true) (r := (.bl false, μ2)) (ev_val (ev_comp (s := ((fitD up L most).map tripD, none)) (ev_src rfl rfl) lc (Nat.zero_le _))) (ev_val (ev_lst ev_nil (len_le rfl))) rfl
    exact ev_ifS (k := false) (ev_test cmp) (ev_iteF rfl)
  have s9 : S_law_right_9 (rtF r up leaf s S v5 v6 v7 (some (.bl right)) v9 (some (.int most)) (some (.lst ((fitD up L most).map tripD))) none none none none) μ2 = some (.nx (rtF r up leaf s S v5 v6 v7 (some (.bl right)) v9 (some (.int most)) (some (.lst ((fitD up L most).map tripD))) none (some (.lst (((fitD up L most).map fun t => t.1).map D.int))) none none) μ2) := ev_asg (leaves_comp (τ1 := []) rfl (fun _ => rfl) (fun _ => rfl) (by omega)) (ev_name (by repeat constructor))
  have fu := firsts_up (up := up) f.1 m3
  have lF : ((fitD up L most).map fun t => t.1).length ≤ 2000 := by rw [List.length_map]; omega
  generalize hF : ((fitD up L most).map fun t => t.1) = F at s9 fu lF
  have s10 : S_law_right_10 (rtF r up leaf s S v5 v6 v7 (some (.bl right)) v9 (some (.int most)) (some (.lst ((fitD up L most).map tripD))) none (some (.lst (F.map D.int))) none none) μ2 = some (.nx (rtF r up leaf s S v5 v6 v7 (some (.bl right)) v9 (some (.int most)) (some (.lst ((fitD up L most).map tripD))) none (some (.lst (F.map D.int))) none none) μ2) := by
    have sr : srsLF (varO 13) (rtF r up leaf s S v5 v6 v7 (some (.bl right)) v9 (some (.int most)) (some (.lst ((fitD up L most).map tripD))) none (some (.lst (F.map D.int))) none none) μ2 = some ((setI F).map D.int, μ2) := by
      unfold srsLF
      rw [show varO 13 (rtF r up leaf s S v5 v6 v7 (some (.bl right)) v9 (some (.int most)) (some (.lst ((fitD up L most).map tripD))) none (some (.lst (F.map D.int))) none none) μ2 = some (.lst (F.map D.int), μ2) from rfl, Option.bind_some]
      show ((asS μ2 (.lst (F.map D.int))).bind _) = _
      rw [show asS μ2 (.lst (F.map D.int)) = some (F.map D.int) from rfl, Option.bind_some, intsD_map, Option.bind_some, if_pos lF]
    rw [setI_fix fu] at sr
    have t := ev_test (ev_op (ma := varO 13) (mb := valO (srsLF (varO 13))) (f := eqB true) (τ := rtF r up leaf s S v5 v6 v7 (some (.bl right)) v9 (some (.int most)) (some (.lst ((fitD up L most).map tripD))) none (some (.lst (F.map D.int))) none none) (μ := μ2) rfl (ev_val sr) (ev_eqLI (L := F) (M := F) rfl rfl))
    rw [decide_eq_true rfl] at t
    exact ev_ifS t (ev_iteF rfl)
  let pf : Int × Int × Int → Bool := fun t => decide (t.1 = leaf) && (decide (t.2.1 ≤ s) && decide (s ≤ t.2.2))
  have s11 : S_law_right_11 (rtF r up leaf s S v5 v6 v7 (some (.bl right)) v9 (some (.int most)) (some (.lst ((fitD up L most).map tripD))) none (some (.lst (F.map D.int))) none none) μ2 = some (.nx (rtF r up leaf s S v5 v6 v7 (some (.bl right)) v9 (some (.int most)) (some (.lst ((fitD up L most).map tripD))) none (some (.lst (F.map D.int))) (some (.lst (((fitD up L most).filter pf).map tripD))) none) μ2) := by
    have lc := lc_filt (en := tripD) (g := nameG 12) (tt := (andO (testO (opO (eqB false) (opO ixB (varO 12) (cO (.int (0)))) (varO 2))) (testO (chainO (intB fun i j => .bl (decide (i ≤ j))) (intB fun i j => .bl (decide (i ≤ j))) (opO ixB (varO 12) (cO (.int (1)))) (varO 3) (opO ixB (varO 12) (cO (.int (2)))))))) (e := varO 12) (τ := wipeT (rtF r up leaf s S v5 v6 v7 (some (.bl right)) v9 (some (.int most)) (some (.lst ((fitD up L most).map tripD))) none (some (.lst (F.map D.int))) none none) [12]) (j := none) (all := (fitD up L most).map tripD) (p := pf) (h := tripD) (μ := μ2) trivial (L := fitD up L most) fun t mt => by
      refine ⟨rtF r up leaf s S v5 v6 v7 (some (.bl right)) v9 (some (.int most)) (some (.lst ((fitD up L most).map tripD))) (some (tripD t)) (some (.lst (F.map D.int))) none none, ev_name (by repeat constructor), ?_, fun _ => rfl⟩
      have ix : ∀ {k : Nat} {y : Int}, atI [D.int t.1, .int t.2.1, .int t.2.2] (k : Int) = some (.int y) → (opO ixB (varO 12) (cO (.int (k : Int)))) (rtF r up leaf s S v5 v6 v7 (some (.bl right)) v9 (some (.int most)) (some (.lst ((fitD up L most).map tripD))) (some (tripD t)) (some (.lst (F.map D.int))) none none) μ2 = some (.int y, μ2) := fun hy => ev_op rfl ev_c (ev_ix (ds := [.int t.1, .int t.2.1, .int t.2.2]) rfl hy)
      refine ev_and (k := decide (t.1 = leaf)) (ev_test (ev_op (ix (k := 0) rfl) rfl ev_eqI)) ?_
      show _ = some (decide (t.1 = leaf) && (decide (t.2.1 ≤ s) && decide (s ≤ t.2.2)), μ2)
      by_cases c : t.1 = leaf
      · rw [decide_eq_true c, if_pos rfl, Bool.true_and]
        refine ev_test (ev_chain (k := decide (t.2.1 ≤ s)) (ix (k := 1) rfl) rfl ev_int ?_)
        by_cases c2 : t.2.1 ≤ s
        · rw [decide_eq_true c2, if_pos rfl, Bool.true_and]
          have e2 := ix (k := 2) (y := t.2.2) rfl
          rw [show ((2 : Nat) : Int) = 2 from rfl] at e2
          rw [e2]
          rfl
        · rw [decide_eq_false c2, if_neg (fun z => nomatch z)]
          rfl
      · rw [decide_eq_false c, if_neg (fun z => nomatch z)]
        rfl
    exact ev_asg (ev_val (ev_comp (s := ((fitD up L most).map tripD, none)) (ev_src rfl rfl) lc (by
      rw [List.length_map]
      have := List.length_filter_le pf (fitD up L most)
      omega))) (ev_name (by repeat constructor))
  have hne : right = true → ((fitD up L most).filter pf) ≠ [] := fun hr z => by
    have inn : s ∈ fitsOf up L leaf := mem_fits.mpr (by rw [pb, f.2.2.2.2 hr]; rfl)
    obtain ⟨t, mt, a, b, c⟩ := row_of f.1 m3 h3 mL inn
    have : t ∈ (fitD up L most).filter pf := List.mem_filter.mpr ⟨mt, by
      show (decide (t.1 = leaf) && (decide (t.2.1 ≤ s) && decide (s ≤ t.2.2))) = true
      rw [decide_eq_true a, decide_eq_true b, decide_eq_true c]
      rfl⟩
    rw [z] at this
    cases this
  generalize (fitD up L most).filter pf = G at s11 hne
  have s12 : S_law_right_12 (rtF r up leaf s S v5 v6 v7 (some (.bl right)) v9 (some (.int most)) (some (.lst ((fitD up L most).map tripD))) none (some (.lst (F.map D.int))) (some (.lst (G.map tripD))) none) μ2 = some (.nx (rtF r up leaf s S v5 v6 v7 (some (.bl right)) v9 (some (.int most)) (some (.lst ((fitD up L most).map tripD))) none (some (.lst (F.map D.int))) (some (.lst (G.map tripD))) none) μ2) := by
    refine ev_ifS (k := false) (ev_and (k := right) (ev_tru rfl ev_truB) ?_) (ev_iteF rfl)
    cases right with
    | false => rfl
    | true =>
      rw [if_pos rfl]
      have t := ev_test (ev_op (ma := varO 14) (mb := valO (lstO nilA)) (f := eqB false) (τ := rtF r up leaf s S v5 v6 v7 (some (.bl true)) v9 (some (.int most)) (some (.lst ((fitD up L most).map tripD))) none (some (.lst (F.map D.int))) (some (.lst (G.map tripD))) none) (μ := μ2) rfl (ev_val (ev_lst ev_nil (len_le rfl))) (ev_eqLT (L := G) (M := []) rfl rfl))
      rw [decide_eq_false (hne rfl)] at t
      exact t
  obtain ⟨w5, w12, μ3, e13, S3⟩ : ∃ (w5 w12 : Option D) (μ3 : Sto), S_law_right_13 (rtF r up leaf s S v5 v6 v7 (some (.bl right)) v9 (some (.int most)) (some (.lst ((fitD up L most).map tripD))) none (some (.lst (F.map D.int))) (some (.lst (G.map tripD))) none) μ2 = some (.nx (rtF r up leaf s S w5 v6 v7 (some (.bl right)) v9 (some (.int most)) (some (.lst ((fitD up L most).map tripD))) w12 (some (.lst (F.map D.int))) (some (.lst (G.map tripD))) none) μ3) ∧ St r S L μ3 := by
    have ln : (cbO lenL (consA (varO 11) nilA)) (rtF r up leaf s S v5 v6 v7 (some (.bl right)) v9 (some (.int most)) (some (.lst ((fitD up L most).map tripD))) none (some (.lst (F.map D.int))) (some (.lst (G.map tripD))) none) μ2 = some (.int ((fitD up L most).length : Int), μ2) := ev_cb (ev_cons rfl ev_nil) (by rw [ev_len (ds := (fitD up L most).map tripD) rfl, List.length_map])
    have rn := ev_rng1 (fa := consA (cbO minL (consA (cO (.int (6))) (consA (cbO lenL (consA (varO 11) nilA)) nilA))) nilA) (τ := rtF r up leaf s S v5 v6 v7 (some (.bl right)) v9 (some (.int most)) (some (.lst ((fitD up L most).map tripD))) none (some (.lst (F.map D.int))) (some (.lst (G.map tripD))) none) (μ := μ2) (μ1 := μ2) (j := min 6 ((fitD up L most).length : Int)) (ev_cons (ev_cb (ev_cons ev_c (ev_cons ln ev_nil)) ev_min) ev_nil) (by omega)
    rcases Nat.eq_zero_or_pos (fitD up L most).length with c | c
    · refine ⟨v5, none, μ2, ev_for rn ?_, S2⟩
      rw [c]
      exact loop_nil trivial
    · obtain ⟨w5, w12, μ', e, S'⟩ := rows_loop f m3 m1 c (all := rangeD 0 (min 6 ((fitD up L most).length : Int)).toNat) (v6 := v6) (v7 := v7) (v8 := some (.bl right)) (v9 := v9) (v13 := some (.lst (F.map D.int))) (v14 := some (.lst (G.map tripD))) (v15 := none) (rangeD 0 (min 6 ((fitD up L most).length : Int)).toNat) S2 (v5 := v5) (v12 := none)
      exact ⟨w5, w12, μ', ev_for rn e, S'⟩
  obtain ⟨a, μ4, p4, a0, a1, S4⟩ := pick_t (many := most - 2) S3 (by omega) (by omega)
  obtain ⟨c, μ5, p5, c0, c1, S5⟩ := pick_t (many := 60) S4 (by decide) (by decide)
  have s14 : S_law_right_14 (rtF r up leaf s S w5 v6 v7 (some (.bl right)) v9 (some (.int most)) (some (.lst ((fitD up L most).map tripD))) w12 (some (.lst (F.map D.int))) (some (.lst (G.map tripD))) none) μ3 = some (.nx (rtF r up leaf s S w5 v6 v7 (some (.bl right)) v9 (some (.int most)) (some (.lst ((fitD up L most).map tripD))) w12 (some (.lst (F.map D.int))) (some (.lst (G.map tripD))) (some (.lst [.int (3 + a), .int (min most (3 + c)), .int (min most (leaf + 1))]))) μ5) := ev_asg (ev_val (ev_lst (ev_cons (ev_op ev_c (ev_cb (ev_cons rfl (ev_cons (ev_op rfl ev_c ev_int) ev_nil)) p4) ev_addI) (ev_cons (ev_cb (ev_cons rfl (ev_cons (ev_op ev_c (ev_cb (ev_cons rfl (ev_cons ev_c ev_nil)) p5) ev_addI) ev_nil)) ev_min) (ev_cons (ev_cb (ev_cons rfl (ev_cons (ev_op rfl ev_c ev_addI) ev_nil)) ev_min) ev_nil))) (len_le rfl))) (ev_name (by repeat constructor))
  have s15 : S_law_right_15 (rtF r up leaf s S w5 v6 v7 (some (.bl right)) v9 (some (.int most)) (some (.lst ((fitD up L most).map tripD))) w12 (some (.lst (F.map D.int))) (some (.lst (G.map tripD))) (some (.lst [.int (3 + a), .int (min most (3 + c)), .int (min most (leaf + 1))]))) μ5 = some (.rt (.bl true) μ5) := by
    have lc := lc_none (g := nameG 16) (tt := (notO (truO (cbO F_law_lacks (consA (varO 1) (consA (varO 4) (consA (varO 11) (consA (varO 16) nilA)))))))) (e := varO 16) (j := none) (all := [.int (3 + a), .int (min most (3 + c)), .int (min most (leaf + 1))]) (τ := wipeT (rtF r up leaf s S w5 v6 v7 (some (.bl right)) v9 (some (.int most)) (some (.lst ((fitD up L most).map tripD))) w12 (some (.lst (F.map D.int))) (some (.lst (G.map tripD))) (some (.lst [.int (3 + a), .int (min most (3 + c)), .int (min most (leaf + 1))]))) [16]) (μ := μ5) trivial (ds := [.int (3 + a), .int (min most (3 + c)), .int (min most (leaf + 1))]) fun z hz => by
      have hz' : ∃ x : Int, z = .int x ∧ x ≤ most := by
        rcases List.mem_cons.mp hz with rfl | hz
        · exact ⟨_, rfl, by omega⟩
        · rcases List.mem_cons.mp hz with rfl | hz
          · exact ⟨_, rfl, by omega⟩
          · rw [List.mem_singleton.mp hz]; exact ⟨_, rfl, by omega⟩
      obtain ⟨x, rfl, hx⟩ := hz'
      have lk := lacks_ok (up := up) (x := x) (f.seen S5) m3 m1 hx
      exact ⟨(rtF r up leaf s S w5 v6 v7 (some (.bl right)) v9 (some (.int most)) (some (.lst ((fitD up L most).map tripD))) w12 (some (.lst (F.map D.int))) (some (.lst (G.map tripD))) (some (.lst [.int (3 + a), .int (min most (3 + c)), .int (min most (leaf + 1))]))).set 16 (some (.int x)), ev_name (by repeat constructor), ev_not (k := true) (ev_tru (ev_cb (ev_cons rfl (ev_cons rfl (ev_cons rfl (ev_cons rfl ev_nil)))) lk) ev_truB)⟩
    exact ev_ret (ev_op (ev_val (ev_comp (s := ([.int (3 + a), .int (min most (3 + c)), .int (min most (leaf + 1))], none)) (ev_src rfl rfl) lc (Nat.zero_le _))) (ev_val (ev_lst ev_nil (len_le rfl))) rfl)
  exact ⟨μ5, ev_seq s6 (ev_seq s7 (ev_seq s8 (ev_seq s9 (ev_seq s10 (ev_seq s11 (ev_seq s12 (ev_seq e13 (ev_seq s14 s15)))))))), S5.bag⟩
end
end M

set_option Elab.async false
set_option linter.all false
set_option maxRecDepth 100000
set_option maxHeartbeats 4000000
namespace M
open PySem PySem.Spec L2 Z
open PyProof.Rows hiding St pairD
local macro_rules | `(tactic| walk_at "e") => `(tactic| first
  | with_reducible exact ev_next
  | with_reducible exact (rfl : some _ = some _)
  | with_reducible exact ev_c
  | with_reducible exact ev_retN
  | with_reducible exact ev_nil
  | with_reducible exact ev_nilG
  | with_reducible exact ev_addI
  | with_reducible exact ev_int
  | with_reducible exact ev_eqI
  | with_reducible exact ev_neI
  | with_reducible exact ev_eqB
  | with_reducible exact ev_neB
  | with_reducible exact ev_isN
  | with_reducible exact ev_notN
  | with_reducible exact ev_neg
  | with_reducible exact ev_intL
  | with_reducible exact ev_intLB
  | with_reducible exact ev_max
  | with_reducible exact ev_min
  | with_reducible exact ev_truB
  | with_reducible exact ev_eqS
  | with_reducible exact ev_neS
  | ((with_reducible apply ev_name); focus (repeat constructor))
  | with_reducible apply ev_iteT
  | with_reducible apply ev_iteF
  | with_reducible apply ev_iteNT
  | with_reducible apply ev_iteNF
  | with_reducible apply ev_seqX
  | with_reducible apply ev_contN
  | with_reducible exact ev_contR
  | with_reducible exact ev_contB
  | with_reducible exact ev_contC
  | with_reducible apply ev_op
  | with_reducible apply ev_opF
  | with_reducible apply ev_un
  | with_reducible apply ev_cons
  | with_reducible apply ev_cb
  | with_reducible apply ev_val
  | with_reducible apply ev_cell
  | with_reducible apply ev_frz
  | with_reducible apply ev_asg
  | with_reducible apply ev_drop
  | with_reducible apply ev_ret
  | with_reducible apply ev_ifS
  | with_reducible apply ev_ifE
  | with_reducible apply ev_test
  | with_reducible apply ev_tru
  | with_reducible apply ev_and
  | with_reducible apply ev_or
  | with_reducible apply ev_not
  | with_reducible apply ev_andV
  | with_reducible apply ev_orV
  | with_reducible apply ev_notV
  | with_reducible apply ev_chain
  | with_reducible apply ev_for
  | with_reducible apply ev_src
  | with_reducible apply ev_consG
  | with_reducible apply ev_comp
  | ((with_reducible apply ev_tupG); exact rfl)
  | with_reducible apply ev_lst
  | with_reducible apply ev_tup
  | with_reducible apply ev_par
  | ((with_reducible apply ev_aug); exact rfl)
  | ((with_reducible apply ev_intC); first | (show (0 : Int) < _; decide) | exact powOk_of (by decide) (by decide) (by decide) | exact divOk_of (by decide) (by decide) | skip)
  | ((with_reducible apply ev_mulI); first | exact mulOk_l (by decide) | exact mulOk_r (by decide) | skip)
  | with_reducible exact SetF.zero
  | with_reducible apply SetF.succ
  | ((with_reducible apply len_le); exact rfl)
  | ((with_reducible apply ev_var); exact rfl))
local macro_rules | `(tactic| walk_at "d") => `(tactic| (apply ev_def; (focus exact rfl); (focus (repeat constructor))))
local macro_rules | `(tactic| walk_at "dn") => `(tactic| (apply ev_defN; (focus exact rfl); (focus (repeat constructor))))
section
variable {μ : Sto} {d : D} {ds : List D}
/-! ### the law -/
theorem ev_slTl {m : ME} {ml mh : MO} {τ : Fr} {μ1 μ2 μ3 : Sto} {lo hi : Option Int} (h : m τ μ = some (.lst ds, μ1)) (h1 : ml τ μ1 = some (lo, μ2)) (h2 : mh τ μ2 = some (hi, μ3)) : slT m ml mh τ μ = some (.lst (Z.cutD ds lo hi), μ3) := by
  unfold slT
  rw [h, Option.bind_some]
  dsimp only
  rw [h1, Option.bind_some]
  dsimp only
  rw [h2, Option.bind_some]
  rfl
theorem two_of {x y w : Int} (w0 : 0 ≤ w) (w1 : w < 2) : ∃ z, atI [D.int x, .int y] w = some (.int z) ∧ (z = x ∨ z = y) := by
  have : w = 0 ∨ w = 1 := by omega
  rcases this with rfl | rfl
  · exact ⟨x, rfl, .inl rfl⟩
  · exact ⟨y, rfl, .inr rfl⟩
theorem right_ok {r : Nat} {up : Bool} (B : Bag μ r) : ∃ μ', F_law_right [.cell r, upD up] μ = some (.bl true, μ') ∧ Bag μ' r := by
  have pk : ∀ {μ : Sto} {many : Int}, Bag μ r → 0 < many → many ≤ 10 ^ 40 → ∃ v μ', F_law_pick [.cell r, .int many] μ = some (.int v, μ') ∧ 0 ≤ v ∧ v < many ∧ Bag μ' r := fun {μ many} h h0 h1 => by
    obtain ⟨v, μ', e, v0, v1, K, l, B⟩ := pick_k h h0 (many := many) (by
      have e : (10 : Int) ^ 40 < 10 ^ 60 := by decide
      have e2 : (10 : Nat) ^ 60 < 10 ^ 200 := by decide
      omega)
    exact ⟨v, μ', e, v0, v1, B⟩
  obtain ⟨a, μ1, p1, a0, a1, B1⟩ := pk (many := 2) B (by decide) (by decide)
  obtain ⟨z, hz, hz2⟩ := two_of (x := 20) (y := 998) a0 a1
  obtain ⟨b, μ2, p2, b0, b1, B2⟩ := pk (many := z) B1 (by omega) (by omega)
  obtain ⟨leaf, hleaf⟩ : ∃ leaf : Int, leaf = 3 + b := ⟨_, rfl⟩
  obtain ⟨s, μ3, p3, pb, s0, s1, B3⟩ := part_ok2 (w := leaf) B2 (by omega) (by omega)
  have none7 : ∀ {x : Option D}, x = x := rfl
  have e1 : S_law_right_1 [some (.cell r), some (upD up), none, none, none, none, none, none, none, none, none, none, none, none, none, none, none] μ = some (.nx [some (.cell r), some (upD up), some (.int leaf), none, none, none, none, none, none, none, none, none, none, none, none, none, none] μ2) := by
    rw [hleaf]
    exact ev_asg (ev_op ev_c (ev_cb (ev_cons rfl (ev_cons (ev_op (ev_val (ev_lst (ev_cons ev_c (ev_cons ev_c ev_nil)) (len_le rfl))) (ev_cb (ev_cons rfl (ev_cons ev_c ev_nil)) p1) (ev_ix rfl hz)) ev_nil)) p2) ev_addI) (ev_name (by repeat constructor))
  have e2 : S_law_right_2 [some (.cell r), some (upD up), some (.int leaf), none, none, none, none, none, none, none, none, none, none, none, none, none, none] μ2 = some (.nx (rtF r up leaf s μ3.length none none none none none none none none none none none) (μ3 ++ [.lst []])) := ev_asg (ev_tup (ev_cons (ev_cb (ev_cons rfl (ev_cons rfl ev_nil)) p3) (ev_cons (ev_cell (ev_lst ev_nil (len_le rfl))) ev_nil)) (len_le rfl)) (ev_tupG rfl (ev_consG (ev_name (by repeat constructor)) (ev_consG (ev_name (by repeat constructor)) ev_nilG)))
  have lt3 := B3.lt
  have S0 : St r μ3.length [] (μ3 ++ [.lst []]) := ⟨B3.app, last_at, by omega⟩
  obtain ⟨c, μ4, p4, c0, c1, S4⟩ := pick_t (many := 2) S0 (by decide) (by decide)
  obtain ⟨y, hy, hy2⟩ := two_of (x := 8) (y := 20) c0 c1
  obtain ⟨n, μ5, p5, n0, n1, S5⟩ := pick_t (many := y) S4 (by omega) (by omega)
  have lr : (rangeD 0 (1 + n).toNat).length = (1 + n).toNat := by unfold rangeD; rw [List.length_map, List.length_range]
  obtain ⟨i0, i1⟩ := stp_in (up := up) s0 s1
  obtain ⟨L, w5, w6, w7, μ6, e3', S6, lL, hL⟩ := see_loop (up := up) (show 3 ≤ leaf by omega) (show leaf ≤ 1000 by omega) s0 s1 (all := rangeD 0 (1 + n).toNat) (rangeD 0 (1 + n).toNat) S5 (v5 := none) (v6 := none) (v7 := none) (by rw [lr]; show 0 + (1 + n).toNat ≤ 1000; omega) (fun q hq => by cases hq)
  have lL' : L.length = (1 + n).toNat := by rw [lL, lr]; show 0 + _ = _; omega
  have e3 : S_law_right_3 (rtF r up leaf s μ3.length none none none none none none none none none none none) (μ3 ++ [.lst []]) = some (.nx (rtF r up leaf s μ3.length w5 w6 w7 none none none none none none none none) μ6) := ev_for (ev_rng1 (j := 1 + n) (ev_cons (ev_op ev_c (ev_cb (ev_cons rfl (ev_cons (ev_op (ev_val (ev_lst (ev_cons ev_c (ev_cons ev_c ev_nil)) (len_le rfl))) (ev_cb (ev_cons rfl (ev_cons ev_c ev_nil)) p4) (ev_ix rfl hy)) ev_nil)) p5) ev_addI) ev_nil) (by omega)) e3'
  obtain ⟨v, μ7, p7, v0, v1, S7⟩ := pick_t (many := 4) S6 (by decide) (by decide)
  obtain ⟨k, μ8, p8, k0, k1, S8⟩ := pick_t (many := (L.length : Int)) S7 (by omega) (by omega)
  have ln : ∀ {τ : Fr}, τ[4]?.join = some (.cell μ3.length) → (cbO lenL (consA (varO 4) nilA)) τ μ7 = some (.int (L.length : Int), μ7) := fun h0 => ev_cb (ev_cons (ev_var h0) ev_nil) (by rw [ev_len (asQ_at S7.at_), List.length_map])
  have e4 : S_law_right_4 (rtF r up leaf s μ3.length w5 w6 w7 none none none none none none none none) μ6 = some (.nx (rtF r up leaf s μ3.length w5 w6 w7 (some (.bl (decide (0 < v)))) (some (.int k)) none none none none none none) μ8) := ev_par (ev_cons (ev_op (ev_cb (ev_cons rfl (ev_cons ev_c ev_nil)) p7) ev_c ev_int) (ev_cons (ev_cb (ev_cons rfl (ev_cons (ln rfl) ev_nil)) p8) ev_nil)) (by repeat constructor) (by repeat constructor)
  have sn : ∀ q ∈ L, Seen1 q ∧ (q.2 ≤ 2 → q.1 ≤ leaf + stp up leaf s) ∧ q.2 + 1 ≤ TEN30 := fun q hq => (hL q hq).seen i0 (by omega)
  have fin : ∃ (L' : List (Int × Int)) (μ9 : Sto), S_law_right_5 (rtF r up leaf s μ3.length w5 w6 w7 (some (.bl (decide (0 < v)))) (some (.int k)) none none none none none none) μ8 = some (.nx (rtF r up leaf s μ3.length w5 w6 w7 (some (.bl (decide (0 < v)))) (some (.int k)) none none none none none none) μ9) ∧ St r μ3.length L' μ9 ∧ Fit up leaf s (decide (0 < v)) L' := by
    have tst : (notO (truO (varO 8))) (rtF r up leaf s μ3.length w5 w6 w7 (some (.bl (decide (0 < v)))) (some (.int k)) none none none none none none) μ8 = some (!decide (0 < v), μ8) := ev_not (ev_tru rfl ev_truB)
    by_cases c : 0 < v
    · rw [decide_eq_true c] at tst ⊢
      refine ⟨L, μ8, ev_ifS tst (ev_iteNT rfl), S8, fun q hq => (sn q hq).1, fun q hq => ?_, by omega, by omega, fun _ => ?_⟩
      · obtain ⟨m1, m2⟩ := List.mem_filter.mp hq
        have := of_decide_eq_true m2
        have := (sn q m1).2.1 (by omega)
        omega
      · unfold allB
        exact decide_eq_true fun q hq => (hL q hq).2.symm
    · rw [decide_eq_false c] at tst ⊢
      obtain ⟨x, μ9, p9, x0, x1, S9⟩ := pick_t (many := 2) S8 (by decide) (by decide)
      obtain ⟨u, hu, hu2⟩ := two_of (x := 1) (y := -1) x0 x1
      obtain ⟨j, rfl⟩ : ∃ j : Nat, k = (j : Int) := ⟨k.toNat, by omega⟩
      have hj : j < L.length := by omega
      have hq : L[j]? = some L[j] := List.getElem?_eq_getElem hj
      have mq : L[j] ∈ L := List.getElem_mem hj
      generalize L[j] = q at hq mq
      obtain ⟨q1, q2, q3⟩ := sn q mq
      have ix : ∀ {μ : Sto} {i : Nat} {w : Int}, μ[μ3.length]? = some (.lst (L.map pairD)) → atI [D.int q.1, .int q.2] (i : Int) = some (.int w) → (opO ixB (opO ixB (varO 4) (varO 9)) (cO (.int (i : Int)))) (rtF r up leaf s μ3.length w5 w6 w7 (some (.bl false)) (some (.int j)) none none none none none none) μ = some (.int w, μ) := fun h hw => ev_op (ev_op rfl rfl (ev_ix (asQ_at h) (atI_nat (by rw [List.getElem?_map, hq]; rfl)))) ev_c (ev_ix (ds := [.int q.1, .int q.2]) rfl hw)
      have st := S9.at_
      refine ⟨L.set j (q.1, max 1 (q.2 + u)), μ9.set μ3.length (.lst ((L.map pairD).set j (pairD (q.1, max 1 (q.2 + u))))), ev_ifS tst (ev_iteNF (ev_asg (ev_tup (ev_cons (ix (i := 0) S8.at_ rfl) (ev_cons (ev_cb (ev_cons ev_c (ev_cons (ev_op (ix (i := 1) S8.at_ rfl) (ev_op (ev_val (ev_lst (ev_cons ev_c (ev_cons (ev_un ev_c ev_neg) ev_nil)) (len_le rfl))) (ev_cb (ev_cons rfl (ev_cons ev_c ev_nil)) p9) (ev_ix rfl hu)) ev_addI) ev_nil)) ev_max) ev_nil)) (len_le rfl)) (ev_sub rfl rfl st (ixN_of (by rw [List.length_map]; exact hj))))), ⟨S9.bag.set S9.ne, ?_, S9.ne⟩, fun y hy => ?_, fun y hy => ?_, by rw [List.length_set]; omega, by rw [List.length_set]; omega, fun z => nomatch z⟩
      · rw [List.getElem?_set_self (List.getElem?_eq_some_iff.mp st).1, List.map_set]
      · rcases List.mem_or_eq_of_mem_set hy with hy | rfl
        · exact (sn y hy).1
        · obtain ⟨⟨a1, a2⟩, a3, a4⟩ := q1
          exact ⟨⟨a1, a2⟩, by show 1 ≤ max 1 (q.2 + u); omega, by show max 1 (q.2 + u) ≤ TEN30; omega⟩
      · obtain ⟨m1, m2⟩ := List.mem_filter.mp hy
        have m2 := of_decide_eq_true m2
        rcases List.mem_or_eq_of_mem_set m1 with hy | rfl
        · have := (sn y hy).2.1 (by omega)
          omega
        · have m3 : max 1 (q.2 + u) = 1 := m2
          have := q2 (by omega)
          show q.1 ≤ 1000000
          omega
  obtain ⟨L', μ9, e5, S9, ft⟩ := fin
  obtain ⟨μ', e6, B'⟩ := right_b (μ := μ9) ft (by omega) (by omega) pb S9 (v5 := w5) (v6 := w6) (v7 := w7) (v9 := some (.int k)) rfl
  obtain ⟨μ'', tr, B''⟩ := trim_bag (μ := μ) (d := .bl true) B' B.lt
  refine ⟨μ'', ev_def rfl (by repeat constructor) (μ1 := μ') ?_ tr, B''⟩
  rw [B_law_right_eq]
  exact ev_seq e1 (ev_seq e2 (ev_seq e3 (ev_seq e4 (ev_seq e5 e6))))
theorem kind_turn {r : Nat} {up : Bool} {x0 x1 : Option D} (B : Bag μ r) : ∃ μ', S_law_1b2b [x0, x1, some (.cell r), some (upD up)] μ = some (.nx [x0, x1, some (.cell r), some (upD up)] μ') ∧ Bag μ' r := by
  obtain ⟨μ', e, B'⟩ := right_ok (up := up) B
  exact ⟨μ', ev_ifS (k := false) (ev_not (k := true) (ev_tru (ev_cb (ev_cons rfl (ev_cons rfl ev_nil)) e) ev_truB)) (ev_iteF rfl), B'⟩
theorem law_cell {x0 v2 v3 : Option D} {c : Int} : ∃ w2 w3 μ', S_law_1b [x0, some (.int c), v2, v3] μ = some (.nx [x0, some (.int c), w2, w3] μ') := by
  obtain ⟨b, e, B⟩ := bag_live_ok (μ := μ) (c := c)
  obtain ⟨μ1, e1, B1⟩ := kind_turn (x0 := x0) (x1 := some (.int c)) (up := true) B
  obtain ⟨μ2, e2, B2⟩ := kind_turn (x0 := x0) (x1 := some (.int c)) (up := false) B1
  have s1 : S_law_1b1 [x0, some (.int c), v2, v3] μ = some (.nx [x0, some (.int c), some (.cell μ.length), v3] (μ ++ [.lst b])) := ev_asg (ev_cb (ev_cons rfl ev_nil) e) (ev_name (by repeat constructor))
  exact ⟨_, _, μ2, ev_seq s1 (ev_for (s := ([upD true, upD false], none)) (ev_src (ev_tup (ev_cons ev_c (ev_cons ev_c ev_nil)) (len_le rfl)) rfl) (loop_cons trivial rfl e1 (loop_cons trivial rfl e2 (loop_nil trivial))))⟩
theorem fit_one : fitD true [(9, 2), (9, 3)] 1000 = [] := by decide +kernel
theorem fit_two : fitD true [(1000 + 600 * 10 ^ 27, 10 ^ 27 + 1)] 1000 = [(1000, 600, 600)] := by decide +kernel
theorem law_true (ns : List Int) (hl : ns.length ≤ 63) : ∃ μ' : Sto, F_law [.scr (ns.map D.int)] [] = some (.bl true, μ') := by
  obtain ⟨L0, eL0, lL0⟩ := cutD_map (f := D.int) ns none (some 6)
  have eL : L0.map D.int ++ [D.int 0] = (L0 ++ [0]).map D.int := by rw [List.map_append]; rfl
  obtain ⟨τ, μ1, e1, ⟨w1, w2, w3, rfl⟩⟩ := loop_inv (L := L0 ++ [0]) (en := D.int) (k := 0) (j := none) (all := (L0 ++ [0]).map D.int) (g := nameG 1) (b := S_law_1b)
    (I := fun _ τ _ => ∃ w1 w2 w3 : Option D, τ = [some (.scr (ns.map D.int)), w1, w2, w3]) (τ := [some (.scr (ns.map D.int)), none, none, none]) (μ := ([] : Sto)) ⟨_, _, _, rfl⟩ (fun _ _ _ _ => trivial) (by
      rintro i c τ μ ⟨w1, w2, w3, rfl⟩ hx
      obtain ⟨x2, x3, μ', e⟩ := law_cell (μ := μ) (c := c) (x0 := some (.scr (ns.map D.int))) (v2 := w2) (v3 := w3)
      exact ⟨_, _, _, _, rfl, e, _, _, _, rfl⟩)
  have hc : catL (.lst (Z.cutD (ns.map D.int) none (some 6))) (.lst [.int 0]) [] = some ((L0 ++ [0]).map D.int, []) := by
    rw [eL0, ev_cat rfl rfl (by rw [List.length_map]; show L0.length + 1 ≤ _; omega), eL]
  have s1 : S_law_1 [some (.scr (ns.map D.int)), none, none, none] [] = some (.nx [some (.scr (ns.map D.int)), w1, w2, w3] μ1) := ev_for (s := ((L0 ++ [0]).map D.int, none)) (μ1 := []) (ev_src (x := .lst ((L0 ++ [0]).map D.int)) (ev_val (ev_opF (ev_slT_scr rfl rfl rfl) (ev_val (ev_lst (ev_cons ev_c ev_nil) (len_le rfl))) hc)) rfl) e1
  have t27 : (1000000000000000000000000000 : Int) = 10 ^ 27 := by decide
  have f1 := fitting_ok (μ := μ1) (up := true) (d := .lst ([((9 : Int), (2 : Int)), (9, 3)].map pairD)) (L := [(9, 2), (9, 3)]) (most := 1000) ⟨rfl, by decide, by decide, fun q hq => by
    rcases List.mem_cons.mp hq with rfl | hq
    · exact ⟨⟨by decide, by decide⟩, by decide, by decide⟩
    · rw [List.mem_singleton.mp hq]; exact ⟨⟨by decide, by decide⟩, by decide, by decide⟩⟩ (fun q hq => by
      have := (List.mem_filter.mp hq).1
      rcases List.mem_cons.mp this with rfl | hq
      · decide
      · rw [List.mem_singleton.mp hq]; decide) ⟨by decide, by decide⟩
  rw [fit_one] at f1
  have f2 := fitting_ok (μ := μ1) (up := true) (d := .lst ([((1000 : Int) + 600 * 10 ^ 27, (10 : Int) ^ 27 + 1)].map pairD)) (L := [(1000 + 600 * 10 ^ 27, 10 ^ 27 + 1)]) (most := 1000) ⟨rfl, by decide, by decide, fun q hq => by
    rw [List.mem_singleton.mp hq]; exact ⟨⟨by decide, by decide⟩, by decide, by decide⟩⟩ (fun q hq => by
      obtain ⟨m1, m2⟩ := List.mem_filter.mp hq
      rw [List.mem_singleton.mp m1] at m2
      exact absurd (of_decide_eq_true m2) (by decide)) ⟨by decide, by decide⟩
  rw [fit_two] at f2
  have s2 : S_law_2 [some (.scr (ns.map D.int)), w1, w2, w3] μ1 = some (.nx [some (.scr (ns.map D.int)), w1, w2, w3] μ1) := ev_ifS (k := false) (ev_test (ev_op (ev_cb (ev_cons ev_c (ev_cons (ev_val (ev_lst (ev_cons (ev_tup (ev_cons ev_c (ev_cons ev_c ev_nil)) (len_le rfl)) (ev_cons (ev_tup (ev_cons ev_c (ev_cons ev_c ev_nil)) (len_le rfl)) ev_nil)) (len_le rfl))) (ev_cons ev_c ev_nil))) f1) (ev_val (ev_lst ev_nil (len_le rfl))) rfl)) (ev_iteF rfl)
  have p27 : ∀ {τ : Fr}, (opO (intC PowOk fun i j => .int (i ^ j.toNat)) (cO (.int (10))) (cO (.int (27)))) τ μ1 = some (.int (10 ^ 27), μ1) := ev_op ev_c ev_c (ev_intC (powOk_of (by decide) (by decide) (by decide)))
  have s3 : S_law_3 [some (.scr (ns.map D.int)), w1, w2, w3] μ1 = some (.rt (.bl true) μ1) :=
    ev_ret (ev_op (ev_slTl (ds := [tripD (1000, 600, 600)]) (lo := some (-1)) (hi := none) (ev_cb (ev_cons ev_c (ev_cons (ev_val (ev_lst (ev_cons (ev_tup (ev_cons (ev_op ev_c (ev_op ev_c p27 (ev_mulI (mulOk_l (by decide)))) ev_addI) (ev_cons (ev_op p27 ev_c ev_addI) ev_nil)) (len_le rfl)) ev_nil) (len_le rfl))) (ev_cons ev_c ev_nil))) f2) rfl rfl) (ev_val (ev_lst (ev_cons (ev_tup (ev_cons ev_c (ev_cons ev_c (ev_cons ev_c ev_nil))) (len_le rfl)) ev_nil) (len_le rfl))) (ev_eqLT (L := [(1000, 600, 600)]) (M := [(1000, 600, 600)]) rfl rfl))
  obtain ⟨μ4, e4⟩ := trim_any (μ := []) (μ1 := μ1) (d := .bl true)
  refine ⟨μ4, ev_def rfl (by repeat constructor) (d := .bl true) (μ1 := μ1) ?_ e4⟩
  rw [B_law_eq]
  exact ev_seq s1 (ev_seq s2 s3)
end
end M

set_option Elab.async false
set_option linter.all false
set_option maxRecDepth 100000
set_option maxHeartbeats 4000000
namespace k40
open PySem PySem.Spec L2 Z M
open PyProof.Rows hiding St

section
variable {P : Program} {w : World} {K : PySem.W.Frag} {mg : Str → Option Value} {base : Heap}
theorem ok_law_bag (D : Def K mg "_law_bag" s_law_bag) (T : Txt K mg) (TB : TbOk K CS tb)  : CallOk P w K mg base CX0 1 "_law_bag" ["cell"] (spO K F_law_bag) :=
  def_ok0 D sc_law_bag (fun _ _ _ _ h => spO_len rfl h) (fun _ _ _ _ _ _ us hl => match us, hl with | [_], _ => rfl) fun fa cdv A outer s H vs Q E hr h => ⟨_, (pss_one (ps_ret (pe_lst (pa_cons (pe_callB (cMax rfl) (by rfl) T.max (by decide +kernel) (pa_cons pe_int (pa_cons (pe_op op_sub (pv 0) (pe_op op_powW pe_int pe_int)) pa_nil))) (pa_cons (pv 0) (pa_cons pe_int pa_nil)))))),
  spO_body (N := ["cell"]) rfl (refS_ret (refE_val (refF_lst (refA_cons (refE_cb refL_max (refA_cons refE_int (refA_cons (refE_op refB_sub refE_var (refE_op refB_pow refE_int refE_int)) refA_nil))) (refA_cons refE_var (refA_cons refE_int refA_nil)))))) h⟩
theorem ok_law_pick (D : Def K mg "_law_pick" s_law_pick) (T : Txt K mg) (TB : TbOk K CS tb)  : CallOk P w K mg base CX0 1 "_law_pick" ["bag", "many"] (spO K F_law_pick) :=
  def_ok0 D sc_law_pick (fun _ _ _ _ h => spO_len rfl h) (fun _ _ _ _ _ _ us hl => match us, hl with | [_, _], _ => rfl) fun fa cdv A outer s H vs Q E hr h => ⟨_, (pss_cons (ps_asg (pe_op (op_addU (K := K) rfl) (pe_ix (ix_U (K := K) rfl) (pv 0) pe_int (fun _ _ => rfl)) pe_int) (pg_sub (pv 0) pe_int set_list))
  (pss_cons (ps_if (pt_cmpR op_gt (pe_ix (ix_U (K := K) rfl) (pv 0) pe_int (fun _ _ => rfl)) pe_int (nomark _)) (pss_cons (ps_set (i := 2) sc_law_pick.nd rfl (Or.inl rfl) (pe_op op_mod (pe_callTy cInt (by rfl) T.int (by decide +kernel) (pa_cons (pe_ix (ix_U (K := K) rfl) (pv 0) pe_int (fun _ _ => rfl)) pa_nil)) (pv 1)))
  (pss_cons (ps_asg (pe_op op_fdivW (pe_callTy cInt (by rfl) T.int (by decide +kernel) (pa_cons (pe_ix (ix_U (K := K) rfl) (pv 0) pe_int (fun _ _ => rfl)) pa_nil)) (pv 1)) (pg_sub (pv 0) pe_int set_list))
  (pss_one (ps_ret (pv 2))))) pss_nil)
  (pss_cons (ps_par (i := 3) (j := 4) (by rfl) sc_law_pick.nd rfl rfl (by decide) rfl rfl (pa_cons (pe_callTy cInt (by rfl) T.int (by decide +kernel) (pa_cons (pe_ix (ix_U (K := K) rfl) (pv 0) pe_int (fun _ _ => rfl)) pa_nil)) (pa_cons (pe_callTy cInt (by rfl) T.int (by decide +kernel) (pa_cons (pe_ix (ix_U (K := K) rfl) (pv 0) pe_int (fun _ _ => rfl)) pa_nil)) pa_nil)) (by rfl))
  (pss_cons (ps_set (i := 5) sc_law_pick.nd rfl (Or.inl rfl) (pe_op op_mod (pe_callTy cInt (by rfl) T.int (by decide +kernel) (pa_cons (pe_op (op_addU (K := K) rfl) (pe_op (op_addU (K := K) rfl) (pe_op (op_mulU (K := K)) (pe_op op_mod (pv 3) pe_int) pe_int) (pe_op (op_mulU (K := K)) (pv 4) pe_int)) pe_int) pa_nil)) pe_int))
  (pss_cons (ps_set (i := 6) sc_law_pick.nd rfl (Or.inl rfl) (pe_op op_mod (pe_callTy cInt (by rfl) T.int (by decide +kernel) (pa_cons (pe_op (op_addU (K := K) rfl) (pe_op (op_mulU (K := K)) (pv 5) (pv 5)) (pe_op (op_mulU (K := K)) (pv 4) pe_int)) pa_nil)) pe_int))
  (pss_cons (ps_set (i := 7) sc_law_pick.nd rfl (Or.inl rfl) (pe_op op_fdivW (pe_callTy cInt (by rfl) T.int (by decide +kernel) (pa_cons (pe_op (op_addU (K := K) rfl) (pe_op (op_mulU (K := K)) (pv 5) pe_int) (pv 6)) pa_nil)) pe_int))
  (pss_cons (ps_if (pt_cmpR op_gt (pv 1) (pe_op op_powW pe_int pe_int) (nomark _)) (pss_one (ps_set (i := 7) sc_law_pick.nd rfl (Or.inl rfl) (pe_op (op_addU (K := K) rfl) (pe_op op_powW (pv 7) pe_int) (pv 6)))) pss_nil)
  (pss_one (ps_ret (pe_op op_mod (pe_callTy cInt (by rfl) T.int (by decide +kernel) (pa_cons (pv 7) pa_nil)) (pv 1))))))))))),
  spO_body (N := ["bag", "many", "told", "seed", "turn", "first", "second", "drawn"]) rfl (refS_seq (refS_asg (vs := []) (refE_op refB_add (refE_op refB_ix refE_var refE_int) refE_int) (refG_sub refE_var refE_int))
  (refS_seq (refS_if (refT_test (refE_op refB_gt (refE_op refB_ix refE_var refE_int) refE_int)) (refS_seq (refS_asgN (refE_op refB_mod (refE_cb refL_int (refA_cons (refE_op refB_ix refE_var refE_int) refA_nil)) refE_var))
  (refS_seq (refS_asg (vs := []) (refE_op refB_fdiv (refE_cb refL_int (refA_cons (refE_op refB_ix refE_var refE_int) refA_nil)) refE_var) (refG_sub refE_var refE_int))
  (refS_ret refE_var))) refS_next)
  (refS_seq (refS_par (refA_cons (refE_cb refL_int (refA_cons (refE_op refB_ix refE_var refE_int) refA_nil)) (refA_cons (refE_cb refL_int (refA_cons (refE_op refB_ix refE_var refE_int) refA_nil)) refA_nil)))
  (refS_seq (refS_asgN (refE_op refB_mod (refE_cb refL_int (refA_cons (refE_op refB_add (refE_op refB_add (refE_op refB_mul (refE_op refB_mod refE_var refE_int) refE_int) (refE_op refB_mul refE_var refE_int)) refE_int) refA_nil)) refE_int))
  (refS_seq (refS_asgN (refE_op refB_mod (refE_cb refL_int (refA_cons (refE_op refB_add (refE_op refB_mul refE_var refE_var) (refE_op refB_mul refE_var refE_int)) refA_nil)) refE_int))
  (refS_seq (refS_asgN (refE_op refB_fdiv (refE_cb refL_int (refA_cons (refE_op refB_add (refE_op refB_mul refE_var refE_int) refE_var) refA_nil)) refE_int))
  (refS_seq (refS_if (refT_test (refE_op refB_gt refE_var (refE_op refB_pow refE_int refE_int))) (refS_asgN (refE_op refB_add (refE_op refB_pow refE_var refE_int) refE_var)) refS_next)
  (refS_ret (refE_op refB_mod (refE_cb refL_int (refA_cons refE_var refA_nil)) refE_var))))))))) h⟩
theorem ok_law_part (D : Def K mg "_law_part" s_law_part) (T : Txt K mg) (TB : TbOk K CS tb) (C_law_pick : CallOk P w K mg base CX0 1 "_law_pick" ["bag", "many"] (spO K F_law_pick)) : CallOk P w K mg base CX0 2 "_law_part" ["bag", "whole"] (spO K F_law_part) :=
  def_ok0 D sc_law_part (fun _ _ _ _ h => spO_len rfl h) (fun _ _ _ _ _ _ us hl => match us, hl with | [_, _], _ => rfl) fun fa cdv A outer s H vs Q E hr h => ⟨_, (pss_cons (ps_set (i := 2) sc_law_part.nd rfl (Or.inl rfl) (pe_callB (cMax rfl) (by rfl) T.max (by decide +kernel) (pa_cons pe_int (pa_cons (pe_op op_fdivW (pe_op (op_addU (K := K) rfl) (pv 1) pe_int) pe_int) pa_nil))))
  (pss_one (ps_ret (pe_op (op_addU (K := K) rfl) (pv 2) (pe_own C_law_pick (hr.mono (by decide)) rfl pass0 (pa_cons (pv 0) (pa_cons (pe_op op_sub (pe_op (op_addU (K := K) rfl) (pv 1) pe_int) (pe_op (op_mulU (K := K)) pe_int (pv 2))) pa_nil))))))),
  spO_body (N := ["bag", "whole", "low"]) rfl (refS_seq (refS_asgN (refE_cb refL_max (refA_cons refE_int (refA_cons (refE_op refB_fdiv (refE_op refB_add refE_var refE_int) refE_int) refA_nil))))
  (refS_ret (refE_op refB_add refE_var (refE_call (refA_cons refE_var (refA_cons (refE_op refB_sub (refE_op refB_add refE_var refE_int) (refE_op refB_mul refE_int refE_var)) refA_nil)))))) h⟩
theorem ok_is_word (D : Def K mg "is_word" s_is_word) (T : Txt K mg) (TB : TbOk K CS tb)  : CallOk P w K mg base CX0 1 "is_word" ["value", "words"] (spO K F_is_word) :=
  def_ok0 D sc_is_word (fun _ _ _ _ h => spO_len rfl h) (fun _ _ _ _ _ _ us hl => match us, hl with | [_, _], _ => rfl) fun fa cdv A outer s H vs Q E hr h => ⟨_, (pss_one (ps_ret (pe_and (pe_callB (cIsiK (K := K) rfl) (by rfl) T.isinstance (by decide +kernel) (pa_cons (pv 0) (pa_cons (pe_bltn (v := .ty "str") rfl T.str (by decide +kernel) rfl) pa_nil))) (pe_one (pe_cmpR (op_inK (K := K) rfl) (pv 0) (pv 1) (by rfl)))))),
  spO_body (N := ["value", "words"]) rfl (refS_ret (refE_and (refE_cb (refL_isi TB) (refA_cons refE_var (refA_cons refE_ty refA_nil))) (refE_op refB_in refE_var refE_var))) h⟩
theorem ok_is_kind (D : Def K mg "is_kind" s_is_kind) (T : Txt K mg) (TB : TbOk K CS tb) (C_is_word : CallOk P w K mg base CX0 1 "is_word" ["value", "words"] (spO K F_is_word)) : CallOk P w K mg base CX0 2 "is_kind" ["kind"] (spO K F_is_kind) :=
  def_ok0 D sc_is_kind (fun _ _ _ _ h => spO_len rfl h) (fun _ _ _ _ _ _ us hl => match us, hl with | [_], _ => rfl) fun fa cdv A outer s H vs Q E hr h => ⟨_, (pss_one (ps_ret (pe_own C_is_word (hr.mono (by decide)) rfl pass0 (pa_cons (pv 0) (pa_cons (pe_glob (v := .ref (He.ga K "KINDS")) rfl T.q_KINDS rfl) pa_nil))))),
  spO_body (N := ["kind"]) rfl (refS_ret (refE_call (refA_cons refE_var (refA_cons (refE_ktp T.t_KINDS) refA_nil)))) h⟩
theorem ok_check_kind (D : Def K mg "check_kind" s_check_kind) (T : Txt K mg) (TB : TbOk K CS tb) (C_is_kind : CallOk P w K mg base CX0 2 "is_kind" ["kind"] (spO K F_is_kind)) : CallOk P w K mg base CX0 3 "check_kind" ["kind"] (spO K F_check_kind) :=
  def_ok0 D sc_check_kind (fun _ _ _ _ h => spO_len rfl h) (fun _ _ _ _ _ _ us hl => match us, hl with | [_], _ => rfl) fun fa cdv A outer s H vs Q E hr h => ⟨_, (pss_one (ps_if (pt_not (pt_tru (K := K) rfl (pe_own C_is_kind (hr.mono (by decide)) rfl pass0 (pa_cons (pv 0) pa_nil)))) (pss_one ps_never) pss_nil)),
  spO_body (N := ["kind"]) rfl (refS_if (refT_not (refT_tru (refE_call (refA_cons refE_var refA_nil)))) refS_never refS_next) h⟩
theorem ok_is_list (D : Def K mg "is_list" s_is_list) (T : Txt K mg) (TB : TbOk K CS tb)  : CallOk P w K mg base CX0 1 "is_list" ["value", "least", "most"] (spO K F_is_list) :=
  def_ok0 D sc_is_list (fun _ _ _ _ h => spO_len rfl h) (fun _ _ _ _ _ _ us hl => match us, hl with | [_, _, _], _ => rfl) fun fa cdv A outer s H vs Q E hr h => ⟨_, (pss_one (ps_ret (pe_and (pe_callB (cIsiK (K := K) rfl) (by rfl) T.isinstance (by decide +kernel) (pa_cons (pv 0) (pa_cons (pe_bltn (v := .ty "list") rfl T.list (by decide +kernel) rfl) pa_nil))) (pe_one (pe_chain op_le op_le (pv 1) (pe_callB (cLenK (K := K) rfl) (by rfl) T.len PySem.boot_len (pa_cons (pv 0) pa_nil)) (pv 2)))))),
  spO_body (N := ["value", "least", "most"]) rfl (refS_ret (refE_and (refE_cb (refL_isi TB) (refA_cons refE_var (refA_cons refE_ty refA_nil))) (refE_chain refB_le refB_le refE_var (refE_cb refL_len (refA_cons refE_var refA_nil)) refE_var))) h⟩
theorem ok_is_pair (D : Def K mg "is_pair" s_is_pair) (T : Txt K mg) (TB : TbOk K CS tb)  : CallOk P w K mg base CX0 1 "is_pair" ["value"] (spO K F_is_pair) :=
  def_ok0 D sc_is_pair (fun _ _ _ _ h => spO_len rfl h) (fun _ _ _ _ _ _ us hl => match us, hl with | [_], _ => rfl) fun fa cdv A outer s H vs Q E hr h => ⟨_, (pss_one (ps_ret (pe_and (pe_callB (cIsiK (K := K) rfl) (by rfl) T.isinstance (by decide +kernel) (pa_cons (pv 0) (pa_cons (pe_bltn (v := .ty "tuple") rfl T.tuple (by decide +kernel) rfl) pa_nil))) (pe_one (pe_cmpR (op_eqU (K := K) rfl hr.units) (pe_callB (cLenK (K := K) rfl) (by rfl) T.len PySem.boot_len (pa_cons (pv 0) pa_nil)) pe_int (nomark _)))))),
  spO_body (N := ["value"]) rfl (refS_ret (refE_and (refE_cb (refL_isi TB) (refA_cons refE_var (refA_cons refE_ty refA_nil))) (refE_op refB_eq (refE_cb refL_len (refA_cons refE_var refA_nil)) refE_int))) h⟩
theorem ok_is_between (D : Def K mg "is_between" s_is_between) (T : Txt K mg) (TB : TbOk K CS tb)  : CallOk P w K mg base CX0 1 "is_between" ["value", "least", "most"] (spO K F_is_between) :=
  def_ok0 D sc_is_between (fun _ _ _ _ h => spO_len rfl h) (fun _ _ _ _ _ _ us hl => match us, hl with | [_, _, _], _ => rfl) fun fa cdv A outer s H vs Q E hr h => ⟨_, (pss_one (ps_ret (pe_and (pe_callB (cIsiK (K := K) rfl) (by rfl) T.isinstance (by decide +kernel) (pa_cons (pv 0) (pa_cons (pe_bltn (v := .ty "int") rfl T.int (by decide +kernel) rfl) pa_nil))) (pe_and (pe_not (pe_callB (cIsiK (K := K) rfl) (by rfl) T.isinstance (by decide +kernel) (pa_cons (pv 0) (pa_cons (pe_bltn (v := .ty "bool") rfl T.bool (by decide +kernel) rfl) pa_nil)))) (pe_one (pe_chain op_le op_le (pv 1) (pv 0) (pv 2))))))),
  spO_body (N := ["value", "least", "most"]) rfl (refS_ret (refE_and (refE_cb (refL_isi TB) (refA_cons refE_var (refA_cons refE_ty refA_nil))) (refE_and (refE_not (refE_cb (refL_isi TB) (refA_cons refE_var (refA_cons refE_ty refA_nil)))) (refE_chain refB_le refB_le refE_var refE_var refE_var)))) h⟩
theorem ok_is_sight (D : Def K mg "_is_sight" s_is_sight) (T : Txt K mg) (TB : TbOk K CS tb) (C_is_pair : CallOk P w K mg base CX0 1 "is_pair" ["value"] (spO K F_is_pair)) (C_is_between : CallOk P w K mg base CX0 1 "is_between" ["value", "least", "most"] (spO K F_is_between)) : CallOk P w K mg base CX0 2 "_is_sight" ["item"] (spO K F_is_sight) :=
  def_ok0 D sc_is_sight (fun _ _ _ _ h => spO_len rfl h) (fun _ _ _ _ _ _ us hl => match us, hl with | [_], _ => rfl) fun fa cdv A outer s H vs Q E hr h => ⟨_, (pss_one (ps_ret (pe_and (pe_own C_is_pair (hr.mono (by decide)) rfl pass0 (pa_cons (pv 0) pa_nil)) (pe_and (pe_own C_is_between (hr.mono (by decide)) rfl pass0 (pa_cons (pe_ix (ix_U (K := K) rfl) (pv 0) pe_int (fun _ _ => rfl)) (pa_cons pe_int (pa_cons (pe_glob (v := .int 1000000000000000000000000000000) rfl T.k_MOST_COUNT.choose_spec ⟨_, rfl⟩) pa_nil)))) (pe_one (pe_own C_is_between (hr.mono (by decide)) rfl pass0 (pa_cons (pe_ix (ix_U (K := K) rfl) (pv 0) pe_int (fun _ _ => rfl)) (pa_cons pe_int (pa_cons (pe_glob (v := .int 1000000000000000000000000000000) rfl T.k_MOST_COUNT.choose_spec ⟨_, rfl⟩) pa_nil))))))))),
  spO_body (N := ["item"]) rfl (refS_ret (refE_and (refE_call (refA_cons refE_var refA_nil)) (refE_and (refE_call (refA_cons (refE_op refB_ix refE_var refE_int) (refA_cons refE_int (refA_cons refE_int refA_nil)))) (refE_call (refA_cons (refE_op refB_ix refE_var refE_int) (refA_cons refE_int (refA_cons refE_int refA_nil))))))) h⟩
theorem ok_check_seen (D : Def K mg "_check_seen" s_check_seen) (T : Txt K mg) (TB : TbOk K CS tb) (C_is_list : CallOk P w K mg base CX0 1 "is_list" ["value", "least", "most"] (spO K F_is_list)) (C_is_sight : CallOk P w K mg base CX0 2 "_is_sight" ["item"] (spO K F_is_sight)) : CallOk P w K mg base CX0 3 "_check_seen" ["seen"] (spO K F_check_seen) :=
  def_ok0 D sc_check_seen (fun _ _ _ _ h => spO_len rfl h) (fun _ _ _ _ _ _ us hl => match us, hl with | [_], _ => rfl) fun fa cdv A outer s H vs Q E hr h => ⟨_, (pss_cons (ps_if (pt_not (pt_tru (K := K) rfl (pe_own C_is_list (hr.mono (by decide)) rfl pass0 (pa_cons (pv 0) (pa_cons pe_int (pa_cons (pe_glob (v := .int 20) rfl T.k_MOST_SEEN.choose_spec ⟨_, rfl⟩) pa_nil)))))) (pss_one ps_never) pss_nil)
  (pss_one (ps_for PassesOwn.never rfl (pi_enumK (K := K) rfl (by rfl) T.enumerate (pa_cons (pv 0) pa_nil)) (pg_tup (by rfl) (pgs_cons (pg_name (i := 1) sc_check_seen.nd rfl (Or.inl rfl)) (pgs_cons (pg_name (i := 2) sc_check_seen.nd rfl (Or.inl rfl)) pgs_nil))) (pss_one (ps_if (pt_not (pt_tru (K := K) rfl (pe_own C_is_sight (hr.mono (by decide)) rfl pass0 (pa_cons (pv 2) pa_nil)))) (pss_one ps_never) pss_nil))))),
  spO_body (N := ["seen", "at", "item"]) rfl (refS_seq (refS_if (refT_not (refT_tru (refE_call (refA_cons refE_var (refA_cons refE_int (refA_cons refE_int refA_nil)))))) refS_never refS_next)
  (refS_for (vs := [1, 2]) (refI_enum (refA_cons refE_var refA_nil)) (refG_tup (refGs_cons (refG_name (by decide)) (refGs_cons (refG_name (by decide)) refGs_nil))) (refS_if (refT_not (refT_tru (refE_call (refA_cons refE_var refA_nil)))) refS_never refS_next))) h⟩
theorem ok_parts (D : Def K mg "_parts" s_parts) (T : Txt K mg) (TB : TbOk K CS tb)  : CallOk P w K mg base CX0 1 "_parts" ["leaf", "split"] (spO K F_parts) :=
  def_ok0 D sc_parts (fun _ _ _ _ h => spO_len rfl h) (fun _ _ _ _ _ _ us hl => match us, hl with | [_, _], _ => rfl) fun fa cdv A outer s H vs Q E hr h => ⟨_, (pss_cons (ps_set (i := 2) sc_parts.nd rfl (Or.inl rfl) (pe_callB (cMax rfl) (by rfl) T.max (by decide +kernel) (pa_cons pe_int (pa_cons (pe_op op_fdivW (pe_op (op_addU (K := K) rfl) (pv 0) pe_int) pe_int) pa_nil))))
  (pss_cons (ps_set (i := 3) sc_parts.nd rfl (Or.inl rfl) (pe_op op_sub (pe_op (op_addU (K := K) rfl) (pv 0) pe_int) (pv 2)))
  (pss_cons (ps_for PassesOwn.never rfl (pi_seq (K := K) rfl (pi_list (pv 1)) (pi_tup (pv 1))) (pg_tup (by rfl) (pgs_cons (pg_name (i := 4) sc_parts.nd rfl (Or.inl rfl)) (pgs_cons (pg_name (i := 5) sc_parts.nd rfl (Or.inl rfl)) pgs_nil))) (pss_cons (ps_set (i := 6) sc_parts.nd rfl (Or.inl rfl) (pe_op op_sub (pe_op op_sub (pv 4) (pv 0)) pe_int))
  (pss_cons (ps_set (i := 2) sc_parts.nd rfl (Or.inl rfl) (pe_callB (cMax rfl) (by rfl) T.max (by decide +kernel) (pa_cons (pv 2) (pa_cons (pe_op (op_addU (K := K) rfl) (pe_op op_fdivW (pv 6) (pe_op op_sub (pv 5) pe_int)) pe_int) pa_nil))))
  (pss_cons (ps_if (pt_cmpR op_gt (pv 5) pe_int (nomark _)) (pss_one (ps_set (i := 3) sc_parts.nd rfl (Or.inl rfl) (pe_callB (cMin rfl) (by rfl) T.min (by decide +kernel) (pa_cons (pv 3) (pa_cons (pe_op op_fdivW (pv 6) (pe_op op_sub (pv 5) pe_int)) pa_nil))))) pss_nil)
  (pss_one (ps_if (pt_cmpR op_gt (pv 2) (pv 3) (nomark _)) (pss_one ps_break) pss_nil))))))
  (pss_one (ps_ret (pe_tup (pa_cons (pv 2) (pa_cons (pv 3) pa_nil)))))))),
  spO_body (N := ["leaf", "split", "least", "greatest", "entries", "leaves", "behind"]) rfl (refS_seq (refS_asgN (refE_cb refL_max (refA_cons refE_int (refA_cons (refE_op refB_fdiv (refE_op refB_add refE_var refE_int) refE_int) refA_nil))))
  (refS_seq (refS_asgN (refE_op refB_sub (refE_op refB_add refE_var refE_int) refE_var))
  (refS_seq (refS_for (vs := [4, 5]) (refI_seq refE_var) (refG_tup (refGs_cons (refG_name (by decide)) (refGs_cons (refG_name (by decide)) refGs_nil))) (refS_seq (refS_asgN (refE_op refB_sub (refE_op refB_sub refE_var refE_var) refE_int))
  (refS_seq (refS_asgN (refE_cb refL_max (refA_cons refE_var (refA_cons (refE_op refB_add (refE_op refB_fdiv refE_var (refE_op refB_sub refE_var refE_int)) refE_int) refA_nil))))
  (refS_seq (refS_if (refT_test (refE_op refB_gt refE_var refE_int)) (refS_asgN (refE_cb refL_min (refA_cons refE_var (refA_cons (refE_op refB_fdiv refE_var (refE_op refB_sub refE_var refE_int)) refA_nil)))) refS_next)
  (refS_if (refT_test (refE_op refB_gt refE_var refE_var)) refS_brk refS_next)))))
  (refS_ret (refE_tup (refA_cons refE_var (refA_cons refE_var refA_nil))))))) h⟩
theorem ok_fitting_rules (D : Def K mg "fitting_rules" s_fitting_rules) (T : Txt K mg) (TB : TbOk K CS tb) (C_check_kind : CallOk P w K mg base CX0 3 "check_kind" ["kind"] (spO K F_check_kind)) (C_check_seen : CallOk P w K mg base CX0 3 "_check_seen" ["seen"] (spO K F_check_seen)) (C_is_between : CallOk P w K mg base CX0 1 "is_between" ["value", "least", "most"] (spO K F_is_between)) (C_parts : CallOk P w K mg base CX0 1 "_parts" ["leaf", "split"] (spO K F_parts)) : CallOk P w K mg base CX0 4 "fitting_rules" ["kind", "seen", "most"] (spO K F_fitting_rules) :=
  def_ok0 D sc_fitting_rules (fun _ _ _ _ h => spO_len rfl h) (fun _ _ _ _ _ _ us hl => match us, hl with | [_, _, _], _ => rfl) fun fa cdv A outer s H vs Q E hr h => ⟨_, (pss_cons (ps_expr (pe_own C_check_kind (hr.mono (by decide)) rfl pass0 (pa_cons (pv 0) pa_nil)))
  (pss_cons (ps_expr (pe_own C_check_seen (hr.mono (by decide)) rfl pass0 (pa_cons (pv 1) pa_nil)))
  (pss_cons (ps_if (pt_not (pt_tru (K := K) rfl (pe_own C_is_between (hr.mono (by decide)) rfl pass0 (pa_cons (pv 2) (pa_cons (pe_glob (v := .int 3) rfl T.k_LEAST_ASKED.choose_spec ⟨_, rfl⟩) (pa_cons (pe_glob (v := .int 1000) rfl T.k_MOST_ASKED.choose_spec ⟨_, rfl⟩) pa_nil)))))) (pss_one ps_never) pss_nil)
  (pss_cons (ps_setLc (i := 3) (own := [("entries", 11), ("leaves", 12)]) (g := gTup K 2 (gCons (gName 11) (gCons (gName 12) gNil)))  rfl sc_fitting_rules.nd rfl rfl (sw_true rfl rfl rfl (by decide +kernel)) (pi_seq (K := K) rfl (pi_list (pv 1)) (pi_tup (pv 1))) (blkOk_by (own := [("entries", 11), ("leaves", 12)]) (N := ["kind", "seen", "most", "split", "lowest", "highest", "found", "leaf", "least", "greatest", "parts", "entries", "leaves", "_"]) (sc := (defScope s_fitting_rules)) (by decide +kernel)) (fun _ _ _ _ _ => (pg_tup (by rfl) (pgs_cons (pg_name (i := 11) sc_fitting_rules.nd rfl (Or.inl rfl)) (pgs_cons (pg_name (i := 12) sc_fitting_rules.nd rfl (Or.inl rfl)) pgs_nil)))) (fun _ _ _ _ _ => (pts_one (pt_cmpR op_gt (pv 12) pe_int (nomark _)))) (fun _ _ _ _ _ => (pe_tup (pa_cons (pv 11) (pa_cons (pv 12) pa_nil)))))
  (pss_cons (ps_set (i := 4) sc_fitting_rules.nd rfl (Or.inl rfl) (pe_callB (cMaxs (K := K) rfl rfl) (by rfl) T.max (by decide +kernel) (pa_cons (pe_op (op_addU (K := K) rfl) (pe_lst (pa_cons (pe_glob (v := .int 3) rfl T.k_LEAST_ASKED.choose_spec ⟨_, rfl⟩) pa_nil)) (pe_lc (own := [("entries", 11), ("leaves", 12)]) (g := gTup K 2 (gCons (gName 11) (gCons (gName 12) gNil)))  rfl sc_fitting_rules.nd (pi_seq (K := K) rfl (pi_list (pv 1)) (pi_tup (pv 1))) (blkOk_by (own := [("entries", 11), ("leaves", 12)]) (N := ["kind", "seen", "most", "split", "lowest", "highest", "found", "leaf", "least", "greatest", "parts", "entries", "leaves", "_"]) (sc := (defScope s_fitting_rules)) (by decide +kernel)) (fun _ _ _ _ _ => (pg_tup (by rfl) (pgs_cons (pg_name (i := 11) sc_fitting_rules.nd rfl (Or.inl rfl)) (pgs_cons (pg_name (i := 12) sc_fitting_rules.nd rfl (Or.inl rfl)) pgs_nil)))) (fun _ _ _ _ _ => (pts_one (pt_cmpR (op_eqU (K := K) rfl hr.units) (pv 12) pe_int (nomark _)))) (fun _ _ _ _ _ => (pv 11)))) pa_nil)))
  (pss_cons (ps_set (i := 5) sc_fitting_rules.nd rfl (Or.inl rfl) (pe_callB (cMins (K := K) rfl rfl) (by rfl) T.min (by decide +kernel) (pa_cons (pe_op (op_addU (K := K) rfl) (pe_lst (pa_cons (pv 2) pa_nil)) (pe_lc (own := [("entries", 11), ("_", 13)]) (g := gTup K 2 (gCons (gName 11) (gCons (gName 13) gNil))) (tt := tYes) rfl sc_fitting_rules.nd (pi_seq (K := K) rfl (pi_list (pv 3)) (pi_tup (pv 3))) (blkOk_by (own := [("entries", 11), ("_", 13)]) (N := ["kind", "seen", "most", "split", "lowest", "highest", "found", "leaf", "least", "greatest", "parts", "entries", "leaves", "_"]) (sc := (defScope s_fitting_rules)) (by decide +kernel)) (fun _ _ _ _ _ => (pg_tup (by rfl) (pgs_cons (pg_name (i := 11) sc_fitting_rules.nd rfl (Or.inl rfl)) (pgs_cons (pg_name (i := 13) sc_fitting_rules.nd rfl (Or.inl rfl)) pgs_nil)))) (fun _ _ _ _ _ => pts_nil) (fun _ _ _ _ _ => (pe_op op_sub (pv 11) pe_int)))) pa_nil)))
  (pss_cons (ps_set (i := 6) sc_fitting_rules.nd rfl (Or.inl rfl) (pe_lst pa_nil))
  (pss_cons (ps_for PassesOwn.never rfl (pi_range2 rfl T.range (pa_cons (pv 4) (pa_cons (pe_op (op_addU (K := K) rfl) (pv 5) pe_int) pa_nil))) (pg_name (i := 7) sc_fitting_rules.nd rfl (Or.inl rfl)) (pss_cons (ps_asg (pe_own C_parts (hr.mono (by decide)) rfl pass0 (pa_cons (pv 7) (pa_cons (pv 3) pa_nil))) (pg_tup (by rfl) (pgs_cons (pg_name (i := 8) sc_fitting_rules.nd rfl (Or.inl rfl)) (pgs_cons (pg_name (i := 9) sc_fitting_rules.nd rfl (Or.inl rfl)) pgs_nil))))
  (pss_one (ps_if (pt_cmpR op_le (pv 8) (pv 9) (nomark _)) (pss_cons (ps_set (i := 10) sc_fitting_rules.nd rfl (Or.inl rfl) (pe_ifExp (pt_cmpR (op_eqU (K := K) rfl hr.units) (pv 0) (pe_glob (v := .str (PySem.Str.ofString "up")) rfl T.s_UP.choose_spec ⟨_, rfl⟩) (nomark _)) (pe_tup (pa_cons (pv 8) (pa_cons (pv 9) pa_nil))) (pe_tup (pa_cons (pe_op op_sub (pe_op (op_addU (K := K) rfl) (pv 7) pe_int) (pv 9)) (pa_cons (pe_op op_sub (pe_op (op_addU (K := K) rfl) (pv 7) pe_int) (pv 8)) pa_nil)))))
  (pss_one (ps_expr (pe_appK (K := K) rfl (pv 6) (pe_tup (pa_cons (pv 7) (pa_starK (K := K) rfl (pv 10) pa_nil (StX.pa_star (pv 10) pa_nil)))) (pe_bm PySem.F.plainAttrs_list PySem.F.slot_list_append PySem.F.type_list_append mt_append (pv 6) (pa_cons (pe_tup (pa_cons (pv 7) (pa_starK (K := K) rfl (pv 10) pa_nil (StX.pa_star (pv 10) pa_nil)))) pa_nil)))))) pss_nil))))
  (pss_one (ps_ret (pv 6))))))))))),
  spO_body (N := ["kind", "seen", "most", "split", "lowest", "highest", "found", "leaf", "least", "greatest", "parts", "entries", "leaves", "_"]) rfl (refS_seq (refS_drop (refE_call (refA_cons refE_var refA_nil)))
  (refS_seq (refS_drop (refE_call (refA_cons refE_var refA_nil)))
  (refS_seq (refS_if (refT_not (refT_tru (refE_call (refA_cons refE_var (refA_cons refE_int (refA_cons refE_int refA_nil)))))) refS_never refS_next)
  (refS_seq (refS_asgN (refE_val (refF_comp (refI_seq refE_var) (refG_tup (refGs_cons (refG_name (by decide)) (refGs_cons (refG_name (by decide)) refGs_nil))) (refT_test (refE_op refB_gt refE_var refE_int)) (refE_tup (refA_cons refE_var (refA_cons refE_var refA_nil))))))
  (refS_seq (refS_asgN (refE_cb refL_maxs (refA_cons (refE_val (refF_op refBF_cat (refE_val (refF_lst (refA_cons refE_int refA_nil))) (refE_val (refF_comp (refI_seq refE_var) (refG_tup (refGs_cons (refG_name (by decide)) (refGs_cons (refG_name (by decide)) refGs_nil))) (refT_test (refE_op refB_eq refE_var refE_int)) refE_var)))) refA_nil)))
  (refS_seq (refS_asgN (refE_cb refL_mins (refA_cons (refE_val (refF_op refBF_cat (refE_val (refF_lst (refA_cons refE_var refA_nil))) (refE_val (refF_comp (refI_seq refE_var) (refG_tup (refGs_cons (refG_name (by decide)) (refGs_cons (refG_name (by decide)) refGs_nil))) refT_yes (refE_op refB_sub refE_var refE_int))))) refA_nil)))
  (refS_seq (refS_asgN (refE_cell (refF_lst refA_nil)))
  (refS_seq (refS_for (vs := [7]) (refI_rng2 (refA_cons refE_var (refA_cons (refE_op refB_add refE_var refE_int) refA_nil))) (refG_name (by decide)) (refS_seq (refS_asg (vs := [8, 9]) (refE_call (refA_cons refE_var (refA_cons refE_var refA_nil))) (refG_tup (refGs_cons (refG_name (by decide)) (refGs_cons (refG_name (by decide)) refGs_nil))))
  (refS_if (refT_test (refE_op refB_le refE_var refE_var)) (refS_seq (refS_asgN (refE_if (refT_test (refE_op refB_eq refE_var refE_str)) (refE_tup (refA_cons refE_var (refA_cons refE_var refA_nil))) (refE_tup (refA_cons (refE_op refB_sub (refE_op refB_add refE_var refE_int) refE_var) (refA_cons (refE_op refB_sub (refE_op refB_add refE_var refE_int) refE_var) refA_nil)))))
  (refS_drop (refE_app refE_var (refE_tup (refA_cons refE_var (refA_star refE_var refA_nil)))))) refS_next)))
  (refS_ret (refE_frz refE_var)))))))))) h⟩
theorem ok_law_is_part (D : Def K mg "_law_is_part" s_law_is_part) (T : Txt K mg) (TB : TbOk K CS tb)  : CallOk P w K mg base CX0 1 "_law_is_part" ["leaf", "stays"] (spO K F_law_is_part) :=
  def_ok0 D sc_law_is_part (fun _ _ _ _ h => spO_len rfl h) (fun _ _ _ _ _ _ us hl => match us, hl with | [_, _], _ => rfl) fun fa cdv A outer s H vs Q E hr h => ⟨_, (pss_cons (ps_if (PW.pt (pw_or (pt_cmpR op_lt (pv 1) pe_int (nomark _)) (pw_or1 (pt_cmpR op_lt (pe_op op_sub (pe_op (op_addU (K := K) rfl) (pv 0) pe_int) (pv 1)) pe_int (nomark _))))) (pss_one (ps_ret pe_bl)) pss_nil)
  (pss_one (ps_ret (pe_and (pe_cmpR op_ge (pe_op (op_mulU (K := K)) pe_int (pv 1)) (pe_op (op_addU (K := K) rfl) (pv 0) pe_int) (nomark _)) (pe_one (pe_cmpR op_ge (pe_op (op_mulU (K := K)) pe_int (pe_op op_sub (pe_op (op_addU (K := K) rfl) (pv 0) pe_int) (pv 1))) (pe_op (op_addU (K := K) rfl) (pv 0) pe_int) (nomark _))))))),
  spO_body (N := ["leaf", "stays"]) rfl (refS_seq (refS_if (refT_or (refT_test (refE_op refB_lt refE_var refE_int)) (refT_test (refE_op refB_lt (refE_op refB_sub (refE_op refB_add refE_var refE_int) refE_var) refE_int))) (refS_ret refE_bl) refS_next)
  (refS_ret (refE_and (refE_op refB_ge (refE_op refB_mul refE_int refE_var) (refE_op refB_add refE_var refE_int)) (refE_op refB_ge (refE_op refB_mul refE_int (refE_op refB_sub (refE_op refB_add refE_var refE_int) refE_var)) (refE_op refB_add refE_var refE_int))))) h⟩
theorem ok_law_fits (D : Def K mg "_law_fits" s_law_fits) (T : Txt K mg) (TB : TbOk K CS tb)  : CallOk P w K mg base CX0 1 "_law_fits" ["kind", "leaf", "stays", "seen"] (spO K F_law_fits) :=
  def_ok0 D sc_law_fits (fun _ _ _ _ h => spO_len rfl h) (fun _ _ _ _ _ _ us hl => match us, hl with | [_, _, _, _], _ => rfl) fun fa cdv A outer s H vs Q E hr h => ⟨_, (pss_cons (ps_set (i := 4) sc_law_fits.nd rfl (Or.inl rfl) (pe_ifExp (pt_cmpR (op_eqU (K := K) rfl hr.units) (pv 0) pe_str (nomark _)) (pv 2) (pe_op op_sub (pe_op (op_addU (K := K) rfl) (pv 1) pe_int) (pv 2))))
  (pss_cons (ps_for PassesOwn.never rfl (pi_seq (K := K) rfl (pi_list (pv 3)) (pi_tup (pv 3))) (pg_tup (by rfl) (pgs_cons (pg_name (i := 5) sc_law_fits.nd rfl (Or.inl rfl)) (pgs_cons (pg_name (i := 6) sc_law_fits.nd rfl (Or.inl rfl)) pgs_nil))) (pss_cons (ps_set (i := 7) sc_law_fits.nd rfl (Or.inl rfl) (pe_ifExp (pt_cmpR op_le (pv 5) (pv 1) (nomark _)) pe_int (pe_op (op_addU (K := K) rfl) pe_int (pe_op op_fdivW (pe_op op_sub (pe_op op_sub (pv 5) (pv 1)) pe_int) (pv 4)))))
  (pss_one (ps_if (pt_cmpR (op_neU (K := K) rfl hr.units) (pv 6) (pv 7) (nomark _)) (pss_one (ps_ret pe_bl)) pss_nil))))
  (pss_one (ps_ret pe_bl)))),
  spO_body (N := ["kind", "leaf", "stays", "seen", "step", "entries", "leaves", "due"]) rfl (refS_seq (refS_asgN (refE_if (refT_test (refE_op refB_eq refE_var refE_str)) refE_var (refE_op refB_sub (refE_op refB_add refE_var refE_int) refE_var)))
  (refS_seq (refS_for (vs := [5, 6]) (refI_seq refE_var) (refG_tup (refGs_cons (refG_name (by decide)) (refGs_cons (refG_name (by decide)) refGs_nil))) (refS_seq (refS_asgN (refE_if (refT_test (refE_op refB_le refE_var refE_var)) refE_int (refE_op refB_add refE_int (refE_op refB_fdiv (refE_op refB_sub (refE_op refB_sub refE_var refE_var) refE_int) refE_var))))
  (refS_if (refT_test (refE_op refB_ne refE_var refE_var)) (refS_ret refE_bl) refS_next)))
  (refS_ret refE_bl))) h⟩
theorem ok_law_row_right (D : Def K mg "_law_row_right" s_law_row_right) (T : Txt K mg) (TB : TbOk K CS tb) (C_law_is_part : CallOk P w K mg base CX0 1 "_law_is_part" ["leaf", "stays"] (spO K F_law_is_part)) (C_law_fits : CallOk P w K mg base CX0 1 "_law_fits" ["kind", "leaf", "stays", "seen"] (spO K F_law_fits)) : CallOk P w K mg base CX0 2 "_law_row_right" ["kind", "seen", "row"] (spO K F_law_row_right) :=
  def_ok0 D sc_law_row_right (fun _ _ _ _ h => spO_len rfl h) (fun _ _ _ _ _ _ us hl => match us, hl with | [_, _, _], _ => rfl) fun fa cdv A outer s H vs Q E hr h => ⟨_, (pss_cons (ps_asg (pv 2) (pg_tup (by rfl) (pgs_cons (pg_name (i := 3) sc_law_row_right.nd rfl (Or.inl rfl)) (pgs_cons (pg_name (i := 4) sc_law_row_right.nd rfl (Or.inl rfl)) (pgs_cons (pg_name (i := 5) sc_law_row_right.nd rfl (Or.inl rfl)) pgs_nil)))))
  (pss_cons (ps_for PassesOwn.never rfl (pi_seq (K := K) rfl (pi_list (pe_tup (pa_cons (pv 4) (pa_cons (pv 5) (pa_cons (pe_op op_fdivW (pe_op (op_addU (K := K) rfl) (pv 4) (pv 5)) pe_int) pa_nil))))) (pi_tup (pe_tup (pa_cons (pv 4) (pa_cons (pv 5) (pa_cons (pe_op op_fdivW (pe_op (op_addU (K := K) rfl) (pv 4) (pv 5)) pe_int) pa_nil)))))) (pg_name (i := 6) sc_law_row_right.nd rfl (Or.inl rfl)) (pss_one (ps_if (PW.pt (pw_or (pt_not (pt_tru (K := K) rfl (pe_own C_law_is_part (hr.mono (by decide)) rfl pass0 (pa_cons (pv 3) (pa_cons (pv 6) pa_nil))))) (pw_or1 (pt_not (pt_tru (K := K) rfl (pe_own C_law_fits (hr.mono (by decide)) rfl pass0 (pa_cons (pv 0) (pa_cons (pv 3) (pa_cons (pv 6) (pa_cons (pv 1) pa_nil)))))))))) (pss_one (ps_ret pe_bl)) pss_nil)))
  (pss_cons (ps_for PassesOwn.never rfl (pi_seq (K := K) rfl (pi_list (pe_tup (pa_cons (pe_op op_sub (pv 4) pe_int) (pa_cons (pe_op (op_addU (K := K) rfl) (pv 5) pe_int) pa_nil)))) (pi_tup (pe_tup (pa_cons (pe_op op_sub (pv 4) pe_int) (pa_cons (pe_op (op_addU (K := K) rfl) (pv 5) pe_int) pa_nil))))) (pg_name (i := 6) sc_law_row_right.nd rfl (Or.inl rfl)) (pss_one (ps_if (PW.pt (pw_and (pt_tru (K := K) rfl (pe_own C_law_is_part (hr.mono (by decide)) rfl pass0 (pa_cons (pv 3) (pa_cons (pv 6) pa_nil)))) (pw_and1 (pt_tru (K := K) rfl (pe_own C_law_fits (hr.mono (by decide)) rfl pass0 (pa_cons (pv 0) (pa_cons (pv 3) (pa_cons (pv 6) (pa_cons (pv 1) pa_nil))))))))) (pss_one (ps_ret pe_bl)) pss_nil)))
  (pss_one (ps_ret pe_bl))))),
  spO_body (N := ["kind", "seen", "row", "leaf", "least", "greatest", "stays"]) rfl (refS_seq (refS_asg (vs := [3, 4, 5]) refE_var (refG_tup (refGs_cons (refG_name (by decide)) (refGs_cons (refG_name (by decide)) (refGs_cons (refG_name (by decide)) refGs_nil)))))
  (refS_seq (refS_for (vs := [6]) (refI_seq (refE_tup (refA_cons refE_var (refA_cons refE_var (refA_cons (refE_op refB_fdiv (refE_op refB_add refE_var refE_var) refE_int) refA_nil))))) (refG_name (by decide)) (refS_if (refT_or (refT_not (refT_tru (refE_call (refA_cons refE_var (refA_cons refE_var refA_nil))))) (refT_not (refT_tru (refE_call (refA_cons refE_var (refA_cons refE_var (refA_cons refE_var (refA_cons refE_var refA_nil)))))))) (refS_ret refE_bl) refS_next))
  (refS_seq (refS_for (vs := [6]) (refI_seq (refE_tup (refA_cons (refE_op refB_sub refE_var refE_int) (refA_cons (refE_op refB_add refE_var refE_int) refA_nil)))) (refG_name (by decide)) (refS_if (refT_and (refT_tru (refE_call (refA_cons refE_var (refA_cons refE_var refA_nil)))) (refT_tru (refE_call (refA_cons refE_var (refA_cons refE_var (refA_cons refE_var (refA_cons refE_var refA_nil))))))) (refS_ret refE_bl) refS_next))
  (refS_ret refE_bl)))) h⟩
theorem ok_law_lacks (D : Def K mg "_law_lacks" s_law_lacks) (T : Txt K mg) (TB : TbOk K CS tb) (C_law_is_part : CallOk P w K mg base CX0 1 "_law_is_part" ["leaf", "stays"] (spO K F_law_is_part)) (C_law_fits : CallOk P w K mg base CX0 1 "_law_fits" ["kind", "leaf", "stays", "seen"] (spO K F_law_fits)) : CallOk P w K mg base CX0 2 "_law_lacks" ["kind", "seen", "told", "leaf"] (spO K F_law_lacks) :=
  def_ok0 D sc_law_lacks (fun _ _ _ _ h => spO_len rfl h) (fun _ _ _ _ _ _ us hl => match us, hl with | [_, _, _, _], _ => rfl) fun fa cdv A outer s H vs Q E hr h => ⟨_, (pss_cons (ps_if (PW.pt (pw_or (pt_cmpR (op_inK (K := K) rfl) (pv 3) (pe_lc (own := [("row", 4)]) (g := gName 4) (tt := tYes) rfl sc_law_lacks.nd (pi_seq (K := K) rfl (pi_list (pv 2)) (pi_tup (pv 2))) (blkOk_by (own := [("row", 4)]) (N := ["kind", "seen", "told", "leaf", "row", "stays"]) (sc := (defScope s_law_lacks)) (by decide +kernel)) (fun _ _ _ _ _ => (pg_name (i := 4) sc_law_lacks.nd rfl (Or.inl rfl))) (fun _ _ _ _ _ => pts_nil) (fun _ _ _ _ _ => (pe_ix (ix_U (K := K) rfl) (pv 4) pe_int (fun _ _ => rfl)))) (by rfl)) (pw_or1 (pt_cmpR op_lt (pv 3) pe_int (nomark _))))) (pss_one (ps_ret pe_bl)) pss_nil)
  (pss_one (ps_ret (pe_cmpR (op_eqU (K := K) rfl hr.units) (pe_lc (own := [("stays", 5)]) (g := gName 5)  rfl sc_law_lacks.nd (pi_range2 rfl T.range (pa_cons pe_int (pa_cons (pv 3) pa_nil))) (blkOk_by (own := [("stays", 5)]) (N := ["kind", "seen", "told", "leaf", "row", "stays"]) (sc := (defScope s_law_lacks)) (by decide +kernel)) (fun _ _ _ _ _ => (pg_name (i := 5) sc_law_lacks.nd rfl (Or.inl rfl))) (fun _ _ _ _ _ => (pts_one (PW.pt (pw_and (pt_tru (K := K) rfl (pe_own C_law_is_part (hr.mono (by decide)) rfl pass0 (pa_cons (pv 3) (pa_cons (pv 5) pa_nil)))) (pw_and1 (pt_tru (K := K) rfl (pe_own C_law_fits (hr.mono (by decide)) rfl pass0 (pa_cons (pv 0) (pa_cons (pv 3) (pa_cons (pv 5) (pa_cons (pv 1) pa_nil))))))))))) (fun _ _ _ _ _ => pe_int)) (pe_lst pa_nil) (nomark _))))),
  spO_body (N := ["kind", "seen", "told", "leaf", "row", "stays"]) rfl (refS_seq (refS_if (refT_or (refT_test (refE_op refB_in refE_var (refE_val (refF_comp (refI_seq refE_var) (refG_name (by decide)) refT_yes (refE_op refB_ix refE_var refE_int))))) (refT_test (refE_op refB_lt refE_var refE_int))) (refS_ret refE_bl) refS_next)
  (refS_ret (refE_op refB_eq (refE_val (refF_comp (refI_rng2 (refA_cons refE_int (refA_cons refE_var refA_nil))) (refG_name (by decide)) (refT_and (refT_tru (refE_call (refA_cons refE_var (refA_cons refE_var refA_nil)))) (refT_tru (refE_call (refA_cons refE_var (refA_cons refE_var (refA_cons refE_var (refA_cons refE_var refA_nil))))))) refE_int)) (refE_val (refF_lst refA_nil))))) h⟩
theorem ok_law_right (D : Def K mg "_law_right" s_law_right) (T : Txt K mg) (TB : TbOk K CS tb) (C_law_pick : CallOk P w K mg base CX0 1 "_law_pick" ["bag", "many"] (spO K F_law_pick)) (C_law_part : CallOk P w K mg base CX0 2 "_law_part" ["bag", "whole"] (spO K F_law_part)) (C_fitting_rules : CallOk P w K mg base CX0 4 "fitting_rules" ["kind", "seen", "most"] (spO K F_fitting_rules)) (C_law_row_right : CallOk P w K mg base CX0 2 "_law_row_right" ["kind", "seen", "row"] (spO K F_law_row_right)) (C_law_lacks : CallOk P w K mg base CX0 2 "_law_lacks" ["kind", "seen", "told", "leaf"] (spO K F_law_lacks)) : CallOk P w K mg base CX0 5 "_law_right" ["bag", "kind"] (spO K F_law_right) :=
  def_ok0 D sc_law_right (fun _ _ _ _ h => spO_len rfl h) (fun _ _ _ _ _ _ us hl => match us, hl with | [_, _], _ => rfl) fun fa cdv A outer s H vs Q E hr h => ⟨_, (pss_cons (ps_set (i := 2) sc_law_right.nd rfl (Or.inr rfl) (pe_op (op_addU (K := K) rfl) pe_int (pe_own C_law_pick (hr.mono (by decide)) rfl pass0 (pa_cons (pv 0) (pa_cons (pe_ix (ix_U (K := K) rfl) (pe_lst (pa_cons pe_int (pa_cons pe_int pa_nil))) (pe_own C_law_pick (hr.mono (by decide)) rfl pass0 (pa_cons (pv 0) (pa_cons pe_int pa_nil))) (fun _ _ => rfl)) pa_nil)))))
  (pss_cons (ps_asg (pe_tup (pa_cons (pe_own C_law_part (hr.mono (by decide)) rfl pass0 (pa_cons (pv 0) (pa_cons (pv 2) pa_nil))) (pa_cons (pe_lst pa_nil) pa_nil))) (pg_tup (by rfl) (pgs_cons (pg_name (i := 3) sc_law_right.nd rfl (Or.inr rfl)) (pgs_cons (pg_name (i := 4) sc_law_right.nd rfl (Or.inr rfl)) pgs_nil))))
  (pss_cons (ps_for PassesOwn.never rfl (pi_range1 rfl T.range (pa_cons (pe_op (op_addU (K := K) rfl) pe_int (pe_own C_law_pick (hr.mono (by decide)) rfl pass0 (pa_cons (pv 0) (pa_cons (pe_ix (ix_U (K := K) rfl) (pe_lst (pa_cons pe_int (pa_cons pe_int pa_nil))) (pe_own C_law_pick (hr.mono (by decide)) rfl pass0 (pa_cons (pv 0) (pa_cons pe_int pa_nil))) (fun _ _ => rfl)) pa_nil)))) pa_nil)) (pg_name (i := 5) sc_law_right.nd rfl (Or.inl rfl)) (pss_cons (ps_set (i := 6) sc_law_right.nd rfl (Or.inl rfl) (pe_op (op_addU (K := K) rfl) pe_int (pe_own C_law_pick (hr.mono (by decide)) rfl pass0 (pa_cons (pv 0) (pa_cons (pe_ix (ix_U (K := K) rfl) (pe_lst (pa_cons (pe_op (op_mulU (K := K)) pe_int (pv 2)) (pa_cons (pe_op op_powW pe_int pe_int) (pa_cons (pe_op op_powW pe_int pe_int) pa_nil)))) (pe_own C_law_pick (hr.mono (by decide)) rfl pass0 (pa_cons (pv 0) (pa_cons pe_int pa_nil))) (fun _ _ => rfl)) pa_nil)))))
  (pss_cons (ps_set (i := 7) sc_law_right.nd rfl (Or.inl rfl) (pe_ifExp (pt_cmpR (op_eqU (K := K) rfl hr.units) (pv 1) pe_str (nomark _)) (pv 3) (pe_op op_sub (pe_op (op_addU (K := K) rfl) (pv 2) pe_int) (pv 3))))
  (pss_one (ps_expr (pe_appK (K := K) rfl (pv 4) (pe_tup (pa_cons (pv 6) (pa_cons (pe_ifExp (pt_cmpR op_le (pv 6) (pv 2) (nomark _)) pe_int (pe_op (op_addU (K := K) rfl) pe_int (pe_op op_fdivW (pe_op op_sub (pe_op op_sub (pv 6) (pv 2)) pe_int) (pv 7)))) pa_nil))) (pe_bm PySem.F.plainAttrs_list PySem.F.slot_list_append PySem.F.type_list_append mt_append (pv 4) (pa_cons (pe_tup (pa_cons (pv 6) (pa_cons (pe_ifExp (pt_cmpR op_le (pv 6) (pv 2) (nomark _)) pe_int (pe_op (op_addU (K := K) rfl) pe_int (pe_op op_fdivW (pe_op op_sub (pe_op op_sub (pv 6) (pv 2)) pe_int) (pv 7)))) pa_nil))) pa_nil))))))))
  (pss_cons (ps_par (i := 8) (j := 9) (by rfl) sc_law_right.nd rfl rfl (by decide) rfl rfl (pa_cons (pe_cmpR op_gt (pe_own C_law_pick (hr.mono (by decide)) rfl pass0 (pa_cons (pv 0) (pa_cons pe_int pa_nil))) pe_int (nomark _)) (pa_cons (pe_own C_law_pick (hr.mono (by decide)) rfl pass0 (pa_cons (pv 0) (pa_cons (pe_callB (cLenK (K := K) rfl) (by rfl) T.len PySem.boot_len (pa_cons (pv 4) pa_nil)) pa_nil))) pa_nil)) (by rfl))
  (pss_cons (ps_if (pt_not (pt_tru (K := K) rfl (pv 8))) (pss_one (ps_asg (pe_tup (pa_cons (pe_ix (ix_U (K := K) rfl) (pe_ix (ix_U (K := K) rfl) (pv 4) (pv 9) (fun _ _ => rfl)) pe_int (fun _ _ => rfl)) (pa_cons (pe_callB (cMax rfl) (by rfl) T.max (by decide +kernel) (pa_cons pe_int (pa_cons (pe_op (op_addU (K := K) rfl) (pe_ix (ix_U (K := K) rfl) (pe_ix (ix_U (K := K) rfl) (pv 4) (pv 9) (fun _ _ => rfl)) pe_int (fun _ _ => rfl)) (pe_ix (ix_U (K := K) rfl) (pe_lst (pa_cons pe_int (pa_cons (pe_un un_neg pe_int) pa_nil))) (pe_own C_law_pick (hr.mono (by decide)) rfl pass0 (pa_cons (pv 0) (pa_cons pe_int pa_nil))) (fun _ _ => rfl))) pa_nil))) pa_nil))) (pg_sub (pv 4) (pv 9) set_list))) pss_nil)
  (pss_cons (ps_set (i := 10) sc_law_right.nd rfl (Or.inr rfl) (pe_ix (ix_U (K := K) rfl) (pe_lst (pa_cons pe_int (pa_cons (pv 2) (pa_cons (pe_callB (cMin rfl) (by rfl) T.min (by decide +kernel) (pa_cons pe_int (pa_cons (pe_op (op_addU (K := K) rfl) (pv 2) (pe_own C_law_pick (hr.mono (by decide)) rfl pass0 (pa_cons (pv 0) (pa_cons pe_int pa_nil)))) pa_nil))) pa_nil)))) (pe_own C_law_pick (hr.mono (by decide)) rfl pass0 (pa_cons (pv 0) (pa_cons pe_int pa_nil))) (fun _ _ => rfl)))
  (pss_cons (ps_set (i := 11) sc_law_right.nd rfl (Or.inr rfl) (pe_own C_fitting_rules (hr.mono (by decide)) rfl pass0 (pa_cons (pv 1) (pa_cons (pv 4) (pa_cons (pv 10) pa_nil)))))
  (pss_cons (ps_if (pt_cmpR (op_neU (K := K) rfl hr.units) (pe_lc (own := [("row", 12)]) (g := gName 12)  rfl sc_law_right.nd (pi_seq (K := K) rfl (pi_list (pv 11)) (pi_tup (pv 11))) (blkOk_by (own := [("row", 12)]) (N := ["bag", "kind", "leaf", "stays", "seen", "turn", "entries", "step", "is_right", "at", "most", "told", "row", "leaves", "fits", "tried", "some"]) (sc := (defScope s_law_right)) (by decide +kernel)) (fun _ _ _ _ _ => (pg_name (i := 12) sc_law_right.nd rfl (Or.inl rfl))) (fun _ _ _ _ _ => (pts_one (PW.pt (pw_or (pt_not (pt_tru (K := K) rfl (pe_callB (cIsiK (K := K) rfl) (by rfl) T.isinstance (by decide +kernel) (pa_cons (pv 12) (pa_cons (pe_bltn (v := .ty "tuple") rfl T.tuple (by decide +kernel) rfl) pa_nil))))) (pw_or (pt_cmpR (op_neU (K := K) rfl hr.units) (pe_callB (cLenK (K := K) rfl) (by rfl) T.len PySem.boot_len (pa_cons (pv 12) pa_nil)) pe_int (nomark _)) (pw_or1 (pt_not (pt_chain op_le op_le pe_int (pe_ix (ix_U (K := K) rfl) (pv 12) pe_int (fun _ _ => rfl)) (pv 10))))))))) (fun _ _ _ _ _ => pe_int)) (pe_lst pa_nil) (nomark _)) (pss_one (ps_ret pe_bl)) pss_nil)
  (pss_cons (ps_setLc (i := 13) (own := [("row", 12)]) (g := gName 12) (tt := tYes) rfl sc_law_right.nd rfl rfl (sw_true rfl rfl rfl (by decide +kernel)) (pi_seq (K := K) rfl (pi_list (pv 11)) (pi_tup (pv 11))) (blkOk_by (own := [("row", 12)]) (N := ["bag", "kind", "leaf", "stays", "seen", "turn", "entries", "step", "is_right", "at", "most", "told", "row", "leaves", "fits", "tried", "some"]) (sc := (defScope s_law_right)) (by decide +kernel)) (fun _ _ _ _ _ => (pg_name (i := 12) sc_law_right.nd rfl (Or.inl rfl))) (fun _ _ _ _ _ => pts_nil) (fun _ _ _ _ _ => (pe_ix (ix_U (K := K) rfl) (pv 12) pe_int (fun _ _ => rfl))))
  (pss_cons (ps_if (pt_cmpR (op_neU (K := K) rfl hr.units) (pv 13) (pe_callB (cSrtSetL (w := w) rfl rfl) (by rfl) T.sorted (by decide +kernel) (pa_cons (pe_callTy (cSetV (K := K) (w := w) rfl rfl rfl) (by rfl) T.set (by decide +kernel) (pa_cons (pv 13) pa_nil)) pa_nil)) (nomark _)) (pss_one (ps_ret pe_bl)) pss_nil)
  (pss_cons (ps_setLc (i := 14) (own := [("row", 12)]) (g := gName 12)  rfl sc_law_right.nd rfl rfl (sw_true rfl rfl rfl (by decide +kernel)) (pi_seq (K := K) rfl (pi_list (pv 11)) (pi_tup (pv 11))) (blkOk_by (own := [("row", 12)]) (N := ["bag", "kind", "leaf", "stays", "seen", "turn", "entries", "step", "is_right", "at", "most", "told", "row", "leaves", "fits", "tried", "some"]) (sc := (defScope s_law_right)) (by decide +kernel)) (fun _ _ _ _ _ => (pg_name (i := 12) sc_law_right.nd rfl (Or.inl rfl))) (fun _ _ _ _ _ => (pts_one (PW.pt (pw_and (pt_cmpR (op_eqU (K := K) rfl hr.units) (pe_ix (ix_U (K := K) rfl) (pv 12) pe_int (fun _ _ => rfl)) (pv 2) (nomark _)) (pw_and1 (pt_chain op_le op_le (pe_ix (ix_U (K := K) rfl) (pv 12) pe_int (fun _ _ => rfl)) (pv 3) (pe_ix (ix_U (K := K) rfl) (pv 12) pe_int (fun _ _ => rfl)))))))) (fun _ _ _ _ _ => (pv 12)))
  (pss_cons (ps_if (PW.pt (pw_and (pt_tru (K := K) rfl (pv 8)) (pw_and1 (pt_cmpR (op_eqU (K := K) rfl hr.units) (pv 14) (pe_lst pa_nil) (nomark _))))) (pss_one (ps_ret pe_bl)) pss_nil)
  (pss_cons (ps_for PassesOwn.never rfl (pi_range1 rfl T.range (pa_cons (pe_callB (cMin rfl) (by rfl) T.min (by decide +kernel) (pa_cons pe_int (pa_cons (pe_callB (cLenK (K := K) rfl) (by rfl) T.len PySem.boot_len (pa_cons (pv 11) pa_nil)) pa_nil))) pa_nil)) (pg_name (i := 5) sc_law_right.nd rfl (Or.inl rfl)) (pss_cons (ps_set (i := 12) sc_law_right.nd rfl (Or.inl rfl) (pe_ix (ix_U (K := K) rfl) (pv 11) (pe_ix (ix_U (K := K) rfl) (pe_lst (pa_cons pe_int (pa_cons (pe_op op_sub (pe_callB (cLenK (K := K) rfl) (by rfl) T.len PySem.boot_len (pa_cons (pv 11) pa_nil)) pe_int) (pa_cons (pe_own C_law_pick (hr.mono (by decide)) rfl pass0 (pa_cons (pv 0) (pa_cons (pe_callB (cLenK (K := K) rfl) (by rfl) T.len PySem.boot_len (pa_cons (pv 11) pa_nil)) pa_nil))) pa_nil)))) (pe_own C_law_pick (hr.mono (by decide)) rfl pass0 (pa_cons (pv 0) (pa_cons pe_int pa_nil))) (fun _ _ => rfl)) (fun _ _ => rfl)))
  (pss_one (ps_if (PW.pt (pw_or (pt_not (pt_tru (K := K) rfl (pe_own C_law_row_right (hr.mono (by decide)) rfl pass0 (pa_cons (pv 1) (pa_cons (pv 4) (pa_cons (pv 12) pa_nil)))))) (pw_or1 (pt_not (pt_tru (K := K) rfl (pe_own C_law_lacks (hr.mono (by decide)) rfl pass0 (pa_cons (pv 1) (pa_cons (pv 4) (pa_cons (pv 11) (pa_cons (pe_op op_sub (pe_ix (ix_U (K := K) rfl) (pv 12) pe_int (fun _ _ => rfl)) pe_int) pa_nil)))))))))) (pss_one (ps_ret pe_bl)) pss_nil))))
  (pss_cons (ps_set (i := 15) sc_law_right.nd rfl (Or.inl rfl) (pe_lst (pa_cons (pe_op (op_addU (K := K) rfl) pe_int (pe_own C_law_pick (hr.mono (by decide)) rfl pass0 (pa_cons (pv 0) (pa_cons (pe_op op_sub (pv 10) pe_int) pa_nil)))) (pa_cons (pe_callB (cMin rfl) (by rfl) T.min (by decide +kernel) (pa_cons (pv 10) (pa_cons (pe_op (op_addU (K := K) rfl) pe_int (pe_own C_law_pick (hr.mono (by decide)) rfl pass0 (pa_cons (pv 0) (pa_cons pe_int pa_nil)))) pa_nil))) (pa_cons (pe_callB (cMin rfl) (by rfl) T.min (by decide +kernel) (pa_cons (pv 10) (pa_cons (pe_op (op_addU (K := K) rfl) (pv 2) pe_int) pa_nil))) pa_nil)))))
  (pss_one (ps_ret (pe_cmpR (op_eqU (K := K) rfl hr.units) (pe_lc (own := [("some", 16)]) (g := gName 16)  rfl sc_law_right.nd (pi_seq (K := K) rfl (pi_list (pv 15)) (pi_tup (pv 15))) (blkOk_by (own := [("some", 16)]) (N := ["bag", "kind", "leaf", "stays", "seen", "turn", "entries", "step", "is_right", "at", "most", "told", "row", "leaves", "fits", "tried", "some"]) (sc := (defScope s_law_right)) (by decide +kernel)) (fun _ _ _ _ _ => (pg_name (i := 16) sc_law_right.nd rfl (Or.inl rfl))) (fun _ _ _ _ _ => (pts_one (pt_not (pt_tru (K := K) rfl (pe_own C_law_lacks (hr.mono (by decide)) rfl pass0 (pa_cons (pv 1) (pa_cons (pv 4) (pa_cons (pv 11) (pa_cons (pv 16) pa_nil))))))))) (fun _ _ _ _ _ => (pv 16))) (pe_lst pa_nil) (nomark _)))))))))))))))))),
  spO_body (N := ["bag", "kind", "leaf", "stays", "seen", "turn", "entries", "step", "is_right", "at", "most", "told", "row", "leaves", "fits", "tried", "some"]) rfl (refS_seq (refS_asgN (refE_op refB_add refE_int (refE_call (refA_cons refE_var (refA_cons (refE_op refB_ix (refE_val (refF_lst (refA_cons refE_int (refA_cons refE_int refA_nil)))) (refE_call (refA_cons refE_var (refA_cons refE_int refA_nil)))) refA_nil)))))
  (refS_seq (refS_asg (vs := [3, 4]) (refE_tup (refA_cons (refE_call (refA_cons refE_var (refA_cons refE_var refA_nil))) (refA_cons (refE_cell (refF_lst refA_nil)) refA_nil))) (refG_tup (refGs_cons (refG_name (by decide)) (refGs_cons (refG_name (by decide)) refGs_nil))))
  (refS_seq (refS_for (vs := [5]) (refI_rng1 (refA_cons (refE_op refB_add refE_int (refE_call (refA_cons refE_var (refA_cons (refE_op refB_ix (refE_val (refF_lst (refA_cons refE_int (refA_cons refE_int refA_nil)))) (refE_call (refA_cons refE_var (refA_cons refE_int refA_nil)))) refA_nil)))) refA_nil)) (refG_name (by decide)) (refS_seq (refS_asgN (refE_op refB_add refE_int (refE_call (refA_cons refE_var (refA_cons (refE_op refB_ix (refE_val (refF_lst (refA_cons (refE_op refB_mul refE_int refE_var) (refA_cons (refE_op refB_pow refE_int refE_int) (refA_cons (refE_op refB_pow refE_int refE_int) refA_nil))))) (refE_call (refA_cons refE_var (refA_cons refE_int refA_nil)))) refA_nil)))))
  (refS_seq (refS_asgN (refE_if (refT_test (refE_op refB_eq refE_var refE_str)) refE_var (refE_op refB_sub (refE_op refB_add refE_var refE_int) refE_var)))
  (refS_drop (refE_app refE_var (refE_tup (refA_cons refE_var (refA_cons (refE_if (refT_test (refE_op refB_le refE_var refE_var)) refE_int (refE_op refB_add refE_int (refE_op refB_fdiv (refE_op refB_sub (refE_op refB_sub refE_var refE_var) refE_int) refE_var))) refA_nil))))))))
  (refS_seq (refS_par (refA_cons (refE_op refB_gt (refE_call (refA_cons refE_var (refA_cons refE_int refA_nil))) refE_int) (refA_cons (refE_call (refA_cons refE_var (refA_cons (refE_cb refL_len (refA_cons refE_var refA_nil)) refA_nil))) refA_nil)))
  (refS_seq (refS_if (refT_not (refT_tru refE_var)) (refS_asg (vs := []) (refE_tup (refA_cons (refE_op refB_ix (refE_op refB_ix refE_var refE_var) refE_int) (refA_cons (refE_cb refL_max (refA_cons refE_int (refA_cons (refE_op refB_add (refE_op refB_ix (refE_op refB_ix refE_var refE_var) refE_int) (refE_op refB_ix (refE_val (refF_lst (refA_cons refE_int (refA_cons (refE_un refU_neg refE_int) refA_nil)))) (refE_call (refA_cons refE_var (refA_cons refE_int refA_nil))))) refA_nil))) refA_nil))) (refG_sub refE_var refE_var)) refS_next)
  (refS_seq (refS_asgN (refE_op refB_ix (refE_val (refF_lst (refA_cons refE_int (refA_cons refE_var (refA_cons (refE_cb refL_min (refA_cons refE_int (refA_cons (refE_op refB_add refE_var (refE_call (refA_cons refE_var (refA_cons refE_int refA_nil)))) refA_nil))) refA_nil))))) (refE_call (refA_cons refE_var (refA_cons refE_int refA_nil)))))
  (refS_seq (refS_asgN (refE_call (refA_cons refE_var (refA_cons refE_var (refA_cons refE_var refA_nil)))))
  (refS_seq (refS_if (refT_test (refE_op refB_ne (refE_val (refF_comp (refI_seq refE_var) (refG_name (by decide)) (refT_or (refT_not (refT_tru (refE_cb (refL_isi TB) (refA_cons refE_var (refA_cons refE_ty refA_nil))))) (refT_or (refT_test (refE_op refB_ne (refE_cb refL_len (refA_cons refE_var refA_nil)) refE_int)) (refT_not (refT_test (refE_chain refB_le refB_le refE_int (refE_op refB_ix refE_var refE_int) refE_var))))) refE_int)) (refE_val (refF_lst refA_nil)))) (refS_ret refE_bl) refS_next)
  (refS_seq (refS_asgN (refE_val (refF_comp (refI_seq refE_var) (refG_name (by decide)) refT_yes (refE_op refB_ix refE_var refE_int))))
  (refS_seq (refS_if (refT_test (refE_op refB_ne refE_var (refE_val (refF_srsL refE_var)))) (refS_ret refE_bl) refS_next)
  (refS_seq (refS_asgN (refE_val (refF_comp (refI_seq refE_var) (refG_name (by decide)) (refT_and (refT_test (refE_op refB_eq (refE_op refB_ix refE_var refE_int) refE_var)) (refT_test (refE_chain refB_le refB_le (refE_op refB_ix refE_var refE_int) refE_var (refE_op refB_ix refE_var refE_int)))) refE_var)))
  (refS_seq (refS_if (refT_and (refT_tru refE_var) (refT_test (refE_op refB_eq refE_var (refE_val (refF_lst refA_nil))))) (refS_ret refE_bl) refS_next)
  (refS_seq (refS_for (vs := [5]) (refI_rng1 (refA_cons (refE_cb refL_min (refA_cons refE_int (refA_cons (refE_cb refL_len (refA_cons refE_var refA_nil)) refA_nil))) refA_nil)) (refG_name (by decide)) (refS_seq (refS_asgN (refE_op refB_ix refE_var (refE_op refB_ix (refE_val (refF_lst (refA_cons refE_int (refA_cons (refE_op refB_sub (refE_cb refL_len (refA_cons refE_var refA_nil)) refE_int) (refA_cons (refE_call (refA_cons refE_var (refA_cons (refE_cb refL_len (refA_cons refE_var refA_nil)) refA_nil))) refA_nil))))) (refE_call (refA_cons refE_var (refA_cons refE_int refA_nil))))))
  (refS_if (refT_or (refT_not (refT_tru (refE_call (refA_cons refE_var (refA_cons refE_var (refA_cons refE_var refA_nil)))))) (refT_not (refT_tru (refE_call (refA_cons refE_var (refA_cons refE_var (refA_cons refE_var (refA_cons (refE_op refB_sub (refE_op refB_ix refE_var refE_int) refE_int) refA_nil)))))))) (refS_ret refE_bl) refS_next)))
  (refS_seq (refS_asgN (refE_val (refF_lst (refA_cons (refE_op refB_add refE_int (refE_call (refA_cons refE_var (refA_cons (refE_op refB_sub refE_var refE_int) refA_nil)))) (refA_cons (refE_cb refL_min (refA_cons refE_var (refA_cons (refE_op refB_add refE_int (refE_call (refA_cons refE_var (refA_cons refE_int refA_nil)))) refA_nil))) (refA_cons (refE_cb refL_min (refA_cons refE_var (refA_cons (refE_op refB_add refE_var refE_int) refA_nil))) refA_nil))))))
  (refS_ret (refE_op refB_eq (refE_val (refF_comp (refI_seq refE_var) (refG_name (by decide)) (refT_not (refT_tru (refE_call (refA_cons refE_var (refA_cons refE_var (refA_cons refE_var (refA_cons refE_var refA_nil))))))) refE_var)) (refE_val (refF_lst refA_nil)))))))))))))))))) h⟩
theorem ok_law_bag_live (D : Def K mg "_law_bag" s_law_bag) (T : Txt K mg) (TB : TbOk K CS tb)  : CallOk P w K mg base CX0 1 "_law_bag" ["cell"] (spO K F_law_bag_live) :=
  def_ok0 D sc_law_bag (fun _ _ _ _ h => spO_len rfl h) (fun _ _ _ _ _ _ us hl => match us, hl with | [_], _ => rfl) fun fa cdv A outer s H vs Q E hr h => ⟨_, (pss_one (ps_ret (pe_lst (pa_cons (pe_callB (cMax rfl) (by rfl) T.max (by decide +kernel) (pa_cons pe_int (pa_cons (pe_op op_sub (pv 0) (pe_op op_powW pe_int pe_int)) pa_nil))) (pa_cons (pv 0) (pa_cons pe_int pa_nil)))))),
  spO_body (N := ["cell"]) rfl (refS_ret (refE_cell (refF_lst (refA_cons (refE_cb refL_max (refA_cons refE_int (refA_cons (refE_op refB_sub refE_var (refE_op refB_pow refE_int refE_int)) refA_nil))) (refA_cons refE_var (refA_cons refE_int refA_nil)))))) h⟩
theorem ok_law {f : Addr} {fd : FuncData} (F : FnP K "law" s_law f fd) (T : Txt K mg) (TB : TbOk K CS tb) (C_law_bag : CallOk P w K mg base CX0 1 "_law_bag" ["cell"] (spO K F_law_bag)) (C_law_right : CallOk P w K mg base CX0 5 "_law_right" ["bag", "kind"] (spO K F_law_right)) (C_fitting_rules : CallOk P w K mg base CX0 4 "fitting_rules" ["kind", "seen", "most"] (spO K F_fitting_rules)) (C_law_bag_live : CallOk P w K mg base CX0 1 "_law_bag" ["cell"] (spO K F_law_bag_live)) : FnOkG P w K mg base CX0 6 f fd ["script"] (spO K F_law) :=
  fn_okG0 F sc_law (fun _ _ _ _ h => spO_len rfl h) fun cdv A outer s H vs Q E hr hgd h => ⟨_, (pss_cons (ps_for PassesOwn.never rfl (pi_seq (K := K) rfl (pi_list (pe_op (op_addU (K := K) rfl) (pe_slice (sl_U (K := K) rfl) (pv 0) po_none (po_some pe_int)) (pe_lst (pa_cons pe_int pa_nil)))) (pi_tup (pe_op (op_addU (K := K) rfl) (pe_slice (sl_U (K := K) rfl) (pv 0) po_none (po_some pe_int)) (pe_lst (pa_cons pe_int pa_nil))))) (pg_name (i := 1) sc_law.nd rfl (Or.inl rfl)) (pss_cons (ps_set (i := 2) sc_law.nd rfl (Or.inl rfl) (pe_own C_law_bag_live (hr.mono (by decide)) rfl pass0 (pa_cons (pv 1) pa_nil)))
  (pss_one (ps_for PassesOwn.never rfl (pi_seq (K := K) rfl (pi_list (pe_tup (pa_cons pe_str (pa_cons pe_str pa_nil)))) (pi_tup (pe_tup (pa_cons pe_str (pa_cons pe_str pa_nil))))) (pg_name (i := 3) sc_law.nd rfl (Or.inl rfl)) (pss_one (ps_if (pt_not (pt_tru (K := K) rfl (pe_own C_law_right (hr.mono (by decide)) rfl pass0 (pa_cons (pv 2) (pa_cons (pv 3) pa_nil))))) (pss_one (ps_ret pe_bl)) pss_nil))))))
  (pss_cons (ps_if (pt_cmpR (op_neU (K := K) rfl hr.units) (pe_own C_fitting_rules (hr.mono (by decide)) rfl pass0 (pa_cons pe_str (pa_cons (pe_lst (pa_cons (pe_tup (pa_cons pe_int (pa_cons pe_int pa_nil))) (pa_cons (pe_tup (pa_cons pe_int (pa_cons pe_int pa_nil))) pa_nil))) (pa_cons pe_int pa_nil)))) (pe_lst pa_nil) (nomark _)) (pss_one (ps_ret pe_bl)) pss_nil)
  (pss_one (ps_ret (pe_cmpR (op_eqU (K := K) rfl hr.units) (pe_slice (sl_U (K := K) rfl) (pe_own C_fitting_rules (hr.mono (by decide)) rfl pass0 (pa_cons pe_str (pa_cons (pe_lst (pa_cons (pe_tup (pa_cons (pe_op (op_addU (K := K) rfl) pe_int (pe_op (op_mulU (K := K)) pe_int (pe_op op_powW pe_int pe_int))) (pa_cons (pe_op (op_addU (K := K) rfl) (pe_op op_powW pe_int pe_int) pe_int) pa_nil))) pa_nil)) (pa_cons pe_int pa_nil)))) (po_some (pe_un un_neg pe_int)) po_none) (pe_lst (pa_cons (pe_tup (pa_cons pe_int (pa_cons pe_int (pa_cons pe_int pa_nil)))) pa_nil)) (nomark _)))))),
  spO_body (N := ["script", "cell", "bag", "kind"]) rfl (refS_seq (refS_for (vs := [1]) (refI_seq (refE_val (refF_op refBF_cat (refE_sl refE_var refO_no (refO_part refE_int)) (refE_val (refF_lst (refA_cons refE_int refA_nil)))))) (refG_name (by decide)) (refS_seq (refS_asgN (refE_call (refA_cons refE_var refA_nil)))
  (refS_for (vs := [3]) (refI_seq (refE_tup (refA_cons refE_str (refA_cons refE_str refA_nil)))) (refG_name (by decide)) (refS_if (refT_not (refT_tru (refE_call (refA_cons refE_var (refA_cons refE_var refA_nil))))) (refS_ret refE_bl) refS_next))))
  (refS_seq (refS_if (refT_test (refE_op refB_ne (refE_call (refA_cons refE_str (refA_cons (refE_val (refF_lst (refA_cons (refE_tup (refA_cons refE_int (refA_cons refE_int refA_nil))) (refA_cons (refE_tup (refA_cons refE_int (refA_cons refE_int refA_nil))) refA_nil)))) (refA_cons refE_int refA_nil)))) (refE_val (refF_lst refA_nil)))) (refS_ret refE_bl) refS_next)
  (refS_ret (refE_op refB_eq (refE_sl (refE_call (refA_cons refE_str (refA_cons (refE_val (refF_lst (refA_cons (refE_tup (refA_cons (refE_op refB_add refE_int (refE_op refB_mul refE_int (refE_op refB_pow refE_int refE_int))) (refA_cons (refE_op refB_add (refE_op refB_pow refE_int refE_int) refE_int) refA_nil))) refA_nil))) (refA_cons refE_int refA_nil)))) (refO_part (refE_un refU_neg refE_int)) refO_no) (refE_val (refF_lst (refA_cons (refE_tup (refA_cons refE_int (refA_cons refE_int (refA_cons refE_int refA_nil)))) refA_nil))))))) h⟩
theorem facts {h : Heap} {f : Addr} (X : K.In h) (G : h.Ns mainGlobals mg) (hfa : mg ("law" : Str) = some (.ref f)) (c : SaysG fa fn gs ex w h K) :
    ∃ fd : FuncData, (∀ (s : Shared) (v : Value), BindsTo s fd ⟨[v], []⟩ [("script", v)]) ∧ ∀ base : Heap, K.In base → base.Ns mainGlobals mg → FnOkG P w K mg base CX0 6 f fd ["script"] (spO K F_law) := by
  obtain ⟨f', fd, F, g⟩ := D_law X G c
  have e := hfa.symm.trans g
  cases e
  have T := txt_ok X G c
  have xb : exB K = true := exB_ok c
  have xt : tbB K CS = true := xb
  have TB : TbOk K CS tb := tbOk_of xt fun C m => by
    exact absurd m List.not_mem_nil
  refine ⟨fd, fun s v => FunD.bindsA (ps := ["script"]) F (fun _ _ _ _ _ _ us hl => match us, hl with | [_], _ => rfl) s [v] rfl, fun base _ _ => ?_⟩
  have C_law_bag : CallOk P w K mg base CX0 1 "_law_bag" ["cell"] (spO K F_law_bag) := ok_law_bag (D_law_bag X G c) T TB 
  have C_law_pick : CallOk P w K mg base CX0 1 "_law_pick" ["bag", "many"] (spO K F_law_pick) := ok_law_pick (D_law_pick X G c) T TB 
  have C_law_part : CallOk P w K mg base CX0 2 "_law_part" ["bag", "whole"] (spO K F_law_part) := ok_law_part (D_law_part X G c) T TB C_law_pick
  have C_is_word : CallOk P w K mg base CX0 1 "is_word" ["value", "words"] (spO K F_is_word) := ok_is_word (D_is_word X G c) T TB 
  have C_is_kind : CallOk P w K mg base CX0 2 "is_kind" ["kind"] (spO K F_is_kind) := ok_is_kind (D_is_kind X G c) T TB C_is_word
  have C_check_kind : CallOk P w K mg base CX0 3 "check_kind" ["kind"] (spO K F_check_kind) := ok_check_kind (D_check_kind X G c) T TB C_is_kind
  have C_is_list : CallOk P w K mg base CX0 1 "is_list" ["value", "least", "most"] (spO K F_is_list) := ok_is_list (D_is_list X G c) T TB 
  have C_is_pair : CallOk P w K mg base CX0 1 "is_pair" ["value"] (spO K F_is_pair) := ok_is_pair (D_is_pair X G c) T TB 
  have C_is_between : CallOk P w K mg base CX0 1 "is_between" ["value", "least", "most"] (spO K F_is_between) := ok_is_between (D_is_between X G c) T TB 
  have C_is_sight : CallOk P w K mg base CX0 2 "_is_sight" ["item"] (spO K F_is_sight) := ok_is_sight (D_is_sight X G c) T TB C_is_pair C_is_between
  have C_check_seen : CallOk P w K mg base CX0 3 "_check_seen" ["seen"] (spO K F_check_seen) := ok_check_seen (D_check_seen X G c) T TB C_is_list C_is_sight
  have C_parts : CallOk P w K mg base CX0 1 "_parts" ["leaf", "split"] (spO K F_parts) := ok_parts (D_parts X G c) T TB 
  have C_fitting_rules : CallOk P w K mg base CX0 4 "fitting_rules" ["kind", "seen", "most"] (spO K F_fitting_rules) := ok_fitting_rules (D_fitting_rules X G c) T TB C_check_kind C_check_seen C_is_between C_parts
  have C_law_is_part : CallOk P w K mg base CX0 1 "_law_is_part" ["leaf", "stays"] (spO K F_law_is_part) := ok_law_is_part (D_law_is_part X G c) T TB 
  have C_law_fits : CallOk P w K mg base CX0 1 "_law_fits" ["kind", "leaf", "stays", "seen"] (spO K F_law_fits) := ok_law_fits (D_law_fits X G c) T TB 
  have C_law_row_right : CallOk P w K mg base CX0 2 "_law_row_right" ["kind", "seen", "row"] (spO K F_law_row_right) := ok_law_row_right (D_law_row_right X G c) T TB C_law_is_part C_law_fits
  have C_law_lacks : CallOk P w K mg base CX0 2 "_law_lacks" ["kind", "seen", "told", "leaf"] (spO K F_law_lacks) := ok_law_lacks (D_law_lacks X G c) T TB C_law_is_part C_law_fits
  have C_law_right : CallOk P w K mg base CX0 5 "_law_right" ["bag", "kind"] (spO K F_law_right) := ok_law_right (D_law_right X G c) T TB C_law_pick C_law_part C_fitting_rules C_law_row_right C_law_lacks
  have C_law_bag_live : CallOk P w K mg base CX0 1 "_law_bag" ["cell"] (spO K F_law_bag_live) := ok_law_bag_live (D_law_bag X G c) T TB 
  exact ok_law F T TB C_law_bag C_law_right C_fitting_rules C_law_bag_live
end
end k40

namespace k40
end k40
open PySem PySem.W PySem.Calls PyProof.Rows
set_option maxRecDepth 100000 in
set_option maxHeartbeats 0 in
theorem PySem.Challenge.cw_leafsplits_k40_great_seen_holds : PySem.Challenge.rw_leafsplits_k40_great_seen.Holds := by
  w_on; o_law
  refine HandSHeadRun.head_any (r := OpenLaw.row PySem.Challenge.rw_leafsplits_k40_great_seen) (q := view (OpenLaw.row PySem.Challenge.rw_leafsplits_k40_great_seen).prog [33]) (H := k40.hk) (ob := k40.ob) (M := 20000) (loose := k40.loose) (d := HandSHeadRun.topDef (OpenLaw.row PySem.Challenge.rw_leafsplits_k40_great_seen).prog 33) (kwd := []) k40.ob_eq
    (by kernel_rfl) (fun s => by kernel_rfl) k40.run (by kernel_rfl) (by kernel_rfl) (by kernel_rfl) (by rfl) (by first | assumption | decide +kernel) (by decide +kernel) ⟨rfl, rfl, rfl, rfl, rfl, by decide +kernel⟩ ?hw ?hc
  case hw => w_witness2
  case hc =>
    refine Z.walk_G (l := PySem.Challenge.rw_leafsplits_k40_great_seen) (n := 63) (k := 6) (x := "script") rfl (by decide) (by kernel_rfl) ⟨rfl, by decide, by decide⟩ ?F
    intro w mg fa h Y G hmg0
    obtain ⟨K, KX, c⟩ := Y
    have hmg : mg ("law" : PySem.Str) = some (.ref fa) := by
      have e : (HandSHeadRun.topDef (OpenLaw.row PySem.Challenge.rw_leafsplits_k40_great_seen).prog 33).name = ("law" : PySem.Str) := by kernel_rfl
      rw [← e]
      exact hmg0
    obtain ⟨fd, hb, hF⟩ := k40.facts (P := (PySem.Challenge.rw_leafsplits_k40_great_seen).prog) (w := w) KX G hmg c
    exact ⟨K, fd, (Z.spO K M.F_law), KX, hb, fun H a ns hl hS => Z.spO_law (M.law_true ns hl).choose_spec hS, hF⟩
