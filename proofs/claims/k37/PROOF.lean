import PyProof.Rows.All
import Wide.All
import OpenK.AllK
import Wide.FinOn
import HandS.ForMost
import HandS.Wide
import HandS.ExcInit
import HandS.FStr
import HandS.Nested
import HandS.TryOnly
import HandS.ExcField
import HandS.WordsExc
import HandS.IsInst
import HandS.Codes
import HandS.Gcd
import HandS.Star
import HandS.ClsMeth
import KE.KTupSum
import HandS.Defaults
import HandS.ExcIs
import KE.KExcSuper
import KE.KMathG
import HandS.FStrTup
import HandS.OwnEq
import HandS.TupLe
import HandS.DeepEq
import HandS.MakeKw
import HandS.Walk
import HandS.AnyAll
import HandS.WordsDict
import HandS.More
import HandS.Deep
import HandS.Style
import HandS.Flow
import HandS.CallSlots
import KE.GoesRaise
import PyProof.ReprReads
import HandS.MethStar
import HandS.SortInts
import HandS.DictComp
import KE.KSortedM
import HandS.DictTup
import HandS.Zip
import HandS.Conv
import HandS.TupMul
import HandS.TupAny
import KE.KStateDown
import HandS.Head0
import HandS.Head1
import HandS.Head2
import HandS.Head3
import HandS.HeadEnd
import HandS.HeadHook1
import HandS.HeadHook2
import PySem.Challenge.RW_rungbounds_k37_cases_of_wishes
import KE.KCallOwn
import HandS.StrMore
import HandS.Text
import KE.KSuper
import KE.KOpsOwn
import PyProof.AttrMissSeq
import HandS.NoneIn
set_option Elab.async false
set_option linter.all false
set_option maxRecDepth 100000
set_option maxHeartbeats 4000000
/-! The head's facts, read off the heap behind the top by their paths. -/
namespace Hk
open PySem PySem.Spec PyProof.Rows L2 He
abbrev Fr : Type := PySem.W.Frag
abbrev FnE : Type := Option (Str × Str × Arguments × FuncBody × Scope × Addr × List Str × Addr)
def fnE (K : Fr) (a : Addr) : FnE := match K.lookup a with
  | some ⟨_, _, .func fd, _⟩ => some (fd.name, fd.qualname, fd.params, fd.body, fd.scope, fd.globals, fd.closure.map (·.1), fd.builtins)
  | _ => none
/-- one def of the text: where it stands, its name, its qualified name, its statement, its cells -/
structure Df where
  at_ : Addr
  name : Str
  qual : Str
  st : Stmt
  cl : List Str := []
abbrev sig (name qual : Str) (st : Stmt) (cl : List Str) : FnE := some (name, qual, defArgs st, .stmts (defBody st), defScope st, mainGlobals, cl, builtinsNs)
def Df.val (d : Df) : FnE := sig d.name d.qual d.st d.cl
abbrev Ob : Type := Bool × List FnE
def obsK (fx : List (Fr → Bool)) (fn : List Df) (K : Fr) : Ob := (fx.all fun f => f K, fn.map fun d => fnE K d.at_)
def valK (fn : List Df) : Ob := (true, fn.map Df.val)
def Says (fx : List (Fr → Bool)) (fn : List Df) (K : Fr) : Prop := obsK fx fn K = valK fn
def obK (as : List Addr) (fx : List (Fr → Bool)) (fn : List Df) (g : Addr → Option Obj) : Ob := obsK fx fn (frG g as)
def hookK (as : List Addr) (fx : List (Fr → Bool)) (fn : List Df) : PySem.W.Hook where
  α := Ob
  obs := fun s => obK as fx fn s.heap.get?
  val := fun _ => valK fn
  says := fun _ h => ∃ K : Fr, K.In h ∧ Says fx fn K
  of := fun _ _ e => ⟨_, frG_in, e⟩
  keeps := fun _ _ _ ⟨K, hK, c⟩ k => ⟨K, PySem.W.Frag.In.keeps hK k, c⟩
theorem obK_eq {as : List Addr} {fx : List (Fr → Bool)} {fn : List Df} {g : Addr → Option Obj} {s : Shared} (h : ∀ a, g a = s.heap.get? a) : obK as fx fn g = (hookK as fx fn).obs s := by
  have e : g = s.heap.get? := funext h
  rw [e] <;> rfl
section
variable {fx : List (Fr → Bool)} {fn : List Df} {K : Fr}
theorem Says.fact (c : Says fx fn K) (i : Nat) {f : Fr → Bool} (h : fx[i]? = some f) : f K = true := by
  have c1 : (fx.all fun f => f K) = true := congrArg (fun z : Ob => z.1) c
  exact List.all_eq_true.mp c1 f (List.mem_of_getElem? h)
theorem Says.fn_ (c : Says fx fn K) (i : Nat) {d : Df} (h : fn[i]? = some d) : fnE K d.at_ = d.val := by
  have e : fn.map (fun d => fnE K d.at_) = fn.map Df.val := congrArg (fun z : Ob => z.2) c
  have e2 : (fn.map fun d => fnE K d.at_)[i]? = (fn.map Df.val)[i]? := by rw [e]
  rw [List.getElem?_map, List.getElem?_map, h] at e2
  exact Option.some.inj e2
end
/-! ### defs -/
def plainB (qual : Str) (a : Addr) (K : Fr) : Bool := match K.lookup a with
  | some ⟨_, _, .func fd, _⟩ => PySem.W.codeIn K fd.code qual && decide (fd.defaults = .none)
  | _ => false
theorem def_ok {K : Fr} {a : Addr} {name qual : Str} {st : Stmt} (e : fnE K a = sig name qual st []) (c : plainB qual a K = true) :
    ∃ oc od osl kV doc pm an cdv ct, K.lookup a = some ⟨oc, od, .func (PySem.W.fnOf name qual (defArgs st) (defBody st) (defScope st) .none kV doc pm an cdv ct), osl⟩ ∧ PySem.W.codeIn K cdv qual = true := by
  unfold fnE at e
  unfold plainB at c
  cases q : K.lookup a with
  | none =>
    rw [q] at c
    cases c
  | some o =>
    obtain ⟨oc, od, dt, osl⟩ := o
    rw [q] at c e
    cases dt with
    | func fd =>
      obtain ⟨n1, n2, n3, n4, n5, n6, n7, n8, n9, n10, n11, n12, n13, n14, n15⟩ := fd
      have e2 : (some (n1, n2, n3, n4, n5, n6, n7.map (·.1), n15) : FnE) = some (name, qual, defArgs st, .stmts (defBody st), defScope st, mainGlobals, [], builtinsNs) := e
      simp only [Option.some.injEq, Prod.mk.injEq, List.map_eq_nil_iff] at e2
      obtain ⟨h1, h2, h3, h4, h5, h6, h7, h8⟩ := e2
      obtain ⟨c1, c2⟩ := ba c
      have d2 : n8 = .none := of_decide_eq_true c2
      subst h1 h2 h3 h4 h5 h6 h7 h8 d2
      exact ⟨oc, od, osl, n9, n10, n11, n12, n13, n14, rfl, c1⟩
    | _ => cases c
/-- one default, an object -/
def oneRef : List Value → Bool
  | [.ref _] => true
  | _ => false
theorem oneRef_ok : ∀ {l : List Value}, oneRef l = true → ∃ b, l = [.ref b]
  | [], h => by cases h
  | [v], h => by
    cases v with
    | ref b => exact ⟨b, rfl⟩
    | _ => cases h
  | v :: u :: r, h => by cases v <;> cases h
def dflB1 (qual : Str) (a : Addr) (K : Fr) : Bool := match K.lookup a with
  | some ⟨_, _, .func fd, _⟩ => PySem.W.codeIn K fd.code qual && (match fd.defaults with
    | .ref T => (match K.lookup T with
      | some ⟨_, _, .seq its _, _⟩ => oneRef its.toList
      | _ => false)
    | _ => false)
  | _ => false
theorem dfl1_ok {K : Fr} {a : Addr} {name qual : Str} {st : Stmt} (e : fnE K a = sig name qual st []) (c : dflB1 qual a K = true) :
    ∃ oc od osl kV doc pm an cdv ct T xo xd xs xn b, K.lookup a = some ⟨oc, od, .func (PySem.W.fnOf name qual (defArgs st) (defBody st) (defScope st) (.ref T) kV doc pm an cdv ct), osl⟩ ∧ PySem.W.codeIn K cdv qual = true ∧
      K.lookup T = some ⟨xo, xd, .seq #[.ref b] xn, xs⟩ := by
  unfold fnE at e
  unfold dflB1 at c
  cases q : K.lookup a with
  | none =>
    rw [q] at c
    cases c
  | some o =>
    obtain ⟨oc, od, dt, osl⟩ := o
    rw [q] at c e
    cases dt with
    | func fd =>
      obtain ⟨n1, n2, n3, n4, n5, n6, n7, n8, n9, n10, n11, n12, n13, n14, n15⟩ := fd
      have e2 : (some (n1, n2, n3, n4, n5, n6, n7.map (·.1), n15) : FnE) = some (name, qual, defArgs st, .stmts (defBody st), defScope st, mainGlobals, [], builtinsNs) := e
      simp only [Option.some.injEq, Prod.mk.injEq, List.map_eq_nil_iff] at e2
      obtain ⟨h1, h2, h3, h4, h5, h6, h7, h8⟩ := e2
      subst h1 h2 h3 h4 h5 h6 h7 h8
      obtain ⟨c1, c2⟩ := ba c
      cases n8 with
      | ref T =>
        have c3 : (match K.lookup T with
          | some ⟨_, _, .seq its _, _⟩ => oneRef its.toList
          | _ => false) = true := c2
        cases q2 : K.lookup T with
        | none =>
          rw [q2] at c3
          cases c3
        | some o2 =>
          obtain ⟨xo, xd, dt2, xs⟩ := o2
          rw [q2] at c3
          cases dt2 with
          | seq its xn =>
            obtain ⟨l⟩ := its
            obtain ⟨b, e⟩ := oneRef_ok (show oneRef l = true from c3)
            rw [e] at q2
            exact ⟨oc, od, osl, n9, n10, n11, n12, n13, n14, T, xo, xd, xs, xn, b, rfl, c1, q2⟩
          | _ => cases c3
      | _ => cases c2
    | _ => cases c
/-- one default, a number -/
def oneInt (i : Int) : List Value → Bool
  | [.int j _] => decide (j = i)
  | _ => false
theorem oneInt_ok {i : Int} : ∀ {l : List Value}, oneInt i l = true → ∃ b, l = [.int i b]
  | [], h => by cases h
  | [v], h => by
    cases v with
    | int j b =>
      have h : j = i := of_decide_eq_true h
      exact ⟨b, by rw [h]⟩
    | _ => cases h
  | v :: u :: r, h => by cases v <;> cases h
def dfliB (qual : Str) (i : Int) (a : Addr) (K : Fr) : Bool := match K.lookup a with
  | some ⟨_, _, .func fd, _⟩ => PySem.W.codeIn K fd.code qual && (match fd.defaults with
    | .ref T => (match K.lookup T with
      | some ⟨_, _, .seq its _, _⟩ => oneInt i its.toList
      | _ => false)
    | _ => false)
  | _ => false
theorem dfli_ok {K : Fr} {a : Addr} {name qual : Str} {i : Int} {st : Stmt} (e : fnE K a = sig name qual st []) (c : dfliB qual i a K = true) :
    ∃ oc od osl kV doc pm an cdv ct T xo xd xs xn b, K.lookup a = some ⟨oc, od, .func (PySem.W.fnOf name qual (defArgs st) (defBody st) (defScope st) (.ref T) kV doc pm an cdv ct), osl⟩ ∧ PySem.W.codeIn K cdv qual = true ∧
      K.lookup T = some ⟨xo, xd, .seq #[.int i b] xn, xs⟩ := by
  unfold fnE at e
  unfold dfliB at c
  cases q : K.lookup a with
  | none =>
    rw [q] at c
    cases c
  | some o =>
    obtain ⟨oc, od, dt, osl⟩ := o
    rw [q] at c e
    cases dt with
    | func fd =>
      obtain ⟨n1, n2, n3, n4, n5, n6, n7, n8, n9, n10, n11, n12, n13, n14, n15⟩ := fd
      have e2 : (some (n1, n2, n3, n4, n5, n6, n7.map (·.1), n15) : FnE) = some (name, qual, defArgs st, .stmts (defBody st), defScope st, mainGlobals, [], builtinsNs) := e
      simp only [Option.some.injEq, Prod.mk.injEq, List.map_eq_nil_iff] at e2
      obtain ⟨h1, h2, h3, h4, h5, h6, h7, h8⟩ := e2
      subst h1 h2 h3 h4 h5 h6 h7 h8
      obtain ⟨c1, c2⟩ := ba c
      cases n8 with
      | ref T =>
        have c3 : (match K.lookup T with
          | some ⟨_, _, .seq its _, _⟩ => oneInt i its.toList
          | _ => false) = true := c2
        cases q2 : K.lookup T with
        | none =>
          rw [q2] at c3
          cases c3
        | some o2 =>
          obtain ⟨xo, xd, dt2, xs⟩ := o2
          rw [q2] at c3
          cases dt2 with
          | seq its xn =>
            obtain ⟨l⟩ := its
            obtain ⟨b, e⟩ := oneInt_ok (show oneInt i l = true from c3)
            rw [e] at q2
            exact ⟨oc, od, osl, n9, n10, n11, n12, n13, n14, T, xo, xd, xs, xn, b, rfl, c1, q2⟩
          | _ => cases c3
      | _ => cases c2
    | _ => cases c
/-- a class has this number -/
def clsIB (a : Addr) (n : Str) (i : Int) (K : Fr) : Bool := match PySem.W.findCls K (.ref a) (.type "type") n with
  | some (.val (.int j _)) => decide (j = i)
  | _ => false
theorem clsI_ok {K : Fr} {a : Addr} {n : Str} {i : Int} (c : clsIB a n i K = true) : ∃ t, PySem.W.findCls K (.ref a) (.type "type") n = some (.val (.int i t)) := by
  unfold clsIB at c
  split at c
  · rename_i j t e
    have c : j = i := of_decide_eq_true c
    rw [c] at e
    exact ⟨t, e⟩
  · cases c
/-! ### a def with one keyword-only default, an empty tuple -/
def kwE (k : Str) (D : Value) (K : Fr) : Bool := match D with
  | .ref D => (match PySem.W.nsIn K D k with
    | some (some (.ref t)) => (match K.lookup t with
      | some ⟨.type n, _, .seq its _, _⟩ => decide (n = "tuple") && its.toList.isEmpty
      | _ => false)
    | _ => false)
  | _ => false
theorem kwE_ok {k : Str} {D : Value} {K : Fr} (h : kwE k D K = true) : ∃ d t dd n sl, D = .ref d ∧ PySem.W.nsIn K d k = some (some (.ref t)) ∧ K.lookup t = some ⟨.type "tuple", dd, .seq #[] n, sl⟩ := by
  unfold kwE at h
  split at h
  · rename_i d
    split at h
    · rename_i t e
      split at h
      · rename_i n dd its m sl e2
        obtain ⟨c1, c2⟩ := ba h
        have c1 : n = "tuple" := of_decide_eq_true c1
        obtain ⟨l⟩ := its
        have c2 : l = [] := List.isEmpty_iff.mp c2
        subst c1 c2
        exact ⟨d, t, dd, m, sl, rfl, e, e2⟩
      · cases h
    · cases h
  · cases h
def kw1B (qual k : Str) (a : Addr) (K : Fr) : Bool := match K.lookup a with
  | some ⟨_, _, .func fd, _⟩ => PySem.W.codeIn K fd.code qual && (decide (fd.defaults = .none) && kwE k fd.kwdefaults K)
  | _ => false
theorem kw1_ok {K : Fr} {a : Addr} {name qual k : Str} {st : Stmt} (e : fnE K a = sig name qual st []) (c : kw1B qual k a K = true) :
    ∃ oc od osl D doc pm an cdv ct t dd n sl, K.lookup a = some ⟨oc, od, .func (PySem.W.fnOf name qual (defArgs st) (defBody st) (defScope st) .none (.ref D) doc pm an cdv ct), osl⟩ ∧ PySem.W.codeIn K cdv qual = true ∧
      PySem.W.nsIn K D k = some (some (.ref t)) ∧ K.lookup t = some ⟨.type "tuple", dd, .seq #[] n, sl⟩ := by
  unfold fnE at e
  unfold kw1B at c
  cases q : K.lookup a with
  | none =>
    rw [q] at c
    cases c
  | some o =>
    obtain ⟨oc, od, dt, osl⟩ := o
    rw [q] at c e
    cases dt with
    | func fd =>
      obtain ⟨n1, n2, n3, n4, n5, n6, n7, n8, n9, n10, n11, n12, n13, n14, n15⟩ := fd
      have e2 : (some (n1, n2, n3, n4, n5, n6, n7.map (·.1), n15) : FnE) = some (name, qual, defArgs st, .stmts (defBody st), defScope st, mainGlobals, [], builtinsNs) := e
      simp only [Option.some.injEq, Prod.mk.injEq, List.map_eq_nil_iff] at e2
      obtain ⟨h1, h2, h3, h4, h5, h6, h7, h8⟩ := e2
      obtain ⟨c1, c⟩ := ba c
      obtain ⟨c2, c3⟩ := ba c
      have d2 : n8 = .none := of_decide_eq_true c2
      obtain ⟨d, t, dd, m, sl, hD, hn, ht⟩ := kwE_ok (show kwE k n9 K = true from c3)
      subst h1 h2 h3 h4 h5 h6 h7 h8 d2 hD
      exact ⟨oc, od, osl, d, n10, n11, n12, n13, n14, t, dd, m, sl, rfl, c1, hn, ht⟩
    | _ => cases c
/-! ### a def with one default, an empty tuple -/
def emT (b : Addr) (K : Fr) : Bool := match K.lookup b with
  | some ⟨.type n, _, .seq its _, _⟩ => decide (n = "tuple") && its.toList.isEmpty
  | _ => false
theorem emT_ok {b : Addr} {K : Fr} (h : emT b K = true) : ∃ dd n sl, K.lookup b = some ⟨.type "tuple", dd, .seq #[] n, sl⟩ := by
  unfold emT at h
  split at h
  · rename_i n dd its m sl e2
    obtain ⟨h1, h2⟩ := ba h
    have d1 : n = "tuple" := of_decide_eq_true h1
    obtain ⟨l⟩ := its
    cases l with
    | nil =>
      subst d1
      exact ⟨dd, m, sl, e2⟩
    | cons x y => cases h2
  · cases h
def dflTT (a : Addr) (K : Fr) : Bool := match K.lookup a with
  | some ⟨_, _, .func fd, _⟩ => (match fd.defaults with
    | .ref T => (match K.lookup T with
      | some ⟨_, _, .seq its _, _⟩ => (match its.toList with
        | [.ref b] => emT b K
        | _ => false)
      | _ => false)
    | _ => false)
  | _ => false
theorem dflt_ok {K : Fr} {a : Addr} {name qual : Str} {st : Stmt} (e : fnE K a = sig name qual st []) (c : dflB1 qual a K = true) (c2 : dflTT a K = true) :
    ∃ oc od osl kV doc pm an cdv ct T xo xd xs xn b dd n sl, K.lookup a = some ⟨oc, od, .func (PySem.W.fnOf name qual (defArgs st) (defBody st) (defScope st) (.ref T) kV doc pm an cdv ct), osl⟩ ∧ PySem.W.codeIn K cdv qual = true ∧
      K.lookup T = some ⟨xo, xd, .seq #[.ref b] xn, xs⟩ ∧ K.lookup b = some ⟨.type "tuple", dd, .seq #[] n, sl⟩ := by
  obtain ⟨oc, od, osl, kV, doc, pm, an, cdv, ct, T, xo, xd, xs, xn, b, h1, h2, h3⟩ := dfl1_ok e c
  unfold dflTT at c2
  rw [h1] at c2
  have c3 : (match K.lookup T with
    | some ⟨_, _, .seq its _, _⟩ => (match its.toList with
      | [.ref b] => emT b K
      | _ => false)
    | _ => false) = true := c2
  rw [h3] at c3
  obtain ⟨dd, n, sl, h4⟩ := emT_ok (show emT b K = true from c3)
  exact ⟨oc, od, osl, kV, doc, pm, an, cdv, ct, T, xo, xd, xs, xn, b, dd, n, sl, h1, h2, h3, h4⟩
/-! ### a def with one keyword-only default, a number -/
def kwIE (k : Str) (i : Int) (D : Value) (K : Fr) : Bool := match D with
  | .ref D => (match PySem.W.nsIn K D k with
    | some (some (.int j _)) => decide (j = i)
    | _ => false)
  | _ => false
theorem kwIE_ok {k : Str} {i : Int} {D : Value} {K : Fr} (h : kwIE k i D K = true) : ∃ d tk, D = .ref d ∧ PySem.W.nsIn K d k = some (some (.int i tk)) := by
  unfold kwIE at h
  split at h
  · rename_i d
    split at h
    · rename_i j tk e
      have c1 : j = i := of_decide_eq_true h
      subst c1
      exact ⟨d, tk, rfl, e⟩
    · cases h
  · cases h
def kwiB (qual k : Str) (i : Int) (a : Addr) (K : Fr) : Bool := match K.lookup a with
  | some ⟨_, _, .func fd, _⟩ => PySem.W.codeIn K fd.code qual && (decide (fd.defaults = .none) && kwIE k i fd.kwdefaults K)
  | _ => false
theorem kwi_ok {K : Fr} {a : Addr} {name qual k : Str} {i : Int} {st : Stmt} (e : fnE K a = sig name qual st []) (c : kwiB qual k i a K = true) :
    ∃ oc od osl D doc pm an cdv ct tk, K.lookup a = some ⟨oc, od, .func (PySem.W.fnOf name qual (defArgs st) (defBody st) (defScope st) .none (.ref D) doc pm an cdv ct), osl⟩ ∧ PySem.W.codeIn K cdv qual = true ∧
      PySem.W.nsIn K D k = some (some (.int i tk)) := by
  unfold fnE at e
  unfold kwiB at c
  cases q : K.lookup a with
  | none =>
    rw [q] at c
    cases c
  | some o =>
    obtain ⟨oc, od, dt, osl⟩ := o
    rw [q] at c e
    cases dt with
    | func fd =>
      obtain ⟨n1, n2, n3, n4, n5, n6, n7, n8, n9, n10, n11, n12, n13, n14, n15⟩ := fd
      have e2 : (some (n1, n2, n3, n4, n5, n6, n7.map (·.1), n15) : FnE) = some (name, qual, defArgs st, .stmts (defBody st), defScope st, mainGlobals, [], builtinsNs) := e
      simp only [Option.some.injEq, Prod.mk.injEq, List.map_eq_nil_iff] at e2
      obtain ⟨h1, h2, h3, h4, h5, h6, h7, h8⟩ := e2
      obtain ⟨c1, c⟩ := ba c
      obtain ⟨c2, c3⟩ := ba c
      have d2 : n8 = .none := of_decide_eq_true c2
      obtain ⟨d, tk, hD, hn⟩ := kwIE_ok (show kwIE k i n9 K = true from c3)
      subst h1 h2 h3 h4 h5 h6 h7 h8 d2 hD
      exact ⟨oc, od, osl, d, n10, n11, n12, n13, n14, tk, rfl, c1, hn⟩
    | _ => cases c
/-! ### a def with the default None and one keyword-only default, a number -/
def oneNon : List Value → Bool
  | [.none] => true
  | _ => false
theorem oneNon_ok : ∀ {l : List Value}, oneNon l = true → l = [.none]
  | [], h => by cases h
  | [v], h => by
    cases v with
    | none => rfl
    | _ => cases h
  | v :: u :: r, h => by cases v <;> cases h
def nkB (qual k : Str) (i : Int) (a : Addr) (K : Fr) : Bool := match K.lookup a with
  | some ⟨_, _, .func fd, _⟩ => PySem.W.codeIn K fd.code qual && (kwIE k i fd.kwdefaults K && (match fd.defaults with
    | .ref T => (match K.lookup T with
      | some ⟨_, _, .seq its _, _⟩ => oneNon its.toList
      | _ => false)
    | _ => false))
  | _ => false
theorem nk_ok {K : Fr} {a : Addr} {name qual k : Str} {i : Int} {st : Stmt} (e : fnE K a = sig name qual st []) (c : nkB qual k i a K = true) :
    ∃ oc od osl T D doc pm an cdv ct xo xd xs xn tk, K.lookup a = some ⟨oc, od, .func (PySem.W.fnOf name qual (defArgs st) (defBody st) (defScope st) (.ref T) (.ref D) doc pm an cdv ct), osl⟩ ∧ PySem.W.codeIn K cdv qual = true ∧
      K.lookup T = some ⟨xo, xd, .seq #[.none] xn, xs⟩ ∧ PySem.W.nsIn K D k = some (some (.int i tk)) := by
  unfold fnE at e
  unfold nkB at c
  cases q : K.lookup a with
  | none =>
    rw [q] at c
    cases c
  | some o =>
    obtain ⟨oc, od, dt, osl⟩ := o
    rw [q] at c e
    cases dt with
    | func fd =>
      obtain ⟨n1, n2, n3, n4, n5, n6, n7, n8, n9, n10, n11, n12, n13, n14, n15⟩ := fd
      have e2 : (some (n1, n2, n3, n4, n5, n6, n7.map (·.1), n15) : FnE) = some (name, qual, defArgs st, .stmts (defBody st), defScope st, mainGlobals, [], builtinsNs) := e
      simp only [Option.some.injEq, Prod.mk.injEq, List.map_eq_nil_iff] at e2
      obtain ⟨h1, h2, h3, h4, h5, h6, h7, h8⟩ := e2
      obtain ⟨c1, c⟩ := ba c
      obtain ⟨c3, c2⟩ := ba c
      obtain ⟨d, tk, hD, hn⟩ := kwIE_ok (show kwIE k i n9 K = true from c3)
      subst h1 h2 h3 h4 h5 h6 h7 h8 hD
      dsimp only at c2
      cases n8 with
      | ref T =>
        have c3 : (match K.lookup T with
          | some ⟨_, _, .seq its _, _⟩ => oneNon its.toList
          | _ => false) = true := c2
        cases q2 : K.lookup T with
        | none =>
          rw [q2] at c3
          cases c3
        | some o2 =>
          obtain ⟨xo, xd, dt2, xs⟩ := o2
          rw [q2] at c3
          cases dt2 with
          | seq its xn =>
            obtain ⟨l⟩ := its
            have e := oneNon_ok (show oneNon l = true from c3)
            rw [e] at q2
            exact ⟨oc, od, osl, T, d, n10, n11, n12, n13, n14, xo, xd, xs, xn, tk, rfl, c1, q2, hn⟩
          | _ => cases c3
      | _ => cases c2
    | _ => cases c
/-! ### a def with keyword-only defaults: facts of their dict -/
def kwPB (qual : Str) (p : Addr → Fr → Bool) (a : Addr) (K : Fr) : Bool := match K.lookup a with
  | some ⟨_, _, .func fd, _⟩ => PySem.W.codeIn K fd.code qual && (decide (fd.defaults = .none) && (match fd.kwdefaults with
    | .ref D => p D K
    | _ => false))
  | _ => false
theorem kwP_ok {K : Fr} {a : Addr} {name qual : Str} {p : Addr → Fr → Bool} {st : Stmt} (e : fnE K a = sig name qual st []) (c : kwPB qual p a K = true) :
    ∃ oc od osl D doc pm an cdv ct, K.lookup a = some ⟨oc, od, .func (PySem.W.fnOf name qual (defArgs st) (defBody st) (defScope st) .none (.ref D) doc pm an cdv ct), osl⟩ ∧ PySem.W.codeIn K cdv qual = true ∧ p D K = true := by
  unfold fnE at e
  unfold kwPB at c
  cases q : K.lookup a with
  | none =>
    rw [q] at c
    cases c
  | some o =>
    obtain ⟨oc, od, dt, osl⟩ := o
    rw [q] at c e
    cases dt with
    | func fd =>
      obtain ⟨n1, n2, n3, n4, n5, n6, n7, n8, n9, n10, n11, n12, n13, n14, n15⟩ := fd
      have e2 : (some (n1, n2, n3, n4, n5, n6, n7.map (·.1), n15) : FnE) = some (name, qual, defArgs st, .stmts (defBody st), defScope st, mainGlobals, [], builtinsNs) := e
      simp only [Option.some.injEq, Prod.mk.injEq, List.map_eq_nil_iff] at e2
      obtain ⟨h1, h2, h3, h4, h5, h6, h7, h8⟩ := e2
      obtain ⟨c1, c⟩ := ba c
      obtain ⟨c2, c3⟩ := ba c
      have d2 : n8 = .none := of_decide_eq_true c2
      dsimp only at c3
      cases n9 with
      | ref D =>
        subst h1 h2 h3 h4 h5 h6 h7 h8 d2
        exact ⟨oc, od, osl, D, n10, n11, n12, n13, n14, rfl, c1, c3⟩
      | _ => cases c3
    | _ => cases c
theorem kwIE_ref {k : Str} {i : Int} {D : Addr} {K : Fr} (h : kwIE k i (.ref D) K = true) : ∃ tk, PySem.W.nsIn K D k = some (some (.int i tk)) := by
  obtain ⟨d, tk, e, h⟩ := kwIE_ok h
  cases e
  exact ⟨tk, h⟩
theorem kwE_ref {k : Str} {D : Addr} {K : Fr} (h : kwE k (.ref D) K = true) : ∃ t dd n sl, PySem.W.nsIn K D k = some (some (.ref t)) ∧ K.lookup t = some ⟨.type "tuple", dd, .seq #[] n, sl⟩ := by
  obtain ⟨d, t, dd, n, sl, e, h⟩ := kwE_ok h
  cases e
  exact ⟨t, dd, n, sl, h⟩
/-! ### errors -/
def excB (C : Addr) (K : Fr) : Bool := match K.lookup C with
  | some ⟨.type "type", _, .cls cd, sl⟩ => (match cd.mro, sl.toList with
    | .ref C' :: bm, [_, _, _, _, some (.builtin n), _] => decide (C' = C) && (decide (n = "ValueError.__new__") && (!cd.hasDel && (cd.hasDict && PySem.HandSPX.refsVE bm)))
    | _, _ => false)
  | _ => false
theorem exc_ok {K : Fr} {C : Addr} (c : excB C K = true) : ∃ nm q N bs bm sn sub ab col dd k0 k1 k2 k3 k5, K.lookup C = some (excClassObj nm q C N bs bm true sn sub ab col dd k0 k1 k2 k3 k5 "ValueError.__new__") ∧ PySem.HandSPX.refsVE bm = true := by
  unfold excB at c
  split at c
  · rename_i dd cd sl ho
    split at c
    · rename_i C' bm k0 k1 k2 k3 n k5 hm hs
      obtain ⟨c1, c⟩ := ba c
      obtain ⟨c2, c⟩ := ba c
      obtain ⟨c3, c⟩ := ba c
      obtain ⟨c4, c5⟩ := ba c
      have d1 : C' = C := of_decide_eq_true c1
      have d2 : n = "ValueError.__new__" := of_decide_eq_true c2
      subst d1 d2
      obtain ⟨nm, bs, mro, ns, qn, hd, sn, sub, ab, col, del⟩ := cd
      dsimp only at hm c3 c4
      have d3 : del = false := by
        cases del with
        | false => rfl
        | true => cases c3
      subst hm d3 c4
      have hsl : sl = #[k0, k1, k2, k3, some (.builtin "ValueError.__new__"), k5] := by
        obtain ⟨l⟩ := sl
        simp only at hs
        rw [hs]
      subst hsl
      exact ⟨nm, qn, ns, bs, bm, sn, sub, ab, col, dd, k0, k1, k2, k3, k5, ho, c5⟩
    · cases c
  · cases c
def isStr (fl : Str) : Option Value → Bool
  | some (.str y _) => decide (y = fl)
  | _ => false
theorem isStr_ok {fl : Str} : ∀ {v : Option Value}, isStr fl v = true → ∃ t, v = some (.str fl t)
  | none, h => by cases h
  | some v, h => by
    cases v with
    | str y t =>
      have e : y = fl := of_decide_eq_true h
      exact ⟨t, by rw [e]⟩
    | _ => cases h
def isCell (C : Addr) : Data → Bool
  | .cell (some (.ref D)) => decide (D = C)
  | _ => false
theorem isCell_ok {C : Addr} : ∀ {d : Data}, isCell C d = true → d = .cell (some (.ref C)) := by
  intro d h
  unfold isCell at h
  split at h
  · have e : _ = C := of_decide_eq_true h
    rw [e]
  · cases h
def errB (fl qual : Str) (C a : Addr) (K : Fr) : Bool := match K.lookup a with
  | some ⟨_, _, .func fd, _⟩ => decide (fd.defaults = .none) && (PySem.W.codeIn K fd.code qual && ((match fd.code with
    | .ref c => (match K.lookup c with
      | some ⟨_, _, .fields vk, _⟩ => isStr fl vk[2]?
      | _ => false)
    | _ => false) && (match fd.closure with
    | [(_, cc)] => (match K.lookup cc with
      | some o => isCell C o.data
      | _ => false)
    | _ => false)))
  | _ => false
theorem err_ok {K : Fr} {C a : Addr} {name qual fl : Str} {st : Stmt} (e : fnE K a = sig name qual st ["__class__"]) (c : errB fl qual C a K = true) :
    ∃ oc od osl kV doc pm an cda ct cc ck dk vk sk tf ce de se, K.lookup a = some ⟨oc, od, .func (PySem.W.fnX name qual (defArgs st) (defBody st) (defScope st) [("__class__", cc)] .none kV doc pm an (.ref cda) ct), osl⟩ ∧
      PySem.W.codeIn K (.ref cda) qual = true ∧ K.lookup cda = some ⟨ck, dk, .fields vk, sk⟩ ∧ vk[2]? = some (.str fl tf) ∧ K.lookup cc = some ⟨ce, de, .cell (some (.ref C)), se⟩ := by
  unfold fnE at e
  unfold errB at c
  cases q : K.lookup a with
  | none =>
    rw [q] at c
    cases c
  | some o =>
    obtain ⟨oc, od, dt, osl⟩ := o
    rw [q] at c e
    cases dt with
    | func fd =>
      obtain ⟨n1, n2, n3, n4, n5, n6, n7, n8, n9, n10, n11, n12, n13, n14, n15⟩ := fd
      have e2 : (some (n1, n2, n3, n4, n5, n6, n7.map (·.1), n15) : FnE) = some (name, qual, defArgs st, FuncBody.stmts (defBody st), defScope st, mainGlobals, [("__class__" : Str)], builtinsNs) := e
      simp only [Option.some.injEq, Prod.mk.injEq] at e2
      obtain ⟨h1, h2, h3, h4, h5, h6, h7, h8⟩ := e2
      obtain ⟨c1, c⟩ := ba c
      obtain ⟨c2, c⟩ := ba c
      obtain ⟨c3, c4⟩ := ba c
      have d1 : n8 = .none := of_decide_eq_true c1
      subst h1 h2 h3 h4 h5 h6 h8 d1
      dsimp only at c2 c3 c4
      cases n13 with
      | ref cda =>
        have c3 : (match K.lookup cda with
          | some ⟨_, _, .fields vk, _⟩ => isStr fl vk[2]?
          | _ => false) = true := c3
        cases q3 : K.lookup cda with
        | none =>
          rw [q3] at c3
          cases c3
        | some o3 =>
          obtain ⟨ck, dk, dt3, sk⟩ := o3
          rw [q3] at c3
          cases dt3 with
          | fields vk =>
            obtain ⟨tf, qv⟩ := isStr_ok (show isStr fl vk[2]? = true from c3)
            cases n7 with
            | nil => cases h7
            | cons p r =>
              obtain ⟨x, cc⟩ := p
              cases r with
              | cons p2 r => cases h7
              | nil =>
                have hx : x = "__class__" := (List.cons.inj h7).1
                subst hx
                have c4 : (match K.lookup cc with
                  | some o => isCell C o.data
                  | _ => false) = true := c4
                cases q4 : K.lookup cc with
                | none =>
                  rw [q4] at c4
                  cases c4
                | some o4 =>
                  obtain ⟨ce, de, dt4, se⟩ := o4
                  rw [q4] at c4
                  have d4 := isCell_ok (show isCell C dt4 = true from c4)
                  subst d4
                  exact ⟨oc, od, osl, n9, n10, n11, n12, cda, n14, cc, ck, dk, vk, sk, tf, ce, de, se, rfl, c2, q3, qv, q4⟩
          | _ => cases c3
      | _ => cases c3
    | _ => cases c
/-! ### constants -/
def intB (x : Str) (i : Int) (K : Fr) : Bool := match PySem.W.nsIn K mainGlobals x with
  | some (some (.int j _)) => decide (j = i)
  | _ => false
theorem int_ok {K : Fr} {x : Str} {i : Int} (c : intB x i K = true) : ∃ t, PySem.W.nsIn K mainGlobals x = some (some (.int i t)) := by
  unfold intB at c
  split at c
  · rename_i j t e
    have c : j = i := of_decide_eq_true c
    rw [c] at e
    exact ⟨t, e⟩
  · cases c
def strB (x z : Str) (K : Fr) : Bool := match PySem.W.nsIn K mainGlobals x with
  | some (some (.str y _)) => decide (y = z)
  | _ => false
theorem str_ok {K : Fr} {x z : Str} (c : strB x z K = true) : ∃ t, PySem.W.nsIn K mainGlobals x = some (some (.str z t)) := by
  unfold strB at c
  split at c
  · rename_i y t e
    have c : y = z := of_decide_eq_true c
    rw [c] at e
    exact ⟨t, e⟩
  · cases c
theorem of_ {p : Prop} [Decidable p] (h : decide p = true) : p := of_decide_eq_true h
/-! ### a tuple of two texts -/
def tup2SB (b : Addr) (x y : Str) (K : Fr) : Bool := match K.lookup b with
  | some ⟨.type n, _, .seq its _, _⟩ => decide (n = "tuple") && (match its.toList with
    | [.str u _, .str v _] => decide (u = x) && decide (v = y)
    | _ => false)
  | _ => false
theorem tup2S_ok {b : Addr} {x y : Str} {K : Fr} (h : tup2SB b x y K = true) : ∃ dd t1 t2 n sl, K.lookup b = some ⟨.type "tuple", dd, .seq #[.str x t1, .str y t2] n, sl⟩ := by
  unfold tup2SB at h
  split at h
  · rename_i n dd its m sl e2
    obtain ⟨h1, h2⟩ := ba h
    have d1 : n = "tuple" := of_decide_eq_true h1
    obtain ⟨l⟩ := its
    split at h2
    · rename_i u t1 v t2 el
      obtain ⟨a, c⟩ := ba h2
      have a := of_decide_eq_true a
      have c := of_decide_eq_true c
      have el : l = [.str u t1, .str v t2] := el
      subst d1 a c el
      exact ⟨dd, t1, t2, m, sl, e2⟩
    · cases h2
  · cases h
/-! ### the name of a class -/
def nmB (nm : Str) (C : Addr) (K : Fr) : Bool := (PySem.W.clsIn K C).any fun cd => decide (cd.name = nm)
end Hk

/-! The run of the head, ahead of all. -/
namespace HkE
open PySem PySem.Spec PyProof.Rows L2
def tp (i : Nat) : Stmt := PySem.Challenge.pw_rungbounds_k37_cases_of_wishes.main.body.getD i (.Pass ⟨0, 0, 0, 0⟩)
abbrev fileH : Str := (PySem.Challenge.rw_rungbounds_k37_cases_of_wishes).prog.main.file
abbrev fk0 : Hk.Fr → Bool := fun K => Hk.plainB "Trial.__init__" 90 K
abbrev fk1 : Hk.Fr → Bool := fun K => Hk.plainB "Trial.agrees" 107 K
abbrev fk2 : Hk.Fr → Bool := fun K => Hk.plainB "Trial.__invert__" 114 K
abbrev fk3 : Hk.Fr → Bool := fun K => Hk.dfliB "Wish.__init__" 1 150 K
abbrev fk4 : Hk.Fr → Bool := fun K => Hk.plainB "Wish.cases" 157 K
abbrev fk5 : Hk.Fr → Bool := fun K => Hk.plainB "Wish.answer" 162 K
abbrev fk6 : Hk.Fr → Bool := fun K => Hk.plainB "Wish.places" 169 K
abbrev fk7 : Hk.Fr → Bool := fun K => Hk.plainB "Wish.__and__" 200 K
abbrev fk8 : Hk.Fr → Bool := fun K => Hk.plainB "AllWithin.cases" 228 K
abbrev fk9 : Hk.Fr → Bool := fun K => Hk.plainB "AllWithin.places" 233 K
abbrev fk10 : Hk.Fr → Bool := fun K => Hk.plainB "SomeWithin.cases" 259 K
abbrev fk11 : Hk.Fr → Bool := fun K => Hk.plainB "SomeWithin.places" 264 K
abbrev fk12 : Hk.Fr → Bool := fun K => Hk.plainB "Band.cases" 292 K
abbrev fk13 : Hk.Fr → Bool := fun K => Hk.plainB "Band.places" 299 K
abbrev fk14 : Hk.Fr → Bool := fun K => Hk.plainB "Both.cases" 323 K
abbrev fk15 : Hk.Fr → Bool := fun K => Hk.plainB "Both.places" 330 K
abbrev fk16 : Hk.Fr → Bool := fun K => Hk.plainB "_law_box" 340 K
abbrev fk17 : Hk.Fr → Bool := fun K => Hk.plainB "_law_take" 347 K
abbrev fk18 : Hk.Fr → Bool := fun K => Hk.plainB "_law_number" 354 K
abbrev fk19 : Hk.Fr → Bool := fun K => Hk.plainB "_law_pairs" 361 K
abbrev fk20 : Hk.Fr → Bool := fun K => Hk.plainB "_law_many" 368 K
abbrev fk21 : Hk.Fr → Bool := fun K => Hk.plainB "_law_band" 375 K
abbrev fk22 : Hk.Fr → Bool := fun K => Hk.plainB "_law_single" 382 K
abbrev fk23 : Hk.Fr → Bool := fun K => Hk.plainB "_law_wish" 389 K
abbrev fk24 : Hk.Fr → Bool := fun K => Hk.plainB "_law_size" 396 K
abbrev fk25 : Hk.Fr → Bool := fun K => Hk.plainB "_law_cases" 406 K
abbrev fk26 : Hk.Fr → Bool := fun K => Hk.plainB "_law_same" 411 K
abbrev fk27 : Hk.Fr → Bool := fun K => Hk.plainB "_law_eight" 418 K
abbrev fk28 : Hk.Fr → Bool := fun K => Hk.plainB "law" 423 K
abbrev fk29 : Hk.Fr → Bool := fun K => Hk.excB 53 K
abbrev fk30 : Hk.Fr → Bool := fun K => Hk.errB fileH "BadNumber.__init__" 53 50 K
abbrev fk31 : Hk.Fr → Bool := fun K => Hk.excB 74 K
abbrev fk32 : Hk.Fr → Bool := fun K => Hk.errB fileH "NoPlace.__init__" 74 71 K
abbrev fk33 : Hk.Fr → Bool := fun K => Hk.errB fileH "AllWithin.__init__" 236 223 K
abbrev fk34 : Hk.Fr → Bool := fun K => Hk.errB fileH "SomeWithin.__init__" 267 254 K
abbrev fk35 : Hk.Fr → Bool := fun K => Hk.errB fileH "Band.__init__" 302 285 K
abbrev fk36 : Hk.Fr → Bool := fun K => Hk.errB fileH "Both.__init__" 333 318 K
abbrev fk37 : Hk.Fr → Bool := fun K => decide (PySem.W.nsIn K mainGlobals "Trial" = some (some (.ref 131)))
abbrev fk38 : Hk.Fr → Bool := fun K => decide (PySem.W.nsIn K mainGlobals "Wish" = some (some (.ref 203)))
abbrev fk39 : Hk.Fr → Bool := fun K => decide (PySem.W.nsIn K mainGlobals "AllWithin" = some (some (.ref 236)))
abbrev fk40 : Hk.Fr → Bool := fun K => decide (PySem.W.nsIn K mainGlobals "SomeWithin" = some (some (.ref 267)))
abbrev fk41 : Hk.Fr → Bool := fun K => decide (PySem.W.nsIn K mainGlobals "Band" = some (some (.ref 302)))
abbrev fk42 : Hk.Fr → Bool := fun K => decide (PySem.W.nsIn K mainGlobals "Both" = some (some (.ref 333)))
abbrev fk43 : Hk.Fr → Bool := fun K => decide (PySem.W.findIn K (.ref 131) "__init__" = some (some (.ref 90)))
abbrev fk44 : Hk.Fr → Bool := fun K => PySem.W.keepIn K (.ref 90)
abbrev fk45 : Hk.Fr → Bool := fun K => PySem.W.isFn K (.ref 90)
abbrev fk46 : Hk.Fr → Bool := fun K => decide (PySem.W.findIn K (.ref 131) "agrees" = some (some (.ref 107)))
abbrev fk47 : Hk.Fr → Bool := fun K => PySem.W.keepIn K (.ref 107)
abbrev fk48 : Hk.Fr → Bool := fun K => PySem.W.isFn K (.ref 107)
abbrev fk49 : Hk.Fr → Bool := fun K => decide (PySem.W.findIn K (.ref 131) "__invert__" = some (some (.ref 114)))
abbrev fk50 : Hk.Fr → Bool := fun K => PySem.W.keepIn K (.ref 114)
abbrev fk51 : Hk.Fr → Bool := fun K => PySem.W.isFn K (.ref 114)
abbrev fk52 : Hk.Fr → Bool := fun K => decide (PySem.W.findIn K (.ref 203) "__init__" = some (some (.ref 150)))
abbrev fk53 : Hk.Fr → Bool := fun K => PySem.W.keepIn K (.ref 150)
abbrev fk54 : Hk.Fr → Bool := fun K => PySem.W.isFn K (.ref 150)
abbrev fk55 : Hk.Fr → Bool := fun K => decide (PySem.W.findIn K (.ref 203) "cases" = some (some (.ref 157)))
abbrev fk56 : Hk.Fr → Bool := fun K => PySem.W.keepIn K (.ref 157)
abbrev fk57 : Hk.Fr → Bool := fun K => PySem.W.isFn K (.ref 157)
abbrev fk58 : Hk.Fr → Bool := fun K => decide (PySem.W.findIn K (.ref 203) "answer" = some (some (.ref 162)))
abbrev fk59 : Hk.Fr → Bool := fun K => PySem.W.keepIn K (.ref 162)
abbrev fk60 : Hk.Fr → Bool := fun K => PySem.W.isFn K (.ref 162)
abbrev fk61 : Hk.Fr → Bool := fun K => decide (PySem.W.findIn K (.ref 203) "places" = some (some (.ref 169)))
abbrev fk62 : Hk.Fr → Bool := fun K => PySem.W.keepIn K (.ref 169)
abbrev fk63 : Hk.Fr → Bool := fun K => PySem.W.isFn K (.ref 169)
abbrev fk64 : Hk.Fr → Bool := fun K => decide (PySem.W.findIn K (.ref 203) "__and__" = some (some (.ref 200)))
abbrev fk65 : Hk.Fr → Bool := fun K => PySem.W.keepIn K (.ref 200)
abbrev fk66 : Hk.Fr → Bool := fun K => PySem.W.isFn K (.ref 200)
abbrev fk67 : Hk.Fr → Bool := fun K => decide (PySem.W.findIn K (.ref 236) "cases" = some (some (.ref 228)))
abbrev fk68 : Hk.Fr → Bool := fun K => PySem.W.keepIn K (.ref 228)
abbrev fk69 : Hk.Fr → Bool := fun K => PySem.W.isFn K (.ref 228)
abbrev fk70 : Hk.Fr → Bool := fun K => decide (PySem.W.findIn K (.ref 236) "places" = some (some (.ref 233)))
abbrev fk71 : Hk.Fr → Bool := fun K => PySem.W.keepIn K (.ref 233)
abbrev fk72 : Hk.Fr → Bool := fun K => PySem.W.isFn K (.ref 233)
abbrev fk73 : Hk.Fr → Bool := fun K => decide (PySem.W.findIn K (.ref 267) "cases" = some (some (.ref 259)))
abbrev fk74 : Hk.Fr → Bool := fun K => PySem.W.keepIn K (.ref 259)
abbrev fk75 : Hk.Fr → Bool := fun K => PySem.W.isFn K (.ref 259)
abbrev fk76 : Hk.Fr → Bool := fun K => decide (PySem.W.findIn K (.ref 267) "places" = some (some (.ref 264)))
abbrev fk77 : Hk.Fr → Bool := fun K => PySem.W.keepIn K (.ref 264)
abbrev fk78 : Hk.Fr → Bool := fun K => PySem.W.isFn K (.ref 264)
abbrev fk79 : Hk.Fr → Bool := fun K => decide (PySem.W.findIn K (.ref 302) "cases" = some (some (.ref 292)))
abbrev fk80 : Hk.Fr → Bool := fun K => PySem.W.keepIn K (.ref 292)
abbrev fk81 : Hk.Fr → Bool := fun K => PySem.W.isFn K (.ref 292)
abbrev fk82 : Hk.Fr → Bool := fun K => decide (PySem.W.findIn K (.ref 302) "places" = some (some (.ref 299)))
abbrev fk83 : Hk.Fr → Bool := fun K => PySem.W.keepIn K (.ref 299)
abbrev fk84 : Hk.Fr → Bool := fun K => PySem.W.isFn K (.ref 299)
abbrev fk85 : Hk.Fr → Bool := fun K => decide (PySem.W.findIn K (.ref 333) "cases" = some (some (.ref 323)))
abbrev fk86 : Hk.Fr → Bool := fun K => PySem.W.keepIn K (.ref 323)
abbrev fk87 : Hk.Fr → Bool := fun K => PySem.W.isFn K (.ref 323)
abbrev fk88 : Hk.Fr → Bool := fun K => decide (PySem.W.findIn K (.ref 333) "places" = some (some (.ref 330)))
abbrev fk89 : Hk.Fr → Bool := fun K => PySem.W.keepIn K (.ref 330)
abbrev fk90 : Hk.Fr → Bool := fun K => PySem.W.isFn K (.ref 330)
abbrev fk91 : Hk.Fr → Bool := fun K => decide (PySem.W.nsIn K mainGlobals "_law_box" = some (some (.ref 340)))
abbrev fk92 : Hk.Fr → Bool := fun K => PySem.W.keepIn K (.ref 340)
abbrev fk93 : Hk.Fr → Bool := fun K => decide (PySem.W.nsIn K mainGlobals "_law_take" = some (some (.ref 347)))
abbrev fk94 : Hk.Fr → Bool := fun K => PySem.W.keepIn K (.ref 347)
abbrev fk95 : Hk.Fr → Bool := fun K => decide (PySem.W.nsIn K mainGlobals "_law_number" = some (some (.ref 354)))
abbrev fk96 : Hk.Fr → Bool := fun K => PySem.W.keepIn K (.ref 354)
abbrev fk97 : Hk.Fr → Bool := fun K => decide (PySem.W.nsIn K mainGlobals "_law_pairs" = some (some (.ref 361)))
abbrev fk98 : Hk.Fr → Bool := fun K => PySem.W.keepIn K (.ref 361)
abbrev fk99 : Hk.Fr → Bool := fun K => decide (PySem.W.nsIn K mainGlobals "_law_many" = some (some (.ref 368)))
abbrev fk100 : Hk.Fr → Bool := fun K => PySem.W.keepIn K (.ref 368)
abbrev fk101 : Hk.Fr → Bool := fun K => decide (PySem.W.nsIn K mainGlobals "_law_band" = some (some (.ref 375)))
abbrev fk102 : Hk.Fr → Bool := fun K => PySem.W.keepIn K (.ref 375)
abbrev fk103 : Hk.Fr → Bool := fun K => decide (PySem.W.nsIn K mainGlobals "_law_single" = some (some (.ref 382)))
abbrev fk104 : Hk.Fr → Bool := fun K => PySem.W.keepIn K (.ref 382)
abbrev fk105 : Hk.Fr → Bool := fun K => decide (PySem.W.nsIn K mainGlobals "_law_wish" = some (some (.ref 389)))
abbrev fk106 : Hk.Fr → Bool := fun K => PySem.W.keepIn K (.ref 389)
abbrev fk107 : Hk.Fr → Bool := fun K => decide (PySem.W.nsIn K mainGlobals "_law_size" = some (some (.ref 396)))
abbrev fk108 : Hk.Fr → Bool := fun K => PySem.W.keepIn K (.ref 396)
abbrev fk109 : Hk.Fr → Bool := fun K => decide (PySem.W.nsIn K mainGlobals "_law_cases" = some (some (.ref 406)))
abbrev fk110 : Hk.Fr → Bool := fun K => PySem.W.keepIn K (.ref 406)
abbrev fk111 : Hk.Fr → Bool := fun K => decide (PySem.W.nsIn K mainGlobals "_law_same" = some (some (.ref 411)))
abbrev fk112 : Hk.Fr → Bool := fun K => PySem.W.keepIn K (.ref 411)
abbrev fk113 : Hk.Fr → Bool := fun K => decide (PySem.W.nsIn K mainGlobals "_law_eight" = some (some (.ref 418)))
abbrev fk114 : Hk.Fr → Bool := fun K => PySem.W.keepIn K (.ref 418)
abbrev fk115 : Hk.Fr → Bool := fun K => decide (PySem.W.nsIn K mainGlobals "law" = some (some (.ref 423)))
abbrev fk116 : Hk.Fr → Bool := fun K => PySem.W.keepIn K (.ref 423)
abbrev fk117 : Hk.Fr → Bool := fun K => decide (PySem.W.nsIn K cStatics "thirdparty.any" = some none)
abbrev fk118 : Hk.Fr → Bool := fun K => decide (PySem.W.nsIn K mainGlobals "super" = some none)
abbrev fk119 : Hk.Fr → Bool := fun K => decide (PySem.W.nsIn K mainGlobals "BadNumber" = some (some (.ref 53)))
abbrev fk120 : Hk.Fr → Bool := fun K => decide (PySem.W.findIn K (.ref 53) "__setattr__" = some (some (.builtin "object.__setattr__")))
abbrev fk121 : Hk.Fr → Bool := fun K => decide (PySem.W.findIn K (.ref 53) "__getattribute__" = some (some (.builtin "BaseException.__getattribute__")))
abbrev fk122 : Hk.Fr → Bool := fun K => decide (PySem.W.findIn K (.ref 53) "__getattr__" = some none)
abbrev fk123 : Hk.Fr → Bool := fun K => decide (PySem.W.findIn K (.ref 53) "value" = some none)
abbrev fk124 : Hk.Fr → Bool := fun K => decide (PySem.W.findIn K (.ref 53) "__init__" = some (some (.ref 50)))
abbrev fk125 : Hk.Fr → Bool := fun K => decide (PySem.W.typeIn K (.ref 50) = some (.type "function"))
abbrev fk126 : Hk.Fr → Bool := fun K => decide (PySem.W.mroIn K 53 (.ref 53) = some true)
abbrev fk127 : Hk.Fr → Bool := fun K => decide (PySem.W.ks_superIn K 53 53 "__init__" = some (some (.builtin "ValueError.__init__")))
abbrev fk128 : Hk.Fr → Bool := fun K => decide (PySem.W.subIn K (.ref 53) (.type "ValueError") = some true)
abbrev fk129 : Hk.Fr → Bool := fun K => PySem.W.keepIn K (.ref 53)
abbrev fk130 : Hk.Fr → Bool := fun K => decide (PySem.W.subIn K (.ref 53) (.type "BaseException") = some true)
abbrev fk131 : Hk.Fr → Bool := fun K => decide (PySem.W.typeIn K (.ref 53) = some (.type "type"))
abbrev fk132 : Hk.Fr → Bool := fun K => PySem.W.hasDictIn K 53
abbrev fk133 : Hk.Fr → Bool := fun K => decide (PySem.W.subIn K (.ref 53) (.ref 53) = some true)
abbrev fk134 : Hk.Fr → Bool := fun K => decide (PySem.W.nsIn K mainGlobals "NoPlace" = some (some (.ref 74)))
abbrev fk135 : Hk.Fr → Bool := fun K => decide (PySem.W.findIn K (.ref 74) "__setattr__" = some (some (.builtin "object.__setattr__")))
abbrev fk136 : Hk.Fr → Bool := fun K => decide (PySem.W.findIn K (.ref 74) "__getattribute__" = some (some (.builtin "BaseException.__getattribute__")))
abbrev fk137 : Hk.Fr → Bool := fun K => decide (PySem.W.findIn K (.ref 74) "__getattr__" = some none)
abbrev fk138 : Hk.Fr → Bool := fun K => decide (PySem.W.findIn K (.ref 74) "place" = some none)
abbrev fk139 : Hk.Fr → Bool := fun K => decide (PySem.W.findIn K (.ref 74) "__init__" = some (some (.ref 71)))
abbrev fk140 : Hk.Fr → Bool := fun K => decide (PySem.W.typeIn K (.ref 71) = some (.type "function"))
abbrev fk141 : Hk.Fr → Bool := fun K => decide (PySem.W.mroIn K 74 (.ref 74) = some true)
abbrev fk142 : Hk.Fr → Bool := fun K => decide (PySem.W.ks_superIn K 74 74 "__init__" = some (some (.builtin "ValueError.__init__")))
abbrev fk143 : Hk.Fr → Bool := fun K => decide (PySem.W.subIn K (.ref 74) (.type "ValueError") = some true)
abbrev fk144 : Hk.Fr → Bool := fun K => PySem.W.keepIn K (.ref 74)
abbrev fk145 : Hk.Fr → Bool := fun K => decide (PySem.W.subIn K (.ref 74) (.type "BaseException") = some true)
abbrev fk146 : Hk.Fr → Bool := fun K => decide (PySem.W.typeIn K (.ref 74) = some (.type "type"))
abbrev fk147 : Hk.Fr → Bool := fun K => PySem.W.hasDictIn K 74
abbrev fk148 : Hk.Fr → Bool := fun K => decide (PySem.W.subIn K (.ref 74) (.ref 74) = some true)
abbrev fk149 : Hk.Fr → Bool := fun K => decide (PySem.W.nsIn K mainGlobals "len" = some none)
abbrev fk150 : Hk.Fr → Bool := fun K => decide (PySem.W.nsIn K mainGlobals "int" = some none)
abbrev fk151 : Hk.Fr → Bool := fun K => decide (PySem.W.nsIn K mainGlobals "isinstance" = some none)
abbrev fk152 : Hk.Fr → Bool := fun K => decide (PySem.W.nsIn K mainGlobals "range" = some none)
abbrev fk153 : Hk.Fr → Bool := fun K => decide (PySem.W.nsIn K mainGlobals "list" = some none)
abbrev fk154 : Hk.Fr → Bool := fun K => decide (PySem.W.nsIn K mainGlobals "bool" = some none)
abbrev fk155 : Hk.Fr → Bool := fun K => decide (PySem.W.nsIn K mainGlobals "zip" = some none)
abbrev fk156 : Hk.Fr → Bool := fun K => decide (PySem.W.nsIn K mainGlobals "enumerate" = some none)
abbrev fk157 : Hk.Fr → Bool := fun K => decide (PySem.W.nsIn K mainGlobals "all" = some none)
abbrev fk158 : Hk.Fr → Bool := fun K => decide (PySem.W.nsIn K mainGlobals "tuple" = some none)
abbrev fk159 : Hk.Fr → Bool := fun K => PySem.W.plainGet K 131 Str.empty
abbrev fk160 : Hk.Fr → Bool := fun K => PySem.W.hasDictIn K 131
abbrev fk161 : Hk.Fr → Bool := fun K => PySem.W.plainOver K 131
abbrev fk162 : Hk.Fr → Bool := fun K => decide (PySem.W.findIn K (.ref 131) "__setattr__" = some (some (.builtin "object.__setattr__")))
abbrev fk163 : Hk.Fr → Bool := fun K => PySem.W.makesIn K 131
abbrev fk164 : Hk.Fr → Bool := fun K => PySem.W.keepIn K (.ref 131)
abbrev fk165 : Hk.Fr → Bool := fun K => decide (PySem.W.findIn K (.ref 131) "place" = some none)
abbrev fk166 : Hk.Fr → Bool := fun K => decide (PySem.W.findIn K (.ref 131) "height" = some none)
abbrev fk167 : Hk.Fr → Bool := fun K => decide (PySem.W.findIn K (.ref 131) "reached" = some none)
abbrev fk168 : Hk.Fr → Bool := fun K => decide (PySem.W.findIn K (.ref 131) "__class__" = some (some (.builtin "object.__class__")))
abbrev fk169 : Hk.Fr → Bool := fun K => decide (PySem.W.mroIn K 131 (.type "object") = some true)
abbrev fk170 : Hk.Fr → Bool := fun K => decide (PySem.W.specialIn K (.builtin "object.__class__") "__get__" = some (some (.builtin "getset_descriptor.__get__")))
abbrev fk171 : Hk.Fr → Bool := fun K => decide (PySem.W.takesIn K (.builtin "object.__class__") = some true)
abbrev fk172 : Hk.Fr → Bool := fun K => PySem.W.plainGet K 203 Str.empty
abbrev fk173 : Hk.Fr → Bool := fun K => PySem.W.hasDictIn K 203
abbrev fk174 : Hk.Fr → Bool := fun K => PySem.W.plainOver K 203
abbrev fk175 : Hk.Fr → Bool := fun K => decide (PySem.W.findIn K (.ref 203) "__setattr__" = some (some (.builtin "object.__setattr__")))
abbrev fk176 : Hk.Fr → Bool := fun K => PySem.W.makesIn K 203
abbrev fk177 : Hk.Fr → Bool := fun K => PySem.W.keepIn K (.ref 203)
abbrev fk178 : Hk.Fr → Bool := fun K => decide (PySem.W.findIn K (.ref 203) "size" = some none)
abbrev fk179 : Hk.Fr → Bool := fun K => decide (PySem.W.findIn K (.ref 203) "_pairs" = some none)
abbrev fk180 : Hk.Fr → Bool := fun K => decide (PySem.W.findIn K (.ref 203) "_place" = some none)
abbrev fk181 : Hk.Fr → Bool := fun K => decide (PySem.W.findIn K (.ref 203) "_cuts" = some none)
abbrev fk182 : Hk.Fr → Bool := fun K => decide (PySem.W.findIn K (.ref 203) "_places" = some none)
abbrev fk183 : Hk.Fr → Bool := fun K => decide (PySem.W.findIn K (.ref 203) "_cases" = some none)
abbrev fk184 : Hk.Fr → Bool := fun K => PySem.W.plainGet K 236 Str.empty
abbrev fk185 : Hk.Fr → Bool := fun K => PySem.W.hasDictIn K 236
abbrev fk186 : Hk.Fr → Bool := fun K => PySem.W.plainOver K 236
abbrev fk187 : Hk.Fr → Bool := fun K => decide (PySem.W.findIn K (.ref 236) "__setattr__" = some (some (.builtin "object.__setattr__")))
abbrev fk188 : Hk.Fr → Bool := fun K => PySem.W.makesIn K 236
abbrev fk189 : Hk.Fr → Bool := fun K => PySem.W.keepIn K (.ref 236)
abbrev fk190 : Hk.Fr → Bool := fun K => decide (PySem.W.findIn K (.ref 236) "size" = some none)
abbrev fk191 : Hk.Fr → Bool := fun K => decide (PySem.W.findIn K (.ref 236) "_pairs" = some none)
abbrev fk192 : Hk.Fr → Bool := fun K => decide (PySem.W.findIn K (.ref 236) "_place" = some none)
abbrev fk193 : Hk.Fr → Bool := fun K => decide (PySem.W.findIn K (.ref 236) "_cuts" = some none)
abbrev fk194 : Hk.Fr → Bool := fun K => decide (PySem.W.findIn K (.ref 236) "_places" = some none)
abbrev fk195 : Hk.Fr → Bool := fun K => decide (PySem.W.findIn K (.ref 236) "_cases" = some none)
abbrev fk196 : Hk.Fr → Bool := fun K => PySem.W.plainGet K 267 Str.empty
abbrev fk197 : Hk.Fr → Bool := fun K => PySem.W.hasDictIn K 267
abbrev fk198 : Hk.Fr → Bool := fun K => PySem.W.plainOver K 267
abbrev fk199 : Hk.Fr → Bool := fun K => decide (PySem.W.findIn K (.ref 267) "__setattr__" = some (some (.builtin "object.__setattr__")))
abbrev fk200 : Hk.Fr → Bool := fun K => PySem.W.makesIn K 267
abbrev fk201 : Hk.Fr → Bool := fun K => PySem.W.keepIn K (.ref 267)
abbrev fk202 : Hk.Fr → Bool := fun K => decide (PySem.W.findIn K (.ref 267) "size" = some none)
abbrev fk203 : Hk.Fr → Bool := fun K => decide (PySem.W.findIn K (.ref 267) "_pairs" = some none)
abbrev fk204 : Hk.Fr → Bool := fun K => decide (PySem.W.findIn K (.ref 267) "_place" = some none)
abbrev fk205 : Hk.Fr → Bool := fun K => decide (PySem.W.findIn K (.ref 267) "_cuts" = some none)
abbrev fk206 : Hk.Fr → Bool := fun K => decide (PySem.W.findIn K (.ref 267) "_places" = some none)
abbrev fk207 : Hk.Fr → Bool := fun K => decide (PySem.W.findIn K (.ref 267) "_cases" = some none)
abbrev fk208 : Hk.Fr → Bool := fun K => PySem.W.plainGet K 302 Str.empty
abbrev fk209 : Hk.Fr → Bool := fun K => PySem.W.hasDictIn K 302
abbrev fk210 : Hk.Fr → Bool := fun K => PySem.W.plainOver K 302
abbrev fk211 : Hk.Fr → Bool := fun K => decide (PySem.W.findIn K (.ref 302) "__setattr__" = some (some (.builtin "object.__setattr__")))
abbrev fk212 : Hk.Fr → Bool := fun K => PySem.W.makesIn K 302
abbrev fk213 : Hk.Fr → Bool := fun K => PySem.W.keepIn K (.ref 302)
abbrev fk214 : Hk.Fr → Bool := fun K => decide (PySem.W.findIn K (.ref 302) "size" = some none)
abbrev fk215 : Hk.Fr → Bool := fun K => decide (PySem.W.findIn K (.ref 302) "_pairs" = some none)
abbrev fk216 : Hk.Fr → Bool := fun K => decide (PySem.W.findIn K (.ref 302) "_place" = some none)
abbrev fk217 : Hk.Fr → Bool := fun K => decide (PySem.W.findIn K (.ref 302) "_cuts" = some none)
abbrev fk218 : Hk.Fr → Bool := fun K => decide (PySem.W.findIn K (.ref 302) "_places" = some none)
abbrev fk219 : Hk.Fr → Bool := fun K => decide (PySem.W.findIn K (.ref 302) "_cases" = some none)
abbrev fk220 : Hk.Fr → Bool := fun K => PySem.W.plainGet K 333 Str.empty
abbrev fk221 : Hk.Fr → Bool := fun K => PySem.W.hasDictIn K 333
abbrev fk222 : Hk.Fr → Bool := fun K => PySem.W.plainOver K 333
abbrev fk223 : Hk.Fr → Bool := fun K => decide (PySem.W.findIn K (.ref 333) "__setattr__" = some (some (.builtin "object.__setattr__")))
abbrev fk224 : Hk.Fr → Bool := fun K => PySem.W.makesIn K 333
abbrev fk225 : Hk.Fr → Bool := fun K => PySem.W.keepIn K (.ref 333)
abbrev fk226 : Hk.Fr → Bool := fun K => decide (PySem.W.findIn K (.ref 333) "size" = some none)
abbrev fk227 : Hk.Fr → Bool := fun K => decide (PySem.W.findIn K (.ref 333) "_pairs" = some none)
abbrev fk228 : Hk.Fr → Bool := fun K => decide (PySem.W.findIn K (.ref 333) "_place" = some none)
abbrev fk229 : Hk.Fr → Bool := fun K => decide (PySem.W.findIn K (.ref 333) "_cuts" = some none)
abbrev fk230 : Hk.Fr → Bool := fun K => decide (PySem.W.findIn K (.ref 333) "_places" = some none)
abbrev fk231 : Hk.Fr → Bool := fun K => decide (PySem.W.findIn K (.ref 333) "_cases" = some none)
abbrev fk232 : Hk.Fr → Bool := fun K => PySem.W.fnIn K 150
abbrev fk233 : Hk.Fr → Bool := fun K => decide (PySem.W.findIn K (.ref 236) "answer" = some (some (.ref 162)))
abbrev fk234 : Hk.Fr → Bool := fun K => decide (PySem.W.findIn K (.ref 236) "__and__" = some (some (.ref 200)))
abbrev fk235 : Hk.Fr → Bool := fun K => decide (PySem.W.typeIn K (.ref 236) = some (.type "type"))
abbrev fk236 : Hk.Fr → Bool := fun K => Hk.nmB "AllWithin" 236 K
abbrev fk237 : Hk.Fr → Bool := fun K => decide (PySem.W.findIn K (.ref 267) "answer" = some (some (.ref 162)))
abbrev fk238 : Hk.Fr → Bool := fun K => decide (PySem.W.findIn K (.ref 267) "__and__" = some (some (.ref 200)))
abbrev fk239 : Hk.Fr → Bool := fun K => decide (PySem.W.typeIn K (.ref 267) = some (.type "type"))
abbrev fk240 : Hk.Fr → Bool := fun K => Hk.nmB "SomeWithin" 267 K
abbrev fk241 : Hk.Fr → Bool := fun K => decide (PySem.W.findIn K (.ref 302) "answer" = some (some (.ref 162)))
abbrev fk242 : Hk.Fr → Bool := fun K => decide (PySem.W.findIn K (.ref 302) "__and__" = some (some (.ref 200)))
abbrev fk243 : Hk.Fr → Bool := fun K => decide (PySem.W.typeIn K (.ref 302) = some (.type "type"))
abbrev fk244 : Hk.Fr → Bool := fun K => Hk.nmB "Band" 302 K
abbrev fk245 : Hk.Fr → Bool := fun K => decide (PySem.W.findIn K (.ref 333) "answer" = some (some (.ref 162)))
abbrev fk246 : Hk.Fr → Bool := fun K => decide (PySem.W.findIn K (.ref 333) "__and__" = some (some (.ref 200)))
abbrev fk247 : Hk.Fr → Bool := fun K => decide (PySem.W.typeIn K (.ref 333) = some (.type "type"))
abbrev fk248 : Hk.Fr → Bool := fun K => Hk.nmB "Both" 333 K
abbrev fk249 : Hk.Fr → Bool := fun K => PySem.W.selfFirst K 203
abbrev fk250 : Hk.Fr → Bool := fun K => decide (PySem.W.findIn K (.ref 203) "__rand__" = some none)
abbrev fk251 : Hk.Fr → Bool := fun K => PySem.W.selfFirst K 236
abbrev fk252 : Hk.Fr → Bool := fun K => decide (PySem.W.findIn K (.ref 236) "__rand__" = some none)
abbrev fk253 : Hk.Fr → Bool := fun K => PySem.W.selfFirst K 267
abbrev fk254 : Hk.Fr → Bool := fun K => decide (PySem.W.findIn K (.ref 267) "__rand__" = some none)
abbrev fk255 : Hk.Fr → Bool := fun K => PySem.W.selfFirst K 302
abbrev fk256 : Hk.Fr → Bool := fun K => decide (PySem.W.findIn K (.ref 302) "__rand__" = some none)
abbrev fk257 : Hk.Fr → Bool := fun K => PySem.W.selfFirst K 333
abbrev fk258 : Hk.Fr → Bool := fun K => decide (PySem.W.findIn K (.ref 333) "__rand__" = some none)
abbrev fk259 : Hk.Fr → Bool := fun K => decide (PySem.W.subIn K (.ref 236) (.ref 203) = some true)
abbrev fk260 : Hk.Fr → Bool := fun K => decide ((203 : Addr) ≠ 236)
abbrev fk261 : Hk.Fr → Bool := fun K => decide (PySem.W.subIn K (.ref 267) (.ref 203) = some true)
abbrev fk262 : Hk.Fr → Bool := fun K => decide ((203 : Addr) ≠ 267)
abbrev fk263 : Hk.Fr → Bool := fun K => decide (PySem.W.subIn K (.ref 302) (.ref 203) = some true)
abbrev fk264 : Hk.Fr → Bool := fun K => decide ((203 : Addr) ≠ 302)
abbrev fk265 : Hk.Fr → Bool := fun K => decide (PySem.W.subIn K (.ref 333) (.ref 203) = some true)
abbrev fk266 : Hk.Fr → Bool := fun K => decide ((203 : Addr) ≠ 333)
abbrev fk267 : Hk.Fr → Bool := fun K => decide (PySem.W.subIn K (.ref 203) (.ref 236) = some false)
abbrev fk268 : Hk.Fr → Bool := fun K => decide (PySem.W.subIn K (.ref 267) (.ref 236) = some false)
abbrev fk269 : Hk.Fr → Bool := fun K => decide ((236 : Addr) ≠ 267)
abbrev fk270 : Hk.Fr → Bool := fun K => decide (PySem.W.subIn K (.ref 302) (.ref 236) = some false)
abbrev fk271 : Hk.Fr → Bool := fun K => decide ((236 : Addr) ≠ 302)
abbrev fk272 : Hk.Fr → Bool := fun K => decide (PySem.W.subIn K (.ref 333) (.ref 236) = some false)
abbrev fk273 : Hk.Fr → Bool := fun K => decide ((236 : Addr) ≠ 333)
abbrev fk274 : Hk.Fr → Bool := fun K => decide (PySem.W.subIn K (.ref 203) (.ref 267) = some false)
abbrev fk275 : Hk.Fr → Bool := fun K => decide (PySem.W.subIn K (.ref 236) (.ref 267) = some false)
abbrev fk276 : Hk.Fr → Bool := fun K => decide (PySem.W.subIn K (.ref 302) (.ref 267) = some false)
abbrev fk277 : Hk.Fr → Bool := fun K => decide ((267 : Addr) ≠ 302)
abbrev fk278 : Hk.Fr → Bool := fun K => decide (PySem.W.subIn K (.ref 333) (.ref 267) = some false)
abbrev fk279 : Hk.Fr → Bool := fun K => decide ((267 : Addr) ≠ 333)
abbrev fk280 : Hk.Fr → Bool := fun K => decide (PySem.W.subIn K (.ref 203) (.ref 302) = some false)
abbrev fk281 : Hk.Fr → Bool := fun K => decide (PySem.W.subIn K (.ref 236) (.ref 302) = some false)
abbrev fk282 : Hk.Fr → Bool := fun K => decide (PySem.W.subIn K (.ref 267) (.ref 302) = some false)
abbrev fk283 : Hk.Fr → Bool := fun K => decide (PySem.W.subIn K (.ref 333) (.ref 302) = some false)
abbrev fk284 : Hk.Fr → Bool := fun K => decide ((302 : Addr) ≠ 333)
abbrev fk285 : Hk.Fr → Bool := fun K => decide (PySem.W.subIn K (.ref 203) (.ref 333) = some false)
abbrev fk286 : Hk.Fr → Bool := fun K => decide (PySem.W.subIn K (.ref 236) (.ref 333) = some false)
abbrev fk287 : Hk.Fr → Bool := fun K => decide (PySem.W.subIn K (.ref 267) (.ref 333) = some false)
abbrev fk288 : Hk.Fr → Bool := fun K => decide (PySem.W.subIn K (.ref 302) (.ref 333) = some false)
abbrev fk289 : Hk.Fr → Bool := fun K => decide (PySem.W.findIn K (.type "type") "__getattribute__" = some (some (.builtin "type.__getattribute__")))
abbrev fk290 : Hk.Fr → Bool := fun K => decide (PySem.W.findIn K (.type "type") "__getattr__" = some none)
abbrev fk291 : Hk.Fr → Bool := fun K => decide (PySem.W.subIn K (.type "type") (.type "type") = some true)
abbrev fk292 : Hk.Fr → Bool := fun K => decide (PySem.W.findIn K (.type "type") "__rand__" = some none)
abbrev fk293 : Hk.Fr → Bool := fun K => decide (PySem.W.findIn K (.ref 236) "__init__" = some (some (.ref 223)))
abbrev fk294 : Hk.Fr → Bool := fun K => PySem.W.isFn K (.ref 223)
abbrev fk295 : Hk.Fr → Bool := fun K => decide (PySem.W.mroIn K 236 (.ref 236) = some true)
abbrev fk296 : Hk.Fr → Bool := fun K => decide (PySem.W.ks_superIn K 236 236 "__init__" = some (some (.ref 150)))
abbrev fk297 : Hk.Fr → Bool := fun K => decide (PySem.W.findIn K (.ref 267) "__init__" = some (some (.ref 254)))
abbrev fk298 : Hk.Fr → Bool := fun K => PySem.W.isFn K (.ref 254)
abbrev fk299 : Hk.Fr → Bool := fun K => decide (PySem.W.mroIn K 267 (.ref 267) = some true)
abbrev fk300 : Hk.Fr → Bool := fun K => decide (PySem.W.ks_superIn K 267 267 "__init__" = some (some (.ref 150)))
abbrev fk301 : Hk.Fr → Bool := fun K => decide (PySem.W.findIn K (.ref 302) "__init__" = some (some (.ref 285)))
abbrev fk302 : Hk.Fr → Bool := fun K => PySem.W.isFn K (.ref 285)
abbrev fk303 : Hk.Fr → Bool := fun K => decide (PySem.W.mroIn K 302 (.ref 302) = some true)
abbrev fk304 : Hk.Fr → Bool := fun K => decide (PySem.W.ks_superIn K 302 302 "__init__" = some (some (.ref 150)))
abbrev fk305 : Hk.Fr → Bool := fun K => decide (PySem.W.findIn K (.ref 333) "__init__" = some (some (.ref 318)))
abbrev fk306 : Hk.Fr → Bool := fun K => PySem.W.isFn K (.ref 318)
abbrev fk307 : Hk.Fr → Bool := fun K => decide (PySem.W.mroIn K 333 (.ref 333) = some true)
abbrev fk308 : Hk.Fr → Bool := fun K => decide (PySem.W.ks_superIn K 333 333 "__init__" = some (some (.ref 150)))
abbrev fk309 : Hk.Fr → Bool := fun K => decide (PySem.W.findIn K (.ref 203) "__class__" = some (some (.builtin "object.__class__")))
abbrev fk310 : Hk.Fr → Bool := fun K => decide (PySem.W.mroIn K 203 (.type "object") = some true)
abbrev fk311 : Hk.Fr → Bool := fun K => decide (PySem.W.kitOne K (.ref 203) (.ref 203) = some true)
abbrev fk312 : Hk.Fr → Bool := fun K => decide (PySem.W.findIn K (.ref 236) "__class__" = some (some (.builtin "object.__class__")))
abbrev fk313 : Hk.Fr → Bool := fun K => decide (PySem.W.mroIn K 236 (.type "object") = some true)
abbrev fk314 : Hk.Fr → Bool := fun K => decide (PySem.W.kitOne K (.ref 236) (.ref 203) = some true)
abbrev fk315 : Hk.Fr → Bool := fun K => decide (PySem.W.findIn K (.ref 267) "__class__" = some (some (.builtin "object.__class__")))
abbrev fk316 : Hk.Fr → Bool := fun K => decide (PySem.W.mroIn K 267 (.type "object") = some true)
abbrev fk317 : Hk.Fr → Bool := fun K => decide (PySem.W.kitOne K (.ref 267) (.ref 203) = some true)
abbrev fk318 : Hk.Fr → Bool := fun K => decide (PySem.W.findIn K (.ref 302) "__class__" = some (some (.builtin "object.__class__")))
abbrev fk319 : Hk.Fr → Bool := fun K => decide (PySem.W.mroIn K 302 (.type "object") = some true)
abbrev fk320 : Hk.Fr → Bool := fun K => decide (PySem.W.kitOne K (.ref 302) (.ref 203) = some true)
abbrev fk321 : Hk.Fr → Bool := fun K => decide (PySem.W.findIn K (.ref 333) "__class__" = some (some (.builtin "object.__class__")))
abbrev fk322 : Hk.Fr → Bool := fun K => decide (PySem.W.mroIn K 333 (.type "object") = some true)
abbrev fk323 : Hk.Fr → Bool := fun K => decide (PySem.W.kitOne K (.ref 333) (.ref 203) = some true)
def asH0 : List Addr := [2,
  3,
  31,
  53,
  74,
  131,
  203,
  236,
  267,
  302,
  333,
  340,
  347,
  354,
  361,
  368,
  375,
  382,
  389,
  396,
  406,
  411,
  418,
  423,
  30,
  52,
  73,
  130,
  202,
  235,
  266,
  301,
  332,
  339,
  346,
  353,
  360,
  367,
  374,
  381]
def asH1 : List Addr := [388,
  395,
  405,
  410,
  417,
  422,
  50,
  71,
  90,
  107,
  114,
  150,
  157,
  162,
  169,
  200,
  223,
  228,
  233,
  254,
  259,
  264,
  285,
  292,
  299,
  318,
  323,
  330,
  49,
  38,
  70,
  59,
  89,
  106,
  113,
  149,
  143,
  156,
  161,
  168]
def asH2 : List Addr := [199,
  222,
  211,
  227,
  232,
  253,
  242,
  258,
  263,
  284,
  273,
  291,
  298,
  317,
  308,
  322,
  329]
def asH : List Addr := asH0 ++ asH1 ++ asH2
def fx0 : List (Hk.Fr → Bool) := [fk0,
  fk1,
  fk2,
  fk3,
  fk4,
  fk5,
  fk6,
  fk7,
  fk8,
  fk9,
  fk10,
  fk11,
  fk12,
  fk13,
  fk14,
  fk15,
  fk16,
  fk17,
  fk18,
  fk19,
  fk20,
  fk21,
  fk22,
  fk23,
  fk24,
  fk25,
  fk26,
  fk27,
  fk28,
  fk29,
  fk30,
  fk31,
  fk32,
  fk33,
  fk34,
  fk35,
  fk36,
  fk37,
  fk38,
  fk39]
def fx1 : List (Hk.Fr → Bool) := [fk40,
  fk41,
  fk42,
  fk43,
  fk44,
  fk45,
  fk46,
  fk47,
  fk48,
  fk49,
  fk50,
  fk51,
  fk52,
  fk53,
  fk54,
  fk55,
  fk56,
  fk57,
  fk58,
  fk59,
  fk60,
  fk61,
  fk62,
  fk63,
  fk64,
  fk65,
  fk66,
  fk67,
  fk68,
  fk69,
  fk70,
  fk71,
  fk72,
  fk73,
  fk74,
  fk75,
  fk76,
  fk77,
  fk78,
  fk79]
def fx2 : List (Hk.Fr → Bool) := [fk80,
  fk81,
  fk82,
  fk83,
  fk84,
  fk85,
  fk86,
  fk87,
  fk88,
  fk89,
  fk90,
  fk91,
  fk92,
  fk93,
  fk94,
  fk95,
  fk96,
  fk97,
  fk98,
  fk99,
  fk100,
  fk101,
  fk102,
  fk103,
  fk104,
  fk105,
  fk106,
  fk107,
  fk108,
  fk109,
  fk110,
  fk111,
  fk112,
  fk113,
  fk114,
  fk115,
  fk116,
  fk117,
  fk118,
  fk119]
def fx3 : List (Hk.Fr → Bool) := [fk120,
  fk121,
  fk122,
  fk123,
  fk124,
  fk125,
  fk126,
  fk127,
  fk128,
  fk129,
  fk130,
  fk131,
  fk132,
  fk133,
  fk134,
  fk135,
  fk136,
  fk137,
  fk138,
  fk139,
  fk140,
  fk141,
  fk142,
  fk143,
  fk144,
  fk145,
  fk146,
  fk147,
  fk148,
  fk149,
  fk150,
  fk151,
  fk152,
  fk153,
  fk154,
  fk155,
  fk156,
  fk157,
  fk158,
  fk159]
def fx4 : List (Hk.Fr → Bool) := [fk160,
  fk161,
  fk162,
  fk163,
  fk164,
  fk165,
  fk166,
  fk167,
  fk168,
  fk169,
  fk170,
  fk171,
  fk172,
  fk173,
  fk174,
  fk175,
  fk176,
  fk177,
  fk178,
  fk179,
  fk180,
  fk181,
  fk182,
  fk183,
  fk184,
  fk185,
  fk186,
  fk187,
  fk188,
  fk189,
  fk190,
  fk191,
  fk192,
  fk193,
  fk194,
  fk195,
  fk196,
  fk197,
  fk198,
  fk199]
def fx5 : List (Hk.Fr → Bool) := [fk200,
  fk201,
  fk202,
  fk203,
  fk204,
  fk205,
  fk206,
  fk207,
  fk208,
  fk209,
  fk210,
  fk211,
  fk212,
  fk213,
  fk214,
  fk215,
  fk216,
  fk217,
  fk218,
  fk219,
  fk220,
  fk221,
  fk222,
  fk223,
  fk224,
  fk225,
  fk226,
  fk227,
  fk228,
  fk229,
  fk230,
  fk231,
  fk232,
  fk233,
  fk234,
  fk235,
  fk236,
  fk237,
  fk238,
  fk239]
def fx6 : List (Hk.Fr → Bool) := [fk240,
  fk241,
  fk242,
  fk243,
  fk244,
  fk245,
  fk246,
  fk247,
  fk248,
  fk249,
  fk250,
  fk251,
  fk252,
  fk253,
  fk254,
  fk255,
  fk256,
  fk257,
  fk258,
  fk259,
  fk260,
  fk261,
  fk262,
  fk263,
  fk264,
  fk265,
  fk266,
  fk267,
  fk268,
  fk269,
  fk270,
  fk271,
  fk272,
  fk273,
  fk274,
  fk275,
  fk276,
  fk277,
  fk278,
  fk279]
def fx7 : List (Hk.Fr → Bool) := [fk280,
  fk281,
  fk282,
  fk283,
  fk284,
  fk285,
  fk286,
  fk287,
  fk288,
  fk289,
  fk290,
  fk291,
  fk292,
  fk293,
  fk294,
  fk295,
  fk296,
  fk297,
  fk298,
  fk299,
  fk300,
  fk301,
  fk302,
  fk303,
  fk304,
  fk305,
  fk306,
  fk307,
  fk308,
  fk309,
  fk310,
  fk311,
  fk312,
  fk313,
  fk314,
  fk315,
  fk316,
  fk317,
  fk318,
  fk319]
def fx8 : List (Hk.Fr → Bool) := [fk320,
  fk321,
  fk322,
  fk323]
def fx : List (Hk.Fr → Bool) := fx0 ++ fx1 ++ fx2 ++ fx3 ++ fx4 ++ fx5 ++ fx6 ++ fx7 ++ fx8
def fn0 : List Hk.Df := [⟨90, "__init__", "Trial.__init__", (inClass (tp 6) 0), []⟩,
  ⟨107, "agrees", "Trial.agrees", (inClass (tp 6) 2), []⟩,
  ⟨114, "__invert__", "Trial.__invert__", (inClass (tp 6) 3), []⟩,
  ⟨150, "__init__", "Wish.__init__", (inClass (tp 8) 0), []⟩,
  ⟨157, "cases", "Wish.cases", (inClass (tp 8) 1), []⟩,
  ⟨162, "answer", "Wish.answer", (inClass (tp 8) 2), []⟩,
  ⟨169, "places", "Wish.places", (inClass (tp 8) 3), []⟩,
  ⟨200, "__and__", "Wish.__and__", (inClass (tp 8) 7), []⟩,
  ⟨228, "cases", "AllWithin.cases", (inClass (tp 9) 1), []⟩,
  ⟨233, "places", "AllWithin.places", (inClass (tp 9) 2), []⟩,
  ⟨259, "cases", "SomeWithin.cases", (inClass (tp 10) 1), []⟩,
  ⟨264, "places", "SomeWithin.places", (inClass (tp 10) 2), []⟩,
  ⟨292, "cases", "Band.cases", (inClass (tp 11) 1), []⟩,
  ⟨299, "places", "Band.places", (inClass (tp 11) 2), []⟩,
  ⟨323, "cases", "Both.cases", (inClass (tp 12) 1), []⟩,
  ⟨330, "places", "Both.places", (inClass (tp 12) 2), []⟩,
  ⟨340, "_law_box", "_law_box", (tp 14), []⟩,
  ⟨347, "_law_take", "_law_take", (tp 15), []⟩,
  ⟨354, "_law_number", "_law_number", (tp 16), []⟩,
  ⟨361, "_law_pairs", "_law_pairs", (tp 17), []⟩,
  ⟨368, "_law_many", "_law_many", (tp 18), []⟩,
  ⟨375, "_law_band", "_law_band", (tp 19), []⟩,
  ⟨382, "_law_single", "_law_single", (tp 20), []⟩,
  ⟨389, "_law_wish", "_law_wish", (tp 21), []⟩,
  ⟨396, "_law_size", "_law_size", (tp 22), []⟩,
  ⟨406, "_law_cases", "_law_cases", (tp 24), []⟩,
  ⟨411, "_law_same", "_law_same", (tp 25), []⟩,
  ⟨418, "_law_eight", "_law_eight", (tp 26), []⟩,
  ⟨423, "law", "law", (tp 27), []⟩,
  ⟨50, "__init__", "BadNumber.__init__", (inClass (tp 3) 0), ["__class__"]⟩,
  ⟨71, "__init__", "NoPlace.__init__", (inClass (tp 4) 0), ["__class__"]⟩,
  ⟨223, "__init__", "AllWithin.__init__", (inClass (tp 9) 0), ["__class__"]⟩,
  ⟨254, "__init__", "SomeWithin.__init__", (inClass (tp 10) 0), ["__class__"]⟩,
  ⟨285, "__init__", "Band.__init__", (inClass (tp 11) 0), ["__class__"]⟩,
  ⟨318, "__init__", "Both.__init__", (inClass (tp 12) 0), ["__class__"]⟩]
def fn : List Hk.Df := fn0
def nmsH0 : List Str := ["_wall",
  "LadderError",
  "BadNumber",
  "NoPlace",
  "Trial",
  "Wish",
  "AllWithin",
  "SomeWithin",
  "Band",
  "Both",
  "_law_box",
  "_law_take",
  "_law_number",
  "_law_pairs",
  "_law_many",
  "_law_band",
  "_law_single",
  "_law_wish",
  "_law_size",
  "_law_answer",
  "_law_cases",
  "_law_same",
  "_law_eight"]
def nmsH : List Str := nmsH0
end HkE
namespace HkRun
open PySem PySem.W PySem.Calls PyProof.Rows
abbrev R : OpenRow := OpenLaw.row PySem.Challenge.rw_rungbounds_k37_cases_of_wishes
abbrev qv : Program := view R.prog [27]
abbrev hk : Hook := Hk.hookK HkE.asH HkE.fx HkE.fn
def ob (s : SharedT) : Hk.Ob := Hk.obK HkE.asH HkE.fx HkE.fn (HandSHeadRun.getT s)
theorem ob_eq (s : SharedT) : ob s = hk.obs s.abs := Hk.obK_eq (HandSHeadRun.getT_eq s)
set_option maxHeartbeats 0 in
theorem run (w : World) : HandSHeadRun.RunEq R qv hk ob 9000 HkE.nmsH w := by
  intro os
  kernel_rfl
end HkRun

/-! Errors whose making calls super().__init__ on a text, then keeps a field. -/
namespace Sup
open PySem PySem.Spec PyProof.Rows L2 NdefX

abbrev mwrap (x : Addr) : Obj := PySem.W.kxs_mw "ValueError.__init__" x

/-- the wrapper of ValueError.__init__ bound to a, called -/
theorem call_wrap {prog : Program} {w : World} {A : Around} {E : Value → Shared → Prop} {h : Heap} {g : Array GenState} {d : Drawn} {t : Nat} {os : OsState}
    {nm q : Str} {C N : Addr} {bs bm : List Value} {hd : Bool} {sn : List Str} {sub : List Value} {ab : Bool} {col : Option Bool} {dd : Option Addr} {k0 k1 k2 k3 k5 : Option Value}
    {u a t0 : Addr} {us : List Value} {Q : Value → Shared → Prop}
    (hC : h.get? C = some (excClassObj nm q C N bs bm hd sn sub ab col dd k0 k1 k2 k3 k5 "ValueError.__new__"))
    (ha : h.get? a = some (PySem.HandSPX.excO C t0)) (hu : h.get? u = some (mwrap a)) (hl : us.length ≤ sizeLine)
    (hq : ∀ h' t1, (∀ b o, b ≠ a → h.get? b = some o → h'.get? b = some o) → h'.get? a = some (PySem.HandSPX.excO C t1) → Q .none ⟨h', g, d, t, os⟩) :
    wpAny (model prog w) A (call (.ref u) us) Q E ⟨h, g, d, t, os⟩ := by
  have FB := F.excBase_ValueError
  refine wpAny_call (codeAny_of_tree ?_)
  show wpAny _ A.in1 (callAny (.ref u) ⟨us, []⟩) _ _ _
  unfold callAny
  refine wpAny_bind (wpAny_load hu ?_)
  have k1' : (Value.type "method-wrapper" == Value.type "method" || Value.type "method-wrapper" == Value.type "builtin_function_or_method" || Value.type "method-wrapper" == Value.type "method-wrapper") = true := by decide
  simp only [mwrap, PySem.W.kxs_mw, k1', if_true]
  refine PySem.W.KFB.if_so (by decide) ?_
  refine wpAny_bind (PySem.W.check_bound_init FB.toExcCallFacts hC ha rfl ?_)
  refine wpAny_bind (wpAny_pure (wpAny_pure ?_))
  refine ⟨plainId_quiet FB.init.plain _, codeAny_builtin FB.initEntry ?_⟩
  exact PySem.W.exc_init_tree (cls := .ref C) (t0 := t0) (dv := none) (c2 := .none) (c3 := .none) (b4 := .bool false) ha hl fun h' k e _ => hq h' _ k e

/-- what the written part says of an own error's class at C and its __init__ at f -/
structure ErrTxt (P : Program) (K : PySem.W.Frag) (mg : Str → Option Value) (C f cda cc : Addr) (qual : Str) (st : Stmt) : Prop where
  oex : OexC K C
  iC : PySem.W.findIn K (.ref C) "__init__" = some (some (.ref f))
  tI : PySem.W.typeIn K (.ref f) = some (.type "function")
  fn : ∃ (oc : Value) (od an : Option Addr) (kV doc pm ct : Value) (osl : Array (Option Value)),
    K.lookup f = some ⟨oc, od, .func (PySem.W.fnX "__init__" qual (defArgs st) (defBody st) (defScope st) [("__class__", cc)] .none kV doc pm an (.ref cda) ct), osl⟩
  code : PySem.W.codeIn K (.ref cda) qual = true
  file : ∃ (o : Obj) (vs : Array Value) (fl : Str) (tf : Tok), K.lookup cda = some o ∧ o.data = .fields vs ∧ vs[2]? = some (.str fl tf) ∧ ((P.main.file : Str) == fl) = true
  cell : ∃ (o : Obj), K.lookup cc = some o ∧ o.data = .cell (some (.ref C))
  self : PySem.W.mroIn K C (.ref C) = some true
  opaque_ : PySem.W.nsIn K cStatics "thirdparty.any" = some none
  up : PySem.W.ks_superIn K C C "__init__" = some (some (.builtin "ValueError.__init__"))
  isVE : PySem.W.subIn K (.ref C) (.type "ValueError") = some true
  top : (P.main.scope.names.lookup ("super" : Str)).isSome = false
  noSup : mg "super" = none

section
variable {X : Cx} {pins : List (Addr × Obj)} {σ : L2.St} {H : Hp} {s : Shared} {a C f cda cc : Addr} {qual : Str} {st : Stmt} {e : Expr} {te : TE} {body : List Stmt} {p0 p1 p2 p3 : Pos} {Q : Hp → Prop} {scope : Scope} {ar : Arg}
theorem super_init (T : ErrTxt X.prog X.K X.mg C f cda cc qual st) (I : Inv X pins σ H s)
    (henv : X.env = PySem.W.envX qual scope X.env.locals f (.ref cda) [("__class__", cc)])
    (hks : scope.names.lookup ("super" : Str) = some .globalImplicit) (hkc : scope.names.lookup ("__class__" : Str) = some .free)
    (hks' : scope.names.lookup ar.arg = some .local)
    (har : ((defArgs st).posonlyargs ++ (defArgs st).args).head? = some ar)
    (h0 : X.N[0]? = some ar.arg) (hs0 : σ[0]? = some (some (V.ref a))) (ha : H a = some (exo a C none))
    (he : PE X e te) (hq : te σ H fun x H1 => [x].length ≤ 1 ∧ H1 a = some (exo a C none) ∧ Q H1) {pl : Sem Bool}
    (hform : eval (.Call (.Attribute (.Call (.Name "super" p0) [] [] p1) "__init__" p2) [e] [] p3) X.env = (do
      let ov ← attributeBase (.Call (.Name "super" p0) [] [] p1) "__init__" X.env (eval (.Call (.Name "super" p0) [] [] p1) X.env)
      standAt p2.atName
      let (g, first) ← holding [ov] (getMethod ov "__init__" pl)
      callWith p3 g first (backTo p3 (starEach [e] X.env)) []) := by rfl)
    (hse : starEach [e] X.env = (false, eval e X.env) :: starEach [] X.env := by rfl) :
    _root_.PySem.wpAt (model X.prog X.w) X.A (.func body X.env) (eval (.Call (.Attribute (.Call (.Name "super" p0) [] [] p1) "__init__" p2) [e] [] p3) X.env)
      (fun _ s' => ∃ H', Inv X pins σ H' s' ∧ Q H') X.xe s := by
  have kS : X.env.kindOf "super" = some .globalImplicit := by rw [henv]; exact hks
  have kC : X.env.kindOf "__class__" = some .free := by rw [henv]; exact hkc
  have kA : X.env.kindOf ar.arg = some .local := by rw [henv]; exact hks'
  have cL : X.env.cells.lookup ("__class__" : Str) = some cc := by rw [henv]; rfl
  have fL : X.env.func = some f := by rw [henv]
  have dL : X.env.code = .ref cda := by rw [henv]
  obtain ⟨nm, q, N, bs, bm, sn, sub, ab, col, dd, k0, k1, k2, k3, k5, hC, hbm⟩ := T.oex.cls
  have hcl : PySem.W.clsIn X.K C = some { name := nm, bases := bs, mro := .ref C :: bm, ns := N, qualname := q, hasDict := true, slotNames := sn, subclasses := sub, abstract := ab, collection := col, hasDel := false } := by
    unfold PySem.W.clsIn; rw [hC] <;> rfl
  obtain ⟨oc, od, an, kV, doc, pm, ct, osl, lf⟩ := T.fn
  obtain ⟨oF, vs, fl, tf, lc, hvf, hv2, hfl⟩ := T.file
  obtain ⟨oc2, lcell, dcell⟩ := T.cell
  obtain ⟨t1, hga⟩ := exo_at I.hok ha
  refine ks_wpAt_MethodCall (o := .Call (.Name "super" p0) [] [] p1) (name := "__init__") (apos := p2) (pos := p3) (args := [e]) (env := X.env) ?_ hform
  refine ks_wpAt_super_base (env := X.env) (cc := cda) (ar := ar) kS kC (by decide) fL (I.kIn _ _ lf) rfl har dL (I.kIn _ _ lc) hvf hv2 hfl T.top ?_
  -- the name super
  obtain ⟨mb, hb1, hb2⟩ := I.mod.blt
  refine PySem.W.ks_loadName_global I.ok.kind kS (Calls.loadGlobal_builtin (v := .type "super") (by rw [I.ok.glob]; exact I.mod.glob.keeps I.bk) T.noSup
    (by rw [I.ok.blt]; exact hb1.keeps I.bk) ((hb2 _ (by decide)).trans (by decide +kernel)) ⟨rfl, ?_⟩)
  -- the cell __class__
  refine wpAny_loadName_free I.ok.kind kC cL (v := .ref C) ⟨_, I.kIn _ _ lcell, dcell⟩ ?_
  -- self
  obtain ⟨m, hn, hlm⟩ := I.loc
  obtain ⟨u, ru, hlook⟩ := hlm 0 ar.arg (V.ref a) h0 hs0 (.inl (by rw [henv]; exact hks'))
  obtain rfl : u = Value.ref a := ru
  have hma : m ar.arg = some (Value.ref a) := by
    rcases hlook with ⟨_, z⟩ | ⟨z, _⟩
    · exact z
    · rw [kA] at z
      rcases z with z | z <;> cases z
  refine wpAny_loadName_local I.ok.kind kA hn hma ?_
  have gC := I.kIn _ _ hC
  refine ks_wpAny_isType_cls gC rfl ⟨rfl, ?_⟩
  obtain ⟨hp, g, d, t, os⟩ := s
  refine ks_wpAny_call_super gC rfl hga rfl (fun c z => by cases z) (PySem.W.looks_mroIn I.kIn T.self) fun h1 e1 k1 => ?_
  have J1 : Inv X pins σ H ⟨h1, g, d, t, os⟩ := I.kept (t' := t) k1
  have I1 : PySem.W.InstAt h1 a (PySem.HandSPX.excO C t1) C none := ⟨k1 _ _ hga, rfl, rfl, trivial⟩
  have hup := T.up
  unfold PySem.W.ks_superIn at hup
  rw [hcl] at hup
  refine PySem.W.kxs_getMethod PySem.W.kxs_ValueError e1 (PySem.W.looks_opaque J1.kIn T.opaque_)
    (fun A' Q' E' s' k q => wpAny_bind ((PySem.W.looks_clsIn J1.kIn hcl) A' _ E' s' k (wpAny_pure q))) rfl J1.kIn hup
    (I1.type.andThen (PySem.W.looks_subIn J1.kIn T.isVE)) (PySem.W.ks_ne J1.kIn I1 hcl) (by decide) ?_
  have gu : (h1.push (mwrap a)).get? h1.objs.size = some (mwrap a) := Heap.get?_push_at rfl rfl
  have J2 : Inv X pins σ H ⟨h1.push (mwrap a), g, d, t + 1, os⟩ := J1.kept (t' := t + 1) fun b o z => Heap.get?_push_of_some _ z
  have J3 : Inv X ((h1.objs.size, mwrap a) :: pins) σ H ⟨h1.push (mwrap a), g, d, t + 1, os⟩ := J2.pins_of fun p hp => by
    rcases List.mem_cons.mp hp with rfl | hp
    · refine ⟨gu, J1.hok.fresh (Nat.le_refl _), fun z => ?_, J1.nofs (Nat.le_refl _), fun v z => by cases z⟩
      have z' : h1.objs.size = X.env.locals := z
      have y := J1.lt
      rw [← z'] at y
      exact absurd y (Nat.lt_irrefl _)
    · exact J2.pin p (List.mem_append_right _ hp)
  show wpAny _ _ (callWith p3 (.ref h1.objs.size) [] (backTo p3 (starEach [e] X.env)) []) _ _ _
  have hq' : tCons te tNil σ H fun xs H1 => xs.length ≤ 1 ∧ H1 a = some (exo a C none) ∧ Q H1 := hq
  rw [hse]
  refine PySem.W.kxs_callWith (i := "ValueError.__init__") (x := a) (by rfl) ?_
  refine Calls.evalArgs_plain ?_
  have pr := (pa_cons he pa_nil hse).run p3 _ _ σ H _ J3 hq'
  rw [hse] at pr
  refine thn pr fun us s2 hh => ?_
  obtain ⟨xs, H2, I2, r2, hx1, ha2, hQ2⟩ := hh
  have gw := (I2.pin (h1.objs.size, mwrap a) (List.mem_append_right _ List.mem_cons_self)).1
  refine ⟨gw, ?_⟩
  obtain ⟨t2, hga2⟩ := exo_at I2.hok ha2
  obtain ⟨hp2, g2, d2, tk2, os2⟩ := s2
  have hul : us.length ≤ sizeLine := by
    rw [← r2.length, sizeLine_eq]
    omega
  refine call_wrap (us := us) (I2.kIn _ _ hC) hga2 gw hul fun h3 t3 k3' e3 => ?_
  have J4 := I2.write (t' := tk2) (x := a) (e := a) (o := exo a C none) (by rw [ha2]; exact True.intro) (.inl rfl) k3' ⟨_, e3⟩ (exo_ok e3)
  have eu : upd H2 a (exo a C none) = H2 := by
    funext b
    by_cases hb : b = a
    · rw [hb, upd_same, ha2]
    · exact upd_ne hb
  rw [eu] at J4
  exact ⟨H2, J4.pins_of fun p hp => J4.pin p (List.mem_append_right _ (List.mem_cons_of_mem _ hp)), hQ2⟩
end

/-! ### the making of an own error, as a promise -/
/-- at a an exception of the class at C is being made; the argument v goes to the field fl -/
def spErr (C : Addr) (fl : Str) (ok : V → Prop) : Sp := fun vs H Q _ => ∃ (a : Addr) (v : V), vs = [.ref a, v] ∧ H a = some (exo a C none) ∧ ok v ∧
  ∀ dx, H dx = none → dx ≠ a → Q .non (upd (upd H dx (exd dx [(fl, v)])) a (exo a C (some dx)))

def okInt : V → Prop := fun v => ∃ i : Int, v = .int i ∧ i.natAbs.log2 < 1920
def okTxt : V → Prop := fun v => ∃ y : Str, v = .str y ∧ (reprText y).length ≤ 10000

section
variable {P : Program} {w : World} {K : PySem.W.Frag} {mg : Str → Option Value} {base : Heap} {C f cda cc : Addr} {qual pn : Str} {st : Stmt} {N : List Str}

abbrev supNF (qual : Str) (st : Stmt) (cda cc : Addr) : NF := ⟨"__init__", qual, defArgs st, defBody st, defScope st, [("__class__", cc)], cda⟩

/-- a def that closes over __class__ alone, entered: its body runs in the frame of NdefX -/
theorem sup_fn {CX : CXT} {sp : Sp} {k : Nat} {ps : List Str} (T : ErrTxt P K mg C f cda cc qual st) (S : NScope N ps ["__class__"] (defScope st))
    (len : ∀ vs H Q E, sp vs H Q E → vs.length = ps.length)
    (hb : ∀ (oc : Value) (od an : Option Addr) (kV doc pm ct : Value) (us : List Value), us.length = ps.length →
      bindArgs (PySem.W.fnX "__init__" qual (defArgs st) (defBody st) (defScope st) [("__class__", cc)] .none kV doc pm an (.ref cda) ct) ⟨us, []⟩ = pure (ps.zip us))
    (hbody : ∀ (A : Around) (outer : List Env) (s : Shared) (H : Hp) (vs : List V) (Q : VK) (E : XK), sp vs H Q E → Room k (ncx CX P w K mg base N (supNF qual st cda cc) f A outer s H E).A →
      ∀ s1, L2.Inv (ncx CX P w K mg base N (supNF qual st cda cc) f A outer s H E) [] (startF N vs [none]) H s1 →
        _root_.PySem.wpAt (model P w) (ncx CX P w K mg base N (supNF qual st cda cc) f A outer s H E).A (.func (defBody st) (ncx CX P w K mg base N (supNF qual st cda cc) f A outer s H E).env)
          (execs (defBody st) (ncx CX P w K mg base N (supNF qual st cda cc) f A outer s H E).env)
          (SP (ncx CX P w K mg base N (supNF qual st cda cc) f A outer s H E) [] { nx := fun _ H' => Q .non H', rt := Q })
          (ncx CX P w K mg base N (supNF qual st cda cc) f A outer s H E).xe s1) :
    ∃ fd, FnOk P w K mg base CX (k + 1) f fd ps sp ∧ Binds K fd ps [] := by
  obtain ⟨oc, od, an, kV, doc, pm, ct, osl, lf⟩ := T.fn
  obtain ⟨oc2, lcell, dcell⟩ := T.cell
  refine ⟨_, ⟨len, fun A outer s H args us vs Q E hr e0 hbd r hsp => ?_⟩, Binds.all (hb oc od an kV doc pm ct)⟩
  have hl := len _ _ _ _ hsp
  have KX : K.In s.heap := e0.mod.kin.keeps fun b o e => (e0.bs b o e).1
  have lim : s.heap.NoLimit := e0.mod.nolimit.keeps fun b o e => (e0.bs b o e).1
  have hH : H cc = none := (e0.bs cc oc2 (e0.mod.kin _ _ lcell)).2
  have CA : CellsAt [("__class__", cc)] ["__class__"] [none] s.heap H := {
    len := rfl
    all := fun y c h => by
      have h' : (if y = ("__class__" : Str) then some cc else none) = some c := by
        by_cases e : y = ("__class__" : Str)
        · subst e; exact h
        · have q : (y == ("__class__" : Str)) = false := by simpa using e
          have z : List.lookup y [(("__class__" : Str), cc)] = none := by simp [List.lookup, q]
          rw [z] at h; cases h
      split at h'
      · cases h'
        exact ⟨hH, some (.ref C), oc2, KX _ _ lcell, dcell⟩
      · cases h'
    inj := fun x y c h1 h2 => by
      have key : ∀ z : Str, List.lookup z [(("__class__" : Str), cc)] = some c → z = "__class__" := fun z hz => by
        by_cases e : z = ("__class__" : Str)
        · exact e
        · have q : (z == ("__class__" : Str)) = false := by simpa using e
          have w : List.lookup z [(("__class__" : Str), cc)] = none := by simp [List.lookup, q]
          rw [w] at hz; cases hz
      exact (key x h1).trans (key y h2).symm
    has := fun i y h => by
      match i, h with
      | 0, h =>
        have e : ("__class__" : Str) = y := Option.some.inj h
        subst e
        exact ⟨cc, by simp [List.lookup], fun v z => by cases z⟩
      | i + 1, h => cases h }
  refine ks_codeAny_call_defAt (binds := ps.zip us) hr.depth (KX _ _ lf) rfl lim (PySem.W.codeRec_of KX T.code) rfl hbd S.nocell (fun ⟨n, _⟩ hy => S.par n (List.of_mem_zip hy).1) (fun h1 hns kp => ?_) S.co S.gen S.kind
  have I : L2.Inv (ncx CX P w K mg base N (supNF qual st cda cc) f A outer s H E) [] (startF N vs [none]) H { s with heap := h1, toks := s.toks + (ps.zip us).length } :=
    inv_startN S hr.hd e0 hl r CA hns kp
  refine _root_.PySem.wpAt_mono (hbody A outer s H vs Q E hsp (hr.deeper _) _ I) (fun fl s' hs => ?_) fun e s' hs => hs
  cases fl with
  | ret u =>
    obtain ⟨v, σ', H', J, rv, q⟩ := hs
    exact ⟨v, H', J.os, J.bare, J.base, J.hok, rv, q⟩
  | next =>
    obtain ⟨σ', H', J, q⟩ := hs
    exact ⟨V.non, H', J.os, J.bare, J.base, J.hok, rfl, q⟩
  | brk =>
    obtain ⟨_, _, _, q⟩ := hs
    exact False.elim q
  | cont =>
    obtain ⟨_, _, _, q⟩ := hs
    exact False.elim q
end

section
variable {P : Program} {w : World} {K : PySem.W.Frag} {mg : Str → Option Value} {base : Heap} {C f cda cc : Addr} {qual pn : Str} {st : Stmt} {N : List Str}

/-- the body: super().__init__(e), then one statement more -/
theorem two_run {X : Cx} {σ : L2.St} {H : Hp} {s : Shared} {a : Addr} {e : Expr} {te : TE} {t2 : TS} {st2 : Stmt} {body : List Stmt} {p0 p1 p2 p3 p4 : Pos} {scope : Scope} {ar : Arg} {D : Ends}
    (T : ErrTxt X.prog X.K X.mg C f cda cc qual st) (I : L2.Inv X [] σ H s)
    (henv : X.env = PySem.W.envX qual scope X.env.locals f (.ref cda) [("__class__", cc)])
    (hks : scope.names.lookup ("super" : Str) = some .globalImplicit) (hkc : scope.names.lookup ("__class__" : Str) = some .free)
    (hka : scope.names.lookup ar.arg = some .local)
    (har : ((defArgs st).posonlyargs ++ (defArgs st).args).head? = some ar)
    (h0 : X.N[0]? = some ar.arg) (hs0 : σ[0]? = some (some (V.ref a))) (ha : H a = some (exo a C none))
    (he : PE X e te) (h2 : PS X st2 t2) (hq : te σ H fun x H1 => [x].length ≤ 1 ∧ H1 a = some (exo a C none) ∧ t2 D σ H1) {pl : Sem Bool}
    (hform : eval (.Call (.Attribute (.Call (.Name "super" p0) [] [] p1) "__init__" p2) [e] [] p3) X.env = (do
      let ov ← attributeBase (.Call (.Name "super" p0) [] [] p1) "__init__" X.env (eval (.Call (.Name "super" p0) [] [] p1) X.env)
      standAt p2.atName
      let (g, first) ← holding [ov] (getMethod ov "__init__" pl)
      callWith p3 g first (backTo p3 (starEach [e] X.env)) []) := by rfl)
    (hse : starEach [e] X.env = (false, eval e X.env) :: starEach [] X.env := by rfl) (hi : interactive X.env = false := by rfl) :
    _root_.PySem.wpAt (model X.prog X.w) X.A (.func body X.env)
      (execs [.Expr (.Call (.Attribute (.Call (.Name "super" p0) [] [] p1) "__init__" p2) [e] [] p3) p4, st2] X.env) (SP X [] D) X.xe s := by
  refine ks_wpAt_execs_cons (ks_wpAt_Expr_any ?_ hi)
  refine _root_.PySem.wpAt_mono (super_init (Q := fun H1 => t2 D σ H1) T I henv hks hkc hka har h0 hs0 ha he hq hform hse) (fun v s' hh => ?_) fun _ _ z => z
  obtain ⟨H1, I1, q⟩ := hh
  exact _root_.PySem.wpAt_of_wpAny ((pss_one h2).run [] s' σ H1 D I1 q)

theorem form_of (env : Env) {p0 p1 p2 p3 q4 : Pos} {ps : List Expr} (hln : (p2.endLine == p3.line) = true) : eval (.Call (.Attribute (.Call (.Name "super" p0) [] [] p1) "__init__" p2) [.JoinedStr ps q4] [] p3) env = (do
      let ov ← attributeBase (.Call (.Name "super" p0) [] [] p1) "__init__" env (eval (.Call (.Name "super" p0) [] [] p1) env)
      standAt p2.atName
      let (g, first) ← holding [ov] (getMethod ov "__init__" (do return (← importBound (.Call (.Name "super" p0) [] [] p1) env).getD true))
      callWith p3 g first (backTo p3 (starEach [.JoinedStr ps q4] env)) []) := by
  have hp : methodCallPos true (.Call (.Name "super" p0) [] [] p1) env p2 p3 = pure p3 := by
    unfold methodCallPos
    rw [hln]
    rfl
  show (do
    let ov ← attributeBase (.Call (.Name "super" p0) [] [] p1) "__init__" env (eval (.Call (.Name "super" p0) [] [] p1) env)
    standAt p2.atName
    let (g, first) ← holding [ov] (getMethod ov "__init__" (do return (← importBound (.Call (.Name "super" p0) [] [] p1) env).getD true))
    let cp ← methodCallPos true (.Call (.Name "super" p0) [] [] p1) env p2 p3
    callWith cp g first (backTo p3 (starEach [.JoinedStr ps q4] env)) []) = _
  rw [hp]
  rfl
theorem lit_small {lit : Str} (hl : lit.length ≤ 1000) : (Str.empty ++ lit).length ≤ 1000 := by
  rw [Str.length_append]
  exact Nat.le_trans (Nat.le_of_eq (Nat.zero_add _)) hl
theorem err_int {lit : Str} {j : Nat} {q1 q2 q3 q4 p0 p1 p2 p3 p4 r1 r2 r3 r4 : Pos} {ar : Arg} (T : ErrTxt P K mg C f cda cc qual st)
    (hbd : defBody st = [.Expr (.Call (.Attribute (.Call (.Name "super" p0) [] [] p1) "__init__" p2) [.JoinedStr [.Constant (.str lit) j q1, .FormattedValue (.Name pn q2) (-1) none q3] q4] [] p3) p4,
      .Assign [.Attribute (.Name "self" r1) pn r2] (.Name pn r3) r4]) (hln : (p2.endLine == p3.line) = true)
    (S : NScope ["self", pn, "__class__"] ["self", pn] ["__class__"] (defScope st))
    (hb : ∀ (oc : Value) (od an : Option Addr) (kV doc pm ct : Value) (us : List Value), us.length = 2 →
      bindArgs (PySem.W.fnX "__init__" qual (defArgs st) (defBody st) (defScope st) [("__class__", cc)] .none kV doc pm an (.ref cda) ct) ⟨us, []⟩ = pure ((["self", pn] : List Str).zip us))
    (hks : (defScope st).names.lookup ("super" : Str) = some .globalImplicit)
    (har : ((defArgs st).posonlyargs ++ (defArgs st).args).head? = some ar) (har2 : ar.arg = "self")
    (hd1 : (pn == ("__debug__" : Str)) = false) (hd2 : (pn == ("__classdict__" : Str)) = false)
    (hlit : lit.length ≤ 1000) (hno : PySem.W.findIn K (.ref C) pn = some none) :
    ∃ fd, FnOk P w K mg base CX0 2 f fd ["self", pn] (spErr C pn okInt) ∧ Binds K fd ["self", pn] [] := by
  refine sup_fn T S (fun vs H Q E h => ?_) hb fun A outer s H vs Q E hsp hroom s1 I => ?_
  · obtain ⟨a, v, rfl, _⟩ := h
    rfl
  · obtain ⟨a, v, rfl, ha, ⟨i, rfl, hi⟩, hQ⟩ := hsp
    have vN : Vis (ncx CX0 P w K mg base ["self", pn, "__class__"] (supNF qual st cda cc) f A outer s H E).env.scope pn := .inl (S.par _ (by simp))
    have vS : Vis (ncx CX0 P w K mg base ["self", pn, "__class__"] (supNF qual st cda cc) f A outer s H E).env.scope "self" := .inl (S.par _ (by simp))
    rw [hbd]
    refine two_run (te := fun σ H Q => tJs [tC (.str lit), tFmt (tVar 1)] Str.empty σ H fun out H1 => Q (.str out) H1) T I rfl hks (S.frk _ (by simp)) (by rw [har2]; exact S.par _ (by simp)) har (by rw [har2]; rfl) rfl ha
      (pe_joined (.cons pe_str (.cons (pe_fmt (pe_var (i := 1) rfl vN hd1 hd2)) .nil)))
      (ps_ost (pe_var (i := 0) rfl vS) (pe_var (i := 1) rfl vN hd1 hd2)) ?_ (form_of _ hln) (by rfl) (by show ((defScope st).kind == _ && _) = false; rw [S.kind]; rfl)
    have e0 := lit_small hlit
    have e1 := int_text_length_le (k := 1920) (by decide) hi
    refine ⟨lit, rfl, by rw [sizeLine_eq]; omega, _, rfl, .inr ⟨i, rfl, hi, Str.ofString (toString i), rfl, ?_, Nat.le_refl _, ha, ?_⟩⟩
    · rw [Str.length_append, PySem.ofString_length, sizeLine_eq]
      omega
    · exact ⟨_, rfl, _, rfl, a, C, rfl, T.oex, hno, .inl ⟨ha, fun dx h1 h2 => hQ dx h1 h2⟩⟩
/-- the same where the argument is a text, shown by its repr -/
theorem err_txt {lit : Str} {j : Nat} {q1 q2 q3 q4 p0 p1 p2 p3 p4 r1 r2 r3 r4 : Pos} {ar : Arg} (T : ErrTxt P K mg C f cda cc qual st)
    (hbd : defBody st = [.Expr (.Call (.Attribute (.Call (.Name "super" p0) [] [] p1) "__init__" p2) [.JoinedStr [.Constant (.str lit) j q1, .FormattedValue (.Name pn q2) 114 none q3] q4] [] p3) p4,
      .Assign [.Attribute (.Name "self" r1) pn r2] (.Name pn r3) r4]) (hln : (p2.endLine == p3.line) = true)
    (S : NScope ["self", pn, "__class__"] ["self", pn] ["__class__"] (defScope st))
    (hb : ∀ (oc : Value) (od an : Option Addr) (kV doc pm ct : Value) (us : List Value), us.length = 2 →
      bindArgs (PySem.W.fnX "__init__" qual (defArgs st) (defBody st) (defScope st) [("__class__", cc)] .none kV doc pm an (.ref cda) ct) ⟨us, []⟩ = pure ((["self", pn] : List Str).zip us))
    (hks : (defScope st).names.lookup ("super" : Str) = some .globalImplicit)
    (har : ((defArgs st).posonlyargs ++ (defArgs st).args).head? = some ar) (har2 : ar.arg = "self")
    (hd1 : (pn == ("__debug__" : Str)) = false) (hd2 : (pn == ("__classdict__" : Str)) = false)
    (hlit : lit.length ≤ 1000) (hno : PySem.W.findIn K (.ref C) pn = some none) :
    ∃ fd, FnOk P w K mg base CX0 2 f fd ["self", pn] (spErr C pn okTxt) ∧ Binds K fd ["self", pn] [] := by
  refine sup_fn T S (fun vs H Q E h => ?_) hb fun A outer s H vs Q E hsp hroom s1 I => ?_
  · obtain ⟨a, v, rfl, _⟩ := h
    rfl
  · obtain ⟨a, v, rfl, ha, ⟨y, rfl, hy⟩, hQ⟩ := hsp
    have vN : Vis (ncx CX0 P w K mg base ["self", pn, "__class__"] (supNF qual st cda cc) f A outer s H E).env.scope pn := .inl (S.par _ (by simp))
    have vS : Vis (ncx CX0 P w K mg base ["self", pn, "__class__"] (supNF qual st cda cc) f A outer s H E).env.scope "self" := .inl (S.par _ (by simp))
    rw [hbd]
    refine two_run (te := fun σ H Q => tJs [tC (.str lit), tFmtR (tVar 1)] Str.empty σ H fun out H1 => Q (.str out) H1) T I rfl hks (S.frk _ (by simp)) (by rw [har2]; exact S.par _ (by simp)) har (by rw [har2]; rfl) rfl ha
      (pe_joined (.cons pe_str (.cons (pe_fmtR (pe_var (i := 1) rfl vN hd1 hd2)) .nil)))
      (ps_ost (pe_var (i := 0) rfl vS) (pe_var (i := 1) rfl vN hd1 hd2)) ?_ (form_of _ hln) (by rfl) (by show ((defScope st).kind == _ && _) = false; rw [S.kind]; rfl)
    have e0 := lit_small hlit
    refine ⟨lit, rfl, by rw [sizeLine_eq]; omega, _, rfl, .inl ⟨y, rfl, by rw [sizeLine_eq]; omega, reprText y, rfl, ?_, Nat.le_refl _, ha, ?_⟩⟩
    · rw [Str.length_append, sizeLine_eq]
      omega
    · exact ⟨_, rfl, _, rfl, a, C, rfl, T.oex, hno, .inl ⟨ha, fun dx h1 h2 => hQ dx h1 h2⟩⟩
end

/-! ### an own error, ready to be raised and caught -/
structure ErrOk (P : Program) (w : World) (K : PySem.W.Frag) (mg : Str → Option Value) (base : Heap) (nm : Str) (C : Addr) (fl : Str) (ok : V → Prop) : Prop where
  oex : OexC K C
  xf : XfC K C
  g : mg nm = some (.ref C)
  no : PySem.W.findIn K (.ref C) fl = some none
  te : PySem.W.exmOne K (.ref C) (.ref C) = some true
  run : ∃ (f : Addr) (fd : FuncData), PySem.W.findIn K (.ref C) "__init__" = some (some (.ref f)) ∧ PySem.W.typeIn K (.ref f) = some (.type "function") ∧
    FnOk P w K mg base CX0 2 f fd ["self", fl] (spErr C fl ok) ∧ Binds K fd ["self", fl] []

section
variable {X : Cx} {nm : Str} {C : Addr} {fl : Str} {ok : V → Prop} {e : Expr} {ta : TA} {p pos pos2 : Pos} {W : WX}
/-- raise nm(e) -/
def tErr (C : Addr) (fl : Str) (ok : V → Prop) (ta : TA) (W : WX) : TS := fun _ σ H => tMkO C (spErr C fl ok) [] ta σ H fun cls d H' => W cls d σ H'
theorem ps_err (R : ErrOk X.prog X.w X.K X.mg X.base nm C fl ok) (hc : X.calm = true) (tk : Takes X W) (hr : Room 3 X.A) (ha : PA X [e] ta) (hg : Gl X nm)
    (hdb : (nm == ("__debug__" : Str)) = false := by decide) (he : starEach [e] X.env = (false, eval e X.env) :: starEach [] X.env := by rfl) (hpl : (backTo pos (starEach [] X.env)).any (·.1) = false := by rfl) :
    PS X (.Raise (some (.Call (.Name nm p) [e] [] pos)) none pos2) (tErr C fl ok ta W) := by
  obtain ⟨f, fd, h1, h2, h3, h4⟩ := R.run
  exact ps_raise hc tk (pmk_oex R.oex h1 h2 h3 hr h4 .nil pass0 hg R.g ha hdb he hpl)
/-- what such a raise asks: the argument is fit, and every way out is met -/
theorem err_way {H1 : Hp} {v : V} {Q : XK} (hv : ok v) (h : ∀ d, H1 d = none → Q (.ref C) (some d) (upd H1 d (.xd [(fl, v)]))) :
    [v].length ≤ 1000 ∧ ∀ a, H1 a = none → spErr C fl ok (.ref a :: ([v] ++ [])) (upd H1 a (exo a C none))
      (fun r H2 => r = .non ∧ ∃ (d : Addr) (fs : List (Str × V)), H2 a = some (exo a C (some d)) ∧ H2 d = some (exd d fs) ∧ H1 d = none ∧ Q (.ref C) (some d) (upd (del H2 a) d (.xd fs))) (fun _ _ _ => False) := by
  refine ⟨by show 1 ≤ 1000; omega, fun a hn => ⟨a, v, rfl, upd_same, hv, fun dx hdx hne => ⟨rfl, dx, _, upd_same, by rw [upd_ne hne, upd_same], ?_, ?_⟩⟩⟩
  · rw [upd_ne hne] at hdx
    exact hdx
  · have hd1 : H1 dx = none := by
      rw [upd_ne hne] at hdx
      exact hdx
    have e : upd (del (upd (upd (upd H1 a (exo a C none)) dx (exd dx [(fl, v)])) a (exo a C (some dx))) a) dx (.xd [(fl, v)]) = upd H1 dx (.xd [(fl, v)]) := by
      funext b
      by_cases hb : b = dx
      · rw [hb, upd_same, upd_same]
      · rw [upd_ne hb, upd_ne hb]
        by_cases hba : b = a
        · rw [hba, del_same, hn]
        · rw [del_ne hba, upd_ne hba, upd_ne hb, upd_ne hba]
    rw [e]
    exact h dx hd1
end
end Sup

/-! The text of a list, whatever is under way: some text of bounded length. -/
namespace Txs
open PySem PySem.Spec PyProof.Rows
section
variable {prog : Program} {w : World}
/-- the text of an item: some text of at most m signs; what stands in h0 is kept by whoever asks -/
def Tx (prog : Program) (w : World) (h0 : Heap) (m : Nat) (x : Value) : Prop :=
  ∀ (b : Nat), b + m ≤ sizeLine → ∀ (A : Around) (E : Value → Shared → Prop) (s : Shared) (Q : Str → Shared → Prop), A.units + 4 < cLine →
    (∀ c o, h0.get? c = some o → s.heap.get? c = some o) → (∀ (t : Str) (tk : Tok), t.length ≤ m → Q t { s with toks := tk }) → wpAny (model prog w) A (pyReprUnder b x) Q E s
theorem Tx.int {h0 : Heap} {i : Int} (t : Tok) (hi : i.natAbs.log2 < 1920) : Tx prog w h0 1921 (.int i t) := by
  intro b hb A E s Q _ _ h
  have e := int_text_length_le (k := 1920) (by decide) hi
  have e2 : (Str.ofString (toString i)).length ≤ 1921 := by rw [PySem.ofString_length]; exact e
  exact ReprIs.int t hi b (by omega) A E s Q fun tk => h _ tk e2
theorem Tx.mono {h0 : Heap} {m n : Nat} {x : Value} (T : Tx prog w h0 m x) (hmn : m ≤ n) : Tx prog w h0 n x := fun b hb A E s Q hu hk h =>
  T b (by omega) A E s Q hu hk fun t tk ht => h t tk (by omega)
theorem way_len : ("(...)" : Str).length ≤ 5 := by decide +kernel
/-- a tuple of things whose texts are settled -/
theorem Tx.tup {h0 : Heap} {a : Addr} {o : Obj} {items : Array Value} {n : Nat} {ts : List Str} (ha : h0.get? a = some o) (hc : o.cls = .type "tuple") (hd : o.data = .seq items n) (hT : ReprAll prog w items.toList ts) :
    Tx prog w h0 ((tupleText ts).length + 5) (.ref a) := by
  intro b hb A E s Q hu hk h
  have ha' := hk _ _ ha
  refine wpAny_pyReprUnder_ref (by omega) (wpAny_pyReprObjUnder_twin (T := "tuple") (twin := "tuple.__repr__.under") ⟨o, ha', hc⟩ F.slot_tuple_repr rfl (by omega) ?_)
  refine call_twin_own (F.quiet_tuple_repr_under _) F.entry_tuple_repr_under F.check_tuple_repr_under ⟨o, ha', hc⟩ F.slot_tuple_repr (F.args_tuple_repr_1 _) (wpOwn_of_wpAny ?_)
  show wpAny _ _ (Builtin.tupleReprAt b ⟨[.ref a], []⟩) _ _ s
  rw [tuple_repr_tree]
  refine wpAny_bind (fmt_underWay fun c => ?_)
  cases c with
  | true =>
    refine PySem.W.KFB.if_so rfl (wpAny_bind (wpAny_rule (wpAny_bind (wpAny_mkStr (wpAny_pure ?_) (by decide +kernel)))))
    exact ⟨⟨_, _, rfl⟩, _, _, rfl, h "(...)" _ (Nat.le_trans way_len (Nat.le_add_left _ _))⟩
  | false =>
    refine PySem.W.KFB.if_not rfl (wpAny_tupleReprRest ha' hd hT (fun u tk => ?_) (by omega))
    exact ⟨⟨_, _, rfl⟩, _, _, rfl, h (tupleText ts) tk (Nat.le_add_right _ _)⟩
theorem piled_le {m : Nat} : ∀ {ts : List Str}, (∀ t ∈ ts, t.length ≤ m) → piled ts ≤ (m + 2) * ts.length
  | [], _ => Nat.zero_le _
  | t :: ts, h => by
    have h1 := h t List.mem_cons_self
    have h2 := piled_le (ts := ts) fun u hu => h u (List.mem_cons_of_mem _ hu)
    rw [piled_cons, List.length_cons, Nat.mul_succ]
    omega
theorem listText_le : ∀ ts : List Str, (listText ts).length ≤ piled ts + 2
  | [] => by
    show (listText []).length ≤ 2
    rw [listText_nil]
    decide +kernel
  | t :: r => by
    have h := textFrom_length_pos r 1 (("[" : Str) ++ (if (0 : Nat) > 0 then ", " else "" : String) ++ t) (Nat.succ_pos 0)
    have e : ((("[" : Str) ++ (if (0 : Nat) > 0 then ", " else "" : String) ++ t)).length = 1 + t.length := by
      rw [strLen_append, strLen_append]; rfl
    have e3 : (listText (t :: r)).length = (textFrom 1 (("[" : Str) ++ (if (0 : Nat) > 0 then ", " else "" : String) ++ t) r).length + 1 := by
      show (textFrom 1 _ r ++ "]").length = _
      rw [strLen_append]; rfl
    rw [e3, h, e, piled_cons]
    omega
variable {A : Around} {R : Result → Shared → Prop}
theorem units_loop (A : Around) (args : Args) : (A.under (.builtin "list.__repr__.loop" args)).units ≤ A.units + 1 := by
  have e : (A.under (.builtin "list.__repr__.loop" args)).units = A.units + 1 ∨ (A.under (.builtin "list.__repr__.loop" args)).units = A.units := by
    first
      | exact .inl rfl
      | exact .inr rfl
      | simp [Around.under, Code.cUnits, Code.frames, Code.isFrame]
  rcases e with e | e <;> omega
theorem run_loop {h0 : Heap} {a Pa : Addr} {items : Array Value} {m b : Nat} (hP0 : h0.get? Pa = none) (hT : ∀ (i : Nat) (x : Value), items[i]? = some x → Tx prog w h0 m x)
    (hsz : b + ((m + 2) * items.size + 2 + m) ≤ sizeLine) (hu : A.units + 5 < cLine) {oa : Obj} {na : Nat} (ha : h0.get? a = some oa) (hda : oa.data = .seq items na) :
    ∀ (k i : Nat) (s : Shared) (acc : Array Value) (c : Nat) (done : List (Str × Tok)), items.size - i = k → i ≤ items.size → (∀ c o, h0.get? c = some o → s.heap.get? c = some o) →
    s.heap.get? Pa = some { cls := .type "list", dict := none, data := .seq acc c, slots := #[] } → acc.toList = strValues done → done.length = i → (∀ p ∈ done, p.1.length ≤ m) →
    (∀ h' (t : Str) u tk, t.length ≤ (m + 2) * items.size + 2 → (∀ b o, b ≠ Pa → s.heap.get? b = some o → h'.get? b = some o) → R (.ok (.ret (.str t u))) { s with heap := h', toks := tk }) →
    codeAny (model prog w) A (.builtin "list.__repr__.loop" ⟨[.ref a, rawInt i, .ref Pa, rawInt ((b + piled (done.map (·.1)) : Nat) : Int)], []⟩) R s := by
  intro k
  induction k with
  | zero =>
    intro i s acc c done hk hi hk0 hP hacc hdone hm hR
    have hin : i = items.size := by omega
    refine codeAny_builtin F.entry_list_repr_loop ?_
    show wpAny _ _ (Builtin.«list.__repr__.loop» ⟨[.ref a, .int i 0, .ref Pa, .int ((b + piled (done.map (·.1)) : Nat) : Int) 0], []⟩) _ _ s
    rw [repr_loop_tree]
    refine wpAny_bind (wpAny_listItems (hk0 _ _ ha) hda ?_)
    have hnone : items[(i : Int).toNat]? = none := by simp [hin]
    simp only [hnone]
    unfold reprEnd
    refine wpAny_bind (wpAny_listItems hP rfl ?_)
    rw [hacc, repr_fold]
    have hpl := piled_le (m := m) (ts := done.map (·.1)) fun t ht => by
      obtain ⟨p, hp, rfl⟩ := List.mem_map.mp ht
      exact hm p hp
    have hlt := listText_le (done.map (·.1))
    rw [List.length_map, hdone, hin] at hpl
    refine wpAny_bind (wpAny_pure (wpAny_bind (wpAny_mkStr (wpAny_pure ?_) (show (listText (done.map (·.1))).length ≤ sizeLine by omega))))
    exact hR s.heap (listText (done.map (·.1))) _ _ (by omega) (fun _ _ _ e => e)
  | succ k ih =>
    intro i s acc c done hk hi hk0 hP hacc hdone hm hR
    have hlt : i < items.size := by omega
    have hrep := hT i items[i] (by simp [hlt])
    have hpl := piled_le (m := m) (ts := done.map (·.1)) fun t ht => by
      obtain ⟨p, hp, rfl⟩ := List.mem_map.mp ht
      exact hm p hp
    rw [List.length_map, hdone] at hpl
    have hmul : (m + 2) * i ≤ (m + 2) * items.size := Nat.mul_le_mul_left _ hi
    refine codeAny_builtin F.entry_list_repr_loop ?_
    show wpAny _ _ (Builtin.«list.__repr__.loop» ⟨[.ref a, .int i 0, .ref Pa, .int ((b + piled (done.map (·.1)) : Nat) : Int) 0], []⟩) _ _ s
    rw [repr_loop_tree]
    refine wpAny_bind (wpAny_listItems (hk0 _ _ ha) hda ?_)
    have hsome : items[(i : Int).toNat]? = some items[i] := by simp [hlt]
    simp only [hsome]
    rw [Int.toNat_natCast]
    have hul := units_loop A ⟨[.ref a, .int i 0, .ref Pa, .int ((b + piled (done.map (·.1)) : Nat) : Int) 0], []⟩
    refine wpAny_bind (wpAny_holding (hrep (b + piled (done.map (·.1)) + 1) (by omega) _ _ _ _ (Nat.lt_of_le_of_lt (Nat.add_le_add_right hul 4) (by omega)) hk0 fun t tk ht => ?_))
    refine wpAny_bind (wpAny_mkStr ?_ (show t.length ≤ sizeLine by omega))
    refine wpAny_bind ?_
    show wpAny _ _ (updateSeq Pa _) _ _ _
    have hasz : acc.size ≤ sizeLine := by
      have e1 : acc.toList.length = acc.size := by simp
      have e2 : (strValues done).length = done.length := by simp [strValues]
      have e3 : i ≤ (m + 2) * items.size := Nat.le_trans hi (Nat.le_mul_of_pos_left _ (by omega))
      rw [hacc] at e1; omega
    refine wpAny_updateSeq hP rfl (wpAny_pure ⟨F.quiet_list_repr_loop _, ?_⟩) hasz
    have e1 : ((i : Int) + 1) = ((i + 1 : Nat) : Int) := by omega
    have e2 : b + piled (done.map (·.1)) + (t.length + 2) = b + piled ((done ++ [(t, tk)]).map (·.1)) := by
      rw [List.map_append, piled_append]
      simp [piled]
      omega
    rw [e1]
    show codeAny _ _ (.builtin "list.__repr__.loop" ⟨[.ref a, rawInt ((i + 1 : Nat) : Int), .ref Pa, rawInt ((b + piled (done.map (·.1)) + (t.length + 2) : Nat) : Int)], []⟩) _ _
    rw [e2]
    have nP : ∀ c o, h0.get? c = some o → Pa ≠ c := fun c o e z => by
      rw [z, e] at hP0
      cases hP0
    refine ih (i + 1) _ (acc.push (.str t tk)) _ (done ++ [(t, tk)]) (by omega) hlt (fun c o e => (Heap.get?_update_other _ _ (nP c o e)).trans (hk0 c o e)) (Heap.get?_update_self _ hP rfl) (by simp [hacc, strValues]) (by rw [List.length_append, hdone]; rfl)
      (fun p hp => ?_) fun h' t' u tk' ht' hh => ?_
    · rcases List.mem_append.mp hp with z | z
      · exact hm p z
      · rw [List.mem_singleton.mp z]
        exact ht
    · exact hR h' t' u tk' ht' fun b o hb e => hh b o hb ((Heap.get?_update_other _ _ (fun z : Pa = b => hb z.symm)).trans e)
end
section
variable {prog : Program} {w : World} {A : Around} {E : Value → Shared → Prop} {s : Shared}
/-- {xs}, a list: some text -/
theorem fmt_list {a : Addr} {items : Array Value} {n m : Nat} {Q : Value → Shared → Prop} (hu : A.units + 8 < cLine) (ha : s.heap.get? a = some { cls := .type "list", data := .seq items n })
    (hT : ∀ (i : Nat) (x : Value), items[i]? = some x → Tx prog w s.heap m x) (hsz : (m + 2) * items.size + 2 + m ≤ sizeLine)
    (h : ∀ h' (t : Str) (u : Tok) tk, t.length ≤ (m + 2) * items.size + 5 → (∀ b o, s.heap.get? b = some o → h'.get? b = some o) → Q (.str t u) { s with heap := h', toks := tk }) : wpAny (model prog w) A (formatField (.ref a) Str.empty) Q E s := by
  refine wpAny_formatField_slot (T := "list") (idr := "list.__repr__") (fun _ _ => nofun) (by omega) ⟨_, ha, rfl⟩ F.slot_list_format F.slot_list_str F.slot_list_repr.toG ?_
  have hs0 : ({ s with toks := s.toks + 1 } : Shared).heap = s.heap := rfl
  refine wpAny_call (codeAny_call_builtin F.slot_list_repr.plain F.entry_list_repr (F.slot_list_repr.check _ _ _ _ _ _ _ _ ⟨_, ha, rfl⟩ (F.args_list_repr_1 _) ?_))
  show wpAny _ _ (Builtin.listReprAt 0 ⟨[.ref a], []⟩) _ _ { s with toks := s.toks + 1 }
  have fin : ∀ h' (t : Str) (u : Tok) tk, t.length ≤ (m + 2) * items.size + 5 → (∀ b o, s.heap.get? b = some o → h'.get? b = some o) → ∃ x t', Value.str t u = .str x t' ∧ Q (.str t u) { s with heap := h', toks := tk } :=
    fun h' t u tk h1 h2 => ⟨t, u, rfl, h h' t u tk h1 h2⟩
  unfold Builtin.listReprAt
  refine wpAny_bind (wpAny_of_eq (a := (Value.ref a, ([] : List Value))) (by first | rfl | (simp only [slotArgs]; rfl)) ?_)
  show wpAny _ _ (Builtin.List.listItems (.ref a) >>= _) _ _ { s with toks := s.toks + 1 }
  refine wpAny_bind (wpAny_listItems (s := { s with toks := s.toks + 1 }) ha rfl ?_)
  by_cases he : items.isEmpty = true
  · refine PySem.W.KFB.if_so he (wpAny_bind (wpAny_rule ?_))
    refine wpAny_bind (wpAny_mkStr (wpAny_pure ?_) (by decide +kernel))
    exact fin s.heap _ _ _ (Nat.le_trans (by decide +kernel : ("[]" : Str).length ≤ 5) (Nat.le_add_left _ _)) fun _ _ e => e
  · refine PySem.W.KFB.if_not (by simpa using he) ?_
    refine wpAny_bind (wpAny_stack_any fun st => ?_)
    dsimp only
    refine wpAny_ite_split (fun _ => ?_) (fun _ => ?_)
    · refine wpAny_bind (wpAny_rule ?_)
      refine wpAny_bind (wpAny_mkStr (wpAny_pure ?_) (by decide +kernel))
      exact fin s.heap _ _ _ (Nat.le_trans (by decide +kernel : ("[...]" : Str).length ≤ 5) (Nat.le_add_left _ _)) fun _ _ e => e
    · refine wpAny_bind (m := newList []) (wpAny_newObj_type ?_)
      refine wpAny_pure ⟨F.quiet_list_repr_loop _, ?_⟩
      have q := run_loop (prog := prog) (w := w) (A := A.in1.in1) (h0 := s.heap) (a := a) (Pa := s.heap.objs.size) (items := items) (m := m) (b := 0) (R := fun r s' => match r with
          | .ok (.ret v) => ∃ x t, v = Value.str x t ∧ Q v s'
          | .ok _ => False
          | .error e => E e s') (Heap.get?_none_of_le (Nat.le_refl _)) hT (by omega) (by show A.units + 2 + 5 < cLine; omega) ha rfl items.size 0
          { s with heap := s.heap.push { cls := .type "list", data := .seq #[] }, toks := s.toks + 1 } #[] 0 [] (by omega) (by omega) (fun c o e => Heap.get?_push_of_some _ e) (Heap.get?_push_size _ rfl) rfl rfl (fun p hp => absurd hp (by simp)) ?_
      · exact q
      · intro h' t u tk ht hk
        exact fin h' t u tk (by omega) fun b o e => hk b o (Nat.ne_of_lt (Heap.lt_size e)) (Heap.get?_push_of_some _ e)
end
end Txs
namespace Sup
open PySem PySem.Spec PyProof.Rows L2
/-- what a shown list may hold: whole numbers, tuples of whole numbers -/
def Shown (H : Hp) (xs : List V) : Prop := ∀ v ∈ xs, (∃ i : Int, v = .int i ∧ i.natAbs.log2 < 1920) ∨ ∃ (t : Addr) (ns : List Int), v = .ref t ∧ H t = some (.tup (ns.map V.int)) ∧ ns.length ≤ 10 ∧ ∀ i ∈ ns, i.natAbs.log2 < 1920
theorem reprs_int {prog : Program} {w : World} : ∀ {ns : List Int} {its : List Value}, Vals (ns.map V.int) its → (∀ i ∈ ns, i.natAbs.log2 < 1920) → ReprAll prog w its (ns.map fun i => Str.ofString (toString i))
  | [], _, r, _ => by
    cases r
    exact .nil
  | i :: ns, _, r, h => by
    cases r with
    | cons r1 r2 =>
      obtain ⟨t, rfl⟩ := r1
      exact .cons (ReprIs.int t (h i List.mem_cons_self)) (reprs_int r2 fun z hz => h z (List.mem_cons_of_mem _ hz))
def tFmtL (te : TE) : TE := fun σ H Q => te σ H fun x H1 => ∃ (a : Addr) (xs : List V), x = .ref a ∧ H1 a = some (.lst xs) ∧ xs.length ≤ 60 ∧ Shown H1 xs ∧ ∀ y : Str, y.length ≤ 2000000 → Q (.str y) H1
theorem pe_fmtL {X : Cx} {e : Expr} {te : TE} {pos : Pos} (hu : X.A.units + 64 < cLine) (he : PE X e te) : PE X (.FormattedValue e (-1) none pos) (tFmtL te) := by
  refine ⟨fun pins s σ H Q I h => ?_⟩
  refine wpAny_FormattedValue_plain (thn (he.run pins s σ H _ I h) fun v s1 hv => ?_)
  obtain ⟨x, H1, I1, r1, a, xs, rfl, ht, hlen, hsh, q⟩ := hv
  cases r1
  obtain ⟨_, its, n, rv, ho⟩ := (show ObjOk X.prog X.w H1 s1.heap a (.lst xs) from I1.hok a _ ht)
  have hl : its.length = xs.length := rv.length.symm
  have hsz : (20000 + 2) * its.toArray.size + 2 + 20000 ≤ sizeLine := by
    rw [List.size_toArray, hl, sizeLine_eq]
    omega
  refine Txs.fmt_list (m := 20000) (by omega) ho (fun i y hy => ?_) hsz fun h' t u tk htl hk => ⟨.str t, H1, I1.kept hk, ⟨u, rfl⟩, q t ?_⟩
  · have hy' : its[i]? = some y := by simpa using hy
    have hi : i < xs.length := by
      rw [← hl]
      exact (List.getElem?_eq_some_iff.mp hy').1
    obtain ⟨u, hu', ru⟩ := rv.get (List.getElem?_eq_getElem hi)
    rw [hy'] at hu'
    obtain rfl := Option.some.inj hu'
    rcases hsh _ (List.getElem_mem hi) with ⟨j, ej, hj⟩ | ⟨t, ns, et, htt, h10, hns⟩
    · rw [ej] at ru
      obtain ⟨tk, rfl⟩ := ru
      exact (Txs.Tx.int tk hj).mono (by decide)
    · rw [et] at ru
      obtain rfl : y = Value.ref t := ru
      obtain ⟨its2, r2, ⟨o, ho2, hc2, n2, hd2⟩, _⟩ := I1.tuple (.inl (.inl htt))
      have T := Txs.Tx.tup (prog := X.prog) (w := X.w) (h0 := s1.heap) ho2 hc2 hd2 (reprs_int r2 hns)
      refine T.mono ?_
      have h1 := fmt_text (ns.map fun i => Str.ofString (toString i))
      have h2 := Txs.piled_le (m := 1921) (ts := ns.map fun i => Str.ofString (toString i)) fun z hz => by
        obtain ⟨i, hi, rfl⟩ := List.mem_map.mp hz
        have e := int_text_length_le (k := 1920) (by decide) (hns i hi)
        rw [PySem.ofString_length]
        exact e
      rw [List.length_map] at h2
      have h3 : (1921 + 2) * ns.length ≤ (1921 + 2) * 10 := Nat.mul_le_mul_left _ h10
      omega
  · rw [List.size_toArray, hl] at htl
    omega
end Sup

namespace Sup
open PySem PySem.Spec PyProof.Rows L2 NdefX
/-- the form of super().__init__('..') -/
theorem form_const (env : Env) {p0 p1 p2 p3 q : Pos} {c : Const} {j : Nat} (hln : (p2.endLine == p3.line) = true) : eval (.Call (.Attribute (.Call (.Name "super" p0) [] [] p1) "__init__" p2) [.Constant c j q] [] p3) env = (do
      let ov ← attributeBase (.Call (.Name "super" p0) [] [] p1) "__init__" env (eval (.Call (.Name "super" p0) [] [] p1) env)
      standAt p2.atName
      let (g, first) ← holding [ov] (getMethod ov "__init__" (do return (← importBound (.Call (.Name "super" p0) [] [] p1) env).getD true))
      callWith p3 g first (backTo p3 (starEach [.Constant c j q] env)) []) := by
  have hp : methodCallPos true (.Call (.Name "super" p0) [] [] p1) env p2 p3 = pure p3 := by
    unfold methodCallPos
    rw [hln]
    rfl
  show (do
    let ov ← attributeBase (.Call (.Name "super" p0) [] [] p1) "__init__" env (eval (.Call (.Name "super" p0) [] [] p1) env)
    standAt p2.atName
    let (g, first) ← holding [ov] (getMethod ov "__init__" (do return (← importBound (.Call (.Name "super" p0) [] [] p1) env).getD true))
    let cp ← methodCallPos true (.Call (.Name "super" p0) [] [] p1) env p2 p3
    callWith cp g first (backTo p3 (starEach [.Constant c j q] env)) []) = _
  rw [hp]
  rfl
/-- an error without a field is made -/
def spErr0 (C : Addr) : Sp := fun vs H Q _ => ∃ a : Addr, vs = [.ref a] ∧ H a = some (exo a C none) ∧ Q .non H
/-- an error that keeps a copy of a list -/
def spErrL (C : Addr) (fl : Str) : Sp := fun vs H Q _ => ∃ (a l : Addr) (xs : List V), vs = [.ref a, .ref l] ∧ H a = some (exo a C none) ∧ H l = some (.lst xs) ∧ xs.length ≤ 60 ∧ Shown H xs ∧
  ∀ c dx, H c = none → H dx = none → dx ≠ a → c ≠ a → dx ≠ c → Q .non (upd (upd (upd H c (.lst xs)) dx (exd dx [(fl, .ref c)])) a (exo a C (some dx)))
section
variable {P : Program} {w : World} {K : PySem.W.Frag} {mg : Str → Option Value} {base : Heap} {C f cda cc : Addr} {qual pn : Str} {st : Stmt} {N : List Str}
theorem err_nil {lit : Str} {j : Nat} {q1 p0 p1 p2 p3 p4 : Pos} {ar : Arg} (T : ErrTxt P K mg C f cda cc qual st)
    (hbd : defBody st = [.Expr (.Call (.Attribute (.Call (.Name "super" p0) [] [] p1) "__init__" p2) [.Constant (.str lit) j q1] [] p3) p4]) (hln : (p2.endLine == p3.line) = true)
    (S : NScope ["self", "__class__"] ["self"] ["__class__"] (defScope st))
    (hb : ∀ (oc : Value) (od an : Option Addr) (kV doc pm ct : Value) (us : List Value), us.length = 1 →
      bindArgs (PySem.W.fnX "__init__" qual (defArgs st) (defBody st) (defScope st) [("__class__", cc)] .none kV doc pm an (.ref cda) ct) ⟨us, []⟩ = pure ((["self"] : List Str).zip us))
    (hks : (defScope st).names.lookup ("super" : Str) = some .globalImplicit)
    (har : ((defArgs st).posonlyargs ++ (defArgs st).args).head? = some ar) (har2 : ar.arg = "self") :
    ∃ fd, FnOk P w K mg base CX0 2 f fd ["self"] (spErr0 C) ∧ Binds K fd ["self"] [] := by
  refine sup_fn T S (fun vs H Q E h => ?_) hb fun A outer s H vs Q E hsp hroom s1 I => ?_
  · obtain ⟨a, rfl, _⟩ := h
    rfl
  · obtain ⟨a, rfl, ha, hQ⟩ := hsp
    rw [hbd]
    refine ks_wpAt_execs_cons (ks_wpAt_Expr_any ?_ (by show ((defScope st).kind == _ && _) = false; rw [S.kind]; rfl))
    refine _root_.PySem.wpAt_mono (super_init (Q := fun H1 => Q .non H1) T I rfl hks (S.frk _ (by simp)) (by rw [har2]; exact S.par _ (by simp)) har (by rw [har2]; rfl) rfl ha
      (pe_str (x := lit)) ⟨Nat.le_refl _, ha, hQ⟩ (form_const _ hln) (by rfl)) (fun v s' hh => ?_) fun _ _ z => z
    obtain ⟨H1, I1, q⟩ := hh
    exact _root_.PySem.wpAt_of_wpAny (pss_nil.run [] s' _ H1 { nx := fun _ H' => Q .non H', rt := Q } I1 q)
theorem err_lst {lit : Str} {j : Nat} {q1 q2 q3 q4 p0 p1 p2 p3 p4 r1 r2 r3 r4 r5 r6 : Pos} {ar : Arg} (T : ErrTxt P K mg C f cda cc qual st)
    (hbd : defBody st = [.Expr (.Call (.Attribute (.Call (.Name "super" p0) [] [] p1) "__init__" p2) [.JoinedStr [.Constant (.str lit) j q1, .FormattedValue (.Name pn q2) (-1) none q3] q4] [] p3) p4,
      .Assign [.Attribute (.Name "self" r1) pn r2] (.Call (.Name "list" r3) [.Name pn r4] [] r5) r6]) (hln : (p2.endLine == p3.line) = true)
    (S : NScope ["self", pn, "__class__"] ["self", pn] ["__class__"] (defScope st))
    (hb : ∀ (oc : Value) (od an : Option Addr) (kV doc pm ct : Value) (us : List Value), us.length = 2 →
      bindArgs (PySem.W.fnX "__init__" qual (defArgs st) (defBody st) (defScope st) [("__class__", cc)] .none kV doc pm an (.ref cda) ct) ⟨us, []⟩ = pure ((["self", pn] : List Str).zip us))
    (hks : (defScope st).names.lookup ("super" : Str) = some .globalImplicit)
    (har : ((defArgs st).posonlyargs ++ (defArgs st).args).head? = some ar) (har2 : ar.arg = "self")
    (hd1 : (pn == ("__debug__" : Str)) = false) (hd2 : (pn == ("__classdict__" : Str)) = false)
    (hlit : lit.length ≤ 1000) (hno : PySem.W.findIn K (.ref C) pn = some none)
    (hgl : (defScope st).names.lookup ("list" : Str) = some .globalImplicit) (hml : mg "list" = none) :
    ∃ fd, FnOk P w K mg base CX0 2 f fd ["self", pn] (spErrL C pn) ∧ Binds K fd ["self", pn] [] := by
  refine sup_fn T S (fun vs H Q E h => ?_) hb fun A outer s H vs Q E hsp hroom s1 I => ?_
  · obtain ⟨a, l, xs, rfl, _⟩ := h
    rfl
  · obtain ⟨a, l, xs, rfl, ha, hl, h60, hsh, hQ⟩ := hsp
    have vN : Vis (ncx CX0 P w K mg base ["self", pn, "__class__"] (supNF qual st cda cc) f A outer s H E).env.scope pn := .inl (S.par _ (by simp))
    have vS : Vis (ncx CX0 P w K mg base ["self", pn, "__class__"] (supNF qual st cda cc) f A outer s H E).env.scope "self" := .inl (S.par _ (by simp))
    rw [hbd]
    refine two_run (te := fun σ H Q => tJs [tC (.str lit), tFmtL (tVar 1)] Str.empty σ H fun out H1 => Q (.str out) H1) T I rfl hks (S.frk _ (by simp)) (by rw [har2]; exact S.par _ (by simp)) har (by rw [har2]; rfl) rfl ha
      (pe_joined (.cons pe_str (.cons (pe_fmtL hroom.units (pe_var (i := 1) rfl vN hd1 hd2)) .nil)))
      (ps_ost (pe_var (i := 0) rfl vS) (pe_callTy call_list_of hgl hml (by decide +kernel) (pa_cons (pe_var (i := 1) rfl vN hd1 hd2) pa_nil))) ?_ (form_of _ hln) (by rfl) (by show ((defScope st).kind == _ && _) = false; rw [S.kind]; rfl)
    have e0 := lit_small hlit
    refine ⟨lit, rfl, by rw [sizeLine_eq]; omega, _, rfl, l, xs, rfl, hl, h60, hsh, fun y hy => ⟨y, rfl, ?_, Nat.le_refl _, ha, ?_⟩⟩
    · rw [Str.length_append, sizeLine_eq]
      omega
    · refine ⟨_, rfl, l, xs, rfl, .inl (SqL.of hl), fun c hc => ?_⟩
      have nca : c ≠ a := fun z => by
        rw [z, ha] at hc
        cases hc
      refine ⟨_, rfl, a, C, rfl, T.oex, hno, .inl ⟨by rw [upd_ne (Ne.symm nca)]; exact ha, fun dx h1 h2 => ?_⟩⟩
      have ndc : dx ≠ c := fun z => by
        rw [z, upd_same] at h1
        cases h1
      rw [upd_ne ndc] at h1
      exact hQ c dx hc h1 h2 nca ndc
end
section
variable {X : Cx} {x : Str} {C fI : Addr} {k : Nat} {fd : FuncData} {ps : List Str} {sp : Sp} {e : Expr} {es : List Expr} {ta : TA} {p pos : Pos}
/-- what follows where an own error has just been made, for positional values vs in the heap H1 -/
structure MkV (C : Addr) (sp : Sp) (vs : List V) (H1 : Hp) (Q : VK) : Prop where
  few : vs.length ≤ 1000
  run : ∀ a, H1 a = none → sp (.ref a :: vs) (upd H1 a (exo a C none)) (fun v H2 => v = .non ∧ Q (.ref a) H2) (fun _ _ _ => False)
theorem run_mkV {pins : List (Addr × Obj)} {σ : L2.St} {H1 : Hp} {s1 : Shared} {us : List Value} {vs : List V} {Q : VK} (T : OexC X.K C) (iC : PySem.W.findIn X.K (.ref C) "__init__" = some (some (.ref fI))) (tI : PySem.W.typeIn X.K (.ref fI) = some (.type "function"))
    (F1 : FnOk X.prog X.w X.K X.mg X.base CX0 k fI fd ps sp) (hr : Room (k + 1) X.A) (hb : Binds X.K fd ps []) (I1 : L2.Inv X pins σ H1 s1) (r1 : Vals vs us) (h : MkV C sp vs H1 Q) :
    wpAny (model X.prog X.w) X.A (call (.ref C) us) (EP X pins σ Q) X.xe s1 := by
  obtain ⟨nm, q, N, bs, bm, sn, sub, ab, col, dd, k0, k1, k2, k3, k5, hC, hbm⟩ := T.cls
  obtain ⟨hz, q1⟩ := h
  obtain ⟨hp, g, dr, tk, os⟩ := s1
  have hsz : hp.objs.size ≤ hp.objs.size + 1 := Nat.le_succ _
  have hn : H1 (hp.objs.size + 1) = none := I1.hok.fresh hsz
  have hq := q1 (hp.objs.size + 1) hn
  have kk : ∀ b o, hp.get? b = some o → ((hp.push (PySem.W.kdv_tup us)).push (PySem.HandSPX.excO C hp.objs.size)).get? b = some o :=
    fun b o z => Heap.get?_push_of_some _ (Heap.get?_push_of_some _ z)
  have hget : ((hp.push (PySem.W.kdv_tup us)).push (PySem.HandSPX.excO C hp.objs.size)).get? (hp.objs.size + 1) = some (PySem.HandSPX.excO C hp.objs.size) := by heap_get
  have I2 : L2.Inv X pins σ (upd H1 (hp.objs.size + 1) (exo (hp.objs.size + 1) C none)) ⟨(hp.push (PySem.W.kdv_tup us)).push (PySem.HandSPX.excO C hp.objs.size), g, dr, tk, os⟩ :=
    I1.laid (t' := tk) (a := hp.objs.size + 1) (o := exo (hp.objs.size + 1) C none)
      (h' := (hp.push (PySem.W.kdv_tup us)).push (PySem.HandSPX.excO C hp.objs.size)) kk hsz (exo_ok hget)
  have r2 : Vals (V.ref (hp.objs.size + 1) :: vs) (Value.ref (hp.objs.size + 1) :: us) := .cons rfl r1
  have hl : (Value.ref (hp.objs.size + 1) :: us).length = ps.length := by
    have e := r2.length
    rw [F1.len _ _ _ _ hq] at e
    exact e.symm
  have hus : us.length ≤ sizeLine := by
    rw [← Paired.length r1, sizeLine_eq]
    omega
  have hbd := hb _ (Value.ref (hp.objs.size + 1) :: us) I2.kIn (by rw [List.append_nil]; exact hl)
  rw [List.append_nil] at hbd
  refine wpAny_call (PySem.HandSPX.call_own F.excBase_ValueError (fun Y => PySem.HandSPX.refsVE_contains Y bm hbm) (I1.kIn _ _ hC) (PySem.W.looks_findIn I1.kIn iC) (fun self => PySem.W.bind_fn I1.kIn self tI) hus
    (codeAny_mono (F1.run _ X.stack _ _ ⟨Value.ref (hp.objs.size + 1) :: us, []⟩ (Value.ref (hp.objs.size + 1) :: us) _ _ (fun _ _ _ => False) (hr.make C us []) (I2.env0.make C us []) hbd r2 hq) fun r s' hq' => ?_))
  cases r with
  | error er => exact False.elim hq'
  | ok fl =>
    cases fl with
    | ret u =>
      obtain ⟨v, H2, os2, bare2, un2, hok2, rv, ev, q2⟩ := hq'
      subst ev
      have J := I2.call' (s' := s') (ch := []) os2 un2 hok2 bare2 (fun b z => absurd z (by simp))
      exact ⟨rv, .ref (hp.objs.size + 1), H2, J, rfl, q2⟩
    | next => exact False.elim hq'
    | brk => exact False.elim hq'
    | cont => exact False.elim hq'
theorem pe_mkV (T : OexC X.K C) (iC : PySem.W.findIn X.K (.ref C) "__init__" = some (some (.ref fI))) (tI : PySem.W.typeIn X.K (.ref fI) = some (.type "function"))
    (F1 : FnOk X.prog X.w X.K X.mg X.base CX0 k fI fd ps sp) (hr : Room (k + 1) X.A) (hb : Binds X.K fd ps []) (hg : Gl X x) (hm : X.mg x = some (.ref C)) (ha : PA X (e :: es) ta)
    (hdb : (x == ("__debug__" : Str)) = false := by decide) (he : starEach (e :: es) X.env = (false, eval e X.env) :: starEach es X.env := by rfl) (hpl : (backTo pos (starEach es X.env)).any (·.1) = false := by rfl) :
    PE X (.Call (.Name x p) (e :: es) [] pos) (fun σ H Q => ta σ H fun vs H1 => MkV C sp vs H1 Q) := by
  refine ⟨fun pins s σ H Q I h => ?_⟩
  refine wpAny_Call_Name_kw (ld_glob I hg hm ?_ hdb)
  refine PySem.W.callWith_K (h₀ := X.base) I.ok.mod.kin T.kC
    (thn (ha.run pos pins s σ H _ I h) fun us s1 ⟨vs, H1, I1, r1, q⟩ => ⟨I1.kIn, ?_⟩) he hpl
  exact run_mkV T iC tI F1 hr hb I1 r1 q
theorem pe_mkV0 (T : OexC X.K C) (iC : PySem.W.findIn X.K (.ref C) "__init__" = some (some (.ref fI))) (tI : PySem.W.typeIn X.K (.ref fI) = some (.type "function"))
    (F1 : FnOk X.prog X.w X.K X.mg X.base CX0 k fI fd ps sp) (hr : Room (k + 1) X.A) (hb : Binds X.K fd ps []) (hg : Gl X x) (hm : X.mg x = some (.ref C))
    (hdb : (x == ("__debug__" : Str)) = false := by decide) : PE X (.Call (.Name x p) [] [] pos) (fun σ H Q => MkV C sp [] H Q) := by
  refine ⟨fun pins s σ H Q I h => ?_⟩
  refine wpAny_Call_Name_kw (ld_glob I hg hm ?_ hdb)
  exact PySem.W.callWith_K0 I.kIn T.kC (run_mkV (us := []) T iC tI F1 hr hb I .nil h)
/-- what stands at a is an error of the class at C with these fields -/
def ErrAt (H : Hp) (a C : Addr) (fs : List (Str × V)) : Prop := (H a = some (exo a C none) ∧ fs = []) ∨ ∃ d, H a = some (exo a C (some d)) ∧ H d = some (exd d fs)
theorem ErrAt.inst {pins : List (Addr × Obj)} {σ : L2.St} {H : Hp} {s : Shared} {a : Addr} {fs : List (Str × V)} (I : L2.Inv X pins σ H s) (h : ErrAt H a C fs) :
    ∃ (ox : Obj) (od : Option Obj), PySem.W.InstAt s.heap a ox C od := by
  rcases h with ⟨h, _⟩ | ⟨d, h, hd⟩
  · obtain ⟨t, ho⟩ := exo_at I.hok h
    exact ⟨_, none, ho, rfl, rfl, trivial⟩
  · obtain ⟨t, ho⟩ := exo_at I.hok h
    obtain ⟨mA, hns, _⟩ := exd_at I.hok hd
    obtain ⟨ob, hob, _⟩ := lookIn_ns hns
    exact ⟨_, some ob, ho, rfl, rfl, hob⟩
end
end Sup

namespace Sup
open PySem PySem.Spec PyProof.Rows L2
/-- an own error, ready to be made -/
structure MkE (P : Program) (w : World) (K : PySem.W.Frag) (mg : Str → Option Value) (base : Heap) (nm : Str) (C : Addr) (sp : Sp) (ps : List Str) : Prop where
  oex : OexC K C
  g : mg nm = some (.ref C)
  run : ∃ (f : Addr) (fd : FuncData), PySem.W.findIn K (.ref C) "__init__" = some (some (.ref f)) ∧ PySem.W.typeIn K (.ref f) = some (.type "function") ∧ FnOk P w K mg base CX0 2 f fd ps sp ∧ Binds K fd ps []
section
variable {X : Cx} {nm : Str} {C : Addr} {sp : Sp} {ps : List Str} {e : Expr} {es : List Expr} {ta : TA} {p pos : Pos}
theorem pe_err (M : MkE X.prog X.w X.K X.mg X.base nm C sp ps) (hr : Room 3 X.A) (hg : Gl X nm) (ha : PA X (e :: es) ta)
    (hdb : (nm == ("__debug__" : Str)) = false := by decide) (he : starEach (e :: es) X.env = (false, eval e X.env) :: starEach es X.env := by rfl) (hpl : (backTo pos (starEach es X.env)).any (·.1) = false := by rfl) :
    PE X (.Call (.Name nm p) (e :: es) [] pos) (fun σ H Q => ta σ H fun vs H1 => MkV C sp vs H1 Q) := by
  obtain ⟨f, fd, h1, h2, h3, h4⟩ := M.run
  exact pe_mkV M.oex h1 h2 h3 hr h4 hg M.g ha hdb he hpl
theorem pe_err0 (M : MkE X.prog X.w X.K X.mg X.base nm C sp ps) (hr : Room 3 X.A) (hg : Gl X nm)
    (hdb : (nm == ("__debug__" : Str)) = false := by decide) : PE X (.Call (.Name nm p) [] [] pos) (fun σ H Q => MkV C sp [] H Q) := by
  obtain ⟨f, fd, h1, h2, h3, h4⟩ := M.run
  exact pe_mkV0 M.oex h1 h2 h3 hr h4 hg M.g hdb
end
theorem ErrAt.same {H H' : Hp} {a C : Addr} {fs : List (Str × V)} (h : ErrAt H a C fs) (s : Same H H') : ErrAt H' a C fs := by
  rcases h with ⟨h, e⟩ | ⟨d, h, hd⟩
  · exact .inl ⟨s _ _ h, e⟩
  · exact .inr ⟨d, s _ _ h, s _ _ hd⟩
/-- another object is written -/
theorem ErrAt.upd {H : Hp} {a C p : Addr} {fs : List (Str × V)} {xs : List V} {o : HO} (h : ErrAt H a C fs) (hp : H p = some (.lst xs)) : ErrAt (upd H p o) a C fs := by
  have key : ∀ {b : Addr} {φ : Heap → Prop}, H b = some (.ext φ) → b ≠ p := fun {b φ} e z => by
    rw [z, hp] at e
    cases e
  rcases h with ⟨h, e⟩ | ⟨d, h, hd⟩
  · exact .inl ⟨by rw [upd_ne (key h)]; exact h, e⟩
  · exact .inr ⟨d, by rw [upd_ne (key h)]; exact h, by rw [upd_ne (key hd)]; exact hd⟩
theorem mk_one {C : Addr} {fl : Str} {ok : V → Prop} {v : V} {H1 : Hp} {Q : VK} (hv : ok v) (h : ∀ (a : Addr) (H2 : Hp), H1 a = none → Same H1 H2 → ErrAt H2 a C [(fl, v)] → Q (.ref a) H2) : MkV C (spErr C fl ok) [v] H1 Q := by
  refine ⟨by show 1 ≤ 1000; omega, fun a hn => ⟨a, v, rfl, upd_same, hv, fun dx hdx hne => ⟨rfl, h a _ hn (fun b o e => ?_) (.inr ⟨dx, upd_same, by rw [upd_ne hne, upd_same]⟩)⟩⟩⟩
  rw [upd_ne hne] at hdx
  rw [upd_ne (ne_of_none e hn), upd_ne (ne_of_none e hdx), upd_ne (ne_of_none e hn)]
  exact e
theorem mk_nil {C : Addr} {H1 : Hp} {Q : VK} (h : ∀ (a : Addr) (H2 : Hp), H1 a = none → Same H1 H2 → ErrAt H2 a C [] → Q (.ref a) H2) : MkV C (spErr0 C) [] H1 Q := by
  refine ⟨Nat.zero_le _, fun a hn => ⟨a, rfl, upd_same, rfl, h a _ hn (fun b o e => ?_) (.inl ⟨upd_same, rfl⟩)⟩⟩
  rw [upd_ne (ne_of_none e hn)]
  exact e
theorem mk_lst {C l : Addr} {fl : Str} {xs : List V} {H1 : Hp} {Q : VK} (hl : H1 l = some (.lst xs)) (h60 : xs.length ≤ 60) (hs : Shown H1 xs)
    (h : ∀ (a c : Addr) (H2 : Hp), H1 a = none → H1 c = none → Same H1 H2 → H2 c = some (.lst xs) → ErrAt H2 a C [(fl, .ref c)] → Q (.ref a) H2) : MkV C (spErrL C fl) [.ref l] H1 Q := by
  refine ⟨by show 1 ≤ 1000; omega, fun a hn => ⟨a, l, xs, rfl, upd_same, by rw [upd_ne (ne_of_none hl hn)]; exact hl, h60, fun v hv => ?_, fun c dx hc hdx n1 n2 n3 => ⟨rfl, h a c _ hn ?_ (fun b o e => ?_) ?_ (.inr ⟨dx, upd_same, by rw [upd_ne n1, upd_same]⟩)⟩⟩⟩
  · rcases hs v hv with z | ⟨t, ns, e, ht, r⟩
    · exact .inl z
    · exact .inr ⟨t, ns, e, by rw [upd_ne (ne_of_none ht hn)]; exact ht, r⟩
  · rw [upd_ne n2] at hc
    exact hc
  · rw [upd_ne n2] at hc
    rw [upd_ne n1] at hdx
    rw [upd_ne (ne_of_none e hn), upd_ne (ne_of_none e hdx), upd_ne (ne_of_none e hc), upd_ne (ne_of_none e hn)]
    exact e
  · rw [upd_ne n2, upd_ne (Ne.symm n3), upd_same]
/-- e.f, e an error that stands in the heap -/
def tEx (K : PySem.W.Frag) (n : Str) (te : TE) : TE := fun σ H Q => te σ H fun x H1 => ∃ (a C : Addr) (fs : List (Str × V)) (v : V), x = .ref a ∧ XfC K C ∧ PySem.W.findIn K (.ref C) n = some none ∧ ErrAt H1 a C fs ∧ fs.lookup n = some v ∧ Q v H1
theorem pe_ex {X : Cx} {e : Expr} {te : TE} {pos : Pos} {n : Str} (he : PE X e te) (hb : attributeBase e n X.env (eval e X.env) = eval e X.env := by rfl) : PE X (.Attribute e n pos) (tEx X.K n te) := by
  refine ⟨fun pins s σ H Q I h => attr_of hb (thn (he.run pins s σ H _ I h) fun u s1 hh => ?_)⟩
  obtain ⟨x, H1, I1, rx, a, C, fs, v, rfl, T, hno, hE, hl, q⟩ := hh
  obtain rfl : u = Value.ref a := rx
  rcases hE with ⟨_, e0⟩ | ⟨d, h1, h2⟩
  · rw [e0] at hl
    cases hl
  · obtain ⟨t, ho⟩ := exo_at I1.hok h1
    obtain ⟨mA, hns, hrel⟩ := exd_at I1.hok h2
    obtain ⟨od, hod, hlk⟩ := lookIn_ns hns
    obtain ⟨u, hu, ru⟩ := RelO.some_of (v := v) (o := mA n) (by rw [← hl]; exact hrel n)
    have J : PySem.W.InstAt s1.heap a _ C (some od) := ⟨ho, rfl, rfl, hod⟩
    exact HandSPX.exc_get I1.kIn J T.ga T.gg T.exC (PySem.W.findObj_own T.hdC hno rfl (by rw [hlk, hu])) (handed_of ru) ⟨v, H1, I1.tok _, ru, q⟩
end Sup

namespace Law
open PySem PySem.Spec PyProof.Rows L2 Sup
/-! isinstance of a caught error that has its own dict -/
section
open PySem.W
variable {prog : Program} {w : World} {A : Around} {E : Value → Shared → Prop} {s : Shared} {K : Frag} {x D : Addr} {ox : Obj} {od : Option Obj}
theorem find_data {C : Addr} {nm : Str} {a g : Value} (h1 : (clsIn K C).isSome = true) (h2 : findIn K (.ref C) nm = some (some a)) (h3 : specialIn K a "__get__" = some (some g)) (h4 : takesIn K a = some true) :
    findObj K C od nm = some (.bind g a) := by
  obtain ⟨cd, hcd⟩ := Option.isSome_iff_exists.mp h1
  simp [findObj, hcd, h2, h3, h4]
theorem class_of_err (T : ExcC K D) {Q : Option Value → Shared → Prop} (X : K.In s.heap) (I : InstAt s.heap x ox D od) (h : Q (some (.ref D)) { s with toks := s.toks + 1 }) :
    wpAny (model prog w) A (getAttr? (.ref x) "__class__") Q E s := by
  have isS : (clsIn K D).isSome = true := by
    obtain ⟨cd, hcd, _⟩ := any_some T.hd
    rw [hcd]; rfl
  have hf : findObj K D od "__class__" = some (.bind (.builtin "getset_descriptor.__get__") (.builtin "object.__class__")) :=
    find_data isS T.ha T.hn T.ht
  obtain ⟨hp, g, d, t, os⟩ := s
  have M0 := I.type (M := model prog w)
  have M1 := looks_findIn (M := model prog w) X T.hg
  have M2 := looks_findIn (M := model prog w) X T.hk
  have M3 := looks_find (M := model prog w) X I hf
  have sub : Looks (model prog w) hp (isInstance (.ref x) (.type "BaseException")) true := M0.andThen (looks_subIn X T.hs)
  have n0 : (false && onTheHeap (Value.builtin "BaseException.__getattribute__")) = false := rfl
  have n1 : (onTheHeap (Value.ref D) && Value.builtin "BaseException.__getattribute__" == Value.builtin "object.__getattribute__") = false := by
    have z : (Value.builtin "BaseException.__getattribute__" == Value.builtin "object.__getattribute__") = false := by decide +kernel
    rw [z]; rfl
  unfold getAttr? getAttrBy? getAttrBy
  refine wpAny_bind (wpAny_mkText (wpAny_bind (wpAny_attempt (wpAny_holding (wpAny_bind (M0.at (wpAny_bind (M1.at ?_))))))))
  show wpAny _ _ (if (onTheHeap (Value.ref D) && Value.builtin "BaseException.__getattribute__" == Value.builtin "object.__getattribute__") = true
    then _ else _) _ _ _
  rw [n1, if_neg Bool.false_ne_true]
  unfold getAttrByItsOwn hookBefore
  refine wpAny_bind ?_
  rw [if_pos (show onTheHeap (Value.ref D) = true from rfl)]
  refine M2.at ?_
  refine wpAny_bind (wpAny_attempt (wpAny_holding ?_))
  unfold callGetattribute
  rw [n0, if_neg Bool.false_ne_true]
  unfold boundAndCalled
  rw [PySem.F.excAttr_ValueError.ga.bind (.ref x)]
  refine wpAny_bind (wpAny_pure ?_)
  show wpAny _ _ (call (.builtin "BaseException.__getattribute__")
    [.ref x, .str "__class__" t]) _ _ _
  refine wpAny_call (codeAny_call_builtin PySem.F.excAttr_ValueError.ga.plain PySem.F.entry_bexc_ga ?_)
  refine @check_slot (model prog w) _ _ ⟨hp, g, d, t + 1, os⟩ "BaseException.__getattribute__" "BaseException" "__getattribute__" (.ref x)
    [.str "__class__" t] [] _ (by decide +kernel) (by decide +kernel) sub (PySem.F.args_bexc_ga (.ref x) (.str "__class__" t)) ?_
  unfold Builtin.«object.__getattribute__»
  refine wpAny_bind (wpAny_of_eq (a := ((Value.ref x : Value), [Value.str "__class__" t])) (by first | rfl | (simp only [slotArgs]; rfl)) ?_)
  refine wpAny_bind (wpAny_pure (wpAny_bind (M0.at (wpAny_bind (M3.at ?_)))))
  show wpAny _ _ (holding [Value.builtin "object.__class__"] (call (.builtin "getset_descriptor.__get__")
    [.builtin "object.__class__", .ref x, .ref D]) >>= ret) _ _ _
  refine wpAny_bind (wpAny_holding (wpAny_call (class_get (s := ⟨hp, g, d, t + 1, os⟩) (ox := ox) (od := od) X I T.hm ?_)))
  refine wpAny_pure ?_
  show wpAny _ _ (handedOut (.ref D)) _ _ _
  rw [handedOut_of (v := .ref D) rfl]
  first
    | exact wpAny_pure (wpAny_pure h)
    | exact wpAny_pure h
    | exact wpAny_pure (wpAny_bind (wpAny_pure (wpAny_pure h)))
theorem kit_err (T : ExcC K D) : KitX K (.ref x) (.ref D) (fun h => ∃ od, InstAt h x ox D od) where
  ty := fun _ _ _ ⟨_, I⟩ => I.type
  it := fun _ _ X _ => by
    obtain ⟨cdD, hcD, _⟩ := any_some T.hd
    unfold clsIn at hcD
    split at hcD
    · rename_i ho
      intro A' Q' E' s' k q
      unfold isType loadHead
      exact wpAny_bind (wpAny_loadPart (k _ _ (X _ _ ho)) (wpAny_pure q))
    · cases hcD
  ne := fun h tp dd its n sl X htp => by
    obtain ⟨cdD, hcD, _⟩ := any_some T.hd
    unfold clsIn at hcD
    split at hcD
    · rename_i ho
      refine Bool.eq_false_iff.mpr fun q => ?_
      have e : D = tp := Value.ref.inj (beq_iff_eq.mp q)
      subst e
      have z := (X _ _ ho).symm.trans htp
      cases z
    · cases hcD
  ca := fun X I k => by
    obtain ⟨od, I⟩ := I
    exact class_of_err T X I k
end
/-- isinstance(e, c), e the exception that the suite holds, its own dict at d -/
def rIsD (K : PySem.W.Frag) (D a : Addr) (cls : Value) (d : Option Addr) : List V → Hp → VK → Prop := fun xs H Q =>
  ∃ (c : V) (cv : Value) (b : Bool) (dd : Addr) (fs : List (Str × V)), xs = [.ref a, c] ∧ cls = .ref D ∧ d = some dd ∧ H dd = some (.xd fs) ∧ (∀ u, RelV c u → u = cv) ∧ PySem.W.kitOne K (.ref D) cv = some b ∧ Q (.bl b) H
theorem call_isD {X : Cx} {a D : Addr} {oe : Obj} {cls : Value} {d : Option Addr} {pn : List (Addr × Obj)} (T : ExcC X.K D) (hz : Zc cls d oe) (hf : ∃ vs, oe.data = .fields vs) :
    CallR (X.suite a ((a, oe) :: pn)) (.builtin "isinstance") (rIsD X.K D a cls d) := by
  intro pins s σ H xs us Q I r h
  obtain ⟨c, cv, b, dd, fs, rfl, rfl, rfl, hd, hcv, e, q⟩ := h
  cases r with
  | cons rx rr =>
    cases rr with
    | cons rt rr =>
      cases rr
      cases rx
      have ec := hcv _ rt
      subst ec
      obtain ⟨hget, _⟩ := I.pin (a, oe) (List.mem_append.mpr (.inl List.mem_cons_self))
      obtain ⟨vs, hv⟩ := hf
      obtain ⟨mA, hns, _⟩ := (show ObjOk X.prog X.w H s.heap dd (.xd fs) from I.hok dd _ hd)
      obtain ⟨ob, ho, _⟩ := lookIn_ns hns
      have J : ∃ od, PySem.W.InstAt s.heap a oe D od := ⟨some ob, hget, hz.1, by unfold PySem.W.notCls; rw [hv], by rw [hz.2]; exact ho⟩
      exact PySem.W.kia_one (kit_err T) I.kIn J e (fun z => nomatch z) fun tk => ⟨.bl b, H, I.kept (t' := tk) fun _ _ z => z, rfl, q⟩
end Law

namespace Law
open PySem PySem.Spec PyProof.Rows L2 Sup
/-- isinstance(e, c), e an error that stands in the heap -/
def rIsX (K : PySem.W.Frag) : List V → Hp → VK → Prop := fun xs H Q => ∃ (a D : Addr) (fs : List (Str × V)) (c : V) (cv : Value) (b : Bool), xs = [.ref a, c] ∧ ExcC K D ∧ ErrAt H a D fs ∧ (∀ u, RelV c u → u = cv) ∧ PySem.W.kitOne K (.ref D) cv = some b ∧ Q (.bl b) H
theorem call_isX {X : Cx} : CallR X (.builtin "isinstance") (rIsX X.K) := by
  intro pins s σ H xs us Q I r h
  obtain ⟨a, D, fs, c, cv, b, rfl, T, hE, hcv, e, q⟩ := h
  obtain ⟨u1, u2, rfl, r1, r2⟩ := vals2 r
  cases (show u1 = Value.ref a from r1)
  have ec := hcv _ r2
  subst ec
  obtain ⟨ox, od, J⟩ := hE.inst (C := D) I
  exact PySem.W.kia_one (kit_err T) I.kIn ⟨od, J⟩ e (fun z => nomatch z) fun tk => ⟨.bl b, H, I.tok tk, rfl, q⟩
end Law

/-! Operators, repr and call of instances of own classes. -/
namespace Own
open PySem PySem.Spec PyProof.Rows L2
section
variable {X : Cx} {CX : CXT} {k : Nat} {C g : Addr} {sp : Sp} {E : XK} {pins : List (Addr × Obj)} {σ : L2.St} {H : Hp} {s : Shared}
theorem not_ni {v : V} {u : Value} (r : RelV v u) : u ≠ .notImplemented := fun z => by
  subst z
  cases v <;> first | (cases r; done) | (obtain ⟨_, z⟩ := r; cases z; done) | (obtain ⟨_, z⟩ := r; nomatch z)
theorem back {Q : VK} {u : Value} {s' : Shared} (h : EP X pins σ Q u s') : PySem.W.CmpBack (EP X pins σ Q) u s' := by
  obtain ⟨v, H', I', rv, q⟩ := id h
  have n := not_ni rv
  cases u <;> first | exact h | exact absurd rfl n
/-- a promise of an own method, asked at other surroundings with the same frames -/
theorem run_at {A : Around} {Q : VK} {us : List Value} {vs : List V} (F : FnR X.prog X.w X.K X.mg X.base CX k g sp) (hr : Room k A) (hfr : A.frames = some X.stack) (hx : Passes CX X E) (I : Inv X pins σ H s) (r : Vals vs us) (h : sp vs H Q E) :
    wpAny (model X.prog X.w) A (call (.ref g) us) (EP X pins σ Q) X.xe s := by
  have e0 : Env0 X.prog X.w X.K X.mg X.base A X.stack s H := by
    have e := I.env0
    exact ⟨hfr, e.mod, e.bs, e.bsz, e.funs, e.frf, e.hok, e.bare⟩
  refine wpAny_call (codeAny_mono (F A X.stack s H us vs Q E hr e0 r h) fun r s' hq => ?_)
  cases r with
  | error e => exact hx pins σ H s e s' I hq
  | ok fl =>
    cases fl with
    | ret u => exact I.after hq
    | next => exact False.elim hq
    | brk => exact False.elim hq
    | cont => exact False.elim hq
/-- two instances of the class at C, and what the operator's def promises of them -/
def rOwn (C : Addr) (sp : Sp) (E : XK) : R2 := fun x y H Q => ∃ a b dx dy fs gs, x = .ref a ∧ y = .ref b ∧ H a = some (.ins C dx fs) ∧ H b = some (.ins C dy gs) ∧ sp [.ref a, .ref b] H Q E
theorem op_cmp {op : CmpOp} (hop : ∀ v u, compareOp op v u = richCompare op v u) (F : FnR X.prog X.w X.K X.mg X.base CX k g sp) (hs : PySem.W.findIn X.K (.ref C) (cmpInfo op).2.1 = some (some (.ref g))) (hf : PySem.W.isFn X.K (.ref g) = true)
    (hr : Room k X.A) (hx : Passes CX X E) : OpR X (compareOp op) (rOwn C sp E) := by
  intro pins s σ H x y v u Q I rx ry h
  obtain ⟨a, b, dx, dy, fs, gs, rfl, rfl, ha, hb, hsp⟩ := h
  cases rx
  cases ry
  obtain ⟨mA, J, _⟩ := ins_get I.hok ha
  obtain ⟨mB, J', _⟩ := ins_get I.hok hb
  obtain ⟨od, J, _⟩ := J.look
  obtain ⟨od', J', _⟩ := J'.look
  obtain ⟨m, hF⟩ := I.fr
  rw [hop]
  refine PySem.W.cmp_K (op := op) (tb := .ref C) hr.units0 hF I.ok.mod.kin J J'.type (by simp [PySem.W.notFirst]) hs hf ?_
  exact wpAny_mono (wpAny_call (run_fnR F hr hx I (us := [.ref a, .ref b]) (vs := [.ref a, .ref b]) (.cons rfl (.cons rfl .nil)) hsp)) (fun _ _ z => back z) fun _ _ z => z
theorem op_bin {op : Operator} (hop : ∀ v u : Value, PySem.binaryOp op v u = PySem.binaryOp op v u) (F : FnR X.prog X.w X.K X.mg X.base CX k g sp) (hs : PySem.W.findIn X.K (.ref C) (PySem.dunder op.info.2) = some (some (.ref g))) (hf : PySem.W.isFn X.K (.ref g) = true)
    (hc : PySem.W.selfFirst X.K C = true) (hr : Room k X.A) (hx : Passes CX X E) : OpR X (PySem.binaryOp op) (rOwn C sp E) := by
  intro pins s σ H x y v u Q I rx ry h
  obtain ⟨a, b, dx, dy, fs, gs, rfl, rfl, ha, hb, hsp⟩ := h
  cases rx
  cases ry
  obtain ⟨mA, J, _⟩ := ins_get I.hok ha
  obtain ⟨mB, J', _⟩ := ins_get I.hok hb
  obtain ⟨od, J, _⟩ := J.look
  obtain ⟨od', J', _⟩ := J'.look
  obtain ⟨m, hF⟩ := I.fr
  refine PySem.W.binop_K (op := op) hF I.ok.mod.kin J J'.type hc hs hf ?_
  exact wpAny_mono (wpAny_call (run_fnR F hr hx I (us := [.ref a, .ref b]) (vs := [.ref a, .ref b]) (.cons rfl (.cons rfl .nil)) hsp)) (fun _ _ z => back z) fun _ _ z => z
/-- repr of an instance -/
def rRepr (C : Addr) (sp : Sp) (E : XK) : List V → Hp → VK → Prop := fun xs H Q => ∃ a dx fs, xs = [.ref a] ∧ H a = some (.ins C dx fs) ∧ sp [.ref a] H (fun v H' => ∃ y, v = .str y ∧ Q v H') E
theorem call_repr (F : FnR X.prog X.w X.K X.mg X.base CX k g sp) (hs : PySem.W.findIn X.K (.ref C) "__repr__" = some (some (.ref g))) (hf : PySem.W.isFn X.K (.ref g) = true)
    (hr : Room (k + 1) X.A) (hx : Passes CX X E) : CallR X (.builtin "repr") (rRepr C sp E) := by
  intro pins s σ H xs us Q I r h
  obtain ⟨a, dx, fs, rfl, ha, hsp⟩ := h
  obtain ⟨u, rfl, r1⟩ : ∃ u, us = [u] ∧ RelV (.ref a) u := by
    cases r with
    | cons r1 rr =>
      cases rr
      exact ⟨_, rfl, r1⟩
  cases r1
  obtain ⟨mA, J, _⟩ := ins_get I.hok ha
  obtain ⟨od, J, _⟩ := J.look
  obtain ⟨m, hF⟩ := I.fr
  refine PySem.W.repr_K ?_ hF I.ok.mod.kin J hs hf (wpAny_mono (run_at F ?_ ?_ hx I (us := [.ref a]) (vs := [.ref a]) (.cons rfl .nil) hsp) (fun u s' z => ?_) fun _ _ z => z)
  · have := hr.un
    show X.A.units + 1 < _
    omega
  · exact hr.in1
  · exact I.env0.frames
  · obtain ⟨v, H', I', rv, y, rfl, q⟩ := z
    obtain ⟨t, rfl⟩ := rv
    exact ⟨.str y, H', I', ⟨t, rfl⟩, q⟩
/-! ### != by the own == -/
theorem ifBound_B {M : Model} {A : Around} {Er : Value → Shared → Prop} {s : Shared} {K : PySem.W.Frag} {x C : Addr} {ox : Obj} {od : Option Obj} {name : Str} {id : String} {args : List Value} {Q : Option Value → Shared → Prop} (X : K.In s.heap) (I : PySem.W.InstAt s.heap x ox C od)
    (hs : PySem.W.findIn K (.ref C) name = some (some (.builtin id))) (hb : ∀ self, bindSpecial (.builtin id) self = pure (.builtin id, [self]))
    (h : wpAny M A (call (.builtin id) (.ref x :: args)) (fun v => Q (some v)) Er s) : wpAny M A (callSpecialIfBound? (.ref x) name args) Q Er s := by
  simp only [callSpecialIfBound?, bindSpecialIfBound?]
  refine wpAny_holding (wpAny_bind (wpAny_bind (wpAny_bind (I.type.here ((PySem.W.looks_findIn X hs).here ?_)))))
  refine wpAny_bind (wpAny_askSetting (wpAny_ite ?_))
  have fin : wpAny M A (call (.builtin id) ([.ref x] ++ args) >>= fun v => pure (some v)) Q Er s := wpAny_bind (wpAny_mono h (fun v s' h' => wpAny_pure h') fun _ _ h' => h')
  split
  · exact wpAny_bind ((PySem.W.Looks.of_pure (hb _)).here (wpAny_pure (by exact fin)))
  · exact wpAny_tryCatch (wpAny_bind ((PySem.W.Looks.of_pure (hb _)).here (wpAny_pure (by exact fin))))
def rOwnNe (C : Addr) (sp : Sp) (E : XK) : R2 := fun x y H Q => ∃ a b dx dy fs gs, x = .ref a ∧ y = .ref b ∧ H a = some (.ins C dx fs) ∧ H b = some (.ins C dy gs) ∧ sp [.ref a, .ref b] H (fun v H' => ∃ t, v = .bl t ∧ Q (.bl (!t)) H') E
theorem op_ne (F : FnR X.prog X.w X.K X.mg X.base CX k g sp) (hs : PySem.W.findIn X.K (.ref C) "__eq__" = some (some (.ref g))) (hn : PySem.W.findIn X.K (.ref C) "__ne__" = some (some (.builtin "object.__ne__"))) (hm : PySem.W.mroIn X.K C (.type "object") = some true)
    (hf : PySem.W.isFn X.K (.ref g) = true) (hr : Room (k + 1) X.A) (hx : Passes CX X E) : OpR X (compareOp .NotEq) (rOwnNe C sp E) := by
  intro pins s σ H x y v u Q I rx ry h
  obtain ⟨a, b, dx, dy, fs, gs, rfl, rfl, ha, hb, hsp⟩ := h
  cases rx
  cases ry
  obtain ⟨mA, J, _⟩ := ins_get I.hok ha
  obtain ⟨mB, J', _⟩ := ins_get I.hok hb
  obtain ⟨od, J, _⟩ := J.look
  obtain ⟨od', J', _⟩ := J'.look
  have KI := I.kIn
  have hu1 : X.A.in1.units < cLine := by
    have := hr.un
    show X.A.units + 1 < _
    omega
  have one : wpAny (model X.prog X.w) X.A (tryCompare (.ref a) (cmpInfo .NotEq).2.1 (.ref b)) (fun r s' => ∃ v, r = some v ∧ EP X pins σ Q v s') X.xe s := by
    unfold tryCompare
    refine wpAny_bind (ifBound_B KI J hn PySem.F.cmp_object.ne.bind (wpAny_call (codeAny_call_builtin PySem.F.cmp_object.ne.plain PySem.F.cmpEntry_ne
      (PySem.W.check_slot PySem.F.cmpKind_ne PySem.F.cmpSplit_ne (J.type.andThen (PySem.W.looks_mroIn KI hm)) (PySem.F.cmpArgs_ne _ _) ?_))))
    unfold Builtin.«object.__ne__»
    refine wpAny_bind (m := slotArgs "__ne__" 1 _) (wpAny_pure ?_)
    refine wpAny_bind (m := cRoomFor _ _) (wpAny_cRoomFor hu1 ?_)
    refine wpAny_bind (m := callSpecialIfBound? (.ref a) (Str.ofString "__eq__") _) (PySem.W.ifBound_K KI J hs hf (wpAny_mono (run_at F hr.in1 I.env0.frames hx I (us := [.ref a, .ref b]) (vs := [.ref a, .ref b]) (.cons rfl (.cons rfl .nil)) hsp) (fun u s' z => ?_) fun _ _ z => z))
    obtain ⟨v, H', I', rv, t, rfl, q⟩ := z
    cases rv
    refine wpAny_bind (m := truthy (.bool t)) (wpAny_truthy_bool ?_)
    first
      | exact wpAny_pure (wpAny_pure ⟨_, rfl, .bl (!t), H', I', rfl, q⟩)
      | exact wpAny_pure ⟨_, rfl, .bl (!t), H', I', rfl, q⟩
  show wpAny _ _ (richCompare .NotEq (.ref a) (.ref b)) _ _ _
  unfold richCompare
  simp only [PySem.oneThing_ref]
  refine wpAny_holding (wpAny_bind (wpAny_cRoomFor hr.units0 ?_))
  refine wpAny_bind (J.type.here (wpAny_bind (J'.type.here ?_)))
  rw [if_neg (by simp)]
  refine wpAny_bind (wpAny_pure ?_)
  simp only [Bool.false_eq_true, if_false]
  refine wpAny_bind (wpAny_mono one (fun r s' z => ?_) fun _ _ e => e)
  obtain ⟨v, rfl, hq⟩ := z
  exact wpAny_pure hq
end
/-! ### a def that returns NotImplemented -/
section
variable {P : Program} {w : World} {K : PySem.W.Frag} {mg : Str → Option Value} {base : Heap}
/-- on values of which pre holds the def at f returns NotImplemented and changes nothing -/
def NiOk (P : Program) (w : World) (K : PySem.W.Frag) (mg : Str → Option Value) (base : Heap) (k : Nat) (f : Addr) (pre : List V → Hp → Prop) : Prop :=
  ∀ (A : Around) (outer : List Env) (s : Shared) (H : Hp) (us : List Value) (vs : List V), Room k A → Env0 P w K mg base A outer s H → Vals vs us → pre vs H →
    codeAny (model P w) A (.call (.ref f) ⟨us, []⟩) (fun r s' => r = .ok (.ret .notImplemented) ∧ CE outer P w H s (fun _ H' => H' = H) .none s') s
theorem ni_def {x qual : Str} {st : Stmt} {f : Addr} {fd : FuncData} {N ps : List Str} {k : Nat} {pre : List V → Hp → Prop} {t : Expr} {els rest : List Stmt} {p2 p3 p4 : Pos} (F : Fun K x qual st f fd) (S : FnScope N ps (defScope st)) (hb : Binds K fd ps [])
    (len : ∀ vs H, pre vs H → vs.length = ps.length) (hbd : defBody st = .If t [.Return (some (.Name "NotImplemented" p2)) p3] els p4 :: rest) (hg : (defScope st).names.lookup ("NotImplemented" : Str) = some .globalImplicit) (hm : mg "NotImplemented" = none)
    (htest : ∀ (cdv : Value) (A : Around) (outer : List Env) (s : Shared) (H : Hp) (vs : List V), Room k (A.deeper (envOfC qual (defScope st) s.heap.objs.size f cdv)) → pre vs H →
      ∃ tt, PT (cxOf CX0 P w K mg base N qual (defScope st) f cdv A outer s H (fun _ _ _ => False)).nox t tt ∧ tt (start N vs) H (fun b H' => b = true ∧ H' = H)) :
    NiOk P w K mg base (k + 1) f pre := by
  intro A outer s H us vs hr e0 r hp
  have hl := len _ _ hp
  have hbind := hb s us (e0.mod.kin.keeps fun b o e => (e0.bs b o e).1) (by rw [List.append_nil, ← r.length]; exact hl)
  rw [List.append_nil] at hbind
  obtain ⟨oc, od, kV, doc, pm, an, cdv, ct, osl, rfl, lk, hcd⟩ := F.ex
  have KX : K.In s.heap := e0.mod.kin.keeps fun b o e => (e0.bs b o e).1
  have lim : s.heap.NoLimit := e0.mod.nolimit.keeps fun b o e => (e0.bs b o e).1
  have hkind : ∀ y ∈ ps.zip us, (defScope st).names.lookup y.1 = some .local ∨ ((defScope st).names.lookup y.1 = some .cell ∧ ((cellsFrom (s.heap.objs.size + 1) (defScope st).names []).lookup y.1).isSome = true) := fun ⟨n, v⟩ hy => by
    rcases S.par n (List.of_mem_zip hy).1 with q | q
    · exact .inl q
    · exact .inr ⟨q, PySem.W.cellsFrom_some _ _ _ (.inl q)⟩
  refine codeAny_call_function hr.depth (KX _ _ lk) rfl S.co S.gen rfl (PySem.W.codeRec_of KX hcd) (hbind _ _ _ _ ?_)
  refine wpAny_newFunctionEnv_cells S.kind hkind fun env he s1 x => ?_
  subst he
  refine ⟨lim.keeps x.toInCall.keep, codeAny_func ?_⟩
  obtain ⟨tt, ht, hq⟩ := htest cdv A outer s H vs (hr.deeper _) hp
  have I : L2.Inv (cxOf CX0 P w K mg base N qual (defScope st) f cdv A outer s H (fun _ _ _ => False)) [] (start N vs) H s1 := inv_start S hr.hd e0 hl r x
  rw [hbd]
  refine wpAny_execs_cons (wpAny_If (wpAny_mono (ht.run [] s1 (start N vs) H _ (I.wish _) hq) (fun b s2 h2 => ?_) fun e s' z => False.elim z))
  obtain ⟨H2, I2, rfl, rfl⟩ := h2
  refine wpAny_execs_cons (wpAny_Return_some (ld_blt I2 hg hm (u := .notImplemented) (by decide +kernel) ?_))
  exact ⟨rfl, .non, _, I2.os, I2.bare, I2.base, I2.hok, rfl, rfl⟩
end
section
variable {X : Cx} {CX : CXT} {k : Nat} {C g : Addr} {sp : Sp} {E : XK} {pre : List V → Hp → Prop}
theorem int_eq_ref (a : Int) (t : Tok) (b C dx : Addr) : Meets (Builtin.«int.__eq__» ⟨[.int a t, .ref b], []⟩) (fun _ R s => s.heap.get? b = some (PySem.W.instObj C dx) ∧ R (.ok (.ret Value.notImplemented)) s) :=
  .of_wp fun prog w A R s h => by
    obtain ⟨hp, g, d, tk, os⟩ := s
    obtain ⟨hl, h⟩ := h
    wp_walk using wpAny_load' hl
    exact ⟨_, rfl, h⟩
/-- an instance == a whole number, where the own == declines -/
def rEqI (C : Addr) (pre : List V → Hp → Prop) : R2 := fun x y H Q => ∃ a dx fs i, x = .ref a ∧ y = .int i ∧ H a = some (.ins C dx fs) ∧ pre [.ref a, .int i] H ∧ Q (.bl false) H
theorem op_eqI (N : NiOk X.prog X.w X.K X.mg X.base k g pre) (hs : PySem.W.findIn X.K (.ref C) "__eq__" = some (some (.ref g))) (hf : PySem.W.isFn X.K (.ref g) = true) (hsub : PySem.W.subIn X.K (.type "int") (.ref C) = some false)
    (hr : Room k X.A) : OpR X (compareOp .Eq) (rEqI C pre) := by
  intro pins s σ H x y v u Q I rx ry h
  obtain ⟨a, dx, fs, i, rfl, rfl, ha, hp, q⟩ := h
  cases rx
  obtain ⟨t, rfl⟩ := ry
  obtain ⟨mA, J, _⟩ := ins_get I.hok ha
  obtain ⟨od, J, _⟩ := J.look
  have KI := I.kIn
  show wpAny _ _ (richCompare .Eq (.ref a) (.int i t)) _ _ _
  unfold richCompare
  simp only [PySem.oneThing_ref]
  refine wpAny_holding (wpAny_bind (wpAny_cRoomFor hr.units0 ?_))
  refine wpAny_bind (J.type.here (wpAny_bind ((PySem.W.Looks.of_pure (M := model X.prog X.w) (h := s.heap) (show typeOf (.int i t) = pure (.type "int") from rfl)).here ?_)))
  have hne : (Value.ref C != Value.type "int") = true := by
    have z : (Value.ref C == Value.type "int") = false := Bool.eq_false_iff.mpr fun q => by cases beq_iff_eq.mp q
    show (!(Value.ref C == Value.type "int")) = true
    rw [z]; rfl
  rw [if_pos hne]
  refine wpAny_bind ((PySem.W.looks_subIn KI hsub).here ?_)
  simp only [Bool.false_eq_true, if_false]
  refine wpAny_bind (m := tryCompare (.ref a) _ (.int i t)) ?_
  unfold tryCompare
  have cl : wpAny (model X.prog X.w) X.A (call (.ref g) [.ref a, .int i t]) (fun u s' => u = .notImplemented ∧ L2.Inv X pins σ H s') X.xe s := by
    refine wpAny_call (codeAny_mono (N X.A X.stack s H [.ref a, .int i t] [.ref a, .int i] hr I.env0 (.cons rfl (.cons ⟨t, rfl⟩ .nil)) hp) fun r s' z => ?_)
    obtain ⟨rfl, z⟩ := z
    obtain ⟨v, H', I', rv, e⟩ := I.after z
    rw [e] at I'
    exact ⟨rfl, I'⟩
  refine wpAny_bind (PySem.W.ifBound_K KI J hs hf (wpAny_mono cl (fun u s' z => ?_) fun _ _ z => z))
  obtain ⟨rfl, I'⟩ := z
  refine wpAny_pure ?_
  obtain ⟨mA', J', _⟩ := ins_get I'.hok ha
  obtain ⟨od', J', _⟩ := J'.look
  dsimp only
  refine wpAny_bind (m := tryCompare (.int i t) _ (.ref a)) ?_
  refine wpAny_tryCompare_declines (typeIs_int _ i t) PySem.F.slot_int_eq (call_meets PySem.F.slot_int_eq (typeIs_int _ i t) PySem.F.entry_int_eq (PySem.F.args_int_eq_2 _ _) (int_eq_ref i t a C dx) ⟨J'.at_, rfl, ?_⟩)
  dsimp only
  refine wpAny_bind (wpAny_rule (wpAny_bind (wpAny_isSame_plain (by rfl) (wpAny_pure ?_))))
  have z : (Value.ref a == Value.int i t) = false := Bool.eq_false_iff.mpr fun q => by cases beq_iff_eq.mp q
  rw [z]
  exact ⟨.bl false, H, I', rfl, q⟩
end
/-! ### x(e, ..) and x(), x a local name that holds an instance -/
section
variable {X : Cx} {CX : CXT} {k i : Nat} {C g : Addr} {sp : Sp} {E : XK} {x : Str} {e : Expr} {es : List Expr} {t : TA} {p pos : Pos}
theorem run_ins {pins : List (Addr × Obj)} {σ : L2.St} {H : Hp} {s : Shared} {Q : VK} {a dx : Addr} {fs : List (Str × V)} {us : List Value} {vs : List V} (c : StX.CallO X.K C g) (F : FnR X.prog X.w X.K X.mg X.base CX k g sp) (hr : Room k X.A) (hx : Passes CX X E) (I : L2.Inv X pins σ H s)
    (ha : H a = some (.ins C dx fs)) (r : Vals vs us) (h : sp (V.ref a :: vs) H Q E) : wpAny (model X.prog X.w) X.A (call (.ref a) us) (EP X pins σ Q) X.xe s := by
  obtain ⟨mA, J, _⟩ := ins_get I.hok ha
  obtain ⟨od, J, _⟩ := J.look
  exact wpAny_call (PySem.W.kco_code I.kIn J rfl c.at_ c.fn c.fi (run_fnR (us := .ref a :: us) (vs := .ref a :: vs) F hr hx I (.cons rfl r) h))
def tCallI (i : Nat) (C : Addr) (sp : Sp) (E : XK) (t : TA) : TE := fun σ H Q => ∃ a, σ[i]? = some (some (.ref a)) ∧ t σ H fun vs H1 => (∃ dx fs, H1 a = some (.ins C dx fs)) ∧ sp (V.ref a :: vs) H1 Q E
theorem pe_callI (c : StX.CallO X.K C g) (F : FnR X.prog X.w X.K X.mg X.base CX k g sp) (hr : Room k X.A) (hx : Passes CX X E) (hN : X.N[i]? = some x) (hv : Vis X.env.scope x) (ha : PA X (e :: es) t)
    (hd : (x == ("__debug__" : Str)) = false := by decide) (hcd : (x == ("__classdict__" : Str)) = false := by decide)
    (he : starEach (e :: es) X.env = (false, eval e X.env) :: starEach es X.env := by rfl) (hpl : (backTo pos (starEach es X.env)).any (·.1) = false := by rfl) : PE X (.Call (.Name x p) (e :: es) [] pos) (tCallI i C sp E t) := by
  refine ⟨fun pins s σ H Q I h => ?_⟩
  obtain ⟨a, hs, h⟩ := h
  refine wpAny_Call_Name_kw (thn ((pe_var (pos := p) (i := i) hN hv hd hcd).run pins s σ H (fun v H1 => v = .ref a ∧ H1 = H) I ⟨.ref a, hs, rfl, rfl⟩) fun u s1 ⟨v, H1, I1, r1, ev, eH⟩ => ?_)
  subst ev
  rw [eH] at I1
  cases r1
  refine StX.callO_with (thn (ha.run pos pins s1 σ H _ I1 h) fun us s2 ⟨vs, H2, I2, r, ⟨dx, fs, hi⟩, q2⟩ => ?_) he hpl
  obtain ⟨mA, J, _⟩ := ins_get I2.hok hi
  obtain ⟨od, J, _⟩ := J.look
  exact ⟨⟨C, _, _, J, rfl⟩, run_ins c F hr hx I2 hi r q2⟩
theorem pe_callI0 (c : StX.CallO X.K C g) (F : FnR X.prog X.w X.K X.mg X.base CX k g sp) (hr : Room k X.A) (hx : Passes CX X E) (hN : X.N[i]? = some x) (hv : Vis X.env.scope x)
    (hd : (x == ("__debug__" : Str)) = false := by decide) (hcd : (x == ("__classdict__" : Str)) = false := by decide) : PE X (.Call (.Name x p) [] [] pos) (tCallI i C sp E tNil) := by
  refine ⟨fun pins s σ H Q I h => ?_⟩
  obtain ⟨a, hs, ⟨dx, fs, hi⟩, h⟩ := h
  refine wpAny_Call_Name_kw (thn ((pe_var (pos := p) (i := i) hN hv hd hcd).run pins s σ H (fun v H1 => v = .ref a ∧ H1 = H) I ⟨.ref a, hs, rfl, rfl⟩) fun u s1 ⟨v, H1, I1, r1, ev, eH⟩ => ?_)
  subst ev
  rw [eH] at I1
  cases r1
  obtain ⟨mA, J, _⟩ := ins_get I1.hok hi
  obtain ⟨od, J, _⟩ := J.look
  exact PySem.W.kco_callWith0 (K := X.K) I1.kIn J rfl c.at_ (run_ins (us := []) c F hr hx I1 hi .nil h)
end
end Own

namespace Own
open PySem PySem.Spec PyProof.Rows L2
/-- a promise told of the values as they come -/
theorem fnr_of {P : Program} {w : World} {K : PySem.W.Frag} {mg : Str → Option Value} {base : Heap} {CX : CXT} {k : Nat} {f : Addr} {fd : FuncData} {ps : List Str} {sp : Sp} {dvs : List V} {ds : List Value} (G : FnOk P w K mg base CX k f fd ps sp) (hb : Binds K fd ps ds) (hd : Vals dvs ds) :
    FnR P w K mg base CX k f (fun vs H Q E => sp (vs ++ dvs) H Q E) := fun A outer s H us vs Q E hr e0 r h => by
  have KX : K.In s.heap := e0.mod.kin.keeps fun b o e => (e0.bs b o e).1
  have hl : (us ++ ds).length = ps.length := by
    have e := (r.append hd).length
    rw [G.len _ _ _ _ h] at e
    exact e.symm
  exact G.run A outer s H ⟨us, []⟩ (us ++ ds) (vs ++ dvs) Q E hr e0 (hb s us KX hl) (r.append hd) h
theorem fnr0 {P : Program} {w : World} {K : PySem.W.Frag} {mg : Str → Option Value} {base : Heap} {CX : CXT} {k : Nat} {f : Addr} {fd : FuncData} {ps : List Str} {sp : Sp} (G : FnOk P w K mg base CX k f fd ps sp) (hb : Binds K fd ps []) :
    FnR P w K mg base CX k f sp := (fnr_of G hb .nil).imp fun vs H Q E h => by rw [List.append_nil]; exact h
section
variable {X : Cx} {CX : CXT} {k i : Nat} {C g f : Addr} {sp : Sp} {E : L2.St → XK} {x : Str} {e a b : Expr} {es : List Expr} {t : TA} {ta tb : TE} {p pos : Pos} {fd : FuncData} {ps : List Str} {dvs : List V} {ds : List Value}
theorem run_fnRS {pins : List (Addr × Obj)} {σ : L2.St} {H : Hp} {s : Shared} {Q : VK} {us : List Value} {vs : List V} (F : FnR X.prog X.w X.K X.mg X.base CX k g sp) (hr : Room k X.A) (hx : PassesAt CX X σ (E σ)) (I : L2.Inv X pins σ H s) (r : Vals vs us) (h : sp vs H Q (E σ)) :
    codeAny (model X.prog X.w) X.A (.call (.ref g) ⟨us, []⟩) (fun r s' => match r with | .ok (.ret v) => EP X pins σ Q v s' | .ok _ => False | .error e => X.xe e s') s := by
  refine codeAny_mono (F X.A X.stack s H us vs Q (E σ) hr I.env0 r h) fun r s' hq => ?_
  cases r with
  | error e => exact hx pins H s e s' I hq
  | ok fl =>
    cases fl with
    | ret u => exact I.after hq
    | next => exact False.elim hq
    | brk => exact False.elim hq
    | cont => exact False.elim hq
/-- a + b of two instances of one own class -/
theorem pe_binS {op : Operator} (F : FnR X.prog X.w X.K X.mg X.base CX k g sp) (hs : PySem.W.findIn X.K (.ref C) (PySem.dunder op.info.2) = some (some (.ref g))) (hf : PySem.W.isFn X.K (.ref g) = true) (hc : PySem.W.selfFirst X.K C = true) (hr : Room k X.A)
    (hx : ∀ σ, PassesAt CX X σ (E σ)) (ha : PE X a ta) (hb : PE X b tb) : PE X (.BinOp a op b pos) (fun σ H Q => ta σ H fun x H1 => tb σ H1 fun y H2 => rOwn C sp (E σ) x y H2 Q) := by
  refine ⟨fun pins s σ H Q I h => ?_⟩
  have h' : tOp (fun x y H2 Q => rOwn C sp (E σ) x y H2 Q) ta tb σ H Q := h
  refine wpAny_BinOp (binT ha hb I h' fun v u s2 x y H2 I2 rx ry q => ?_)
  obtain ⟨a, b, dx, dy, fs, gs, rfl, rfl, ha, hb, hsp⟩ := q
  cases rx
  cases ry
  obtain ⟨mA, J, _⟩ := ins_get I2.hok ha
  obtain ⟨mB, J', _⟩ := ins_get I2.hok hb
  obtain ⟨od, J, _⟩ := J.look
  obtain ⟨od', J', _⟩ := J'.look
  obtain ⟨m, hF⟩ := I2.fr
  refine PySem.W.binop_K (op := op) hF I2.ok.mod.kin J J'.type hc hs hf ?_
  exact wpAny_mono (wpAny_call (run_fnRS F hr (hx σ) I2 (us := [.ref a, .ref b]) (vs := [.ref a, .ref b]) (.cons rfl (.cons rfl .nil)) hsp)) (fun _ _ z => back z) fun _ _ z => z
/-- C(e, ..) whose __init__ may raise -/
structure MkS (C : Addr) (sp : Sp) (E : XK) (vs : List V) (H1 : Hp) (Q : VK) : Prop where
  run : ∀ x dx, H1 x = Option.none → H1 dx = Option.none → dx ≠ x → sp (V.ref x :: vs) (upd (upd H1 dx (.own x)) x (.ins C dx [])) (fun v H2 => v = .non ∧ Q (.ref x) H2) E
def tMakeS (C : Addr) (sp : Sp) (E : L2.St → XK) (t : TA) : TE := fun σ H Q => t σ H fun vs H1 => MkS C sp (E σ) vs H1 Q
theorem pe_makeS (M : Mk X.K C f) (F : FnR X.prog X.w X.K X.mg X.base CX k f sp) (hr : Room (k + 1) X.A) (hg : Gl X x) (hm : X.mg x = some (.ref C)) (hx : ∀ σ, PassesAt CX X σ (E σ)) (ha : PA X (e :: es) t) (hdb : (x == ("__debug__" : Str)) = false := by decide)
    (he : starEach (e :: es) X.env = (false, eval e X.env) :: starEach es X.env := by rfl) (hpl : (backTo pos (starEach es X.env)).any (·.1) = false := by rfl) : PE X (.Call (.Name x p) (e :: es) [] pos) (tMakeS C sp E t) := by
  refine ⟨fun pins s σ H Q I h => ?_⟩
  refine wpAny_Call_Name_kw (ld_glob I hg hm ?_ hdb)
  refine PySem.W.callWith_K (h₀ := X.base) I.ok.mod.kin M.kp (thn (ha.run pos pins s σ H _ I h) fun us s1 ⟨vs, H1, I1, r, q⟩ => ⟨I1.kIn, ?_⟩) he hpl
  have hq := q.run (s1.heap.objs.size + 1) s1.heap.objs.size (I1.hok.fresh (Nat.le_succ _)) (I1.hok.fresh (Nat.le_refl _)) (Nat.ne_of_lt (Nat.lt_succ_self _))
  have I2 := Inv.made (C := C) I1
  have r2 : Vals (V.ref (s1.heap.objs.size + 1) :: vs) (Value.ref (s1.heap.objs.size + 1) :: us) := .cons rfl r
  refine wpAny_call (make_map (f := f) I1.kIn M.makes M.init (beq_iff_eq.mp M.fn) (codeAny_mono (F _ X.stack _ _ (Value.ref (s1.heap.objs.size + 1) :: us) _ _ (E σ) (hr.make C us []) (I2.env0.make C us []) r2 hq) fun r s' hq' => ?_))
  cases r with
  | error e => exact hx σ pins _ _ e s' I2 hq'
  | ok fl =>
    cases fl with
    | ret u =>
      obtain ⟨v, H', I3, rv, ev, q3⟩ := I2.after hq'
      subst ev
      exact ⟨rv, ⟨V.ref (s1.heap.objs.size + 1), H', I3, rfl, q3⟩⟩
    | next => exact False.elim hq'
    | brk => exact False.elim hq'
    | cont => exact False.elim hq'
def tCallIS (i : Nat) (C : Addr) (sp : Sp) (E : L2.St → XK) (t : TA) : TE := fun σ H Q => ∃ a, σ[i]? = some (some (.ref a)) ∧ t σ H fun vs H1 => (∃ dx fs, H1 a = some (.ins C dx fs)) ∧ sp (V.ref a :: vs) H1 Q (E σ)
theorem run_insS {pins : List (Addr × Obj)} {σ : L2.St} {H : Hp} {s : Shared} {Q : VK} {a dx : Addr} {fs : List (Str × V)} {us : List Value} {vs : List V} (c : StX.CallO X.K C g) (F : FnR X.prog X.w X.K X.mg X.base CX k g sp) (hr : Room k X.A) (hx : PassesAt CX X σ (E σ)) (I : L2.Inv X pins σ H s)
    (ha : H a = some (.ins C dx fs)) (r : Vals vs us) (h : sp (V.ref a :: vs) H Q (E σ)) : wpAny (model X.prog X.w) X.A (call (.ref a) us) (EP X pins σ Q) X.xe s := by
  obtain ⟨mA, J, _⟩ := ins_get I.hok ha
  obtain ⟨od, J, _⟩ := J.look
  exact wpAny_call (PySem.W.kco_code I.kIn J rfl c.at_ c.fn c.fi (run_fnRS (us := .ref a :: us) (vs := .ref a :: vs) F hr hx I (.cons rfl r) h))
theorem pe_callIS (c : StX.CallO X.K C g) (F : FnR X.prog X.w X.K X.mg X.base CX k g sp) (hr : Room k X.A) (hx : ∀ σ, PassesAt CX X σ (E σ)) (hN : X.N[i]? = some x) (hv : Vis X.env.scope x) (ha : PA X (e :: es) t)
    (hd : (x == ("__debug__" : Str)) = false := by decide) (hcd : (x == ("__classdict__" : Str)) = false := by decide)
    (he : starEach (e :: es) X.env = (false, eval e X.env) :: starEach es X.env := by rfl) (hpl : (backTo pos (starEach es X.env)).any (·.1) = false := by rfl) : PE X (.Call (.Name x p) (e :: es) [] pos) (tCallIS i C sp E t) := by
  refine ⟨fun pins s σ H Q I h => ?_⟩
  obtain ⟨a, hs, h⟩ := h
  refine wpAny_Call_Name_kw (thn ((pe_var (pos := p) (i := i) hN hv hd hcd).run pins s σ H (fun v H1 => v = .ref a ∧ H1 = H) I ⟨.ref a, hs, rfl, rfl⟩) fun u s1 ⟨v, H1, I1, r1, ev, eH⟩ => ?_)
  subst ev
  rw [eH] at I1
  cases r1
  refine StX.callO_with (thn (ha.run pos pins s1 σ H _ I1 h) fun us s2 ⟨vs, H2, I2, r, ⟨dx, fs, hi⟩, q2⟩ => ?_) he hpl
  obtain ⟨mA, J, _⟩ := ins_get I2.hok hi
  obtain ⟨od, J, _⟩ := J.look
  exact ⟨⟨C, _, _, J, rfl⟩, run_insS c F hr (hx σ) I2 hi r q2⟩
theorem pe_callIS0 (c : StX.CallO X.K C g) (F : FnR X.prog X.w X.K X.mg X.base CX k g sp) (hr : Room k X.A) (hx : ∀ σ, PassesAt CX X σ (E σ)) (hN : X.N[i]? = some x) (hv : Vis X.env.scope x)
    (hd : (x == ("__debug__" : Str)) = false := by decide) (hcd : (x == ("__classdict__" : Str)) = false := by decide) : PE X (.Call (.Name x p) [] [] pos) (tCallIS i C sp E tNil) := by
  refine ⟨fun pins s σ H Q I h => ?_⟩
  obtain ⟨a, hs, ⟨dx, fs, hi⟩, h⟩ := h
  refine wpAny_Call_Name_kw (thn ((pe_var (pos := p) (i := i) hN hv hd hcd).run pins s σ H (fun v H1 => v = .ref a ∧ H1 = H) I ⟨.ref a, hs, rfl, rfl⟩) fun u s1 ⟨v, H1, I1, r1, ev, eH⟩ => ?_)
  subst ev
  rw [eH] at I1
  cases r1
  obtain ⟨mA, J, _⟩ := ins_get I1.hok hi
  obtain ⟨od, J, _⟩ := J.look
  exact PySem.W.kco_callWith0 (K := X.K) I1.kIn J rfl c.at_ (run_insS (us := []) c F hr (hx σ) I1 hi .nil h)
end
end Own

/-! Several except clauses, each with a name for the error. -/
namespace TryAs
open PySem PySem.Spec PyProof.Rows L2
abbrev Su := Addr → Value → Option Addr → TS
/-- the ends of a suite whose name in slot i goes behind it -/
def endsOf (i : Nat) (D : Ends) : Ends := { nx := fun σ' H' => D.nx (σ'.set i none) H', rt := D.rt, bk := fun σ' H' => D.bk (σ'.set i none) H', ct := fun σ' H' => D.ct (σ'.set i none) H' }
/-- what the clauses wish of an error, from the first on: class, slot of the name, suite -/
def wAsM (K : PySem.W.Frag) (Wout : WX) (D : Ends) : List (Value × Nat × Su) → WX
  | [] => Wout
  | (c, i, ts) :: r => fun cls d σ H => ∃ b, PySem.W.exmOne K cls c = some b ∧ (b = true → ∀ a, H a = none → ts a cls d (endsOf i D) (σ.set i (some (.ref a))) H) ∧ (b = false → wAsM K Wout D r cls d σ H)
inductive Hds (X : Cx) : List ExceptHandler → List (Value × Nat × Su) → Prop
  | nil : Hds X [] []
  | cons {x n : Str} {c : Value} {i : Nat} {ts : Su} {b₀ : Stmt} {suite : List Stmt} {np pos' : Pos} {hds : List ExceptHandler} {l : List (Value × Nat × Su)} (hi : X.N[i]? = some n) (hln : X.env.kindOf n = some .local) (hc : Names X x c)
      (hsu : ∀ (a : Addr) (oe : Obj) (cls : Value) (d : Option Addr) (pn : List (Addr × Obj)), Zc cls d oe → (∃ vs, oe.data = .fields vs) → PSs (X.suite a ((a, oe) :: pn)) (b₀ :: suite) (ts a cls d)) (r : Hds X hds l) :
      Hds X (.ExceptHandler (some (.Name x np)) (some n) (b₀ :: suite) pos' :: hds) ((c, i, ts) :: l)
section
variable {X : Cx} {body : List Stmt} {h₀ : ExceptHandler} {hds : List ExceptHandler} {l : List (Value × Nat × Su)} {pos : Pos} {tb : WX → TS} {Wout : WX}
theorem ps_try_asM (hs : X.stack = X.env :: X.outer) (hf : X.env.frame = some X.env.locals) (hN : X.N.Nodup) (tk : Takes X Wout)
    (hb : ∀ (W : WX) (pn : List (Addr × Obj)) (xe : Value → Shared → Prop), Takes (X.tr pn xe) W → PassesOwn (model X.prog X.w) X.A X.env xe → PSs (X.tr pn xe) body (tb W))
    (hh : Hds X (h₀ :: hds) l) : PS X (.Try body (h₀ :: hds) [] [] pos) (fun D σ H => tb (wAsM X.K Wout D l) D σ H) := by
  refine ⟨fun pins s σ H D I h => wpAny_Try_except ?_⟩
  have ok := I.ok
  have hfr : X.A.frames = some (X.env :: X.outer) := by rw [ok.frames, hs]
  refine wpAny_mono ((hb (wAsM X.K Wout D l) (X.pn ++ pins) (fun e s₁ => wpAny (model X.prog X.w) X.A (noteFrame e X.env) (fun _ s₂ => wpAny (model X.prog X.w) X.A (setFlight e none) (fun _ s₃ =>
    wpAny (model X.prog X.w) X.A (handleBy e X.env (h₀ :: hds)) (SP X pins D) X.xe s₃) X.xe s₂) X.xe s₁) (fun u s' xx => ?_) PassesOwn.looking).run [] s σ H D (I.toTry _) h) (fun f s1 hsp => ?_) (fun e s1 he => he)
  · obtain ⟨a, B, sI, pins', σ', H', cls, d, rfl, J', nb, up, sky, na, os, ag, w⟩ := xx
    have J : Inv X pins σ' H' sI := J'.ofTry ok
    show wpAny (model X.prog X.w) X.A (noteFrame (.ref a) X.env) _ _ _
    refine Sky.land Zc.steady hfr hf (show Sky B (X.env :: X.outer) a (Zc cls d) X.env.locals s'.heap by rw [← hs]; exact sky) fun h3 fl3 up3 => ?_
    have J3 : Inv X pins σ' H' { s' with heap := h3 } := J.landed nb fl3.1 (up.trans up3) os ag
    obtain ⟨oe3, vs3, he3, hz3, hd3⟩ := fl3.there
    have nfr : a ∉ frs (X.env :: X.outer) := fun hm => by
      obtain ⟨_, o', e', hnf⟩ := fl3.2.2.1.mem hm
      rw [he3] at e'
      cases e'
      exact hnf _ hd3
    have nL : a ≠ X.env.locals := fun z => nfr (List.mem_filterMap.mpr ⟨X.env, List.mem_cons_self, by rw [hf, z]⟩)
    have nF : a ∉ X.fs := fun hm => by
      obtain ⟨e, he, q⟩ := List.mem_filterMap.mp hm
      exact nfr (List.mem_filterMap.mpr ⟨e, List.mem_cons_of_mem _ he, q⟩)
    have S3 := J3.suite he3 hd3 na nL nF
    have go : ∀ {hds' : List ExceptHandler} {l' : List (Value × Nat × Su)}, Hds X hds' l' → wAsM X.K Wout D l' cls d σ' H' →
        wpAny (model X.prog X.w) X.A (handleBy (.ref a) X.env hds') (SP X pins D) X.xe { s' with heap := h3 } := fun {hds' l'} hk => by
      induction hk with
      | nil =>
        intro w
        refine wpAny_handleBy_nil ?_
        obtain ⟨k1, k2, k3, oe, vs, T, oT, ts', he, hz, hd, h1, hr⟩ := id fl3
        unfold PySem.passOn
        refine wpAny_bind (wpAny_field he hd h1 ?_)
        rw [if_neg (show ¬ ((Value.ref T == Value.none) = true) from by simp)]
        have fin : wpAny (model X.prog X.w) X.A (setFlight (.ref a) X.env.frame) (fun _ s4 => wpAny (model X.prog X.w) X.A (throw (.ref a) : Sem Flow) (SP X pins D) X.xe s4) X.xe { s' with heap := h3 } := by
          rw [hf]
          exact HandSPX.setFlight_upZ fl3 fun h4 hh4 up4 => wpAny_throw (tk _ _ ⟨a, B, sI, pins, σ', H', cls, d, rfl, J, nb, (up.trans up3).trans up4, .inr (.inr (by rw [hs]; exact hh4)), na, os, ag, w⟩)
        first
          | exact wpAny_bind (wpAny_pure (wpAny_bind fin))
          | exact wpAny_bind fin
      | @cons x n c i ts b₀ suite np pos' hds2 l2 hi hln hc hsu r ih =>
        intro w
        obtain ⟨b, hb1, hyes, hno⟩ := w
        refine wpAny_handleBy_cons (codeAny_handlers_test ?_) (by intro q; cases q)
        have LT : PySem.W.Looks (model X.prog X.w) h3 (typeOf (.ref a)) cls := fun A Q E s k q => wpAny_typeOf_ref (k _ _ he3) (by rw [hz3.1]; exact q)
        have LM := PySem.W.exm_one (M := model X.prog X.w) (J3.kIn) LT hb1
        have test : ∀ {Q : Value → Shared → Prop} {E : Value → Shared → Prop}, Q c { s' with heap := h3 } → wpAny (model X.prog X.w) (X.A.mark (some (.ref a))) (eval (.Name x np) X.env) Q E { s' with heap := h3 } := fun {Q E} q => by
          obtain ⟨hg, hdbg, hm | ⟨hm, hv, hnn⟩⟩ := hc
          · exact ld_glob (X := X.suite a ((a, oe3) :: (X.pn ++ pins))) S3 hg hm q hdbg
          · exact ld_blt (X := X.suite a ((a, oe3) :: (X.pn ++ pins))) S3 hg hm hv q hnn hdbg
        refine test (LM.here ?_)
        cases b with
        | false => exact ih (hno rfl)
        | true =>
          refine codeAny_handlers_suite_as (HandSPX.lands_againZ fl3 fun h4 fl4 up4 => ?_)
          have J4 : Inv X pins σ' H' { s' with heap := h4 } := J.landed nb fl4.1 ((up.trans up3).trans up4) os ag
          obtain ⟨oe4, vs4, he4, hz4, hd4⟩ := fl4.there
          refine store_ok (X := X.suite a ((a, oe4) :: (X.pn ++ pins))) (v := .ref a) (J4.suite he4 hd4 na nL nF) hN hi (.inl hln) rfl (fun s5 S5 => ?_) (.inr hln)
          refine wpAny_mono ((hsu a oe4 cls d (X.pn ++ pins) hz4 ⟨_, hd4⟩).run [] s5 _ H' _ S5 (hyes rfl a na)) (fun f s6 hsp => ?_) (fun _ _ z => False.elim z)
          cases f with
          | next =>
            obtain ⟨σ6, H6, S6, q6⟩ := hsp
            exact gone_ok (S6.unsuite ok) hN hi hln fun s7 J7 => ⟨_, _, J7, q6⟩
          | brk =>
            obtain ⟨σ6, H6, S6, q6⟩ := hsp
            exact gone_ok (S6.unsuite ok) hN hi hln fun s7 J7 => ⟨_, _, J7, q6⟩
          | cont =>
            obtain ⟨σ6, H6, S6, q6⟩ := hsp
            exact gone_ok (S6.unsuite ok) hN hi hln fun s7 J7 => ⟨_, _, J7, q6⟩
          | ret u =>
            obtain ⟨v6, σ6, H6, S6, r6, q6⟩ := hsp
            exact gone_ok (S6.unsuite ok) hN hi hln fun s7 J7 => ⟨_, _, _, J7, r6, q6⟩
    exact go hh w
  · cases f with
    | next =>
      obtain ⟨σ', H', J', q⟩ := hsp
      exact wpAny_execs_nil ⟨σ', H', J'.ofTry ok, q⟩
    | brk =>
      obtain ⟨σ', H', J', q⟩ := hsp
      exact ⟨σ', H', J'.ofTry ok, q⟩
    | cont =>
      obtain ⟨σ', H', J', q⟩ := hsp
      exact ⟨σ', H', J'.ofTry ok, q⟩
    | ret u =>
      obtain ⟨v, σ', H', J', r, q⟩ := hsp
      exact ⟨v, σ', H', J'.ofTry ok, r, q⟩
end
end TryAs

/-! len and in of instances by their own defs; methods that raise, in a try. -/
namespace Own
open PySem PySem.Spec PyProof.Rows L2
section
variable {X : Cx} {CX : CXT} {k : Nat} {C g : Addr} {sp : Sp} {E : XK}
def rLenO (C : Addr) (sp : Sp) (E : XK) : List V → Hp → VK → Prop := fun xs H Q => ∃ a dx fs, xs = [.ref a] ∧ H a = some (.ins C dx fs) ∧ sp [.ref a] H (fun v H' => ∃ n : Nat, v = .int n ∧ n < 2 ^ 62 ∧ Q v H') E
theorem call_lenO (F : FnR X.prog X.w X.K X.mg X.base CX k g sp) (hs : PySem.W.findIn X.K (.ref C) "__len__" = some (some (.ref g))) (hf : PySem.W.isFn X.K (.ref g) = true)
    (hr : Room (k + 1) X.A) (hx : Passes CX X E) : CallR X (.builtin "len") (rLenO C sp E) := by
  intro pins s σ H xs us Q I r h
  obtain ⟨a, dx, fs, rfl, ha, hsp⟩ := h
  obtain ⟨u, rfl, r1⟩ : ∃ u, us = [u] ∧ RelV (.ref a) u := by
    cases r with
    | cons r1 rr =>
      cases rr
      exact ⟨_, rfl, r1⟩
  cases r1
  obtain ⟨mA, J, _⟩ := ins_get I.hok ha
  obtain ⟨od, J, _⟩ := J.look
  obtain ⟨m, hF⟩ := I.fr
  refine PySem.W.len_K hF I.ok.mod.kin J hs hf (wpAny_mono (run_at F hr.in1 I.env0.frames hx I (us := [.ref a]) (vs := [.ref a]) (.cons rfl .nil) hsp) (fun u s' z => ?_) fun _ _ z => z)
  obtain ⟨v, H', I', rv, n, rfl, hn, q⟩ := z
  obtain ⟨t, rfl⟩ := rv
  exact ⟨⟨by omega, by omega⟩, .int n, H', I'.tok _, ⟨_, rfl⟩, q⟩
/-- x in o, o an instance -/
def rInO (C : Addr) (sp : Sp) (E : XK) : R2 := fun x y H Q => ∃ a dx fs, y = .ref a ∧ H a = some (.ins C dx fs) ∧ sp [.ref a, x] H (fun v H' => ∃ t, v = .bl t ∧ Q v H') E
theorem op_inO (F : FnR X.prog X.w X.K X.mg X.base CX k g sp) (hs : PySem.W.findIn X.K (.ref C) "__contains__" = some (some (.ref g))) (hf : PySem.W.isFn X.K (.ref g) = true)
    (hr : Room k X.A) (hx : Passes CX X E) : OpR X (compareOp .In) (rInO C sp E) := by
  intro pins s σ H x y v u Q I rx ry h
  obtain ⟨a, dx, fs, rfl, ha, hsp⟩ := h
  cases ry
  obtain ⟨mA, J, _⟩ := ins_get I.hok ha
  obtain ⟨od, J, _⟩ := J.look
  obtain ⟨m, hF⟩ := I.fr
  refine PySem.W.in_K hF I.ok.mod.kin J hs hf ?_
  refine wpAny_mono (run_at F hr I.env0.frames hx I (us := [.ref a, v]) (vs := [.ref a, x]) (.cons rfl (.cons rx .nil)) hsp) (fun u s' z => ?_) fun _ _ z => z
  obtain ⟨w, H', I', rv, t, rfl, q⟩ := z
  cases rv
  exact wpAny_truthy_bool ⟨.bl t, H', I', rfl, q⟩
end
section
variable {X : Cx} {CX : CXT} {k : Nat} {C f : Addr} {sp : Sp} {E : L2.St → XK} {m : Str} {o e : Expr} {es : List Expr} {t : TA} {ta : TE} {p pos apos : Pos}
/-- o.m(e, ..) that may raise, at the slots σ -/
def tMethS (C : Addr) (m : Str) (sp : Sp) (E : L2.St → XK) (ta : TE) (t : TA) : TE := fun σ H Q => ta σ H fun x H1 => ∃ a dx fs, x = .ref a ∧ H1 a = some (.ins C dx fs) ∧ fs.lookup m = none ∧ t σ H1 fun vs H2 => sp (x :: vs) H2 Q (E σ)
theorem pe_methW {pl : Sem Bool} (he : PE X o ta) (c : Cls X.K C) (hm : Meth X.K C m f) (F : FnR X.prog X.w X.K X.mg X.base CX k f sp) (hr : Room k X.A) (hx : ∀ σ, PassesAt CX X σ (E σ)) (ha : PA X (e :: es) t)
    (hst : starEach (e :: es) X.env = (false, eval e X.env) :: starEach es X.env := by rfl) (hpl : (backTo pos (starEach es X.env)).any (·.1) = false := by rfl)
    (ht : eval (.Call (.Attribute o m apos) (e :: es) [] pos) X.env = (do
      let ov ← eval o X.env
      standAt apos.atName
      let (f, first) ← holding [ov] (getMethod ov m pl)
      callWith pos f first (backTo pos (starEach (e :: es) X.env)) (backToKw pos (keywordEach [] X.env))) := by rfl) :
    PE X (.Call (.Attribute o m apos) (e :: es) [] pos) (tMethS C m sp E ta t) := by
  refine ⟨fun pins s σ H Q I h => ?_⟩
  refine PySem.W.methodCall_KW (pl := pl) (thn (he.run pins s σ H _ I h) fun u s1 ⟨x, H1, I1, rx, a, dx, fs, ex, ea, l, q⟩ => ?_) ht
  subst ex
  obtain rfl : u = Value.ref a := rx
  refine getmeth_ok I1 ea c hm l ?_
  refine PySem.W.callWith_K (first := [.ref a]) (h₀ := X.base) I.ok.mod.kin hm.kp (thn (ha.run pos pins s1 σ H1 _ I1 q) fun us s2 ⟨vs, H2, I2, r, q2⟩ => ⟨I2.kIn, ?_⟩) hst hpl
  exact wpAny_call (run_fnRS (us := .ref a :: us) (vs := .ref a :: vs) F hr (hx σ) I2 (.cons rfl r) q2)
end
end Own

namespace Rt
open PySem PySem.Float64
theorem amgm (a b : Nat) : 4 * (a * b) ≤ (a + b) * (a + b) := by
  rcases Nat.le_total a b with c | c
  · obtain ⟨d, rfl⟩ := Nat.exists_eq_add_of_le c
    have e : (a + (a + d)) * (a + (a + d)) = 4 * (a * (a + d)) + d * d := by grind
    omega
  · obtain ⟨d, rfl⟩ := Nat.exists_eq_add_of_le c
    have e : (b + d + b) * (b + d + b) = 4 * ((b + d) * b) + d * d := by grind
    omega
theorem newton_hi (x q y n : Nat) (h1 : n < x * (q + 1)) (h2 : x + q + 1 ≤ 2 * (y + 1)) : n < (y + 1) * (y + 1) := by
  have a : (x + (q + 1)) * (x + (q + 1)) ≤ (2 * (y + 1)) * (2 * (y + 1)) := Nat.mul_le_mul (by omega) (by omega)
  have b := amgm x (q + 1)
  have e : (2 * (y + 1)) * (2 * (y + 1)) = 4 * ((y + 1) * (y + 1)) := by grind
  omega
theorem newton_lo (x q z n t h : Nat) (hx : x = t + h) (ht : t * t ≤ n) (hxn : n < x * x) (hq : x * q ≤ n) (hz : 2 * z + 2 ≤ x + q) (hh : (h * h) * (h * h) ≤ 2 * n) : z * z ≤ n := by
  refine Nat.le_of_not_lt fun c => ?_
  have zt : t < z := by
    refine Nat.lt_of_not_le fun w => ?_
    have := Nat.mul_le_mul w w
    omega
  rcases Nat.lt_or_ge x z with w | w
  · have : x < q := by omega
    have := Nat.mul_le_mul (Nat.le_refl x) (Nat.le_of_lt this)
    omega
  · obtain ⟨d, e⟩ := Nat.exists_eq_add_of_le w
    have dh : d < h := by omega
    have dd : d * d < h * h := Nat.mul_lt_mul'' dh dh
    have k : 2 * x < d * d := by
      obtain ⟨g, eg⟩ : ∃ g, q + d = z + 2 + g := ⟨q + d - (z + 2), by omega⟩
      have e1 : x * (q + d) = x * (z + 2 + g) := by rw [eg]
      have e2 : x * (q + d) = x * q + x * d := Nat.mul_add ..
      have e3 : x * (z + 2 + g) = x * z + 2 * x + x * g := by grind
      have e4 : x * z = z * z + z * d := by rw [e]; grind
      have e5 : x * d = z * d + d * d := by rw [e]; grind
      have e6 : 0 ≤ x * g := Nat.zero_le _
      omega
    have k2 : 2 * x < h * h := by omega
    have k3 : (2 * x) * (2 * x) < (h * h) * (h * h) := Nat.mul_lt_mul'' k2 k2
    have e7 : (2 * x) * (2 * x) = 4 * (x * x) := by grind
    omega
theorem root_small : ∀ n : Nat, n < 8 → rootBelow8 n * rootBelow8 n ≤ n ∧ n < (rootBelow8 n + 1) * (rootBelow8 n + 1) := by decide
theorem root_ok : ∀ (L n : Nat), n.log2 ≤ L → rootByHalves L n * rootByHalves L n ≤ n ∧ n < (rootByHalves L n + 1) * (rootByHalves L n + 1) := by
  intro L
  induction L with
  | zero =>
    intro n h
    refine root_small n ?_
    by_cases h0 : n = 0
    · omega
    · have := (Nat.log2_lt h0 (k := 1)).mp (by omega)
      omega
  | succ L ih =>
    intro n h
    by_cases h8 : n < 8
    · have e : rootByHalves (L + 1) n = rootBelow8 n := by
        unfold rootByHalves
        rw [if_pos h8]
      rw [e]
      exact root_small n h8
    · have e : rootByHalves (L + 1) n = (let k := (n.log2 + 1) / 4; let x := (rootByHalves L (n / 4 ^ k) + 1) * 2 ^ k; let y := (x + n / x) / 2; if y * y > n then y - 1 else y) := by
        rw [rootByHalves, if_neg h8]
      rw [e]
      dsimp only
      have hn0 : n ≠ 0 := by omega
      have hl3 : 3 ≤ n.log2 := (Nat.le_log2 hn0).mpr (by omega)
      have hle : 2 ^ n.log2 ≤ n := Nat.log2_self_le hn0
      generalize hk : (n.log2 + 1) / 4 = k
      have k1 : 1 ≤ k := by omega
      have k4 : 4 * k ≤ n.log2 + 1 := by omega
      have p4 : (4 : Nat) ^ k = 2 ^ k * 2 ^ k := by rw [← Nat.mul_pow]
      have h0 : 0 < (2 : Nat) ^ k := Nat.pow_pos (by decide)
      have h40 : 0 < (4 : Nat) ^ k := Nat.pow_pos (by decide)
      obtain ⟨r1, r2⟩ := ih (n / 4 ^ k) (by
        by_cases hz : n / 4 ^ k = 0
        · rw [hz, Nat.log2_zero]; omega
        · have q1 : n / 4 ^ k < 2 ^ (L + 1) := by
            refine Nat.div_lt_of_lt_mul ?_
            have q2 : n < 2 ^ (n.log2 + 1) := Nat.lt_log2_self
            have q3 : (2 : Nat) ^ (n.log2 + 1) ≤ 4 ^ k * 2 ^ (L + 1) := by
              rw [p4, ← Nat.pow_add, ← Nat.pow_add]
              exact Nat.pow_le_pow_right (by decide) (by omega)
            omega
          have := (Nat.log2_lt hz (k := L + 1)).mpr q1
          omega)
      generalize hr : rootByHalves L (n / 4 ^ k) = r at r1 r2
      generalize hh : (2 : Nat) ^ k = g at h0 p4
      generalize hx : (r + 1) * g = x
      have xt : x = r * g + g := by rw [← hx]; grind
      have tt : (r * g) * (r * g) ≤ n := by
        have a1 : (r * g) * (r * g) = r * r * 4 ^ k := by rw [p4]; grind
        have a2 : r * r * 4 ^ k ≤ n / 4 ^ k * 4 ^ k := Nat.mul_le_mul_right _ r1
        have a3 : n / 4 ^ k * 4 ^ k ≤ n := Nat.div_mul_le_self ..
        omega
      have xn : n < x * x := by
        have a1 : x * x = (r + 1) * (r + 1) * 4 ^ k := by rw [p4, ← hx]; grind
        have a2 : (n / 4 ^ k + 1) * 4 ^ k ≤ (r + 1) * (r + 1) * 4 ^ k := Nat.mul_le_mul_right _ r2
        have a3 := Nat.lt_mul_div_succ n h40
        have a4 : 4 ^ k * (n / 4 ^ k + 1) = (n / 4 ^ k + 1) * 4 ^ k := Nat.mul_comm ..
        omega
      have hg : (g * g) * (g * g) ≤ 2 * n := by
        have a1 : (g * g) * (g * g) = 2 ^ (4 * k) := by
          rw [← hh, ← Nat.pow_add, ← Nat.pow_add]
          congr 1
          omega
        have a2 : (2 : Nat) ^ (4 * k) ≤ 2 ^ (n.log2 + 1) := Nat.pow_le_pow_right (by decide) k4
        have a3 : (2 : Nat) ^ (n.log2 + 1) = 2 * 2 ^ n.log2 := by rw [Nat.pow_succ]; omega
        omega
      have x0 : 0 < x := by
        refine Nat.pos_of_ne_zero fun z => ?_
        rw [z] at xn
        omega
      have hq : x * (n / x) ≤ n := Nat.mul_div_le n x
      have hq2 : n < x * (n / x + 1) := Nat.lt_mul_div_succ n x0
      generalize hqq : n / x = q at hq hq2
      generalize hy : (x + q) / 2 = y
      have hi := newton_hi x q y n hq2 (by omega)
      by_cases c : y * y > n
      · rw [if_pos c]
        have y1 : 1 ≤ y := by
          refine Nat.pos_of_ne_zero fun z => ?_
          rw [z] at c
          omega
        have lo := newton_lo x q (y - 1) n (r * g) g xt tt xn hq (by omega) hg
        refine ⟨lo, ?_⟩
        have e2 : y - 1 + 1 = y := by omega
        rw [e2]
        exact c
      · rw [if_neg c]
        exact ⟨by omega, hi⟩
theorem isqrt_ok (n : Nat) : isqrt n * isqrt n ≤ n ∧ n < (isqrt n + 1) * (isqrt n + 1) := root_ok n.log2 n (Nat.le_refl _)
end Rt
namespace Law
open PySem PySem.Spec PyProof.Rows L2
def top (i : Nat) : Stmt := PySem.Challenge.pw_rungbounds_k37_cases_of_wishes.main.body.getD i (.Pass ⟨0, 0, 0, 0⟩)
abbrev sBox : Stmt := top 14
abbrev sTake : Stmt := top 15
/-- the box at b: the cells in the list at l, the place, what is left of a great cell, the seed -/
def Box (H : Hp) (b l : Addr) : Prop := ∃ (ns : List Int) (i : Nat) (q s : Int), H b = some (.lst [.ref l, .int i, .int q, .int s]) ∧ H l = some (.lst (ns.map V.int)) ∧ ns.length ≤ 63
theorem Box.ne {H : Hp} {b l : Addr} (B : Box H b l) : l ≠ b := fun z => by
  obtain ⟨ns, i, q, s, h1, h2, _⟩ := B
  rw [z, h1] at h2
  have e := HO.lst.inj (Option.some.inj h2)
  cases ns with
  | nil => cases e
  | cons n ns => cases e
theorem Box.keep {H H' : Hp} {b l : Addr} (B : Box H b l) (k : ∀ c, c = b ∨ c = l → H' c = H c) : Box H' b l := by
  obtain ⟨ns, i, q, s, h1, h2, h3⟩ := B
  exact ⟨ns, i, q, s, (k b (.inl rfl)).trans h1, (k l (.inr rfl)).trans h2, h3⟩
/-- a draw: 0 ≤ r < size; nothing but the box has changed -/
def spTake : Sp := fun vs H Q _ => ∃ (b l : Addr) (n : Int), vs = [.ref b, .int n] ∧ Box H b l ∧ 0 < n ∧ n.natAbs < 2 ^ 8000 ∧
  ∀ (r : Int) (H' : Hp), 0 ≤ r → r < n → Box H' b l → (∀ c, c ≠ b → H' c = H c) → Q (.int r) H'
def spBox (K : PySem.W.Frag) : Sp := fun vs H Q _ => ∃ (a : Addr) (ns : List Int), vs = [.ref a] ∧ SqL K H a (ns.map V.int) ∧ ns.length ≤ 63 ∧
  ∀ (b l : Addr) (H' : Hp), Box H' b l → H b = none → H l = none → Same H H' → Q (.ref b) H'
structure BoxTxt (K : PySem.W.Frag) (mg : Str → Option Value) : Prop where
  len : mg "len" = none
  int : mg "int" = none
section
variable {P : Program} {w : World} {K : PySem.W.Frag} {mg : Str → Option Value} {base : Heap}
theorem scTake : FnScope ["_law_box_here", "_law_size_here", "_law_cell", "_law_digit"] ["_law_box_here", "_law_size_here"] (defScope sTake) := ⟨rfl, rfl, rfl, by decide +kernel, rfl, by decide +kernel, by decide +kernel⟩
theorem if_t {c : Bool} {A B : Prop} (hc : c = true) (h : A) : if c = true then A else B := by
  rw [hc]
  exact h
theorem if_f {c : Bool} {A B : Prop} (hc : c = false) (h : B) : if c = true then A else B := by
  rw [hc]
  exact h
theorem pow18 : CPow 10 18 := ⟨by decide, by decide, by decide⟩
theorem at_box {l : Addr} {i q s : Int} : atI [V.ref l, .int i, .int q, .int s] 0 = some (.ref l) ∧ atI [V.ref l, .int i, .int q, .int s] 1 = some (.int i) ∧ atI [V.ref l, .int i, .int q, .int s] 2 = some (.int q) ∧ atI [V.ref l, .int i, .int q, .int s] 3 = some (.int s) := ⟨rfl, rfl, rfl, rfl⟩
theorem ok_take {f : Addr} {fd : FuncData} (F : Fun K "_law_take" "_law_take" sTake f fd) (T : BoxTxt K mg) : FnOk P w K mg base CX0 1 f fd ["_law_box_here", "_law_size_here"] spTake := by
  refine F.ok scTake (fun vs H Q E h => ?_) (fun cdv A outer s H vs Q E hr h => ?_)
  · obtain ⟨b, l, n, rfl, _⟩ := h
    rfl
  · obtain ⟨b, l, n, rfl, B, hn0, hn1, k⟩ := h
    refine ⟨_, C8.pss_cut (ps_if (PW.pt (pw_and (pt_cmpR op_lt (pe_ix ix_list (pv 0) pe_int (fun _ _ => rfl)) pe_int (nomark _))
          (pw_and1 (pt_cmpR op_lt (pe_ix ix_list (pv 0) pe_int (fun _ _ => rfl)) (pe_callB call_len_seq (by rfl) T.len PySem.boot_len (pa_cons (pe_ix ix_list (pv 0) pe_int (fun _ _ => rfl)) pa_nil)) (nomark _)))))
        (pss_cons (ps_set (i := 2) scTake.nd rfl (Or.inl rfl) (pe_ix ix_list (pe_ix ix_list (pv 0) pe_int (fun _ _ => rfl)) (pe_ix ix_list (pv 0) pe_int (fun _ _ => rfl)) (fun _ _ => rfl)))
        (pss_cons (ps_asg (pe_op op_add (pe_ix ix_list (pv 0) pe_int (fun _ _ => rfl)) pe_int) (pg_sub (pv 0) pe_int set_list))
        (pss_one (ps_if (pt_cmpR op_ge (pv 2) (pe_op op_pow pe_int pe_int) (nomark _))
          (pss_one (ps_asg (pe_op op_sub (pv 2) (pe_op op_pow pe_int pe_int)) (pg_sub (pv 0) pe_int set_list)))
          (pss_one (ps_asg (pe_op op_mod (pe_callTy call_int1 (by rfl) T.int (by decide +kernel) (pa_cons (pe_op op_add (pe_op op_add (pe_op op_mul (pe_ix ix_list (pv 0) pe_int (fun _ _ => rfl)) pe_int) (pe_op op_mul (pv 2) pe_int)) pe_int) pa_nil)) pe_int) (pg_sub (pv 0) pe_int set_list)))))))
        pss_nil)
      (pss_cons (ps_if (pt_cmpR op_gt (pe_ix ix_list (pv 0) pe_int (fun _ _ => rfl)) pe_int (nomark _))
        (pss_cons (ps_set (i := 3) scTake.nd rfl (Or.inl rfl) (pe_op op_mod (pe_callTy call_int1 (by rfl) T.int (by decide +kernel) (pa_cons (pe_ix ix_list (pv 0) pe_int (fun _ _ => rfl)) pa_nil)) (pv 1)))
        (pss_cons (ps_asg (pe_op op_fdivW (pe_ix ix_list (pv 0) pe_int (fun _ _ => rfl)) (pv 1)) (pg_sub (pv 0) pe_int set_list))
        (pss_one (ps_ret (pv 3))))) pss_nil)
      (pss_cons (ps_asg (pe_op op_mod (pe_callTy call_int1 (by rfl) T.int (by decide +kernel) (pa_cons (pe_op op_mul (pe_ix ix_list (pv 0) pe_int (fun _ _ => rfl)) pe_int) pa_nil)) pe_int) (pg_sub (pv 0) pe_int set_list))
      (pss_one (ps_ret (pe_op op_mod (pe_callTy call_int1 (by rfl) T.int (by decide +kernel) (pa_cons (pe_op op_fdiv (pe_ix ix_list (pv 0) pe_int (fun _ _ => rfl)) pe_int) pa_nil)) (pv 1)))))), ?_⟩
    obtain ⟨ns, i, q, sd, hb, hl, h63⟩ := id B
    have hne := B.ne
    have keepB : ∀ {H' : Hp} {i' : Nat} {q' s' : Int}, H' b = some (.lst [.ref l, .int i', .int q', .int s']) → (∀ c, c ≠ b → H' c = H c) → Box H' b l :=
      fun {H' i' q' s'} h1 h2 => ⟨ns, i', q', s', h1, (h2 l hne).trans hl, h63⟩
    refine ⟨fun σ' H' => ∃ (v : Option V) (i' : Nat) (q' s' : Int), σ' = [some (.ref b), some (.int n), v, none] ∧ H' b = some (.lst [.ref l, .int i', .int q', .int s']) ∧ ∀ c, c ≠ b → H' c = H c, ?_, ?_⟩
    · -- a new cell is read, or not
      refine ⟨_, rfl, b, _, _, _, rfl, rfl, SqL.of hb, at_box.2.2.1, _, _, rfl, rfl, _, rfl, ?_⟩
      by_cases c1 : q < 1
      · refine if_t (decide_eq_true c1) ?_
        refine ⟨_, rfl, b, _, _, _, rfl, rfl, SqL.of hb, at_box.2.1, _, rfl, b, _, _, _, rfl, rfl, SqL.of hb, at_box.1, l, _, rfl, .inl (SqL.of hl), _, _, rfl, rfl, _, rfl, ?_⟩
        by_cases c2 : (i : Int) < ((ns.map V.int).length : Int)
        · refine if_t (decide_eq_true c2) ?_
          rw [List.length_map] at c2
          obtain ⟨z, hz⟩ : ∃ z, ns[i]? = some z := ⟨_, List.getElem?_eq_getElem (by omega)⟩
          have hz' : atI (ns.map V.int) (i : Int) = some (V.int z) := atI_nat (by rw [List.getElem?_map, hz]; rfl)
          refine ⟨_, rfl, b, _, _, _, rfl, rfl, SqL.of hb, at_box.1, _, rfl, b, _, _, _, rfl, rfl, SqL.of hb, at_box.2.1, l, _, _, _, rfl, rfl, SqL.of hl, hz', ?_⟩
          refine ⟨_, rfl, b, _, _, _, rfl, rfl, SqL.of hb, at_box.2.1, _, _, rfl, rfl, _, rfl, b, _, _, 1, rfl, rfl, hb, rfl, ?_⟩
          have h1 : ∀ (o : HO), upd H b o b = some o := fun o => upd_same
          have hc : ∀ (o : HO) c, c ≠ b → upd H b o c = H c := fun o c hc => upd_ne hc
          refine ⟨_, rfl, _, _, rfl, rfl, pow18, _, _, rfl, rfl, _, rfl, ?_⟩
          refine ite2 (fun _ => ?_) fun _ => ?_
          · refine ⟨_, rfl, _, _, rfl, rfl, pow18, _, _, rfl, rfl, _, rfl, b, _, _, 2, rfl, rfl, h1 _, rfl, ?_⟩
            exact ⟨some (.int z), i + 1, _, sd, rfl, upd_same, fun c hc' => by rw [upd_ne hc', upd_ne hc']⟩
          · refine ⟨_, rfl, b, _, _, _, rfl, rfl, SqL.of (h1 _), at_box.2.2.2, _, _, rfl, rfl, .inr ⟨by decide, by decide⟩, _, rfl, _, _, rfl, rfl, .inr ⟨by decide, by decide⟩, _, _, rfl, rfl, _, _, rfl, rfl, .inl ⟨_, rfl, _, _, rfl, rfl, (by show (0 : Int) < 2147483647; decide), _, rfl, b, _, _, 3, rfl, rfl, h1 _, rfl, ?_⟩⟩
            exact ⟨some (.int z), i + 1, q, _, rfl, upd_same, fun c hc' => by rw [upd_ne hc', upd_ne hc']⟩
        · refine if_f (decide_eq_false c2) ?_
          exact ⟨none, i, q, sd, rfl, hb, fun _ _ => rfl⟩
      · refine if_f (decide_eq_false c1) ?_
        exact ⟨none, i, q, sd, rfl, hb, fun _ _ => rfl⟩
    · rintro σ' H' ⟨v, i', q', s', rfl, hb', ho⟩
      refine ⟨_, rfl, b, _, _, _, rfl, rfl, SqL.of hb', at_box.2.2.1, _, _, rfl, rfl, _, rfl, ?_⟩
      refine ite2 (fun _ => ?_) fun _ => ?_
      · refine ⟨_, rfl, b, _, _, _, rfl, rfl, SqL.of hb', at_box.2.2.1, .inl ⟨_, rfl, _, rfl, _, _, rfl, rfl, hn0, ?_⟩⟩
        refine ⟨_, rfl, b, _, _, _, rfl, rfl, SqL.of hb', at_box.2.2.1, _, rfl, _, _, rfl, rfl, wide_div hn0 hn1 (by decide) (by decide), _, rfl, b, _, _, 2, rfl, rfl, hb', rfl, _, rfl, ?_⟩
        exact k _ _ (Int.emod_nonneg _ (by omega)) (Int.emod_lt_of_pos _ hn0) (keepB (q' := q' / n) upd_same fun c hc => (upd_ne hc).trans (ho c hc)) fun c hc => (upd_ne hc).trans (ho c hc)
      · refine ⟨_, rfl, b, _, _, _, rfl, rfl, SqL.of hb', at_box.2.2.2, _, _, rfl, rfl, .inr ⟨by decide, by decide⟩, .inl ⟨_, rfl, _, _, rfl, rfl, (by show (0 : Int) < 2147483647; decide), _, rfl, b, _, _, 3, rfl, rfl, hb', rfl, ?_⟩⟩
        refine ⟨_, rfl, b, _, _, _, rfl, rfl, SqL.of upd_same, at_box.2.2.2, _, _, rfl, rfl, ⟨by decide, by decide⟩, .inl ⟨_, rfl, _, rfl, _, _, rfl, rfl, hn0, ?_⟩⟩
        exact k _ _ (Int.emod_nonneg _ (by omega)) (Int.emod_lt_of_pos _ hn0) (keepB upd_same fun c hc => (upd_ne hc).trans (ho c hc)) fun c hc => (upd_ne hc).trans (ho c hc)

theorem cut63 {xs : List V} (h : xs.length ≤ 63) : cutV xs none (some 63) = xs := by
  unfold cutV
  have e0 : HT.sIx xs.length 0 none = 0 := rfl
  have e1 : HT.sIx xs.length xs.length (some 63) = xs.length := by
    unfold HT.sIx
    simp
    omega
  rw [e0, e1, List.drop_zero, Nat.sub_zero, List.take_length]
theorem scBox : FnScope ["_law_script", "_law_cell"] ["_law_script"] (defScope sBox) := ⟨rfl, rfl, rfl, by decide +kernel, rfl, by decide +kernel, by decide +kernel⟩
theorem ok_box {f : Addr} {fd : FuncData} (F : Fun K "_law_box" "_law_box" sBox f fd) (T : BoxTxt K mg) : FnOk P w K mg base CX0 1 f fd ["_law_script"] (spBox K) := by
  refine F.ok scBox (fun vs H Q E h => ?_) (fun cdv A outer s H vs Q E hr h => ?_)
  · obtain ⟨a, ns, rfl, _⟩ := h
    rfl
  · obtain ⟨a, ns, rfl, hS, h63, k⟩ := h
    refine ⟨_, pss_one (ps_ret (pe_lst (pa_cons (pe_lc (own := [("_law_cell", 1)]) (g := gName 1) (tt := tYes) (by rfl) scBox.nd (pi_list (pe_slice sl_list (pv 0) po_none (po_some pe_int)))
        (blkOk_by (own := [("_law_cell", 1)]) (N := ["_law_script", "_law_cell"]) (sc := defScope sBox) (by decide +kernel)) (fun _ _ _ _ _ => pg_name (i := 1) scBox.nd rfl (Or.inl rfl)) (fun _ _ _ _ _ => pts_nil)
        (fun _ _ _ _ _ => pe_callTy call_int1 (by rfl) T.int (by decide +kernel) (pa_cons (pv 1) pa_nil))) (pa_cons pe_int (pa_cons pe_int (pa_cons pe_int pa_nil)))))), ?_⟩
    have e63 : cutV (ns.map V.int) none (some 63) = ns.map V.int := cut63 (by rw [List.length_map]; exact h63)
    refine ⟨_, rfl, 63, rfl, a, _, rfl, hS, fun p hp => ?_⟩
    rw [e63]
    refine ⟨p, rfl, ⟨_, SqL.of upd_same⟩, fun D hD => ?_⟩
    have hpD : p ≠ D := fun z => by
      rw [z, upd_same] at hD
      cases hD
    have hD0 : H D = none := by rw [upd_ne (Ne.symm hpD)] at hD; exact hD
    refine lc_list (K := K) (a := p) (xs := ns.map V.int) (fun i H' => H' D = some (.lst ((ns.take i).map V.int)) ∧ H' p = some (.lst (ns.map V.int)) ∧ ∀ c, c ≠ D → c ≠ p → H' c = H c)
      ⟨upd_same, by rw [upd_ne hpD, upd_same], fun c h1 h2 => by rw [upd_ne h1, upd_ne h2]⟩ (fun i H' _ h => SqL.of h.2.1) ?_ ?_
    · rintro i y H' hi ⟨g1, g2, g3⟩
      obtain ⟨z, hz, rfl⟩ : ∃ z, ns[i]? = some z ∧ y = V.int z := by
        rw [List.getElem?_map] at hi
        cases e : ns[i]? with
        | none =>
          rw [e] at hi
          cases hi
        | some z =>
          rw [e] at hi
          exact ⟨z, rfl, (Option.some.inj hi).symm⟩
      refine ⟨rfl, ?_⟩
      have step : ∃ acc, H' D = some (.lst acc) ∧ acc.length < sizeLine ∧ (upd H' D (.lst (acc ++ [V.int z]))) D = some (.lst ((ns.take (i + 1)).map V.int)) ∧ (upd H' D (.lst (acc ++ [V.int z]))) p = some (.lst (ns.map V.int)) ∧
          ∀ c, c ≠ D → c ≠ p → (upd H' D (.lst (acc ++ [V.int z]))) c = H c := by
        refine ⟨_, g1, ?_, ?_⟩
        · rw [List.length_map, List.length_take]
          exact small1000 (by omega)
        · refine ⟨?_, by rw [upd_ne hpD]; exact g2, fun c h1 h2 => by rw [upd_ne h1]; exact g3 c h1 h2⟩
          rw [upd_same, List.take_succ, hz, Option.toList_some, List.map_append]
          rfl
      exact ⟨V.int z, rfl, .inl ⟨z, rfl, step⟩⟩
    · rintro H' ⟨g1, g2, g3⟩
      rw [List.length_map, List.take_length] at g1
      refine ⟨(by show 4 ≤ sizeLine; decide), fun b hb => ?_⟩
      have hDb : D ≠ b := ne_of_none g1 hb
      have hpb : p ≠ b := ne_of_none g2 hb
      refine k b D _ ⟨ns, 0, 0, 0, upd_same, by rw [upd_ne hDb]; exact g1, h63⟩ (by rw [← g3 b (Ne.symm hDb) (Ne.symm hpb)]; exact hb) hD0 fun c o hc => ?_
      have n1 : c ≠ D := ne_of_none hc hD0
      have n2 : c ≠ p := ne_of_none hc hp
      have n3 : c ≠ b := fun z => by
        rw [z, ← g3 b (Ne.symm hDb) (Ne.symm hpb), hb] at hc
        cases hc
      rw [upd_ne n3, g3 c n1 n2]
      exact hc
end
end Law
/-! cls(..) where cls is a local; C.m(..) of a classmethod that may raise, at the slots. -/
namespace Own
open PySem PySem.Spec PyProof.Rows L2
section
variable {X : Cx} {CX : CXT} {k i : Nat} {C g f p0 : Addr} {sp : Sp} {E : L2.St → XK} {x m : Str} {o e : Expr} {es : List Expr} {t : TA} {ta : TE} {p pos apos : Pos} {mc : Value} {pl : Sem Bool}
theorem pe_makeV (M : Mk X.K C f) (F : FnR X.prog X.w X.K X.mg X.base CX k f sp) (hr : Room (k + 1) X.A) (hN : X.N[i]? = some x) (hv : Vis X.env.scope x) (hx : ∀ σ, PassesAt CX X σ (E σ)) (ha : PA X (e :: es) t) (hd : (x == ("__debug__" : Str)) = false := by decide) (hcd : (x == ("__classdict__" : Str)) = false := by decide)
    (he : starEach (e :: es) X.env = (false, eval e X.env) :: starEach es X.env := by rfl) (hpl : (backTo pos (starEach es X.env)).any (·.1) = false := by rfl) :
    PE X (.Call (.Name x p) (e :: es) [] pos) (fun σ H Q => σ[i]? = some (some (.ref C)) ∧ t σ H fun vs H1 => MkS C sp (E σ) vs H1 Q) := by
  refine ⟨fun pins s σ H Q I h => ?_⟩
  obtain ⟨hs, h⟩ := h
  refine wpAny_Call_Name_kw (thn ((pe_var (pos := p) (i := i) hN hv hd hcd).run pins s σ H (fun v H1 => v = .ref C ∧ H1 = H) I ⟨.ref C, hs, rfl, rfl⟩) fun u s0 ⟨v, H0, I0, r0, ev, eH⟩ => ?_)
  subst ev
  rw [eH] at I0
  cases r0
  refine PySem.W.callWith_K (h₀ := X.base) I0.ok.mod.kin M.kp (thn (ha.run pos pins s0 σ H _ I0 h) fun us s1 ⟨vs, H1, I1, r, q⟩ => ⟨I1.kIn, ?_⟩) he hpl
  have hq := q.run (s1.heap.objs.size + 1) s1.heap.objs.size (I1.hok.fresh (Nat.le_succ _)) (I1.hok.fresh (Nat.le_refl _)) (Nat.ne_of_lt (Nat.lt_succ_self _))
  have I2 := Inv.made (C := C) I1
  have r2 : Vals (V.ref (s1.heap.objs.size + 1) :: vs) (Value.ref (s1.heap.objs.size + 1) :: us) := .cons rfl r
  refine wpAny_call (make_map (f := f) I1.kIn M.makes M.init (beq_iff_eq.mp M.fn) (codeAny_mono (F _ X.stack _ _ (Value.ref (s1.heap.objs.size + 1) :: us) _ _ (E σ) (hr.make C us []) (I2.env0.make C us []) r2 hq) fun r s' hq' => ?_))
  cases r with
  | error e => exact hx σ pins _ _ e s' I2 hq'
  | ok fl =>
    cases fl with
    | ret u =>
      obtain ⟨v, H', I3, rv, ev, q3⟩ := I2.after hq'
      subst ev
      exact ⟨rv, ⟨V.ref (s1.heap.objs.size + 1), H', I3, rfl, q3⟩⟩
    | next => exact False.elim hq'
    | brk => exact False.elim hq'
    | cont => exact False.elim hq'
theorem run_cmS {pins : List (Addr × Obj)} {σ : L2.St} {H : Hp} {s : Shared} {q : Addr} {Q : VK} {us : List Value} {vs : List V} (F : FnR X.prog X.w X.K X.mg X.base CX k g sp) (hr : Room k X.A) (hx : PassesAt CX X σ (E σ)) (I : L2.Inv X ((q, PySem.W.methodObj (.ref g) (.ref C)) :: pins) σ H s)
    (r : Vals vs us) (h : sp (.ref C :: vs) H Q (E σ)) : wpAny (model X.prog X.w) X.A (call (.ref q) us) (EP X pins σ Q) X.xe s := by
  have z : wpAny (model X.prog X.w) X.A (call (.ref q) us) (EP X ((q, PySem.W.methodObj (.ref g) (.ref C)) :: pins) σ Q) X.xe s :=
    wpAny_call (PySem.W.method_call (ClX.pin_at I) (run_fnRS (us := .ref C :: us) (vs := .ref C :: vs) F hr hx I (.cons rfl r) h))
  exact wpAny_mono z (fun _ _ h => ClX.unpinE h) fun _ _ h => h
def tCMethS (C : Addr) (sp : Sp) (E : L2.St → XK) (ta : TE) (t : TA) : TE := fun σ H Q => ta σ H fun x H1 => x = .ref C ∧ t σ H1 fun vs H2 => sp (.ref C :: vs) H2 Q (E σ)
theorem pe_cmethS (he : PE X o ta) (r : ClX.CRead X.K C mc) (c : ClX.CMet X.K C mc m p0 g) (F : FnR X.prog X.w X.K X.mg X.base CX k g sp) (hr : Room k X.A) (hx : ∀ σ, PassesAt CX X σ (E σ)) (ha : PA X (e :: es) t)
    (hst : starEach (e :: es) X.env = (false, eval e X.env) :: starEach es X.env := by rfl) (hpl : (backTo pos (starEach es X.env)).any (·.1) = false := by rfl)
    (ht : eval (.Call (.Attribute o m apos) (e :: es) [] pos) X.env = (do
      let ov ← eval o X.env
      standAt apos.atName
      let (f, first) ← holding [ov] (getMethod ov m pl)
      callWith pos f first (backTo pos (starEach (e :: es) X.env)) (backToKw pos (keywordEach [] X.env))) := by rfl) :
    PE X (.Call (.Attribute o m apos) (e :: es) [] pos) (tCMethS C sp E ta t) := by
  refine ⟨fun pins s σ H Q I h => ?_⟩
  refine PySem.W.methodCall_KW (pl := pl) (thn (he.run pins s σ H _ I h) fun u s1 ⟨x, H1, I1, rx, ex, q⟩ => ?_) ht
  subst ex
  obtain rfl : u = Value.ref C := rx
  refine ClX.getmethcm_ok I1 r c fun s2 I2 => ?_
  refine ClX.callwith_cm I2 (ClX.base_none I1 (Nat.le_refl _)) c.fi (thn (ha.run pos _ s2 σ H1 _ I2 q) fun us s3 ⟨vs, H2, I3, rv, q2⟩ => ⟨⟨ClX.pin_at I3, I3.kIn⟩, ?_⟩) hst hpl
  exact run_cmS F hr (hx σ) I3 rv q2
end
end Own
/-! Unary operators, str, and == against anything, of own classes. -/
namespace Own
open PySem PySem.Spec PyProof.Rows L2
section
variable {X : Cx} {CX : CXT} {k : Nat} {C g : Addr} {sp : Sp} {E : XK}
def rOwn1 (C : Addr) (sp : Sp) (E : XK) : V → Hp → VK → Prop := fun x H Q => ∃ a dx fs, x = .ref a ∧ H a = some (.ins C dx fs) ∧ sp [.ref a] H Q E
theorem un_own (F : FnR X.prog X.w X.K X.mg X.base CX k g sp) (hs : PySem.W.findIn X.K (.ref C) "__invert__" = some (some (.ref g))) (hf : PySem.W.isFn X.K (.ref g) = true) (hr : Room k X.A) (hx : Passes CX X E) :
    UnR X (PySem.unaryOp .Invert) (rOwn1 C sp E) := by
  intro pins s σ H x v Q I rx h
  obtain ⟨a, dx, fs, rfl, ha, hsp⟩ := h
  cases rx
  obtain ⟨mA, J, _⟩ := ins_get I.hok ha
  obtain ⟨od, J, _⟩ := J.look
  obtain ⟨m, hF⟩ := I.fr
  unfold PySem.unaryOp
  refine wpAny_holding ?_
  show wpAny _ _ (PySem.callSpecial? (.ref a) "__invert__" [] >>= _) _ _ _
  refine wpAny_bind (PySem.W.special_fn (I.ok.mod.kin.keeps hF.keep) J hs (beq_iff_eq.mp hf) (wpAny_mono (wpAny_call (run_fnR F hr hx I (us := [.ref a]) (vs := [.ref a]) (.cons rfl .nil) hsp)) (fun _ _ z => wpAny_pure z) fun _ _ z => z))
/-- str of an instance -/
def rStrO (C : Addr) (sp : Sp) (E : XK) : List V → Hp → VK → Prop := fun xs H Q => ∃ a dx fs, xs = [.ref a] ∧ H a = some (.ins C dx fs) ∧ sp [.ref a] H (fun v H' => ∃ y, v = .str y ∧ Q v H') E
theorem call_strO (F : FnR X.prog X.w X.K X.mg X.base CX k g sp) (hs : PySem.W.findIn X.K (.ref C) "__str__" = some (some (.ref g))) (hf : PySem.W.isFn X.K (.ref g) = true)
    (hr : Room (k + 2) X.A) (hx : Passes CX X E) : CallR X (.type "str") (rStrO C sp E) := by
  intro pins s σ H xs us Q I r h
  obtain ⟨a, dx, fs, rfl, ha, hsp⟩ := h
  obtain ⟨u, rfl, r1⟩ : ∃ u, us = [u] ∧ RelV (.ref a) u := by
    cases r with
    | cons r1 rr =>
      cases rr
      exact ⟨_, rfl, r1⟩
  cases r1
  obtain ⟨mA, J, _⟩ := ins_get I.hok ha
  obtain ⟨od, J, _⟩ := J.look
  obtain ⟨m, hF⟩ := I.fr
  refine PySem.W.kso_call ?_ (I.ok.mod.kin.keeps hF.keep) J hs hf (wpAny_mono (run_at F ?_ ?_ hx I (us := [.ref a]) (vs := [.ref a]) (.cons rfl .nil) hsp) (fun u s' z => ?_) fun _ _ z => z)
  · have := hr.un
    show X.A.units + 1 + 1 < _
    omega
  · exact (Room.in1 (k := k + 1) hr).in1
  · exact I.env0.frames
  · obtain ⟨v, H', I', rv, y, rfl, q⟩ := z
    obtain ⟨t, rfl⟩ := rv
    exact ⟨.str y, H', I', ⟨t, rfl⟩, q⟩
/-- an instance compared with a tuple -/
def rOwnT (C : Addr) (sp : Sp) (E : XK) : R2 := fun x y H Q => ∃ a b dx fs ys, x = .ref a ∧ y = .ref b ∧ H a = some (.ins C dx fs) ∧ H b = some (.tup ys) ∧ sp [.ref a, .ref b] H Q E
theorem op_cmpT {op : CmpOp} (hop : ∀ v u, compareOp op v u = richCompare op v u) (F : FnR X.prog X.w X.K X.mg X.base CX k g sp) (hs : PySem.W.findIn X.K (.ref C) (cmpInfo op).2.1 = some (some (.ref g))) (hf : PySem.W.isFn X.K (.ref g) = true)
    (hsub : PySem.W.subIn X.K (.type "tuple") (.ref C) = some false) (hr : Room k X.A) (hx : Passes CX X E) : OpR X (compareOp op) (rOwnT C sp E) := by
  intro pins s σ H x y v u Q I rx ry h
  obtain ⟨a, b, dx, fs, ys, rfl, rfl, ha, hb, hsp⟩ := h
  cases rx
  cases ry
  obtain ⟨mA, J, _⟩ := ins_get I.hok ha
  obtain ⟨od, J, _⟩ := J.look
  obtain ⟨m, hF⟩ := I.fr
  obtain ⟨_, _, _, p⟩ := (show ObjOk X.prog X.w H s.heap b (.tup ys) from I.hok b _ hb)
  obtain ⟨o, h1, h2, _⟩ := p
  rw [hop]
  refine PySem.W.cmp_K (op := op) (tb := .type "tuple") hr.units0 hF I.ok.mod.kin J (PySem.W.kitAt_ty _ _ ⟨o, h1, h2⟩) (by simp [PySem.W.notFirst, hsub]) hs hf ?_
  exact wpAny_mono (wpAny_call (run_fnR F hr hx I (us := [.ref a, .ref b]) (vs := [.ref a, .ref b]) (.cons rfl (.cons rfl .nil)) hsp)) (fun _ _ z => back z) fun _ _ z => z
end
end Own
/-! What the law's own defs of several laws want: comprehensions told by a function, draws, texts as data. -/
namespace Law
open PySem PySem.Spec PyProof.Rows L2
def SameB (b : Addr) (H H' : Hp) : Prop := ∀ c o, c ≠ b → H c = some o → H' c = some o
theorem SameB.of {b : Addr} {H H' : Hp} (k : ∀ c, c ≠ b → H' c = H c) : SameB b H H' := fun c o n e => (k c n).trans e
theorem SameB.trans {b : Addr} {H H1 H2 : Hp} (s : SameB b H H1) (t : SameB b H1 H2) : SameB b H H2 := fun c o n e => t c o n (s c o n e)
theorem SameB.of_same {b : Addr} {H H' : Hp} (s : Same H H') : SameB b H H' := fun c o _ e => s c o e
theorem same_tr {H H1 H2 : Hp} (s : Same H H1) (t : Same H1 H2) : Same H H2 := fun c o e => t c o (s c o e)
theorem same_rfl {H : Hp} : Same H H := fun _ _ e => e
theorem Room.u65 {k : Nat} {A : Around} (r : Room k A) : A.units + 65 < cLine := by have := r.un; omega
theorem Box.free {H : Hp} {b l d : Addr} (B : Box H b l) (h : H d = none) : b ≠ d ∧ l ≠ d := by
  obtain ⟨ns, i, q, s, h1, h2, _⟩ := B
  exact ⟨ne_of_none h1 h, ne_of_none h2 h⟩
theorem Box.at {H : Hp} {b l d : Addr} {o : HO} (B : Box H b l) (n : b ≠ d ∧ l ≠ d) : Box (upd H d o) b l := B.keep fun c hc => by
  rcases hc with rfl | rfl
  · exact upd_ne n.1
  · exact upd_ne n.2
theorem Box.same {H H' : Hp} {b l : Addr} (B : Box H b l) (s : Same H H') : Box H' b l := by
  obtain ⟨ns, i, q, s', h1, h2, h3⟩ := B
  exact ⟨ns, i, q, s', s _ _ h1, s _ _ h2, h3⟩
theorem Box.neT {H : Hp} {b l c : Addr} {xs : List V} (B : Box H b l) (h : H c = some (.tup xs)) : c ≠ b := fun z => by
  obtain ⟨_, _, _, _, q, _⟩ := B
  rw [z, q] at h
  cases h
theorem Box.neD {H : Hp} {b l c : Addr} {kv : List (Key × V)} (B : Box H b l) (h : H c = some (.dK kv)) : c ≠ b ∧ c ≠ l := by
  obtain ⟨_, _, _, _, q, q2, _⟩ := B
  exact ⟨fun z => (by rw [z, q] at h; cases h), fun z => (by rw [z, q2] at h; cases h)⟩
theorem Box.neI {H : Hp} {b l c C dx : Addr} {fs : List (Str × V)} (B : Box H b l) (h : H c = some (.ins C dx fs)) : c ≠ b ∧ c ≠ l := by
  obtain ⟨_, _, _, _, q, q2, _⟩ := B
  exact ⟨fun z => (by rw [z, q] at h; cases h), fun z => (by rw [z, q2] at h; cases h)⟩
theorem same_new {H : Hp} {p : Addr} {o : HO} (h : H p = none) : Same H (upd H p o) := fun b o' e => by
  rw [upd_ne (ne_of_none e h)]
  exact e
theorem none_back {H H' : Hp} {x : Addr} (s : Same H H') (h : H' x = none) : H x = none := by
  cases e : H x with
  | none => rfl
  | some o =>
    have z := s _ _ e
    rw [h] at z
    cases z
/-- within a comprehension whose turn i adds out i (or nothing), all else new -/
def LcP (D : Addr) (H1 : Hp) (out : Nat → Option V) (i : Nat) (H : Hp) : Prop := H D = some (.lst ((List.range i).filterMap out)) ∧ Same H1 H
section
variable {D : Addr} {H1 H H4 : Hp} {out : Nat → Option V} {i : Nat} {y : V}
theorem LcP.start (hD : H1 D = none) : LcP D H1 out 0 (upd H1 D (.lst [])) := ⟨upd_same, same_new hD⟩
theorem fm_len (i : Nat) : ((List.range i).filterMap out).length ≤ i := by
  have := List.length_filterMap_le out (List.range i)
  rw [List.length_range] at this
  exact this
theorem fm_succ : (List.range (i + 1)).filterMap out = (List.range i).filterMap out ++ (out i).toList := by
  rw [List.range_succ, List.filterMap_append]
  cases e : out i <;> simp [e]
theorem LcP.push (h : LcP D H1 out i H) (hD : H1 D = none) (s : Same H H4) (ho : out i = some y) (hi : i < 1000) :
    ∃ acc, H4 D = some (.lst acc) ∧ acc.length < sizeLine ∧ LcP D H1 out (i + 1) (upd H4 D (.lst (acc ++ [y]))) := by
  refine ⟨_, s _ _ h.1, small1000 (Nat.le_of_lt (Nat.lt_of_le_of_lt (fm_len i) hi)), ?_, fun b o e => ?_⟩
  · rw [upd_same, fm_succ, ho]
    rfl
  · rw [upd_ne (ne_of_none e hD)]
    exact s _ _ (h.2 _ _ e)
theorem LcP.skip (h : LcP D H1 out i H) (s : Same H H4) (ho : out i = none) : LcP D H1 out (i + 1) H4 := by
  refine ⟨?_, same_tr h.2 s⟩
  rw [fm_succ, ho, s _ _ h.1]
  simp
end
theorem range_fm {α β : Type} (f : α → Option β) (xs : List α) : (List.range xs.length).filterMap (fun i => xs[i]?.bind f) = xs.filterMap f := by
  induction xs with
  | nil => rfl
  | cons x xs ih =>
    rw [List.length_cons, List.range_succ_eq_map, List.filterMap_cons, List.filterMap_map, List.filterMap_cons]
    have e : (fun i => (x :: xs)[i]?.bind f) ∘ Nat.succ = fun i => xs[i]?.bind f := by
      funext i
      simp
    rw [e, ih]
    simp
theorem range_id {α : Type} (xs : List α) : (List.range xs.length).filterMap (fun i : Nat => xs[i]?) = xs := by
  have e := range_fm (some : α → Option α) xs
  have e1 : (fun i : Nat => xs[i]?.bind some) = fun i : Nat => xs[i]? := by
    funext i
    cases xs[i]? <;> rfl
  rw [e1] at e
  rw [e]
  simp
theorem fm_any {α β : Type} (p : α → Bool) (f : α → β) (xs : List α) : decide ((0 : Int) < (((xs.filterMap fun c => if p c = true then none else some (f c)).length : Nat) : Int)) = xs.any fun c => !p c := by
  induction xs with
  | nil => rfl
  | cons x xs ih =>
    rw [List.filterMap_cons, List.any_cons, ← ih]
    cases h : p x with
    | true => simp
    | false =>
      simp
theorem at_nat {xs : List V} {j : Nat} {v : V} (h : xs[j]? = some v) : atI xs (j : Int) = some v := atI_nat h
/-! texts as data -/
theorem ok_str {y : Str} (h : ∀ c ∈ y.cps.toList, c < 1114112) : PyData.canLay0 (.str y) = true := by
  have e : PyData.canLay0 (.str y) = PyData.strOk y := by simp only [PyData.canLay0]
  rw [e]
  unfold PyData.strOk
  rw [← Array.all_toList, List.all_eq_true]
  intro c hc
  exact decide_eq_true (h c hc)
theorem ok_strs : ∀ {ys : List Str}, (∀ y ∈ ys, ∀ c ∈ y.cps.toList, c < 1114112) → PyData.canLayAll0 (ys.map PyData.str) = true
  | [], _ => by simp only [List.map_nil, PyData.canLayAll0]
  | y :: ys, h => by
    rw [List.map_cons]
    simp only [PyData.canLayAll0]
    rw [Bool.and_eq_true]
    exact ⟨ok_str (h y List.mem_cons_self), ok_strs fun x hx => h x (List.mem_cons_of_mem _ hx)⟩
theorem deep_strs : ∀ ys : List Str, PyData.depthAll (ys.map PyData.str) = 0
  | [] => by simp [PyData.depthAll]
  | y :: ys => by
    rw [List.map_cons]
    simp [PyData.depthAll, PyData.depth, deep_strs ys]
theorem shaped_str {y : Str} (h : ∀ c ∈ y.cps.toList, c < 1114112) : SeqAt.shaped (.str y) = true := by
  unfold SeqAt.shaped
  rw [ok_str h]
  simp [PyData.depth]
theorem shaped_strs {ys : List Str} (h : ∀ y ∈ ys, ∀ c ∈ y.cps.toList, c < 1114112) : SeqAt.shaped (.list (ys.map PyData.str)) = true := by
  unfold SeqAt.shaped
  have e : PyData.canLay0 (.list (ys.map PyData.str)) = true := by
    simp only [PyData.canLay0]
    exact ok_strs h
  rw [e]
  simp [PyData.depth, deep_strs]
theorem dp_strs {K : PySem.W.Frag} {H : Hp} : ∀ ys : List Str, DpAll K H (ys.map V.str) (ys.map PyData.str)
  | [] => .nil
  | _ :: ys => .cons (.str _) (dp_strs ys)
theorem any_strs (ys : List Str) (y : Str) : ((ys.map PyData.str).any fun z => PyData.eqv z (.str y)) = ys.contains y := by
  induction ys with
  | nil => rfl
  | cons x ys ih =>
    rw [List.map_cons, List.any_cons, ih, List.contains_cons]
    have e : PyData.eqv (.str x) (.str y) = (y == x) := by
      simp only [PyData.eqv]
      by_cases h : x = y
      · subst h
        rfl
      · have h1 : (x == y) = false := by simpa using h
        have h2 : (y == x) = false := by simpa using fun z => h z.symm
        rw [h1, h2]
    rw [e]
/-- two shaped data that are told the same are equal -/
theorem eqv_rfl {d : PyData} (h : SeqAt.shaped d = true) : PyData.eqv d d = true := SeqAt.eqv_refl _ (SeqAt.canLay_of_shaped h)
theorem shaped_pair {a b : PyData} (ha : PyData.canLay0 a = true) (hb : PyData.canLay0 b = true) (da : PyData.depth a = 0) (db : PyData.depth b = 0) : SeqAt.shaped (.tuple [a, b]) = true := by
  unfold SeqAt.shaped
  have e : PyData.canLay0 (.tuple [a, b]) = true := by
    simp only [PyData.canLay0, PyData.canLayAll0, ha, hb]
    rfl
  rw [e]
  simp [PyData.depth, PyData.depthAll, da, db]
/-! texts joined without a separator, and cut -/
theorem joinL_mem : ∀ {ls : List (List Nat)} {c : Nat}, c ∈ TL.joinL [] ls → ∃ x ∈ ls, c ∈ x
  | [], c, h => by cases h
  | [p], c, h => ⟨p, List.mem_cons_self, h⟩
  | p :: q :: r, c, h => by
    rcases List.mem_append.mp h with h | h
    · exact ⟨p, List.mem_cons_self, h⟩
    · obtain ⟨x, hx, hc⟩ := joinL_mem (ls := q :: r) h
      exact ⟨x, List.mem_cons_of_mem _ hx, hc⟩
theorem joinL_len : ∀ (ls : List (List Nat)), (TL.joinL [] ls).length = (ls.map List.length).sum
  | [] => rfl
  | [p] => by simp [TL.joinL]
  | p :: q :: r => by
    show (p ++ ([] ++ TL.joinL [] (q :: r))).length = _
    rw [List.nil_append, List.length_append, joinL_len (q :: r)]
    rfl
theorem join_cps (ys : List Str) : (Txt.join "" ys).cps.toList = TL.joinL [] (ys.map fun y => y.cps.toList) := by
  have e := TL.tl_join ("" : Str) ys
  have e2 : Txt.join "" ys = Str.join "" ys := TL.join_eq _ _
  rw [e2]
  exact e
theorem cut_mem {z : Str} {lo hi : Option Int} {c : Nat} (h : c ∈ (cutS z lo hi).cps.toList) : c ∈ z.cps.toList := by
  unfold cutS at h
  exact List.mem_of_mem_drop (List.mem_of_mem_take (by simpa using h))
theorem cut_len {z : Str} {lo hi : Option Int} : (cutS z lo hi).length ≤ z.length := by
  show (((z.cps.toList.drop _).take _).toArray).size ≤ z.cps.size
  simp
  omega
theorem cps_app (a b : Str) : (a ++ b).cps.toList = a.cps.toList ++ b.cps.toList := TL.tl_append a b
end Law



namespace Law
open PySem PySem.Spec PyProof.Rows L2
theorem passS {X : Cx} {CX : CXT} {E : XK} (h : Passes CX X E) : ∀ σ, PassesAt CX X σ E := fun σ pins H s e s' I c => h pins σ H s e s' I c
end Law
namespace Law
open PySem PySem.Spec PyProof.Rows L2 Own
def Sz (i : Int) : Prop := i.natAbs < 2 ^ 200
theorem Sz.of {i : Int} (h : i.natAbs ≤ 10 ^ 42) : Sz i := Nat.lt_of_le_of_lt h (by decide +kernel)
theorem log_of {i : Int} {k : Nat} (hk : 0 < k) (h : i.natAbs < 2 ^ k) : i.natAbs.log2 < k := by
  by_cases hz : i.natAbs = 0
  · rw [hz, Nat.log2_zero]
    exact hk
  · exact (Nat.log2_lt hz).mpr h
theorem pow_ok {j : Int} (h : 0 ≤ j ∧ j ≤ 1000000) : CPow 10 j := ⟨h.1, h.2, by decide⟩
theorem size_fit {n : Int} (h0 : 0 < n) (h : n ≤ 10 ^ 40) : n.natAbs < 2 ^ 8000 := by
  have h1 : n.natAbs ≤ 10 ^ 40 := by omega
  exact Nat.lt_of_le_of_lt h1 (by decide +kernel)
end Law
namespace Law
open PySem PySem.Spec PyProof.Rows L2 Sup
abbrev sTini : Stmt := inClass (top 6) 0
abbrev sAgr : Stmt := inClass (top 6) 2
abbrev sTnv : Stmt := inClass (top 6) 3
abbrev sTeq : Stmt := inClass (top 6) 4
abbrev sTst : Stmt := inClass (top 6) 5
/-- a trial of the class at CT -/
def Tri (CT : Addr) (H : Hp) (x : Addr) (p h : Int) (r : Bool) : Prop := ∃ dx fs, H x = some (.ins CT dx fs) ∧ fs.lookup ("place" : Str) = some (V.int p) ∧ fs.lookup ("height" : Str) = some (V.int h) ∧ fs.lookup ("reached" : Str) = some (V.bl r) ∧ fs.lookup ("agrees" : Str) = none
theorem Tri.same {CT : Addr} {H H' : Hp} {x : Addr} {p h : Int} {r : Bool} (t : Tri CT H x p h r) (s : Same H H') : Tri CT H' x p h r := by
  obtain ⟨dx, fs, h1, h2⟩ := t
  exact ⟨dx, fs, s _ _ h1, h2⟩
structure TriTxt (K : PySem.W.Frag) (mg : Str → Option Value) (CT : Addr) : Prop where
  tri : mg "Trial" = some (.ref CT)
  isi : mg "isinstance" = none
  b_len : mg "len" = none
  cl : Cls K CT
  nP : NoAttr K CT "place"
  nH : NoAttr K CT "height"
  nR : NoAttr K CT "reached"
  ha : PySem.W.findIn K (.ref CT) "__class__" = some (some (.builtin "object.__class__"))
  hn : PySem.W.specialIn K (.builtin "object.__class__") "__get__" = some (some (.builtin "getset_descriptor.__get__"))
  ht : PySem.W.takesIn K (.builtin "object.__class__") = some true
  hm : PySem.W.mroIn K CT (.type "object") = some true
def spTini (CT : Addr) : Sp := fun vs H Q _ => ∃ (x : Addr) (p h : Int) (r : Bool) (dx : Addr), vs = [.ref x, .int p, .int h, .bl r] ∧ H x = some (.ins CT dx []) ∧
  (∀ fs, fs.lookup ("place" : Str) = some (V.int p) → fs.lookup ("height" : Str) = some (V.int h) → fs.lookup ("reached" : Str) = some (V.bl r) → fs.lookup ("agrees" : Str) = none → Q .non (upd H x (.ins CT dx fs)))
theorem mk_tri {CT : Addr} {p h : Int} {r : Bool} {H1 : Hp} {Q : VK} {E : XK} (h2 : ∀ x H2, H1 x = none → Same H1 H2 → Tri CT H2 x p h r → Q (.ref x) H2) :
    Own.MkS CT (spTini CT) E [.int p, .int h, .bl r] H1 Q := ⟨fun x dx hx hdx hne => by
  refine ⟨x, p, h, r, dx, rfl, upd_same, fun fs l1 l2 l3 l4 => ⟨rfl, ?_⟩⟩
  rw [upd_upd]
  refine h2 x _ hx (fun b o e => ?_) ⟨dx, fs, upd_same, l1, l2, l3, l4⟩
  rw [upd_ne (ne_of_none e hx), upd_ne (ne_of_none e hdx)]
  exact e⟩
/-- what the trial says of the heights; none: no such index -/
def agr (xs : List Int) (p h : Int) (r : Bool) : Option Bool := if 0 ≤ p then (xs[p.toNat]?).map (fun z => if r then decide (z ≤ h) else decide (h < z)) else none
def NoPl (CP : Addr) (E : XK) (H : Hp) (p : Int) : Prop := ∀ H' d, Same H H' → H' d = none → E (.ref CP) (some d) (upd H' d (.xd [(("place" : Str), V.int p)]))
def spAgr (K : PySem.W.Frag) (CP CT : Addr) : Sp := fun vs H Q E => ∃ (x l : Addr) (p h : Int) (r : Bool) (xs : List Int), vs = [.ref x, .ref l] ∧ Tri CT H x p h r ∧ SqL K H l (xs.map V.int) ∧ p.natAbs < 2 ^ 1000 ∧
  (∀ b, agr xs p h r = some b → Q (.bl b) H) ∧ (agr xs p h r = none → NoPl CP E H p)
def spTnv (CT : Addr) : Sp := fun vs H Q _ => ∃ (x : Addr) (p h : Int) (r : Bool), vs = [.ref x] ∧ Tri CT H x p h r ∧ ∀ y H', H y = none → Same H H' → Tri CT H' y p h (!r) → Q (.ref y) H'
def spTeq (CT : Addr) : Sp := fun vs H Q _ => ∃ (a : Addr) (p h : Int) (r : Bool) (b : Addr), vs = [.ref a, .ref b] ∧ Tri CT H a p h r ∧
  ((∃ p' h' r', Tri CT H b p' h' r' ∧ Q (.bl (decide (p = p') && (decide (h = h') && decide (r = r')))) H) ∨ (∃ xs, H b = some (.tup xs) ∧ Q (.bl false) H))
def triTxt (p h : Int) (r : Bool) : Str := (((Str.empty ++ Str.ofString (toString p)) ++ (" " : Str)) ++ Str.ofString (toString h)) ++ (if r then (" reached" : Str) else (" missed" : Str))
def spTst (CT : Addr) : Sp := fun vs H Q _ => ∃ (a : Addr) (p h : Int) (r : Bool), vs = [.ref a] ∧ Tri CT H a p h r ∧ p.natAbs < 2 ^ 1000 ∧ h.natAbs < 2 ^ 1000 ∧ Q (.str (triTxt p h r)) H
section
variable {P : Program} {w : World} {K : PySem.W.Frag} {mg : Str → Option Value} {base : Heap} {CP CT : Addr}
theorem kit_ownT : PySem.W.kitOne K (.ref CT) (.ref CT) = some true := by
  unfold PySem.W.kitOne
  rw [if_pos (beq_self_eq_true _)]
theorem scTini : FnScope ["self", "place", "height", "reached"] ["self", "place", "height", "reached"] (defScope sTini) := ⟨rfl, rfl, rfl, by decide +kernel, rfl, by decide +kernel, by decide +kernel⟩
theorem ok_tini {f : Addr} {fd : FuncData} (F : Fun K "__init__" "Trial.__init__" sTini f fd) (T : TriTxt K mg CT) : FnOk P w K mg base CX0 1 f fd ["self", "place", "height", "reached"] (spTini CT) := by
  refine F.ok scTini (fun vs H Q E h => ?_) (fun cdv A outer s H vs Q E hr h => ?_)
  · obtain ⟨x, p, h, r, dx, rfl, _⟩ := h
    rfl
  · obtain ⟨x, p, h, r, dx, rfl, hx, k⟩ := h
    refine ⟨_, (pss_cons (ps_fld (pv 0) (pv 1) rfl)
      (pss_cons (ps_fld (pv 0) (pv 2) rfl)
      (pss_one (ps_fld (pv 0) (pv 3) rfl)))), ?_⟩
    refine ⟨_, rfl, _, rfl, x, CT, dx, _, rfl, hx, T.cl, T.nP, by show 0 < 1000; decide, ?_⟩
    refine ⟨_, rfl, _, rfl, x, CT, dx, _, rfl, upd_same, T.cl, T.nH, by show 1 < 1000; decide, ?_⟩
    refine ⟨_, rfl, _, rfl, x, CT, dx, _, rfl, upd_same, T.cl, T.nR, by show 2 < 1000; decide, ?_⟩
    rw [upd_upd, upd_upd]
    exact k _ rfl rfl rfl rfl
theorem scAgr : FnScope ["self", "heights"] ["self", "heights"] (defScope sAgr) := ⟨rfl, rfl, rfl, by decide +kernel, rfl, by decide +kernel, by decide +kernel⟩
theorem ok_agr {f : Addr} {fd : FuncData} (F : Fun K "agrees" "Trial.agrees" sAgr f fd) (RP : ErrOk P w K mg base "NoPlace" CP "place" okInt) (T : TriTxt K mg CT) : FnOk P w K mg base (L2.CX P w) 4 f fd ["self", "heights"] (spAgr K CP CT) := by
  refine F.okX scAgr (fun vs H Q E h => ?_) (fun cdv A outer s H vs Q E hr h => ?_)
  · obtain ⟨x, l, p, h, r, xs, rfl, _⟩ := h
    rfl
  · obtain ⟨x, l, p, h, r, xs, rfl, ⟨dx, fs, hx, l1, l2, l3, l4⟩, hS, sp, h1, h2⟩ := h
    have hr3 : Room 3 _ := hr
    have hp' : p.natAbs.log2 < 1920 := log_of (by decide) (Nat.lt_of_lt_of_le sp (Nat.pow_le_pow_right (by decide) (by decide)))
    refine ⟨_, (pss_cons (ps_if (pt_not (pt_chain op_le op_lt pe_int (pe_fld (pv 0) rfl) (pe_callB call_len_seq (by rfl) T.b_len PySem.boot_len (pa_cons (pv 1) pa_nil)))) (pss_one (ps_err RP rfl (takes_of rfl rfl rfl rfl) hr3 (pa_cons (pe_fld (pv 0) rfl) pa_nil) rfl)) pss_nil)
      (pss_cons (ps_if (pt_val (pe_fld (pv 0) rfl)) (pss_one (ps_ret (pe_cmpR op_le (pe_ix ix_list (pv 1) (pe_fld (pv 0) rfl) (fun _ _ => rfl)) (pe_fld (pv 0) rfl) (nomark _)))) pss_nil)
      (pss_one (ps_ret (pe_cmpR op_gt (pe_ix ix_list (pv 1) (pe_fld (pv 0) rfl) (fun _ _ => rfl)) (pe_fld (pv 0) rfl) (nomark _)))))), ?_⟩
    refine ⟨_, rfl, x, CT, dx, fs, _, rfl, hx, T.cl, T.nP, l1, _, _, rfl, rfl, _, rfl, ?_⟩
    by_cases c0 : 0 ≤ p
    · refine if_t (decide_eq_true c0) ⟨_, rfl, l, _, rfl, .inl hS, _, _, rfl, rfl, _, rfl, ?_⟩
      rw [List.length_map]
      by_cases c1 : p < xs.length
      · obtain ⟨z, hz⟩ : ∃ z, xs[p.toNat]? = some z := ⟨_, List.getElem?_eq_getElem (by omega)⟩
        have hz' : atI (xs.map V.int) p = some (V.int z) := by
          obtain ⟨n, rfl⟩ := Int.eq_ofNat_of_zero_le c0
          exact atI_nat (by rw [List.getElem?_map]; simp at hz; rw [hz]; rfl)
        have hag : agr xs p h r = some (if r then decide (z ≤ h) else decide (h < z)) := by
          unfold agr
          rw [if_pos c0, hz]
          rfl
        have q := h1 _ hag
        refine if_f (by rw [decide_eq_true c1]; rfl) ?_
        refine ⟨_, rfl, x, CT, dx, fs, _, rfl, hx, T.cl, T.nR, l3, r, rfl, ?_⟩
        cases r with
        | true =>
          refine if_t rfl ?_
          refine ⟨_, rfl, _, rfl, x, CT, dx, fs, _, rfl, hx, T.cl, T.nP, l1, l, _, _, _, rfl, rfl, hS, hz', _, rfl, x, CT, dx, fs, _, rfl, hx, T.cl, T.nH, l2, _, _, rfl, rfl, ?_⟩
          exact q
        | false =>
          refine if_f rfl ?_
          refine ⟨_, rfl, _, rfl, x, CT, dx, fs, _, rfl, hx, T.cl, T.nP, l1, l, _, _, _, rfl, rfl, hS, hz', _, rfl, x, CT, dx, fs, _, rfl, hx, T.cl, T.nH, l2, _, _, rfl, rfl, ?_⟩
          exact q
      · have hn : agr xs p h r = none := by
          unfold agr
          rw [if_pos c0, List.getElem?_eq_none (by omega)]
          rfl
        refine if_t (by rw [decide_eq_false c1]; rfl) ⟨_, rfl, x, CT, dx, fs, _, rfl, hx, T.cl, T.nP, l1, ?_⟩
        exact err_way ⟨p, rfl, hp'⟩ fun d hd => h2 hn _ d (fun _ _ e => e) hd
    · have hn : agr xs p h r = none := by
        unfold agr
        rw [if_neg c0]
      refine if_f (decide_eq_false c0) ⟨_, rfl, ?_⟩
      refine if_t rfl ⟨_, rfl, x, CT, dx, fs, _, rfl, hx, T.cl, T.nP, l1, ?_⟩
      exact err_way ⟨p, rfl, hp'⟩ fun d hd => h2 hn _ d (fun _ _ e => e) hd
theorem scTnv : FnScope ["self"] ["self"] (defScope sTnv) := ⟨rfl, rfl, rfl, by decide +kernel, rfl, by decide +kernel, by decide +kernel⟩
theorem ok_tnv {f fI : Addr} {fd : FuncData} (F : Fun K "__invert__" "Trial.__invert__" sTnv f fd) (MK : Mk K CT fI) (GI : FnR P w K mg base CX0 1 fI (spTini CT)) (T : TriTxt K mg CT) : FnOk P w K mg base CX0 3 f fd ["self"] (spTnv CT) := by
  refine F.ok scTnv (fun vs H Q E h => ?_) (fun cdv A outer s H vs Q E hr h => ?_)
  · obtain ⟨x, p, h, r, rfl, _⟩ := h
    rfl
  · obtain ⟨x, p, h, r, rfl, ⟨dx, fs, hx, l1, l2, l3, l4⟩, k⟩ := h
    refine ⟨_, (pss_one (ps_ret (Own.pe_makeS (E := fun _ => E) MK GI hr rfl T.tri (passS pass0) (pa_cons (pe_fld (pv 0) rfl) (pa_cons (pe_fld (pv 0) rfl) (pa_cons (pe_not (pe_fld (pv 0) rfl)) pa_nil)))))), ?_⟩
    refine ⟨_, rfl, x, CT, dx, fs, _, rfl, hx, T.cl, T.nP, l1, _, rfl, x, CT, dx, fs, _, rfl, hx, T.cl, T.nH, l2, _, rfl, x, CT, dx, fs, _, rfl, hx, T.cl, T.nR, l3, _, rfl, ?_⟩
    exact mk_tri k
theorem scTeq : FnScope ["self", "other"] ["self", "other"] (defScope sTeq) := ⟨rfl, rfl, rfl, by decide +kernel, rfl, by decide +kernel, by decide +kernel⟩
theorem ok_teq {f : Addr} {fd : FuncData} (F : Fun K "__eq__" "Trial.__eq__" sTeq f fd) (T : TriTxt K mg CT) (kI : PySem.W.kitOne K (.type "tuple") (.ref CT) = some false) : FnOk P w K mg base CX0 1 f fd ["self", "other"] (spTeq CT) := by
  refine F.ok scTeq (fun vs H Q E h => ?_) (fun cdv A outer s H vs Q E hr h => ?_)
  · obtain ⟨a, p, h, r, b, rfl, _⟩ := h
    rfl
  · obtain ⟨a, p, h, r, b, rfl, ⟨dx, fs, hx, l1, l2, l3, l4⟩, k⟩ := h
    refine ⟨_, (pss_one (ps_ret (pe_and (pe_callB call_isi (by rfl) T.isi (by decide +kernel) (pa_cons (pv 1) (pa_cons (pe_glob (v := .ref CT) rfl T.tri rfl) pa_nil))) (pe_and (pe_cmpR op_eq (pe_fld (pv 0) rfl) (pe_fld (pv 1) rfl) (nomark _)) (pe_and (pe_cmpR op_eq (pe_fld (pv 0) rfl) (pe_fld (pv 1) rfl) (nomark _)) (pe_one (pe_cmpR op_eq (pe_fld (pv 0) rfl) (pe_fld (pv 1) rfl) (nomark _)))))))), ?_⟩
    rcases k with ⟨p', h', r', ⟨dy, gs, hy, m1, m2, m3, m4⟩, q⟩ | ⟨xs, hb, q⟩
    · refine ⟨_, rfl, V.ref b, V.ref CT, .ref CT, .ref CT, true, rfl, .own _, .base (.ins hy T.cl T.ha T.hn T.ht T.hm), kit_ownT, ?_⟩
      refine ⟨true, rfl, if_t rfl ⟨_, rfl, a, CT, dx, fs, _, rfl, hx, T.cl, T.nP, l1, _, rfl, b, CT, dy, gs, _, rfl, hy, T.cl, T.nP, m1, rfl, ?_⟩⟩
      refine ⟨_, rfl, ?_⟩
      by_cases c1 : p = p'
      · rw [if_pos (by simp [c1])]
        refine ⟨_, rfl, a, CT, dx, fs, _, rfl, hx, T.cl, T.nH, l2, _, rfl, b, CT, dy, gs, _, rfl, hy, T.cl, T.nH, m2, rfl, ?_⟩
        refine ⟨_, rfl, ?_⟩
        by_cases c2 : h = h'
        · rw [if_pos (by simp [c2])]
          refine ⟨_, rfl, a, CT, dx, fs, _, rfl, hx, T.cl, T.nR, l3, _, rfl, b, CT, dy, gs, _, rfl, hy, T.cl, T.nR, m3, rfl, ?_⟩
          have e : decide (V.bl r = V.bl r') = decide (r = r') := by cases r <;> cases r' <;> rfl
          rw [e]
          rw [decide_eq_true c1, decide_eq_true c2] at q
          exact q
        · rw [if_neg (by simp [c2])]
          rw [decide_eq_true c1, decide_eq_false c2] at q
          exact q
      · rw [if_neg (by simp [c1])]
        rw [decide_eq_false c1] at q
        exact q
    · refine ⟨_, rfl, V.ref b, V.ref CT, .type "tuple", .ref CT, false, rfl, .own _, .base (.tup hb), kI, ?_⟩
      exact ⟨_, rfl, if_f rfl q⟩
theorem scTst : FnScope ["self"] ["self"] (defScope sTst) := ⟨rfl, rfl, rfl, by decide +kernel, rfl, by decide +kernel, by decide +kernel⟩
theorem ok_tst {f : Addr} {fd : FuncData} (F : Fun K "__str__" "Trial.__str__" sTst f fd) (T : TriTxt K mg CT) : FnOk P w K mg base CX0 1 f fd ["self"] (spTst CT) := by
  refine F.ok scTst (fun vs H Q E h => ?_) (fun cdv A outer s H vs Q E hr h => ?_)
  · obtain ⟨a, p, h, r, rfl, _⟩ := h
    rfl
  · obtain ⟨a, p, h, r, rfl, ⟨dx, fs, ha, l1, l2, l3, l4⟩, sp, sh, k⟩ := h
    have hp' : p.natAbs.log2 < 1920 := log_of (by decide) (Nat.lt_of_lt_of_le sp (Nat.pow_le_pow_right (by decide) (by decide)))
    have hh' : h.natAbs.log2 < 1920 := log_of (by decide) (Nat.lt_of_lt_of_le sh (Nat.pow_le_pow_right (by decide) (by decide)))
    have zp := int_text_length_le (k := 1920) (by decide) hp'
    have zh := int_text_length_le (k := 1920) (by decide) hh'
    refine ⟨_, (pss_cons (ps_if (pt_val (pe_fld (pv 0) rfl)) (pss_one (ps_ret (pe_joined (.cons (pe_fmt (pe_fld (pv 0) rfl)) (.cons pe_str (.cons (pe_fmt (pe_fld (pv 0) rfl)) (.cons pe_str .nil))))))) pss_nil) (pss_one (ps_ret (pe_joined (.cons (pe_fmt (pe_fld (pv 0) rfl)) (.cons pe_str (.cons (pe_fmt (pe_fld (pv 0) rfl)) (.cons pe_str .nil)))))))), ?_⟩
    have e0 : (Str.empty : Str).length ≤ 10 := by decide +kernel
    have e1 : (" " : Str).length ≤ 10 := by decide +kernel
    have e2 : (" reached" : Str).length ≤ 10 := by decide +kernel
    have e3 : (" missed" : Str).length ≤ 10 := by decide +kernel
    have z1 : (Str.empty ++ Str.ofString (toString p)).length ≤ 1950 := by rw [Str.length_append, PySem.ofString_length]; omega
    have z2 : ((Str.empty ++ Str.ofString (toString p)) ++ (" " : Str)).length ≤ 1960 := by rw [Str.length_append]; omega
    have z3 : (((Str.empty ++ Str.ofString (toString p)) ++ (" " : Str)) ++ Str.ofString (toString h)).length ≤ 3950 := by rw [Str.length_append, PySem.ofString_length]; omega
    have z4 : (triTxt p h r).length ≤ 4010 := by unfold triTxt; rw [Str.length_append]; cases r <;> simp only [if_true, Bool.false_eq_true, if_false] <;> omega
    have big : ∀ n : Nat, n ≤ 4010 → n ≤ sizeLine := fun n h => by rw [sizeLine_eq]; omega
    cases r with
    | true =>
      refine ⟨_, rfl, a, CT, dx, fs, _, rfl, ha, T.cl, T.nR, l3, _, rfl, if_t rfl ?_⟩
      refine ⟨_, rfl, a, CT, dx, fs, _, rfl, ha, T.cl, T.nP, l1, .inr ⟨p, rfl, hp', Str.ofString (toString p), rfl, big _ (by omega), ?_⟩⟩
      refine ⟨_, rfl, big _ (by omega), _, rfl, a, CT, dx, fs, _, rfl, ha, T.cl, T.nH, l2, .inr ⟨h, rfl, hh', Str.ofString (toString h), rfl, big _ (by omega), ?_⟩⟩
      exact ⟨_, rfl, big _ z4, k⟩
    | false =>
      refine ⟨_, rfl, a, CT, dx, fs, _, rfl, ha, T.cl, T.nR, l3, _, rfl, if_f rfl ?_⟩
      refine ⟨_, rfl, a, CT, dx, fs, _, rfl, ha, T.cl, T.nP, l1, .inr ⟨p, rfl, hp', Str.ofString (toString p), rfl, big _ (by omega), ?_⟩⟩
      refine ⟨_, rfl, big _ (by omega), _, rfl, a, CT, dx, fs, _, rfl, ha, T.cl, T.nH, l2, .inr ⟨h, rfl, hh', Str.ofString (toString h), rfl, big _ (by omega), ?_⟩⟩
      exact ⟨_, rfl, big _ z4, k⟩
end
end Law

/-! Defs that close over __class__ and have cells of their own; super().__init__(e) of an own class. -/
namespace SubX
open PySem PySem.Spec PyProof.Rows L2
section
variable {M : Model} {A : Around} {E : Value → Shared → Prop} {s₀ s : Shared} {m cm : Str → Option Value} {env : Env} {cs : List (Str × Addr)}
theorem stL {n : Str} {v : Value} {Q : Unit → Shared → Prop} (x : InCallC s₀ env.locals m cs cm s) (hk : env.scope.kind = .function) (hl : env.kindOf n = some .local)
    (h : ∀ s', InCallC s₀ env.locals (fun y => if y = n then some v else m y) cs cm s' → Q () s') : wpAny M A (storeName env n v) Q E s := by
  refine wpAny_storeName_local hl x.toInCall.ns (fun h' hn' hs' => h _ ⟨⟨?_, hn', fun b o e => ?_, x.toInCall.fresh⟩, fun k c hc => ?_, x.apart, x.above⟩) (by rw [hk]; rfl)
  · obtain ⟨h₁, tk, rfl⟩ := x.toInCall.same
    exact ⟨h', _, rfl⟩
  · exact hs'.extBut b o (Nat.ne_of_lt (Nat.lt_of_lt_of_le (Heap.lt_size e) x.toInCall.fresh)) (x.toInCall.keep b o e)
  · exact (x.cell k c hc).sameBut hs' (Nat.ne_of_gt (x.above k c (PySem.mem_of_lookup hc)))
theorem stC {n : Str} {c : Addr} {v : Value} {Q : Unit → Shared → Prop} (x : InCallC s₀ env.locals m cs cm s) (hk : env.scope.kind = .function) (hl : env.kindOf n = some .cell)
    (hc : env.cells.lookup n = some c) (hc' : cs.lookup n = some c)
    (h : ∀ s', InCallC s₀ env.locals m cs (fun y => if y = n then some v else cm y) s' → Q () s') : wpAny M A (storeName env n v) Q E s := by
  have hLc := x.above n c (PySem.mem_of_lookup hc')
  refine wpAny_storeName_cell hk hl hc (x.cell n c hc') fun h' hc2 hs' => h _ ⟨⟨?_, x.toInCall.ns.sameBut hs' (Nat.ne_of_lt hLc), fun b o e => ?_, x.toInCall.fresh⟩, fun k c' hk' => ?_, x.apart, x.above⟩
  · obtain ⟨h₁, tk, rfl⟩ := x.toInCall.same
    exact ⟨h', _, rfl⟩
  · exact hs'.extBut b o (Nat.ne_of_lt (Nat.lt_trans (Nat.lt_of_lt_of_le (Heap.lt_size e) x.toInCall.fresh) hLc)) (x.toInCall.keep b o e)
  · by_cases hkn : k = n
    · subst hkn
      rw [hc'] at hk'; cases hk'
      simpa using hc2
    · rw [if_neg hkn]
      exact (x.cell k c' hk').sameBut hs' fun e => hkn (PySem.name_of_addr x.apart (PySem.mem_of_lookup hk') (e ▸ PySem.mem_of_lookup hc'))
theorem bindP (f : Str × Value → PUnit → Sem (ForInStep PUnit)) (hf : ∀ n v u, f (n, v) u = (do storeName env n v; pure (.yield ⟨⟩))) (hk : env.scope.kind = .function) :
    ∀ (binds : List (Str × Value)) (m cm : Str → Option Value) (s : Shared) (Q : PUnit → Shared → Prop), InCallC s₀ env.locals m cs cm s →
      (∀ x ∈ binds, env.kindOf x.1 = some .local ∨ (env.kindOf x.1 = some .cell ∧ ∃ c, env.cells.lookup x.1 = some c ∧ cs.lookup x.1 = some c)) →
      (∀ s', InCallC s₀ env.locals (bindL env.kindOf binds m) cs (bindC env.kindOf binds cm) s' → Q ⟨⟩ s') → wpAny M A (forIn binds ⟨⟩ f) Q E s
  | [], m, cm, s, Q, x, _, h => by rw [List.forIn_nil]; exact wpAny_pure (h s x)
  | (n, v) :: r, m, cm, s, Q, x, hkind, h => by
    rw [List.forIn_cons, hf]
    have hr : ∀ y ∈ r, env.kindOf y.1 = some .local ∨ (env.kindOf y.1 = some .cell ∧ ∃ c, env.cells.lookup y.1 = some c ∧ cs.lookup y.1 = some c) := fun y hy => hkind y (List.mem_cons_of_mem _ hy)
    rcases hkind (n, v) List.mem_cons_self with hl | ⟨hl, c, hc, hc'⟩
    · refine wpAny_bind (wpAny_bind (stL x hk hl fun s' x' => wpAny_pure (bindP f hf hk r _ _ s' Q x' hr fun s'' x'' => h s'' ?_)))
      unfold bindL bindC; rw [if_pos hl, if_pos hl]; exact x''
    · have hnl : ¬ env.kindOf n = some .local := by rw [hl]; decide
      refine wpAny_bind (wpAny_bind (stC x hk hl hc hc' fun s' x' => wpAny_pure (bindP f hf hk r _ _ s' Q x' hr fun s'' x'' => h s'' ?_)))
      unfold bindL bindC; rw [if_neg hnl, if_neg hnl]; exact x''
end
theorem look_app {l r : List (Str × Addr)} {n : Str} {c : Addr} (h : l.lookup n = some c) : (l ++ r).lookup n = some c := by
  rw [List.lookup_append, h]; rfl
theorem cells_over : ∀ (names : List (Str × NameKind)) (n : Nat) (acc cl : List (Str × Addr)), cellsFrom n names (acc ++ cl) = cellsFrom n names acc ++ cl
  | [], _, _, _ => rfl
  | (name, kind) :: r, n, acc, cl => by
    unfold cellsFrom
    split
    · exact cells_over r (n + 1) ((name, n) :: acc) cl
    · exact cells_over r n acc cl
section
variable {M : Model} {A : Around} {E : Value → Shared → Prop} {s : Shared}
theorem newEnv_over {scope : Scope} {globals : Addr} {closure : List (Str × Addr)} {binds : List (Str × Value)} {qual : Str} {func : Option Addr} {code : Value} {builtins : Addr} {Q : Env → Shared → Prop}
    (hk : scope.kind = .function)
    (hkind : ∀ x ∈ binds, scope.names.lookup x.1 = some .local ∨ (scope.names.lookup x.1 = some .cell ∧ ((cellsFrom (s.heap.objs.size + 1) scope.names []).lookup x.1).isSome = true))
    (hQ : ∀ env, env = newEnv scope s.heap.objs.size globals (cellsFrom (s.heap.objs.size + 1) scope.names closure) qual func code none builtins →
      ∀ s', InCallC s env.locals (bindL env.kindOf binds fun _ => none) (cellsFrom (s.heap.objs.size + 1) scope.names []) (bindC env.kindOf binds fun _ => none) s' → Q env s') :
    wpAny M A (newFunctionEnv scope globals closure binds qual func code none builtins) Q E s := by
  simp only [newFunctionEnv, Option.isSome_none, Bool.false_eq_true, if_false]
  refine wpAny_bind (wpAny_alloc ?_)
  refine wpAny_bind (wpAny_layCells _ (fun name kind cells => by cases hkc : kind == NameKind.cell <;> simp [hkc]) _ _ _ _ ?_)
  have ok := cellsFrom_ok scope.names (s.heap.push { cls := .type "frame", data := .dict #[] }) (s.heap.objs.size + 1) [] ⟨fun _ _ hm => (nomatch hm), List.Pairwise.nil⟩ (by rw [Heap.size_push]; exact Nat.le_refl _)
  rw [Heap.size_push] at ok
  rw [show ({ s with heap := s.heap.push { cls := .type "frame", data := .dict #[] } } : Shared).heap.objs.size = s.heap.objs.size + 1 from Heap.size_push ..]
  have hov : cellsFrom (s.heap.objs.size + 1) scope.names closure = cellsFrom (s.heap.objs.size + 1) scope.names [] ++ closure := cells_over scope.names _ [] closure
  refine wpAny_bind (bindP (s₀ := s) (cs := cellsFrom (s.heap.objs.size + 1) scope.names []) (env := newEnv scope s.heap.objs.size globals (cellsFrom (s.heap.objs.size + 1) scope.names closure) qual func code none builtins)
    _ (fun _ _ _ => rfl) hk binds (fun _ => none) (fun _ => none) _ _
    ⟨⟨⟨_, _, rfl⟩, (Heap.Ns.new s.heap (.type "frame")).keeps (pushCells_keeps _ _), fun b o e => pushCells_keeps _ _ b o (Heap.get?_push_of_some _ e), Nat.le_refl _⟩,
      fun n c hc => (ok.empty n c (PySem.mem_of_lookup hc)).1, ok.apart, fun n c hm => (ok.empty n c hm).2⟩
    (fun x hx => ?_) fun s' x => wpAny_pure (hQ _ rfl s' x))
  rcases hkind x hx with h | ⟨h1, h2⟩
  · exact .inl h
  · obtain ⟨c, hc⟩ := Option.isSome_iff_exists.mp h2
    refine .inr ⟨h1, c, ?_, hc⟩
    show (cellsFrom (s.heap.objs.size + 1) scope.names closure).lookup x.1 = some c
    rw [hov]
    exact look_app hc
end

structure SScope (N P : List Str) (sc : Scope) : Prop where
  kind : sc.kind = .function
  co : sc.isCoroutine = false
  gen : sc.isGenerator = false
  nd : N.Nodup
  pre : N.take P.length = P
  par : ∀ x ∈ P, sc.names.lookup x = some .local ∨ sc.names.lookup x = some .cell
  free : ∀ y ∈ sc.names, y.2 = .free → y.1 = "__class__"
  cls : sc.names.lookup ("__class__" : Str) = some .free

abbrev sxEnv (qual : Str) (scope : Scope) (L f : Addr) (cd : Value) (cc : Addr) : Env := PySem.W.envX qual scope L f cd (cellsFrom (L + 1) scope.names [(("__class__" : Str), cc)])
/-- the context of such a def's body, at its entry -/
def sxOf (CX : CXT) (P : Program) (w : World) (K : PySem.W.Frag) (mg : Str → Option Value) (base : Heap) (N : List Str) (qual : Str) (scope : Scope) (f : Addr) (cd : Value) (cc : Addr) (A : Around) (outer : List Env) (s : Shared) (H : Hp) (E : XK) : Cx where
  prog := P
  w := w
  K := K
  mg := mg
  base := base
  A := A.deeper (sxEnv qual scope s.heap.objs.size f cd cc)
  N := N
  s_0 := s
  H_0 := H
  env := sxEnv qual scope s.heap.objs.size f cd cc
  outer := outer
  stack := sxEnv qual scope s.heap.objs.size f cd cc :: outer
  ex := []
  calm := true
  fn := fun x => match scope.names.lookup x with
    | some .free => false
    | _ => true
  pn := []
  xe := fun e s' => wpAny (model P w) (A.deeper (sxEnv qual scope s.heap.objs.size f cd cc)) (leaving (sxEnv qual scope s.heap.objs.size f cd cc) e) (fun _ s'' => CX outer H s E e s'') (fun e' s'' => CX outer H s E e' s'') s'

theorem look_over {l : List (Str × Addr)} {k y : Str} {cc c : Addr} (h : (l ++ [(k, cc)]).lookup y = some c) : l.lookup y = some c ∨ (y = k ∧ c = cc) := by
  rw [List.lookup_append] at h
  cases e : l.lookup y with
  | some z => rw [e] at h; exact .inl h
  | none =>
    rw [e] at h
    have h : ([(k, cc)] : List (Str × Addr)).lookup y = some c := h
    by_cases q : y = k
    · subst q
      simp [List.lookup] at h
      exact .inr ⟨rfl, h.symm⟩
    · have q' : (y == k) = false := by simpa using q
      simp [List.lookup, q'] at h
theorem inv_startS {CX : CXT} {P : Program} {w : World} {K : PySem.W.Frag} {mg : Str → Option Value} {base : Heap} {N ps : List Str} {qual : Str} {scope : Scope} {f cc D : Addr} {cd : Value} {A : Around} {outer : List Env} {s s1 : Shared} {H : Hp} {E : XK} {us : List Value} {vs : List V}
    (S : SScope N ps scope) (hd : A.handled = none) (e0 : Env0 P w K mg base A outer s H) (hl : vs.length = ps.length) (r : Vals vs us) {oc : Obj} (lc : K.lookup cc = some oc) (dc : oc.data = .cell (some (.ref D)))
    (x : InCallC s s.heap.objs.size (bindL (sxEnv qual scope s.heap.objs.size f cd cc).kindOf (ps.zip us) fun _ => none) (cellsFrom (s.heap.objs.size + 1) scope.names []) (bindC (sxEnv qual scope s.heap.objs.size f cd cc).kindOf (ps.zip us) fun _ => none) s1) :
    Inv (sxOf CX P w K mg base N qual scope f cd cc A outer s H E) [] (start N vs) H s1 := by
  have hpl : ps.length ≤ N.length := by have := congrArg List.length S.pre; rw [List.length_take] at this; omega
  obtain ⟨h1, tk, rfl, hk⟩ := x.done
  have noA : ∀ b : Addr, b ∉ (sxOf CX P w K mg base N qual scope f cd cc A outer s H E).ex := fun b z => absurd (show b ∈ ([] : List Addr) from z) (by simp)
  have hov : cellsFrom (s.heap.objs.size + 1) scope.names [(("__class__" : Str), cc)] = cellsFrom (s.heap.objs.size + 1) scope.names [] ++ [(("__class__" : Str), cc)] := cells_over scope.names _ [] _
  have gcc : s.heap.get? cc = some oc := (e0.bs cc oc (e0.mod.kin _ _ lc)).1
  have hcc : H cc = none := (e0.bs cc oc (e0.mod.kin _ _ lc)).2
  have ltc : cc < s.heap.objs.size := Heap.lt_size gcc
  have sp : ∀ {y c}, (sxOf CX P w K mg base N qual scope f cd cc A outer s H E).env.cells.lookup y = some c → (cellsFrom (s.heap.objs.size + 1) scope.names []).lookup y = some c ∨ (y = "__class__" ∧ c = cc) := fun {y c} h => by
    have h : (cellsFrom (s.heap.objs.size + 1) scope.names [(("__class__" : Str), cc)]).lookup y = some c := h
    rw [hov] at h
    exact look_over h
  have up : ∀ {y c}, (cellsFrom (s.heap.objs.size + 1) scope.names []).lookup y = some c → (sxOf CX P w K mg base N qual scope f cd cc A outer s H E).env.cells.lookup y = some c := fun {y c} h => by
    show (cellsFrom (s.heap.objs.size + 1) scope.names [(("__class__" : Str), cc)]).lookup y = some c
    rw [hov]
    exact look_app h
  refine ⟨⟨e0.mod, S.kind, rfl, rfl, Nat.le_refl _, fun y z c h1 h2 => ?_, fun y hy => ?_, fun y c hf h => ?_, fun _ => hd, Around.frames_deeper e0.frames, .inr ⟨rfl, rfl⟩, fun b z => absurd z (noA b), e0.bs, e0.bsz, fun b _ _ => noA b, fun b z => absurd z (noA b), e0.funs, e0.frf⟩,
    rfl, e0.bare, Un.kept hk, ⟨_, x.toInCall.ns, fun i y v h1 h2 h3 => ?_⟩, fun y c h => ?_, e0.hok.fresh (Nat.le_refl _), fun y c h => ?_, fun p hp => absurd (show p ∈ ([] : List (Addr × Obj)) from hp) (by simp), e0.hok.kept hk, ?_⟩
  · rcases sp h1 with a | ⟨a, a2⟩ <;> rcases sp h2 with b | ⟨b, b2⟩
    · exact PySem.name_of_addr x.apart (PySem.mem_of_lookup a) (PySem.mem_of_lookup b)
    · have := x.above y c (PySem.mem_of_lookup a)
      rw [b2] at this
      exact absurd (Nat.lt_trans this ltc) (Nat.lt_irrefl _)
    · have := x.above z c (PySem.mem_of_lookup b)
      rw [a2] at this
      exact absurd (Nat.lt_trans this ltc) (Nat.lt_irrefl _)
    · rw [a, b]
  · have hy : scope.names.lookup y = some .cell ∨ scope.names.lookup y = some .free := hy
    rcases hy with hy | hy
    · obtain ⟨c, e⟩ := cell_has (n := s.heap.objs.size + 1) hy
      exact ⟨c, up e⟩
    · have : y = "__class__" := S.free _ (PySem.mem_of_lookup hy) rfl
      subst this
      cases e : (cellsFrom (s.heap.objs.size + 1) scope.names []).lookup ("__class__" : Str) with
      | some c => exact ⟨c, up e⟩
      | none =>
        refine ⟨cc, ?_⟩
        show (cellsFrom (s.heap.objs.size + 1) scope.names [(("__class__" : Str), cc)]).lookup ("__class__" : Str) = some cc
        rw [hov, List.lookup_append, e]
        simp [List.lookup]
  · rcases sp h with a | ⟨a, a2⟩
    · exact Nat.le_of_lt (x.above y c (PySem.mem_of_lookup a))
    · have hf : (match scope.names.lookup y with | some .free => false | _ => true) = true := hf
      rw [a, S.cls] at hf
      cases hf
  · have hi : i < vs.length := by
      unfold L2.start at h2
      by_cases hi : i < vs.length
      · exact hi
      · rw [List.getElem?_append_right (by simpa using hi)] at h2
        rw [List.getElem?_replicate] at h2
        split at h2 <;> cases h2
    have ha : vs[i]? = some v := by
      unfold L2.start at h2
      rw [List.getElem?_append_left (by simpa using hi), List.getElem?_map] at h2
      cases e : vs[i]? with
      | none => rw [e] at h2; cases h2
      | some a => rw [e] at h2; cases h2; rfl
    obtain ⟨u, hu, rv⟩ := r.get ha
    have hp : ps[i]? = some y := by
      rw [← S.pre, List.getElem?_take_of_lt (by omega)]; exact h1
    have ndP : ps.Nodup := by rw [← S.pre]; exact S.nd.sublist (List.take_sublist _ _)
    refine ⟨u, rv, ?_⟩
    rcases S.par y (List.mem_of_getElem? hp) with k | k
    · exact .inl ⟨k, bindL_get ndP hp hu k⟩
    · obtain ⟨c, e⟩ := cell_has (n := s.heap.objs.size + 1) k
      refine .inr ⟨.inl k, c, up e, ?_⟩
      have q := x.cell y c e
      rw [bindC_get ndP hp hu (by show scope.names.lookup y ≠ _; rw [k]; decide)] at q
      exact q
  · rcases sp h with a | ⟨a, a2⟩
    · exact ⟨_, x.cell y c a⟩
    · rw [a2]
      exact ⟨_, oc, hk _ _ gcc, dc⟩
  · rcases sp h with a | ⟨a, a2⟩
    · exact e0.hok.fresh (Nat.le_of_lt (x.above y c (PySem.mem_of_lookup a)))
    · rw [a2]
      exact hcc
  · unfold L2.start
    show _ = N.length
    rw [List.length_append, List.length_map, List.length_replicate]
    omega
/-! ### statements of the body, with super() among them -/
/-- the statements l of the body b, run in the frame of X -/
def At (X : Cx) (b l : List Stmt) (t : TS) : Prop := ∀ (s : Shared) (σ : L2.St) (H : Hp) (D : Ends), L2.Inv X [] σ H s → t D σ H →
  _root_.PySem.wpAt (model X.prog X.w) X.A (.func b X.env) (execs l X.env) (SP X [] D) X.xe s
section
variable {X : Cx} {b rest : List Stmt} {st : Stmt} {t u : TS}
theorem at_of {l : List Stmt} (h : PSs X l t) : At X b l t := fun s σ H D I q => _root_.PySem.wpAt_of_wpAny (h.run [] s σ H D I q)
theorem at_step {st : Stmt} {t1 : TS} {D : Ends} {s : Shared} {σ : L2.St} {H : Hp} (h1 : PS X st t1) (h2 : At X b rest u) (I : L2.Inv X [] σ H s) (q : t1 { D with nx := u D } σ H) :
    _root_.PySem.wpAt (model X.prog X.w) X.A (.func b X.env) (execs (st :: rest) X.env) (SP X [] D) X.xe s := by
  refine ks_wpAt_execs_cons (_root_.PySem.wpAt_of_wpAny (thn (h1.run [] s σ H _ I q) fun f s1 q => ?_))
  cases f with
  | next =>
    obtain ⟨σ', H', I', q⟩ := q
    exact h2 s1 σ' H' D I' q
  | ret v => exact q
  | brk => exact q
  | cont => exact q
theorem at_cons (h1 : PS X st t) (h2 : At X b rest u) : At X b (st :: rest) (tSeq t u) := fun s σ H D I q => at_step h1 h2 I q
theorem at_cut (h1 : PS X st t) (h2 : At X b rest u) : At X b (st :: rest) (C8.tCut t u) := fun s σ H D I q => by
  obtain ⟨P, q1, q2⟩ := q
  refine ks_wpAt_execs_cons (_root_.PySem.wpAt_of_wpAny (thn (h1.run [] s σ H { D with nx := P } I q1) fun f s1 q => ?_))
  cases f with
  | next =>
    obtain ⟨σ', H', I', q⟩ := q
    exact h2 s1 σ' H' D I' (q2 _ _ q)
  | ret v => exact q
  | brk => exact q
  | cont => exact q
end

/-- what the written part says of a def with __class__: its function at f, the class D in its cell -/
structure FunS (P : Program) (K : PySem.W.Frag) (x qual : Str) (st : Stmt) (f cc D : Addr) (fd : FuncData) : Prop where
  ex : ∃ (oc : Value) (od an : Option Addr) (kV doc pm ct : Value) (cda : Addr) (osl : Array (Option Value)), fd = PySem.W.fnX x qual (defArgs st) (defBody st) (defScope st) [("__class__", cc)] .none kV doc pm an (.ref cda) ct ∧
    K.lookup f = some ⟨oc, od, .func fd, osl⟩ ∧ PySem.W.codeIn K (.ref cda) qual = true ∧
    ∃ (o : Obj) (vs : Array Value) (fl : Str) (tf : Tok), K.lookup cda = some o ∧ o.data = .fields vs ∧ vs[2]? = some (.str fl tf) ∧ ((P.main.file : Str) == fl) = true
  cell : ∃ (o : Obj), K.lookup cc = some o ∧ o.data = .cell (some (.ref D))
  opaque_ : PySem.W.nsIn K cStatics "thirdparty.any" = some none
  top : (P.main.scope.names.lookup ("super" : Str)).isSome = false
/-- the class that stands above D, and its __init__ at g -/
structure UpS (K : PySem.W.Frag) (D g : Addr) : Prop where
  self : PySem.W.mroIn K D (.ref D) = some true
  up : PySem.W.ks_superIn K D D "__init__" = some (some (.ref g))
  fn : PySem.W.isFn K (.ref g) = true
  fi : PySem.W.fnIn K g = true

section
variable {X : Cx} {CX : CXT} {k : Nat} {f cc D g : Addr} {x qual : Str} {st : Stmt} {fd : FuncData} {sp : Sp} {E : L2.St → XK} {e : Expr} {te : TE} {b rest : List Stmt} {u : TS} {p0 p1 p2 p3 p4 : Pos} {ar : Arg} {i : Nat}
/-- super().__init__(e) -/
def tSup (D : Addr) (sp : Sp) (E : L2.St → XK) (te : TE) (u : TS) : TS := fun Z σ H => ∃ a dx fs, σ[0]? = some (some (V.ref a)) ∧ H a = some (.ins D dx fs) ∧ te σ H fun v H1 => sp [.ref a, v] H1 (fun _ H2 => u Z σ H2) (E σ)
theorem at_super (T : FunS X.prog X.K x qual st f cc D fd) (U : UpS X.K D g) (F : FnR X.prog X.w X.K X.mg X.base CX k g sp) (hr : Room k X.A) (hx : ∀ σ, PassesAt CX X σ (E σ)) (noSup : X.mg "super" = none)
    (henv : ∃ L cda, X.env = sxEnv qual (defScope st) L f (.ref cda) cc ∧ fd.code = .ref cda)
    (hcl : X.env.cells.lookup ("__class__" : Str) = some cc)
    (hks : (defScope st).names.lookup ("super" : Str) = some .globalImplicit) (hkc : (defScope st).names.lookup ("__class__" : Str) = some .free)
    (hks' : (defScope st).names.lookup ar.arg = some .local)
    (har : ((defArgs st).posonlyargs ++ (defArgs st).args).head? = some ar) (h0 : X.N[0]? = some ar.arg)
    (he : PE X e te) (h2 : At X b rest u)
    (hse : starEach [e] X.env = (false, eval e X.env) :: starEach [] X.env := by rfl)
    (hform0 : eval (.Call (.Attribute (.Call (.Name "super" p0) [] [] p1) "__init__" p2) [e] [] p3) X.env = (do
      let ov ← attributeBase (.Call (.Name "super" p0) [] [] p1) "__init__" X.env (eval (.Call (.Name "super" p0) [] [] p1) X.env)
      standAt p2.atName
      let (g, first) ← holding [ov] (getMethod ov "__init__" (do return (← importBound (.Call (.Name "super" p0) [] [] p1) X.env).getD true))
      let cp ← methodCallPos true (.Call (.Name "super" p0) [] [] p1) X.env p2 p3
      callWith cp g first (backTo p3 (starEach [e] X.env)) []) := by rfl)
    (hln : (p2.endLine == p3.line) = true := by rfl) (hi : interactive X.env = false := by rfl) :
    At X b (.Expr (.Call (.Attribute (.Call (.Name "super" p0) [] [] p1) "__init__" p2) [e] [] p3) p4 :: rest) (tSup D sp E te u) := by
  intro s σ H Z I hq
  obtain ⟨a, dx, fs, hs0, ha, hq⟩ := hq
  obtain ⟨L, cda, henv, hcode⟩ := henv
  obtain ⟨oc, od, an, kV, doc, pm, ct, cda', osl, efd, lf, _, oF, vs, fl, tf, lc, hvf, hv2, hfl⟩ := T.ex
  obtain rfl : cda' = cda := by rw [efd] at hcode; exact Value.ref.inj hcode
  obtain ⟨ocell, lcell, dcell⟩ := T.cell
  have kS : X.env.kindOf "super" = some .globalImplicit := by rw [henv]; exact hks
  have kC : X.env.kindOf "__class__" = some .free := by rw [henv]; exact hkc
  have kA : X.env.kindOf ar.arg = some .local := by rw [henv]; exact hks'
  have fL : X.env.func = some f := by rw [henv]
  have dL : X.env.code = .ref cda' := by rw [henv]
  have hform : eval (.Call (.Attribute (.Call (.Name "super" p0) [] [] p1) "__init__" p2) [e] [] p3) X.env = (do
      let ov ← attributeBase (.Call (.Name "super" p0) [] [] p1) "__init__" X.env (eval (.Call (.Name "super" p0) [] [] p1) X.env)
      standAt p2.atName
      let (g, first) ← holding [ov] (getMethod ov "__init__" (do return (← importBound (.Call (.Name "super" p0) [] [] p1) X.env).getD true))
      callWith p3 g first (backTo p3 (starEach [e] X.env)) []) := by
    have hp : methodCallPos true (.Call (.Name "super" p0) [] [] p1) X.env p2 p3 = pure p3 := by
      unfold methodCallPos
      rw [hln]
      rfl
    rw [hform0, hp]
    rfl
  refine ks_wpAt_execs_cons (ks_wpAt_Expr_any ?_ hi)
  refine ks_wpAt_MethodCall (o := .Call (.Name "super" p0) [] [] p1) (name := "__init__") (apos := p2) (pos := p3) (args := [e]) (env := X.env) ?_ hform
  refine ks_wpAt_super_base (env := X.env) (cc := cda') (ar := ar) kS kC (by decide) fL (I.kIn _ _ lf) rfl (by rw [efd]; exact har) dL (I.kIn _ _ lc) hvf hv2 hfl T.top ?_
  obtain ⟨mb, hb1, hb2⟩ := I.mod.blt
  refine PySem.W.ks_loadName_global I.ok.kind kS (Calls.loadGlobal_builtin (v := .type "super") (by rw [I.ok.glob]; exact I.mod.glob.keeps I.bk) noSup
    (by rw [I.ok.blt]; exact hb1.keeps I.bk) ((hb2 _ (by decide)).trans (by decide +kernel)) ⟨rfl, ?_⟩)
  refine wpAny_loadName_free I.ok.kind kC hcl (v := .ref D) ⟨_, I.kIn _ _ lcell, dcell⟩ ?_
  obtain ⟨m, hn, hlm⟩ := I.loc
  obtain ⟨ua, ru, hlook⟩ := hlm 0 ar.arg (V.ref a) h0 hs0 (.inl (by rw [henv]; exact hks'))
  obtain rfl : ua = Value.ref a := ru
  have hma : m ar.arg = some (Value.ref a) := by
    rcases hlook with ⟨_, z⟩ | ⟨z, _⟩
    · exact z
    · rw [kA] at z
      rcases z with z | z <;> cases z
  refine wpAny_loadName_local I.ok.kind kA hn hma ?_
  obtain ⟨mA, J, _⟩ := ins_get I.hok ha
  have hup := U.up
  unfold PySem.W.ks_superIn at hup
  cases hcd : PySem.W.clsIn X.K D with
  | none => rw [hcd] at hup; cases hup
  | some cd =>
    rw [hcd] at hup
    obtain ⟨oD, hD0, hD2⟩ : ∃ oD, X.K.lookup D = some oD ∧ oD.data = .cls cd := by
      unfold PySem.W.clsIn at hcd
      split at hcd
      · rename_i c d cd' sl ho
        cases hcd
        exact ⟨_, ho, rfl⟩
      · cases hcd
    have gD := I.kIn _ _ hD0
    refine ks_wpAny_isType_cls gD hD2 ⟨rfl, ?_⟩
    obtain ⟨od, J2, _⟩ := J.look
    obtain ⟨ogo, hgo, hgc⟩ : ∃ og, X.K.lookup g = some og ∧ og.cls = .type "function" := by
      have ht : (X.K.lookup g).map (·.cls) = some (.type "function") := by simpa [PySem.W.isFn, PySem.W.typeIn] using U.fn
      cases z : X.K.lookup g with
      | none => rw [z] at ht; cases ht
      | some og => rw [z] at ht; exact ⟨og, rfl, Option.some.inj ht⟩
    obtain ⟨hp, g0, d, tk, os⟩ := s
    refine ks_wpAny_call_super gD hD2 J2.at_ J2.cls (fun c z => ?_) (PySem.W.looks_mroIn I.kIn U.self) fun h1 e1 k1 => ?_
    · have := J2.no
      unfold PySem.W.notCls at this
      rw [z] at this
      exact Bool.noConfusion this
    have J1 : L2.Inv X [] σ H ⟨h1, g0, d, tk, os⟩ := I.kept (t' := tk) k1
    obtain ⟨mA', Jx, _⟩ := ins_get J1.hok ha
    obtain ⟨od', J3, _⟩ := Jx.look
    refine ks_wpAny_getMethod_super e1 (PySem.W.looks_opaque J1.kIn T.opaque_) (l₀ := cd.mro) (fun A' Q' E' s' k' q' => wpAny_bind ((PySem.W.looks_clsIn J1.kIn hcd) A' _ E' s' k' (wpAny_pure q'))) rfl J1.kIn hup (J1.kIn _ _ hgo) hgc (PySem.W.ks_ne J1.kIn J3 hcd) (by decide) ?_
    have gu : (h1.push (PySem.W.methodObj (.ref g) (.ref a))).get? h1.objs.size = some (PySem.W.methodObj (.ref g) (.ref a)) := Heap.get?_push_at rfl rfl
    have J4 : L2.Inv X [] σ H ⟨h1.push (PySem.W.methodObj (.ref g) (.ref a)), g0, d, tk + 1, os⟩ := J1.kept (t' := tk + 1) fun b o z => Heap.get?_push_of_some _ z
    have J5 : L2.Inv X [(h1.objs.size, PySem.W.methodObj (.ref g) (.ref a))] σ H ⟨h1.push (PySem.W.methodObj (.ref g) (.ref a)), g0, d, tk + 1, os⟩ := J4.pins_of fun p hp => by
      rcases List.mem_cons.mp hp with rfl | hp
      · refine ⟨gu, J1.hok.fresh (Nat.le_refl _), fun z => ?_, J1.nofs (Nat.le_refl _), fun v z => by cases z⟩
        have z' : h1.objs.size = X.env.locals := z
        have y := J1.lt
        rw [← z'] at y
        exact absurd y (Nat.lt_irrefl _)
      · cases hp
    show wpAny _ _ (callWith p3 (.ref h1.objs.size) [] (backTo p3 (starEach [e] X.env)) []) _ _ _
    have hq' : tCons te tNil σ H fun xs H1 => sp (.ref a :: xs) H1 (fun _ H2 => u Z σ H2) (E σ) := hq
    rw [hse]
    refine PySem.W.callWith_of (by rfl) (PySem.W.keeps_M (self := .ref a) U.fi) (Calls.evalArgs_plain ?_)
    have pr := (pa_cons he pa_nil hse).run p3 _ _ σ H _ J5 hq'
    rw [hse] at pr
    refine thn pr fun us s2 hh => ?_
    obtain ⟨xs, H2, I2, r2, hsp⟩ := hh
    have gw := (I2.pin (h1.objs.size, PySem.W.methodObj (.ref g) (.ref a)) (List.mem_append_right _ List.mem_cons_self)).1
    refine ⟨⟨gw, I2.kIn⟩, ?_⟩
    refine wpAny_mono (wpAny_call (PySem.W.method_call gw (Own.run_fnRS (us := .ref a :: us) (vs := .ref a :: xs) F hr (hx σ) I2 (.cons rfl r2) hsp))) (fun v s3 hv => ?_) fun _ _ z => z
    obtain ⟨v', H3, I3, rv, q3⟩ := hv
    have I4 : L2.Inv X [] σ H3 s3 := I3.pins_of fun p hp => nomatch hp
    exact h2 s3 σ H3 Z I4 q3
end
/-! ### the def, by its body -/
section
variable {CX : CXT} {P : Program} {w : World} {K : PySem.W.Frag} {mg : Str → Option Value} {base : Heap} {k : Nat} {f cc D : Addr} {x qual : Str} {st : Stmt} {fd : FuncData} {N ps : List Str} {sp : Sp}
theorem run_bndS {A : Around} {outer : List Env} {s : Shared} {H : Hp} {args : Args} {Q : VK} {E : XK} {G : List V → Hp → Prop} (T : FunS P K x qual st f cc D fd)
    (S : SScope N ps (defScope st)) (hr : Room (k + 1) A) (e0 : Env0 P w K mg base A outer s H) (hb : StX.Bnd CX P w K mg base fd args ps A outer s H E G)
    (hbody : ∀ (cda : Addr) (s2 : Shared) (H2 : Hp) (vs : List V), fd.code = .ref cda → G vs H2 → Room k (A.deeper (sxEnv qual (defScope st) s2.heap.objs.size f (.ref cda) cc)) →
      ∃ t, At (sxOf CX P w K mg base N qual (defScope st) f (.ref cda) cc A outer s2 H2 E) (defBody st) (defBody st) t ∧ t { nx := fun _ H' => Q .non H', rt := Q } (L2.start N vs) H2) : codeAny (model P w) A (.call (.ref f) args) (CR CX outer P w H s Q E) s := by
  have KX : K.In s.heap := e0.mod.kin.keeps fun b o e => (e0.bs b o e).1
  obtain ⟨oc, od, an, kV, doc, pm, ct, cda, osl, efd, lf, hcd, _⟩ := T.ex
  obtain ⟨ocell, lcell, dcell⟩ := T.cell
  subst efd
  refine codeAny_call_function hr.depth (KX _ _ lf) rfl S.co S.gen rfl (PySem.W.codeRec_of KX hcd) ?_
  refine hb _ _ _ fun s2 H2 vs us e2 un ho hx r hl g => ?_
  have lim : s2.heap.NoLimit := e0.mod.nolimit.keeps fun b o e => (e2.bs b o e).1
  have hkind : ∀ y ∈ ps.zip us, (defScope st).names.lookup y.1 = some .local ∨ ((defScope st).names.lookup y.1 = some .cell ∧ ((cellsFrom (s2.heap.objs.size + 1) (defScope st).names []).lookup y.1).isSome = true) := fun y hy => by
    rcases S.par y.1 (List.of_mem_zip hy).1 with q | q
    · exact .inl q
    · exact .inr ⟨q, PySem.W.cellsFrom_some _ _ _ (.inl q)⟩
  refine newEnv_over (s := s2) S.kind hkind fun env he s1 x => ?_
  subst he
  refine ⟨lim.keeps x.toInCall.keep, ks_codeAny_funcAt ?_⟩
  obtain ⟨t, ht, hq⟩ := hbody cda s2 H2 vs rfl g (hr.deeper _)
  have I : L2.Inv (sxOf CX P w K mg base N qual (defScope st) f (.ref cda) cc A outer s2 H2 E) [] (L2.start N vs) H2 s1 := inv_startS S hr.hd e2 hl r lcell dcell x
  refine _root_.PySem.wpAt_mono (ht s1 _ _ _ I hq) (fun fl s' hs => ?_) fun e s' hs => ?_
  · have fin : ∀ {σ' : L2.St} {H' : Hp} {v' : V} {u' : Value}, L2.Inv (sxOf CX P w K mg base N qual (defScope st) f (.ref cda) cc A outer s2 H2 E) [] σ' H' s' → RelV v' u' → Q v' H' → CE outer P w H s Q u' s' :=
      fun {σ' H' v' u'} J rv' q => ⟨v', H', J.os.trans ho, J.bare, un.trans J.base, J.hok, rv', q⟩
    cases fl with
    | ret u' =>
      obtain ⟨v', σ', H', J, rv', q⟩ := hs
      exact fin J rv' q
    | next =>
      obtain ⟨σ', H', J, q⟩ := hs
      exact fin (v' := V.non) (u' := Value.none) J rfl q
    | brk =>
      obtain ⟨_, _, _, q⟩ := hs
      exact False.elim q
    | cont =>
      obtain ⟨_, _, _, q⟩ := hs
      exact False.elim q
  · exact wpAny_mono hs (fun _ s'' z => hx e s'' z) fun e' s'' z => hx e' s'' z
/-- def f(a, ..) -/
theorem fn_sup (T : FunS P K x qual st f cc D fd) (S : SScope N ps (defScope st)) (len : ∀ vs H Q E, sp vs H Q E → vs.length = ps.length)
    (hb : ∀ us : List Value, us.length = ps.length → bindArgs fd ⟨us, []⟩ = pure (ps.zip us))
    (hbody : ∀ (cda : Addr) (A : Around) (outer : List Env) (s : Shared) (H : Hp) (vs : List V) (Q : VK) (E : XK), fd.code = .ref cda → Room k (A.deeper (sxEnv qual (defScope st) s.heap.objs.size f (.ref cda) cc)) → sp vs H Q E →
      ∃ t, At (sxOf CX P w K mg base N qual (defScope st) f (.ref cda) cc A outer s H E) (defBody st) (defBody st) t ∧ t { nx := fun _ H' => Q .non H', rt := Q } (L2.start N vs) H) :
    FnR P w K mg base CX (k + 1) f sp := by
  intro A outer s H us vs Q E hr e0 r hsp
  have hl := len _ _ _ _ hsp
  have hu : us.length = ps.length := by rw [← r.length]; exact hl
  refine run_bndS T S hr e0 (G := fun xs H2 => xs = vs ∧ H2 = H) (fun A' Ex Q' h => ?_) fun cda s2 H2 xs hc ⟨ex, eH⟩ hr' => ?_
  · rw [hb us hu]
    exact wpAny_pure (h s H vs us e0 Un.refl rfl (fun _ _ z => z) r hl ⟨rfl, rfl⟩)
  · subst ex eH
    exact hbody cda A outer s2 _ _ Q E hc hr' hsp
/-- def f(a, .., *v) -/
theorem fn_supV {pv : Str} (T : FunS P K x qual st f cc D fd) (S : SScope N (ps ++ [pv]) (defScope st)) (hCX : StX.CXUp CX)
    (hb : ∀ us rest : List Value, us.length = ps.length → bindArgs fd ⟨us ++ rest, []⟩ = (newTuple rest >>= fun t => pure (ps.zip us ++ [(pv, t)])))
    (hbody : ∀ (cda : Addr) (A : Around) (outer : List Env) (s : Shared) (H : Hp) (vs : List V) (Q : VK) (E : XK), fd.code = .ref cda → Room k (A.deeper (sxEnv qual (defScope st) s.heap.objs.size f (.ref cda) cc)) → sp vs H Q E →
      ∃ t, At (sxOf CX P w K mg base N qual (defScope st) f (.ref cda) cc A outer s H E) (defBody st) (defBody st) t ∧ t { nx := fun _ H' => Q .non H', rt := Q } (L2.start N vs) H) :
    FnR P w K mg base CX (k + 1) f (fun vs H Q E => ∃ ws rest, vs = ws ++ rest ∧ ws.length = ps.length ∧ rest.length ≤ sizeLine ∧ ∀ p, H p = Option.none → sp (ws ++ [V.ref p]) (upd H p (.tup rest)) Q E) := by
  intro A outer s H us vs Q E hr e0 r hsp
  obtain ⟨ws, rest, ev, hl, hz, hq⟩ := hsp
  subst ev
  obtain ⟨u1, u2, eu, r1, r2⟩ := StX.vals_split r
  subst eu
  have hn : H s.heap.objs.size = Option.none := e0.hok.fresh (Nat.le_refl _)
  have hl1 : u1.length = ps.length := by rw [← r1.length]; exact hl
  have hl2 : u2.length ≤ sizeLine := by rw [← r2.length]; exact hz
  refine run_bndS T S hr e0 (G := fun xs H2 => ∃ p, H p = Option.none ∧ xs = ws ++ [V.ref p] ∧ H2 = upd H p (.tup rest)) (fun A' Ex Q' h => ?_) fun cda s2 H2 xs hc ⟨p, hp, ex, eH⟩ hr' => ?_
  · rw [hb u1 u2 hl1]
    refine wpAny_bind (wpAny_newTuple (wpAny_pure ?_) hl2)
    have new : ObjOk P w (upd H s.heap.objs.size (.tup rest)) (s.heap.push ({ cls := .type "tuple", data := .seq u2.toArray } : Obj)) s.heap.objs.size (.tup rest) := ⟨hz, u2, r2, ⟨_, Heap.get?_push_size _ rfl, rfl, _, rfl⟩⟩
    have un := StX.un_laid (fs := frs outer) (s := s) (o := ({ cls := .type "tuple", data := .seq u2.toArray } : Obj)) (u := .tup rest) hn
    have z := h _ _ (ws ++ [V.ref s.heap.objs.size]) (u1 ++ [Value.ref s.heap.objs.size]) (StX.env0_laid e0 new) un rfl (fun e s' => hCX outer s H _ _ E e s' un (fun b o q => Heap.get?_push_of_some _ q) rfl) (r1.append (.cons rfl .nil))
      (by rw [List.length_append, List.length_append, hl] <;> rfl) ⟨_, hn, rfl, rfl⟩
    rw [List.zip_append hl1.symm] at z
    exact z
  · subst ex eH
    exact hbody cda A outer s2 _ _ Q E hc hr' (hq p hp)
end
end SubX
/-! An attribute that a class of the program lacks; a op b of two own classes that differ; o.m(..) of an own class that the object tells. -/
namespace SubY
open PySem PySem.Spec PyProof.Rows PySem.W
/-- the name of the class at C fits a message -/
def nameB (K : Frag) (C : Addr) : Bool := (clsIn K C).any fun cd => decide (cd.name.cps.foldl (fun k c => k + (Str.utf8Of c).length) 0 ≤ 100) && decide ((Str.ofString (s!"type object '{cd.name.toString}' has no attribute '")).length ≤ 1000)
section
variable {α : Type} {prog : Program} {w : World} {A : Around} {E : Value → Shared → Prop} {s : Shared}
theorem raise_str {msg : Str} {Q : α → Shared → Prop} (hh : A.handled = none)
    (h : ∀ h' tk e, Heap.NewExcOf s.heap h' e "AttributeError" → E (.ref e) { s with heap := h', toks := tk }) (hm : msg.length ≤ sizeLine) :
    wpAny (model prog w) A (raiseErrorStr "AttributeError" msg : Sem α) Q E s := by
  unfold raiseErrorStr
  refine wpAny_bind (wpAny_mkStr (wpAny_bind ?_) hm)
  unfold newExc newTuple
  refine wpAny_bind (wpAny_newObj_type ?_ (by size_fits))
  refine wpAny_bind (m := firstArgMember _ _) (wpAny_of_eq (a := Value.none) (by simp only [firstArgMember, attrError_no_first]; rfl) ?_)
  rw [ownMembersOf_AttributeError]
  refine wpAny_newObj_type ?_ (by size_fits)
  obtain ⟨hp, g, d, tk, os⟩ := s
  have f1 := sub_AttributeError
  unfold raiseNew
  refine wpAny_bind (wpAny_handled ?_)
  rw [hh]
  first
    | refine wpAny_throw ?_
    | refine wpAny_bind (wpAny_pure (wpAny_throw ?_))
  dsimp only
  refine h _ _ _ ?_
  refine ⟨fun b ob hb => ?_, Heap.get?_none_of_le (by simp), ?_⟩
  · exact Heap.get?_push_of_some _ (Heap.get?_push_of_some _ hb)
  · exact ⟨_, _, Heap.get?_push_size _ rfl, rfl, rfl, rfl⟩
variable {K : Frag} {mc : Value} {C : Addr} {name : Str}
theorem tga_miss {tk : Tok} {Q : Fin → Shared → Prop} (X : K.In s.heap) (ho : Looks (model prog w) s.heap (opaqueClassAbove (.ref C)) none) (ht : Looks (model prog w) s.heap (typeOf (.ref C)) mc)
    (e1 : findIn K mc name = some none) (e2 : findIn K (.ref C) name = some none) (hn : nameB K C = true) (hh : A.handled = none) (hz : name.length ≤ 1000)
    (h : ∀ h' tk' e, Heap.NewExcOf s.heap h' e "AttributeError" → E (.ref e) { s with heap := h', toks := tk' }) :
    wpAny (model prog w) A (Builtin.«type.__getattribute__» ⟨[.ref C, .str name tk], []⟩) Q E s := by
  obtain ⟨hp, g, d, t, os⟩ := s
  dsimp only at X ho ht
  have L1 := looks_findIn (M := model prog w) X e1
  unfold nameB at hn
  obtain ⟨cd, hcd, hn⟩ := any_some hn
  rw [Bool.and_eq_true, decide_eq_true_eq, decide_eq_true_eq] at hn
  unfold Builtin.«type.__getattribute__»
  refine wpAny_bind (wpAny_pure (wpAny_bind (ho.at (wpAny_bind (ht.at (wpAny_bind (L1.at ?_)))))))
  refine wpAny_bind (wpAny_pure ?_)
  refine wpAny_bind ((looks_findIn X e2).at ?_)
  dsimp only
  refine wpAny_bind (wpAny_rule ?_)
  refine wpAny_bind (m := typeNameCut 100 (.ref C)) ?_
  unfold typeNameCut
  refine wpAny_bind ((looks_clsIn X hcd).at ?_)
  rw [if_pos hn.1]
  refine wpAny_pure ?_
  refine raise_str hh h ?_
  rw [strLen_append, strLen_append, PySem.ofString_length "'"]
  have e : "'".length = 1 := by decide
  have hn2 := hn.2
  rw [sizeLine_eq]
  omega
theorem is_attr {h' : Heap} {e : Addr} {h : Heap} {Q : Bool → Shared → Prop} {g : Array GenState} {d : Drawn} {tk : Tok} {os : OsState} (x : Heap.NewExcOf h h' e "AttributeError") (q : Q true ⟨h', g, d, tk, os⟩) :
    wpAny (model prog w) A (isInstance (.ref e) (.type "AttributeError")) Q E ⟨h', g, d, tk, os⟩ := by
  obtain ⟨_, _, ob, vs, he, hc, _⟩ := x
  have hT : ∀ t' : Tok, (⟨h', g, d, t', os⟩ : Shared).TypeIs (.ref e) "AttributeError" := fun _ => ⟨_, he, hc⟩
  have f1 := sub_AttributeError
  unfold isInstance
  repeat (any_goals (first | assumption | wp_step))
  rw [hc, f1]
  exact wpAny_pure q
/-- getattr of a class for what it lacks -/
theorem cls_lack {u : Tok} {Q : Option Value → Shared → Prop} (X : K.In s.heap) (ho : Looks (model prog w) s.heap (opaqueClassAbove (.ref C)) none) (ht : Looks (model prog w) s.heap (typeOf (.ref C)) (.type "type"))
    (hga : findIn K (.type "type") "__getattribute__" = some (some (.builtin "type.__getattribute__"))) (hgt : findIn K (.type "type") "__getattr__" = some none) (hi : subIn K (.type "type") (.type "type") = some true)
    (e1 : findIn K (.type "type") name = some none) (e2 : findIn K (.ref C) name = some none) (hn : nameB K C = true) (hh : A.handled = none) (hz : name.length ≤ 1000)
    (h : ∀ h' tk', (∀ b o, s.heap.get? b = some o → h'.get? b = some o) → Q none { s with heap := h', toks := tk' }) :
    wpAny (model prog w) A (getAttrBy? (.ref C) (.str name u)) Q E s := by
  obtain ⟨hp, g, d, t, os⟩ := s
  dsimp only at X ho ht h
  unfold getAttrBy?
  refine wpAny_bind (wpAny_attempt ?_)
  unfold getAttrBy
  refine wpAny_holding (wpAny_bind (ht.at (wpAny_bind ((looks_findIn X hga).at ?_))))
  dsimp only
  rw [if_neg (by decide)]
  unfold getAttrByItsOwn
  refine wpAny_bind (wpAny_of_eq (a := none) rfl (wpAny_bind (wpAny_attempt (wpAny_holding ?_))))
  unfold callGetattribute
  rw [if_neg (by decide)]
  unfold boundAndCalled
  rw [KF.slot_tga.bind]
  refine wpAny_bind (wpAny_pure ?_)
  show wpAny _ _ (call (.builtin "type.__getattribute__") [.ref C, .str name u]) _ _ _
  refine wpAny_call ?_
  refine codeAny_call_builtin KF.slot_tga.plain KF.entry_tga ?_
  refine @check_slot (model prog w) _ _ ⟨hp, g, d, t, os⟩ "type.__getattribute__" "type" "__getattribute__" (.ref C) [.str name u] [] _ (by decide +kernel) (by decide +kernel) (ht.andThen (looks_subIn X hi)) (KF.args_tga (.ref C) (.str name u)) ?_
  refine tga_miss (s := ⟨hp, g, d, t, os⟩) X ho ht e1 e2 hn hh hz fun h' tk' e x => ?_
  dsimp only
  have X' : K.In h' := X.keeps x.keeps
  have fin := h h'
  unfold getattributeRaised
  refine wpAny_bind (is_attr x ?_)
  rw [if_pos rfl]
  refine wpAny_bind (m := hookBehind (.type "type") none) ((looks_findIn X' hgt).at ?_)
  unfold hookOrError attributeErrorLeaves
  rw [if_pos (by rfl)]
  first
    | refine wpAny_throw ?_
    | refine wpAny_bind (wpAny_throw ?_)
  refine wpAny_bind (is_attr x ?_)
  rw [if_pos rfl]
  exact wpAny_pure (fin _ x.keeps)
end
section
variable {prog : Program} {w : World} {A : Around} {E : Value → Shared → Prop} {s : Shared} {K : Frag} {x y C C2 L f f2 : Addr} {h₀ : Heap} {m : Str → Option Value} {ox oy : Obj} {od od2 : Option Obj}
/-- what of the class at C makes getattr say that it lacks a name -/
structure Lack (K : Frag) (C : Addr) (name : Str) : Prop where
  op : nsIn K cStatics "thirdparty.any" = some none
  ty : typeIn K (.ref C) = some (.type "type")
  ga : findIn K (.type "type") "__getattribute__" = some (some (.builtin "type.__getattribute__"))
  gt : findIn K (.type "type") "__getattr__" = some none
  tt : subIn K (.type "type") (.type "type") = some true
  e1 : findIn K (.type "type") name = some none
  e2 : findIn K (.ref C) name = some none
  nm : nameB K C = true
theorem keepI {h h' : Heap} (I : InstAt h x ox C od) (k : ∀ b o, h.get? b = some o → h'.get? b = some o) : InstAt h' x ox C od := by
  refine ⟨k _ _ I.at_, I.cls, I.no, ?_⟩
  have d := I.dict
  split at d
  · rename_i e1 e2
    exact k _ _ d
  · trivial
  · exact d.elim
theorem bin_own {op : Operator} {sub : Bool} {Q : Value → Shared → Prop} (F : Fr h₀ L s.heap m) (X₀ : K.In h₀) (I : InstAt s.heap x ox C od) (I2 : InstAt s.heap y oy C2 od2) (hne : C ≠ C2) (hc : selfFirst K C = true) (hc2 : selfFirst K C2 = true)
    (hs : findIn K (.ref C) (PySem.dunder op.info.2) = some (some (.ref f))) (hs2 : findIn K (.ref C2) (PySem.dunder op.info.2) = some (some (.ref f2))) (hr : findIn K (.ref C) (dunderR op.info.2) = some none) (hr2 : findIn K (.ref C2) (dunderR op.info.2) = some none)
    (hf : isFn K (.ref f) = true) (hsub : subIn K (.ref C2) (.ref C) = some sub) (hl : sub = true → Lack K C2 (dunderR op.info.2)) (hh : A.handled = none) (hz : (dunderR op.info.2).length ≤ 1000)
    (h : ∀ (h' : Heap) (tk' : Tok), (∀ b o, s.heap.get? b = some o → h'.get? b = some o) → wpAny (model prog w) A (call (.ref f) [.ref x, .ref y]) (PySem.W.CmpBack Q) E { s with heap := h', toks := tk' }) : wpAny (model prog w) A (binaryOp op (.ref x) (.ref y)) Q E s := by
  have X := X₀.keeps F.keep
  obtain ⟨cd, rest, hcd, hm⟩ := ksp_first hc
  obtain ⟨cd2, rest2, hcd2, hm2⟩ := ksp_first hc2
  rcases hi : op.info with ⟨sym, nm'⟩
  rw [hi] at hs hr hs2 hr2 hl hz
  dsimp only at hs hr hs2 hr2 hl hz
  obtain ⟨hp, g, d, tt, os⟩ := s
  have hne2 : (Value.ref C == Value.ref C2) = false := Bool.eq_false_iff.mpr fun q => hne (Value.ref.inj (beq_iff_eq.mp q))
  have L1 : Looks (model prog w) hp (typeOf (.ref x)) (.ref C) := I.type
  have L2 : Looks (model prog w) hp (typeOf (.ref y)) (.ref C2) := I2.type
  have L3 : Looks (model prog w) hp (fillsNumberSlot (.ref C) nm') true := fills_K X hcd hm hs
  have L4 : Looks (model prog w) hp (fillsNumberSlot (.ref C2) nm') true := fills_K X hcd2 hm2 hs2
  have L5 : Looks (model prog w) hp (isSubtype (.ref C2) (.ref C)) sub := looks_subIn X hsub
  simp only [binaryOp, hi]
  refine wpAny_holding (wpAny_bind ?_)
  unfold binaryOp1
  refine wpAny_bind (L1.at (wpAny_bind (L2.at (wpAny_bind (L3.at ?_)))))
  simp only [hne2, Bool.false_eq_true, if_false]
  refine wpAny_bind (L4.at ?_)
  simp only [Bool.and_self, if_true]
  have tail : ∀ (h' : Heap) (tk' : Tok), (∀ b o, hp.get? b = some o → h'.get? b = some o) → Looks (model prog w) h' (numberSlotInPython (.ref C) nm') true ∧ Looks (model prog w) h' (numberSlotInPython (.ref C2) nm') true ∧ wpAny (model prog w) A (tryMethod (.ref x) (PySem.dunder nm') (.ref y)) (fun r s' => ∃ v, r = some v ∧ Q v s') E ⟨h', g, d, tk', os⟩ := fun h' tk' k =>
    ⟨ksp_inPy (X.keeps k) hs hr (.inl rfl), ksp_inPy (X.keeps k) hs2 hr2 (.inl rfl), ksp_try (X.keeps k) (keepI I k) hs hf (h h' tk' k)⟩
  refine wpAny_bind (L5.at ?_)
  cases sub with
  | false =>
    obtain ⟨M1, M2, one⟩ := tail hp tt (fun _ _ e => e)
    simp only [Bool.false_eq_true, if_false, Bool.not_false, Bool.and_self, if_true]
    refine wpAny_bind (M1.at ?_)
    simp only [if_true]
    refine wpAny_bind (M2.at ?_)
    simp only [Bool.not_true, Bool.false_eq_true, if_false]
    refine wpAny_bind (wpAny_mono one (fun r s' hr' => ?_) fun _ _ e => e)
    obtain ⟨v, rfl, hq⟩ := hr'
    exact wpAny_pure (wpAny_pure hq)
  | true =>
    obtain ⟨M1, M2, _⟩ := tail hp tt (fun _ _ e => e)
    have LK := hl rfl
    simp only [if_true]
    refine wpAny_bind (m := reflectedDiffers (.ref C) (.ref C2) nm') ?_
    unfold reflectedDiffers
    refine wpAny_bind (M1.at ?_)
    simp only [Bool.not_true, Bool.false_eq_true, if_false]
    refine wpAny_bind (M2.at ?_)
    simp only [Bool.not_true, Bool.false_eq_true, if_false]
    refine wpAny_bind (wpAny_mkStr ?_ (by rw [sizeLine_eq]; omega))
    refine wpAny_bind (cls_lack (s := ⟨hp, g, d, _, os⟩) X (looks_opaque X LK.op) (looks_typeIn X LK.ty) LK.ga LK.gt LK.tt LK.e1 LK.e2 LK.nm hh hz fun h' tk' k => ?_)
    refine wpAny_pure ?_
    obtain ⟨N1, N2, one⟩ := tail h' tk' k
    simp only [Bool.false_eq_true, if_false, Bool.not_false, Bool.and_self, if_true]
    refine wpAny_bind (N1.at ?_)
    simp only [if_true]
    refine wpAny_bind (N2.at ?_)
    simp only [Bool.not_true, Bool.false_eq_true, if_false]
    refine wpAny_bind (wpAny_mono one (fun r s' hr' => ?_) fun _ _ e => e)
    obtain ⟨v, rfl, hq⟩ := hr'
    exact wpAny_pure (wpAny_pure hq)
end
end SubY
namespace SubZ
open PySem PySem.Spec PyProof.Rows L2
/-- what of the written part a op b of own classes asks: a of the class at C, b of that at C2; f is the def -/
inductive Bin (K : PySem.W.Frag) (op : Operator) (C C2 f : Addr) : Prop
  | same (e : C = C2) (hc : PySem.W.selfFirst K C = true) (hs : PySem.W.findIn K (.ref C) (PySem.dunder op.info.2) = some (some (.ref f))) (hf : PySem.W.isFn K (.ref f) = true) : Bin K op C C2 f
  | two (f2 : Addr) (sub : Bool) (ne : C ≠ C2) (hc : PySem.W.selfFirst K C = true) (hc2 : PySem.W.selfFirst K C2 = true) (hs : PySem.W.findIn K (.ref C) (PySem.dunder op.info.2) = some (some (.ref f))) (hs2 : PySem.W.findIn K (.ref C2) (PySem.dunder op.info.2) = some (some (.ref f2)))
      (hr : PySem.W.findIn K (.ref C) (dunderR op.info.2) = some none) (hr2 : PySem.W.findIn K (.ref C2) (dunderR op.info.2) = some none) (hf : PySem.W.isFn K (.ref f) = true) (hsub : PySem.W.subIn K (.ref C2) (.ref C) = some sub)
      (hl : sub = true → SubY.Lack K C2 (dunderR op.info.2)) (hz : (dunderR op.info.2).length ≤ 1000) : Bin K op C C2 f
section
variable {X : Cx} {CX : CXT} {k : Nat} {E : L2.St → XK} {m : Str} {o e : Expr} {es : List Expr} {ta : TE} {t : TA} {pos apos : Pos} {pl : Sem Bool}
/-- a op b, both instances of own classes that stand in the heap -/
def rOwn2 (X : Cx) (CX : CXT) (k : Nat) (op : Operator) (E : XK) : R2 := fun x y H Q => ∃ a b dx dy fs gs C C2 f sp, x = .ref a ∧ y = .ref b ∧ H a = some (.ins C dx fs) ∧ H b = some (.ins C2 dy gs) ∧ Bin X.K op C C2 f ∧ FnR X.prog X.w X.K X.mg X.base CX k f sp ∧ sp [.ref a, .ref b] H Q E
theorem op_own2 {op : Operator} {E : XK} (hr : Room k X.A) (hx : Passes CX X E) (hcalm : X.calm = true) : OpR X (PySem.binaryOp op) (rOwn2 X CX k op E) := by
  intro pins s σ H x y v u Q I rx ry h
  obtain ⟨a, b, dx, dy, fs, gs, C, C2, f, sp, rfl, rfl, ha, hb, B, F, hsp⟩ := h
  cases rx
  cases ry
  obtain ⟨mA, J, _⟩ := ins_get I.hok ha
  obtain ⟨mB, J', _⟩ := ins_get I.hok hb
  obtain ⟨od, J, _⟩ := J.look
  obtain ⟨od', J', _⟩ := J'.look
  obtain ⟨m, hF⟩ := I.fr
  cases B with
  | same e hc hs hf =>
    subst e
    refine PySem.W.binop_K (op := op) hF I.ok.mod.kin J J'.type hc hs hf ?_
    exact wpAny_mono (wpAny_call (run_fnR F hr hx I (us := [.ref a, .ref b]) (vs := [.ref a, .ref b]) (.cons rfl (.cons rfl .nil)) hsp)) (fun _ _ z => Own.back z) fun _ _ z => z
  | two f2 sub ne hc hc2 hs hs2 hr1 hr2 hf hsub hl hz =>
    refine SubY.bin_own (op := op) hF I.ok.mod.kin J J' ne hc hc2 hs hs2 hr1 hr2 hf hsub hl (I.ok.hd hcalm) hz fun h' tk' kp => ?_
    have I2 : L2.Inv X pins σ H { s with heap := h', toks := tk' } := I.kept (t' := tk') kp
    exact wpAny_mono (wpAny_call (run_fnR F hr hx I2 (us := [.ref a, .ref b]) (vs := [.ref a, .ref b]) (.cons rfl (.cons rfl .nil)) hsp)) (fun _ _ z => Own.back z) fun _ _ z => z
/-- o.m(..), the class of o and the promise of its method told by the heap's own words -/
def tMethP (X : Cx) (CX : CXT) (k : Nat) (m : Str) (E : L2.St → XK) (ta : TE) (t : TA) : TE := fun σ H Q => ta σ H fun x H1 => ∃ a C dx fs g sp, x = .ref a ∧ H1 a = some (.ins C dx fs) ∧ fs.lookup m = none ∧ Cls X.K C ∧ Meth X.K C m g ∧ FnR X.prog X.w X.K X.mg X.base CX k g sp ∧ t σ H1 fun vs H2 => sp (x :: vs) H2 Q (E σ)
theorem pe_methP0 (ho : PE X o ta) (hr : Room k X.A) (hx : ∀ σ, PassesAt CX X σ (E σ))
    (ht : eval (.Call (.Attribute o m apos) [] [] pos) X.env = (do
      let ov ← eval o X.env
      standAt apos.atName
      let (g, first) ← holding [ov] (getMethod ov m pl)
      callWith pos g first (backTo pos (starEach [] X.env)) (backToKw pos (keywordEach [] X.env))) := by rfl) :
    PE X (.Call (.Attribute o m apos) [] [] pos) (tMethP X CX k m E ta tNil) := by
  refine ⟨fun pins s σ H Q I h => ?_⟩
  refine PySem.W.methodCall_KW (pl := pl) (thn (ho.run pins s σ H _ I h) fun u s1 ⟨x, H1, I1, rx, a, C, dx, fs, g, sp, ex, ea, l, c, hm, F, q⟩ => ?_) ht
  subst ex
  cases (show u = Value.ref a from rx)
  refine getmeth_ok I1 ea c hm l (PySem.W.callWith_K0 (first := [.ref a]) I1.kIn hm.kp ?_)
  exact wpAny_call (Own.run_fnRS (us := [.ref a]) (vs := [.ref a]) F hr (hx σ) I1 (.cons rfl .nil) q)
theorem pe_methP (he : PE X o ta) (hr : Room k X.A) (hx : ∀ σ, PassesAt CX X σ (E σ)) (ha : PA X (e :: es) t)
    (hst : starEach (e :: es) X.env = (false, eval e X.env) :: starEach es X.env := by rfl) (hpl : (backTo pos (starEach es X.env)).any (·.1) = false := by rfl)
    (ht : eval (.Call (.Attribute o m apos) (e :: es) [] pos) X.env = (do
      let ov ← eval o X.env
      standAt apos.atName
      let (f, first) ← holding [ov] (getMethod ov m pl)
      callWith pos f first (backTo pos (starEach (e :: es) X.env)) (backToKw pos (keywordEach [] X.env))) := by rfl) :
    PE X (.Call (.Attribute o m apos) (e :: es) [] pos) (tMethP X CX k m E ta t) := by
  refine ⟨fun pins s σ H Q I h => ?_⟩
  refine PySem.W.methodCall_KW (pl := pl) (thn (he.run pins s σ H _ I h) fun u s1 ⟨x, H1, I1, rx, a, C, dx, fs, g, sp, ex, ea, l, c, hm, F, q⟩ => ?_) ht
  subst ex
  cases (show u = Value.ref a from rx)
  refine getmeth_ok I1 ea c hm l ?_
  refine PySem.W.callWith_K (first := [.ref a]) (h₀ := X.base) I.ok.mod.kin hm.kp (thn (ha.run pos pins s1 σ H1 _ I1 q) fun us s2 ⟨vs, H2, I2, r, q2⟩ => ⟨I2.kIn, ?_⟩) hst hpl
  exact wpAny_call (Own.run_fnRS (us := .ref a :: us) (vs := .ref a :: vs) F hr (hx σ) I2 (.cons rfl r) q2)
end
end SubZ

/-! Lists of trials. -/
namespace Law
open PySem PySem.Spec PyProof.Rows L2
theorem sqT_same {K : PySem.W.Frag} {H H' : Hp} {a : Addr} {xs : List V} (h : SqT K H a xs) (s : Same H H') : SqT K H' a xs := by
  rcases h with (h | ⟨o, h⟩) | h
  · exact .inl (.inl (s _ _ h))
  · exact .inl (.inr ⟨o, s _ _ h⟩)
  · exact .inr h
theorem freshS {H H' : Hp} {a : Addr} (s : Same H H') (h : H' a = none) : H a = none := by
  cases e : H a with
  | none => rfl
  | some o => rw [s _ _ e] at h; cases h
theorem Sz.ok {x : Int} (h : Sz x) : Sup.okInt (.int x) := ⟨x, rfl, log_of (by decide) (Nat.lt_of_lt_of_le h (Nat.pow_le_pow_right (by decide) (by decide)))⟩
theorem sqL_same {K : PySem.W.Frag} {H H' : Hp} {a : Addr} {xs : List V} (h : SqL K H a xs) (s : Same H H') : SqL K H' a xs := by
  rcases h with (h | ⟨o, h⟩) | h
  · exact .inl (.inl (s _ _ h))
  · exact .inl (.inr ⟨o, s _ _ h⟩)
  · exact .inr h
abbrev TRow := Int × Int × Bool
def TrisAt (CT : Addr) (H : Hp) (p : Addr) (rows : List TRow) : Prop := ∃ ts : List Addr, H p = some (.lst (ts.map V.ref)) ∧ ts.length = rows.length ∧ ∀ (i : Nat) (t : Addr) (r : TRow), ts[i]? = some t → rows[i]? = some r → Tri CT H t r.1 r.2.1 r.2.2
theorem TrisAt.same {CT : Addr} {H H' : Hp} {p : Addr} {rows : List TRow} (h : TrisAt CT H p rows) (s : Same H H') : TrisAt CT H' p rows := by
  obtain ⟨ts, h1, h2, h3⟩ := h
  exact ⟨ts, s _ _ h1, h2, fun i t r e1 e2 => (h3 i t r e1 e2).same s⟩
end Law
/-! Lists of new objects, made by a comprehension. -/
namespace Law
open PySem PySem.Spec PyProof.Rows L2
def hide (D : Addr) (H : Hp) : Hp := fun b => if b = D then none else H b
theorem hide_ne {D b : Addr} {H : Hp} (h : b ≠ D) : hide D H b = H b := if_neg h
theorem hide_upd {D : Addr} {H : Hp} {o : HO} : hide D (upd H D o) = hide D H := by
  funext b
  by_cases h : b = D
  · rw [h]; simp [hide]
  · rw [hide_ne h, hide_ne h, upd_ne h]
theorem hide_same {D : Addr} {H H' : Hp} (s : Same H H') : Same (hide D H) (hide D H') := fun b o e => by
  by_cases h : b = D
  · rw [h] at e; simp [hide] at e
  · rw [hide_ne h] at e ⊢; exact s _ _ e
theorem hide_le {D : Addr} {H : Hp} : Same (hide D H) H := fun b o e => by
  by_cases h : b = D
  · rw [h] at e; simp [hide] at e
  · rw [hide_ne h] at e; exact e
def StabP (Pi : Nat → Hp → Addr → Prop) : Prop := ∀ j u H H', Same H H' → Pi j H u → Pi j H' u
def Refs (D : Addr) (H0 : Hp) (Pi : Nat → Hp → Addr → Prop) (i : Nat) (H' : Hp) : Prop := ∃ us : List Addr, H' D = some (.lst (us.map V.ref)) ∧ us.length = i ∧ (∀ j u, us[j]? = some u → Pi j (hide D H') u) ∧ Same H0 H' ∧ H0 D = none
theorem Refs.start {D : Addr} {H0 : Hp} {Pi : Nat → Hp → Addr → Prop} (hD : H0 D = none) : Refs D H0 Pi 0 (upd H0 D (.lst [])) := ⟨[], upd_same, rfl, fun _ _ h => (nomatch h), same_new hD, hD⟩
theorem Refs.lt {D : Addr} {H0 H' : Hp} {Pi : Nat → Hp → Addr → Prop} {i : Nat} (h : Refs D H0 Pi i H') : ∃ acc, H' D = some (.lst acc) := ⟨_, h.choose_spec.1⟩
theorem Refs.push {D : Addr} {H0 H' H2 : Hp} {Pi : Nat → Hp → Addr → Prop} {i : Nat} {u : Addr} (h : Refs D H0 Pi i H') (st : StabP Pi) (S : Same H' H2) (hp : Pi i (hide D H2) u) (hi : i ≤ 900) :
    ∃ acc, H2 D = some (.lst acc) ∧ acc.length < sizeLine ∧ Refs D H0 Pi (i + 1) (upd H2 D (.lst (acc ++ [.ref u]))) := by
  obtain ⟨us, e, l, a, s0, n0⟩ := h
  refine ⟨_, S _ _ e, small1000 (by rw [List.length_map]; omega), us ++ [u], by rw [upd_same, List.map_append]; rfl, by rw [List.length_append, l]; rfl, fun j v hv => ?_, fun c o ec => ?_, n0⟩
  · rw [hide_upd]
    by_cases c : j < us.length
    · rw [List.getElem?_append_left c] at hv
      exact st _ _ _ _ (hide_same S) (a j v hv)
    · rw [List.getElem?_append_right (by omega)] at hv
      have hj : j - us.length = 0 := by
        have := (List.getElem?_eq_some_iff.mp hv).1
        simp at this
        omega
      rw [hj] at hv
      cases hv
      have : j = i := by omega
      rw [this]
      exact hp
  · rw [upd_ne (ne_of_none ec n0)]
    exact S _ _ (s0 _ _ ec)
theorem Refs.fin {D : Addr} {H0 H' : Hp} {Pi : Nat → Hp → Addr → Prop} {n : Nat} (h : Refs D H0 Pi n H') (st : StabP Pi) : ∃ us : List Addr, H' D = some (.lst (us.map V.ref)) ∧ us.length = n ∧ (∀ j u, us[j]? = some u → Pi j H' u) ∧ Same H0 H' ∧ H0 D = none := by
  obtain ⟨us, e, l, a, s0, n0⟩ := h
  exact ⟨us, e, l, fun j u hu => st _ _ _ _ hide_le (a j u hu), s0, n0⟩
theorem Tri.hide {CT D x : Addr} {H : Hp} {p h : Int} {r : Bool} (t : Tri CT H x p h r) (n : x ≠ D) : Tri CT (Law.hide D H) x p h r := by
  obtain ⟨dx, fs, a, b⟩ := t
  exact ⟨dx, fs, by rw [hide_ne n]; exact a, b⟩
end Law
/-! Two for clauses in a comprehension. -/
namespace Law
open PySem PySem.Spec PyProof.Rows L2 Sup
theorem call_lenK (K : PySem.W.Frag) {X : Cx} (h : X.K = K) : CallR X (.builtin "len") (fun xs H Q => ∃ p ys, xs = [.ref p] ∧ (SqL K H p ys ∨ SqT K H p ys) ∧ Q (.int ys.length) H) := h ▸ call_len_seq
section
variable {J : It} {n : Nat} {G : Hp → Prop} {Y : Nat → Hp → V → Hp → Prop}
/-- the inner clause of a comprehension with two: Nx behind it -/
def InnerC (D : Addr) (g1 : TG) (tt1 : TT) (te : TE) (vs1 : List Nat) (J1 : It) (σ2 : L2.St) (Nx : Hp → Prop) (H4 : Hp) : Prop := ∃ W1 : Nat → Nat → Hp → Prop, (∃ m, W1 0 m H4) ∧ ∀ j k H, W1 j k H →
  (J1.stop j H ∧ Nx H) ∨ (J1.go j H ∧ ∃ Nx1 : Hp → Prop, (∀ H', Nx1 H' → ∃ k', k' < k ∧ W1 (j + 1) k' H') ∧ ∀ x H', J1.yld j H x H' → g1 x (wipe σ2 vs1) H' fun σ3 H5 => wipe σ3 vs1 = wipe σ2 vs1 ∧ tt1 σ3 H5 fun b H6 =>
    if b = true then te σ3 H6 fun y H7 => ∃ acc, H7 D = some (.lst acc) ∧ acc.length < sizeLine ∧ Nx1 (upd H7 D (.lst (acc ++ [y]))) else Nx1 H6)
theorem lcI (w : Walk J n G Y) {g : TG} {tt : TT} {te : TE} {vs : List Nat} {σ : L2.St} {H0 : Hp} {D : Addr} {Qd : Hp → Prop} (Pv : Nat → Hp → Prop) (h0 : Pv 0 H0) (hG : ∀ i H, i ≤ n → Pv i H → G H)
    (hs : ∀ i x H H', i < n → Pv i H → Y i H x H' → g x (wipe σ vs) H' fun σ2 H2 => wipe σ2 vs = wipe σ vs ∧ tt σ2 H2 fun b H3 =>
      if b = true then te σ2 H3 fun y H4 => ∃ acc, H4 D = some (.lst acc) ∧ acc.length < sizeLine ∧ Pv (i + 1) (upd H4 D (.lst (acc ++ [y]))) else Pv (i + 1) H3) (hd : ∀ H, Pv n H → Qd H) : InnerC D g tt te vs J σ Qd H0 := by
  refine ⟨fun i m H => i ≤ n ∧ m + i = n ∧ Pv i H, ⟨n, Nat.zero_le _, rfl, h0⟩, ?_⟩
  rintro i m H ⟨hi, hm, p⟩
  have q := hG i H hi p
  rcases Nat.lt_or_ge i n with c | c
  · exact .inr ⟨w.goes i H c q, Pv (i + 1), fun H' p' => ⟨m - 1, by omega, by omega, by omega, p'⟩, fun x H' y => hs i x H H' c p (w.yields i H x H' c q y)⟩
  · obtain rfl : i = n := by omega
    exact .inl ⟨w.stops H q, hd H p⟩
/-- the outer clause -/
theorem lcO (w : Walk J n G Y) {g g1 : TG} {tt tt1 : TT} {te : TE} {wi1 : TI} {vs vs1 : List Nat} {σ : L2.St} {H1 : Hp} {D : Addr} {Qd : Hp → Prop} (Pv : Nat → Hp → Prop) (h0 : Pv 0 (upd H1 D (.lst []))) (hG : ∀ i H, i ≤ n → Pv i H → G H)
    (hs : ∀ i x H H', i < n → Pv i H → Y i H x H' → g x (wipe σ vs) H' fun σ2 H2 => wipe σ2 vs = wipe σ vs ∧ tt σ2 H2 fun b H3 => if b = true then wi1 σ2 H3 fun J1 H4 => InnerC D g1 tt1 te vs1 J1 σ2 (Pv (i + 1)) H4 else Pv (i + 1) H3) (hd : ∀ H, Pv n H → Qd H) :
    ∃ W : Nat → Nat → Hp → Prop, (∃ m, W 0 m (upd H1 D (.lst []))) ∧ ∀ i m H, W i m H →
      (J.stop i H ∧ Qd H) ∨ (J.go i H ∧ ∃ Nx : Hp → Prop, (∀ H', Nx H' → ∃ m', m' < m ∧ W (i + 1) m' H') ∧ ∀ x H', J.yld i H x H' → g x (wipe σ vs) H' fun σ2 H2 => wipe σ2 vs = wipe σ vs ∧ tt σ2 H2 fun b H3 =>
        if b = true then wi1 σ2 H3 fun J1 H4 => InnerC D g1 tt1 te vs1 J1 σ2 Nx H4 else Nx H3) := by
  refine ⟨fun i m H => i ≤ n ∧ m + i = n ∧ Pv i H, ⟨n, Nat.zero_le _, rfl, h0⟩, ?_⟩
  rintro i m H ⟨hi, hm, p⟩
  have q := hG i H hi p
  rcases Nat.lt_or_ge i n with c | c
  · exact .inr ⟨w.goes i H c q, Pv (i + 1), fun H' p' => ⟨m - 1, by omega, by omega, by omega, p'⟩, fun x H' y => hs i x H H' c p (w.yields i H x H' c q y)⟩
  · obtain rfl : i = n := by omega
    exact .inl ⟨w.stops H q, hd H p⟩
end
end Law

/-! Wishes: what they are, and their own defs. -/
namespace Law
open PySem PySem.Spec PyProof.Rows L2 Sup
abbrev sWini : Stmt := inClass (top 8) 0
abbrev sWcas : Stmt := inClass (top 8) 1
abbrev sWans : Stmt := inClass (top 8) 2
abbrev sWpla : Stmt := inClass (top 8) 3
abbrev sWand : Stmt := inClass (top 8) 7
abbrev sAini : Stmt := inClass (top 9) 0
abbrev sAcas : Stmt := inClass (top 9) 1
abbrev sApla : Stmt := inClass (top 9) 2
abbrev sSini' : Stmt := inClass (top 10) 0
abbrev sScas : Stmt := inClass (top 10) 1
abbrev sSpla : Stmt := inClass (top 10) 2
abbrev sBini : Stmt := inClass (top 11) 0
abbrev sBcas : Stmt := inClass (top 11) 1
abbrev sBpla : Stmt := inClass (top 11) 2
abbrev sOini : Stmt := inClass (top 12) 0
abbrev sOcas : Stmt := inClass (top 12) 1
abbrev sOpla : Stmt := inClass (top 12) 2
/-- a case: its answer, the trials that say so -/
abbrev Cse := Int × List TRow
/-- a wish, as data -/
inductive Wi where
  | none
  | all (ps : List (Int × Int))
  | some (ps : List (Int × Int))
  | band (p : Int) (cs : List Int)
  | both (n : Int) (pl : List Int) (cs : List Cse)
def bandC (p : Int) : Nat → List TRow → List Int → List Cse
  | k, o, [] => [((k : Int), o)]
  | k, o, c :: cs => ((k : Int), o ++ [(p, c, true)]) :: bandC p (k + 1) [(p, c, false)] cs
def Wi.size : Wi → Int
  | .none => 1
  | .all _ => 2
  | .some _ => 2
  | .band _ cs => (cs.length : Int) + 1
  | .both n _ _ => n
def Wi.places : Wi → List Int
  | .none => []
  | .all ps => ps.map (·.1)
  | .some ps => ps.map (·.1)
  | .band p _ => [p]
  | .both _ pl _ => pl
def rowOf (r : Bool) (q : Int × Int) : TRow := (q.1, q.2, r)
def Wi.cases : Wi → List Cse
  | .none => [(0, [])]
  | .all ps => (1, ps.map (rowOf true)) :: ps.map fun q => (0, [rowOf false q])
  | .some ps => (ps.map fun q => (1, [rowOf true q])) ++ [(0, ps.map (rowOf false))]
  | .band p cs => bandC p 0 [] cs
  | .both _ _ cs => cs
/-- the five classes -/
structure WCls where
  W : Addr
  A : Addr
  S : Addr
  B : Addr
  O : Addr
def Wi.kd : Wi → Nat
  | .none => 0
  | .all _ => 1
  | .some _ => 2
  | .band _ _ => 3
  | .both _ _ _ => 4
def Wi.cls (C : WCls) : Wi → Addr
  | .none => C.W
  | .all _ => C.A
  | .some _ => C.S
  | .band _ _ => C.B
  | .both _ _ _ => C.O
def PrsAt (K : PySem.W.Frag) (H : Hp) (p : Addr) (ps : List (Int × Int)) : Prop := ∃ ts : List Addr, H p = some (.lst (ts.map V.ref)) ∧ ts.length = ps.length ∧ ∀ (i : Nat) (t : Addr) (q : Int × Int), ts[i]? = some t → ps[i]? = some q → SqT K H t [.int q.1, .int q.2]
def CssAt (CT : Addr) (H : Hp) (p : Addr) (cs : List Cse) : Prop := ∃ ts : List Addr, H p = some (.lst (ts.map V.ref)) ∧ ts.length = cs.length ∧ ∀ (i : Nat) (t : Addr) (c : Cse), ts[i]? = some t → cs[i]? = some c → ∃ l : Addr, H t = some (.tup [.int c.1, .ref l]) ∧ TrisAt CT H l c.2
/-- cases that a call made: the list and the lists of trials are new -/
def CssN (CT : Addr) (H0 H : Hp) (p : Addr) (cs : List Cse) : Prop := H0 p = none ∧ ∃ ts : List Addr, H p = some (.lst (ts.map V.ref)) ∧ ts.length = cs.length ∧ ∀ (i : Nat) (t : Addr) (c : Cse), ts[i]? = some t → cs[i]? = some c → ∃ l : Addr, H0 l = none ∧ H t = some (.tup [.int c.1, .ref l]) ∧ TrisAt CT H l c.2
theorem CssN.at {CT : Addr} {H0 H : Hp} {p : Addr} {cs : List Cse} (h : CssN CT H0 H p cs) : CssAt CT H p cs := by
  obtain ⟨_, ts, h1, h2, h3⟩ := h
  exact ⟨ts, h1, h2, fun i t c e1 e2 => by obtain ⟨l, _, a, b⟩ := h3 i t c e1 e2; exact ⟨l, a, b⟩⟩
def wMth : List Str := ["cases", "places", "answer", "possible", "settled", "witness"]
/-- the fields of a wish, and what stands behind them -/
def WiF (K : PySem.W.Frag) (CT : Addr) (H : Hp) (fs : List (Str × V)) : Wi → Prop
  | .none => True
  | .all ps => ∃ p, fs.lookup ("_pairs" : Str) = some (.ref p) ∧ PrsAt K H p ps
  | .some ps => ∃ p, fs.lookup ("_pairs" : Str) = some (.ref p) ∧ PrsAt K H p ps
  | .band p cs => fs.lookup ("_place" : Str) = some (.int p) ∧ ∃ c, fs.lookup ("_cuts" : Str) = some (.ref c) ∧ H c = some (.lst (cs.map V.int))
  | .both _ pl cs => (∃ p, fs.lookup ("_places" : Str) = some (.ref p) ∧ H p = some (.lst (pl.map V.int))) ∧ ∃ c, fs.lookup ("_cases" : Str) = some (.ref c) ∧ CssAt CT H c cs
/-- a wish at x -/
def WiAt (K : PySem.W.Frag) (CT : Addr) (C : WCls) (H : Hp) (x : Addr) (v : Wi) : Prop := ∃ dx fs, H x = some (.ins (v.cls C) dx fs) ∧ fs.lookup ("size" : Str) = some (.int v.size) ∧ (∀ m ∈ wMth, fs.lookup m = none) ∧ WiF K CT H fs v
theorem PrsAt.same {K : PySem.W.Frag} {H H' : Hp} {p : Addr} {ps : List (Int × Int)} (h : PrsAt K H p ps) (s : Same H H') : PrsAt K H' p ps := by
  obtain ⟨ts, h1, h2, h3⟩ := h
  exact ⟨ts, s _ _ h1, h2, fun i t q e1 e2 => sqT_same (h3 i t q e1 e2) s⟩
theorem CssAt.same {CT : Addr} {H H' : Hp} {p : Addr} {cs : List Cse} (h : CssAt CT H p cs) (s : Same H H') : CssAt CT H' p cs := by
  obtain ⟨ts, h1, h2, h3⟩ := h
  exact ⟨ts, s _ _ h1, h2, fun i t c e1 e2 => by obtain ⟨l, a, b⟩ := h3 i t c e1 e2; exact ⟨l, s _ _ a, b.same s⟩⟩
theorem CssN.same {CT : Addr} {H0 H H' : Hp} {p : Addr} {cs : List Cse} (h : CssN CT H0 H p cs) (s : Same H H') : CssN CT H0 H' p cs := by
  obtain ⟨h0, ts, h1, h2, h3⟩ := h
  exact ⟨h0, ts, s _ _ h1, h2, fun i t c e1 e2 => by obtain ⟨l, z, a, b⟩ := h3 i t c e1 e2; exact ⟨l, z, s _ _ a, b.same s⟩⟩
theorem WiF.same {K : PySem.W.Frag} {CT : Addr} {H H' : Hp} {fs : List (Str × V)} {v : Wi} (h : WiF K CT H fs v) (s : Same H H') : WiF K CT H' fs v := by
  cases v with
  | none => trivial
  | all ps => obtain ⟨p, a, b⟩ := h; exact ⟨p, a, b.same s⟩
  | some ps => obtain ⟨p, a, b⟩ := h; exact ⟨p, a, b.same s⟩
  | band p cs => obtain ⟨a, c, b, d⟩ := h; exact ⟨a, c, b, s _ _ d⟩
  | both n pl cs => obtain ⟨⟨p, a, b⟩, c, d, e⟩ := h; exact ⟨⟨p, a, s _ _ b⟩, c, d, e.same s⟩
theorem WiAt.same {K : PySem.W.Frag} {CT : Addr} {C : WCls} {H H' : Hp} {x : Addr} {v : Wi} (h : WiAt K CT C H x v) (s : Same H H') : WiAt K CT C H' x v := by
  obtain ⟨dx, fs, a, b, c, d⟩ := h
  exact ⟨dx, fs, s _ _ a, b, c, d.same s⟩
def wFld : List Str := ["size", "_pairs", "_place", "_cuts", "_places", "_cases"]
/-- of the five classes -/
structure WiTxt (K : PySem.W.Frag) (mg : Str → Option Value) (CT : Addr) (C : WCls) : Prop where
  cl : ∀ v : Wi, Cls K (v.cls C)
  na : ∀ (v : Wi), ∀ f ∈ wFld, NoAttr K (v.cls C) f
  tri : mg "Trial" = some (.ref CT)
  b_list : mg "list" = none
  b_len : mg "len" = none
  b_zip : mg "zip" = none
  b_enum : mg "enumerate" = none
  b_all : mg "all" = none
  noSup : mg "super" = none
def spWini (K : PySem.W.Frag) (C : WCls) : Sp := fun vs H Q _ => ∃ (x : Addr) (v : Wi) (dx : Addr) (fs : List (Str × V)) (n : Int), vs = [.ref x, .int n] ∧ H x = some (.ins (v.cls C) dx fs) ∧ fs.length < 1000 ∧ Q .non (upd H x (.ins (v.cls C) dx (putF "size" (.int n) fs)))
/-- x.cases() -/
def spCas (K : PySem.W.Frag) (CT : Addr) (C : WCls) (d : Nat) : Sp := fun vs H Q _ => ∃ (x : Addr) (v : Wi), vs = [.ref x] ∧ WiAt K CT C H x v ∧ v.kd = d ∧ v.cases.length ≤ 500 ∧ (∀ c ∈ v.cases, c.2.length ≤ 500) ∧ ∀ (p : Addr) (H' : Hp), Same H H' → CssN CT H H' p v.cases → Q (.ref p) H'
/-- x.places() -/
def spPla (K : PySem.W.Frag) (CT : Addr) (C : WCls) (d : Nat) : Sp := fun vs H Q _ => ∃ (x : Addr) (v : Wi), vs = [.ref x] ∧ WiAt K CT C H x v ∧ v.kd = d ∧ v.places.length ≤ 500 ∧ ∀ (p : Addr) (H' : Hp), H p = none → Same H H' → H' p = some (.lst (v.places.map V.int)) → Q (.ref p) H'
section
variable {P : Program} {w : World} {K : PySem.W.Frag} {mg : Str → Option Value} {base : Heap} {CT : Addr} {C : WCls}
theorem scWini : FnScope ["self", "size"] ["self", "size"] (defScope sWini) := ⟨rfl, rfl, rfl, by decide +kernel, rfl, by decide +kernel, by decide +kernel⟩
theorem scWc : FnScope ["self"] ["self"] (defScope sWcas) := ⟨rfl, rfl, rfl, by decide +kernel, rfl, by decide +kernel, by decide +kernel⟩
theorem scWp : FnScope ["self"] ["self"] (defScope sWpla) := ⟨rfl, rfl, rfl, by decide +kernel, rfl, by decide +kernel, by decide +kernel⟩
theorem ok_wini {f : Addr} {fd : FuncData} (F : Fun K "__init__" "Wish.__init__" sWini f fd) (T : WiTxt K mg CT C) : FnOk P w K mg base CX0 1 f fd ["self", "size"] (spWini K C) := by
  refine F.ok scWini (fun vs H Q E h => ?_) (fun cdv A outer s H vs Q E hr h => ?_)
  · obtain ⟨x, v, dx, fs, n, rfl, _⟩ := h
    rfl
  · obtain ⟨x, v, dx, fs, n, rfl, hx, hl, k⟩ := h
    refine ⟨_, (pss_one (ps_fld (pv 0) (pv 1) rfl)), ?_⟩
    exact ⟨_, rfl, _, rfl, x, _, dx, _, rfl, hx, T.cl v, T.na v _ (by decide), hl, k⟩
theorem ok_wcas {f : Addr} {fd : FuncData} (F : Fun K "cases" "Wish.cases" sWcas f fd) : FnOk P w K mg base CX0 1 f fd ["self"] (spCas K CT C 0) := by
  refine F.ok scWc (fun vs H Q E h => ?_) (fun cdv A outer s H vs Q E hr h => ?_)
  · obtain ⟨x, v, rfl, _⟩ := h
    rfl
  · obtain ⟨x, v, rfl, hx, hD, l1, l2, k⟩ := h
    refine ⟨_, (pss_one (ps_ret (pe_lst (pa_cons (pe_tup (pa_cons pe_int (pa_cons (pe_lst pa_nil) pa_nil))) pa_nil)))), ?_⟩
    cases v with
    | none =>
      refine ⟨by show 0 ≤ sizeLine; decide, fun L hL => ⟨by show 2 ≤ sizeLine; decide, fun t ht => ⟨by show 1 ≤ sizeLine; decide, fun p hp => ?_⟩⟩⟩
      have s1 := same_new (o := .lst ([] : List V)) hL
      have e1 : upd H L (.lst []) L = some (.lst ([] : List V)) := upd_same
      generalize upd H L (.lst []) = H1 at s1 e1 ht hp ⊢
      have s2 := same_new (o := .tup [V.int 0, V.ref L]) ht
      have e2 : upd H1 t (.tup [V.int 0, V.ref L]) t = some (.tup [V.int 0, V.ref L]) := upd_same
      generalize upd H1 t (.tup [V.int 0, V.ref L]) = H2 at s2 e2 hp ⊢
      have s3 := same_new (o := .lst [V.ref t]) hp
      refine k p _ (same_tr s1 (same_tr s2 s3)) ⟨freshS s1 (freshS s2 hp), [t], upd_same, rfl, fun i t' c e1' e2' => ?_⟩
      match i, e1', e2' with
      | 0, e1', e2' =>
        cases e1'
        cases e2'
        exact ⟨L, hL, s3 _ _ e2, [], s3 _ _ (s2 _ _ e1), rfl, fun i t r h _ => nomatch h⟩
    | all _ => cases hD
    | some _ => cases hD
    | band _ _ => cases hD
    | both _ _ _ => cases hD
theorem ok_wpla {f : Addr} {fd : FuncData} (F : Fun K "places" "Wish.places" sWpla f fd) : FnOk P w K mg base CX0 1 f fd ["self"] (spPla K CT C 0) := by
  refine F.ok scWp (fun vs H Q E h => ?_) (fun cdv A outer s H vs Q E hr h => ?_)
  · obtain ⟨x, v, rfl, _⟩ := h
    rfl
  · obtain ⟨x, v, rfl, hx, hD, l1, k⟩ := h
    refine ⟨_, (pss_one (ps_ret (pe_lst pa_nil))), ?_⟩
    cases v with
    | none => exact ⟨by show 0 ≤ sizeLine; decide, fun p hp => k p _ hp (same_new hp) upd_same⟩
    | all _ => cases hD
    | some _ => cases hD
    | band _ _ => cases hD
    | both _ _ _ => cases hD
/-- trials of pairs -/
def PiT (CT : Addr) (rows : List TRow) : Nat → Hp → Addr → Prop := fun j H u => ∀ r, rows[j]? = some r → Tri CT H u r.1 r.2.1 r.2.2
theorem PiT.st {CT : Addr} {rows : List TRow} : StabP (PiT CT rows) := fun j u H H' s h r e => (h r e).same s
theorem Refs.tris {CT D : Addr} {H0 H' : Hp} {rows : List TRow} (h : Refs D H0 (PiT CT rows) rows.length H') : TrisAt CT H' D rows ∧ Same H0 H' ∧ H0 D = none := by
  obtain ⟨us, a, b, c, d, e⟩ := h.fin PiT.st
  exact ⟨⟨us, a, b, fun i t r e1 e2 => c i t e1 r e2⟩, d, e⟩
/-- cases of one trial each -/
def PiC (CT : Addr) (H0 : Hp) (cs : List Cse) : Nat → Hp → Addr → Prop := fun j H t => ∀ c, cs[j]? = some c → ∃ l : Addr, H0 l = none ∧ H t = some (.tup [.int c.1, .ref l]) ∧ TrisAt CT H l c.2
theorem PiC.st {CT : Addr} {H0 : Hp} {cs : List Cse} : StabP (PiC CT H0 cs) := fun j u H H' s h c e => by
  obtain ⟨l, a, b, d⟩ := h c e
  exact ⟨l, a, s _ _ b, d.same s⟩
/-- C( *pairs) -/
def spMny (K : PySem.W.Frag) (CT : Addr) (C : WCls) (d : Nat) : Sp := fun vs H Q _ => ∃ (x dx : Addr) (ts : List Addr) (ps : List (Int × Int)) (v : Wi), vs = .ref x :: ts.map V.ref ∧ H x = some (.ins (v.cls C) dx []) ∧ v.kd = d ∧ (v = .all ps ∨ v = .some ps) ∧ ts.length = ps.length ∧ (∀ (i : Nat) (t : Addr) (q : Int × Int), ts[i]? = some t → ps[i]? = some q → SqT K H t [.int q.1, .int q.2]) ∧ ps.length ≤ 100 ∧
  ∀ H', (∀ b o, b ≠ x → H b = some o → H' b = some o) → WiAt K CT C H' x v → Q .non H'
theorem mk_mny {d : Nat} {ts : List Addr} {ps : List (Int × Int)} {v : Wi} {H1 : Hp} {Q : VK} {E : XK} (hd : v.kd = d) (hv : v = .all ps ∨ v = .some ps) (hl : ts.length = ps.length) (ht : ∀ (i : Nat) (t : Addr) (q : Int × Int), ts[i]? = some t → ps[i]? = some q → SqT K H1 t [.int q.1, .int q.2]) (h100 : ps.length ≤ 100)
    (k : ∀ x H2, H1 x = none → Same H1 H2 → WiAt K CT C H2 x v → Q (.ref x) H2) : Own.MkS (v.cls C) (spMny K CT C d) E (ts.map V.ref) H1 Q := ⟨fun x dx hx hdx hne => by
  have s0 : Same H1 (upd (upd H1 dx (.own x)) x (.ins (v.cls C) dx [])) := fun b o e => by
    rw [upd_ne (ne_of_none e hx), upd_ne (ne_of_none e hdx)]
    exact e
  refine ⟨x, dx, ts, ps, v, rfl, upd_same, hd, hv, hl, fun i t q e1 e2 => sqT_same (ht i t q e1 e2) s0, h100, fun H' s w => ⟨rfl, k x H' hx (fun b o e => s b o (ne_of_none e hx) (s0 b o e)) w⟩⟩⟩
theorem scAini : SubX.SScope ["self", "pairs"] ((["self"] : List Str) ++ (["pairs"] : List Str)) (defScope sAini) := ⟨rfl, rfl, rfl, by decide +kernel, rfl, by decide +kernel, by decide +kernel, rfl⟩
theorem scSini' : SubX.SScope ["self", "pairs"] ((["self"] : List Str) ++ (["pairs"] : List Str)) (defScope sSini') := ⟨rfl, rfl, rfl, by decide +kernel, rfl, by decide +kernel, by decide +kernel, rfl⟩
def hbV (fd : FuncData) (ps : List Str) (pv : Str) : Prop := ∀ us rest : List Value, us.length = ps.length → bindArgs fd ⟨us ++ rest, []⟩ = (newTuple rest >>= fun t => pure (ps.zip us ++ [(pv, t)]))
set_option maxHeartbeats 0 in
theorem ok_aini {f cc fW : Addr} {fd : FuncData} (T : SubX.FunS P K "__init__" "AllWithin.__init__" sAini f cc C.A fd) (U : SubX.UpS K C.A fW) (GW : FnR P w K mg base CX0 1 fW (spWini K C)) (X : WiTxt K mg CT C) (hb : hbV fd ["self"] "pairs") : FnR P w K mg base CX0 3 f (spMny K CT C 1) := by
  refine (SubX.fn_supV (N := ["self", "pairs"]) (k := 2) (sp := fun vs H Q E => ∃ (x dx p : Addr) (ts : List Addr) (ps : List (Int × Int)), vs = [.ref x, .ref p] ∧ H x = some (.ins C.A dx []) ∧ H p = some (.tup (ts.map V.ref)) ∧ ts.length = ps.length ∧ (∀ (i : Nat) (t : Addr) (q : Int × Int), ts[i]? = some t → ps[i]? = some q → SqT K H t [.int q.1, .int q.2]) ∧ ps.length ≤ 100 ∧
      ∀ H', (∀ b o, b ≠ x → H b = some o → H' b = some o) → WiAt K CT C H' x (.all ps) → Q .non H') T scAini StX.cxUp_none hb fun cda A outer s H vs Q E hc hr h => ?_).imp ?_
  · obtain ⟨x, dx, p, ts, ps, rfl, hx, hp, hl, ht, h100, k⟩ := h
    have hr1 : Room 1 _ := hr.mono (by decide)
    refine ⟨_, SubX.at_super T U GW hr1 (passS pass0) X.noSup ⟨_, _, rfl, hc⟩ rfl rfl rfl rfl rfl rfl pe_int (SubX.at_of (pss_one (ps_fld (pv 0) (pe_callTy call_list_of (by rfl) X.b_list (by decide +kernel) (pa_cons (pv 1) pa_nil)) rfl))), ?_⟩
    refine ⟨x, dx, [], rfl, hx, x, .all ps, dx, [], 2, rfl, hx, by show 0 < 1000; decide, ?_⟩
    have hp1 : upd H x (.ins C.A dx (putF "size" (.int 2) [])) p = some (.tup (ts.map V.ref)) := by rw [upd_ne (fun z => by rw [z, hx] at hp; cases hp)]; exact hp
    refine ⟨_, rfl, p, _, rfl, .inr (SqT.of hp1), fun L hL => ⟨_, rfl, x, C.A, dx, putF "size" (.int 2) [], rfl, ?_, X.cl (.all ps), X.na (.all ps) _ (by decide), by show 1 < 1000; decide, ?_⟩⟩
    · rw [upd_ne (fun z => by rw [← z, upd_same] at hL; cases hL)]
      exact upd_same
    have nL : L ≠ x := fun z => by rw [z, upd_same] at hL; cases hL
    have hL0 : H L = none := by rw [upd_ne nL] at hL; exact hL
    have kp : ∀ b o, b ≠ x → H b = some o → upd (upd (upd H x (.ins C.A dx (putF "size" (.int 2) []))) L (.lst (ts.map V.ref))) x (.ins C.A dx (putF "_pairs" (.ref L) (putF "size" (.int 2) []))) b = some o := fun b o n e => by
      rw [upd_ne n, upd_ne (ne_of_none e hL0), upd_ne n]
      exact e
    refine k _ kp ⟨dx, _, upd_same, rfl, fun m hm => ?_, L, rfl, ts, ?_, hl, fun i t q e1 e2 => ?_⟩
    · simp only [wMth, List.mem_cons, List.not_mem_nil, or_false] at hm
      rcases hm with rfl | rfl | rfl | rfl | rfl | rfl <;> rfl
    · rw [upd_ne nL]
      exact upd_same
    · rcases ht i t q e1 e2 with (h | ⟨o, h⟩) | h
      · exact .inl (.inl (kp _ _ (fun z => by rw [z, hx] at h; cases h) h))
      · exact .inl (.inr ⟨o, kp _ _ (fun z => by rw [z, hx] at h; cases h) h⟩)
      · exact .inr h
  · rintro vs H Q E ⟨x, dx, ts, ps, v, rfl, hx, hd, hv, hl, ht, h100, k⟩
    obtain rfl : v = .all ps := by
      rcases hv with rfl | rfl
      · first | rfl | cases hd
      · first | rfl | cases hd
    refine ⟨[.ref x], ts.map V.ref, rfl, rfl, by rw [List.length_map, sizeLine_eq]; omega, fun p hp => ?_⟩
    have s1 := same_new (o := .tup (ts.map V.ref)) hp
    exact ⟨x, dx, p, ts, ps, rfl, s1 _ _ hx, upd_same, hl, fun i t q e1 e2 => sqT_same (ht i t q e1 e2) s1, h100, fun H' s w => k H' (fun b o n e => s b o n (s1 _ _ e)) w⟩
set_option maxHeartbeats 0 in
theorem ok_sini' {f cc fW : Addr} {fd : FuncData} (T : SubX.FunS P K "__init__" "SomeWithin.__init__" sSini' f cc C.S fd) (U : SubX.UpS K C.S fW) (GW : FnR P w K mg base CX0 1 fW (spWini K C)) (X : WiTxt K mg CT C) (hb : hbV fd ["self"] "pairs") : FnR P w K mg base CX0 3 f (spMny K CT C 2) := by
  refine (SubX.fn_supV (N := ["self", "pairs"]) (k := 2) (sp := fun vs H Q E => ∃ (x dx p : Addr) (ts : List Addr) (ps : List (Int × Int)), vs = [.ref x, .ref p] ∧ H x = some (.ins C.S dx []) ∧ H p = some (.tup (ts.map V.ref)) ∧ ts.length = ps.length ∧ (∀ (i : Nat) (t : Addr) (q : Int × Int), ts[i]? = some t → ps[i]? = some q → SqT K H t [.int q.1, .int q.2]) ∧ ps.length ≤ 100 ∧
      ∀ H', (∀ b o, b ≠ x → H b = some o → H' b = some o) → WiAt K CT C H' x (.some ps) → Q .non H') T scSini' StX.cxUp_none hb fun cda A outer s H vs Q E hc hr h => ?_).imp ?_
  · obtain ⟨x, dx, p, ts, ps, rfl, hx, hp, hl, ht, h100, k⟩ := h
    have hr1 : Room 1 _ := hr.mono (by decide)
    refine ⟨_, SubX.at_super T U GW hr1 (passS pass0) X.noSup ⟨_, _, rfl, hc⟩ rfl rfl rfl rfl rfl rfl pe_int (SubX.at_of (pss_one (ps_fld (pv 0) (pe_callTy call_list_of (by rfl) X.b_list (by decide +kernel) (pa_cons (pv 1) pa_nil)) rfl))), ?_⟩
    refine ⟨x, dx, [], rfl, hx, x, .some ps, dx, [], 2, rfl, hx, by show 0 < 1000; decide, ?_⟩
    have hp1 : upd H x (.ins C.S dx (putF "size" (.int 2) [])) p = some (.tup (ts.map V.ref)) := by rw [upd_ne (fun z => by rw [z, hx] at hp; cases hp)]; exact hp
    refine ⟨_, rfl, p, _, rfl, .inr (SqT.of hp1), fun L hL => ⟨_, rfl, x, C.S, dx, putF "size" (.int 2) [], rfl, ?_, X.cl (.some ps), X.na (.some ps) _ (by decide), by show 1 < 1000; decide, ?_⟩⟩
    · rw [upd_ne (fun z => by rw [← z, upd_same] at hL; cases hL)]
      exact upd_same
    have nL : L ≠ x := fun z => by rw [z, upd_same] at hL; cases hL
    have hL0 : H L = none := by rw [upd_ne nL] at hL; exact hL
    have kp : ∀ b o, b ≠ x → H b = some o → upd (upd (upd H x (.ins C.S dx (putF "size" (.int 2) []))) L (.lst (ts.map V.ref))) x (.ins C.S dx (putF "_pairs" (.ref L) (putF "size" (.int 2) []))) b = some o := fun b o n e => by
      rw [upd_ne n, upd_ne (ne_of_none e hL0), upd_ne n]
      exact e
    refine k _ kp ⟨dx, _, upd_same, rfl, fun m hm => ?_, L, rfl, ts, ?_, hl, fun i t q e1 e2 => ?_⟩
    · simp only [wMth, List.mem_cons, List.not_mem_nil, or_false] at hm
      rcases hm with rfl | rfl | rfl | rfl | rfl | rfl <;> rfl
    · rw [upd_ne nL]
      exact upd_same
    · rcases ht i t q e1 e2 with (h | ⟨o, h⟩) | h
      · exact .inl (.inl (kp _ _ (fun z => by rw [z, hx] at h; cases h) h))
      · exact .inl (.inr ⟨o, kp _ _ (fun z => by rw [z, hx] at h; cases h) h⟩)
      · exact .inr h
  · rintro vs H Q E ⟨x, dx, ts, ps, v, rfl, hx, hd, hv, hl, ht, h100, k⟩
    obtain rfl : v = .some ps := by
      rcases hv with rfl | rfl
      · first | rfl | cases hd
      · first | rfl | cases hd
    refine ⟨[.ref x], ts.map V.ref, rfl, rfl, by rw [List.length_map, sizeLine_eq]; omega, fun p hp => ?_⟩
    have s1 := same_new (o := .tup (ts.map V.ref)) hp
    exact ⟨x, dx, p, ts, ps, rfl, s1 _ _ hx, upd_same, hl, fun i t q e1 e2 => sqT_same (ht i t q e1 e2) s1, h100, fun H' s w => k H' (fun b o n e => s b o n (s1 _ _ e)) w⟩
theorem scAcas : FnScope ["self", "reached", "place", "height", "trial"] ["self"] (defScope sAcas) := ⟨rfl, rfl, rfl, by decide +kernel, rfl, by decide +kernel, by decide +kernel⟩
theorem scScas : FnScope ["self", "missed", "place", "height", "trial"] ["self"] (defScope sScas) := ⟨rfl, rfl, rfl, by decide +kernel, rfl, by decide +kernel, by decide +kernel⟩
theorem scApla : FnScope ["self", "place", "_"] ["self"] (defScope sApla) := ⟨rfl, rfl, rfl, by decide +kernel, rfl, by decide +kernel, by decide +kernel⟩
theorem scSpla : FnScope ["self", "place", "_"] ["self"] (defScope sSpla) := ⟨rfl, rfl, rfl, by decide +kernel, rfl, by decide +kernel, by decide +kernel⟩
set_option maxHeartbeats 0 in
theorem ok_acas {f fTi fTv : Addr} {fd : FuncData} (F : Fun K "cases" "AllWithin.cases" sAcas f fd) (T : WiTxt K mg CT C) (MKT : Mk K CT fTi) (GTi : FnR P w K mg base CX0 1 fTi (spTini CT)) (GTv : FnR P w K mg base CX0 3 fTv (spTnv CT))
    (hsV : PySem.W.findIn K (.ref CT) "__invert__" = some (some (.ref fTv))) (hfV : PySem.W.isFn K (.ref fTv) = true) : FnOk P w K mg base CX0 4 f fd ["self"] (spCas K CT C 1) := by
  refine F.ok scAcas (fun vs H Q E h => ?_) (fun cdv A outer s H vs Q E hr h => ?_)
  · obtain ⟨x, v, rfl, _⟩ := h
    rfl
  · obtain ⟨x, v, rfl, hx, hD, l1, l2, k⟩ := h
    have hr2 : Room 2 _ := hr.mono (by decide)
    have hr3 : Room 3 _ := hr
    refine ⟨_, (pss_cons (ps_setLc (i := 1) (own := [("place", 2), ("height", 3)]) (g := gTup K 2 (gCons (gName 2) (gCons (gName 3) gNil))) (tt := tYes) (by rfl) scAcas.nd rfl rfl (sw_true rfl rfl rfl (by decide +kernel)) (pi_list (pe_fld (pv 0) rfl)) (blkOk_by (own := [("place", 2), ("height", 3)]) (N := ["self", "reached", "place", "height", "trial"]) (sc := defScope sAcas) (by decide +kernel)) (fun _ _ _ _ _ => by exact (pg_tup (n := 2) rfl (pgs_cons (pg_name (i := 2) scAcas.nd rfl (Or.inl rfl)) (pgs_cons (pg_name (i := 3) scAcas.nd rfl (Or.inl rfl)) pgs_nil)))) (fun _ _ _ _ _ => pts_nil) (fun _ _ _ _ _ => (Own.pe_makeS (E := fun _ => E0) MKT GTi hr2 rfl T.tri (passS pass0) (pa_cons (pv 2) (pa_cons (pv 3) (pa_cons pe_bl pa_nil))))))
      (pss_one (ps_ret (pe_op op_cat (pe_lst (pa_cons (pe_tup (pa_cons pe_int (pa_cons (pv 1) pa_nil))) pa_nil)) (pe_lc (own := [("trial", 4)]) (g := gName 4) (tt := tYes) (by rfl) scAcas.nd (pi_list (pv 1)) (blkOk_by (own := [("trial", 4)]) (N := ["self", "reached", "place", "height", "trial"]) (sc := defScope sAcas) (by decide +kernel)) (fun _ _ _ _ _ => (pg_name (i := 4) scAcas.nd rfl (Or.inl rfl))) (fun _ _ _ _ _ => pts_nil) (fun _ _ _ _ _ => by exact (pe_tup (pa_cons pe_int (pa_cons (pe_lst (pa_cons (pe_un (Own.un_own GTv hsV hfV hr3 pass0) (pv 4)) pa_nil)) pa_nil))))))))), ?_⟩
    cases v with
    | none => cases hD
    | some _ => cases hD
    | band _ _ => cases hD
    | both _ _ _ => cases hD
    | all ps =>
      obtain ⟨dx, fs, hx0, hsz, hm, pp, hpp, tps, t1, t2, t3⟩ := id hx
      have lps : ps.length ≤ 499 := by
        have : (Wi.cases (.all ps)).length = ps.length + 1 := by simp [Wi.cases]
        omega
      refine ⟨_, rfl, x, C.A, dx, fs, _, rfl, hx0, T.cl (.all ps), T.na (.all ps) _ (by decide), hpp, pp, rfl, ⟨_, SqL.of t1⟩, fun D hD0 => ?_⟩
      refine lc_it (walk_list (xs := tps.map V.ref)) (fun i H' => Refs D H (PiT CT (ps.map (rowOf true))) i H') (Refs.start hD0) (fun i H' _ h => by obtain ⟨_, _, _, _, s, _⟩ := h; exact SqL.of (s _ _ t1)) ?_ ?_
      · rintro i y H1 H2 hi R ⟨rfl, hy⟩
        rw [List.length_map] at hi
        rw [List.getElem?_map, List.getElem?_eq_getElem hi] at hy
        cases hy
        obtain ⟨p, hp⟩ : ∃ p, ps[i]? = some p := ⟨_, List.getElem?_eq_getElem (by omega)⟩
        have s1 : Same H H2 := by obtain ⟨_, _, _, _, s, _⟩ := R; exact s
        have tq := sqT_same (t3 i _ p (List.getElem?_eq_getElem hi) hp) s1
        refine ⟨_, _, rfl, tq, rfl, _, _, rfl, _, _, rfl, rfl, ?_⟩
        refine ⟨rfl, _, rfl, _, rfl, ?_⟩
        refine mk_tri fun u H3 hu S3 tr => ?_
        obtain ⟨acc, ea⟩ := R.lt
        have nu : u ≠ D := fun z => by rw [z, ea] at hu; cases hu
        exact R.push PiT.st S3 (fun r er => by
          rw [List.getElem?_map, hp] at er
          cases er
          exact tr.hide nu) (by omega)
      rintro H1 R
      rw [List.length_map, t2] at R
      have R : Refs D H (PiT CT (ps.map (rowOf true))) (ps.map (rowOf true)).length H1 := by rw [List.length_map]; exact R
      obtain ⟨tT, s1, _⟩ := R.tris
      have eC : Wi.cases (.all ps) = (1, ps.map (rowOf true)) :: ps.map fun q => (0, [rowOf false q]) := rfl
      refine ⟨_, rfl, by show 2 ≤ sizeLine; decide, fun t ht => ⟨by show 1 ≤ sizeLine; decide, fun L hL => ?_⟩⟩
      have s2 := same_new (o := .tup [V.int 1, V.ref D]) ht
      have eT : upd H1 t (.tup [V.int 1, V.ref D]) t = some (.tup [V.int 1, V.ref D]) := upd_same
      generalize upd H1 t (.tup [V.int 1, V.ref D]) = H2 at s2 eT hL ⊢
      have s3 := same_new (o := .lst [V.ref t]) hL
      have e3 : upd H2 L (.lst [V.ref t]) L = some (.lst [V.ref t]) := upd_same
      generalize upd H2 L (.lst [V.ref t]) = H3 at s3 e3 ⊢
      have s03 := same_tr s1 (same_tr s2 s3)
      obtain ⟨us, u1, u2, u3⟩ := id (tT.same (same_tr s2 s3))
      refine ⟨_, rfl, D, rfl, ⟨_, SqL.of u1⟩, fun M hM => ?_⟩
      refine lc_it (walk_list (xs := us.map V.ref)) (fun i H' => Refs M H3 (PiC CT H (ps.map fun q => (0, [rowOf false q]))) i H') (Refs.start hM) (fun i H' _ h => by obtain ⟨_, _, _, _, s, _⟩ := h; exact SqL.of (s _ _ u1)) ?_ ?_
      · rintro i y H4 H5 hi R4 ⟨rfl, hy⟩
        rw [List.length_map] at hi
        rw [List.getElem?_map, List.getElem?_eq_getElem hi] at hy
        cases hy
        rw [List.length_map] at u2
        obtain ⟨p, hp⟩ : ∃ p, ps[i]? = some p := ⟨_, List.getElem?_eq_getElem (by omega)⟩
        have s4 : Same H3 H5 := by obtain ⟨_, _, _, _, s, _⟩ := R4; exact s
        have tu := (u3 i _ (rowOf true p) (List.getElem?_eq_getElem hi) (by rw [List.getElem?_map, hp]; rfl)).same s4
        obtain ⟨dt, ft, g1, g2⟩ := id tu
        refine ⟨rfl, _, rfl, _, dt, ft, rfl, g1, _, _, _, _, rfl, tu, fun y H6 hy S6 t6 => ⟨by show 1 ≤ sizeLine; decide, fun l hl => ⟨by show 2 ≤ sizeLine; decide, fun tt htt => ?_⟩⟩⟩
        have s7 := same_new (o := .lst [V.ref y]) hl
        have e7 : upd H6 l (.lst [V.ref y]) l = some (.lst [V.ref y]) := upd_same
        generalize upd H6 l (.lst [V.ref y]) = H7 at s7 e7 htt ⊢
        have s8 := same_new (o := .tup [V.int 0, V.ref l]) htt
        have e8 : upd H7 tt (.tup [V.int 0, V.ref l]) tt = some (.tup [V.int 0, V.ref l]) := upd_same
        generalize upd H7 tt (.tup [V.int 0, V.ref l]) = H8 at s8 e8 ⊢
        obtain ⟨acc, ea⟩ := R4.lt
        have nM : ∀ {z : Addr} {H' : Hp}, H' z = none → Same H5 H' → z ≠ M := fun {z H'} h s e => by rw [e, s _ _ ea] at h; cases h
        have ny : y ≠ M := fun z => by rw [z, ea] at hy; cases hy
        have nl := nM hl S6
        have nt := nM htt (same_tr S6 s7)
        refine R4.push PiC.st (same_tr S6 (same_tr s7 s8)) (fun c ec => ?_) (by omega)
        rw [List.getElem?_map, hp] at ec
        cases ec
        refine ⟨l, freshS (same_tr s03 s4) (freshS S6 hl), by rw [hide_ne nt]; exact e8, [y], by rw [hide_ne nl]; exact s8 _ _ e7, rfl, fun j z r e1 e2 => ?_⟩
        match j, e1, e2 with
        | 0, e1, e2 =>
          cases e1
          cases e2
          exact (t6.same (same_tr s7 s8)).hide ny
      rintro H4 R4
      rw [List.length_map] at R4
      obtain ⟨vs, v1, v2, v3, s4, _⟩ := R4.fin PiC.st
      rw [u2, List.length_map] at v2
      refine ⟨L, M, _, _, rfl, rfl, s4 _ _ e3, v1, by rw [List.length_map, sizeLine_eq]; show 1 + vs.length ≤ _; omega, fun p hp => ?_⟩
      have s5 := same_new (o := .lst ([V.ref t] ++ vs.map V.ref)) hp
      have s05 := same_tr s03 (same_tr s4 s5)
      refine k p _ s05 ⟨freshS (same_tr s03 s4) hp, t :: vs, by rw [upd_same]; rfl, by rw [eC]; simp [v2], fun i z c e1 e2 => ?_⟩
      rw [eC] at e2
      match i, e1, e2 with
      | 0, e1, e2 =>
        cases e1
        cases e2
        exact ⟨D, hD0, s5 _ _ (s4 _ _ (s3 _ _ eT)), tT.same (same_tr s2 (same_tr s3 (same_tr s4 s5)))⟩
      | i + 1, e1, e2 =>
        obtain ⟨l, a, b, d⟩ := v3 i z e1 c e2
        exact ⟨l, a, s5 _ _ b, d.same s5⟩
set_option maxHeartbeats 0 in
theorem ok_scas {f fTi fTv : Addr} {fd : FuncData} (F : Fun K "cases" "SomeWithin.cases" sScas f fd) (T : WiTxt K mg CT C) (MKT : Mk K CT fTi) (GTi : FnR P w K mg base CX0 1 fTi (spTini CT)) (GTv : FnR P w K mg base CX0 3 fTv (spTnv CT))
    (hsV : PySem.W.findIn K (.ref CT) "__invert__" = some (some (.ref fTv))) (hfV : PySem.W.isFn K (.ref fTv) = true) : FnOk P w K mg base CX0 4 f fd ["self"] (spCas K CT C 2) := by
  refine F.ok scScas (fun vs H Q E h => ?_) (fun cdv A outer s H vs Q E hr h => ?_)
  · obtain ⟨x, v, rfl, _⟩ := h
    rfl
  · obtain ⟨x, v, rfl, hx, hD, l1, l2, k⟩ := h
    have hr2 : Room 2 _ := hr.mono (by decide)
    have hr3 : Room 3 _ := hr
    refine ⟨_, (pss_cons (ps_setLc (i := 1) (own := [("place", 2), ("height", 3)]) (g := gTup K 2 (gCons (gName 2) (gCons (gName 3) gNil))) (tt := tYes) (by rfl) scScas.nd rfl rfl (sw_true rfl rfl rfl (by decide +kernel)) (pi_list (pe_fld (pv 0) rfl)) (blkOk_by (own := [("place", 2), ("height", 3)]) (N := ["self", "missed", "place", "height", "trial"]) (sc := defScope sScas) (by decide +kernel)) (fun _ _ _ _ _ => by exact (pg_tup (n := 2) rfl (pgs_cons (pg_name (i := 2) scScas.nd rfl (Or.inl rfl)) (pgs_cons (pg_name (i := 3) scScas.nd rfl (Or.inl rfl)) pgs_nil)))) (fun _ _ _ _ _ => pts_nil) (fun _ _ _ _ _ => (Own.pe_makeS (E := fun _ => E0) MKT GTi hr2 rfl T.tri (passS pass0) (pa_cons (pv 2) (pa_cons (pv 3) (pa_cons pe_bl pa_nil))))))
      (pss_one (ps_ret (pe_op op_cat (pe_lc (own := [("trial", 4)]) (g := gName 4) (tt := tYes) (by rfl) scScas.nd (pi_list (pv 1)) (blkOk_by (own := [("trial", 4)]) (N := ["self", "missed", "place", "height", "trial"]) (sc := defScope sScas) (by decide +kernel)) (fun _ _ _ _ _ => (pg_name (i := 4) scScas.nd rfl (Or.inl rfl))) (fun _ _ _ _ _ => pts_nil) (fun _ _ _ _ _ => by exact (pe_tup (pa_cons pe_int (pa_cons (pe_lst (pa_cons (pe_un (Own.un_own GTv hsV hfV hr3 pass0) (pv 4)) pa_nil)) pa_nil))))) (pe_lst (pa_cons (pe_tup (pa_cons pe_int (pa_cons (pv 1) pa_nil))) pa_nil)))))), ?_⟩
    cases v with
    | none => cases hD
    | all _ => cases hD
    | band _ _ => cases hD
    | both _ _ _ => cases hD
    | some ps =>
      obtain ⟨dx, fs, hx0, hsz, hm, pp, hpp, tps, t1, t2, t3⟩ := id hx
      have lps : ps.length ≤ 499 := by
        have : (Wi.cases (.some ps)).length = ps.length + 1 := by simp [Wi.cases]
        omega
      refine ⟨_, rfl, x, C.S, dx, fs, _, rfl, hx0, T.cl (.some ps), T.na (.some ps) _ (by decide), hpp, pp, rfl, ⟨_, SqL.of t1⟩, fun D hD0 => ?_⟩
      refine lc_it (walk_list (xs := tps.map V.ref)) (fun i H' => Refs D H (PiT CT (ps.map (rowOf false))) i H') (Refs.start hD0) (fun i H' _ h => by obtain ⟨_, _, _, _, s, _⟩ := h; exact SqL.of (s _ _ t1)) ?_ ?_
      · rintro i y H1 H2 hi R ⟨rfl, hy⟩
        rw [List.length_map] at hi
        rw [List.getElem?_map, List.getElem?_eq_getElem hi] at hy
        cases hy
        obtain ⟨p, hp⟩ : ∃ p, ps[i]? = some p := ⟨_, List.getElem?_eq_getElem (by omega)⟩
        have s1 : Same H H2 := by obtain ⟨_, _, _, _, s, _⟩ := R; exact s
        have tq := sqT_same (t3 i _ p (List.getElem?_eq_getElem hi) hp) s1
        refine ⟨_, _, rfl, tq, rfl, _, _, rfl, _, _, rfl, rfl, ?_⟩
        refine ⟨rfl, _, rfl, _, rfl, ?_⟩
        refine mk_tri fun u H3 hu S3 tr => ?_
        obtain ⟨acc, ea⟩ := R.lt
        have nu : u ≠ D := fun z => by rw [z, ea] at hu; cases hu
        exact R.push PiT.st S3 (fun r er => by
          rw [List.getElem?_map, hp] at er
          cases er
          exact tr.hide nu) (by omega)
      rintro H1 R
      rw [List.length_map, t2] at R
      have R : Refs D H (PiT CT (ps.map (rowOf false))) (ps.map (rowOf false)).length H1 := by rw [List.length_map]; exact R
      obtain ⟨tT, s1, _⟩ := R.tris
      have eC : Wi.cases (.some ps) = (ps.map fun q => (1, [rowOf true q])) ++ [(0, ps.map (rowOf false))] := rfl
      obtain ⟨us, u1, u2, u3⟩ := id tT
      refine ⟨_, rfl, D, rfl, ⟨_, SqL.of u1⟩, fun M hM => ?_⟩
      refine lc_it (walk_list (xs := us.map V.ref)) (fun i H' => Refs M H1 (PiC CT H (ps.map fun q => (1, [rowOf true q]))) i H') (Refs.start hM) (fun i H' _ h => by obtain ⟨_, _, _, _, s, _⟩ := h; exact SqL.of (s _ _ u1)) ?_ ?_
      · rintro i y H4 H5 hi R4 ⟨rfl, hy⟩
        rw [List.length_map] at hi
        rw [List.getElem?_map, List.getElem?_eq_getElem hi] at hy
        cases hy
        rw [List.length_map] at u2
        obtain ⟨p, hp⟩ : ∃ p, ps[i]? = some p := ⟨_, List.getElem?_eq_getElem (by omega)⟩
        have s4 : Same H1 H5 := by obtain ⟨_, _, _, _, s, _⟩ := R4; exact s
        have tu := (u3 i _ (rowOf false p) (List.getElem?_eq_getElem hi) (by rw [List.getElem?_map, hp]; rfl)).same s4
        obtain ⟨dt, ft, g1, g2⟩ := id tu
        refine ⟨rfl, _, rfl, _, dt, ft, rfl, g1, _, _, _, _, rfl, tu, fun y H6 hy S6 t6 => ⟨by show 1 ≤ sizeLine; decide, fun l hl => ⟨by show 2 ≤ sizeLine; decide, fun tt htt => ?_⟩⟩⟩
        have s7 := same_new (o := .lst [V.ref y]) hl
        have e7 : upd H6 l (.lst [V.ref y]) l = some (.lst [V.ref y]) := upd_same
        generalize upd H6 l (.lst [V.ref y]) = H7 at s7 e7 htt ⊢
        have s8 := same_new (o := .tup [V.int 1, V.ref l]) htt
        have e8 : upd H7 tt (.tup [V.int 1, V.ref l]) tt = some (.tup [V.int 1, V.ref l]) := upd_same
        generalize upd H7 tt (.tup [V.int 1, V.ref l]) = H8 at s8 e8 ⊢
        obtain ⟨acc, ea⟩ := R4.lt
        have nM : ∀ {z : Addr} {H' : Hp}, H' z = none → Same H5 H' → z ≠ M := fun {z H'} h s e => by rw [e, s _ _ ea] at h; cases h
        have ny : y ≠ M := fun z => by rw [z, ea] at hy; cases hy
        have nl := nM hl S6
        have nt := nM htt (same_tr S6 s7)
        refine R4.push PiC.st (same_tr S6 (same_tr s7 s8)) (fun c ec => ?_) (by omega)
        rw [List.getElem?_map, hp] at ec
        cases ec
        refine ⟨l, freshS (same_tr s1 s4) (freshS S6 hl), by rw [hide_ne nt]; exact e8, [y], by rw [hide_ne nl]; exact s8 _ _ e7, rfl, fun j z r e1 e2 => ?_⟩
        match j, e1, e2 with
        | 0, e1, e2 =>
          cases e1
          cases e2
          exact (t6.same (same_tr s7 s8)).hide ny
      rintro H4 R4
      rw [List.length_map] at R4
      obtain ⟨vs, v1, v2, v3, s4, _⟩ := R4.fin PiC.st
      rw [u2, List.length_map] at v2
      refine ⟨_, rfl, by show 2 ≤ sizeLine; decide, fun t ht => ⟨by show 1 ≤ sizeLine; decide, fun L hL => ?_⟩⟩
      have s2 := same_new (o := .tup [V.int 0, V.ref D]) ht
      have eT : upd H4 t (.tup [V.int 0, V.ref D]) t = some (.tup [V.int 0, V.ref D]) := upd_same
      generalize upd H4 t (.tup [V.int 0, V.ref D]) = H2 at s2 eT hL ⊢
      have s3 := same_new (o := .lst [V.ref t]) hL
      have e3 : upd H2 L (.lst [V.ref t]) L = some (.lst [V.ref t]) := upd_same
      generalize upd H2 L (.lst [V.ref t]) = H3 at s3 e3 ⊢
      refine ⟨M, L, _, _, rfl, rfl, s3 _ _ (s2 _ _ v1), e3, by rw [List.length_map, sizeLine_eq]; show vs.length + 1 ≤ _; omega, fun p hp => ?_⟩
      have s5 := same_new (o := .lst (vs.map V.ref ++ [V.ref t])) hp
      have s45 := same_tr s2 (same_tr s3 s5)
      have s05 := same_tr s1 (same_tr s4 s45)
      refine k p _ s05 ⟨freshS (same_tr s1 (same_tr s4 (same_tr s2 s3))) hp, vs ++ [t], by rw [upd_same, List.map_append]; rfl, by rw [eC]; simp [v2], fun i z c e1 e2 => ?_⟩
      rw [eC] at e2
      by_cases ci : i < vs.length
      · rw [List.getElem?_append_left ci] at e1
        rw [List.getElem?_append_left (by rw [List.length_map]; omega)] at e2
        obtain ⟨l, a, b, d⟩ := v3 i z e1 c e2
        exact ⟨l, a, s45 _ _ b, d.same s45⟩
      · rw [List.getElem?_append_right (by omega)] at e1
        rw [List.getElem?_append_right (by rw [List.length_map]; omega), List.length_map, ← v2] at e2
        have i0 : i - vs.length = 0 := by
          have := (List.getElem?_eq_some_iff.mp e1).1
          simp at this
          omega
        rw [i0] at e1 e2
        cases e1
        cases e2
        exact ⟨D, hD0, s5 _ _ (s3 _ _ eT), tT.same (same_tr s4 s45)⟩
set_option maxHeartbeats 0 in
theorem ok_apla {f : Addr} {fd : FuncData} (F : Fun K "places" "AllWithin.places" sApla f fd) (T : WiTxt K mg CT C) : FnOk P w K mg base CX0 1 f fd ["self"] (spPla K CT C 1) := by
  refine F.ok scApla (fun vs H Q E h => ?_) (fun cdv A outer s H vs Q E hr h => ?_)
  · obtain ⟨x, v, rfl, _⟩ := h
    rfl
  · obtain ⟨x, v, rfl, hx, hD, l1, k⟩ := h
    refine ⟨_, (pss_one (ps_ret (pe_lc (own := [("place", 1), ("_", 2)]) (g := gTup K 2 (gCons (gName 1) (gCons (gName 2) gNil))) (tt := tYes) (by rfl) scApla.nd (pi_list (pe_fld (pv 0) rfl)) (blkOk_by (own := [("place", 1), ("_", 2)]) (N := ["self", "place", "_"]) (sc := defScope sApla) (by decide +kernel)) (fun _ _ _ _ _ => by exact (pg_tup (n := 2) rfl (pgs_cons (pg_name (i := 1) scApla.nd rfl (Or.inl rfl)) (pgs_cons (pg_name (i := 2) scApla.nd rfl (Or.inl rfl)) pgs_nil)))) (fun _ _ _ _ _ => pts_nil) (fun _ _ _ _ _ => (pv 1))))), ?_⟩
    cases v with
    | none => cases hD
    | some _ => cases hD
    | band _ _ => cases hD
    | both _ _ _ => cases hD
    | all ps =>
      obtain ⟨dx, fs, hx0, hsz, hm, pp, hpp, tps, t1, t2, t3⟩ := id hx
      have lps : ps.length ≤ 500 := by
        have : (Wi.places (.all ps)).length = ps.length := by simp [Wi.places]
        omega
      refine ⟨_, rfl, x, C.A, dx, fs, _, rfl, hx0, T.cl (.all ps), T.na (.all ps) _ (by decide), hpp, pp, rfl, ⟨_, SqL.of t1⟩, fun D hD0 => ?_⟩
      refine lc_it (walk_list (xs := tps.map V.ref)) (fun i H' => H' D = some (.lst ((ps.take i).map fun q => V.int q.1)) ∧ Same H H') ⟨by rw [List.take_zero]; exact upd_same, same_new hD0⟩ (fun i H' _ h => SqL.of (h.2 _ _ t1)) ?_ ?_
      · rintro i y H1 H2 hi ⟨d2, s1⟩ ⟨rfl, hy⟩
        rw [List.length_map] at hi
        rw [List.getElem?_map, List.getElem?_eq_getElem hi] at hy
        cases hy
        obtain ⟨p, hp⟩ : ∃ p, ps[i]? = some p := ⟨_, List.getElem?_eq_getElem (by omega)⟩
        have tq := sqT_same (t3 i _ p (List.getElem?_eq_getElem hi) hp) s1
        refine ⟨_, _, rfl, tq, rfl, _, _, rfl, _, _, rfl, rfl, rfl, _, rfl, _, d2, small1000 (by rw [List.length_map, List.length_take]; omega), ?_, fun c o e => ?_⟩
        · rw [upd_same, List.take_succ, hp, List.map_append]
          rfl
        · rw [upd_ne (ne_of_none e hD0)]
          exact s1 _ _ e
      rintro H1 ⟨d1, s1⟩
      rw [List.length_map, t2, List.take_length] at d1
      refine k D H1 hD0 s1 ?_
      rw [d1]
      show _ = some (HO.lst ((ps.map (·.1)).map V.int))
      rw [List.map_map]
      rfl
set_option maxHeartbeats 0 in
theorem ok_spla {f : Addr} {fd : FuncData} (F : Fun K "places" "SomeWithin.places" sSpla f fd) (T : WiTxt K mg CT C) : FnOk P w K mg base CX0 1 f fd ["self"] (spPla K CT C 2) := by
  refine F.ok scSpla (fun vs H Q E h => ?_) (fun cdv A outer s H vs Q E hr h => ?_)
  · obtain ⟨x, v, rfl, _⟩ := h
    rfl
  · obtain ⟨x, v, rfl, hx, hD, l1, k⟩ := h
    refine ⟨_, (pss_one (ps_ret (pe_lc (own := [("place", 1), ("_", 2)]) (g := gTup K 2 (gCons (gName 1) (gCons (gName 2) gNil))) (tt := tYes) (by rfl) scSpla.nd (pi_list (pe_fld (pv 0) rfl)) (blkOk_by (own := [("place", 1), ("_", 2)]) (N := ["self", "place", "_"]) (sc := defScope sSpla) (by decide +kernel)) (fun _ _ _ _ _ => by exact (pg_tup (n := 2) rfl (pgs_cons (pg_name (i := 1) scSpla.nd rfl (Or.inl rfl)) (pgs_cons (pg_name (i := 2) scSpla.nd rfl (Or.inl rfl)) pgs_nil)))) (fun _ _ _ _ _ => pts_nil) (fun _ _ _ _ _ => (pv 1))))), ?_⟩
    cases v with
    | none => cases hD
    | all _ => cases hD
    | band _ _ => cases hD
    | both _ _ _ => cases hD
    | some ps =>
      obtain ⟨dx, fs, hx0, hsz, hm, pp, hpp, tps, t1, t2, t3⟩ := id hx
      have lps : ps.length ≤ 500 := by
        have : (Wi.places (.some ps)).length = ps.length := by simp [Wi.places]
        omega
      refine ⟨_, rfl, x, C.S, dx, fs, _, rfl, hx0, T.cl (.some ps), T.na (.some ps) _ (by decide), hpp, pp, rfl, ⟨_, SqL.of t1⟩, fun D hD0 => ?_⟩
      refine lc_it (walk_list (xs := tps.map V.ref)) (fun i H' => H' D = some (.lst ((ps.take i).map fun q => V.int q.1)) ∧ Same H H') ⟨by rw [List.take_zero]; exact upd_same, same_new hD0⟩ (fun i H' _ h => SqL.of (h.2 _ _ t1)) ?_ ?_
      · rintro i y H1 H2 hi ⟨d2, s1⟩ ⟨rfl, hy⟩
        rw [List.length_map] at hi
        rw [List.getElem?_map, List.getElem?_eq_getElem hi] at hy
        cases hy
        obtain ⟨p, hp⟩ : ∃ p, ps[i]? = some p := ⟨_, List.getElem?_eq_getElem (by omega)⟩
        have tq := sqT_same (t3 i _ p (List.getElem?_eq_getElem hi) hp) s1
        refine ⟨_, _, rfl, tq, rfl, _, _, rfl, _, _, rfl, rfl, rfl, _, rfl, _, d2, small1000 (by rw [List.length_map, List.length_take]; omega), ?_, fun c o e => ?_⟩
        · rw [upd_same, List.take_succ, hp, List.map_append]
          rfl
        · rw [upd_ne (ne_of_none e hD0)]
          exact s1 _ _ e
      rintro H1 ⟨d1, s1⟩
      rw [List.length_map, t2, List.take_length] at d1
      refine k D H1 hD0 s1 ?_
      rw [d1]
      show _ = some (HO.lst ((ps.map (·.1)).map V.int))
      rw [List.map_map]
      rfl
theorem walk_zipT {a b : Addr} {xs ys : List V} {n : Nat} (hn : n = min xs.length ys.length) : Walk (RZ.ItzT K a b) n (fun H => SqT K H a xs ∧ SqT K H b ys) (YPair (fun i => xs[i]?) (fun i => ys[i]?)) := by
  subst hn
  refine ⟨fun i _ hi q => ?_, fun _ q => ⟨xs, ys, q.1, q.2, by omega⟩, fun i H v H' _ q y => ?_⟩
  · have h1 : i < xs.length := by omega
    have h2 : i < ys.length := by omega
    exact ⟨xs, ys, xs[i], ys[i], q.1, q.2, by simp [h1], by simp [h2]⟩
  · obtain ⟨T, x, z, h1, h2, h3, h4, h5⟩ := y
    exact ⟨T, x, z, h1, h2, h3, h4 xs q.1, h5 ys q.2⟩
/-- the first cut that is not above the one before it -/
def badC (cs : List Int) : Option Int := ((cs.zip (cs.drop 1)).find? fun p => decide (p.2 ≤ p.1)).map (·.2)
def spBnd (K : PySem.W.Frag) (CT CB : Addr) (C : WCls) : Sp := fun vs H Q E => ∃ (x dx : Addr) (p : Int) (cs : List Int), vs = .ref x :: .int p :: cs.map V.int ∧ H x = some (.ins C.B dx []) ∧ cs.length ≤ 100 ∧ (∀ c ∈ cs, Sz c) ∧
  (∀ c, badC cs = some c → ∀ (H' : Hp) (d : Addr), (∀ b o, b ≠ x → H b = some o → H' b = some o) → H' d = none → E (.ref CB) (some d) (upd H' d (.xd [("value", .int c)]))) ∧
  (badC cs = none → ∀ H', (∀ b o, b ≠ x → H b = some o → H' b = some o) → WiAt K CT C H' x (.band p cs) → Q .non H')
theorem mk_bnd {CB : Addr} {p : Int} {cs : List Int} {H1 : Hp} {Q : VK} {E : XK} (h100 : cs.length ≤ 100) (hz : ∀ c ∈ cs, Sz c) (hb : ∀ c, badC cs = some c → ∀ (H' : Hp) (d : Addr), Same H1 H' → H' d = none → E (.ref CB) (some d) (upd H' d (.xd [("value", .int c)])))
    (k : badC cs = none → ∀ x H2, H1 x = none → Same H1 H2 → WiAt K CT C H2 x (.band p cs) → Q (.ref x) H2) : Own.MkS C.B (spBnd K CT CB C) E (.int p :: cs.map V.int) H1 Q := ⟨fun x dx hx hdx hne => by
  have s0 : Same H1 (upd (upd H1 dx (.own x)) x (.ins C.B dx [])) := fun b o e => by
    rw [upd_ne (ne_of_none e hx), upd_ne (ne_of_none e hdx)]
    exact e
  exact ⟨x, dx, p, cs, rfl, upd_same, h100, hz, fun c e H' d s hd => hb c e H' d (fun b o e2 => s b o (ne_of_none e2 hx) (s0 b o e2)) hd, fun e H' s w => ⟨rfl, k e x H' hx (fun b o e2 => s b o (ne_of_none e2 hx) (s0 b o e2)) w⟩⟩⟩
theorem scBini : SubX.SScope ["self", "place", "cuts", "cut", "further"] ((["self", "place"] : List Str) ++ (["cuts"] : List Str)) (defScope sBini) := ⟨rfl, rfl, rfl, by decide +kernel, rfl, by decide +kernel, by decide +kernel, rfl⟩
set_option maxHeartbeats 0 in
theorem ok_bini {CB f cc fW : Addr} {fd : FuncData} (T : SubX.FunS P K "__init__" "Band.__init__" sBini f cc C.B fd) (U : SubX.UpS K C.B fW) (GW : FnR P w K mg base CX0 1 fW (spWini K C)) (X : WiTxt K mg CT C) (RB : ErrOk P w K mg base "BadNumber" CB "value" okInt) (hb : hbV fd ["self", "place"] "cuts") : FnR P w K mg base (L2.CX P w) 4 f (spBnd K CT CB C) := by
  refine (SubX.fn_supV (N := ["self", "place", "cuts", "cut", "further"]) (k := 3) (sp := fun vs H Q E => ∃ (x dx t : Addr) (p : Int) (cs : List Int), vs = [.ref x, .int p, .ref t] ∧ H x = some (.ins C.B dx []) ∧ H t = some (.tup (cs.map V.int)) ∧ cs.length ≤ 100 ∧ (∀ c ∈ cs, Sz c) ∧
      (∀ c, badC cs = some c → ∀ (H' : Hp) (d : Addr), (∀ b o, b ≠ x → H b = some o → H' b = some o) → H' d = none → E (.ref CB) (some d) (upd H' d (.xd [("value", .int c)]))) ∧
      (badC cs = none → ∀ H', (∀ b o, b ≠ x → H b = some o → H' b = some o) → WiAt K CT C H' x (.band p cs) → Q .non H')) T scBini StX.cxUp hb fun cda A outer s H vs Q E hc hr h => ?_).imp ?_
  · obtain ⟨x, dx, t, p, cs, rfl, hx, ht, h100, hz, hbad, k⟩ := h
    have hr1 : Room 1 _ := hr.mono (by decide)
    have hr3 : Room 3 _ := hr
    refine ⟨_, SubX.at_cut (ps_for (passes_of rfl) rfl (RZ.pi_zipA (by rfl) X.b_zip (pa_cons (pv 2) (pa_cons (pe_slice sl_tupA (pv 2) (po_some pe_int) po_none) pa_nil))) (pg_tup (by rfl) (pgs_cons (pg_name (i := 3) scBini.nd rfl (Or.inl rfl)) (pgs_cons (pg_name (i := 4) scBini.nd rfl (Or.inl rfl)) pgs_nil))) (pss_one (ps_if (pt_cmpR op_le (pv 4) (pv 3) (nomark _)) (pss_one (ps_err RB rfl (takes_of rfl rfl rfl rfl) hr3 (pa_cons (pv 4) pa_nil) rfl)) pss_nil)))
      (SubX.at_super T U GW hr1 (passS pass0) X.noSup ⟨_, _, rfl, hc⟩ rfl rfl rfl rfl rfl rfl (pe_op op_add (pe_callB call_len_seq (by rfl) X.b_len PySem.boot_len (pa_cons (pv 2) pa_nil)) pe_int)
      (SubX.at_of (pss_cons (ps_fld (pv 0) (pv 1) rfl) (pss_one (ps_fld (pv 0) (pe_callTy call_list_of (by rfl) X.b_list (by decide +kernel) (pa_cons (pv 2) pa_nil)) rfl))))), ?_⟩
    have hSt : SqT K H t (cs.map V.int) := SqT.of ht
    have lcs : (cs.map V.int).length = cs.length := List.length_map _
    refine ⟨fun σ' H' => ∃ v3 v4 : Option V, σ' = [some (.ref x), some (.int p), some (.ref t), v3, v4] ∧ Same H H' ∧ badC cs = none, ?_, ?_⟩
    · refine ⟨_, rfl, _, rfl, _, rfl, t, cs.map V.int, rfl, hSt, fun hw => ?_, fun hw t2 ht2 => ?_⟩
      · have e0 : cs = [] := by
          have h1 := hw.1
          rw [lcs] at h1
          have h1 : min 1 cs.length = 0 := h1
          exact List.length_eq_zero_iff.mp (by omega)
        have s1 : Same H H := same_rfl
        have h2 : SqT K H t ((cs.drop 1).map V.int) := by rw [e0] at hSt ⊢; exact hSt
        refine ⟨t, t, cs.map V.int, (cs.drop 1).map V.int, rfl, .inr ⟨sqT_same hSt s1, h2, ?_⟩⟩
        refine for_it (walk_zipT (xs := cs.map V.int) (ys := (cs.drop 1).map V.int) (n := cs.length - 1) (by simp only [List.length_map, List.length_drop]; omega)) (fun i σ' H' => ∃ v3 v4 : Option V, σ' = [some (.ref x), some (.int p), some (.ref t), v3, v4] ∧ Same H H' ∧ ((cs.zip (cs.drop 1)).take i).find? (fun p => decide (p.2 ≤ p.1)) = none) ⟨_, _, rfl, same_rfl, rfl⟩ (fun i σ' H' _ h => by obtain ⟨_, _, _, s, _⟩ := h; exact ⟨sqT_same (sqT_same hSt s1) s, sqT_same h2 s⟩) ?_ ?_
        · rintro i y σ' H2 H3 hi ⟨v3, v4, rfl, s2, g⟩ ⟨T0, a0, b0, rfl, hT0, rfl, ea, eb⟩
          obtain ⟨u, hu⟩ : ∃ u, cs[i]? = some u := ⟨_, List.getElem?_eq_getElem (by omega)⟩
          obtain ⟨v, hv⟩ : ∃ v, cs[i + 1]? = some v := ⟨_, List.getElem?_eq_getElem (by omega)⟩
          have ea : (cs.map V.int)[i]? = some a0 := ea
          have eb : ((cs.drop 1).map V.int)[i]? = some b0 := eb
          rw [List.getElem?_map, hu] at ea
          rw [List.getElem?_map, List.getElem?_drop, Nat.add_comm 1 i, hv] at eb
          cases ea
          cases eb
          have hz2 : (cs.zip (cs.drop 1))[i]? = some (u, v) := List.getElem?_zip_eq_some.mpr ⟨hu, by rw [List.getElem?_drop, Nat.add_comm 1 i]; exact hv⟩
          have s3 := same_new (o := .tup [V.int u, V.int v]) hT0
          have s23 := same_tr s2 s3
          refine ⟨T0, _, rfl, SqT.of upd_same, rfl, _, _, rfl, _, _, rfl, rfl, ?_⟩
          refine ⟨_, rfl, _, rfl, _, _, rfl, rfl, _, rfl, ?_⟩
          by_cases c : v ≤ u
          · refine if_t (decide_eq_true c) ⟨_, rfl, ?_⟩
            have eB : badC cs = some v := by
              have e : cs.zip (cs.drop 1) = (cs.zip (cs.drop 1)).take i ++ (u, v) :: (cs.zip (cs.drop 1)).drop (i + 1) := by
                obtain ⟨hi2, hx2⟩ := List.getElem?_eq_some_iff.mp hz2
                rw [← hx2, List.getElem_cons_drop, List.take_append_drop]
              unfold badC
              rw [e, List.find?_append, g]
              simp [c]
            exact err_way (hz v (List.mem_of_getElem? hv)).ok fun d hd => hbad v eB _ d (fun b o _ e => s23 _ _ (s1 _ _ e)) hd
          · refine if_f (decide_eq_false c) ⟨_, _, rfl, s23, ?_⟩
            rw [List.take_succ, hz2, Option.toList_some, List.find?_append, g]
            simp [c]
        · rintro σ' H2 ⟨v3, v4, rfl, s2, g⟩
          refine ⟨_, _, rfl, same_tr s1 s2, ?_⟩
          have lz : (cs.zip (cs.drop 1)).length = cs.length - 1 := by rw [List.length_zip, List.length_drop]; omega
          rw [← lz, List.take_length] at g
          unfold badC
          rw [g]
          rfl
      · have s1 := same_new (o := .tup (cutV (cs.map V.int) (some 1) none)) ht2
        have ec : cutV (cs.map V.int) (some 1) none = (cs.drop 1).map V.int := by
          unfold cutV
          rw [show (some (1 : Int)) = some ((1 : Nat) : Int) from rfl, HT.sIx_nat, HT.sIx_none, List.take_of_length_le (by rw [List.length_drop]; omega), List.map_drop]
          by_cases c : 1 ≤ cs.length
          · rw [lcs, Nat.min_eq_left c]
          · have : cs = [] := List.length_eq_zero_iff.mp (by omega)
            rw [this]
            rfl
        have h2 : SqT K (upd H t2 (.tup (cutV (cs.map V.int) (some 1) none))) t2 ((cs.drop 1).map V.int) := by rw [ec]; exact SqT.of upd_same
        generalize upd H t2 (.tup (cutV (cs.map V.int) (some 1) none)) = H9 at s1 h2 ⊢
        refine ⟨t, t2, cs.map V.int, (cs.drop 1).map V.int, rfl, .inr ⟨sqT_same hSt s1, h2, ?_⟩⟩
        refine for_it (walk_zipT (xs := cs.map V.int) (ys := (cs.drop 1).map V.int) (n := cs.length - 1) (by simp only [List.length_map, List.length_drop]; omega)) (fun i σ' H' => ∃ v3 v4 : Option V, σ' = [some (.ref x), some (.int p), some (.ref t), v3, v4] ∧ Same H9 H' ∧ ((cs.zip (cs.drop 1)).take i).find? (fun p => decide (p.2 ≤ p.1)) = none) ⟨_, _, rfl, same_rfl, rfl⟩ (fun i σ' H' _ h => by obtain ⟨_, _, _, s, _⟩ := h; exact ⟨sqT_same (sqT_same hSt s1) s, sqT_same h2 s⟩) ?_ ?_
        · rintro i y σ' H2 H3 hi ⟨v3, v4, rfl, s2, g⟩ ⟨T0, a0, b0, rfl, hT0, rfl, ea, eb⟩
          obtain ⟨u, hu⟩ : ∃ u, cs[i]? = some u := ⟨_, List.getElem?_eq_getElem (by omega)⟩
          obtain ⟨v, hv⟩ : ∃ v, cs[i + 1]? = some v := ⟨_, List.getElem?_eq_getElem (by omega)⟩
          have ea : (cs.map V.int)[i]? = some a0 := ea
          have eb : ((cs.drop 1).map V.int)[i]? = some b0 := eb
          rw [List.getElem?_map, hu] at ea
          rw [List.getElem?_map, List.getElem?_drop, Nat.add_comm 1 i, hv] at eb
          cases ea
          cases eb
          have hz2 : (cs.zip (cs.drop 1))[i]? = some (u, v) := List.getElem?_zip_eq_some.mpr ⟨hu, by rw [List.getElem?_drop, Nat.add_comm 1 i]; exact hv⟩
          have s3 := same_new (o := .tup [V.int u, V.int v]) hT0
          have s23 := same_tr s2 s3
          refine ⟨T0, _, rfl, SqT.of upd_same, rfl, _, _, rfl, _, _, rfl, rfl, ?_⟩
          refine ⟨_, rfl, _, rfl, _, _, rfl, rfl, _, rfl, ?_⟩
          by_cases c : v ≤ u
          · refine if_t (decide_eq_true c) ⟨_, rfl, ?_⟩
            have eB : badC cs = some v := by
              have e : cs.zip (cs.drop 1) = (cs.zip (cs.drop 1)).take i ++ (u, v) :: (cs.zip (cs.drop 1)).drop (i + 1) := by
                obtain ⟨hi2, hx2⟩ := List.getElem?_eq_some_iff.mp hz2
                rw [← hx2, List.getElem_cons_drop, List.take_append_drop]
              unfold badC
              rw [e, List.find?_append, g]
              simp [c]
            exact err_way (hz v (List.mem_of_getElem? hv)).ok fun d hd => hbad v eB _ d (fun b o _ e => s23 _ _ (s1 _ _ e)) hd
          · refine if_f (decide_eq_false c) ⟨_, _, rfl, s23, ?_⟩
            rw [List.take_succ, hz2, Option.toList_some, List.find?_append, g]
            simp [c]
        · rintro σ' H2 ⟨v3, v4, rfl, s2, g⟩
          refine ⟨_, _, rfl, same_tr s1 s2, ?_⟩
          have lz : (cs.zip (cs.drop 1)).length = cs.length - 1 := by rw [List.length_zip, List.length_drop]; omega
          rw [← lz, List.take_length] at g
          unfold badC
          rw [g]
          rfl
    rintro σ' H1 ⟨v3, v4, rfl, s1, hn⟩
    have hx1 := s1 _ _ hx
    have hS1 := sqT_same hSt s1
    refine ⟨x, dx, [], rfl, hx1, _, rfl, t, _, rfl, .inr hS1, _, _, rfl, rfl, x, .band p cs, dx, [], _, rfl, hx1, by show 0 < 1000; decide, ?_⟩
    rw [lcs]
    have nt : t ≠ x := fun z => by rw [z, hx] at ht; cases ht
    refine ⟨_, rfl, _, rfl, x, C.B, dx, putF "size" (.int ((cs.length : Nat) + 1)) [], rfl, upd_same, X.cl (.band p cs), X.na (.band p cs) _ (by decide), by show 1 < 1000; decide, ?_⟩
    rw [upd_upd]
    have hS2 : SqT K (upd H1 x (.ins C.B dx (putF "_place" (.int p) (putF "size" (.int ((cs.length : Nat) + 1)) [])))) t (cs.map V.int) := .inl (.inl (by rw [upd_ne nt]; exact s1 _ _ ht))
    refine ⟨_, rfl, t, _, rfl, .inr hS2, fun L hL => ⟨_, rfl, x, C.B, dx, putF "_place" (.int p) (putF "size" (.int ((cs.length : Nat) + 1)) []), rfl, ?_, X.cl (.band p cs), X.na (.band p cs) _ (by decide), by show 2 < 1000; decide, ?_⟩⟩
    · rw [upd_ne (fun z => by rw [← z, upd_same] at hL; cases hL)]
      exact upd_same
    have nL : L ≠ x := fun z => by rw [z, upd_same] at hL; cases hL
    have hL0 : H L = none := freshS s1 (by rw [upd_ne nL] at hL; exact hL)
    refine k hn _ (fun b o n e => ?_) ⟨dx, _, upd_same, rfl, fun m hm => ?_, rfl, L, rfl, ?_⟩
    · rw [upd_ne n, upd_ne (ne_of_none e hL0), upd_ne n]
      exact s1 _ _ e
    · simp only [wMth, List.mem_cons, List.not_mem_nil, or_false] at hm
      rcases hm with rfl | rfl | rfl | rfl | rfl | rfl <;> rfl
    · rw [upd_ne nL]
      exact upd_same
  · rintro vs H Q E ⟨x, dx, p, cs, rfl, hx, h100, hz, hbad, k⟩
    refine ⟨[.ref x, .int p], cs.map V.int, rfl, rfl, by rw [List.length_map, sizeLine_eq]; omega, fun t ht => ?_⟩
    have s1 := same_new (o := .tup (cs.map V.int)) ht
    exact ⟨x, dx, t, p, cs, rfl, s1 _ _ hx, upd_same, h100, hz, fun c e H' d s hd => hbad c e H' d (fun b o n e2 => s b o n (s1 _ _ e2)) hd, fun e H' s w => k e H' (fun b o n e2 => s b o n (s1 _ _ e2)) w⟩
def ovr (p : Int) (cs : List Int) (i : Nat) : List TRow := if i = 0 then [] else match cs[i - 1]? with
  | some c => [(p, c, false)]
  | none => []
theorem ovr_len (p : Int) (cs : List Int) (i : Nat) : (ovr p cs i).length ≤ 1 := by
  unfold ovr
  split
  · exact Nat.zero_le _
  · split <;> simp
theorem bandC_get (p : Int) : ∀ (cs : List Int) (k : Nat) (o : List TRow) (i : Nat), (bandC p k o cs)[i]? = if h : i < cs.length then some (((k + i : Nat) : Int), (if i = 0 then o else ovr p cs i) ++ [(p, cs[i], true)]) else if i = cs.length then some (((k + i : Nat) : Int), if i = 0 then o else ovr p cs i) else none
  | [], k, o, i => by
    unfold bandC
    cases i with
    | zero => simp
    | succ i => simp
  | c :: cs, k, o, 0 => by simp [bandC]
  | c :: cs, k, o, i + 1 => by
    unfold bandC
    rw [List.getElem?_cons_succ, bandC_get p cs (k + 1) [(p, c, false)] i]
    have e1 : (if i = 0 then [(p, c, false)] else ovr p cs i) = ovr p (c :: cs) (i + 1) := by
      cases i with
      | zero => simp [ovr]
      | succ i => simp [ovr]
    have e2 : k + 1 + i = k + (i + 1) := by omega
    rw [e1, e2]
    simp only [List.length_cons, Nat.add_lt_add_iff_right, Nat.add_right_cancel_iff, List.getElem_cons_succ, Nat.succ_ne_zero, if_false]
theorem bandC_len (p : Int) : ∀ (cs : List Int) (k : Nat) (o : List TRow), (bandC p k o cs).length = cs.length + 1
  | [], _, _ => rfl
  | c :: cs, k, o => by
    unfold bandC
    rw [List.length_cons, bandC_len p cs, List.length_cons]
theorem bandC_at {p : Int} {cs : List Int} {i : Nat} {c : Int} (h : cs[i]? = some c) : (bandC p 0 [] cs)[i]? = some ((i : Int), ovr p cs i ++ [(p, c, true)]) := by
  obtain ⟨h1, h2⟩ := List.getElem?_eq_some_iff.mp h
  rw [bandC_get, dif_pos h1, h2, Nat.zero_add]
  congr 3
  by_cases c : i = 0
  · rw [if_pos c, c]; rfl
  · rw [if_neg c]
theorem bandC_end {p : Int} {cs : List Int} : (bandC p 0 [] cs)[cs.length]? = some ((cs.length : Int), ovr p cs cs.length) := by
  rw [bandC_get, dif_neg (Nat.lt_irrefl _), if_pos rfl, Nat.zero_add]
  congr 2
  by_cases c : cs.length = 0
  · rw [if_pos c, c]; rfl
  · rw [if_neg c]
theorem TrisAt.hide {CT D p : Addr} {H : Hp} {rows : List TRow} (h : TrisAt CT H p rows) (n : p ≠ D) (hD : ∃ acc, H D = some (.lst acc)) : TrisAt CT (Law.hide D H) p rows := by
  obtain ⟨ts, a, b, c⟩ := h
  obtain ⟨acc, ea⟩ := hD
  refine ⟨ts, by rw [hide_ne n]; exact a, b, fun i t r e1 e2 => ?_⟩
  have tr := c i t r e1 e2
  refine tr.hide fun z => ?_
  obtain ⟨dx, fs, g, _⟩ := tr
  rw [z, ea] at g
  cases g
theorem scBcas : FnScope ["self", "cases", "over", "number", "cut", "under"] ["self"] (defScope sBcas) := ⟨rfl, rfl, rfl, by decide +kernel, rfl, by decide +kernel, by decide +kernel⟩
theorem scBpla : FnScope ["self"] ["self"] (defScope sBpla) := ⟨rfl, rfl, rfl, by decide +kernel, rfl, by decide +kernel, by decide +kernel⟩
set_option maxHeartbeats 0 in
theorem ok_bcas {f fTi fTv : Addr} {fd : FuncData} (F : Fun K "cases" "Band.cases" sBcas f fd) (T : WiTxt K mg CT C) (MKT : Mk K CT fTi) (GTi : FnR P w K mg base CX0 1 fTi (spTini CT)) (GTv : FnR P w K mg base CX0 3 fTv (spTnv CT))
    (hsV : PySem.W.findIn K (.ref CT) "__invert__" = some (some (.ref fTv))) (hfV : PySem.W.isFn K (.ref fTv) = true) : FnOk P w K mg base CX0 4 f fd ["self"] (spCas K CT C 3) := by
  refine F.ok scBcas (fun vs H Q E h => ?_) (fun cdv A outer s H vs Q E hr h => ?_)
  · obtain ⟨x, v, rfl, _⟩ := h
    rfl
  · obtain ⟨x, v, rfl, hx, hD, l1, l2, k⟩ := h
    have hr2 : Room 2 _ := hr.mono (by decide)
    have hr3 : Room 3 _ := hr
    refine ⟨_, (pss_cons (ps_set (i := 1) scBcas.nd rfl (Or.inl rfl) (pe_lst pa_nil))
      (pss_cons (ps_set (i := 2) scBcas.nd rfl (Or.inl rfl) (pe_lst pa_nil))
      (C8.pss_cut (ps_for PassesOwn.never rfl (pi_enum (by rfl) T.b_enum (pa_cons (pe_fld (pv 0) rfl) pa_nil)) (pg_tup (by rfl) (pgs_cons (pg_name (i := 3) scBcas.nd rfl (Or.inl rfl)) (pgs_cons (pg_name (i := 4) scBcas.nd rfl (Or.inl rfl)) pgs_nil))) (pss_cons (ps_set (i := 5) scBcas.nd rfl (Or.inl rfl) (Own.pe_makeS (E := fun _ => E0) MKT GTi hr2 rfl T.tri (passS pass0) (pa_cons (pe_fld (pv 0) rfl) (pa_cons (pv 4) (pa_cons pe_bl pa_nil)))))
      (pss_cons (ps_expr (pe_bm PySem.F.plainAttrs_list PySem.F.slot_list_append PySem.F.type_list_append mt_append (pv 1) (pa_cons (pe_tup (pa_cons (pv 3) (pa_cons (pe_lst (StX.pa_star (pv 2) (pa_cons (pv 5) pa_nil))) pa_nil))) pa_nil)))
      (pss_one (ps_set (i := 2) scBcas.nd rfl (Or.inl rfl) (pe_lst (pa_cons (pe_un (Own.un_own GTv hsV hfV hr3 pass0) (pv 5)) pa_nil)))))))
      (pss_one (ps_ret (pe_lst (StX.pa_star (pv 1) (pa_cons (pe_tup (pa_cons (pe_callB call_len_seq (by rfl) T.b_len PySem.boot_len (pa_cons (pe_fld (pv 0) rfl) pa_nil)) (pa_cons (pv 2) pa_nil))) pa_nil)))))))), ?_⟩
    cases v with
    | none => cases hD
    | all _ => cases hD
    | some _ => cases hD
    | both _ _ _ => cases hD
    | band p cs =>
      have l1 : (bandC p 0 [] cs).length ≤ 500 := l1
      rw [bandC_len] at l1
      have k : ∀ (q : Addr) (H' : Hp), Same H H' → CssN CT H H' q (bandC p 0 [] cs) → Q (.ref q) H' := k
      obtain ⟨dx, fs, hx0, hsz, hm, hp, cc, hcc, hC⟩ := id hx
      refine ⟨by show 0 ≤ sizeLine; decide, fun D hD0 => ?_⟩
      have s0 := same_new (o := .lst ([] : List V)) hD0
      have e0 : Refs D H (PiC CT H (bandC p 0 [] cs)) 0 (upd H D (.lst [])) := Refs.start hD0
      generalize upd H D (.lst []) = H1 at s0 e0 ⊢
      refine ⟨by show 0 ≤ sizeLine; decide, fun o ho => ?_⟩
      have s1 := same_new (o := .lst ([] : List V)) ho
      have eo : upd H1 o (.lst []) o = some (.lst ([] : List V)) := upd_same
      have no : o ≠ D := by
        obtain ⟨acc, ea⟩ := e0.lt
        exact fun z => by rw [z, ea] at ho; cases ho
      have R1 : Refs D H (PiC CT H (bandC p 0 [] cs)) 0 (upd H1 o (.lst [])) := by
        obtain ⟨us, a, b, c, d, e⟩ := e0
        exact ⟨us, s1 _ _ a, b, fun j u hu => PiC.st _ _ _ _ (hide_same s1) (c j u hu), same_tr d s1, e⟩
      generalize upd H1 o (.lst []) = H2 at s1 eo R1 ⊢
      refine ⟨fun σ' H' => ∃ (o : Addr) (v3 v4 v5 : Option V), σ' = [some (.ref x), some (.ref D), some (.ref o), v3, v4, v5] ∧ Refs D H (PiC CT H (bandC p 0 [] cs)) cs.length H' ∧ H o = none ∧ o ≠ D ∧ TrisAt CT H' o (ovr p cs cs.length), ?_, ?_⟩
      · refine ⟨_, rfl, x, C.B, dx, fs, _, rfl, (same_tr s0 s1) _ _ hx0, T.cl (.band p cs), T.na (.band p cs) _ (by decide), hcc, cc, cs.map V.int, rfl, SqL.of ((same_tr s0 s1) _ _ hC), ?_⟩
        refine for_it (walk_enum (xs := cs.map V.int)) (fun i σ' H' => ∃ (o : Addr) (v3 v4 v5 : Option V), σ' = [some (.ref x), some (.ref D), some (.ref o), v3, v4, v5] ∧ Refs D H (PiC CT H (bandC p 0 [] cs)) i H' ∧ H o = none ∧ o ≠ D ∧ TrisAt CT H' o (ovr p cs i)) ⟨o, _, _, _, rfl, R1, freshS s0 ho, no, [], eo, rfl, fun i t r h _ => nomatch h⟩ (fun i σ' H' _ h => by obtain ⟨_, _, _, _, _, ⟨_, _, _, _, s, _⟩, _⟩ := h; exact SqL.of (s _ _ hC)) ?_ ?_
        · rintro i y σ' H3 H4 hi ⟨o, v3, v4, v5, rfl, R, fo, no, to⟩ ⟨T0, a0, b0, rfl, hT0, rfl, ea, eb⟩
          rw [List.length_map] at hi
          cases ea
          obtain ⟨c, hc⟩ : ∃ c, cs[i]? = some c := ⟨_, List.getElem?_eq_getElem hi⟩
          have eb : (cs.map V.int)[i]? = some b0 := eb
          rw [List.getElem?_map, hc] at eb
          cases eb
          have s3 : Same H H3 := by obtain ⟨_, _, _, _, s, _⟩ := R; exact s
          have s4 := same_new (o := .tup [V.int (i : Nat), V.int c]) hT0
          obtain ⟨acc, eD⟩ := R.lt
          refine ⟨T0, _, rfl, SqT.of upd_same, rfl, _, _, rfl, _, _, rfl, rfl, ?_⟩
          generalize upd H3 T0 (.tup [V.int (i : Nat), V.int c]) = H4 at s4 ⊢
          refine ⟨_, rfl, x, C.B, dx, fs, _, rfl, (same_tr s3 s4) _ _ hx0, T.cl (.band p cs), T.na (.band p cs) _ (by decide), hp, _, rfl, ?_⟩
          refine mk_tri fun u H5 hu S5 tu => ?_
          have s35 := same_tr s4 S5
          have eD5 := s35 _ _ eD
          obtain ⟨ots, o1, o2, o3⟩ := id (to.same s35)
          refine ⟨_, rfl, .inl ⟨rfl, _, SqL.of eD5⟩, _, rfl, _, rfl, o, _, rfl, .inr (SqL.of o1), _, rfl, ?_, fun L hL => ⟨by show 2 ≤ sizeLine; decide, fun tt htt => ?_⟩⟩
          · have := ovr_len p cs i
            rw [List.length_append, List.length_map, o2, sizeLine_eq]
            show _ + 1 ≤ _
            omega
          have s6 := same_new (o := .lst (ots.map V.ref ++ [V.ref u])) hL
          have e6 : upd H5 L (.lst (ots.map V.ref ++ [V.ref u])) L = some (.lst ((ots ++ [u]).map V.ref)) := by rw [upd_same, List.map_append]; rfl
          generalize upd H5 L (.lst (ots.map V.ref ++ [V.ref u])) = H6 at s6 e6 htt ⊢
          have s7 := same_new (o := .tup [V.int (i : Nat), V.ref L]) htt
          have e7 : upd H6 tt (.tup [V.int (i : Nat), V.ref L]) tt = some (.tup [V.int (i : Nat), V.ref L]) := upd_same
          have s67 := same_tr s6 s7
          generalize upd H6 tt (.tup [V.int (i : Nat), V.ref L]) = H7 at s7 e7 s67 ⊢
          have s37 := same_tr s35 s67
          have nL : L ≠ D := fun z => by rw [z, eD5] at hL; cases hL
          have nt : tt ≠ D := fun z => by rw [z, s6 _ _ eD5] at htt; cases htt
          have tL : TrisAt CT H7 L (ovr p cs i ++ [(p, c, true)]) := by
            refine ⟨ots ++ [u], s7 _ _ e6, by rw [List.length_append, List.length_append, o2]; rfl, fun j z r e1 e2 => ?_⟩
            by_cases cj : j < ots.length
            · rw [List.getElem?_append_left cj] at e1
              rw [List.getElem?_append_left (by omega)] at e2
              exact (o3 j z r e1 e2).same s67
            · rw [List.getElem?_append_right (by omega)] at e1
              rw [List.getElem?_append_right (by omega), ← o2] at e2
              have j0 : j - ots.length = 0 := by
                have := (List.getElem?_eq_some_iff.mp e1).1
                simp at this
                omega
              rw [j0] at e1 e2
              cases e1
              cases e2
              exact tu.same s67
          obtain ⟨acc2, ea2, la2, R2⟩ := R.push (u := tt) PiC.st s37 (fun cse ec => by
            rw [bandC_at hc] at ec
            cases ec
            exact ⟨L, freshS (same_tr s3 s35) hL, by rw [hide_ne nt]; exact e7, tL.hide nL ⟨_, s37 _ _ eD⟩⟩) (by omega)
          refine ⟨D, acc2, _, rfl, rfl, ea2, la2, ?_⟩
          have nu : u ≠ D := fun z => by rw [z, s4 _ _ eD] at hu; cases hu
          have tu8 : Tri CT (upd H7 D (.lst (acc2 ++ [V.ref tt]))) u p c true := by
            obtain ⟨du, fu, g1, g2⟩ := tu.same s67
            exact ⟨du, fu, by rw [upd_ne nu]; exact g1, g2⟩
          generalize upd H7 D (.lst (acc2 ++ [V.ref tt])) = H8 at R2 tu8 ⊢
          obtain ⟨du, fu, g1, g2⟩ := id tu8
          refine ⟨_, rfl, u, du, fu, rfl, g1, _, _, _, _, rfl, tu8, fun y H9 hy S9 t9 => ⟨by show 1 ≤ sizeLine; decide, fun ov hov => ?_⟩⟩
          have s10 := same_new (o := .lst [V.ref y]) hov
          obtain ⟨acc8, eD8⟩ := R2.lt
          have s8 : Same H H8 := by obtain ⟨_, _, _, _, s, _⟩ := R2; exact s
          have nov : ov ≠ D := fun z => by rw [z, S9 _ _ eD8] at hov; cases hov
          refine ⟨ov, _, _, _, rfl, ?_, freshS s8 (freshS S9 hov), nov, [y], upd_same, ?_, fun j z r e1 e2 => ?_⟩
          · obtain ⟨us, a, b, cc2, d, e⟩ := R2
            exact ⟨us, (same_tr S9 s10) _ _ a, b, fun j u hu => PiC.st _ _ _ _ (hide_same (same_tr S9 s10)) (cc2 j u hu), same_tr d (same_tr S9 s10), e⟩
          · unfold ovr
            rw [if_neg (Nat.succ_ne_zero i), Nat.add_sub_cancel, hc]
            rfl
          · unfold ovr at e2
            rw [if_neg (Nat.succ_ne_zero i), Nat.add_sub_cancel, hc] at e2
            match j, e1, e2 with
            | 0, e1, e2 =>
              cases e1
              cases e2
              exact t9.same s10
        · rintro σ' H3 ⟨o, v3, v4, v5, rfl, R, fo, no, to⟩
          rw [List.length_map] at R to
          exact ⟨o, _, _, _, rfl, R, fo, no, to⟩
      rintro σ' H3 ⟨o3, v3, v4, v5, rfl, R3, f3, n3, t3⟩
      obtain ⟨us, u1, u2, u3, s3, _⟩ := R3.fin PiC.st
      refine ⟨_, rfl, D, _, rfl, .inr (SqL.of u1), _, rfl, x, C.B, dx, fs, _, rfl, s3 _ _ hx0, T.cl (.band p cs), T.na (.band p cs) _ (by decide), hcc, cc, _, rfl, .inl (SqL.of (s3 _ _ hC)), _, rfl, by show 2 ≤ sizeLine; decide, fun tt htt => ⟨?_, fun q hq => ?_⟩⟩
      · rw [List.length_append, List.length_map, u2, sizeLine_eq]
        show _ + 1 ≤ _
        omega
      rw [List.length_map] at hq ⊢
      have s4 := same_new (o := .tup [V.int (cs.length : Nat), V.ref o3]) htt
      have e4 : upd H3 tt (.tup [V.int (cs.length : Nat), V.ref o3]) tt = some (.tup [V.int (cs.length : Nat), V.ref o3]) := upd_same
      generalize upd H3 tt (.tup [V.int (cs.length : Nat), V.ref o3]) = H4 at s4 e4 hq ⊢
      have s5 := same_new (o := .lst (us.map V.ref ++ [V.ref tt])) hq
      refine k q _ (same_tr s3 (same_tr s4 s5)) ⟨freshS (same_tr s3 s4) hq, us ++ [tt], by rw [upd_same, List.map_append]; rfl, by rw [List.length_append, bandC_len, u2]; rfl, fun i z c e1 e2 => ?_⟩
      by_cases ci : i < us.length
      · rw [List.getElem?_append_left ci] at e1
        obtain ⟨l, a, b, d⟩ := u3 i z e1 c e2
        exact ⟨l, a, (same_tr s4 s5) _ _ b, d.same (same_tr s4 s5)⟩
      · rw [List.getElem?_append_right (by omega)] at e1
        have i0 : i - us.length = 0 := by
          have := (List.getElem?_eq_some_iff.mp e1).1
          simp at this
          omega
        rw [i0] at e1
        cases e1
        have ei : i = cs.length := by omega
        rw [ei, bandC_end] at e2
        cases e2
        exact ⟨o3, f3, s5 _ _ e4, t3.same (same_tr s4 s5)⟩
theorem ok_bpla {f : Addr} {fd : FuncData} (F : Fun K "places" "Band.places" sBpla f fd) (T : WiTxt K mg CT C) : FnOk P w K mg base CX0 1 f fd ["self"] (spPla K CT C 3) := by
  refine F.ok scBpla (fun vs H Q E h => ?_) (fun cdv A outer s H vs Q E hr h => ?_)
  · obtain ⟨x, v, rfl, _⟩ := h
    rfl
  · obtain ⟨x, v, rfl, hx, hD, l1, k⟩ := h
    refine ⟨_, (pss_one (ps_ret (pe_lst (pa_cons (pe_fld (pv 0) rfl) pa_nil)))), ?_⟩
    cases v with
    | none => cases hD
    | all _ => cases hD
    | some _ => cases hD
    | both _ _ _ => cases hD
    | band p cs =>
      obtain ⟨dx, fs, hx0, hsz, hm, hp, cc, hcc, hC⟩ := id hx
      exact ⟨_, rfl, x, C.B, dx, fs, _, rfl, hx0, T.cl (.band p cs), T.na (.band p cs) _ (by decide), hp, by show 1 ≤ sizeLine; decide, fun q hq => k q _ hq (same_new hq) upd_same⟩
/-- what of a wish is small -/
structure WiB (v : Wi) : Prop where
  sz : v.size.natAbs < 2 ^ 200
  an : ∀ c ∈ v.cases, c.1.natAbs < 2 ^ 200
  ln : v.cases.length ≤ 500
  tl : ∀ c ∈ v.cases, c.2.length ≤ 500
  pl : v.places.length ≤ 500
/-- what the written part promises of the methods of the five classes -/
structure WMeth (P : Program) (w : World) (K : PySem.W.Frag) (mg : Str → Option Value) (base : Heap) (CT : Addr) (C : WCls) : Prop where
  cas : ∀ v : Wi, ∃ g, Meth K (v.cls C) "cases" g ∧ FnR P w K mg base CX0 4 g (spCas K CT C v.kd)
  pla : ∀ v : Wi, ∃ g, Meth K (v.cls C) "places" g ∧ FnR P w K mg base CX0 4 g (spPla K CT C v.kd)
def prodC (n : Int) (a b : List Cse) : List Cse := a.flatMap fun c => b.map fun d => (c.1 * n + d.1, c.2 ++ d.2)
theorem prodC_len (n : Int) (b : List Cse) : ∀ a : List Cse, (prodC n a b).length = a.length * b.length
  | [] => by simp [prodC]
  | c :: a => by
    have ih := prodC_len n b a
    unfold prodC at ih ⊢
    rw [List.flatMap_cons, List.length_append, ih, List.length_map, List.length_cons, Nat.succ_mul, Nat.add_comm]
theorem prodC_get {n : Int} {b : List Cse} {m : Nat} {d : Cse} (hd : b[m]? = some d) : ∀ {a : List Cse} {i : Nat} {c : Cse}, a[i]? = some c → (prodC n a b)[i * b.length + m]? = some (c.1 * n + d.1, c.2 ++ d.2)
  | [], _, _, h => by cases h
  | c0 :: a, 0, c, h => by
    cases h
    have hm := (List.getElem?_eq_some_iff.mp hd).1
    unfold prodC
    rw [List.flatMap_cons, Nat.zero_mul, Nat.zero_add, List.getElem?_append_left (by rw [List.length_map]; exact hm), List.getElem?_map, hd]
    rfl
  | c0 :: a, i + 1, c, h => by
    have ih := prodC_get (n := n) hd (a := a) (i := i) (c := c) (by simpa using h)
    unfold prodC at ih ⊢
    rw [List.flatMap_cons, List.getElem?_append_right (by rw [List.length_map, Nat.succ_mul]; omega), List.length_map]
    rw [show (i + 1) * b.length + m - b.length = i * b.length + m from by rw [Nat.succ_mul]; omega]
    exact ih
def bothW (va vb : Wi) : Wi := .both (va.size * vb.size) (va.places ++ vb.places) (prodC vb.size va.cases vb.cases)
def spOini (K : PySem.W.Frag) (CT : Addr) (C : WCls) : Sp := fun vs H Q _ => ∃ (x dx a b : Addr) (va vb : Wi), vs = [.ref x, .ref a, .ref b] ∧ H x = some (.ins C.O dx []) ∧ WiAt K CT C H a va ∧ WiAt K CT C H b vb ∧ WiB va ∧ WiB vb ∧ va.cases.length * vb.cases.length ≤ 500 ∧ va.places.length + vb.places.length ≤ 500 ∧
  ∀ H', (∀ b o, b ≠ x → H b = some o → H' b = some o) → WiAt K CT C H' x (bothW va vb) → Q .non H'
theorem mk_oth {a b : Addr} {va vb : Wi} {H1 : Hp} {Q : VK} {E : XK} (ha : WiAt K CT C H1 a va) (hb : WiAt K CT C H1 b vb) (ba : WiB va) (bb : WiB vb) (hc : va.cases.length * vb.cases.length ≤ 500) (hp : va.places.length + vb.places.length ≤ 500)
    (k : ∀ x H2, H1 x = none → Same H1 H2 → WiAt K CT C H2 x (bothW va vb) → Q (.ref x) H2) : Own.MkS C.O (spOini K CT C) E [.ref a, .ref b] H1 Q := ⟨fun x dx hx hdx hne => by
  have s0 : Same H1 (upd (upd H1 dx (.own x)) x (.ins C.O dx [])) := fun b o e => by
    rw [upd_ne (ne_of_none e hx), upd_ne (ne_of_none e hdx)]
    exact e
  exact ⟨x, dx, a, b, va, vb, rfl, upd_same, ha.same s0, hb.same s0, ba, bb, hc, hp, fun H' s w => ⟨rfl, k x H' hx (fun b o e2 => s b o (ne_of_none e2 hx) (s0 b o e2)) w⟩⟩⟩
theorem hidP {x dx D : Addr} {H : Hp} (hx : H x = some (.ins D dx [])) {ps : List (Int × Int)} {p : Addr} (h : PrsAt K H p ps) : PrsAt K (Law.hide x H) p ps := by
  obtain ⟨ts, h1, h2, h3⟩ := h
  refine ⟨ts, by rw [hide_ne (fun z => by rw [z, hx] at h1; cases h1)]; exact h1, h2, fun i t q e1 e2 => ?_⟩
  rcases h3 i t q e1 e2 with (h | ⟨o, h⟩) | h
  · exact .inl (.inl (by rw [hide_ne (fun z => by rw [z, hx] at h; cases h)]; exact h))
  · exact .inl (.inr ⟨o, by rw [hide_ne (fun z => by rw [z, hx] at h; cases h)]; exact h⟩)
  · exact .inr h
theorem hidT {x dx D p : Addr} {H : Hp} (hx : H x = some (.ins D dx [])) {rows : List TRow} (h : TrisAt CT H p rows) : TrisAt CT (Law.hide x H) p rows := by
  obtain ⟨ts, a, b, c⟩ := h
  refine ⟨ts, by rw [hide_ne (fun z => by rw [z, hx] at a; cases a)]; exact a, b, fun i t r e1 e2 => ?_⟩
  have tr := c i t r e1 e2
  refine tr.hide fun z => ?_
  obtain ⟨dx, fs, g, l, _⟩ := tr
  rw [z, hx] at g
  cases g
  cases l
theorem WiAt.hid {x dx D a : Addr} {H : Hp} {v : Wi} (hx : H x = some (.ins D dx [])) (h : WiAt K CT C H a v) : WiAt K CT C (Law.hide x H) a v := by
  obtain ⟨da, fs, g, sz, m, f⟩ := h
  have na : a ≠ x := fun z => by
    rw [z, hx] at g
    cases g
    cases sz
  refine ⟨da, fs, by rw [hide_ne na]; exact g, sz, m, ?_⟩
  cases v with
  | none => trivial
  | all ps => obtain ⟨p, a, b⟩ := f; exact ⟨p, a, hidP hx b⟩
  | some ps => obtain ⟨p, a, b⟩ := f; exact ⟨p, a, hidP hx b⟩
  | band p cs => obtain ⟨a, c, b, d⟩ := f; exact ⟨a, c, b, by rw [hide_ne (fun z => by rw [z, hx] at d; cases d)]; exact d⟩
  | both n pl cs =>
    obtain ⟨⟨p, a, b⟩, c, d, ts, e1, e2, e3⟩ := f
    refine ⟨⟨p, a, by rw [hide_ne (fun z => by rw [z, hx] at b; cases b)]; exact b⟩, c, d, ts, by rw [hide_ne (fun z => by rw [z, hx] at e1; cases e1)]; exact e1, e2, fun i t cse h1 h2 => ?_⟩
    obtain ⟨l, a2, b2⟩ := e3 i t cse h1 h2
    exact ⟨l, by rw [hide_ne (fun z => by rw [z, hx] at a2; cases a2)]; exact a2, hidT hx b2⟩
theorem scOini : SubX.SScope ["self", "first", "second", "more", "answer", "trials", "other", "added"] ["self", "first", "second"] (defScope sOini) := ⟨rfl, rfl, rfl, by decide +kernel, rfl, by decide +kernel, by decide +kernel, rfl⟩
set_option maxHeartbeats 0 in
theorem ok_oini {f cc fW : Addr} {fd : FuncData} (T : SubX.FunS P K "__init__" "Both.__init__" sOini f cc C.O fd) (U : SubX.UpS K C.O fW) (GW : FnR P w K mg base CX0 1 fW (spWini K C)) (X : WiTxt K mg CT C) (M : WMeth P w K mg base CT C) (hb : ∀ us : List Value, us.length = 3 → bindArgs fd ⟨us, []⟩ = pure ((["self", "first", "second"] : List Str).zip us)) : FnR P w K mg base CX0 5 f (spOini K CT C) := by
  refine SubX.fn_sup (N := ["self", "first", "second", "more", "answer", "trials", "other", "added"]) (k := 4) T scOini (fun vs H Q E h => ?_) hb fun cda A outer s H vs Q E hc hr h => ?_
  · obtain ⟨x, dx, a, b, va, vb, rfl, _⟩ := h
    rfl
  · obtain ⟨x, dx, a, b, va, vb, rfl, hx, ha, hb', ba, bb, hcn, hpn, k⟩ := h
    have hr1 : Room 1 _ := hr.mono (by decide)
    have hr4 : Room 4 _ := hr
    refine ⟨_, SubX.at_super T U GW hr1 (passS pass0) X.noSup ⟨_, _, rfl, hc⟩ rfl rfl rfl rfl rfl rfl (pe_op op_mulW (pe_fld (pv 1) rfl) (pe_fld (pv 2) rfl))
      (SubX.at_of (pss_cons (ps_fld (pv 0) (pe_op op_cat (SubZ.pe_methP0 (k := 4) (CX := CX0) (E := fun _ => E0) (pv 1) hr4 (passS pass0)) (SubZ.pe_methP0 (k := 4) (CX := CX0) (E := fun _ => E0) (pv 2) hr4 (passS pass0))) rfl)
      (C8.pss_cut (ps_set (i := 3) scOini.nd rfl (Or.inr rfl) (SubZ.pe_methP0 (k := 4) (CX := CX0) (E := fun _ => E0) (pv 2) hr4 (passS pass0)))
      (pss_one (ps_fld (pv 0) (pe_lc2 (own := [("answer", 4), ("trials", 5), ("other", 6), ("added", 7)]) (vs1 := [6, 7]) (g := gTup K 2 (gCons (gName 4) (gCons (gName 5) gNil))) (g1 := gTup K 2 (gCons (gName 6) (gCons (gName 7) gNil))) (tt := tYes) (tt1 := tYes) (wi1 := iList K (tVar 3)) (te := tTup (tCons (tOp (rI0 fun i j => .int (i + j)) (tOp (rI CMulW fun i j => .int (i * j)) (tVar 4) (tFld K (tVar 2) "size")) (tVar 6)) (tCons (tOp rCat (tVar 5) (tVar 7)) tNil)))
        (by rfl) scOini.nd (pi_list (SubZ.pe_methP0 (k := 4) (CX := CX0) (E := fun _ => E0) (pv 1) hr4 (passS pass0))) (blkOk_by (own := [("answer", 4), ("trials", 5), ("other", 6), ("added", 7)]) (N := ["self", "first", "second", "more", "answer", "trials", "other", "added"]) (sc := defScope sOini) (by decide +kernel)) (by decide)
        (fun _ _ _ _ _ => by exact (pg_tup (n := 2) rfl (pgs_cons (pg_name (i := 4) scOini.nd rfl (Or.inl rfl)) (pgs_cons (pg_name (i := 5) scOini.nd rfl (Or.inl rfl)) pgs_nil)))) (fun _ _ _ _ _ => pts_nil) (fun _ _ _ _ _ => by exact (pi_list (pv 3)))
        (fun _ _ _ _ _ => by exact (pg_tup (n := 2) rfl (pgs_cons (pg_name (i := 6) scOini.nd rfl (Or.inl rfl)) (pgs_cons (pg_name (i := 7) scOini.nd rfl (Or.inl rfl)) pgs_nil)))) (fun _ _ _ _ _ => pts_nil) (fun _ _ _ _ _ => by exact (pe_tup (pa_cons (pe_op op_add (pe_op op_mulW (pv 4) (pe_fld (pv 2) rfl)) (pv 6)) (pa_cons (pe_op op_cat (pv 5) (pv 7)) pa_nil))))) rfl))))), ?_⟩
    have wa := WiAt.hid hx ha
    have wb := WiAt.hid hx hb'
    obtain ⟨K0, hK0⟩ : ∃ K0, K0 = Law.hide x H := ⟨_, rfl⟩
    rw [← hK0] at wa wb
    have s0 : Same K0 H := by rw [hK0]; exact hide_le
    have nx0 : K0 x = none := by rw [hK0]; exact if_pos rfl
    have skip : ∀ {H' : Hp} {o : HO}, Same K0 H' → Same K0 (upd H' x o) := fun {H' o} s b o' e => by
      rw [upd_ne (fun z => by rw [z, nx0] at e; cases e)]
      exact s _ _ e
    have back : ∀ {H' : Hp}, Same K0 H' → ∀ b o, b ≠ x → H b = some o → H' b = some o := fun {H'} s b o n e => s b o (by rw [hK0, hide_ne n]; exact e)
    obtain ⟨dxa, fsa, ga, sza, ma, _⟩ := id wa
    obtain ⟨dxb, fsb, gb, szb, mb, _⟩ := id wb
    have cm : ∀ {i j : Int}, i.natAbs < 2 ^ 200 → j.natAbs < 2 ^ 200 → CMulW i j := fun h1 h2 => wide_mul h1 h2 (by decide) (by decide) (by decide)
    refine ⟨x, dx, [], rfl, hx, _, rfl, a, va.cls C, dxa, fsa, _, rfl, s0 _ _ ga, X.cl va, X.na va _ (by decide), sza, _, rfl, b, vb.cls C, dxb, fsb, _, rfl, s0 _ _ gb, X.cl vb, X.na vb _ (by decide), szb, _, _, rfl, rfl, cm ba.sz bb.sz, x, bothW va vb, dx, [], _, rfl, hx, by show 0 < 1000; decide, ?_⟩
    have e1 : upd H x (.ins C.O dx (putF "size" (.int (va.size * vb.size)) [])) x = some (.ins C.O dx [("size", .int (va.size * vb.size))]) := upd_same
    have s1 : Same K0 (upd H x (.ins C.O dx (putF "size" (.int (va.size * vb.size)) []))) := skip s0
    show tSeq _ _ _ _ (upd H x (.ins C.O dx (putF "size" (.int (va.size * vb.size)) [])))
    generalize upd H x (.ins C.O dx (putF "size" (.int (va.size * vb.size)) [])) = H1 at s1 e1 ⊢
    obtain ⟨gpa, mpa, Fpa⟩ := M.pla va
    obtain ⟨gpb, mpb, Fpb⟩ := M.pla vb
    obtain ⟨gca, mca, Fca⟩ := M.cas va
    obtain ⟨gcb, mcb, Fcb⟩ := M.cas vb
    refine ⟨_, rfl, a, va.cls C, dxa, fsa, gpa, _, rfl, s1 _ _ ga, ma _ (by decide), X.cl va, mpa, Fpa, a, va, rfl, wa.same s1, rfl, ba.pl, fun pa H2 na2 s2 ea => ?_⟩
    have s02 := same_tr s1 s2
    refine ⟨_, rfl, b, vb.cls C, dxb, fsb, gpb, _, rfl, s02 _ _ gb, mb _ (by decide), X.cl vb, mpb, Fpb, b, vb, rfl, wb.same s02, rfl, bb.pl, fun pb H3 nb3 s3 eb => ?_⟩
    have s03 := same_tr s02 s3
    refine ⟨pa, pb, _, _, rfl, rfl, s3 _ _ ea, eb, by rw [List.length_map, List.length_map, sizeLine_eq]; omega, fun L hL => ?_⟩
    have s4 := same_new (o := .lst (va.places.map V.int ++ vb.places.map V.int)) hL
    have eL : upd H3 L (.lst (va.places.map V.int ++ vb.places.map V.int)) L = some (.lst ((va.places ++ vb.places).map V.int)) := by rw [upd_same, List.map_append]
    have s14 := same_tr s2 (same_tr s3 s4)
    have s04 := same_tr s1 s14
    have e4 := s14 _ _ e1
    have nL : L ≠ x := fun z => by rw [z, (same_tr s2 s3) _ _ e1] at hL; cases hL
    generalize upd H3 L (.lst (va.places.map V.int ++ vb.places.map V.int)) = H4 at eL s04 e4 ⊢
    refine ⟨_, rfl, x, C.O, dx, _, rfl, e4, X.cl (bothW va vb), X.na (bothW va vb) _ (by decide), by show 1 < 1000; decide, ?_⟩
    have s5 : Same K0 (upd H4 x (.ins C.O dx (putF "_places" (.ref L) [("size", .int (va.size * vb.size))]))) := skip s04
    have e5 : upd H4 x (.ins C.O dx (putF "_places" (.ref L) [("size", .int (va.size * vb.size))])) x = some (.ins C.O dx [("size", .int (va.size * vb.size)), ("_places", .ref L)]) := upd_same
    have eL5 : upd H4 x (.ins C.O dx (putF "_places" (.ref L) [("size", .int (va.size * vb.size))])) L = some (.lst ((va.places ++ vb.places).map V.int)) := by rw [upd_ne nL]; exact eL
    generalize upd H4 x (.ins C.O dx (putF "_places" (.ref L) [("size", .int (va.size * vb.size))])) = H5 at s5 e5 eL5 ⊢
    refine ⟨fun σ' H' => ∃ pm : Addr, σ' = [some (.ref x), some (.ref a), some (.ref b), some (.ref pm), none, none, none, none] ∧ Same H5 H' ∧ CssAt CT H' pm vb.cases, ?_, ?_⟩
    · exact ⟨_, rfl, b, vb.cls C, dxb, fsb, gcb, _, rfl, s5 _ _ gb, mb _ (by decide), X.cl vb, mcb, Fcb, b, vb, rfl, wb.same s5, rfl, bb.ln, bb.tl, fun pm H6 s6 cn => ⟨pm, rfl, s6, cn.at⟩⟩
    rintro σ' H6 ⟨pm, rfl, s6, cm6⟩
    have s06 := same_tr s5 s6
    refine ⟨_, rfl, a, va.cls C, dxa, fsa, gca, _, rfl, s06 _ _ ga, ma _ (by decide), X.cl va, mca, Fca, a, va, rfl, wa.same s06, rfl, ba.ln, ba.tl, fun pc H7 s7 cn7 => ?_⟩
    obtain ⟨_, tc, c1, c2, c3⟩ := cn7
    have s07 := same_tr s06 s7
    have s57 := same_tr s6 s7
    obtain ⟨tm, m1, m2, m3⟩ := cm6.same s7
    refine ⟨pc, rfl, ⟨_, SqL.of c1⟩, fun D hD => ?_⟩
    refine lcO (walk_list (xs := tc.map V.ref)) (fun i H' => Refs D H7 (PiC CT (fun _ => none) (prodC vb.size va.cases vb.cases)) (i * vb.cases.length) H') (by rw [Nat.zero_mul]; exact Refs.start hD) (fun i H' _ h => by obtain ⟨_, _, _, _, s, _⟩ := h; exact SqL.of (s _ _ c1)) ?_ ?_
    · rintro i y H8 H9 hi R ⟨rfl, hy⟩
      rw [List.length_map] at hi
      rw [List.getElem?_map, List.getElem?_eq_getElem hi] at hy
      cases hy
      obtain ⟨ca, hca⟩ : ∃ c, va.cases[i]? = some c := ⟨_, List.getElem?_eq_getElem (by omega)⟩
      obtain ⟨la, _, ta, tra⟩ := c3 i _ ca (List.getElem?_eq_getElem hi) hca
      have s8 : Same H7 H9 := by obtain ⟨_, _, _, _, s, _⟩ := R; exact s
      refine ⟨_, _, rfl, SqT.of (s8 _ _ ta), rfl, _, _, rfl, _, _, rfl, rfl, rfl, _, rfl, pm, rfl, ⟨_, SqL.of (s8 _ _ m1)⟩, ?_⟩
      refine lcI (walk_list (xs := tm.map V.ref)) (fun m H' => Refs D H7 (PiC CT (fun _ => none) (prodC vb.size va.cases vb.cases)) (i * vb.cases.length + m) H') (by rw [Nat.add_zero]; exact R) (fun i H' _ h => by obtain ⟨_, _, _, _, s, _⟩ := h; exact SqL.of (s _ _ m1)) ?_ ?_
      · rintro m y H10 H11 hm R2 ⟨rfl, hy⟩
        rw [List.length_map] at hm
        rw [List.getElem?_map, List.getElem?_eq_getElem hm] at hy
        cases hy
        obtain ⟨cb, hcb⟩ : ∃ c, vb.cases[m]? = some c := ⟨_, List.getElem?_eq_getElem (by omega)⟩
        obtain ⟨lb, tb, trb⟩ := m3 m _ cb (List.getElem?_eq_getElem hm) hcb
        have s10 : Same H7 H11 := by obtain ⟨_, _, _, _, s, _⟩ := R2; exact s
        obtain ⟨tsa, a1, a2, a3⟩ := tra.same s10
        obtain ⟨tsb, b1, b2, b3⟩ := trb.same s10
        have la5 := ba.tl ca (List.mem_of_getElem? hca)
        have lb5 := bb.tl cb (List.mem_of_getElem? hcb)
        have hidx : i * vb.cases.length + m < 500 := by
          have h1 : (i + 1) * vb.cases.length ≤ va.cases.length * vb.cases.length := Nat.mul_le_mul_right _ (by omega)
          rw [Nat.succ_mul] at h1
          omega
        refine ⟨_, _, rfl, SqT.of (s10 _ _ tb), rfl, _, _, rfl, _, _, rfl, rfl, rfl, _, rfl, _, rfl, b, vb.cls C, dxb, fsb, _, rfl, (same_tr s07 s10) _ _ gb, X.cl vb, X.na vb _ (by decide), szb, _, _, rfl, rfl, cm (ba.an ca (List.mem_of_getElem? hca)) bb.sz, _, rfl, _, _, rfl, rfl, _, rfl, _, rfl, la, lb, _, _, rfl, rfl, a1, b1, by rw [List.length_map, List.length_map, sizeLine_eq]; omega, fun L2 hL2 => ⟨by show 2 ≤ sizeLine; decide, fun tt htt => ?_⟩⟩
        have s11 := same_new (o := .lst (tsa.map V.ref ++ tsb.map V.ref)) hL2
        have e11 : upd H11 L2 (.lst (tsa.map V.ref ++ tsb.map V.ref)) L2 = some (.lst ((tsa ++ tsb).map V.ref)) := by rw [upd_same, List.map_append]
        obtain ⟨acc, eD⟩ := R2.lt
        have nL2 : L2 ≠ D := fun z => by rw [z, eD] at hL2; cases hL2
        have nt2 : tt ≠ D := fun z => by rw [z, s11 _ _ eD] at htt; cases htt
        generalize upd H11 L2 (.lst (tsa.map V.ref ++ tsb.map V.ref)) = H12 at s11 e11 htt ⊢
        have s12 := same_new (o := .tup [V.int (ca.1 * vb.size + cb.1), V.ref L2]) htt
        have e12 : upd H12 tt (.tup [V.int (ca.1 * vb.size + cb.1), V.ref L2]) tt = some (.tup [V.int (ca.1 * vb.size + cb.1), V.ref L2]) := upd_same
        have s13 := same_tr s11 s12
        generalize upd H12 tt (.tup [V.int (ca.1 * vb.size + cb.1), V.ref L2]) = H13 at s12 e12 s13 ⊢
        refine R2.push PiC.st s13 (fun c ec => ?_) (by omega)
        rw [prodC_get hcb hca] at ec
        cases ec
        refine ⟨L2, rfl, by rw [hide_ne nt2]; exact e12, ?_⟩
        refine TrisAt.hide ⟨tsa ++ tsb, s12 _ _ e11, by rw [List.length_append, List.length_append, a2, b2], fun j z r e1 e2 => ?_⟩ nL2 ⟨_, s13 _ _ eD⟩
        by_cases cj : j < tsa.length
        · rw [List.getElem?_append_left cj] at e1
          rw [List.getElem?_append_left (by omega)] at e2
          exact (a3 j z r e1 e2).same s13
        · rw [List.getElem?_append_right (by omega)] at e1
          rw [List.getElem?_append_right (by omega), ← a2] at e2
          exact (b3 _ z r e1 e2).same s13
      · intro H10 R2
        rw [List.length_map, m2] at R2
        rw [Nat.succ_mul]
        exact R2
    rintro H8 R
    rw [List.length_map, c2, ← prodC_len vb.size] at R
    obtain ⟨us, u1, u2, u3, s8, nD⟩ := R.fin PiC.st
    have s08 := same_tr s07 s8
    have s58 := same_tr s57 s8
    refine ⟨_, rfl, x, C.O, dx, _, rfl, s58 _ _ e5, X.cl (bothW va vb), X.na (bothW va vb) _ (by decide), by show 2 < 1000; decide, ?_⟩
    have nD : D ≠ x := fun z => by rw [z, s57 _ _ e5] at hD; cases hD
    have sx : ∀ {b : Addr} {o : HO}, b ≠ x → H8 b = some o → upd H8 x (.ins C.O dx (putF "_cases" (.ref D) [("size", .int (va.size * vb.size)), ("_places", .ref L)])) b = some o := fun {b o} n e => by rw [upd_ne n]; exact e
    refine k _ (back (skip s08)) ⟨dx, _, upd_same, rfl, fun m hm => ?_, ⟨L, rfl, sx nL (s58 _ _ eL5)⟩, D, rfl, us, sx nD u1, u2, fun i z c e1 e2 => ?_⟩
    · simp only [wMth, List.mem_cons, List.not_mem_nil, or_false] at hm
      rcases hm with rfl | rfl | rfl | rfl | rfl | rfl <;> rfl
    · obtain ⟨l, _, q1, ts, q2, q3, q4⟩ := u3 i z e1 c e2
      have ex := s58 _ _ e5
      refine ⟨l, sx (fun z => by rw [z, ex] at q1; cases q1) q1, ts, sx (fun z => by rw [z, ex] at q2; cases q2) q2, q3, fun j y r h1 h2 => ?_⟩
      have tr := q4 j y r h1 h2
      obtain ⟨dy, fy, g, l1, l2⟩ := tr
      refine ⟨dy, fy, sx (fun z => ?_) g, l1, l2⟩
      rw [z, ex] at g
      cases g
      cases l1
theorem call_listK (K : PySem.W.Frag) {X : Cx} (h : X.K = K) : CallR X (.type "list") (fun xs H Q => ∃ p ys, xs = [.ref p] ∧ (SqL K H p ys ∨ SqT K H p ys) ∧ ∀ l, H l = none → Q (.ref l) (upd H l (.lst ys))) := h ▸ call_list_of
theorem scOcas : FnScope ["self", "answer", "trials"] ["self"] (defScope sOcas) := ⟨rfl, rfl, rfl, by decide +kernel, rfl, by decide +kernel, by decide +kernel⟩
theorem scOpla : FnScope ["self"] ["self"] (defScope sOpla) := ⟨rfl, rfl, rfl, by decide +kernel, rfl, by decide +kernel, by decide +kernel⟩
set_option maxHeartbeats 0 in
theorem ok_ocas {f : Addr} {fd : FuncData} (F : Fun K "cases" "Both.cases" sOcas f fd) (T : WiTxt K mg CT C) : FnOk P w K mg base CX0 1 f fd ["self"] (spCas K CT C 4) := by
  refine F.ok scOcas (fun vs H Q E h => ?_) (fun cdv A outer s H vs Q E hr h => ?_)
  · obtain ⟨x, v, rfl, _⟩ := h
    rfl
  · obtain ⟨x, v, rfl, hx, hD, l1, l2, k⟩ := h
    refine ⟨_, (pss_one (ps_ret (pe_lc (own := [("answer", 1), ("trials", 2)]) (g := gTup K 2 (gCons (gName 1) (gCons (gName 2) gNil))) (tt := tYes) (by rfl) scOcas.nd (pi_list (pe_fld (pv 0) rfl)) (blkOk_by (own := [("answer", 1), ("trials", 2)]) (N := ["self", "answer", "trials"]) (sc := defScope sOcas) (by decide +kernel)) (fun _ _ _ _ _ => by exact (pg_tup (n := 2) rfl (pgs_cons (pg_name (i := 1) scOcas.nd rfl (Or.inl rfl)) (pgs_cons (pg_name (i := 2) scOcas.nd rfl (Or.inl rfl)) pgs_nil)))) (fun _ _ _ _ _ => pts_nil) (fun _ _ _ _ _ => by exact (pe_tup (pa_cons (pv 1) (pa_cons (pe_callTy (call_listK K rfl) (by rfl) T.b_list (by decide +kernel) (pa_cons (pv 2) pa_nil)) pa_nil))))))), ?_⟩
    cases v with
    | none => cases hD
    | all _ => cases hD
    | some _ => cases hD
    | band _ _ => cases hD
    | both n pl cs =>
      have l1 : cs.length ≤ 500 := l1
      have l2 : ∀ c ∈ cs, c.2.length ≤ 500 := l2
      have k : ∀ (q : Addr) (H' : Hp), Same H H' → CssN CT H H' q cs → Q (.ref q) H' := k
      obtain ⟨dx, fs, hx0, hsz, hm, _, cc, hcc, tc, c1, c2, c3⟩ := id hx
      refine ⟨_, rfl, x, C.O, dx, fs, _, rfl, hx0, T.cl (.both n pl cs), T.na (.both n pl cs) _ (by decide), hcc, cc, rfl, ⟨_, SqL.of c1⟩, fun D hD0 => ?_⟩
      refine lc_it (walk_list (xs := tc.map V.ref)) (fun i H' => Refs D H (PiC CT H cs) i H') (Refs.start hD0) (fun i H' _ h => by obtain ⟨_, _, _, _, s, _⟩ := h; exact SqL.of (s _ _ c1)) ?_ ?_
      · rintro i y H1 H2 hi R ⟨rfl, hy⟩
        rw [List.length_map] at hi
        rw [List.getElem?_map, List.getElem?_eq_getElem hi] at hy
        cases hy
        obtain ⟨c, hc⟩ : ∃ c, cs[i]? = some c := ⟨_, List.getElem?_eq_getElem (by omega)⟩
        obtain ⟨l, tl, tr⟩ := c3 i _ c (List.getElem?_eq_getElem hi) hc
        have s1 : Same H H2 := by obtain ⟨_, _, _, _, s, _⟩ := R; exact s
        obtain ⟨ts, g1, g2, g3⟩ := tr.same s1
        refine ⟨_, _, rfl, SqT.of (s1 _ _ tl), rfl, _, _, rfl, _, _, rfl, rfl, rfl, _, rfl, _, rfl, l, _, rfl, .inl (SqL.of g1), fun L hL => ⟨by show 2 ≤ sizeLine; decide, fun tt htt => ?_⟩⟩
        have s2 := same_new (o := .lst (ts.map V.ref)) hL
        have e2 : upd H2 L (.lst (ts.map V.ref)) L = some (.lst (ts.map V.ref)) := upd_same
        obtain ⟨acc, eD⟩ := R.lt
        have nL : L ≠ D := fun z => by rw [z, eD] at hL; cases hL
        have nt : tt ≠ D := fun z => by rw [z, s2 _ _ eD] at htt; cases htt
        have fL := freshS s1 hL
        generalize upd H2 L (.lst (ts.map V.ref)) = H3 at s2 e2 htt ⊢
        have s3 := same_new (o := .tup [V.int c.1, V.ref L]) htt
        have e3 : upd H3 tt (.tup [V.int c.1, V.ref L]) tt = some (.tup [V.int c.1, V.ref L]) := upd_same
        have s23 := same_tr s2 s3
        generalize upd H3 tt (.tup [V.int c.1, V.ref L]) = H4 at s3 e3 s23 ⊢
        refine R.push PiC.st s23 (fun c' ec => ?_) (by omega)
        rw [hc] at ec
        cases ec
        exact ⟨L, fL, by rw [hide_ne nt]; exact e3, TrisAt.hide ⟨ts, s3 _ _ e2, g2, fun j z r h1 h2 => (g3 j z r h1 h2).same s23⟩ nL ⟨_, s23 _ _ eD⟩⟩
      rintro H1 R
      rw [List.length_map, c2] at R
      obtain ⟨us, u1, u2, u3, s1, nD⟩ := R.fin PiC.st
      exact k D H1 s1 ⟨nD, us, u1, u2, fun i t c e1 e2 => u3 i t e1 c e2⟩
theorem ok_opla {f : Addr} {fd : FuncData} (F : Fun K "places" "Both.places" sOpla f fd) (T : WiTxt K mg CT C) : FnOk P w K mg base CX0 1 f fd ["self"] (spPla K CT C 4) := by
  refine F.ok scOpla (fun vs H Q E h => ?_) (fun cdv A outer s H vs Q E hr h => ?_)
  · obtain ⟨x, v, rfl, _⟩ := h
    rfl
  · obtain ⟨x, v, rfl, hx, hD, l1, k⟩ := h
    refine ⟨_, (pss_one (ps_ret (pe_callTy call_list_of (by rfl) T.b_list (by decide +kernel) (pa_cons (pe_fld (pv 0) rfl) pa_nil)))), ?_⟩
    cases v with
    | none => cases hD
    | all _ => cases hD
    | some _ => cases hD
    | band _ _ => cases hD
    | both n pl cs =>
      obtain ⟨dx, fs, hx0, hsz, hm, ⟨p, hp, eP⟩, _⟩ := id hx
      exact ⟨_, rfl, x, C.O, dx, fs, _, rfl, hx0, T.cl (.both n pl cs), T.na (.both n pl cs) _ (by decide), hp, p, _, rfl, .inl (SqL.of eP), fun q hq => k q _ hq (same_new hq) upd_same⟩
end
end Law

/-! Wishes: their answers, and two joined. -/
namespace Law
open PySem PySem.Spec PyProof.Rows L2 Sup
def agB (xs : List Int) (r : TRow) : Bool := agr xs r.1 r.2.1 r.2.2 == some true
def ansC (xs : List Int) (cs : List Cse) : Option Int := (cs.find? fun c => c.2.all (agB xs)).map (·.1)
def oI : Option Int → V
  | none => .non
  | some a => .int a
/-- the trials of all cases stand at places of the list -/
def PlOk (n : Nat) (cs : List Cse) : Prop := ∀ c ∈ cs, ∀ r ∈ c.2, 0 ≤ r.1 ∧ r.1 < (n : Int)
def spAns (K : PySem.W.Frag) (CT : Addr) (C : WCls) : Sp := fun vs H Q _ => ∃ (x l : Addr) (v : Wi) (xs : List Int), vs = [.ref x, .ref l] ∧ WiAt K CT C H x v ∧ WiB v ∧ SqL K H l (xs.map V.int) ∧ xs.length ≤ 1000 ∧ PlOk xs.length v.cases ∧ ∀ H', Same H H' → Q (oI (ansC xs v.cases)) H'
def spAnd (K : PySem.W.Frag) (CT : Addr) (C : WCls) : Sp := fun vs H Q _ => ∃ (a b : Addr) (va vb : Wi), vs = [.ref a, .ref b] ∧ WiAt K CT C H a va ∧ WiAt K CT C H b vb ∧ WiB va ∧ WiB vb ∧ va.cases.length * vb.cases.length ≤ 500 ∧ va.places.length + vb.places.length ≤ 500 ∧
  ∀ x H', H x = none → Same H H' → WiAt K CT C H' x (bothW va vb) → Q (.ref x) H'
theorem agr_some {xs : List Int} {p h : Int} {r : Bool} (h0 : 0 ≤ p) (h1 : p < xs.length) : ∃ b, agr xs p h r = some b := by
  unfold agr
  rw [if_pos h0, List.getElem?_eq_getElem (show p.toNat < xs.length by omega)]
  exact ⟨_, rfl⟩
section
variable {P : Program} {w : World} {K : PySem.W.Frag} {mg : Str → Option Value} {base : Heap} {CT CP : Addr} {C : WCls}
theorem scWans : FnScope ["self", "heights", "answer", "trials", "trial"] ["self", "heights"] (defScope sWans) := ⟨rfl, rfl, rfl, by decide +kernel, rfl, by decide +kernel, by decide +kernel⟩
theorem scWand : FnScope ["self", "other"] ["self", "other"] (defScope sWand) := ⟨rfl, rfl, rfl, by decide +kernel, rfl, by decide +kernel, by decide +kernel⟩
set_option maxHeartbeats 0 in
theorem ok_wans {f fAg : Addr} {fd : FuncData} (F : Fun K "answer" "Wish.answer" sWans f fd) (T : WiTxt K mg CT C) (TT : TriTxt K mg CT) (M : WMeth P w K mg base CT C) (MAg : Meth K CT "agrees" fAg) (GAg : FnR P w K mg base (L2.CX P w) 4 fAg (spAgr K CP CT)) : FnOk P w K mg base CX0 5 f fd ["self", "heights"] (spAns K CT C) := by
  refine F.ok scWans (fun vs H Q E h => ?_) (fun cdv A outer s H vs Q E hr h => ?_)
  · obtain ⟨x, l, v, xs, rfl, _⟩ := h
    rfl
  · obtain ⟨x, l, v, xs, rfl, hx, B, hS, h1000, hpl, k⟩ := h
    have hr4 : Room 4 _ := hr
    refine ⟨_, (pss_one (ps_for PassesOwn.never rfl (pi_list (SubZ.pe_methP0 (k := 4) (CX := CX0) (E := fun _ => E0) (pv 0) hr4 (passS pass0))) (pg_tup (by rfl) (pgs_cons (pg_name (i := 2) scWans.nd rfl (Or.inl rfl)) (pgs_cons (pg_name (i := 3) scWans.nd rfl (Or.inl rfl)) pgs_nil))) (pss_one (ps_if (pt_val (pe_callB (cr_all (by rfl)) (by rfl) T.b_all (by decide +kernel) (pa_cons (pe_lc (own := [("trial", 4)]) (g := gName 4) (tt := tYes) (by rfl) scWans.nd (pi_list (pv 3)) (blkOk_by (own := [("trial", 4)]) (N := ["self", "heights", "answer", "trials", "trial"]) (sc := defScope sWans) (by decide +kernel)) (fun _ _ _ _ _ => (pg_name (i := 4) scWans.nd rfl (Or.inl rfl))) (fun _ _ _ _ _ => pts_nil) (fun _ _ _ _ _ => by exact (Own.pe_methW (E := fun _ => E0) (pv 4) TT.cl MAg GAg hr4 (passS passL) (pa_cons (pv 1) pa_nil)))) pa_nil))) (pss_one (ps_ret (pv 2))) pss_nil)))), ?_⟩
    obtain ⟨dx, fs, hx0, hsz, hm, _⟩ := id hx
    obtain ⟨gc, mc, Fc⟩ := M.cas v
    refine ⟨_, rfl, x, v.cls C, dx, fs, gc, _, rfl, hx0, hm _ (by decide), T.cl v, mc, Fc, x, v, rfl, hx, rfl, B.ln, B.tl, fun p H1 s1 cn => ?_⟩
    obtain ⟨_, tc, c1, c2, c3⟩ := cn
    refine ⟨p, rfl, ⟨_, SqL.of c1⟩, ?_⟩
    refine for_it (walk_list (xs := tc.map V.ref)) (fun i σ' H' => ∃ v2 v3 v4 : Option V, σ' = [some (.ref x), some (.ref l), v2, v3, v4] ∧ Same H1 H' ∧ (v.cases.take i).find? (fun c => c.2.all (agB xs)) = none) ⟨_, _, _, rfl, same_rfl, rfl⟩ (fun i σ' H' _ h => by obtain ⟨_, _, _, _, s, _⟩ := h; exact SqL.of (s _ _ c1)) ?_ ?_
    · rintro i y σ' H2 H3 hi ⟨v2, v3, v4, rfl, s2, g⟩ ⟨rfl, hy⟩
      rw [List.length_map] at hi
      rw [List.getElem?_map, List.getElem?_eq_getElem hi] at hy
      cases hy
      obtain ⟨c, hc⟩ : ∃ c, v.cases[i]? = some c := ⟨_, List.getElem?_eq_getElem (by omega)⟩
      obtain ⟨lt, _, tl, tr⟩ := c3 i _ c (List.getElem?_eq_getElem hi) hc
      have hcm := List.mem_of_getElem? hc
      refine ⟨_, _, rfl, SqT.of (s2 _ _ tl), rfl, _, _, rfl, _, _, rfl, rfl, ?_⟩
      obtain ⟨ts, g1, g2, g3⟩ := tr.same s2
      refine ⟨_, rfl, lt, rfl, ⟨_, SqL.of g1⟩, fun D hD => ?_⟩
      have l500 := B.tl c hcm
      refine lc_it (walk_list (xs := ts.map V.ref)) (fun i H' => H' D = some (.lst (((c.2.take i).map (agB xs)).map V.bl)) ∧ Same H3 H') ⟨by rw [List.take_zero]; exact upd_same, same_new hD⟩ (fun i H' _ h => SqL.of (h.2 _ _ g1)) ?_ ?_
      · rintro m y H4 H5 hm ⟨d5, s5⟩ ⟨rfl, hy⟩
        rw [List.length_map] at hm
        rw [List.getElem?_map, List.getElem?_eq_getElem hm] at hy
        cases hy
        obtain ⟨r, hr⟩ : ∃ r, c.2[m]? = some r := ⟨_, List.getElem?_eq_getElem (by omega)⟩
        have tri := (g3 m _ r (List.getElem?_eq_getElem hm) hr).same s5
        obtain ⟨dt, ft, q1, _, _, _, q5⟩ := id tri
        obtain ⟨p0, p1⟩ := hpl c hcm r (List.mem_of_getElem? hr)
        obtain ⟨b, hb⟩ := agr_some (h := r.2.1) (r := r.2.2) p0 p1
        have sS := sqL_same hS (same_tr s1 (same_tr s2 s5))
        refine ⟨rfl, _, rfl, _, dt, ft, rfl, q1, q5, _, rfl, _, l, _, _, _, xs, rfl, tri, sS, ?_, fun b' hb' => ?_, fun hn => ?_⟩
        · have : r.1.natAbs ≤ 1000 := by omega
          exact Nat.lt_of_le_of_lt this (by decide +kernel)
        · have eb : agB xs r = b' := by unfold agB; rw [hb']; cases b' <;> rfl
          refine ⟨_, d5, small1000 (by rw [List.length_map, List.length_map, List.length_take]; omega), ?_, fun z o e => ?_⟩
          · rw [upd_same, List.take_succ, hr, ← eb]
            simp only [Option.toList_some, List.map_append, List.map_cons, List.map_nil]
          · rw [upd_ne (ne_of_none e hD)]
            exact s5 _ _ e
        · rw [hb] at hn
          cases hn
      rintro H4 ⟨d4, s4⟩
      rw [List.length_map, g2, List.take_length] at d4
      have s24 := same_tr s2 s4
      have hall : ((c.2.map (agB xs)).all fun b => b) = c.2.all (agB xs) := by rw [List.all_map]; rfl
      refine ⟨D, c.2.map (agB xs), rfl, SqL.of d4, _, rfl, ?_⟩
      cases ca : c.2.all (agB xs) with
      | true =>
        refine if_t (by first | exact hall.trans ca | (simp only [List.all_map]; exact ca)) ⟨_, rfl, ?_⟩
        have z := k H4 (same_tr s1 s24)
        have ea : ansC xs v.cases = some c.1 := by
          have e : v.cases = v.cases.take i ++ c :: v.cases.drop (i + 1) := by
            obtain ⟨hi2, hx2⟩ := List.getElem?_eq_some_iff.mp hc
            rw [← hx2, List.getElem_cons_drop, List.take_append_drop]
          unfold ansC
          rw [e, List.find?_append, g]
          simp [ca]
        rw [ea] at z
        exact z
      | false =>
        refine if_f (by first | exact hall.trans ca | (simp only [List.all_map]; exact ca)) ⟨_, _, _, rfl, s24, ?_⟩
        rw [List.take_succ, hc, Option.toList_some, List.find?_append, g]
        simp [ca]
    · rintro σ' H2 ⟨v2, v3, v4, rfl, s2, g⟩
      rw [List.length_map, c2, List.take_length] at g
      have z := k H2 (same_tr s1 s2)
      have ea : ansC xs v.cases = none := by unfold ansC; rw [g]; rfl
      rw [ea] at z
      exact z
theorem ok_wand {f fOi : Addr} {fd : FuncData} (F : Fun K "__and__" "Wish.__and__" sWand f fd) (MKO : Mk K C.O fOi) (GOi : FnR P w K mg base CX0 5 fOi (spOini K CT C)) (hO : mg "Both" = some (.ref C.O)) : FnOk P w K mg base CX0 7 f fd ["self", "other"] (spAnd K CT C) := by
  refine F.ok scWand (fun vs H Q E h => ?_) (fun cdv A outer s H vs Q E hr h => ?_)
  · obtain ⟨a, b, va, vb, rfl, _⟩ := h
    rfl
  · obtain ⟨a, b, va, vb, rfl, ha, hb, ba, bb, hc, hp, k⟩ := h
    have hr6 : Room 6 _ := hr
    refine ⟨_, (pss_one (ps_ret (Own.pe_makeS (E := fun _ => E0) MKO GOi hr6 rfl hO (passS pass0) (pa_cons (pv 0) (pa_cons (pv 1) pa_nil))))), ?_⟩
    exact ⟨_, rfl, _, rfl, mk_oth ha hb ba bb hc hp fun x H2 nx s w => k x H2 nx s w⟩
end
end Law

/-! The law's words for wishes, as data. -/
namespace Law
open PySem PySem.Spec PyProof.Rows L2 Sup
inductive Spc where
  | none
  | all (ps : List (Int × Int))
  | some (ps : List (Int × Int))
  | band (p : Int) (cs : List Int)
  | both (a b : Spc)
def Spc.wi : Spc → Wi
  | .none => .none
  | .all ps => .all ps
  | .some ps => .some ps
  | .band p cs => .band p cs
  | .both a b => bothW a.wi b.wi
def Spc.dep : Spc → Nat
  | .both a b => max a.dep b.dep + 1
  | _ => 0
def hAt (xs : List Int) (p : Int) : Int := xs.getD p.toNat 0
def leB (xs : List Int) (q : Int × Int) : Bool := decide (hAt xs q.1 ≤ q.2)
def Spc.ans (xs : List Int) : Spc → Int
  | .none => 0
  | .all ps => if (ps.filter (leB xs)).length = ps.length then 1 else 0
  | .some ps => if 0 < (ps.filter (leB xs)).length then 1 else 0
  | .band p cs => ((cs.filter fun c => decide (c < hAt xs p)).length : Nat)
  | .both a b => a.ans xs * b.wi.size + b.ans xs
def SpcAt (K : PySem.W.Frag) (H : Hp) : Addr → Spc → Prop
  | t, .none => SqT K H t [.str "none"]
  | t, .all ps => ∃ p, SqT K H t [.str "all", .ref p] ∧ PrsAt K H p ps
  | t, .some ps => ∃ p, SqT K H t [.str "some", .ref p] ∧ PrsAt K H p ps
  | t, .band p cs => ∃ c, SqT K H t [.str "band", .int p, .ref c] ∧ H c = some (.lst (cs.map V.int))
  | t, .both a b => ∃ ta tb, SqT K H t [.str "both", .ref ta, .ref tb] ∧ SpcAt K H ta a ∧ SpcAt K H tb b
theorem SpcAt.same {K : PySem.W.Frag} {H H' : Hp} (s : Same H H') : ∀ {v : Spc} {t : Addr}, SpcAt K H t v → SpcAt K H' t v
  | .none, _, h => sqT_same h s
  | .all _, _, h => by obtain ⟨p, a, b⟩ := h; exact ⟨p, sqT_same a s, b.same s⟩
  | .some _, _, h => by obtain ⟨p, a, b⟩ := h; exact ⟨p, sqT_same a s, b.same s⟩
  | .band _ _, _, h => by obtain ⟨p, a, b⟩ := h; exact ⟨p, sqT_same a s, s _ _ b⟩
  | .both a b, _, h => by obtain ⟨ta, tb, c, d, e⟩ := h; exact ⟨ta, tb, sqT_same c s, SpcAt.same s d, SpcAt.same s e⟩
def PrOk (n : Nat) (q : Int × Int) : Prop := 0 ≤ q.1 ∧ q.1 < (n : Int) ∧ Sz q.2
def SpcOk (n m : Nat) : Spc → Prop
  | .none => True
  | .all ps => ps.length ≤ m ∧ ∀ q ∈ ps, PrOk n q
  | .some ps => ps.length ≤ m ∧ ∀ q ∈ ps, PrOk n q
  | .band p cs => cs.length ≤ m ∧ 0 ≤ p ∧ p < (n : Int) ∧ (∀ c ∈ cs, Sz c) ∧ badC cs = Option.none
  | .both a b => SpcOk n m a ∧ SpcOk n m b
structure WiN (N : Nat) (v : Wi) : Prop where
  s1 : 1 ≤ v.size
  sN : v.size ≤ (N : Int)
  an : ∀ c ∈ v.cases, 0 ≤ c.1 ∧ c.1 < v.size
  ln : v.cases.length ≤ N
  tl : ∀ c ∈ v.cases, c.2.length ≤ N
  pl : v.places.length ≤ N
theorem WiN.mono {N M : Nat} {v : Wi} (h : WiN N v) (hm : N ≤ M) : WiN M v := ⟨h.s1, by have := h.sN; omega, h.an, by have := h.ln; omega, fun c hc => by have := h.tl c hc; omega, by have := h.pl; omega⟩
theorem WiN.b {N : Nat} {v : Wi} (h : WiN N v) (hN : N ≤ 500) : WiB v := by
  have h1 := h.s1
  have h2 := h.sN
  refine ⟨Nat.lt_of_le_of_lt (show v.size.natAbs ≤ 500 by omega) (by decide +kernel), fun c hc => ?_, by have := h.ln; omega, fun c hc => by have := h.tl c hc; omega, by have := h.pl; omega⟩
  have := h.an c hc
  exact Nat.lt_of_le_of_lt (show c.1.natAbs ≤ 500 by omega) (by decide +kernel)
theorem mem_bandC {p : Int} : ∀ {cs : List Int} {k : Nat} {o : List TRow} {c : Cse}, c ∈ bandC p k o cs → (∀ r ∈ o, r.1 = p) → o.length ≤ 1 → (k : Int) ≤ c.1 ∧ c.1 ≤ ((k + cs.length : Nat) : Int) ∧ c.2.length ≤ 2 ∧ ∀ r ∈ c.2, r.1 = p
  | [], k, o, c, h, ho, l1 => by
    have : c = ((k : Int), o) := by simpa [bandC] using h
    subst this
    exact ⟨Int.le_refl _, by simp, by show o.length ≤ 2; omega, ho⟩
  | x :: cs, k, o, c, h, ho, l1 => by
    unfold bandC at h
    rcases List.mem_cons.mp h with rfl | h
    · refine ⟨Int.le_refl _, by show (k : Int) ≤ _; rw [List.length_cons]; omega, by rw [List.length_append]; show o.length + 1 ≤ 2; omega, fun r hr => ?_⟩
      rcases List.mem_append.mp hr with hr | hr
      · exact ho r hr
      · rw [List.mem_singleton.mp hr]
    · obtain ⟨a, b, c2, d⟩ := mem_bandC h (fun r hr => by rw [List.mem_singleton.mp hr]) (by simp)
      refine ⟨by omega, ?_, c2, d⟩
      rw [List.length_cons]
      omega
theorem wiN_both {Na Nb : Nat} {a b : Wi} (ha : WiN Na a) (hb : WiN Nb b) (h1 : 2 ≤ Na) (h2 : 2 ≤ Nb) : WiN (Na * Nb) (bothW a b) := by
  have hsum : Na + Nb ≤ Na * Nb := by
    obtain ⟨x, rfl⟩ : ∃ x, Na = x + 2 := ⟨Na - 2, by omega⟩
    obtain ⟨y, rfl⟩ : ∃ y, Nb = y + 2 := ⟨Nb - 2, by omega⟩
    have e : (x + 2) * (y + 2) = x * y + 2 * x + 2 * y + 4 := by rw [Nat.add_mul, Nat.mul_add]; omega
    have : 0 ≤ x * y := Nat.zero_le _
    omega
  have hs1 := ha.s1
  have hs2 := hb.s1
  have hm : ∀ c ∈ (bothW a b).cases, ∃ c1 ∈ a.cases, ∃ c2 ∈ b.cases, c = (c1.1 * b.size + c2.1, c1.2 ++ c2.2) := fun c hc => by
    have hc : c ∈ prodC b.size a.cases b.cases := hc
    unfold prodC at hc
    obtain ⟨c1, h1, hc⟩ := List.mem_flatMap.mp hc
    obtain ⟨c2, h2, rfl⟩ := List.mem_map.mp hc
    exact ⟨c1, h1, c2, h2, rfl⟩
  refine ⟨?_, ?_, fun c hc => ?_, ?_, fun c hc => ?_, ?_⟩
  · show 1 ≤ a.size * b.size
    have := Int.mul_le_mul hs1 hs2 (by decide) (by omega)
    omega
  · show a.size * b.size ≤ ((Na * Nb : Nat) : Int)
    have := Int.mul_le_mul ha.sN hb.sN (by omega) (by omega)
    simpa using this
  · obtain ⟨c1, h1, c2, h2, rfl⟩ := hm c hc
    obtain ⟨p1, p2⟩ := ha.an c1 h1
    obtain ⟨q1, q2⟩ := hb.an c2 h2
    show 0 ≤ c1.1 * b.size + c2.1 ∧ c1.1 * b.size + c2.1 < a.size * b.size
    have e1 : 0 ≤ c1.1 * b.size := Int.mul_nonneg p1 (by omega)
    have e2 : (c1.1 + 1) * b.size ≤ a.size * b.size := Int.mul_le_mul_of_nonneg_right (by omega) (by omega)
    rw [Int.add_mul, Int.one_mul] at e2
    omega
  · show (prodC b.size a.cases b.cases).length ≤ Na * Nb
    rw [prodC_len]
    exact Nat.mul_le_mul ha.ln hb.ln
  · obtain ⟨c1, h1, c2, h2, rfl⟩ := hm c hc
    have := ha.tl c1 h1
    have := hb.tl c2 h2
    show (c1.2 ++ c2.2).length ≤ _
    rw [List.length_append]
    omega
  · show (a.places ++ b.places).length ≤ _
    have := ha.pl
    have := hb.pl
    rw [List.length_append]
    omega
theorem wiN_leaf {n m : Nat} (h1 : 1 ≤ m) : ∀ {s : Spc}, SpcOk n m s → s.dep = 0 → WiN (m + 1) s.wi
  | .none, _, _ => ⟨by show (1 : Int) ≤ 1; decide, by show (1 : Int) ≤ ((m + 1 : Nat) : Int); omega, fun c hc => by
      have : c = (0, []) := by simpa [Spc.wi, Wi.cases] using hc
      subst this
      exact ⟨by decide, by decide⟩, by show 1 ≤ m + 1; omega, fun c hc => by
      have : c = (0, []) := by simpa [Spc.wi, Wi.cases] using hc
      subst this
      exact Nat.zero_le _, Nat.zero_le _⟩
  | .all ps, ⟨hl, _⟩, _ => by
    refine ⟨by show (1 : Int) ≤ 2; decide, by show (2 : Int) ≤ ((m + 1 : Nat) : Int); omega, fun c hc => ?_, ?_, fun c hc => ?_, ?_⟩
    · rcases List.mem_cons.mp (show c ∈ (1, ps.map (rowOf true)) :: ps.map fun q => ((0 : Int), [rowOf false q]) from hc) with rfl | hc
      · exact ⟨by show (0 : Int) ≤ 1; decide, by show (1 : Int) < 2; decide⟩
      · obtain ⟨q, _, rfl⟩ := List.mem_map.mp hc
        exact ⟨by show (0 : Int) ≤ 0; decide, by show (0 : Int) < 2; decide⟩
    · show ((1, ps.map (rowOf true)) :: ps.map fun q => ((0 : Int), [rowOf false q])).length ≤ m + 1
      rw [List.length_cons, List.length_map]
      omega
    · rcases List.mem_cons.mp (show c ∈ (1, ps.map (rowOf true)) :: ps.map fun q => ((0 : Int), [rowOf false q]) from hc) with rfl | hc
      · show (ps.map (rowOf true)).length ≤ m + 1
        rw [List.length_map]
        omega
      · obtain ⟨q, _, rfl⟩ := List.mem_map.mp hc
        show 1 ≤ m + 1
        omega
    · show (ps.map (·.1)).length ≤ m + 1
      rw [List.length_map]
      omega
  | .some ps, ⟨hl, _⟩, _ => by
    refine ⟨by show (1 : Int) ≤ 2; decide, by show (2 : Int) ≤ ((m + 1 : Nat) : Int); omega, fun c hc => ?_, ?_, fun c hc => ?_, ?_⟩
    · rcases List.mem_append.mp (show c ∈ (ps.map fun q => ((1 : Int), [rowOf true q])) ++ [(0, ps.map (rowOf false))] from hc) with hc | hc
      · obtain ⟨q, _, rfl⟩ := List.mem_map.mp hc
        exact ⟨by show (0 : Int) ≤ 1; decide, by show (1 : Int) < 2; decide⟩
      · rw [List.mem_singleton.mp hc]
        exact ⟨by show (0 : Int) ≤ 0; decide, by show (0 : Int) < 2; decide⟩
    · show ((ps.map fun q => ((1 : Int), [rowOf true q])) ++ [(0, ps.map (rowOf false))]).length ≤ m + 1
      rw [List.length_append, List.length_map]
      show ps.length + 1 ≤ m + 1
      omega
    · rcases List.mem_append.mp (show c ∈ (ps.map fun q => ((1 : Int), [rowOf true q])) ++ [(0, ps.map (rowOf false))] from hc) with hc | hc
      · obtain ⟨q, _, rfl⟩ := List.mem_map.mp hc
        show 1 ≤ m + 1
        omega
      · rw [List.mem_singleton.mp hc]
        show (ps.map (rowOf false)).length ≤ m + 1
        rw [List.length_map]
        omega
    · show (ps.map (·.1)).length ≤ m + 1
      rw [List.length_map]
      omega
  | .band p cs, ⟨hl, _⟩, _ => by
    refine ⟨by show (1 : Int) ≤ (cs.length : Int) + 1; omega, by show (cs.length : Int) + 1 ≤ ((m + 1 : Nat) : Int); omega, fun c hc => ?_, ?_, fun c hc => ?_, by show 1 ≤ m + 1; omega⟩
    · obtain ⟨a, b, _, _⟩ := mem_bandC (show c ∈ bandC p 0 [] cs from hc) (fun r hr => nomatch hr) (by simp)
      show 0 ≤ c.1 ∧ c.1 < (cs.length : Int) + 1
      omega
    · show (bandC p 0 [] cs).length ≤ m + 1
      rw [bandC_len]
      omega
    · obtain ⟨_, _, b, _⟩ := mem_bandC (show c ∈ bandC p 0 [] cs from hc) (fun r hr => nomatch hr) (by simp)
      omega
  | .both a b, _, h => by cases h
theorem pl_ok {n m : Nat} : ∀ {s : Spc}, SpcOk n m s → PlOk n s.wi.cases
  | .none, _ => fun c hc r hr => by
    have : c = (0, []) := by simpa [Spc.wi, Wi.cases] using hc
    subst this
    cases hr
  | .all ps, ⟨_, h⟩ => fun c hc r hr => by
    rcases List.mem_cons.mp (show c ∈ (1, ps.map (rowOf true)) :: ps.map fun q => ((0 : Int), [rowOf false q]) from hc) with rfl | hc
    · obtain ⟨q, hq, rfl⟩ := List.mem_map.mp hr
      exact ⟨(h q hq).1, (h q hq).2.1⟩
    · obtain ⟨q, hq, rfl⟩ := List.mem_map.mp hc
      rw [List.mem_singleton.mp hr]
      exact ⟨(h q hq).1, (h q hq).2.1⟩
  | .some ps, ⟨_, h⟩ => fun c hc r hr => by
    rcases List.mem_append.mp (show c ∈ (ps.map fun q => ((1 : Int), [rowOf true q])) ++ [(0, ps.map (rowOf false))] from hc) with hc | hc
    · obtain ⟨q, hq, rfl⟩ := List.mem_map.mp hc
      rw [List.mem_singleton.mp hr]
      exact ⟨(h q hq).1, (h q hq).2.1⟩
    · rw [List.mem_singleton.mp hc] at hr
      obtain ⟨q, hq, rfl⟩ := List.mem_map.mp hr
      exact ⟨(h q hq).1, (h q hq).2.1⟩
  | .band p cs, ⟨_, h0, h1, _⟩ => fun c hc r hr => by
    obtain ⟨_, _, _, d⟩ := mem_bandC (show c ∈ bandC p 0 [] cs from hc) (fun r hr => nomatch hr) (by simp)
    rw [d r hr]
    exact ⟨h0, h1⟩
  | .both a b, ⟨ha, hb⟩ => fun c hc r hr => by
    have hc : c ∈ prodC b.wi.size a.wi.cases b.wi.cases := hc
    unfold prodC at hc
    obtain ⟨c1, h1, hc⟩ := List.mem_flatMap.mp hc
    obtain ⟨c2, h2, rfl⟩ := List.mem_map.mp hc
    rcases List.mem_append.mp hr with hr | hr
    · exact pl_ok ha c1 h1 r hr
    · exact pl_ok hb c2 h2 r hr
theorem agB_eq {xs : List Int} {p h : Int} {r : Bool} (h0 : 0 ≤ p) (h1 : p < xs.length) : agB xs (p, h, r) = if r then decide (hAt xs p ≤ h) else decide (h < hAt xs p) := by
  unfold agB agr hAt
  rw [if_pos h0, List.getElem?_eq_getElem (show p.toNat < xs.length by omega), List.getD_eq_getElem?_getD, List.getElem?_eq_getElem (show p.toNat < xs.length by omega)]
  cases r <;> simp
theorem ans_prod {xs : List Int} {n : Int} {b : List Cse} {y : Int} (hb : ansC xs b = some y) : ∀ {a : List Cse}, ansC xs (prodC n a b) = (ansC xs a).map fun x => x * n + y
  | [] => rfl
  | c :: a => by
    have ih := ans_prod (n := n) hb (a := a)
    have e : prodC n (c :: a) b = (b.map fun d => (c.1 * n + d.1, c.2 ++ d.2)) ++ prodC n a b := by unfold prodC; rw [List.flatMap_cons]
    rw [e]
    unfold ansC at ih hb ⊢
    rw [List.find?_append, List.find?_map]
    cases ca : c.2.all (agB xs) with
    | true =>
      have ef : ((fun c : Cse => c.2.all (agB xs)) ∘ fun d : Cse => (c.1 * n + d.1, c.2 ++ d.2)) = fun d : Cse => d.2.all (agB xs) := by
        funext d
        show (c.2 ++ d.2).all (agB xs) = d.2.all (agB xs)
        rw [List.all_append, ca, Bool.true_and]
      rw [ef]
      cases f : b.find? fun d => d.2.all (agB xs) with
      | none => rw [f] at hb; cases hb
      | some d =>
        rw [f] at hb
        cases hb
        rw [List.find?_cons, ca]
        rfl
    | false =>
      have ef : ((fun c : Cse => c.2.all (agB xs)) ∘ fun d : Cse => (c.1 * n + d.1, c.2 ++ d.2)) = fun _ : Cse => false := by
        funext d
        show (c.2 ++ d.2).all (agB xs) = false
        rw [List.all_append, ca, Bool.false_and]
      rw [ef, List.find?_cons, ca]
      have : b.find? (fun _ : Cse => false) = none := by simp
      rw [this]
      exact ih
end Law

/-! The answers are what the law says. -/
namespace Law
open PySem PySem.Spec PyProof.Rows L2 Sup
theorem agB_row {n : Nat} {xs : List Int} {q : Int × Int} (h : PrOk n q) (hl : xs.length = n) (r : Bool) : agB xs (rowOf r q) = if r then leB xs q else !leB xs q := by
  rw [show rowOf r q = (q.1, q.2, r) from rfl, agB_eq h.1 (by rw [hl]; exact h.2.1)]
  cases r
  · show decide (q.2 < hAt xs q.1) = !decide (hAt xs q.1 ≤ q.2)
    by_cases e : hAt xs q.1 ≤ q.2
    · rw [decide_eq_true e, decide_eq_false (by omega)]; rfl
    · rw [decide_eq_false e, decide_eq_true (by omega)]; rfl
  · rfl
theorem all_row {n : Nat} {xs : List Int} (hl : xs.length = n) (r : Bool) : ∀ {ps : List (Int × Int)}, (∀ q ∈ ps, PrOk n q) → (ps.map (rowOf r)).all (agB xs) = ps.all (fun q => if r then leB xs q else !leB xs q)
  | [], _ => rfl
  | q :: ps, h => by
    rw [List.map_cons, List.all_cons, List.all_cons, agB_row (h q (List.mem_cons_self ..)) hl, all_row hl r fun a ha => h a (List.mem_cons_of_mem _ ha)]
theorem fil_all (f : Int × Int → Bool) : ∀ ps : List (Int × Int), ((ps.filter f).length = ps.length) ↔ ps.all f = true
  | [] => by simp
  | q :: ps => by
    have ih := fil_all f ps
    have l1 := List.length_filter_le f ps
    rw [List.filter_cons, List.all_cons]
    cases e : f q
    · simp only [Bool.false_and, if_neg Bool.false_ne_true]
      constructor
      · intro h; rw [List.length_cons] at h; omega
      · intro h; cases h
    · simp only [Bool.true_and, if_true]
      rw [List.length_cons, List.length_cons]
      exact ⟨fun h => ih.mp (by omega), fun h => by rw [ih.mpr h]⟩
theorem fil_any (f : Int × Int → Bool) : ∀ ps : List (Int × Int), (0 < (ps.filter f).length) ↔ ps.any f = true
  | [] => by simp
  | q :: ps => by
    have ih := fil_any f ps
    rw [List.filter_cons, List.any_cons]
    cases e : f q
    · simp only [Bool.false_or, if_neg Bool.false_ne_true]; exact ih
    · simp
theorem badC_cons {x y : Int} {cs : List Int} (h : badC (x :: y :: cs) = none) : x < y ∧ badC (y :: cs) = none := by
  unfold badC at h ⊢
  have e : (x :: y :: cs).zip ((x :: y :: cs).drop 1) = (x, y) :: (y :: cs).zip ((y :: cs).drop 1) := rfl
  rw [e, List.find?_cons] at h
  by_cases c : y ≤ x
  · rw [show decide ((x, y).2 ≤ (x, y).1) = true from decide_eq_true c] at h
    cases h
  · rw [show decide ((x, y).2 ≤ (x, y).1) = false from decide_eq_false c] at h
    exact ⟨by omega, h⟩
theorem asc_fil {h : Int} : ∀ {x : Int} {cs : List Int}, badC (x :: cs) = none → h ≤ x → ((x :: cs).filter fun c => decide (c < h)) = []
  | x, [], _, hx => by rw [List.filter_cons, show decide (x < h) = false from decide_eq_false (by omega)]; rfl
  | x, y :: cs, hb, hx => by
    obtain ⟨h1, h2⟩ := badC_cons hb
    rw [List.filter_cons, show decide (x < h) = false from decide_eq_false (by omega), if_neg Bool.false_ne_true]
    exact asc_fil h2 (by omega)
theorem ans_band {xs : List Int} {p : Int} (h0 : 0 ≤ p) (h1 : p < xs.length) : ∀ {cs : List Int} {k : Nat} {o : List TRow}, badC cs = none → o.all (agB xs) = true → ansC xs (bandC p k o cs) = some ((k + (cs.filter fun c => decide (c < hAt xs p)).length : Nat) : Int)
  | [], k, o, _, ho => by
    unfold bandC ansC
    rw [List.find?_cons]
    simp only [ho]
    rfl
  | x :: cs, k, o, hb, ho => by
    unfold bandC ansC
    rw [List.find?_cons]
    have e : (o ++ [(p, x, true)]).all (agB xs) = decide (hAt xs p ≤ x) := by
      rw [List.all_append, ho, Bool.true_and]
      show (agB xs (p, x, true) && true) = _
      rw [Bool.and_true, agB_eq h0 h1]
      rfl
    by_cases c : hAt xs p ≤ x
    · simp only [e, decide_eq_true c]
      rw [asc_fil hb c]
      rfl
    · simp only [e, decide_eq_false c]
      have hb' : badC cs = none := by
        cases cs with
        | nil => rfl
        | cons y cs => exact (badC_cons hb).2
      have := ans_band h0 h1 (cs := cs) (k := k + 1) (o := [(p, x, false)]) hb' (by
        show (agB xs (p, x, false) && true) = true
        rw [Bool.and_true, agB_eq h0 h1]
        exact decide_eq_true (by omega))
      unfold ansC at this
      rw [this, List.filter_cons, show decide (x < hAt xs p) = true from decide_eq_true (by omega), if_pos rfl, List.length_cons]
      congr 2
      omega
theorem find_map1 {α : Type} (f : α → Bool) (g : α → Cse) (F : Cse → Bool) (h : ∀ a, F (g a) = f a) : ∀ l : List α, (l.map g).find? F = (l.find? f).map g
  | [] => rfl
  | a :: l => by
    rw [List.map_cons, List.find?_cons, List.find?_cons, h a]
    cases f a
    · exact find_map1 f g F h l
    · rfl
theorem ans_ok {n m : Nat} {xs : List Int} (hl : xs.length = n) : ∀ {s : Spc}, SpcOk n m s → ansC xs s.wi.cases = some (s.ans xs)
  | .none, _ => rfl
  | .all ps, ⟨_, h⟩ => by
    show ((((1 : Int), ps.map (rowOf true)) :: ps.map fun q => ((0 : Int), [rowOf false q]) : List Cse).find? fun c => c.2.all (agB xs)).map (·.1) = some (if (ps.filter (leB xs)).length = ps.length then 1 else 0)
    rw [List.find?_cons]
    have e := all_row hl true h
    simp only [if_true] at e
    have e' : ps.all (fun q => leB xs q) = ps.all (leB xs) := rfl
    cases c : ps.all (leB xs)
    · simp only [e, e', c]
      rw [if_neg (fun hh => by rw [(fil_all _ _).mp hh] at c; cases c)]
      have : ∃ q ∈ ps, leB xs q = false := by
        refine Classical.byContradiction fun hn => ?_
        have : ps.all (leB xs) = true := List.all_eq_true.mpr fun q hq => by
          cases e : leB xs q
          · exact absurd ⟨q, hq, e⟩ hn
          · rfl
        rw [this] at c
        cases c
      obtain ⟨q, hq, hf⟩ := this
      cases g : ((ps.map fun q => (((0 : Int), [rowOf false q]) : Cse)).find? fun c => c.2.all (agB xs)) with
      | none =>
        have := List.find?_eq_none.mp g _ (List.mem_map.mpr ⟨q, hq, rfl⟩)
        refine absurd ?_ this
        show (agB xs (rowOf false q) && true) = true
        rw [Bool.and_true, agB_row (h q hq) hl]
        show (!leB xs q) = true
        rw [hf]
        rfl
      | some d =>
        obtain ⟨q', _, rfl⟩ := List.mem_map.mp (List.mem_of_find?_eq_some g)
        rfl
    · simp only [e, e', c]
      rw [if_pos ((fil_all _ _).mpr c)]
      rfl
  | .some ps, ⟨_, h⟩ => by
    show (((ps.map fun q => ((1 : Int), [rowOf true q])) ++ [(0, ps.map (rowOf false))] : List Cse).find? fun c => c.2.all (agB xs)).map (·.1) = some (if 0 < (ps.filter (leB xs)).length then 1 else 0)
    rw [List.find?_append]
    cases g : ((ps.map fun q => (((1 : Int), [rowOf true q]) : Cse)).find? fun c => c.2.all (agB xs)) with
    | some d =>
      obtain ⟨q', hq, rfl⟩ := List.mem_map.mp (List.mem_of_find?_eq_some g)
      have hs := List.find?_some g
      have hs : (agB xs (rowOf true q') && true) = true := hs
      rw [Bool.and_true, agB_row (h q' hq) hl] at hs
      have hs : leB xs q' = true := hs
      rw [if_pos ((fil_any _ _).mpr (List.any_eq_true.mpr ⟨q', hq, hs⟩))]
      rfl
    | none =>
      have hn : ∀ q ∈ ps, leB xs q = false := fun q hq => by
        have := List.find?_eq_none.mp g _ (List.mem_map.mpr ⟨q, hq, rfl⟩)
        cases e : leB xs q
        · rfl
        · refine absurd ?_ this
          show (agB xs (rowOf true q) && true) = true
          rw [Bool.and_true, agB_row (h q hq) hl]
          exact e
      have e := all_row hl false h
      simp only [if_neg Bool.false_ne_true] at e
      have e2 : ps.all (fun q => !leB xs q) = true := List.all_eq_true.mpr fun q hq => by rw [hn q hq]; rfl
      rw [if_neg (fun hh => by
        obtain ⟨q, hq, hh⟩ := List.any_eq_true.mp ((fil_any _ _).mp hh)
        rw [hn q hq] at hh
        cases hh)]
      show (([((0 : Int), ps.map (rowOf false))] : List Cse).find? fun c => c.2.all (agB xs)).map (·.1) = some 0
      rw [List.find?_cons]
      simp only [e, e2]
      rfl
  | .band p cs, ⟨_, h0, h1, _, hb⟩ => by
    have := ans_band (xs := xs) (p := p) h0 (by rw [hl]; exact h1) (cs := cs) (k := 0) (o := []) hb rfl
    rw [Nat.zero_add] at this
    exact this
  | .both a b, ⟨ha, hb⟩ => by
    show ansC xs (prodC b.wi.size a.wi.cases b.wi.cases) = some (a.ans xs * b.wi.size + b.ans xs)
    rw [ans_prod (ans_ok hl hb), ans_ok hl ha]
    rfl
end Law

/-! The law's own words: drawn pairs and wishes. -/
namespace Own
open PySem PySem.Spec PyProof.Rows L2
section
variable {X : Cx} {CX : CXT} {k : Nat} {C f : Addr} {sp : Sp} {E : L2.St → XK} {x : Str} {p pos : Pos}
/-- C() -/
theorem pe_makeS0 (M : Mk X.K C f) (F : FnR X.prog X.w X.K X.mg X.base CX k f sp) (hr : Room (k + 1) X.A) (hg : Gl X x) (hm : X.mg x = some (.ref C)) (hx : ∀ σ, PassesAt CX X σ (E σ)) (hdb : (x == ("__debug__" : Str)) = false := by decide) :
    PE X (.Call (.Name x p) [] [] pos) (tMakeS C sp E tNil) := by
  refine ⟨fun pins s1 σ H1 Q I1 q => ?_⟩
  refine wpAny_Call_Name_kw (ld_glob I1 hg hm ?_ hdb)
  refine PySem.W.callWith_K0 I1.kIn M.kp ?_
  have hq := q.run (s1.heap.objs.size + 1) s1.heap.objs.size (I1.hok.fresh (Nat.le_succ _)) (I1.hok.fresh (Nat.le_refl _)) (Nat.ne_of_lt (Nat.lt_succ_self _))
  have I2 := Inv.made (C := C) I1
  refine wpAny_call (make_map (f := f) I1.kIn M.makes M.init (beq_iff_eq.mp M.fn) (codeAny_mono (F _ X.stack _ _ [Value.ref (s1.heap.objs.size + 1)] [V.ref (s1.heap.objs.size + 1)] _ (E σ) (hr.make C [] []) (I2.env0.make C [] []) (.cons rfl .nil) hq) fun r s' hq' => ?_))
  cases r with
  | error e => exact hx σ pins _ _ e s' I2 hq'
  | ok fl =>
    cases fl with
    | ret u =>
      obtain ⟨v, H', I3, rv, ev, q3⟩ := I2.after hq'
      subst ev
      exact ⟨rv, ⟨V.ref (s1.heap.objs.size + 1), H', I3, rfl, q3⟩⟩
    | next => exact False.elim hq'
    | brk => exact False.elim hq'
    | cont => exact False.elim hq'
end
end Own
namespace Law
open PySem PySem.Spec PyProof.Rows L2 Sup
abbrev sNum : Stmt := top 16
abbrev sPrs : Stmt := top 17
abbrev sMny : Stmt := top 18
abbrev sBnd : Stmt := top 19
theorem sqT_sameB {K : PySem.W.Frag} {H H' : Hp} {b l a : Addr} {xs : List V} (h : SqT K H a xs) (B : Box H b l) (s : SameB b H H') : SqT K H' a xs := by
  obtain ⟨_, _, _, _, q, _⟩ := B
  rcases h with (h | ⟨o, h⟩) | h
  · exact .inl (.inl (s _ _ (fun z => by rw [z, q] at h; cases h) h))
  · exact .inl (.inr ⟨o, s _ _ (fun z => by rw [z, q] at h; cases h) h⟩)
  · exact .inr h
theorem Box.neZ {H : Hp} {b l p : Addr} {ns : List Int} (B : Box H b l) (h : H p = some (.lst (ns.map V.int))) : p ≠ b := fun z => by
  obtain ⟨_, _, _, _, q, _⟩ := B
  rw [z, q] at h
  have e := HO.lst.inj (Option.some.inj h)
  match ns, e with
  | [], e => cases e
  | _ :: _, e =>
    rw [List.map_cons] at e
    injection e with e _
    cases e
theorem Box.neL3 {H : Hp} {b l p : Addr} {ts : List Addr} (B : Box H b l) (h : H p = some (.lst (ts.map V.ref))) : p ≠ b := fun z => by
  obtain ⟨_, _, _, _, q, _⟩ := B
  rw [z, q] at h
  have e := HO.lst.inj (Option.some.inj h)
  match ts, e with
  | [], e => cases e
  | [_], e => cases e
  | _ :: _ :: _, e =>
    rw [List.map_cons, List.map_cons] at e
    injection e with _ e
    injection e with e _
    cases e
theorem PrsAt.draw {K : PySem.W.Frag} {H H' : Hp} {b l p : Addr} {ps : List (Int × Int)} (h : PrsAt K H p ps) (B : Box H b l) (s : SameB b H H') : PrsAt K H' p ps := by
  obtain ⟨ts, h1, h2, h3⟩ := h
  exact ⟨ts, s _ _ (B.neL3 h1) h1, h2, fun i t q e1 e2 => sqT_sameB (h3 i t q e1 e2) B s⟩
theorem Tri.draw {CT : Addr} {H H' : Hp} {b l x : Addr} {p h : Int} {r : Bool} (t : Tri CT H x p h r) (B : Box H b l) (s : SameB b H H') : Tri CT H' x p h r := by
  obtain ⟨dx, fs, h1, h2⟩ := t
  exact ⟨dx, fs, s _ _ (B.neI h1).1 h1, h2⟩
theorem TrisAt.draw {CT : Addr} {H H' : Hp} {b l p : Addr} {rows : List TRow} (h : TrisAt CT H p rows) (B : Box H b l) (s : SameB b H H') : TrisAt CT H' p rows := by
  obtain ⟨ts, h1, h2, h3⟩ := h
  exact ⟨ts, s _ _ (B.neL3 h1) h1, h2, fun i t r e1 e2 => (h3 i t r e1 e2).draw B s⟩
theorem CssAt.draw {CT : Addr} {H H' : Hp} {b l p : Addr} {cs : List Cse} (h : CssAt CT H p cs) (B : Box H b l) (s : SameB b H H') : CssAt CT H' p cs := by
  obtain ⟨ts, h1, h2, h3⟩ := h
  exact ⟨ts, s _ _ (B.neL3 h1) h1, h2, fun i t c e1 e2 => by obtain ⟨l, a, d⟩ := h3 i t c e1 e2; exact ⟨l, s _ _ (B.neT a) a, d.draw B s⟩⟩
theorem WiAt.draw {K : PySem.W.Frag} {CT : Addr} {C : WCls} {H H' : Hp} {b l x : Addr} {v : Wi} (h : WiAt K CT C H x v) (B : Box H b l) (s : SameB b H H') : WiAt K CT C H' x v := by
  obtain ⟨dx, fs, a, e, c, d⟩ := h
  refine ⟨dx, fs, s _ _ (B.neI a).1 a, e, c, ?_⟩
  cases v with
  | none => trivial
  | all ps => obtain ⟨p, a, d⟩ := d; exact ⟨p, a, d.draw B s⟩
  | some ps => obtain ⟨p, a, d⟩ := d; exact ⟨p, a, d.draw B s⟩
  | band p cs => obtain ⟨a, c, d, e⟩ := d; exact ⟨a, c, d, s _ _ (B.neZ e) e⟩
  | both n pl cs => obtain ⟨⟨p, a, d⟩, c, e, g⟩ := d; exact ⟨⟨p, a, s _ _ (B.neZ d) d⟩, c, e, g.draw B s⟩
theorem SpcAt.draw {K : PySem.W.Frag} {H H' : Hp} {b l : Addr} (B : Box H b l) (s : SameB b H H') : ∀ {v : Spc} {t : Addr}, SpcAt K H t v → SpcAt K H' t v
  | .none, _, h => sqT_sameB h B s
  | .all _, _, h => by obtain ⟨p, a, d⟩ := h; exact ⟨p, sqT_sameB a B s, d.draw B s⟩
  | .some _, _, h => by obtain ⟨p, a, d⟩ := h; exact ⟨p, sqT_sameB a B s, d.draw B s⟩
  | .band _ _, _, h => by obtain ⟨p, a, d⟩ := h; exact ⟨p, sqT_sameB a B s, s _ _ (B.neZ d) d⟩
  | .both a d, _, h => by obtain ⟨ta, tb, c, e, g⟩ := h; exact ⟨ta, tb, sqT_sameB c B s, SpcAt.draw B s e, SpcAt.draw B s g⟩
theorem Sz.log {z : Int} (h : Sz z) : z.natAbs.log2 < 200 := log_of (by decide) h
theorem mulW {a b : Int} (ha : Sz a) (hb : Sz b) : CMulW a b := by
  have h1 := ha.log
  have h2 := hb.log
  show a.natAbs.log2 + b.natAbs.log2 < 1000000
  omega
theorem sz_small {z : Int} (h : z.natAbs ≤ 10 ^ 21) : Sz z := Nat.lt_of_le_of_lt h (by decide +kernel)
/-- what stands behind what a call made is as it was -/
theorem SameB.fresh {b : Addr} {H H' : Hp} {x : Addr} (s : SameB b H H') (n : x ≠ b) (h : H' x = none) : H x = none := by
  cases e : H x with
  | none => rfl
  | some o => rw [s _ _ n e] at h; cases h
def TrOk (hs : List Int) : Prop := 1 ≤ hs.length ∧ hs.length ≤ 5 ∧ ∀ h ∈ hs, 0 ≤ h ∧ h ≤ 10 ^ 20
theorem at_hAt {hs : List Int} {p : Int} (p0 : 0 ≤ p) (p1 : p < (hs.length : Int)) : atI (hs.map V.int) p = some (.int (hAt hs p)) := by
  obtain ⟨j, rfl⟩ := Int.eq_ofNat_of_zero_le p0
  have hj : j < hs.length := by omega
  refine atI_nat ?_
  rw [List.getElem?_map, List.getElem?_eq_getElem hj]
  show _ = some (V.int (hs.getD j 0))
  rw [List.getD_eq_getElem?_getD, List.getElem?_eq_getElem hj]
  rfl
theorem hAt_mem {hs : List Int} {p : Int} (p0 : 0 ≤ p) (p1 : p < (hs.length : Int)) : hAt hs p ∈ hs := by
  obtain ⟨j, rfl⟩ := Int.eq_ofNat_of_zero_le p0
  have hj : j < hs.length := by omega
  show hs.getD j 0 ∈ hs
  rw [List.getD_eq_getElem?_getD, List.getElem?_eq_getElem hj]
  exact List.getElem_mem hj
theorem hAt_le {hs : List Int} {p : Int} (t : TrOk hs) (p0 : 0 ≤ p) (p1 : p < (hs.length : Int)) : 0 ≤ hAt hs p ∧ hAt hs p ≤ 10 ^ 20 := t.2.2 _ (hAt_mem p0 p1)
def spNum : Sp := fun vs H Q _ => ∃ i : Int, vs = [.int i] ∧ Q (.bl true) H
def spPrs (K : PySem.W.Frag) : Sp := fun vs H Q _ => ∃ (b l t : Addr) (hs : List Int) (tall : Int), vs = [.ref b, .ref t, .int tall] ∧ Box H b l ∧ H t = some (.lst (hs.map V.int)) ∧ TrOk hs ∧ 0 ≤ tall ∧ tall ≤ 10 ^ 20 ∧
  ∀ (p : Addr) (ps : List (Int × Int)) (H' : Hp), PrsAt K H' p ps → (∀ q ∈ ps, PrOk hs.length q) → ps.length ≤ 3 → Box H' b l → SameB b H H' → Q (.ref p) H'
def spMn3 (K : PySem.W.Frag) (CT : Addr) (C : WCls) : Sp := fun vs H Q _ => ∃ (p : Addr) (ps : List (Int × Int)) (ev : Bool), vs = [.ref p, .bl ev] ∧ PrsAt K H p ps ∧ ps.length ≤ 3 ∧
  ∀ (x : Addr) (H' : Hp), Same H H' → WiAt K CT C H' x (if ev then .all ps else .some ps) → Q (.ref x) H'
def spBn3 (K : PySem.W.Frag) (CT : Addr) (C : WCls) : Sp := fun vs H Q _ => ∃ (d : Addr) (p : Int) (cs : List Int), vs = [.int p, .ref d] ∧ H d = some (.lst (cs.map V.int)) ∧ cs.length ≤ 3 ∧ (∀ c ∈ cs, Sz c) ∧ badC cs = none ∧
  ∀ (x : Addr) (H' : Hp), Same H H' → WiAt K CT C H' x (.band p cs) → Q (.ref x) H'
structure LfTxt (mg : Str → Option Value) (C : WCls) (fT : Addr) : Prop where
  take : mg "_law_take" = some (.ref fT)
  wish : mg "Wish" = some (.ref C.W)
  allw : mg "AllWithin" = some (.ref C.A)
  somw : mg "SomeWithin" = some (.ref C.S)
  band : mg "Band" = some (.ref C.B)
  b_range : mg "range" = none
  b_len : mg "len" = none
  b_isinstance : mg "isinstance" = none
  b_list : mg "list" = none
  b_int : mg "int" = none
  b_bool : mg "bool" = none
section
variable {P : Program} {w : World} {K : PySem.W.Frag} {mg : Str → Option Value} {base : Heap} {CT CB : Addr} {C : WCls}
theorem scNum : FnScope ["_law_x"] ["_law_x"] (defScope sNum) := ⟨rfl, rfl, rfl, by decide +kernel, rfl, by decide +kernel, by decide +kernel⟩
theorem scPrs : FnScope ["_law_box_here", "_law_truth", "_law_tall", "_law_pairs_here", "_law_k", "_law_place", "_law_near", "_law_wide"] ["_law_box_here", "_law_truth", "_law_tall"] (defScope sPrs) := ⟨rfl, rfl, rfl, by decide +kernel, rfl, by decide +kernel, by decide +kernel⟩
theorem scMny : FnScope ["_law_pairs_here", "_law_every"] ["_law_pairs_here", "_law_every"] (defScope sMny) := ⟨rfl, rfl, rfl, by decide +kernel, rfl, by decide +kernel, by decide +kernel⟩
theorem scBnd : FnScope ["_law_place", "_law_cuts"] ["_law_place", "_law_cuts"] (defScope sBnd) := ⟨rfl, rfl, rfl, by decide +kernel, rfl, by decide +kernel, by decide +kernel⟩
theorem ok_num {f fT : Addr} {fd : FuncData} (F : Fun K "_law_number" "_law_number" sNum f fd) (T : LfTxt mg C fT) : FnOk P w K mg base CX0 1 f fd ["_law_x"] spNum := by
  refine F.ok scNum (fun vs H Q E h => ?_) (fun cdv A outer s H vs Q E hr h => ?_)
  · obtain ⟨i, rfl, _⟩ := h
    rfl
  · obtain ⟨i, rfl, k⟩ := h
    refine ⟨_, (pss_one (ps_ret (pe_and (pe_callB call_isi (by rfl) T.b_isinstance (by decide +kernel) (pa_cons (pv 0) (pa_cons (pe_bltn (v := .ty "int") (by rfl) T.b_int (by decide +kernel) rfl) pa_nil))) (pe_one (pe_not (pe_callB call_isi (by rfl) T.b_isinstance (by decide +kernel) (pa_cons (pv 0) (pa_cons (pe_bltn (v := .ty "bool") (by rfl) T.b_bool (by decide +kernel) rfl) pa_nil)))))))), ?_⟩
    refine ⟨_, rfl, V.int i, .ty "int", .type "int", .type "int", true, rfl, .ty _, .base (.int i), by rfl, true, rfl, ?_⟩
    refine if_t rfl ⟨_, rfl, V.int i, .ty "bool", .type "int", .type "bool", false, rfl, .ty _, .base (.int i), by rfl, false, rfl, k⟩
set_option maxHeartbeats 0 in
theorem ok_prs {f fT : Addr} {fd fdT : FuncData} (F : Fun K "_law_pairs" "_law_pairs" sPrs f fd) (GT : FnOk P w K mg base CX0 1 fT fdT ["_law_box_here", "_law_size_here"] spTake) (FT : Fun K "_law_take" "_law_take" sTake fT fdT) (bT : Binds K fdT ["_law_box_here", "_law_size_here"] []) (T : LfTxt mg C fT) : FnOk P w K mg base CX0 2 f fd ["_law_box_here", "_law_truth", "_law_tall"] (spPrs K) := by
  refine F.ok scPrs (fun vs H Q E h => ?_) (fun cdv A outer s H vs Q E hr h => ?_)
  · obtain ⟨b, l, t, hs, tall, rfl, _⟩ := h
    rfl
  · obtain ⟨b, l, t, hs, tall, rfl, B, ht, ⟨l1, l5, hh⟩, t0, t1, k⟩ := h
    have hr1 : Room 1 _ := hr.mono (by decide)
    have szf : ∀ {z : Int}, 0 ≤ z → z ≤ 1000 → z.natAbs < 2 ^ 8000 := fun {z} a b => Nat.lt_of_le_of_lt (show z.natAbs ≤ 1000 by omega) (by decide +kernel)
    have lh : (hs.map V.int).length = hs.length := List.length_map ..
    refine ⟨_, (C8.pss_cut (ps_set (i := 3) scPrs.nd rfl (Or.inl rfl) (pe_lst pa_nil))
      (C8.pss_cut (ps_for PassesOwn.never rfl (pi_range1 (by rfl) T.b_range (pa_cons (pe_call GT hr1 rfl T.take FT.kp bT .nil pass0 (pa_cons (pv 0) (pa_cons pe_int pa_nil))) pa_nil)) (pg_name (i := 4) scPrs.nd rfl (Or.inl rfl)) (pss_cons (ps_set (i := 5) scPrs.nd rfl (Or.inl rfl) (pe_call GT hr1 rfl T.take FT.kp bT .nil pass0 (pa_cons (pv 0) (pa_cons (pe_callB call_len_seq (by rfl) T.b_len PySem.boot_len (pa_cons (pv 1) pa_nil)) pa_nil))))
      (pss_cons (ps_set (i := 6) scPrs.nd rfl (Or.inl rfl) (pe_op op_sub (pe_op op_add (pe_ix ix_list (pv 1) (pv 5) (fun _ _ => rfl)) (pe_call GT hr1 rfl T.take FT.kp bT .nil pass0 (pa_cons (pv 0) (pa_cons pe_int pa_nil)))) pe_int))
      (pss_cons (ps_set (i := 7) scPrs.nd rfl (Or.inl rfl) (pe_op op_sub (pe_call GT hr1 rfl T.take FT.kp bT .nil pass0 (pa_cons (pv 0) (pa_cons (pe_op op_add (pv 2) pe_int) pa_nil))) pe_int))
      (pss_one (ps_expr (pe_bm PySem.F.plainAttrs_list PySem.F.slot_list_append PySem.F.type_list_append mt_append (pv 3) (pa_cons (pe_tup (pa_cons (pv 5) (pa_cons (pe_ix ix_list (pe_lst (pa_cons (pv 6) (pa_cons (pv 7) pa_nil))) (pe_call GT hr1 rfl T.take FT.kp bT .nil pass0 (pa_cons (pv 0) (pa_cons pe_int pa_nil))) (fun _ _ => rfl)) pa_nil))) pa_nil))))))))
      (pss_one (ps_ret (pv 3))))), ?_⟩
    refine ⟨fun σ' H' => ∃ D : Addr, σ' = [some (.ref b), some (.ref t), some (.int tall), some (.ref D), none, none, none, none] ∧ H D = none ∧ Same H H' ∧ H' D = some (.lst (([] : List Addr).map V.ref)), ?_, ?_⟩
    · exact ⟨by show 0 ≤ sizeLine; decide, fun D hD => ⟨D, rfl, hD, same_new hD, upd_same⟩⟩
    rintro σ' H1 ⟨D, rfl, hD, S1, e1⟩
    have fr := B.free hD
    have B1 := B.same S1
    have nt : t ≠ D := ne_of_none ht hD
    refine ⟨fun σ' H' => ∃ (ts : List Addr) (ps : List (Int × Int)) (v4 v5 v6 v7 : Option V), σ' = [some (.ref b), some (.ref t), some (.int tall), some (.ref D), v4, v5, v6, v7] ∧ Box H' b l ∧ SameB b H H' ∧ H' D = some (.lst (ts.map V.ref)) ∧ ts.length = ps.length ∧ (∀ (i : Nat) (u : Addr) (q : Int × Int), ts[i]? = some u → ps[i]? = some q → H' u = some (.tup [.int q.1, .int q.2])) ∧ (∀ q ∈ ps, PrOk hs.length q) ∧ ps.length ≤ 3, ?_, ?_⟩
    · refine ⟨_, rfl, b, l, 4, rfl, B1, by decide, by decide, fun cnt H2 c0 c1 B2 k2 => ⟨_, rfl, by omega, by omega, ?_⟩⟩
      have S2 : SameB b H H2 := (SameB.of_same S1).trans (SameB.of k2)
      have e2 : H2 D = some (.lst (([] : List Addr).map V.ref)) := by rw [k2 _ fun z => fr.1 z.symm]; exact e1
      refine for_it (walk_range (lo := 0) (n := cnt.toNat)) (fun i σ' H' => ∃ (ts : List Addr) (ps : List (Int × Int)) (v4 v5 v6 v7 : Option V), σ' = [some (.ref b), some (.ref t), some (.int tall), some (.ref D), v4, v5, v6, v7] ∧ Box H' b l ∧ SameB b H H' ∧ H' D = some (.lst (ts.map V.ref)) ∧ ts.length = ps.length ∧ (∀ (i : Nat) (u : Addr) (q : Int × Int), ts[i]? = some u → ps[i]? = some q → H' u = some (.tup [.int q.1, .int q.2])) ∧ (∀ q ∈ ps, PrOk hs.length q) ∧ ps.length = i)
        ⟨[], [], _, _, _, _, rfl, B2, S2, e2, rfl, fun i u q e => (nomatch e), fun q h => (nomatch h), rfl⟩ (fun _ _ _ _ _ => trivial) ?_ ?_
      · rintro i x σ' H3 H4 hi ⟨ts, ps, v4, v5, v6, v7, rfl, B4, S4, e4, tl, tu, tp, pl⟩ ⟨rfl, rfl⟩
        have t4 := S4 _ _ (B.neZ ht) ht
        refine ⟨_, rfl, _, rfl, t, _, rfl, .inl (SqL.of t4), b, l, _, rfl, B4, by omega, by rw [lh]; exact szf (by omega) (by omega), fun pl0 H5 p0 p1 B5 k5 => ?_⟩
        rw [lh] at p1
        have S5 := S4.trans (SameB.of k5)
        have t5 := S5 _ _ (B.neZ ht) ht
        have aP := at_hAt p0 p1
        obtain ⟨g0, g1⟩ := hAt_le ⟨l1, l5, hh⟩ p0 p1
        have e5 : H5 D = some (.lst (ts.map V.ref)) := by rw [k5 _ fun z => fr.1 z.symm]; exact e4
        refine ⟨_, rfl, _, rfl, t, _, _, _, rfl, rfl, SqL.of t5, aP, _, rfl, b, l, 5, rfl, B5, by decide, by decide, fun y H6 y0 y1 B6 k6 => ⟨_, _, rfl, rfl, _, _, rfl, rfl, ?_⟩⟩
        have e6 : H6 D = some (.lst (ts.map V.ref)) := by rw [k6 _ fun z => fr.1 z.symm]; exact e5
        have S6 := S5.trans (SameB.of k6)
        refine ⟨_, rfl, _, rfl, _, _, rfl, rfl, b, l, _, rfl, B6, by omega, size_fit (by omega) (Int.le_trans (show tall + 3 ≤ 10 ^ 20 + 3 by omega) (by decide +kernel)), fun z H7 z0 z1 B7 k7 => ⟨_, _, rfl, rfl, ?_⟩⟩
        have e7 : H7 D = some (.lst (ts.map V.ref)) := by rw [k7 _ fun z => fr.1 z.symm]; exact e6
        have S7 := S6.trans (SameB.of k7)
        refine ⟨_, rfl, .inl ⟨rfl, _, SqL.of e7⟩, _, rfl, _, rfl, _, rfl, by show 2 ≤ sizeLine; decide, fun L hL => ?_⟩
        have sL := same_new (o := .lst [V.int (hAt hs pl0 + y - 2), V.int (z - 1)]) hL
        have eL : upd H7 L (.lst [V.int (hAt hs pl0 + y - 2), V.int (z - 1)]) L = some (.lst (([hAt hs pl0 + y - 2, z - 1] : List Int).map V.int)) := upd_same
        have B8 := B7.same sL
        have e8 := sL _ _ e7
        have S8 : SameB b H (upd H7 L (.lst [V.int (hAt hs pl0 + y - 2), V.int (z - 1)])) := S7.trans (SameB.of_same sL)
        have T8 : ∀ (i : Nat) (u : Addr) (q : Int × Int), ts[i]? = some u → ps[i]? = some q → upd H7 L (.lst [V.int (hAt hs pl0 + y - 2), V.int (z - 1)]) u = some (.tup [.int q.1, .int q.2]) := fun i u q e f => by
          have h4 := tu i u q e f
          have n := B4.neT h4
          exact sL _ _ (by rw [k7 _ n, k6 _ n, k5 _ n]; exact h4)
        generalize upd H7 L (.lst [V.int (hAt hs pl0 + y - 2), V.int (z - 1)]) = H8 at sL eL B8 e8 S8 T8 ⊢
        refine ⟨_, rfl, b, l, 2, rfl, B8, by decide, by decide, fun w2 H9 w0 w1 B9 k9 => ?_⟩
        obtain ⟨v, hv, vb⟩ : ∃ v : Int, atI (([hAt hs pl0 + y - 2, z - 1] : List Int).map V.int) w2 = some (.int v) ∧ Sz v := by
          have : w2 = 0 ∨ w2 = 1 := by omega
          rcases this with rfl | rfl
          · exact ⟨_, rfl, sz_small (Nat.le_trans (show (hAt hs pl0 + y - 2).natAbs ≤ 10 ^ 20 + 3 by omega) (by decide +kernel))⟩
          · exact ⟨_, rfl, sz_small (Nat.le_trans (show (z - 1).natAbs ≤ 10 ^ 20 + 3 by omega) (by decide +kernel))⟩
        have e9 : H9 D = some (.lst (ts.map V.ref)) := by rw [k9 _ fun z => fr.1 z.symm]; exact e8
        have S9 := S8.trans (SameB.of k9)
        refine ⟨L, _, w2, _, rfl, rfl, SqL.of (by rw [k9 _ (B8.neZ eL)]; exact eL), hv, by show 2 ≤ sizeLine; decide, fun u hu => ?_⟩
        have su := same_new (o := .tup [V.int pl0, V.int v]) hu
        have nu : u ≠ D := fun z => by rw [z, e9] at hu; cases hu
        have eu : upd H9 u (.tup [V.int pl0, V.int v]) u = some (.tup [V.int pl0, V.int v]) := upd_same
        have BA := B9.same su
        have eA := su _ _ e9
        have SA := S9.trans (SameB.of_same su)
        refine ⟨D, _, _, rfl, rfl, eA, small1000 (by rw [List.length_map]; omega), ts ++ [u], ps ++ [(pl0, v)], _, _, _, _, rfl, BA.at fr, fun c o n e => ?_, by rw [upd_same, List.map_append]; rfl, by rw [List.length_append, List.length_append, tl]; rfl, fun j c q e1 e2 => ?_, fun q hq => ?_, by rw [List.length_append, pl]; rfl⟩
        · rw [upd_ne (ne_of_none e hD)]
          exact SA _ _ n e
        · have key : upd H9 u (.tup [V.int pl0, V.int v]) c = some (.tup [.int q.1, .int q.2]) := by
            by_cases cj : j < ts.length
            · rw [List.getElem?_append_left cj] at e1
              rw [List.getElem?_append_left (by rw [← tl]; exact cj)] at e2
              have h8 := T8 j c q e1 e2
              exact su _ _ (by rw [k9 _ (B8.neT h8)]; exact h8)
            · rw [List.getElem?_append_right (by omega)] at e1
              rw [List.getElem?_append_right (by rw [← tl]; omega), ← tl] at e2
              have z0 : j - ts.length = 0 := by
                have := (List.getElem?_eq_some_iff.mp e1).1
                have this : j - ts.length < 1 := this
                omega
              rw [z0] at e1 e2
              cases e1
              cases e2
              exact eu
          rw [upd_ne (fun z => by rw [z, eA] at key; cases key)]
          exact key
        · rcases List.mem_append.mp hq with h | h
          · exact tp q h
          · rw [List.mem_singleton] at h
            rw [h]
            exact ⟨p0, p1, vb⟩
      · rintro σ' H3 ⟨ts, ps, v4, v5, v6, v7, rfl, B3, S3, e3, tl, tu, tp, pl⟩
        exact ⟨ts, ps, v4, v5, v6, v7, rfl, B3, S3, e3, tl, tu, tp, by omega⟩
    rintro σ' H2 ⟨ts, ps, v4, v5, v6, v7, rfl, B2, S2, e2, tl, tu, tp, p3⟩
    refine ⟨_, rfl, ?_⟩
    exact k D ps H2 ⟨ts, e2, tl, fun i u q e f => SqT.of (tu i u q e f)⟩ tp p3 B2 S2
set_option maxHeartbeats 0 in
theorem ok_mny {f fT fA fS : Addr} {fd : FuncData} (F : Fun K "_law_many" "_law_many" sMny f fd) (T : LfTxt mg C fT) (MKA : Mk K C.A fA) (GA : FnR P w K mg base CX0 3 fA (spMny K CT C 1)) (MKS : Mk K C.S fS) (GS : FnR P w K mg base CX0 3 fS (spMny K CT C 2)) : FnOk P w K mg base CX0 5 f fd ["_law_pairs_here", "_law_every"] (spMn3 K CT C) := by
  refine F.ok scMny (fun vs H Q E h => ?_) (fun cdv A outer s H vs Q E hr h => ?_)
  · obtain ⟨p, ps, ev, rfl, _⟩ := h
    rfl
  · obtain ⟨p, ps, ev, rfl, hp, h3, k⟩ := h
    refine ⟨_, (pss_cons (ps_if (pt_cmpR op_eq (pe_callB call_len_seq (by rfl) T.b_len PySem.boot_len (pa_cons (pv 0) pa_nil)) pe_int (nomark _)) (pss_one (ps_ret (pe_ifExp (pt_val (pv 1)) (Own.pe_makeS0 (E := fun _ => E0) MKA GA hr rfl T.allw (passS pass0)) (Own.pe_makeS0 (E := fun _ => E0) MKS GS hr rfl T.somw (passS pass0))))) pss_nil)
      (pss_cons (ps_if (pt_cmpR op_eq (pe_callB call_len_seq (by rfl) T.b_len PySem.boot_len (pa_cons (pv 0) pa_nil)) pe_int (nomark _)) (pss_one (ps_ret (pe_ifExp (pt_val (pv 1)) (Own.pe_makeS (E := fun _ => E0) MKA GA hr rfl T.allw (passS pass0) (pa_cons (pe_ix ix_list (pv 0) pe_int (fun _ _ => rfl)) pa_nil)) (Own.pe_makeS (E := fun _ => E0) MKS GS hr rfl T.somw (passS pass0) (pa_cons (pe_ix ix_list (pv 0) pe_int (fun _ _ => rfl)) pa_nil))))) pss_nil)
      (pss_cons (ps_if (pt_cmpR op_eq (pe_callB call_len_seq (by rfl) T.b_len PySem.boot_len (pa_cons (pv 0) pa_nil)) pe_int (nomark _)) (pss_one (ps_ret (pe_ifExp (pt_val (pv 1)) (Own.pe_makeS (E := fun _ => E0) MKA GA hr rfl T.allw (passS pass0) (pa_cons (pe_ix ix_list (pv 0) pe_int (fun _ _ => rfl)) (pa_cons (pe_ix ix_list (pv 0) pe_int (fun _ _ => rfl)) pa_nil))) (Own.pe_makeS (E := fun _ => E0) MKS GS hr rfl T.somw (passS pass0) (pa_cons (pe_ix ix_list (pv 0) pe_int (fun _ _ => rfl)) (pa_cons (pe_ix ix_list (pv 0) pe_int (fun _ _ => rfl)) pa_nil)))))) pss_nil)
      (pss_cons (ps_if (pt_val (pv 1)) (pss_one (ps_ret (Own.pe_makeS (E := fun _ => E0) MKA GA hr rfl T.allw (passS pass0) (pa_cons (pe_ix ix_list (pv 0) pe_int (fun _ _ => rfl)) (pa_cons (pe_ix ix_list (pv 0) pe_int (fun _ _ => rfl)) (pa_cons (pe_ix ix_list (pv 0) pe_int (fun _ _ => rfl)) pa_nil)))))) pss_nil)
      (pss_one (ps_ret (Own.pe_makeS (E := fun _ => E0) MKS GS hr rfl T.somw (passS pass0) (pa_cons (pe_ix ix_list (pv 0) pe_int (fun _ _ => rfl)) (pa_cons (pe_ix ix_list (pv 0) pe_int (fun _ _ => rfl)) (pa_cons (pe_ix ix_list (pv 0) pe_int (fun _ _ => rfl)) pa_nil)))))))))), ?_⟩
    obtain ⟨ts, e1, tl, tu⟩ := id hp
    have ln : (ts.map V.ref).length = ps.length := by rw [List.length_map, tl]
    have go : ∀ (Q' : VK), Q' = Q → True := fun _ _ => trivial
    have kA : ev = true → ∀ x H2, H x = none → Same H H2 → WiAt K CT C H2 x (.all ps) → Q (.ref x) H2 := fun e x H2 _ s w => k x H2 s (by rw [if_pos e]; exact w)
    have kS : ev = false → ∀ x H2, H x = none → Same H H2 → WiAt K CT C H2 x (.some ps) → Q (.ref x) H2 := fun e x H2 _ s w => k x H2 s (by rw [if_neg (by rw [e]; decide)]; exact w)
    have mA : ev = true → Own.MkS C.A (spMny K CT C 1) E0 (ts.map V.ref) H Q := fun e => mk_mny (v := .all ps) rfl (.inl rfl) tl tu (by omega) (kA e)
    have mS : ev = false → Own.MkS C.S (spMny K CT C 2) E0 (ts.map V.ref) H Q := fun e => mk_mny (v := .some ps) rfl (.inr rfl) tl tu (by omega) (kS e)
    clear kA kS go
    match ts, tl, e1, ln, mA, mS with
    | [], tl, e1, ln, mA, mS =>
      refine ⟨_, rfl, p, _, rfl, .inl (SqL.of e1), rfl, _, rfl, if_t rfl ?_⟩
      cases ev with
      | true => exact ⟨_, rfl, true, rfl, if_t rfl (mA rfl)⟩
      | false => exact ⟨_, rfl, false, rfl, if_f rfl (mS rfl)⟩
    | [u], tl, e1, ln, mA, mS =>
      refine ⟨_, rfl, p, _, rfl, .inl (SqL.of e1), rfl, _, rfl, if_f rfl ?_⟩
      refine ⟨_, rfl, p, _, rfl, .inl (SqL.of e1), rfl, _, rfl, if_t rfl ?_⟩
      cases ev with
      | true => exact ⟨_, rfl, true, rfl, if_t rfl ⟨_, rfl, p, _, 0, _, rfl, rfl, SqL.of e1, rfl, mA rfl⟩⟩
      | false => exact ⟨_, rfl, false, rfl, if_f rfl ⟨_, rfl, p, _, 0, _, rfl, rfl, SqL.of e1, rfl, mS rfl⟩⟩
    | [u, u2], tl, e1, ln, mA, mS =>
      refine ⟨_, rfl, p, _, rfl, .inl (SqL.of e1), rfl, _, rfl, if_f rfl ?_⟩
      refine ⟨_, rfl, p, _, rfl, .inl (SqL.of e1), rfl, _, rfl, if_f rfl ?_⟩
      refine ⟨_, rfl, p, _, rfl, .inl (SqL.of e1), rfl, _, rfl, if_t rfl ?_⟩
      cases ev with
      | true => exact ⟨_, rfl, true, rfl, if_t rfl ⟨_, rfl, p, _, 0, _, rfl, rfl, SqL.of e1, rfl, _, rfl, p, _, 1, _, rfl, rfl, SqL.of e1, rfl, mA rfl⟩⟩
      | false => exact ⟨_, rfl, false, rfl, if_f rfl ⟨_, rfl, p, _, 0, _, rfl, rfl, SqL.of e1, rfl, _, rfl, p, _, 1, _, rfl, rfl, SqL.of e1, rfl, mS rfl⟩⟩
    | [u, u2, u3], tl, e1, ln, mA, mS =>
      refine ⟨_, rfl, p, _, rfl, .inl (SqL.of e1), rfl, _, rfl, if_f rfl ?_⟩
      refine ⟨_, rfl, p, _, rfl, .inl (SqL.of e1), rfl, _, rfl, if_f rfl ?_⟩
      refine ⟨_, rfl, p, _, rfl, .inl (SqL.of e1), rfl, _, rfl, if_f rfl ?_⟩
      cases ev with
      | true => exact ⟨_, rfl, true, rfl, if_t rfl ⟨_, rfl, p, _, 0, _, rfl, rfl, SqL.of e1, rfl, _, rfl, p, _, 1, _, rfl, rfl, SqL.of e1, rfl, _, rfl, p, _, 2, _, rfl, rfl, SqL.of e1, rfl, mA rfl⟩⟩
      | false => exact ⟨_, rfl, false, rfl, if_f rfl ⟨_, rfl, p, _, 0, _, rfl, rfl, SqL.of e1, rfl, _, rfl, p, _, 1, _, rfl, rfl, SqL.of e1, rfl, _, rfl, p, _, 2, _, rfl, rfl, SqL.of e1, rfl, mS rfl⟩⟩
    | _ :: _ :: _ :: _ :: _, tl, e1, ln, mA, mS => exact absurd h3 (by rw [← tl]; simp [List.length_cons])
set_option maxHeartbeats 0 in
theorem ok_bnd {f fT fB : Addr} {fd : FuncData} (F : Fun K "_law_band" "_law_band" sBnd f fd) (T : LfTxt mg C fT) (MKB : Mk K C.B fB) (GB : FnR P w K mg base (L2.CX P w) 4 fB (spBnd K CT CB C)) : FnOk P w K mg base CX0 6 f fd ["_law_place", "_law_cuts"] (spBn3 K CT C) := by
  refine F.ok scBnd (fun vs H Q E h => ?_) (fun cdv A outer s H vs Q E hr h => ?_)
  · obtain ⟨d, p, cs, rfl, _⟩ := h
    rfl
  · obtain ⟨d, p, cs, rfl, e1, h3, hz, hb, k⟩ := h
    refine ⟨_, (pss_cons (ps_if (pt_cmpR op_eq (pe_callB call_len_seq (by rfl) T.b_len PySem.boot_len (pa_cons (pv 1) pa_nil)) pe_int (nomark _)) (pss_one (ps_ret (Own.pe_makeS (E := fun _ => E0) MKB GB hr rfl T.band (passS passL) (pa_cons (pv 0) pa_nil)))) pss_nil)
      (pss_cons (ps_if (pt_cmpR op_eq (pe_callB call_len_seq (by rfl) T.b_len PySem.boot_len (pa_cons (pv 1) pa_nil)) pe_int (nomark _)) (pss_one (ps_ret (Own.pe_makeS (E := fun _ => E0) MKB GB hr rfl T.band (passS passL) (pa_cons (pv 0) (pa_cons (pe_ix ix_list (pv 1) pe_int (fun _ _ => rfl)) pa_nil))))) pss_nil)
      (pss_cons (ps_if (pt_cmpR op_eq (pe_callB call_len_seq (by rfl) T.b_len PySem.boot_len (pa_cons (pv 1) pa_nil)) pe_int (nomark _)) (pss_one (ps_ret (Own.pe_makeS (E := fun _ => E0) MKB GB hr rfl T.band (passS passL) (pa_cons (pv 0) (pa_cons (pe_ix ix_list (pv 1) pe_int (fun _ _ => rfl)) (pa_cons (pe_ix ix_list (pv 1) pe_int (fun _ _ => rfl)) pa_nil)))))) pss_nil)
      (pss_one (ps_ret (Own.pe_makeS (E := fun _ => E0) MKB GB hr rfl T.band (passS passL) (pa_cons (pv 0) (pa_cons (pe_ix ix_list (pv 1) pe_int (fun _ _ => rfl)) (pa_cons (pe_ix ix_list (pv 1) pe_int (fun _ _ => rfl)) (pa_cons (pe_ix ix_list (pv 1) pe_int (fun _ _ => rfl)) pa_nil)))))))))), ?_⟩
    have m : Own.MkS C.B (spBnd K CT CB C) E0 (.int p :: cs.map V.int) H Q := mk_bnd (by omega) hz (fun c e => by rw [hb] at e; cases e) (fun _ x H2 _ s w => k x H2 s w)
    clear k hb
    match cs, e1, h3, m with
    | [], e1, _, m => exact ⟨_, rfl, d, _, rfl, .inl (SqL.of e1), rfl, _, rfl, if_t rfl ⟨_, rfl, m⟩⟩
    | [a], e1, _, m =>
      refine ⟨_, rfl, d, _, rfl, .inl (SqL.of e1), rfl, _, rfl, if_f rfl ?_⟩
      exact ⟨_, rfl, d, _, rfl, .inl (SqL.of e1), rfl, _, rfl, if_t rfl ⟨_, rfl, _, rfl, d, _, 0, _, rfl, rfl, SqL.of e1, rfl, m⟩⟩
    | [a, a2], e1, _, m =>
      refine ⟨_, rfl, d, _, rfl, .inl (SqL.of e1), rfl, _, rfl, if_f rfl ?_⟩
      refine ⟨_, rfl, d, _, rfl, .inl (SqL.of e1), rfl, _, rfl, if_f rfl ?_⟩
      exact ⟨_, rfl, d, _, rfl, .inl (SqL.of e1), rfl, _, rfl, if_t rfl ⟨_, rfl, _, rfl, d, _, 0, _, rfl, rfl, SqL.of e1, rfl, _, rfl, d, _, 1, _, rfl, rfl, SqL.of e1, rfl, m⟩⟩
    | [a, a2, a3], e1, _, m =>
      refine ⟨_, rfl, d, _, rfl, .inl (SqL.of e1), rfl, _, rfl, if_f rfl ?_⟩
      refine ⟨_, rfl, d, _, rfl, .inl (SqL.of e1), rfl, _, rfl, if_f rfl ?_⟩
      refine ⟨_, rfl, d, _, rfl, .inl (SqL.of e1), rfl, _, rfl, if_f rfl ?_⟩
      exact ⟨_, rfl, _, rfl, d, _, 0, _, rfl, rfl, SqL.of e1, rfl, _, rfl, d, _, 1, _, rfl, rfl, SqL.of e1, rfl, _, rfl, d, _, 2, _, rfl, rfl, SqL.of e1, rfl, m⟩
    | _ :: _ :: _ :: _ :: _, _, h3, _ => exact absurd h3 (by simp [List.length_cons])
end
end Law

/-! The law's own wishes, single and joined. -/
namespace Law
open PySem PySem.Spec PyProof.Rows L2 Sup
abbrev sSng : Stmt := top 20
abbrev sWsh : Stmt := top 21
def spSng (K : PySem.W.Frag) (CT : Addr) (C : WCls) : Sp := fun vs H Q _ => ∃ (b l t : Addr) (hs : List Int) (tall : Int), vs = [.ref b, .ref t, .int tall] ∧ Box H b l ∧ H t = some (.lst (hs.map V.int)) ∧ TrOk hs ∧ 0 ≤ tall ∧ tall ≤ 10 ^ 20 ∧
  ∀ (r x u : Addr) (v : Spc) (H' : Hp), H' r = some (.tup [.ref x, .ref u]) → WiAt K CT C H' x v.wi → SpcAt K H' u v → SpcOk hs.length 3 v → v.dep = 0 → Box H' b l → SameB b H H' → Q (.ref r) H'
def spWsh (K : PySem.W.Frag) (CT : Addr) (C : WCls) : Sp := fun vs H Q _ => ∃ (b l t : Addr) (hs : List Int) (tall : Int), vs = [.ref b, .ref t, .int tall] ∧ Box H b l ∧ H t = some (.lst (hs.map V.int)) ∧ TrOk hs ∧ 0 ≤ tall ∧ tall ≤ 10 ^ 20 ∧
  ∀ (r x u : Addr) (v : Spc) (H' : Hp), H' r = some (.tup [.ref x, .ref u]) → WiAt K CT C H' x v.wi → SpcAt K H' u v → SpcOk hs.length 3 v → v.dep ≤ 1 → WiN 16 v.wi → Box H' b l → SameB b H H' → Q (.ref r) H'
structure LgTxt (mg : Str → Option Value) (fPr fMn fBd fSn : Addr) : Prop where
  pairs : mg "_law_pairs" = some (.ref fPr)
  many : mg "_law_many" = some (.ref fMn)
  bnd : mg "_law_band" = some (.ref fBd)
  sing : mg "_law_single" = some (.ref fSn)
/-- what the written part promises of `&` of the five classes -/
structure WOps (P : Program) (w : World) (K : PySem.W.Frag) (mg : Str → Option Value) (base : Heap) (CT : Addr) (C : WCls) : Prop where
  and : ∀ va vb : Wi, ∃ f, SubZ.Bin K .BitAnd (va.cls C) (vb.cls C) f ∧ FnR P w K mg base CX0 7 f (spAnd K CT C)
  ans : ∀ v : Wi, ∃ g, Meth K (v.cls C) "answer" g ∧ FnR P w K mg base CX0 5 g (spAns K CT C)
theorem mk_wish {K : PySem.W.Frag} {CT : Addr} {C : WCls} {H1 : Hp} {Q : VK} {E : XK} (k : ∀ x H2, H1 x = none → Same H1 H2 → WiAt K CT C H2 x .none → Q (.ref x) H2) : Own.MkS C.W (fun vs H Q E => spWini K C (vs ++ [.int 1]) H Q E) E [] H1 Q := ⟨fun x dx hx hdx hne => by
  have s0 : Same H1 (upd (upd H1 dx (.own x)) x (.ins C.W dx [])) := fun b o e => by
    rw [upd_ne (ne_of_none e hx), upd_ne (ne_of_none e hdx)]
    exact e
  refine ⟨x, .none, dx, [], 1, rfl, upd_same, by decide, rfl, k x _ hx (fun b o e => ?_) ⟨dx, _, upd_same, rfl, by decide, trivial⟩⟩
  rw [upd_ne (ne_of_none e hx)]
  exact s0 _ _ e⟩
/-- cuts that grow -/
theorem badC_app {a : Int} : ∀ {cs : List Int}, badC cs = none → (∀ c ∈ cs, c < a) → badC (cs ++ [a]) = none
  | [], _, _ => rfl
  | [x], _, h => by
    have := h x (List.mem_singleton.mpr rfl)
    show badC [x, a] = none
    unfold badC
    rw [show ([x, a] : List Int).zip ([x, a].drop 1) = [(x, a)] from rfl, List.find?_cons, show decide ((x, a).2 ≤ (x, a).1) = false from decide_eq_false (show ¬ a ≤ x by omega)]
    rfl
  | x :: y :: cs, h, hh => by
    obtain ⟨h1, h2⟩ := badC_cons h
    have ih := badC_app h2 fun c hc => hh c (List.mem_cons_of_mem _ hc)
    unfold badC at ih ⊢
    show ((((x, y) :: ((y :: cs) ++ [a]).zip (((y :: cs) ++ [a]).drop 1)).find? fun p => decide (p.2 ≤ p.1)).map (·.2)) = none
    rw [List.find?_cons, show decide ((x, y).2 ≤ (x, y).1) = false from decide_eq_false (show ¬ y ≤ x by omega)]
    exact ih
section
variable {P : Program} {w : World} {K : PySem.W.Frag} {mg : Str → Option Value} {base : Heap} {CT CB : Addr} {C : WCls}
theorem scSng : FnScope ["_law_box_here", "_law_truth", "_law_tall", "_law_way", "_law_pairs_here", "_law_place", "_law_level", "_law_cuts", "_law_k"] ["_law_box_here", "_law_truth", "_law_tall"] (defScope sSng) := ⟨rfl, rfl, rfl, by decide +kernel, rfl, by decide +kernel, by decide +kernel⟩
theorem scWsh : FnScope ["_law_box_here", "_law_truth", "_law_tall", "_law_one", "_law_other"] ["_law_box_here", "_law_truth", "_law_tall"] (defScope sWsh) := ⟨rfl, rfl, rfl, by decide +kernel, rfl, by decide +kernel, by decide +kernel⟩
set_option maxHeartbeats 0 in
theorem ok_sng {f fT fPr fMn fBd fSn fW : Addr} {fd fdT fdPr fdMn fdBd : FuncData} (F : Fun K "_law_single" "_law_single" sSng f fd) (T : LfTxt mg C fT) (TG : LgTxt mg fPr fMn fBd fSn)
    (GT : FnOk P w K mg base CX0 1 fT fdT ["_law_box_here", "_law_size_here"] spTake) (FT : Fun K "_law_take" "_law_take" sTake fT fdT) (bT : Binds K fdT ["_law_box_here", "_law_size_here"] [])
    (GPr : FnOk P w K mg base CX0 2 fPr fdPr ["_law_box_here", "_law_truth", "_law_tall"] (spPrs K)) (FPr : Fun K "_law_pairs" "_law_pairs" sPrs fPr fdPr) (bPr : Binds K fdPr ["_law_box_here", "_law_truth", "_law_tall"] [])
    (GMn : FnOk P w K mg base CX0 5 fMn fdMn ["_law_pairs_here", "_law_every"] (spMn3 K CT C)) (FMn : Fun K "_law_many" "_law_many" sMny fMn fdMn) (bMn : Binds K fdMn ["_law_pairs_here", "_law_every"] [])
    (GBd : FnOk P w K mg base CX0 6 fBd fdBd ["_law_place", "_law_cuts"] (spBn3 K CT C)) (FBd : Fun K "_law_band" "_law_band" sBnd fBd fdBd) (bBd : Binds K fdBd ["_law_place", "_law_cuts"] [])
    (MKW : Mk K C.W fW) (GW0 : FnR P w K mg base CX0 1 fW (fun vs H Q E => spWini K C (vs ++ [.int 1]) H Q E)) : FnOk P w K mg base CX0 7 f fd ["_law_box_here", "_law_truth", "_law_tall"] (spSng K CT C) := by
  refine F.ok scSng (fun vs H Q E h => ?_) (fun cdv A outer s H vs Q E hr h => ?_)
  · obtain ⟨b, l, t, hs, tall, rfl, _⟩ := h
    rfl
  · obtain ⟨b, l, t, hs, tall, rfl, B, ht, tr, t0, t1, k⟩ := h
    have hr6 : Room 6 _ := hr
    have hr5 : Room 5 _ := hr.mono (by decide)
    have hr2 : Room 2 _ := hr.mono (by decide)
    have hr1 : Room 1 _ := hr.mono (by decide)
    have szf : ∀ {z : Int}, 0 ≤ z → z ≤ 1000 → z.natAbs < 2 ^ 8000 := fun {z} a b => Nat.lt_of_le_of_lt (show z.natAbs ≤ 1000 by omega) (by decide +kernel)
    obtain ⟨l1, l5, hh⟩ := id tr
    have lh : (hs.map V.int).length = hs.length := List.length_map ..
    refine ⟨_, (C8.pss_cut (ps_set (i := 3) scSng.nd rfl (Or.inl rfl) (pe_call GT hr1 rfl T.take FT.kp bT .nil pass0 (pa_cons (pv 0) (pa_cons pe_int pa_nil))))
      (pss_cons (ps_if (pt_cmpR op_eq (pv 3) pe_int (nomark _)) (pss_one (ps_ret (pe_tup (pa_cons (Own.pe_makeS0 (E := fun _ => E0) MKW GW0 hr2 rfl T.wish (passS pass0)) (pa_cons (pe_tup (pa_cons pe_str pa_nil)) pa_nil))))) pss_nil)
      (pss_cons (ps_if (pt_cmpR op_lt (pv 3) pe_int (nomark _)) (C8.pss_cut (ps_set (i := 4) scSng.nd rfl (Or.inl rfl) (pe_call GPr hr2 rfl TG.pairs FPr.kp bPr .nil pass0 (pa_cons (pv 0) (pa_cons (pv 1) (pa_cons (pv 2) pa_nil)))))
      (pss_one (ps_ret (pe_tup (pa_cons (pe_call GMn hr5 rfl TG.many FMn.kp bMn .nil pass0 (pa_cons (pv 4) (pa_cons (pe_cmpR op_eq (pv 3) pe_int (nomark _)) pa_nil))) (pa_cons (pe_tup (pa_cons (pe_ix ix_list (pe_lst (pa_cons pe_str (pa_cons pe_str (pa_cons pe_str pa_nil)))) (pv 3) (fun _ _ => rfl)) (pa_cons (pv 4) pa_nil))) pa_nil)))))) pss_nil)
      (pss_cons (ps_set (i := 5) scSng.nd rfl (Or.inl rfl) (pe_call GT hr1 rfl T.take FT.kp bT .nil pass0 (pa_cons (pv 0) (pa_cons (pe_callB call_len_seq (by rfl) T.b_len PySem.boot_len (pa_cons (pv 1) pa_nil)) pa_nil))))
      (pss_cons (ps_set (i := 6) scSng.nd rfl (Or.inl rfl) (pe_op op_sub (pe_op op_add (pe_ix ix_list (pv 1) (pv 5) (fun _ _ => rfl)) (pe_call GT hr1 rfl T.take FT.kp bT .nil pass0 (pa_cons (pv 0) (pa_cons pe_int pa_nil)))) pe_int))
      (C8.pss_cut (ps_set (i := 7) scSng.nd rfl (Or.inl rfl) (pe_lst pa_nil))
      (C8.pss_cut (ps_for PassesOwn.never rfl (pi_range1 (by rfl) T.b_range (pa_cons (pe_call GT hr1 rfl T.take FT.kp bT .nil pass0 (pa_cons (pv 0) (pa_cons pe_int pa_nil))) pa_nil)) (pg_name (i := 8) scSng.nd rfl (Or.inl rfl)) (pss_cons (ps_expr (pe_bm PySem.F.plainAttrs_list PySem.F.slot_list_append PySem.F.type_list_append mt_append (pv 7) (pa_cons (pv 6) pa_nil)))
      (pss_one (ps_set (i := 6) scSng.nd rfl (Or.inl rfl) (pe_op op_add (pe_op op_add (pv 6) pe_int) (pe_call GT hr1 rfl T.take FT.kp bT .nil pass0 (pa_cons (pv 0) (pa_cons pe_int pa_nil))))))))
      (pss_one (ps_ret (pe_tup (pa_cons (pe_call GBd hr6 rfl TG.bnd FBd.kp bBd .nil pass0 (pa_cons (pv 5) (pa_cons (pv 7) pa_nil))) (pa_cons (pe_tup (pa_cons pe_str (pa_cons (pv 5) (pa_cons (pv 7) pa_nil)))) pa_nil)))))))))))), ?_⟩
    refine ⟨fun σ' H' => ∃ way : Int, σ' = [some (.ref b), some (.ref t), some (.int tall), some (.int way), none, none, none, none, none] ∧ 0 ≤ way ∧ way < 4 ∧ Box H' b l ∧ SameB b H H', ?_, ?_⟩
    · exact ⟨_, rfl, b, l, 4, rfl, B, by decide, by decide, fun way H2 c0 c1 B2 k2 => ⟨way, rfl, c0, c1, B2, SameB.of k2⟩⟩
    rintro σ' H1 ⟨way, rfl, w0, w4, B1, S1⟩
    have e1 := S1 _ _ (B.neZ ht) ht
    refine ⟨_, rfl, rfl, _, rfl, ite2 (fun g => ?_) (fun g => ?_)⟩
    · refine mk_wish (CT := CT) fun x H2 hx S2 wx => ?_
      refine ⟨by show 1 ≤ sizeLine; decide, fun u hu => ?_⟩
      have su := same_new (o := .tup [V.str "none"]) hu
      refine ⟨by show 2 ≤ sizeLine; decide, fun r hr' => ?_⟩
      have sr := same_new (o := .tup [V.ref x, V.ref u]) hr'
      exact k r x u .none _ upd_same ((wx.same su).same sr) (SpcAt.same sr (v := .none) (SqT.of upd_same)) trivial rfl (((B1.same S2).same su).same sr) (S1.trans (SameB.of_same (same_tr S2 (same_tr su sr))))
    have n0 : way ≠ 0 := fun z => by subst z; exact absurd g (by decide)
    refine ⟨_, rfl, _, _, rfl, rfl, _, rfl, ite2 (fun g3 => ?_) (fun g3 => ?_)⟩
    · have g3 : way < 3 := of_decide_eq_true g3
      refine ⟨fun σ' H' => ∃ (p : Addr) (ps : List (Int × Int)), σ' = [some (.ref b), some (.ref t), some (.int tall), some (.int way), some (.ref p), none, none, none, none] ∧ PrsAt K H' p ps ∧ (∀ q ∈ ps, PrOk hs.length q) ∧ ps.length ≤ 3 ∧ Box H' b l ∧ SameB b H H', ?_, ?_⟩
      · exact ⟨_, rfl, _, rfl, _, rfl, b, l, t, hs, tall, rfl, B1, e1, tr, t0, t1, fun p ps H2 h1 h2 h3 B2 S2 => ⟨p, ps, rfl, h1, h2, h3, B2, S1.trans S2⟩⟩
      rintro σ' H2 ⟨p, ps, rfl, h1, h2, h3, B2, S2⟩
      refine ⟨_, rfl, _, rfl, rfl, p, ps, _, rfl, h1, h3, fun x H3 S3 wx => ?_⟩
      refine ⟨by show 3 ≤ sizeLine; decide, fun L hL => ?_⟩
      have sL := same_new (o := .lst [V.str "none", V.str "all", V.str "some"]) hL
      obtain ⟨nm, v, hv, hw, hs0, hok, hd⟩ : ∃ (nm : Str) (v : Spc), atI [V.str "none", V.str "all", V.str "some"] way = some (.str nm) ∧ (if decide (V.int way = V.int 1) = true then Wi.all ps else Wi.some ps) = v.wi ∧ (∀ (H : Hp) (u : Addr), SqT K H u [.str nm, .ref p] → PrsAt K H p ps → SpcAt K H u v) ∧ SpcOk hs.length 3 v ∧ v.dep = 0 := by
        have : way = 1 ∨ way = 2 := by omega
        rcases this with rfl | rfl
        · exact ⟨"all", .all ps, rfl, rfl, fun H u h1 h2 => ⟨p, h1, h2⟩, ⟨h3, h2⟩, rfl⟩
        · exact ⟨"some", .some ps, rfl, rfl, fun H u h1 h2 => ⟨p, h1, h2⟩, ⟨h3, h2⟩, rfl⟩
      rw [hw] at wx
      refine ⟨_, rfl, L, _, way, _, rfl, rfl, SqL.of upd_same, hv, _, rfl, by show 2 ≤ sizeLine; decide, fun u hu => ?_⟩
      have su := same_new (o := .tup [V.str nm, V.ref p]) hu
      refine ⟨by show 2 ≤ sizeLine; decide, fun r hr' => ?_⟩
      have sr := same_new (o := .tup [V.ref x, V.ref u]) hr'
      have sA := same_tr S3 (same_tr sL su)
      exact k r x u v _ upd_same (((wx.same sL).same su).same sr) (SpcAt.same sr (hs0 _ _ (SqT.of upd_same) (h1.same sA))) hok hd ((B2.same sA).same sr) (S2.trans (SameB.of_same (same_tr sA sr)))
    refine ⟨_, rfl, _, rfl, t, _, rfl, .inl (SqL.of e1), b, l, _, rfl, B1, by omega, by rw [lh]; exact szf (by omega) (by omega), fun pl H5 p0 p1 B5 k5 => ?_⟩
    rw [lh] at p1
    have S5 := S1.trans (SameB.of k5)
    have e5 := S5 _ _ (B.neZ ht) ht
    obtain ⟨g0, g1⟩ := hAt_le tr p0 p1
    refine ⟨_, rfl, _, rfl, t, _, _, _, rfl, rfl, SqL.of e5, at_hAt p0 p1, _, rfl, b, l, 5, rfl, B5, by decide, by decide, fun y H6 y0 y1 B6 k6 => ⟨_, _, rfl, rfl, _, _, rfl, rfl, ?_⟩⟩
    have S6 := S5.trans (SameB.of k6)
    generalize hlv : hAt hs pl + y - 3 = lv
    refine ⟨fun σ' H' => ∃ D : Addr, σ' = [some (.ref b), some (.ref t), some (.int tall), some (.int way), none, some (.int pl), some (.int lv), some (.ref D), none] ∧ H6 D = none ∧ Same H6 H' ∧ H' D = some (.lst (([] : List Int).map V.int)), ?_, ?_⟩
    · exact ⟨by show 0 ≤ sizeLine; decide, fun D hD => ⟨D, by subst hlv; rfl, hD, same_new hD, upd_same⟩⟩
    rintro σ' H7 ⟨D, rfl, hD, S7, e7⟩
    have fr := B6.free hD
    have B7 := B6.same S7
    refine ⟨fun σ' H' => ∃ (cs : List Int) (lv : Int) (v8 : Option V), σ' = [some (.ref b), some (.ref t), some (.int tall), some (.int way), none, some (.int pl), some (.int lv), some (.ref D), v8] ∧ Box H' b l ∧ SameB b H6 H' ∧ H' D = some (.lst (cs.map V.int)) ∧ (∀ c ∈ cs, -3 ≤ c ∧ c ≤ 10 ^ 20 + 100 ∧ c < lv) ∧ badC cs = none ∧ cs.length ≤ 3, ?_, ?_⟩
    · refine ⟨_, rfl, b, l, 4, rfl, B7, by decide, by decide, fun cnt H8 c0 c1 B8 k8 => ⟨_, rfl, by omega, by omega, ?_⟩⟩
      have S8 : SameB b H6 H8 := (SameB.of_same S7).trans (SameB.of k8)
      have e8 : H8 D = some (.lst (([] : List Int).map V.int)) := by rw [k8 _ fun z => fr.1 z.symm]; exact e7
      refine for_it (walk_range (lo := 0) (n := cnt.toNat)) (fun i σ' H' => ∃ (cs : List Int) (lv : Int) (v8 : Option V), σ' = [some (.ref b), some (.ref t), some (.int tall), some (.int way), none, some (.int pl), some (.int lv), some (.ref D), v8] ∧ Box H' b l ∧ SameB b H6 H' ∧ H' D = some (.lst (cs.map V.int)) ∧ (∀ c ∈ cs, -3 ≤ c ∧ c ≤ 10 ^ 20 + 100 ∧ c < lv) ∧ badC cs = none ∧ cs.length = i ∧ -3 ≤ lv ∧ lv ≤ 10 ^ 20 + 1 + 3 * (i : Int))
        ⟨[], lv, _, rfl, B8, S8, e8, fun c h => (nomatch h), rfl, rfl, by omega, by omega⟩ (fun _ _ _ _ _ => trivial) ?_ ?_
      · rintro i x σ' H9 H10 hi ⟨cs, lv, v8, rfl, B10, S10, e10, hc, hb, cl, l0, l1'⟩ ⟨rfl, rfl⟩
        refine ⟨_, rfl, .inl ⟨rfl, _, SqL.of e10⟩, _, rfl, D, _, _, rfl, rfl, e10, small1000 (by rw [List.length_map]; omega), ?_⟩
        have eA : upd H10 D (.lst (cs.map V.int ++ [V.int lv])) D = some (.lst ((cs ++ [lv]).map V.int)) := by rw [upd_same, List.map_append]; rfl
        have SA : SameB b H6 (upd H10 D (.lst (cs.map V.int ++ [V.int lv]))) := fun c o n e => by
          rw [upd_ne (ne_of_none e hD)]
          exact S10 _ _ n e
        have BA : Box (upd H10 D (.lst (cs.map V.int ++ [V.int lv]))) b l := B10.at fr
        generalize upd H10 D (.lst (cs.map V.int ++ [V.int lv])) = HA at eA SA BA ⊢
        refine ⟨_, rfl, _, _, rfl, rfl, _, rfl, b, l, 3, rfl, BA, by decide, by decide, fun z HB z0 z1 BB kB => ⟨_, _, rfl, rfl, ?_⟩⟩
        refine ⟨cs ++ [lv], lv + 1 + z, _, rfl, BB, SA.trans (SameB.of kB), by rw [kB _ fun z => fr.1 z.symm]; exact eA, fun c h => ?_, badC_app hb fun c h => (hc c h).2.2, by rw [List.length_append, cl]; rfl, by omega, by omega⟩
        rcases List.mem_append.mp h with h | h
        · obtain ⟨a1, a2, a3⟩ := hc c h
          exact ⟨a1, a2, by omega⟩
        · rw [List.mem_singleton] at h
          subst h
          exact ⟨by omega, by omega, by omega⟩
      · rintro σ' H9 ⟨cs, lv, v8, rfl, B9, S9, e9, hc, hb, cl, _, _⟩
        exact ⟨cs, lv, v8, rfl, B9, S9, e9, hc, hb, by omega⟩
    rintro σ' H8 ⟨cs, lv, v8, rfl, B8, S8, e8, hc, hb, c3⟩
    have hz : ∀ c ∈ cs, Sz c := fun c h => by
      obtain ⟨a1, a2, _⟩ := hc c h
      exact sz_small (Nat.le_trans (show c.natAbs ≤ 10 ^ 20 + 100 by omega) (by decide +kernel))
    refine ⟨_, rfl, _, rfl, D, pl, cs, rfl, e8, c3, hz, hb, fun x H9 S9 wx => ?_⟩
    have e9 := S9 _ _ e8
    refine ⟨_, rfl, _, rfl, by show 3 ≤ sizeLine; decide, fun u hu => ?_⟩
    have su := same_new (o := .tup [V.str "band", V.int pl, V.ref D]) hu
    refine ⟨by show 2 ≤ sizeLine; decide, fun r hr' => ?_⟩
    have sr := same_new (o := .tup [V.ref x, V.ref u]) hr'
    have sA := same_tr su sr
    exact k r x u (.band pl cs) _ upd_same ((wx.same su).same sr) (SpcAt.same sr (v := .band pl cs) ⟨D, SqT.of upd_same, su _ _ e9⟩) ⟨c3, p0, p1, hz, hb⟩ rfl ((B8.same S9).same sA) (S6.trans (S8.trans (SameB.of_same (same_tr S9 sA))))
set_option maxHeartbeats 0 in
theorem ok_wsh {f fT fPr fMn fBd fSn : Addr} {fd fdT fdSn : FuncData} (F : Fun K "_law_wish" "_law_wish" sWsh f fd) (T : LfTxt mg C fT) (TG : LgTxt mg fPr fMn fBd fSn)
    (GT : FnOk P w K mg base CX0 1 fT fdT ["_law_box_here", "_law_size_here"] spTake) (FT : Fun K "_law_take" "_law_take" sTake fT fdT) (bT : Binds K fdT ["_law_box_here", "_law_size_here"] [])
    (GSn : FnOk P w K mg base CX0 7 fSn fdSn ["_law_box_here", "_law_truth", "_law_tall"] (spSng K CT C)) (FSn : Fun K "_law_single" "_law_single" sSng fSn fdSn) (bSn : Binds K fdSn ["_law_box_here", "_law_truth", "_law_tall"] []) (W : WOps P w K mg base CT C) : FnOk P w K mg base CX0 8 f fd ["_law_box_here", "_law_truth", "_law_tall"] (spWsh K CT C) := by
  refine F.ok scWsh (fun vs H Q E h => ?_) (fun cdv A outer s H vs Q E hr h => ?_)
  · obtain ⟨b, l, t, hs, tall, rfl, _⟩ := h
    rfl
  · obtain ⟨b, l, t, hs, tall, rfl, B, ht, tr, t0, t1, k⟩ := h
    have hr7 : Room 7 _ := hr
    have hr1 : Room 1 _ := hr.mono (by decide)
    refine ⟨_, (C8.pss_cut (ps_set (i := 3) scWsh.nd rfl (Or.inl rfl) (pe_call GSn hr7 rfl TG.sing FSn.kp bSn .nil pass0 (pa_cons (pv 0) (pa_cons (pv 1) (pa_cons (pv 2) pa_nil)))))
      (pss_cons (ps_if (pt_cmpR op_eq (pe_call GT hr1 rfl T.take FT.kp bT .nil pass0 (pa_cons (pv 0) (pa_cons pe_int pa_nil))) pe_int (nomark _)) (C8.pss_cut (ps_set (i := 4) scWsh.nd rfl (Or.inl rfl) (pe_call GSn hr7 rfl TG.sing FSn.kp bSn .nil pass0 (pa_cons (pv 0) (pa_cons (pv 1) (pa_cons (pv 2) pa_nil)))))
      (pss_one (ps_ret (pe_tup (pa_cons (pe_op (SubZ.op_own2 (CX := CX0) (E := E0) hr7 pass0 rfl) (pe_ix ix_tup (pv 3) pe_int (fun _ _ => rfl)) (pe_ix ix_tup (pv 4) pe_int (fun _ _ => rfl))) (pa_cons (pe_tup (pa_cons pe_str (pa_cons (pe_ix ix_tup (pv 3) pe_int (fun _ _ => rfl)) (pa_cons (pe_ix ix_tup (pv 4) pe_int (fun _ _ => rfl)) pa_nil)))) pa_nil)))))) pss_nil)
      (pss_one (ps_ret (pv 3))))), ?_⟩
    refine ⟨fun σ' H' => ∃ (r x u : Addr) (v : Spc), σ' = [some (.ref b), some (.ref t), some (.int tall), some (.ref r), none] ∧ H' r = some (.tup [.ref x, .ref u]) ∧ WiAt K CT C H' x v.wi ∧ SpcAt K H' u v ∧ SpcOk hs.length 3 v ∧ v.dep = 0 ∧ Box H' b l ∧ SameB b H H', ?_, ?_⟩
    · exact ⟨_, rfl, _, rfl, _, rfl, b, l, t, hs, tall, rfl, B, ht, tr, t0, t1, fun r x u v H' h1 h2 h3 h4 h5 h6 h7 => ⟨r, x, u, v, rfl, h1, h2, h3, h4, h5, h6, h7⟩⟩
    rintro σ' H1 ⟨r, x, u, v, rfl, r1, x1, u1, ok, hd, B1, S1⟩
    have n4 := wiN_leaf (m := 3) (by decide) ok hd
    refine ⟨_, rfl, b, l, 3, rfl, B1, by decide, by decide, fun y H2 y0 y1 B2 k2 => ?_⟩
    have s12 : SameB b H1 H2 := SameB.of k2
    have r2 := s12 _ _ (B1.neT r1) r1
    have x2 := x1.draw B1 s12
    have u2 := SpcAt.draw B1 s12 u1
    have S2 := S1.trans s12
    refine ⟨rfl, _, rfl, ite2 (fun g => ?_) (fun g => ⟨_, rfl, k r x u v H2 r2 x2 u2 ok (by omega) (n4.mono (by decide)) B2 S2⟩)⟩
    refine ⟨fun σ' H' => ∃ (r' x' u' : Addr) (v' : Spc), σ' = [some (.ref b), some (.ref t), some (.int tall), some (.ref r), some (.ref r')] ∧ H' r' = some (.tup [.ref x', .ref u']) ∧ WiAt K CT C H' x' v'.wi ∧ SpcAt K H' u' v' ∧ SpcOk hs.length 3 v' ∧ v'.dep = 0 ∧ Box H' b l ∧ SameB b H2 H', ?_, ?_⟩
    · exact ⟨_, rfl, _, rfl, _, rfl, b, l, t, hs, tall, rfl, B2, S2 _ _ (B.neZ ht) ht, tr, t0, t1, fun r x u v H' h1 h2 h3 h4 h5 h6 h7 => ⟨r, x, u, v, rfl, h1, h2, h3, h4, h5, h6, h7⟩⟩
    rintro σ' H3 ⟨r', x', u', v', rfl, r3, x3, u3, ok', hd', B3, S3⟩
    have n4' := wiN_leaf (m := 3) (by decide) ok' hd'
    have r2' := S3 _ _ (B2.neT r2) r2
    have x2' := x2.draw B2 S3
    have u2' := SpcAt.draw B2 S3 u2
    obtain ⟨dx, fs, i1, _⟩ := id x2'
    obtain ⟨dy, gs, i2, _⟩ := id x3
    obtain ⟨fa, bn, fr⟩ := W.and v.wi v'.wi
    refine ⟨_, rfl, r, _, 0, _, rfl, rfl, SqT.of r2', rfl, _, rfl, r', _, 0, _, rfl, rfl, SqT.of r3, rfl, x, x', dx, dy, fs, gs, _, _, fa, _, rfl, rfl, i1, i2, bn, fr, x, x', v.wi, v'.wi, rfl, x2', x3, n4.b (by decide), n4'.b (by decide), Nat.le_trans (Nat.mul_le_mul n4.ln n4'.ln) (by decide), Nat.le_trans (Nat.add_le_add n4.pl n4'.pl) (by decide), fun z H4 hz S4 wz => ?_⟩
    refine ⟨_, rfl, r, _, 1, _, rfl, rfl, SqT.of (S4 _ _ r2'), rfl, _, rfl, r', _, 1, _, rfl, rfl, SqT.of (S4 _ _ r3), rfl, by show 3 ≤ sizeLine; decide, fun c hc => ?_⟩
    have sc := same_new (o := .tup [V.str "both", V.ref u, V.ref u']) hc
    refine ⟨by show 2 ≤ sizeLine; decide, fun d hd2 => ?_⟩
    have sd := same_new (o := .tup [V.ref z, V.ref c]) hd2
    have sA := same_tr S4 sc
    exact k d z c (.both v v') _ upd_same ((wz.same sc).same sd) (SpcAt.same sd (v := .both v v') ⟨u, u', SqT.of upd_same, u2'.same sA, u3.same sA⟩) ⟨ok, ok'⟩ (by show max v.dep v'.dep + 1 ≤ 1; omega) (wiN_both n4 n4' (by decide) (by decide)) ((B3.same sA).same sd) (S2.trans (S3.trans (SameB.of_same (same_tr sA sd))))
end
end Law

/-! What the law says of a wish: size, answer, places. -/
namespace Law
open PySem PySem.Spec PyProof.Rows L2 Sup
abbrev sSiz : Stmt := top 22
theorem SpcOk.mono {n m k : Nat} (h : m ≤ k) : ∀ {v : Spc}, SpcOk n m v → SpcOk n k v
  | .none, _ => trivial
  | .all _, ⟨a, b⟩ => ⟨Nat.le_trans a h, b⟩
  | .some _, ⟨a, b⟩ => ⟨Nat.le_trans a h, b⟩
  | .band _ _, ⟨a, b⟩ => ⟨Nat.le_trans a h, b⟩
  | .both _ _, ⟨a, b⟩ => ⟨SpcOk.mono h a, SpcOk.mono h b⟩
theorem Spc.size_le {n m : Nat} : ∀ {v : Spc}, SpcOk n m v → 1 ≤ v.wi.size ∧ v.wi.size ≤ (((m + 2) ^ (2 ^ v.dep) : Nat) : Int)
  | .none, _ => ⟨by show (1 : Int) ≤ 1; decide, by show (1 : Int) ≤ (((m + 2) ^ 1 : Nat) : Int); rw [Nat.pow_one]; omega⟩
  | .all _, _ => ⟨by show (1 : Int) ≤ 2; decide, by show (2 : Int) ≤ (((m + 2) ^ 1 : Nat) : Int); rw [Nat.pow_one]; omega⟩
  | .some _, _ => ⟨by show (1 : Int) ≤ 2; decide, by show (2 : Int) ≤ (((m + 2) ^ 1 : Nat) : Int); rw [Nat.pow_one]; omega⟩
  | .band _ cs, ⟨h, _⟩ => ⟨by show (1 : Int) ≤ (cs.length : Int) + 1; omega, by show (cs.length : Int) + 1 ≤ (((m + 2) ^ 1 : Nat) : Int); rw [Nat.pow_one]; omega⟩
  | .both a b, ⟨ha, hb⟩ => by
    obtain ⟨a1, a2⟩ := Spc.size_le ha
    obtain ⟨b1, b2⟩ := Spc.size_le hb
    show 1 ≤ a.wi.size * b.wi.size ∧ a.wi.size * b.wi.size ≤ (((m + 2) ^ (2 ^ (max a.dep b.dep + 1)) : Nat) : Int)
    have h1 := Int.mul_le_mul a1 b1 (by decide) (by omega)
    have h2 := Int.mul_le_mul a2 b2 (by omega) (by omega)
    refine ⟨by omega, Int.le_trans h2 ?_⟩
    rw [← Int.natCast_mul, ← Nat.pow_add]
    refine Int.ofNat_le.mpr (Nat.pow_le_pow_right (by omega) ?_)
    have e1 : 2 ^ a.dep ≤ 2 ^ max a.dep b.dep := Nat.pow_le_pow_right (by decide) (Nat.le_max_left ..)
    have e2 : 2 ^ b.dep ≤ 2 ^ max a.dep b.dep := Nat.pow_le_pow_right (by decide) (Nat.le_max_right ..)
    rw [Nat.pow_succ]
    omega
theorem Spc.ans_le {n m : Nat} {xs : List Int} : ∀ {v : Spc}, SpcOk n m v → 0 ≤ v.ans xs ∧ v.ans xs < v.wi.size
  | .none, _ => ⟨by show (0 : Int) ≤ 0; decide, by show (0 : Int) < 1; decide⟩
  | .all ps, _ => by
    show 0 ≤ (if (ps.filter (leB xs)).length = ps.length then (1 : Int) else 0) ∧ (if (ps.filter (leB xs)).length = ps.length then (1 : Int) else 0) < 2
    split <;> exact ⟨by decide, by decide⟩
  | .some ps, _ => by
    show 0 ≤ (if 0 < (ps.filter (leB xs)).length then (1 : Int) else 0) ∧ (if 0 < (ps.filter (leB xs)).length then (1 : Int) else 0) < 2
    split <;> exact ⟨by decide, by decide⟩
  | .band p cs, _ => by
    have := List.length_filter_le (fun c => decide (c < hAt xs p)) cs
    show 0 ≤ (((cs.filter fun c => decide (c < hAt xs p)).length : Nat) : Int) ∧ (((cs.filter fun c => decide (c < hAt xs p)).length : Nat) : Int) < (cs.length : Int) + 1
    omega
  | .both a b, ⟨ha, hb⟩ => by
    obtain ⟨a1, a2⟩ := Spc.ans_le (xs := xs) ha
    obtain ⟨b1, b2⟩ := Spc.ans_le (xs := xs) hb
    show 0 ≤ a.ans xs * b.wi.size + b.ans xs ∧ a.ans xs * b.wi.size + b.ans xs < a.wi.size * b.wi.size
    have h1 : 0 ≤ a.ans xs * b.wi.size := Int.mul_nonneg a1 (by omega)
    have h2 := Int.mul_le_mul_of_nonneg_right (show a.ans xs + 1 ≤ a.wi.size by omega) (show 0 ≤ b.wi.size by omega)
    rw [Int.add_mul, Int.one_mul] at h2
    omega
theorem Spc.sz {n : Nat} {v : Spc} (h : SpcOk n 8 v) (d : v.dep ≤ 3) : v.wi.size.natAbs ≤ 10 ^ 9 := by
  obtain ⟨h1, h2⟩ := Spc.size_le h
  have e : (8 + 2) ^ (2 ^ v.dep) ≤ 10 ^ 8 := Nat.pow_le_pow_right (by decide) (Nat.le_trans (Nat.pow_le_pow_right (by decide) d) (by decide))
  have e3 : (10 : Nat) ^ 8 ≤ 10 ^ 9 := by decide
  have : v.wi.size.natAbs ≤ (8 + 2) ^ (2 ^ v.dep) := by omega
  omega
theorem Spc.pl_le {n m : Nat} : ∀ {v : Spc}, SpcOk n (m + 1) v → v.wi.places.length ≤ (m + 1) * 2 ^ v.dep
  | .none, _ => Nat.zero_le _
  | .all ps, ⟨h, _⟩ => by show (ps.map (·.1)).length ≤ (m + 1) * 1; rw [List.length_map]; omega
  | .some ps, ⟨h, _⟩ => by show (ps.map (·.1)).length ≤ (m + 1) * 1; rw [List.length_map]; omega
  | .band _ _, _ => by show 1 ≤ (m + 1) * 1; omega
  | .both a b, ⟨ha, hb⟩ => by
    have h1 := Spc.pl_le ha
    have h2 := Spc.pl_le hb
    show (a.wi.places ++ b.wi.places).length ≤ (m + 1) * 2 ^ (max a.dep b.dep + 1)
    have e1 : 2 ^ a.dep ≤ 2 ^ max a.dep b.dep := Nat.pow_le_pow_right (by decide) (Nat.le_max_left ..)
    have e2 : 2 ^ b.dep ≤ 2 ^ max a.dep b.dep := Nat.pow_le_pow_right (by decide) (Nat.le_max_right ..)
    have f1 := Nat.mul_le_mul_left (m + 1) e1
    have f2 := Nat.mul_le_mul_left (m + 1) e2
    rw [List.length_append, Nat.pow_succ, ← Nat.mul_assoc]
    omega
theorem big21 : (10 : Nat) ^ 9 ≤ 10 ^ 21 := by decide +kernel
theorem Spc.szS {n : Nat} {v : Spc} (h : SpcOk n 8 v) (d : v.dep ≤ 3) : Sz v.wi.size := sz_small (Nat.le_trans (Spc.sz h d) big21)
theorem Spc.anS {n : Nat} {v : Spc} {xs : List Int} (h : SpcOk n 8 v) (d : v.dep ≤ 3) : Sz (v.ans xs) := by
  obtain ⟨a, b⟩ := Spc.ans_le (xs := xs) h
  have := Spc.sz h d
  exact sz_small (Nat.le_trans (show (v.ans xs).natAbs ≤ 10 ^ 9 by omega) big21)
theorem str_ne {a b : Str} (h : a ≠ b) : decide (V.str a = V.str b) = false := decide_eq_false fun z => h (V.str.inj z)
/-- what a call one deeper promises; at depth 0 there is none -/
def spRec (sp : Nat → Sp) : Nat → Sp
  | 0 => fun _ _ _ _ => False
  | d + 1 => sp d
def spSiz (K : PySem.W.Frag) (d : Nat) : Sp := fun vs H Q _ => ∃ (t : Addr) (v : Spc) (n : Nat), vs = [.ref t] ∧ SpcAt K H t v ∧ SpcOk n 8 v ∧ v.dep ≤ d ∧ Q (.int v.wi.size) H
structure LhTxt (mg : Str → Option Value) (fSz : Addr) : Prop where
  siz : mg "_law_size" = some (.ref fSz)
  b_len : mg "len" = none
  b_int : mg "int" = none
section
variable {P : Program} {w : World} {K : PySem.W.Frag} {mg : Str → Option Value} {base : Heap}
theorem fn_never {f : Addr} {fd : FuncData} {ps : List Str} {k : Nat} : FnOk P w K mg base CX0 k f fd ps (fun _ _ _ _ => False) := ⟨fun _ _ _ _ h => h.elim, fun _ _ _ _ _ _ _ _ _ _ _ _ _ h => h.elim⟩
theorem scSiz : FnScope ["_law_spec"] ["_law_spec"] (defScope sSiz) := ⟨rfl, rfl, rfl, by decide +kernel, rfl, by decide +kernel, by decide +kernel⟩
set_option maxHeartbeats 0 in
theorem siz_step {fSz : Addr} {fd : FuncData} (F : Fun K "_law_size" "_law_size" sSiz fSz fd) (b : Binds K fd ["_law_spec"] []) (T : LhTxt mg fSz) {d : Nat} (hd3 : d ≤ 3) (GR : FnOk P w K mg base CX0 d fSz fd ["_law_spec"] (spRec (spSiz K) d)) : FnOk P w K mg base CX0 (d + 1) fSz fd ["_law_spec"] (spSiz K d) := by
  refine F.ok scSiz (fun vs H Q E h => ?_) (fun cdv A outer s H vs Q E hr h => ?_)
  · obtain ⟨t, v, n, rfl, _⟩ := h
    rfl
  · obtain ⟨t, v, n, rfl, h, ok, hd, k⟩ := h
    have hrd : Room d _ := hr
    refine ⟨_, (pss_cons (ps_if (pt_cmpR op_eq (pe_ix ix_tup (pv 0) pe_int (fun _ _ => rfl)) pe_str (nomark _)) (pss_one (ps_ret (pe_op op_mulW (pe_call GR hrd rfl T.siz F.kp b .nil pass0 (pa_cons (pe_ix ix_tup (pv 0) pe_int (fun _ _ => rfl)) pa_nil)) (pe_call GR hrd rfl T.siz F.kp b .nil pass0 (pa_cons (pe_ix ix_tup (pv 0) pe_int (fun _ _ => rfl)) pa_nil))))) pss_nil)
      (pss_cons (ps_if (pt_cmpR op_eq (pe_ix ix_tup (pv 0) pe_int (fun _ _ => rfl)) pe_str (nomark _)) (pss_one (ps_ret pe_int)) pss_nil)
      (pss_cons (ps_if (pt_cmpR op_eq (pe_ix ix_tup (pv 0) pe_int (fun _ _ => rfl)) pe_str (nomark _)) (pss_one (ps_ret (pe_op op_add (pe_callB call_len_seq (by rfl) T.b_len PySem.boot_len (pa_cons (pe_ix ix_tup (pv 0) pe_int (fun _ _ => rfl)) pa_nil)) pe_int))) pss_nil)
      (pss_one (ps_ret pe_int))))), ?_⟩
    have ne : ∀ {a b : Str}, a ≠ b → decide (V.str a = V.str b) = false := str_ne
    cases v with
    | none =>
      refine ⟨_, rfl, t, _, 0, _, rfl, rfl, h, rfl, rfl, _, rfl, if_f (ne (by decide +kernel)) ?_⟩
      exact ⟨_, rfl, t, _, 0, _, rfl, rfl, h, rfl, rfl, _, rfl, if_t (decide_eq_true rfl) k⟩
    | all ps =>
      obtain ⟨p, h, _⟩ := h
      refine ⟨_, rfl, t, _, 0, _, rfl, rfl, h, rfl, rfl, _, rfl, if_f (ne (by decide +kernel)) ?_⟩
      refine ⟨_, rfl, t, _, 0, _, rfl, rfl, h, rfl, rfl, _, rfl, if_f (ne (by decide +kernel)) ?_⟩
      exact ⟨_, rfl, t, _, 0, _, rfl, rfl, h, rfl, rfl, _, rfl, if_f (ne (by decide +kernel)) k⟩
    | some ps =>
      obtain ⟨p, h, _⟩ := h
      refine ⟨_, rfl, t, _, 0, _, rfl, rfl, h, rfl, rfl, _, rfl, if_f (ne (by decide +kernel)) ?_⟩
      refine ⟨_, rfl, t, _, 0, _, rfl, rfl, h, rfl, rfl, _, rfl, if_f (ne (by decide +kernel)) ?_⟩
      exact ⟨_, rfl, t, _, 0, _, rfl, rfl, h, rfl, rfl, _, rfl, if_f (ne (by decide +kernel)) k⟩
    | band p cs =>
      obtain ⟨c, h, e⟩ := h
      refine ⟨_, rfl, t, _, 0, _, rfl, rfl, h, rfl, rfl, _, rfl, if_f (ne (by decide +kernel)) ?_⟩
      refine ⟨_, rfl, t, _, 0, _, rfl, rfl, h, rfl, rfl, _, rfl, if_f (ne (by decide +kernel)) ?_⟩
      refine ⟨_, rfl, t, _, 0, _, rfl, rfl, h, rfl, rfl, _, rfl, if_t (decide_eq_true rfl) ?_⟩
      refine ⟨_, rfl, t, _, 2, _, rfl, rfl, h, rfl, c, _, rfl, .inl (SqL.of e), _, _, rfl, rfl, ?_⟩
      rw [List.length_map]
      exact k
    | both x y =>
      obtain ⟨ta, tb, h, hx, hy⟩ := h
      obtain ⟨ox, oy⟩ := ok
      have hd : max x.dep y.dep + 1 ≤ d := hd
      refine ⟨_, rfl, t, _, 0, _, rfl, rfl, h, rfl, rfl, _, rfl, if_t (decide_eq_true rfl) ?_⟩
      cases d with
      | zero => omega
      | succ d =>
        refine ⟨_, rfl, t, _, 1, _, rfl, rfl, h, rfl, ta, x, n, rfl, hx, ox, by omega, _, rfl, t, _, 2, _, rfl, rfl, h, rfl, tb, y, n, rfl, hy, oy, by omega, _, _, rfl, rfl, mulW (Spc.szS ox (by omega)) (Spc.szS oy (by omega)), k⟩
theorem ok_siz {fSz : Addr} {fd : FuncData} (F : Fun K "_law_size" "_law_size" sSiz fSz fd) (b : Binds K fd ["_law_spec"] []) (T : LhTxt mg fSz) : ∀ d : Nat, d ≤ 3 → FnOk P w K mg base CX0 (d + 1) fSz fd ["_law_spec"] (spSiz K d)
  | 0, h => siz_step F b T h fn_never
  | d + 1, h => siz_step F b T h (ok_siz F b T d (by omega))
end
end Law

/-! The law's three wishes of eight. -/
namespace Law
open PySem PySem.Spec PyProof.Rows L2 Sup
abbrev sEgt : Stmt := top 26
def EgAt (K : PySem.W.Frag) (CT : Addr) (C : WCls) (H : Hp) (n : Nat) (q : Addr) (v : Spc) : Prop := ∃ (x u : Addr), H q = some (.tup [.ref x, .ref u]) ∧ WiAt K CT C H x v.wi ∧ SpcAt K H u v ∧ SpcOk n 8 v ∧ v.dep = 0
theorem EgAt.same {K : PySem.W.Frag} {CT : Addr} {C : WCls} {H H' : Hp} {n : Nat} {q : Addr} {v : Spc} (h : EgAt K CT C H n q v) (s : Same H H') : EgAt K CT C H' n q v := by
  obtain ⟨x, u, a, b, c, d⟩ := h
  exact ⟨x, u, s _ _ a, b.same s, SpcAt.same s c, d⟩
theorem EgAt.draw {K : PySem.W.Frag} {CT : Addr} {C : WCls} {H H' : Hp} {b l : Addr} {n : Nat} {q : Addr} {v : Spc} (h : EgAt K CT C H n q v) (B : Box H b l) (s : SameB b H H') : EgAt K CT C H' n q v := by
  obtain ⟨x, u, a, e, c, d⟩ := h
  exact ⟨x, u, s _ _ (B.neT a) a, e.draw B s, SpcAt.draw B s c, d⟩
def spEgt (K : PySem.W.Frag) (CT : Addr) (C : WCls) : Sp := fun vs H Q _ => ∃ (b l t : Addr) (hs : List Int), vs = [.ref b, .ref t] ∧ Box H b l ∧ H t = some (.lst (hs.map V.int)) ∧ TrOk hs ∧
  ∀ (r q1 q2 q3 : Addr) (v1 v2 v3 : Spc) (H' : Hp), H' r = some (.lst [.ref q1, .ref q2, .ref q3]) → EgAt K CT C H' hs.length q1 v1 → EgAt K CT C H' hs.length q2 v2 → EgAt K CT C H' hs.length q3 v3 → Box H' b l → SameB b H H' → Q (.ref r) H'
section
variable {P : Program} {w : World} {K : PySem.W.Frag} {mg : Str → Option Value} {base : Heap} {CT CB : Addr} {C : WCls}
theorem scEgt : FnScope ["_law_box_here", "_law_truth", "_law_pairs_here", "_law_cuts", "_law_level", "_law_k", "_law_place", "_law_a", "_law_b", "_law_c", "_law_d", "_law_f", "_law_g", "_law_h", "_law_i", "_law_every", "_law_some", "_law_band_here"] ["_law_box_here", "_law_truth"] (defScope sEgt) := ⟨rfl, rfl, rfl, by decide +kernel, rfl, by decide +kernel, by decide +kernel⟩
set_option maxHeartbeats 0 in
theorem ok_egt {f fT fA fS fB : Addr} {fd fdT : FuncData} (F : Fun K "_law_eight" "_law_eight" sEgt f fd) (T : LfTxt mg C fT)
    (GT : FnOk P w K mg base CX0 1 fT fdT ["_law_box_here", "_law_size_here"] spTake) (FT : Fun K "_law_take" "_law_take" sTake fT fdT) (bT : Binds K fdT ["_law_box_here", "_law_size_here"] [])
    (MKA : Mk K C.A fA) (GA : FnR P w K mg base CX0 3 fA (spMny K CT C 1)) (MKS : Mk K C.S fS) (GS : FnR P w K mg base CX0 3 fS (spMny K CT C 2)) (MKB : Mk K C.B fB) (GB : FnR P w K mg base (L2.CX P w) 4 fB (spBnd K CT CB C)) : FnOk P w K mg base CX0 6 f fd ["_law_box_here", "_law_truth"] (spEgt K CT C) := by
  refine F.ok scEgt (fun vs H Q E h => ?_) (fun cdv A outer s H vs Q E hr h => ?_)
  · obtain ⟨b, l, t, hs, rfl, _⟩ := h
    rfl
  · obtain ⟨b, l, t, hs, rfl, B, ht, tr, k⟩ := h
    have hr5 : Room 5 _ := hr
    have hr4 : Room 4 _ := hr.mono (by decide)
    have hr1 : Room 1 _ := hr.mono (by decide)
    have szf : ∀ {z : Int}, 0 ≤ z → z ≤ 1000 → z.natAbs < 2 ^ 8000 := fun {z} a b => Nat.lt_of_le_of_lt (show z.natAbs ≤ 1000 by omega) (by decide +kernel)
    obtain ⟨l1, l5, hh⟩ := id tr
    have lh : (hs.map V.int).length = hs.length := List.length_map ..
    refine ⟨_, (C8.pss_cut (ps_set (i := 2) scEgt.nd rfl (Or.inl rfl) (pe_lst pa_nil))
      (C8.pss_cut (ps_set (i := 3) scEgt.nd rfl (Or.inl rfl) (pe_lst pa_nil))
      (pss_cons (ps_set (i := 4) scEgt.nd rfl (Or.inl rfl) (pe_op op_sub (pe_ix ix_list (pv 1) pe_int (fun _ _ => rfl)) pe_int))
      (C8.pss_cut (ps_for PassesOwn.never rfl (pi_range1 (by rfl) T.b_range (pa_cons pe_int pa_nil)) (pg_name (i := 5) scEgt.nd rfl (Or.inl rfl)) (pss_cons (ps_set (i := 6) scEgt.nd rfl (Or.inl rfl) (pe_call GT hr1 rfl T.take FT.kp bT .nil pass0 (pa_cons (pv 0) (pa_cons (pe_callB call_len_seq (by rfl) T.b_len PySem.boot_len (pa_cons (pv 1) pa_nil)) pa_nil))))
      (pss_cons (ps_expr (pe_bm PySem.F.plainAttrs_list PySem.F.slot_list_append PySem.F.type_list_append mt_append (pv 2) (pa_cons (pe_tup (pa_cons (pv 6) (pa_cons (pe_op op_add (pe_ix ix_list (pv 1) (pv 6) (fun _ _ => rfl)) (pe_call GT hr1 rfl T.take FT.kp bT .nil pass0 (pa_cons (pv 0) (pa_cons pe_int pa_nil)))) pa_nil))) pa_nil)))
      (pss_cons (ps_expr (pe_bm PySem.F.plainAttrs_list PySem.F.slot_list_append PySem.F.type_list_append mt_append (pv 3) (pa_cons (pv 4) pa_nil)))
      (pss_one (ps_set (i := 4) scEgt.nd rfl (Or.inl rfl) (pe_op op_add (pe_op op_add (pv 4) pe_int) (pe_call GT hr1 rfl T.take FT.kp bT .nil pass0 (pa_cons (pv 0) (pa_cons pe_int pa_nil))))))))))
      (pss_cons (ps_asg (pe_slice sl_list (pv 2) po_none (po_some pe_int)) (pg_unl (by rfl) (pgs_cons (pg_name (i := 7) scEgt.nd rfl (Or.inl rfl)) (pgs_cons (pg_name (i := 8) scEgt.nd rfl (Or.inl rfl)) (pgs_cons (pg_name (i := 9) scEgt.nd rfl (Or.inl rfl)) (pgs_cons (pg_name (i := 10) scEgt.nd rfl (Or.inl rfl)) pgs_nil))))))
      (C8.pss_cut (ps_asg (pe_slice sl_list (pv 2) (po_some pe_int) po_none) (pg_unl (by rfl) (pgs_cons (pg_name (i := 11) scEgt.nd rfl (Or.inl rfl)) (pgs_cons (pg_name (i := 12) scEgt.nd rfl (Or.inl rfl)) (pgs_cons (pg_name (i := 13) scEgt.nd rfl (Or.inl rfl)) (pgs_cons (pg_name (i := 14) scEgt.nd rfl (Or.inl rfl)) pgs_nil))))))
      (C8.pss_cut (ps_set (i := 15) scEgt.nd rfl (Or.inl rfl) (Own.pe_makeS (E := fun _ => E0) MKA GA hr4 rfl T.allw (passS pass0) (pa_cons (pv 7) (pa_cons (pv 8) (pa_cons (pv 9) (pa_cons (pv 10) (pa_cons (pv 11) (pa_cons (pv 12) (pa_cons (pv 13) (pa_cons (pv 14) pa_nil))))))))))
      (C8.pss_cut (ps_set (i := 16) scEgt.nd rfl (Or.inl rfl) (Own.pe_makeS (E := fun _ => E0) MKS GS hr4 rfl T.somw (passS pass0) (pa_cons (pv 7) (pa_cons (pv 8) (pa_cons (pv 9) (pa_cons (pv 10) (pa_cons (pv 11) (pa_cons (pv 12) (pa_cons (pv 13) (pa_cons (pv 14) pa_nil))))))))))
      (pss_cons (ps_asg (pe_slice sl_list (pv 3) po_none (po_some pe_int)) (pg_unl (by rfl) (pgs_cons (pg_name (i := 7) scEgt.nd rfl (Or.inl rfl)) (pgs_cons (pg_name (i := 8) scEgt.nd rfl (Or.inl rfl)) (pgs_cons (pg_name (i := 9) scEgt.nd rfl (Or.inl rfl)) (pgs_cons (pg_name (i := 10) scEgt.nd rfl (Or.inl rfl)) pgs_nil))))))
      (C8.pss_cut (ps_asg (pe_slice sl_list (pv 3) (po_some pe_int) po_none) (pg_unl (by rfl) (pgs_cons (pg_name (i := 11) scEgt.nd rfl (Or.inl rfl)) (pgs_cons (pg_name (i := 12) scEgt.nd rfl (Or.inl rfl)) (pgs_cons (pg_name (i := 13) scEgt.nd rfl (Or.inl rfl)) (pgs_cons (pg_name (i := 14) scEgt.nd rfl (Or.inl rfl)) pgs_nil))))))
      (C8.pss_cut (ps_set (i := 17) scEgt.nd rfl (Or.inl rfl) (Own.pe_makeS (E := fun _ => E0) MKB GB hr5 rfl T.band (passS passL) (pa_cons pe_int (pa_cons (pv 7) (pa_cons (pv 8) (pa_cons (pv 9) (pa_cons (pv 10) (pa_cons (pv 11) (pa_cons (pv 12) (pa_cons (pv 13) (pa_cons (pv 14) pa_nil)))))))))))
      (pss_one (ps_ret (pe_lst (pa_cons (pe_tup (pa_cons (pv 15) (pa_cons (pe_tup (pa_cons pe_str (pa_cons (pv 2) pa_nil))) pa_nil))) (pa_cons (pe_tup (pa_cons (pv 16) (pa_cons (pe_tup (pa_cons pe_str (pa_cons (pv 2) pa_nil))) pa_nil))) (pa_cons (pe_tup (pa_cons (pv 17) (pa_cons (pe_tup (pa_cons pe_str (pa_cons pe_int (pa_cons (pv 3) pa_nil)))) pa_nil))) pa_nil))))))))))))))))), ?_⟩
    refine ⟨fun σ' H' => ∃ D : Addr, σ' = [some (.ref b), some (.ref t), some (.ref D), none, none, none, none, none, none, none, none, none, none, none, none, none, none, none] ∧ H D = none ∧ Same H H' ∧ H' D = some (.lst (([] : List Addr).map V.ref)), ?_, ?_⟩
    · exact ⟨by show 0 ≤ sizeLine; decide, fun D hD => ⟨D, rfl, hD, same_new hD, upd_same⟩⟩
    rintro σ' H1 ⟨D, rfl, hD, S1, e1⟩
    have fr := B.free hD
    have B1 := B.same S1
    refine ⟨fun σ' H' => ∃ E : Addr, σ' = [some (.ref b), some (.ref t), some (.ref D), some (.ref E), none, none, none, none, none, none, none, none, none, none, none, none, none, none] ∧ H1 E = none ∧ Same H1 H' ∧ H' E = some (.lst (([] : List Int).map V.int)), ?_, ?_⟩
    · exact ⟨by show 0 ≤ sizeLine; decide, fun D hD => ⟨D, rfl, hD, same_new hD, upd_same⟩⟩
    rintro σ' H2 ⟨E1, rfl, hE, S2, e2⟩
    have fr2 := B1.free hE
    have B2 := B1.same S2
    have S02 : SameB b H H2 := SameB.of_same (same_tr S1 S2)
    have nDE : D ≠ E1 := fun z => by rw [← z, e1] at hE; cases hE
    obtain ⟨g0, g1⟩ := hAt_le (p := 0) tr (by decide) (by omega)
    refine ⟨_, rfl, t, _, 0, _, rfl, rfl, SqL.of (S02 _ _ (B.neZ ht) ht), at_hAt (by decide) (by omega), _, _, rfl, rfl, ?_⟩
    have d2 := S2 _ _ e1
    refine ⟨fun σ' H' => ∃ (ts : List Addr) (ps : List (Int × Int)) (cs : List Int) (v4 v5 v6 : Option V), σ' = [some (.ref b), some (.ref t), some (.ref D), some (.ref E1), v4, v5, v6, none, none, none, none, none, none, none, none, none, none, none] ∧ Box H' b l ∧ SameB b H H' ∧ H' D = some (.lst (ts.map V.ref)) ∧ H' E1 = some (.lst (cs.map V.int)) ∧ ts.length = ps.length ∧ (∀ (i : Nat) (u : Addr) (q : Int × Int), ts[i]? = some u → ps[i]? = some q → H' u = some (.tup [.int q.1, .int q.2])) ∧ (∀ q ∈ ps, PrOk hs.length q) ∧ ps.length = 8 ∧ (∀ c ∈ cs, Sz c) ∧ badC cs = none ∧ cs.length = 8, ?_, ?_⟩
    · refine ⟨8, rfl, by decide, by decide, ?_⟩
      refine for_it (walk_range (lo := 0) (n := 8)) (fun i σ' H' => ∃ (ts : List Addr) (ps : List (Int × Int)) (cs : List Int) (lv : Int) (v5 v6 : Option V), σ' = [some (.ref b), some (.ref t), some (.ref D), some (.ref E1), some (.int lv), v5, v6, none, none, none, none, none, none, none, none, none, none, none] ∧ Box H' b l ∧ SameB b H H' ∧ H' D = some (.lst (ts.map V.ref)) ∧ H' E1 = some (.lst (cs.map V.int)) ∧ ts.length = ps.length ∧ (∀ (i : Nat) (u : Addr) (q : Int × Int), ts[i]? = some u → ps[i]? = some q → H' u = some (.tup [.int q.1, .int q.2])) ∧ (∀ q ∈ ps, PrOk hs.length q) ∧ ps.length = i ∧ (∀ c ∈ cs, -9 ≤ c ∧ c ≤ 10 ^ 20 + 100 ∧ c < lv) ∧ badC cs = none ∧ cs.length = i ∧ -9 ≤ lv ∧ lv ≤ 10 ^ 20 + 4 * (i : Int))
        ⟨[], [], [], _, _, _, rfl, B2, S02, d2, e2, rfl, fun i u q e => (nomatch e), fun q h => (nomatch h), rfl, fun c h => (nomatch h), rfl, rfl, by omega, by omega⟩ (fun _ _ _ _ _ => trivial) ?_ ?_
      · rintro i x σ' H3 H4 hi ⟨ts, ps, cs, lv, v5, v6, rfl, B4, S4, d4, e4, tl, tu, tp, pl, hc, hb, cl, lv0, lv1⟩ ⟨rfl, rfl⟩
        have t4 := S4 _ _ (B.neZ ht) ht
        refine ⟨_, rfl, _, rfl, t, _, rfl, .inl (SqL.of t4), b, l, _, rfl, B4, by omega, by rw [lh]; exact szf (by omega) (by omega), fun pl0 H5 p0 p1 B5 k5 => ?_⟩
        rw [lh] at p1
        have S5 := S4.trans (SameB.of k5)
        have t5 := S5 _ _ (B.neZ ht) ht
        obtain ⟨q0, q1⟩ := hAt_le tr p0 p1
        have d5 : H5 D = some (.lst (ts.map V.ref)) := by rw [k5 _ fun z => fr.1 z.symm]; exact d4
        have e5 : H5 E1 = some (.lst (cs.map V.int)) := by rw [k5 _ fun z => fr2.1 z.symm]; exact e4
        refine ⟨_, rfl, .inl ⟨rfl, _, SqL.of d5⟩, _, rfl, _, rfl, _, rfl, t, _, _, _, rfl, rfl, SqL.of t5, at_hAt p0 p1, _, rfl, b, l, 3, rfl, B5, by decide, by decide, fun y H6 y0 y1 B6 k6 => ⟨_, _, rfl, rfl, by show 2 ≤ sizeLine; decide, fun u hu => ?_⟩⟩
        have d6 : H6 D = some (.lst (ts.map V.ref)) := by rw [k6 _ fun z => fr.1 z.symm]; exact d5
        have e6 : H6 E1 = some (.lst (cs.map V.int)) := by rw [k6 _ fun z => fr2.1 z.symm]; exact e5
        have S6 := S5.trans (SameB.of k6)
        have vb : Sz (hAt hs pl0 + y) := sz_small (Nat.le_trans (show (hAt hs pl0 + y).natAbs ≤ 10 ^ 20 + 3 by omega) (by decide +kernel))
        have T6 : ∀ (i : Nat) (u : Addr) (q : Int × Int), ts[i]? = some u → ps[i]? = some q → H6 u = some (.tup [.int q.1, .int q.2]) := fun i u q e f => by
          have h4 := tu i u q e f
          have n := B4.neT h4
          rw [k6 _ n, k5 _ n]
          exact h4
        have su := same_new (o := .tup [V.int pl0, V.int (hAt hs pl0 + y)]) hu
        have eu : upd H6 u (.tup [V.int pl0, V.int (hAt hs pl0 + y)]) u = some (.tup [V.int pl0, V.int (hAt hs pl0 + y)]) := upd_same
        have BA := B6.same su
        have dA := su _ _ d6
        have eA := su _ _ e6
        have SA := S6.trans (SameB.of_same su)
        have TA' : ∀ (i : Nat) (z : Addr) (q : Int × Int), (ts ++ [u])[i]? = some z → (ps ++ [(pl0, hAt hs pl0 + y)])[i]? = some q → upd H6 u (.tup [V.int pl0, V.int (hAt hs pl0 + y)]) z = some (.tup [.int q.1, .int q.2]) := fun j c q e1 e2 => by
          by_cases cj : j < ts.length
          · rw [List.getElem?_append_left cj] at e1
            rw [List.getElem?_append_left (by rw [← tl]; exact cj)] at e2
            exact su _ _ (T6 j c q e1 e2)
          · rw [List.getElem?_append_right (by omega)] at e1
            rw [List.getElem?_append_right (by rw [← tl]; omega), ← tl] at e2
            have z0 : j - ts.length = 0 := by
              have := (List.getElem?_eq_some_iff.mp e1).1
              have this : j - ts.length < 1 := this
              omega
            rw [z0] at e1 e2
            cases e1
            cases e2
            exact eu
        generalize upd H6 u (.tup [V.int pl0, V.int (hAt hs pl0 + y)]) = HA at su eu BA dA eA SA TA' ⊢
        refine ⟨D, _, _, rfl, rfl, dA, small1000 (by rw [List.length_map]; omega), ?_⟩
        have eB : upd HA D (.lst (ts.map V.ref ++ [V.ref u])) E1 = some (.lst (cs.map V.int)) := by rw [upd_ne nDE.symm]; exact eA
        have dB : upd HA D (.lst (ts.map V.ref ++ [V.ref u])) D = some (.lst ((ts ++ [u]).map V.ref)) := by rw [upd_same, List.map_append]; rfl
        have BB : Box (upd HA D (.lst (ts.map V.ref ++ [V.ref u]))) b l := BA.at fr
        have SB : SameB b H (upd HA D (.lst (ts.map V.ref ++ [V.ref u]))) := fun c o n e => by
          rw [upd_ne (ne_of_none e hD)]
          exact SA _ _ n e
        have TB' : ∀ (i : Nat) (z : Addr) (q : Int × Int), (ts ++ [u])[i]? = some z → (ps ++ [(pl0, hAt hs pl0 + y)])[i]? = some q → upd HA D (.lst (ts.map V.ref ++ [V.ref u])) z = some (.tup [.int q.1, .int q.2]) := fun j c q e1 e2 => by
          have key := TA' j c q e1 e2
          rw [upd_ne (fun z => by rw [z, dA] at key; cases key)]
          exact key
        generalize upd HA D (.lst (ts.map V.ref ++ [V.ref u])) = HB at eB dB BB SB TB' ⊢
        refine ⟨_, rfl, .inl ⟨rfl, _, SqL.of eB⟩, _, rfl, E1, _, _, rfl, rfl, eB, small1000 (by rw [List.length_map]; omega), ?_⟩
        have hE0 : H E1 = none := by
          cases e : H E1 with
          | none => rfl
          | some o => rw [S1 _ _ e] at hE; cases hE
        have eC : upd HB E1 (.lst (cs.map V.int ++ [V.int lv])) E1 = some (.lst ((cs ++ [lv]).map V.int)) := by rw [upd_same, List.map_append]; rfl
        have dC : upd HB E1 (.lst (cs.map V.int ++ [V.int lv])) D = some (.lst ((ts ++ [u]).map V.ref)) := by rw [upd_ne nDE]; exact dB
        have BC : Box (upd HB E1 (.lst (cs.map V.int ++ [V.int lv]))) b l := BB.at fr2
        have SC : SameB b H (upd HB E1 (.lst (cs.map V.int ++ [V.int lv]))) := fun c o n e => by
          rw [upd_ne (ne_of_none e hE0)]
          exact SB _ _ n e
        have TC : ∀ (i : Nat) (z : Addr) (q : Int × Int), (ts ++ [u])[i]? = some z → (ps ++ [(pl0, hAt hs pl0 + y)])[i]? = some q → upd HB E1 (.lst (cs.map V.int ++ [V.int lv])) z = some (.tup [.int q.1, .int q.2]) := fun j c q e1 e2 => by
          have key := TB' j c q e1 e2
          rw [upd_ne (fun z => by rw [z, eB] at key; cases key)]
          exact key
        generalize upd HB E1 (.lst (cs.map V.int ++ [V.int lv])) = HC at eC dC BC SC TC ⊢
        refine ⟨_, rfl, _, _, rfl, rfl, _, rfl, b, l, 4, rfl, BC, by decide, by decide, fun z HD z0 z1 BD kD => ⟨_, _, rfl, rfl, ?_⟩⟩
        refine ⟨ts ++ [u], ps ++ [(pl0, hAt hs pl0 + y)], cs ++ [lv], lv + 1 + z, _, _, rfl, BD, SC.trans (SameB.of kD), by rw [kD _ fun z => fr.1 z.symm]; exact dC, by rw [kD _ fun z => fr2.1 z.symm]; exact eC, by rw [List.length_append, List.length_append, tl]; rfl, fun j c q e1 e2 => ?_, fun q hq => ?_, by rw [List.length_append, pl]; rfl, fun c h => ?_, badC_app hb fun c h => (hc c h).2.2, by rw [List.length_append, cl]; rfl, by omega, by omega⟩
        · have key := TC j c q e1 e2
          rw [kD _ (BC.neT key)]
          exact key
        · rcases List.mem_append.mp hq with h | h
          · exact tp q h
          · rw [List.mem_singleton] at h
            rw [h]
            exact ⟨p0, p1, vb⟩
        · rcases List.mem_append.mp h with h | h
          · obtain ⟨a1, a2, a3⟩ := hc c h
            exact ⟨a1, a2, by omega⟩
          · rw [List.mem_singleton] at h
            subst h
            exact ⟨by omega, by omega, by omega⟩
      · rintro σ' H3 ⟨ts, ps, cs, lv, v5, v6, rfl, B3, S3, d3, e3, tl, tu, tp, pl, hc, hb, cl, _, _⟩
        refine ⟨ts, ps, cs, _, _, _, rfl, B3, S3, d3, e3, tl, tu, tp, pl, fun c h => ?_, hb, cl⟩
        obtain ⟨a1, a2, _⟩ := hc c h
        exact sz_small (Nat.le_trans (show c.natAbs ≤ 10 ^ 20 + 100 by omega) (by decide +kernel))
    rintro σ' H3 ⟨ts, ps, cs, v4, v5, v6, rfl, B3, S3, d3, e3, tl, tu, tp, p8, hz, hb, c8⟩
    have pr3 : PrsAt K H3 D ps := ⟨ts, d3, tl, fun i u q e f => SqT.of (tu i u q e f)⟩
    clear S02 S1 S2 e1 e2 d2 B1 B2
    rw [← tl] at p8
    match ts, cs, p8, c8, tl, tu, d3, e3, hz, hb with
    | [a1, a2, a3, a4, a5, a6, a7, a8], [c1, c2, c3, c4, c5, c6, c7, c8], _, _, tl, tu, d3, e3, hz, hb =>
      have x4 : ∀ (y1 y2 y3 y4 y5 y6 y7 y8 : V), cutV [y1, y2, y3, y4, y5, y6, y7, y8] none (some 4) = [y1, y2, y3, y4] := fun _ _ _ _ _ _ _ _ => rfl
      have x5 : ∀ (y1 y2 y3 y4 y5 y6 y7 y8 : V), cutV [y1, y2, y3, y4, y5, y6, y7, y8] (some 4) none = [y5, y6, y7, y8] := fun _ _ _ _ _ _ _ _ => rfl
      refine ⟨_, rfl, 4, rfl, D, _, rfl, SqL.of d3, fun L hL => ⟨L, [.ref a1, .ref a2, .ref a3, .ref a4], rfl, SqL.of (by rw [upd_same]; exact congrArg (fun z => some (HO.lst z)) (x4 ..)), rfl, _, _, rfl, _, _, rfl, _, _, rfl, _, _, rfl, rfl, ?_⟩⟩
      have sL := same_new (o := .lst (cutV (([a1, a2, a3, a4, a5, a6, a7, a8] : List Addr).map V.ref) none (some 4))) hL
      have B4 := B3.same sL
      have S4 := S3.trans (SameB.of_same sL)
      have d4 := sL _ _ d3
      have e4 := sL _ _ e3
      have pr4 := pr3.same sL
      generalize upd H3 L (.lst (cutV (([a1, a2, a3, a4, a5, a6, a7, a8] : List Addr).map V.ref) none (some 4))) = H4 at sL B4 S4 d4 e4 pr4 ⊢
      refine ⟨fun σ' H' => σ' = [some (.ref b), some (.ref t), some (.ref D), some (.ref E1), v4, v5, v6, some (.ref a1), some (.ref a2), some (.ref a3), some (.ref a4), some (.ref a5), some (.ref a6), some (.ref a7), some (.ref a8), none, none, none] ∧ Same H4 H', ?_, ?_⟩
      · exact ⟨_, rfl, 4, rfl, D, _, rfl, SqL.of d4, fun L hL => ⟨L, [.ref a5, .ref a6, .ref a7, .ref a8], rfl, SqL.of (by rw [upd_same]; exact congrArg (fun z => some (HO.lst z)) (x5 ..)), rfl, _, _, rfl, _, _, rfl, _, _, rfl, _, _, rfl, rfl, rfl, same_new hL⟩⟩
      rintro σ' H5 ⟨rfl, sL5⟩
      have s35 := same_tr sL sL5
      have tq : ∀ {H' : Hp}, Same H5 H' → ∀ (i : Nat) (u : Addr) (q : Int × Int), [a1, a2, a3, a4, a5, a6, a7, a8][i]? = some u → ps[i]? = some q → SqT K H' u [.int q.1, .int q.2] := fun s i u q e f => sqT_same (SqT.of (tu i u q e f)) (same_tr s35 s)
      have p100 : ps.length ≤ 100 := by rw [← tl]; show 8 ≤ 100; decide
      refine ⟨fun σ' H' => ∃ xA : Addr, σ' = [some (.ref b), some (.ref t), some (.ref D), some (.ref E1), v4, v5, v6, some (.ref a1), some (.ref a2), some (.ref a3), some (.ref a4), some (.ref a5), some (.ref a6), some (.ref a7), some (.ref a8), some (.ref xA), none, none] ∧ WiAt K CT C H' xA (.all ps) ∧ Same H5 H', ?_, ?_⟩
      · exact ⟨_, rfl, _, rfl, _, rfl, _, rfl, _, rfl, _, rfl, _, rfl, _, rfl, mk_mny (ts := [a1, a2, a3, a4, a5, a6, a7, a8]) (v := .all ps) rfl (.inl rfl) tl (tq same_rfl) p100 fun x H6 _ S w => ⟨x, rfl, w, S⟩⟩
      rintro σ' H6 ⟨xA, rfl, wA, s6⟩
      refine ⟨fun σ' H' => ∃ xS : Addr, σ' = [some (.ref b), some (.ref t), some (.ref D), some (.ref E1), v4, v5, v6, some (.ref a1), some (.ref a2), some (.ref a3), some (.ref a4), some (.ref a5), some (.ref a6), some (.ref a7), some (.ref a8), some (.ref xA), some (.ref xS), none] ∧ WiAt K CT C H' xS (.some ps) ∧ Same H6 H', ?_, ?_⟩
      · exact ⟨_, rfl, _, rfl, _, rfl, _, rfl, _, rfl, _, rfl, _, rfl, _, rfl, mk_mny (ts := [a1, a2, a3, a4, a5, a6, a7, a8]) (v := .some ps) rfl (.inr rfl) tl (tq s6) p100 fun x H6 _ S w => ⟨x, rfl, w, S⟩⟩
      rintro σ' H7 ⟨xS, rfl, wS, s7⟩
      have s47 := same_tr sL5 (same_tr s6 s7)
      have e7 := s47 _ _ e4
      refine ⟨_, rfl, 4, rfl, E1, _, rfl, SqL.of e7, fun L hL => ⟨L, [.int c1, .int c2, .int c3, .int c4], rfl, SqL.of (by rw [upd_same]; exact congrArg (fun z => some (HO.lst z)) (x4 ..)), rfl, _, _, rfl, _, _, rfl, _, _, rfl, _, _, rfl, rfl, ?_⟩⟩
      have sM := same_new (o := .lst (cutV (([c1, c2, c3, c4, c5, c6, c7, c8] : List Int).map V.int) none (some 4))) hL
      generalize upd H7 L (.lst (cutV (([c1, c2, c3, c4, c5, c6, c7, c8] : List Int).map V.int) none (some 4))) = H8 at sM ⊢
      refine ⟨fun σ' H' => σ' = [some (.ref b), some (.ref t), some (.ref D), some (.ref E1), v4, v5, v6, some (.int c1), some (.int c2), some (.int c3), some (.int c4), some (.int c5), some (.int c6), some (.int c7), some (.int c8), some (.ref xA), some (.ref xS), none] ∧ Same H8 H', ?_, ?_⟩
      · exact ⟨_, rfl, 4, rfl, E1, _, rfl, SqL.of (sM _ _ e7), fun L hL => ⟨L, [.int c5, .int c6, .int c7, .int c8], rfl, SqL.of (by rw [upd_same]; exact congrArg (fun z => some (HO.lst z)) (x5 ..)), rfl, _, _, rfl, _, _, rfl, _, _, rfl, _, _, rfl, rfl, rfl, same_new hL⟩⟩
      rintro σ' H9 ⟨rfl, s9⟩
      refine ⟨fun σ' H' => ∃ xB : Addr, σ' = [some (.ref b), some (.ref t), some (.ref D), some (.ref E1), v4, v5, v6, some (.int c1), some (.int c2), some (.int c3), some (.int c4), some (.int c5), some (.int c6), some (.int c7), some (.int c8), some (.ref xA), some (.ref xS), some (.ref xB)] ∧ WiAt K CT C H' xB (.band 0 [c1, c2, c3, c4, c5, c6, c7, c8]) ∧ Same H9 H', ?_, ?_⟩
      · exact ⟨_, rfl, _, rfl, _, rfl, _, rfl, _, rfl, _, rfl, _, rfl, _, rfl, mk_bnd (cs := [c1, c2, c3, c4, c5, c6, c7, c8]) (by show 8 ≤ 100; decide) hz (fun c e => by rw [hb] at e; cases e) (fun _ x H2 _ s w => ⟨x, rfl, w, s⟩)⟩
      rintro σ' HA ⟨xB, rfl, wB, sA⟩
      have s7A := same_tr sM (same_tr s9 sA)
      have s4A := same_tr s47 s7A
      have wS' := wS.same s7A
      have wA' := wA.same (same_tr s7 s7A)
      have pr := pr4.same s4A
      have eA := s4A _ _ e4
      have BA := B4.same s4A
      have SA := S4.trans (SameB.of_same s4A)
      have ok8 : ps.length ≤ 8 := by rw [← tl]; show 8 ≤ 8; decide
      clear s7A s4A wS wA s35 tq e7 s47 sM s9 sA sL5 s6 s7 sL d4 e4 pr4 B4 S4
      refine ⟨_, rfl, _, rfl, by show 2 ≤ sizeLine; decide, fun u1 hu1 => ⟨by show 2 ≤ sizeLine; decide, fun q1 hq1 => ?_⟩⟩
      have t1 := same_new (o := .tup [V.str "all", V.ref D]) hu1
      have t2 := same_new (o := .tup [V.ref xA, V.ref u1]) hq1
      have g1 : EgAt K CT C (upd (upd HA u1 (.tup [V.str "all", V.ref D])) q1 (.tup [V.ref xA, V.ref u1])) hs.length q1 (.all ps) := ⟨xA, u1, upd_same, (wA'.same t1).same t2, ⟨D, SqT.of (t2 _ _ upd_same), (pr.same t1).same t2⟩, ⟨ok8, tp⟩, rfl⟩
      have t12 := same_tr t1 t2
      generalize upd (upd HA u1 (.tup [V.str "all", V.ref D])) q1 (.tup [V.ref xA, V.ref u1]) = HB at g1 t12 ⊢
      clear t1 t2 hq1 hu1
      refine ⟨_, rfl, _, rfl, by show 2 ≤ sizeLine; decide, fun u2 hu2 => ⟨by show 2 ≤ sizeLine; decide, fun q2 hq2 => ?_⟩⟩
      have t1 := same_new (o := .tup [V.str "some", V.ref D]) hu2
      have t2 := same_new (o := .tup [V.ref xS, V.ref u2]) hq2
      have g2 : EgAt K CT C (upd (upd HB u2 (.tup [V.str "some", V.ref D])) q2 (.tup [V.ref xS, V.ref u2])) hs.length q2 (.some ps) := ⟨xS, u2, upd_same, ((wS'.same t12).same t1).same t2, ⟨D, SqT.of (t2 _ _ upd_same), ((pr.same t12).same t1).same t2⟩, ⟨ok8, tp⟩, rfl⟩
      have g1 := g1.same (same_tr t1 t2)
      have t12 := same_tr t12 (same_tr t1 t2)
      generalize upd (upd HB u2 (.tup [V.str "some", V.ref D])) q2 (.tup [V.ref xS, V.ref u2]) = HC at g1 g2 t12 ⊢
      clear t1 t2 hq2 hu2
      refine ⟨_, rfl, _, rfl, by show 3 ≤ sizeLine; decide, fun u3 hu3 => ⟨by show 2 ≤ sizeLine; decide, fun q3 hq3 => ?_⟩⟩
      have t1 := same_new (o := .tup [V.str "band", V.int 0, V.ref E1]) hu3
      have t2 := same_new (o := .tup [V.ref xB, V.ref u3]) hq3
      have g3 : EgAt K CT C (upd (upd HC u3 (.tup [V.str "band", V.int 0, V.ref E1])) q3 (.tup [V.ref xB, V.ref u3])) hs.length q3 (.band 0 [c1, c2, c3, c4, c5, c6, c7, c8]) := ⟨xB, u3, upd_same, ((wB.same t12).same t1).same t2, ⟨E1, SqT.of (t2 _ _ upd_same), t2 _ _ (t1 _ _ (t12 _ _ eA))⟩, ⟨by show 8 ≤ 8; decide, by decide, by omega, hz, hb⟩, rfl⟩
      have g1 := g1.same (same_tr t1 t2)
      have g2 := g2.same (same_tr t1 t2)
      have t12 := same_tr t12 (same_tr t1 t2)
      generalize upd (upd HC u3 (.tup [V.str "band", V.int 0, V.ref E1])) q3 (.tup [V.ref xB, V.ref u3]) = HD at g1 g2 g3 t12 ⊢
      refine ⟨by show 3 ≤ sizeLine; decide, fun r hr' => ?_⟩
      have t := same_new (o := .lst [V.ref q1, V.ref q2, V.ref q3]) hr'
      exact k r q1 q2 q3 _ _ _ _ upd_same (g1.same t) (g2.same t) (g3.same t) (BA.same (same_tr t12 t)) (SA.trans (SameB.of_same (same_tr t12 t)))
end
end Law

/-! What the law says of a wish's cases. -/
namespace Law
open PySem PySem.Spec PyProof.Rows L2 Sup
abbrev sCas : Stmt := top 24
abbrev sSme : Stmt := top 25
def RwT (r : TRow) : List V := [.int r.1, .int r.2.1, .bl r.2.2]
def RwsAt (H : Hp) (l : Addr) (rows : List TRow) : Prop := ∃ us : List Addr, H l = some (.lst (us.map V.ref)) ∧ us.length = rows.length ∧ ∀ (i : Nat) (u : Addr) (r : TRow), us[i]? = some u → rows[i]? = some r → H u = some (.tup (RwT r))
def DuAt (H : Hp) (p : Addr) (cs : List Cse) : Prop := ∃ ts : List Addr, H p = some (.lst (ts.map V.ref)) ∧ ts.length = cs.length ∧ ∀ (i : Nat) (t : Addr) (c : Cse), ts[i]? = some t → cs[i]? = some c → ∃ l : Addr, H t = some (.tup [.int c.1, .ref l]) ∧ RwsAt H l c.2
def DuN (H0 H : Hp) (p : Addr) (cs : List Cse) : Prop := H0 p = none ∧ ∃ ts : List Addr, H p = some (.lst (ts.map V.ref)) ∧ ts.length = cs.length ∧ ∀ (i : Nat) (t : Addr) (c : Cse), ts[i]? = some t → cs[i]? = some c → ∃ l : Addr, H0 l = none ∧ H t = some (.tup [.int c.1, .ref l]) ∧ RwsAt H l c.2
theorem RwsAt.same {H H' : Hp} {l : Addr} {rows : List TRow} (h : RwsAt H l rows) (s : Same H H') : RwsAt H' l rows := by
  obtain ⟨us, a, b, c⟩ := h
  exact ⟨us, s _ _ a, b, fun i u r e1 e2 => s _ _ (c i u r e1 e2)⟩
theorem DuAt.same {H H' : Hp} {p : Addr} {cs : List Cse} (h : DuAt H p cs) (s : Same H H') : DuAt H' p cs := by
  obtain ⟨ts, a, b, c⟩ := h
  exact ⟨ts, s _ _ a, b, fun i t k e1 e2 => by obtain ⟨l, d, e⟩ := c i t k e1 e2; exact ⟨l, s _ _ d, e.same s⟩⟩
theorem DuN.at {H0 H : Hp} {p : Addr} {cs : List Cse} (h : DuN H0 H p cs) : DuAt H p cs := by
  obtain ⟨_, ts, a, b, c⟩ := h
  exact ⟨ts, a, b, fun i t k e1 e2 => by obtain ⟨l, _, d, e⟩ := c i t k e1 e2; exact ⟨l, d, e⟩⟩
theorem RwsAt.hide {D l : Addr} {H : Hp} {rows : List TRow} (h : RwsAt H l rows) (n : l ≠ D) (hD : ∃ acc, H D = some (.lst acc)) : RwsAt (Law.hide D H) l rows := by
  obtain ⟨us, a, b, c⟩ := h
  obtain ⟨acc, ea⟩ := hD
  exact ⟨us, by rw [hide_ne n]; exact a, b, fun i u r e1 e2 => by
    have k := c i u r e1 e2
    rw [hide_ne (fun z => by rw [z, ea] at k; cases k)]
    exact k⟩
/-- what a call made stands whatever is put into a list that was there before -/
theorem DuN.hide {H0 H : Hp} {D p : Addr} {cs : List Cse} (h : DuN H0 H p cs) (hD : ∃ acc, H D = some (.lst acc)) (h0 : ∃ acc, H0 D = some (.lst acc)) : DuAt (Law.hide D H) p cs := by
  obtain ⟨n0, ts, a, b, c⟩ := h
  obtain ⟨acc, ea⟩ := id hD
  obtain ⟨acc0, e0⟩ := h0
  have nn : ∀ {z : Addr}, H0 z = none → z ≠ D := fun h z => by rw [z, e0] at h; cases h
  exact ⟨ts, by rw [hide_ne (nn n0)]; exact a, b, fun i t k e1 e2 => by
    obtain ⟨l, n1, d, e⟩ := c i t k e1 e2
    exact ⟨l, by rw [hide_ne (fun z => by rw [z, ea] at d; cases d)]; exact d, e.hide (nn n1) hD⟩⟩
def PiR (rows : List TRow) : Nat → Hp → Addr → Prop := fun j H u => ∀ r, rows[j]? = some r → H u = some (.tup (RwT r))
theorem PiR.st {rows : List TRow} : StabP (PiR rows) := fun j u H H' s h r e => s _ _ (h r e)
theorem Refs.rws {D : Addr} {H0 H' : Hp} {rows : List TRow} (h : Refs D H0 (PiR rows) rows.length H') : RwsAt H' D rows ∧ Same H0 H' ∧ H0 D = none := by
  obtain ⟨us, a, b, c, d, e⟩ := h.fin PiR.st
  exact ⟨⟨us, a, b, fun i t r e1 e2 => c i t e1 r e2⟩, d, e⟩
def PiD (H0 : Hp) (cs : List Cse) : Nat → Hp → Addr → Prop := fun j H t => ∀ c, cs[j]? = some c → ∃ l : Addr, H0 l = none ∧ H t = some (.tup [.int c.1, .ref l]) ∧ RwsAt H l c.2
theorem PiD.st {H0 : Hp} {cs : List Cse} : StabP (PiD H0 cs) := fun j u H H' s h c e => by
  obtain ⟨l, a, b, d⟩ := h c e
  exact ⟨l, a, s _ _ b, d.same s⟩
theorem Refs.dus {D : Addr} {H0 H' : Hp} {cs : List Cse} (h : Refs D H0 (PiD H0 cs) cs.length H') : DuN H0 H' D cs ∧ Same H0 H' := by
  obtain ⟨us, a, b, c, d, e⟩ := h.fin PiD.st
  exact ⟨⟨e, us, a, b, fun i t r e1 e2 => c i t e1 r e2⟩, d⟩
theorem RwsAt.app {H : Hp} {R u : Addr} {rows : List TRow} {r : TRow} (h : RwsAt H R rows) (hu : H u = some (.tup (RwT r))) : ∃ acc, H R = some (.lst acc) ∧ acc.length = rows.length ∧ RwsAt (upd H R (.lst (acc ++ [.ref u]))) R (rows ++ [r]) := by
  obtain ⟨us, a, b, c⟩ := h
  refine ⟨_, a, by rw [List.length_map, b], us ++ [u], by rw [upd_same, List.map_append]; rfl, by rw [List.length_append, List.length_append, b]; rfl, fun i v q e1 e2 => ?_⟩
  have key : H v = some (.tup (RwT q)) := by
    by_cases k : i < us.length
    · rw [List.getElem?_append_left k] at e1
      rw [List.getElem?_append_left (by rw [← b]; exact k)] at e2
      exact c i v q e1 e2
    · rw [List.getElem?_append_right (by omega)] at e1
      rw [List.getElem?_append_right (by rw [← b]; omega), ← b] at e2
      have z0 : i - us.length = 0 := by
        have := (List.getElem?_eq_some_iff.mp e1).1
        have this : i - us.length < 1 := this
        omega
      rw [z0] at e1 e2
      cases e1
      cases e2
      exact hu
  rw [upd_ne (fun z => by rw [z, a] at key; cases key)]
  exact key
theorem Refs.same {D : Addr} {H0 H' H2 : Hp} {Pi : Nat → Hp → Addr → Prop} {i : Nat} (h : Refs D H0 Pi i H') (st : StabP Pi) (S : Same H' H2) : Refs D H0 Pi i H2 := by
  obtain ⟨us, e, l, a, s0, n0⟩ := h
  exact ⟨us, S _ _ e, l, fun j u hu => st _ _ _ _ (hide_same S) (a j u hu), same_tr s0 S, n0⟩
theorem Spc.cs_le {n m : Nat} (hm : 1 ≤ m) : ∀ {v : Spc}, SpcOk n m v → 1 ≤ v.wi.cases.length ∧ ∀ c ∈ v.wi.cases, 0 ≤ c.1 ∧ c.1 < v.wi.size ∧ c.2.length ≤ (m + 1) * 2 ^ v.dep
  | .none, h => by
    have w := wiN_leaf hm h rfl
    exact ⟨by show 1 ≤ 1; decide, fun c hc => ⟨(w.an c hc).1, (w.an c hc).2, by have := w.tl c hc; show c.2.length ≤ (m + 1) * 1; omega⟩⟩
  | .all ps, h => by
    have w := wiN_leaf hm h rfl
    exact ⟨by show 1 ≤ ((1, ps.map (rowOf true)) :: ps.map fun q => ((0 : Int), [rowOf false q])).length; rw [List.length_cons]; omega, fun c hc => ⟨(w.an c hc).1, (w.an c hc).2, by have := w.tl c hc; show c.2.length ≤ (m + 1) * 1; omega⟩⟩
  | .some ps, h => by
    have w := wiN_leaf hm h rfl
    exact ⟨by show 1 ≤ ((ps.map fun q => ((1 : Int), [rowOf true q])) ++ [(0, ps.map (rowOf false))]).length; rw [List.length_append]; show 1 ≤ _ + 1; omega, fun c hc => ⟨(w.an c hc).1, (w.an c hc).2, by have := w.tl c hc; show c.2.length ≤ (m + 1) * 1; omega⟩⟩
  | .band p cs, h => by
    have w := wiN_leaf hm h rfl
    exact ⟨by show 1 ≤ (bandC p 0 [] cs).length; rw [bandC_len]; omega, fun c hc => ⟨(w.an c hc).1, (w.an c hc).2, by have := w.tl c hc; show c.2.length ≤ (m + 1) * 1; omega⟩⟩
  | .both a b, ⟨ha, hb⟩ => by
    obtain ⟨a1, a2⟩ := Spc.cs_le hm ha
    obtain ⟨b1, b2⟩ := Spc.cs_le hm hb
    refine ⟨?_, fun c hc => ?_⟩
    · show 1 ≤ (prodC b.wi.size a.wi.cases b.wi.cases).length
      rw [prodC_len]
      exact Nat.mul_le_mul a1 b1
    · have hc : c ∈ prodC b.wi.size a.wi.cases b.wi.cases := hc
      unfold prodC at hc
      obtain ⟨c1, h1, hc⟩ := List.mem_flatMap.mp hc
      obtain ⟨c2, h2, rfl⟩ := List.mem_map.mp hc
      obtain ⟨p1, p2, p3⟩ := a2 c1 h1
      obtain ⟨q1, q2, q3⟩ := b2 c2 h2
      show 0 ≤ c1.1 * b.wi.size + c2.1 ∧ c1.1 * b.wi.size + c2.1 < a.wi.size * b.wi.size ∧ (c1.2 ++ c2.2).length ≤ (m + 1) * 2 ^ (max a.dep b.dep + 1)
      have e1 : 0 ≤ c1.1 * b.wi.size := Int.mul_nonneg p1 (by omega)
      have e2 : (c1.1 + 1) * b.wi.size ≤ a.wi.size * b.wi.size := Int.mul_le_mul_of_nonneg_right (by omega) (by omega)
      rw [Int.add_mul, Int.one_mul] at e2
      have d1 : 2 ^ a.dep ≤ 2 ^ max a.dep b.dep := Nat.pow_le_pow_right (by decide) (Nat.le_max_left ..)
      have d2 : 2 ^ b.dep ≤ 2 ^ max a.dep b.dep := Nat.pow_le_pow_right (by decide) (Nat.le_max_right ..)
      have f1 := Nat.mul_le_mul_left (m + 1) d1
      have f2 := Nat.mul_le_mul_left (m + 1) d2
      refine ⟨by omega, by omega, ?_⟩
      rw [List.length_append, Nat.pow_succ, ← Nat.mul_assoc]
      omega
theorem RwsAt.cat {H : Hp} {l l1 l2 : Addr} {r1 r2 : List TRow} {xs ys : List V} (h1 : RwsAt H l1 r1) (h2 : RwsAt H l2 r2) (e1 : H l1 = some (.lst xs)) (e2 : H l2 = some (.lst ys)) (e : H l = some (.lst (xs ++ ys))) : RwsAt H l (r1 ++ r2) := by
  obtain ⟨us, a, b, c⟩ := h1
  obtain ⟨us', a', b', c'⟩ := h2
  rw [a] at e1
  rw [a'] at e2
  cases e1
  cases e2
  refine ⟨us ++ us', by rw [e, List.map_append], by rw [List.length_append, List.length_append, b, b'], fun i u r f1 f2 => ?_⟩
  by_cases k : i < us.length
  · rw [List.getElem?_append_left k] at f1
    rw [List.getElem?_append_left (by rw [← b]; exact k)] at f2
    exact c i u r f1 f2
  · rw [List.getElem?_append_right (by omega)] at f1
    rw [List.getElem?_append_right (by rw [← b]; omega), ← b] at f2
    exact c' _ u r f1 f2
theorem hu64 {k : Nat} {A : Around} (hr : Room k A) : A.units + 64 < cLine := by have := hr.un; omega
def rwD (r : TRow) : PyData := .tuple [.int r.1, .int r.2.1, .bool r.2.2]
theorem rwD_ok (r : TRow) : PyData.canLay0 (rwD r) = true := by
  unfold rwD
  simp [PyData.canLay0, PyData.canLayAll0]
theorem rwDs_ok : ∀ rs : List TRow, PyData.canLayAll0 (rs.map rwD) = true
  | [] => by simp only [List.map_nil, PyData.canLayAll0]
  | r :: rs => by
    rw [List.map_cons]
    simp only [PyData.canLayAll0]
    rw [Bool.and_eq_true]
    exact ⟨rwD_ok r, rwDs_ok rs⟩
theorem rwDs_deep : ∀ rs : List TRow, PyData.depthAll (rs.map rwD) ≤ 1
  | [] => by simp [PyData.depthAll]
  | r :: rs => by
    have ih := rwDs_deep rs
    rw [List.map_cons]
    simp only [PyData.depthAll]
    have : PyData.depth (rwD r) ≤ 1 := by unfold rwD; simp [PyData.depth, PyData.depthAll]
    omega
theorem shaped_rws (rs : List TRow) : SeqAt.shaped (.list (rs.map rwD)) = true := by
  unfold SeqAt.shaped
  have e : PyData.canLay0 (.list (rs.map rwD)) = true := by
    simp only [PyData.canLay0]
    exact rwDs_ok rs
  rw [e]
  have := rwDs_deep rs
  simp only [PyData.depth, Bool.true_and]
  exact decide_eq_true (by omega)
theorem dp_rws {K : PySem.W.Frag} {H : Hp} : ∀ {us : List Addr} {rs : List TRow}, us.length = rs.length → (∀ (i : Nat) (u : Addr) (r : TRow), us[i]? = some u → rs[i]? = some r → H u = some (.tup (RwT r))) → DpAll K H (us.map V.ref) (rs.map rwD)
  | [], [], _, _ => .nil
  | u :: us, r :: rs, h, g => .cons (.tup (SqT.of (g 0 u r rfl rfl)) (.cons (.int _) (.cons (.int _) (.cons (.bl _) .nil)))) (dp_rws (by simpa using h) fun i u r a b => g (i + 1) u r a b)
theorem ne_rows {K : PySem.W.Frag} {H : Hp} {a b : Addr} {rs : List TRow} {Q : VK} (h1 : RwsAt H a rs) (h2 : RwsAt H b rs) (q : Q (.bl false) H) : rNeD K (.ref a) (.ref b) H Q := by
  obtain ⟨us, a1, a2, a3⟩ := h1
  obtain ⟨us', b1, b2, b3⟩ := h2
  exact ⟨_, _, .lst (SqL.of a1) (dp_rws a2 a3), .lst (SqL.of b1) (dp_rws b2 b3), shaped_rws rs, shaped_rws rs, by rw [eqv_rfl (shaped_rws rs)]; exact q⟩
def spCaw (K : PySem.W.Frag) (d : Nat) : Sp := fun vs H Q _ => ∃ (t : Addr) (v : Spc) (n : Nat), vs = [.ref t] ∧ SpcAt K H t v ∧ SpcOk n 8 v ∧ v.dep ≤ d ∧ v.wi.cases.length ≤ 500 ∧ ∀ (p : Addr) (H' : Hp), Same H H' → DuN H H' p v.wi.cases → Q (.ref p) H'
def spSme (CT : Addr) : Sp := fun vs H Q _ => ∃ (p d : Addr) (cs : List Cse), vs = [.ref p, .ref d] ∧ CssAt CT H p cs ∧ DuAt H d cs ∧ cs.length ≤ 500 ∧ (∀ c ∈ cs, c.2.length ≤ 500) ∧ ∀ H', Same H H' → Q (.bl true) H'
structure LcTxt (mg : Str → Option Value) (fSz fCa fNu : Addr) : Prop where
  siz : mg "_law_size" = some (.ref fSz)
  cas : mg "_law_cases" = some (.ref fCa)
  num : mg "_law_number" = some (.ref fNu)
  b_len : mg "len" = none
  b_range : mg "range" = none
  b_isinstance : mg "isinstance" = none
  b_list : mg "list" = none
  b_tuple : mg "tuple" = none
section
variable {P : Program} {w : World} {K : PySem.W.Frag} {mg : Str → Option Value} {base : Heap} {CT : Addr}
theorem scCas : FnScope ["_law_spec", "_law_yes", "_law_pair", "_law_no", "_law_cases_here", "_law_one", "_law_other", "_law_cuts", "_law_k", "_law_rows"] ["_law_spec"] (defScope sCas) := ⟨rfl, rfl, rfl, by decide +kernel, rfl, by decide +kernel, by decide +kernel⟩
theorem scSme : FnScope ["_law_told", "_law_due", "_law_k", "_law_case", "_law_trial"] ["_law_told", "_law_due"] (defScope sSme) := ⟨rfl, rfl, rfl, by decide +kernel, rfl, by decide +kernel, by decide +kernel⟩
set_option maxHeartbeats 0 in
theorem cas_step {fSz fCa fNu : Addr} {fd fdS : FuncData} (F : Fun K "_law_cases" "_law_cases" sCas fCa fd) (b : Binds K fd ["_law_spec"] []) (FS : Fun K "_law_size" "_law_size" sSiz fSz fdS) (bS : Binds K fdS ["_law_spec"] []) (T : LcTxt mg fSz fCa fNu) {d : Nat} (hd3 : d ≤ 3) (GS : FnOk P w K mg base CX0 (d + 1) fSz fdS ["_law_spec"] (spSiz K d))
    (GR : FnOk P w K mg base CX0 (d + 1) fCa fd ["_law_spec"] (spRec (spCaw K) d)) : FnOk P w K mg base CX0 (d + 2) fCa fd ["_law_spec"] (spCaw K d) := by
  refine F.ok scCas (fun vs H Q E h => ?_) (fun cdv A outer s H vs Q E hr h => ?_)
  · obtain ⟨t, v, n, rfl, _⟩ := h
    rfl
  · obtain ⟨t, v, n, rfl, h, ok, hd, h500, k⟩ := h
    have hrd : Room (d + 1) _ := hr
    refine ⟨_, (pss_cons (ps_if (pt_cmpR op_eq (pe_ix ix_tup (pv 0) pe_int (fun _ _ => rfl)) pe_str (nomark _)) (pss_one (ps_ret (pe_lst (pa_cons (pe_tup (pa_cons pe_int (pa_cons (pe_lst pa_nil) pa_nil))) pa_nil)))) pss_nil)
      (pss_cons (ps_if (pt_cmpR op_eq (pe_ix ix_tup (pv 0) pe_int (fun _ _ => rfl)) pe_str (nomark _)) (C8.pss_cut (ps_setLc (i := 1) (own := [("_law_pair", 2)]) (g := gName 2) (tt := tYes) (by rfl) scCas.nd rfl rfl (sw_true rfl rfl rfl (by decide +kernel)) (pi_list (pe_ix (r := rIxT K) ix_tup (pv 0) pe_int (fun _ _ => rfl))) (blkOk_by (own := [("_law_pair", 2)]) (N := ["_law_spec", "_law_yes", "_law_pair", "_law_no", "_law_cases_here", "_law_one", "_law_other", "_law_cuts", "_law_k", "_law_rows"]) (sc := defScope sCas) (by decide +kernel)) (fun _ _ _ _ _ => (pg_name (i := 2) scCas.nd rfl (Or.inl rfl))) (fun _ _ _ _ _ => pts_nil) (fun _ _ _ _ _ => by exact (pe_tup (pa_cons (pe_ix (r := rIxT K) ix_tup (pv 2) pe_int (fun _ _ => rfl)) (pa_cons (pe_ix (r := rIxT K) ix_tup (pv 2) pe_int (fun _ _ => rfl)) (pa_cons pe_bl pa_nil))))))
      (pss_one (ps_ret (pe_op op_cat (pe_lst (pa_cons (pe_tup (pa_cons pe_int (pa_cons (pv 1) pa_nil))) pa_nil)) (pe_lc (own := [("_law_pair", 2)]) (g := gName 2) (tt := tYes) (by rfl) scCas.nd (pi_list (pe_ix (r := rIxT K) ix_tup (pv 0) pe_int (fun _ _ => rfl))) (blkOk_by (own := [("_law_pair", 2)]) (N := ["_law_spec", "_law_yes", "_law_pair", "_law_no", "_law_cases_here", "_law_one", "_law_other", "_law_cuts", "_law_k", "_law_rows"]) (sc := defScope sCas) (by decide +kernel)) (fun _ _ _ _ _ => (pg_name (i := 2) scCas.nd rfl (Or.inl rfl))) (fun _ _ _ _ _ => pts_nil) (fun _ _ _ _ _ => by exact (pe_tup (pa_cons pe_int (pa_cons (pe_lst (pa_cons (pe_tup (pa_cons (pe_ix (r := rIxT K) ix_tup (pv 2) pe_int (fun _ _ => rfl)) (pa_cons (pe_ix (r := rIxT K) ix_tup (pv 2) pe_int (fun _ _ => rfl)) (pa_cons pe_bl pa_nil)))) pa_nil)) pa_nil))))))))) pss_nil)
      (pss_cons (ps_if (pt_cmpR op_eq (pe_ix ix_tup (pv 0) pe_int (fun _ _ => rfl)) pe_str (nomark _)) (C8.pss_cut (ps_setLc (i := 3) (own := [("_law_pair", 2)]) (g := gName 2) (tt := tYes) (by rfl) scCas.nd rfl rfl (sw_true rfl rfl rfl (by decide +kernel)) (pi_list (pe_ix (r := rIxT K) ix_tup (pv 0) pe_int (fun _ _ => rfl))) (blkOk_by (own := [("_law_pair", 2)]) (N := ["_law_spec", "_law_yes", "_law_pair", "_law_no", "_law_cases_here", "_law_one", "_law_other", "_law_cuts", "_law_k", "_law_rows"]) (sc := defScope sCas) (by decide +kernel)) (fun _ _ _ _ _ => (pg_name (i := 2) scCas.nd rfl (Or.inl rfl))) (fun _ _ _ _ _ => pts_nil) (fun _ _ _ _ _ => by exact (pe_tup (pa_cons (pe_ix (r := rIxT K) ix_tup (pv 2) pe_int (fun _ _ => rfl)) (pa_cons (pe_ix (r := rIxT K) ix_tup (pv 2) pe_int (fun _ _ => rfl)) (pa_cons pe_bl pa_nil))))))
      (pss_one (ps_ret (pe_op op_cat (pe_lc (own := [("_law_pair", 2)]) (g := gName 2) (tt := tYes) (by rfl) scCas.nd (pi_list (pe_ix (r := rIxT K) ix_tup (pv 0) pe_int (fun _ _ => rfl))) (blkOk_by (own := [("_law_pair", 2)]) (N := ["_law_spec", "_law_yes", "_law_pair", "_law_no", "_law_cases_here", "_law_one", "_law_other", "_law_cuts", "_law_k", "_law_rows"]) (sc := defScope sCas) (by decide +kernel)) (fun _ _ _ _ _ => (pg_name (i := 2) scCas.nd rfl (Or.inl rfl))) (fun _ _ _ _ _ => pts_nil) (fun _ _ _ _ _ => by exact (pe_tup (pa_cons pe_int (pa_cons (pe_lst (pa_cons (pe_tup (pa_cons (pe_ix (r := rIxT K) ix_tup (pv 2) pe_int (fun _ _ => rfl)) (pa_cons (pe_ix (r := rIxT K) ix_tup (pv 2) pe_int (fun _ _ => rfl)) (pa_cons pe_bl pa_nil)))) pa_nil)) pa_nil))))) (pe_lst (pa_cons (pe_tup (pa_cons pe_int (pa_cons (pv 3) pa_nil))) pa_nil)))))) pss_nil)
      (C8.pss_cut (ps_set (i := 4) scCas.nd rfl (Or.inl rfl) (pe_lst pa_nil))
      (pss_cons (ps_if (pt_cmpR op_eq (pe_ix ix_tup (pv 0) pe_int (fun _ _ => rfl)) pe_str (nomark _)) (C8.pss_cut (ps_for PassesOwn.never rfl (pi_list (pe_call GR hrd rfl T.cas F.kp b .nil pass0 (pa_cons (pe_ix ix_tup (pv 0) pe_int (fun _ _ => rfl)) pa_nil))) (pg_name (i := 5) scCas.nd rfl (Or.inl rfl)) (pss_one (ps_for PassesOwn.never rfl (pi_list (pe_call GR hrd rfl T.cas F.kp b .nil pass0 (pa_cons (pe_ix ix_tup (pv 0) pe_int (fun _ _ => rfl)) pa_nil))) (pg_name (i := 6) scCas.nd rfl (Or.inl rfl)) (pss_one (ps_expr (pe_bm PySem.F.plainAttrs_list PySem.F.slot_list_append PySem.F.type_list_append mt_append (pv 4) (pa_cons (pe_tup (pa_cons (pe_op op_add (pe_op op_mulW (pe_ix ix_tup (pv 5) pe_int (fun _ _ => rfl)) (pe_call GS hrd rfl T.siz FS.kp bS .nil pass0 (pa_cons (pe_ix ix_tup (pv 0) pe_int (fun _ _ => rfl)) pa_nil))) (pe_ix ix_tup (pv 6) pe_int (fun _ _ => rfl))) (pa_cons (pe_op op_cat (pe_ix ix_tup (pv 5) pe_int (fun _ _ => rfl)) (pe_ix ix_tup (pv 6) pe_int (fun _ _ => rfl))) pa_nil))) pa_nil)))))))
      (pss_one (ps_ret (pv 4)))) pss_nil)
      (C8.pss_cut (ps_set (i := 7) scCas.nd rfl (Or.inl rfl) (pe_ix ix_tup (pv 0) pe_int (fun _ _ => rfl)))
      (C8.pss_cut (ps_for PassesOwn.never rfl (pi_range1 (by rfl) T.b_range (pa_cons (pe_op op_add (pe_callB call_len_seq (by rfl) T.b_len PySem.boot_len (pa_cons (pv 7) pa_nil)) pe_int) pa_nil)) (pg_name (i := 8) scCas.nd rfl (Or.inl rfl)) (C8.pss_cut (ps_set (i := 9) scCas.nd rfl (Or.inl rfl) (pe_lst pa_nil))
      (C8.pss_cut (ps_if (pt_cmpR op_gt (pv 8) pe_int (nomark _)) (pss_one (ps_expr (pe_bm PySem.F.plainAttrs_list PySem.F.slot_list_append PySem.F.type_list_append mt_append (pv 9) (pa_cons (pe_tup (pa_cons (pe_ix ix_tup (pv 0) pe_int (fun _ _ => rfl)) (pa_cons (pe_ix ix_list (pv 7) (pe_op op_sub (pv 8) pe_int) (fun _ _ => rfl)) (pa_cons pe_bl pa_nil)))) pa_nil)))) pss_nil)
      (C8.pss_cut (ps_if (pt_cmpR op_lt (pv 8) (pe_callB call_len_seq (by rfl) T.b_len PySem.boot_len (pa_cons (pv 7) pa_nil)) (nomark _)) (pss_one (ps_expr (pe_bm PySem.F.plainAttrs_list PySem.F.slot_list_append PySem.F.type_list_append mt_append (pv 9) (pa_cons (pe_tup (pa_cons (pe_ix ix_tup (pv 0) pe_int (fun _ _ => rfl)) (pa_cons (pe_ix ix_list (pv 7) (pv 8) (fun _ _ => rfl)) (pa_cons pe_bl pa_nil)))) pa_nil)))) pss_nil)
      (pss_one (ps_expr (pe_bm PySem.F.plainAttrs_list PySem.F.slot_list_append PySem.F.type_list_append mt_append (pv 4) (pa_cons (pe_tup (pa_cons (pv 8) (pa_cons (pv 9) pa_nil))) pa_nil))))))))
      (pss_one (ps_ret (pv 4)))))))))), ?_⟩
    have ne : ∀ {a b : Str}, a ≠ b → decide (V.str a = V.str b) = false := str_ne
    cases v with
    | none =>
      refine ⟨_, rfl, t, _, 0, _, rfl, rfl, h, rfl, rfl, _, rfl, if_t (decide_eq_true rfl) ?_⟩
      refine ⟨by show 0 ≤ sizeLine; decide, fun l hl => ⟨by show 2 ≤ sizeLine; decide, fun u hu => ⟨by show 1 ≤ sizeLine; decide, fun p hp => ?_⟩⟩⟩
      have s1 := same_new (o := .lst []) hl
      have s2 := same_new (o := .tup [V.int 0, V.ref l]) hu
      have s3 := same_new (o := .lst [V.ref u]) hp
      have eu : upd (upd H l (.lst [])) u (.tup [V.int 0, V.ref l]) u = some (.tup [V.int 0, V.ref l]) := upd_same
      refine k p _ (same_tr s1 (same_tr s2 s3)) ⟨freshS s1 (freshS s2 hp), [u], upd_same, rfl, fun i z c e1 e2 => ?_⟩
      match i, e1, e2 with
      | 0, e1, e2 =>
        cases e1
        cases e2
        exact ⟨l, hl, s3 _ _ eu, [], s3 _ _ (s2 _ _ upd_same), rfl, fun i u r e => (nomatch e)⟩
    | all ps =>
      obtain ⟨p, h, hp⟩ := h
      obtain ⟨h8, hk⟩ := ok
      refine ⟨_, rfl, t, _, 0, _, rfl, rfl, h, rfl, rfl, _, rfl, if_f (ne (by decide +kernel)) ?_⟩
      refine ⟨_, rfl, t, _, 0, _, rfl, rfl, h, rfl, rfl, _, rfl, if_t (decide_eq_true rfl) ?_⟩
      obtain ⟨ts, g1, g2, g3⟩ := id hp
      refine ⟨fun σ' H' => ∃ D : Addr, σ' = [some (.ref t), some (.ref D), none, none, none, none, none, none, none, none] ∧ RwsAt H' D (ps.map (rowOf true)) ∧ Same H H' ∧ H D = none, ?_, ?_⟩
      · refine ⟨_, rfl, t, _, 1, _, rfl, rfl, h, rfl, p, rfl, ⟨_, SqL.of g1⟩, fun D hD => ?_⟩
        refine lc_it (walk_list (xs := ts.map V.ref)) (fun i H' => Refs D H (PiR (ps.map (rowOf true))) i H') (Refs.start hD) (fun i H' _ h => by obtain ⟨_, _, _, _, s, _⟩ := h; exact SqL.of (s _ _ g1)) ?_ ?_
        · rintro i y H4 H5 hi R ⟨rfl, hy⟩
          rw [List.length_map] at hi
          rw [List.getElem?_map, List.getElem?_eq_getElem hi] at hy
          cases hy
          obtain ⟨q, hq⟩ : ∃ q, ps[i]? = some q := ⟨_, List.getElem?_eq_getElem (by omega)⟩
          have s5 : Same H H5 := by obtain ⟨_, _, _, _, s, _⟩ := R; exact s
          have wt := sqT_same (g3 i _ q (List.getElem?_eq_getElem hi) hq) s5
          refine ⟨rfl, _, rfl, _, _, 0, _, rfl, rfl, wt, rfl, _, rfl, _, _, 1, _, rfl, rfl, wt, rfl, by show 3 ≤ sizeLine; decide, fun u hu => ?_⟩
          obtain ⟨acc, ea⟩ := R.lt
          have nu : u ≠ D := fun z => by rw [z, ea] at hu; cases hu
          exact R.push PiR.st (same_new hu) (fun r er => by
            rw [List.getElem?_map, hq] at er
            cases er
            rw [hide_ne nu, upd_same]
            rfl) (by omega)
        · rintro H1 R
          rw [List.length_map, g2] at R
          have R : Refs D H (PiR (ps.map (rowOf true))) (ps.map (rowOf true)).length H1 := by rw [List.length_map]; exact R
          obtain ⟨a, b, c⟩ := R.rws
          exact ⟨D, rfl, a, b, c⟩
      rintro σ' H1 ⟨D, rfl, rD, s1, hD⟩
      have eC : (Spc.all ps).wi.cases = (1, ps.map (rowOf true)) :: ps.map fun q => (0, [rowOf false q]) := rfl
      refine ⟨_, rfl, by show 2 ≤ sizeLine; decide, fun u hu => ⟨by show 1 ≤ sizeLine; decide, fun L hL => ?_⟩⟩
      have s2 := same_new (o := .tup [V.int 1, V.ref D]) hu
      have eT : upd H1 u (.tup [V.int 1, V.ref D]) u = some (.tup [V.int 1, V.ref D]) := upd_same
      generalize upd H1 u (.tup [V.int 1, V.ref D]) = H2 at s2 eT hL ⊢
      have s3 := same_new (o := .lst [V.ref u]) hL
      have e3 : upd H2 L (.lst [V.ref u]) L = some (.lst [V.ref u]) := upd_same
      generalize upd H2 L (.lst [V.ref u]) = H3 at s3 e3 ⊢
      have s03 := same_tr s1 (same_tr s2 s3)
      refine ⟨_, rfl, t, _, 1, _, rfl, rfl, sqT_same h s03, rfl, p, rfl, ⟨_, SqL.of (s03 _ _ g1)⟩, fun M hM => ?_⟩
      refine lc_it (walk_list (xs := ts.map V.ref)) (fun i H' => Refs M H3 (PiD H (ps.map fun q => ((0 : Int), [rowOf false q]))) i H') (Refs.start hM) (fun i H' _ h => by obtain ⟨_, _, _, _, s, _⟩ := h; exact SqL.of (s _ _ (s03 _ _ g1))) ?_ ?_
      · rintro i y H4 H5 hi R4 ⟨rfl, hy⟩
        rw [List.length_map] at hi
        rw [List.getElem?_map, List.getElem?_eq_getElem hi] at hy
        cases hy
        obtain ⟨q, hq⟩ : ∃ q, ps[i]? = some q := ⟨_, List.getElem?_eq_getElem (by omega)⟩
        have s4 : Same H3 H5 := by obtain ⟨_, _, _, _, s, _⟩ := R4; exact s
        have wt := sqT_same (g3 i _ q (List.getElem?_eq_getElem hi) hq) (same_tr s03 s4)
        refine ⟨rfl, _, rfl, _, _, 0, _, rfl, rfl, wt, rfl, _, rfl, _, _, 1, _, rfl, rfl, wt, rfl, by show 3 ≤ sizeLine; decide, fun y hy => ⟨by show 1 ≤ sizeLine; decide, fun l hl => ⟨by show 2 ≤ sizeLine; decide, fun tt htt => ?_⟩⟩⟩
        have s6 := same_new (o := .tup (RwT (rowOf false q))) hy
        have e6 : upd H5 y (.tup (RwT (rowOf false q))) y = some (.tup (RwT (rowOf false q))) := upd_same
        have hl' : upd H5 y (.tup (RwT (rowOf false q))) l = none := hl
        have htt' : upd (upd H5 y (.tup (RwT (rowOf false q)))) l (.lst [V.ref y]) tt = none := htt
        obtain ⟨acc, ea⟩ := R4.lt
        have ny : y ≠ M := fun z => by rw [z, ea] at hy; cases hy
        show ∃ acc, upd (upd (upd H5 y (.tup (RwT (rowOf false q)))) l (.lst [V.ref y])) tt (.tup [V.int 0, V.ref l]) M = some (.lst acc) ∧ acc.length < sizeLine ∧ Refs M H3 (PiD H (ps.map fun q => ((0 : Int), [rowOf false q]))) (i + 1) (upd (upd (upd (upd H5 y (.tup (RwT (rowOf false q)))) l (.lst [V.ref y])) tt (.tup [V.int 0, V.ref l])) M (.lst (acc ++ [V.ref tt])))
        generalize upd H5 y (.tup (RwT (rowOf false q))) = H6 at s6 e6 hl' htt' ⊢
        have s7 := same_new (o := .lst [V.ref y]) hl'
        have e7 : upd H6 l (.lst [V.ref y]) l = some (.lst [V.ref y]) := upd_same
        generalize upd H6 l (.lst [V.ref y]) = H7 at s7 e7 htt' ⊢
        have s8 := same_new (o := .tup [V.int 0, V.ref l]) htt'
        have e8 : upd H7 tt (.tup [V.int 0, V.ref l]) tt = some (.tup [V.int 0, V.ref l]) := upd_same
        generalize upd H7 tt (.tup [V.int 0, V.ref l]) = H8 at s8 e8 ⊢
        have nl : l ≠ M := fun z => by rw [z, s6 _ _ ea] at hl'; cases hl'
        have nt : tt ≠ M := fun z => by rw [z, s7 _ _ (s6 _ _ ea)] at htt'; cases htt'
        refine R4.push PiD.st (same_tr s6 (same_tr s7 s8)) (fun c ec => ?_) (by omega)
        rw [List.getElem?_map, hq] at ec
        cases ec
        refine ⟨l, freshS (same_tr s03 s4) (freshS s6 hl'), by rw [hide_ne nt]; exact e8, [y], by rw [hide_ne nl]; exact s8 _ _ e7, rfl, fun j z r e1 e2 => ?_⟩
        match j, e1, e2 with
        | 0, e1, e2 =>
          cases e1
          cases e2
          rw [hide_ne ny]
          exact s8 _ _ (s7 _ _ e6)
      rintro H4 R4
      rw [List.length_map] at R4
      obtain ⟨vs, v1, v2, v3, s4, _⟩ := R4.fin PiD.st
      refine ⟨L, M, _, _, rfl, rfl, s4 _ _ e3, v1, by rw [List.length_map, sizeLine_eq]; show 1 + vs.length ≤ _; omega, fun p' hp' => ?_⟩
      have s5 := same_new (o := .lst ([V.ref u] ++ vs.map V.ref)) hp'
      have s05 := same_tr s03 (same_tr s4 s5)
      refine k p' _ s05 ⟨freshS (same_tr s03 s4) hp', u :: vs, by rw [upd_same]; rfl, by rw [eC]; simp [v2, g2], fun i z c e1 e2 => ?_⟩
      rw [eC] at e2
      match i, e1, e2 with
      | 0, e1, e2 =>
        cases e1
        cases e2
        exact ⟨D, hD, s5 _ _ (s4 _ _ (s3 _ _ eT)), rD.same (same_tr s2 (same_tr s3 (same_tr s4 s5)))⟩
      | i + 1, e1, e2 =>
        obtain ⟨l, a, b, d⟩ := v3 i z e1 c e2
        exact ⟨l, a, s5 _ _ b, d.same s5⟩
    | some ps =>
      obtain ⟨p, h, hp⟩ := h
      obtain ⟨h8, hk⟩ := ok
      refine ⟨_, rfl, t, _, 0, _, rfl, rfl, h, rfl, rfl, _, rfl, if_f (ne (by decide +kernel)) ?_⟩
      refine ⟨_, rfl, t, _, 0, _, rfl, rfl, h, rfl, rfl, _, rfl, if_f (ne (by decide +kernel)) ?_⟩
      refine ⟨_, rfl, t, _, 0, _, rfl, rfl, h, rfl, rfl, _, rfl, if_t (decide_eq_true rfl) ?_⟩
      obtain ⟨ts, g1, g2, g3⟩ := id hp
      refine ⟨fun σ' H' => ∃ D : Addr, σ' = [some (.ref t), none, none, some (.ref D), none, none, none, none, none, none] ∧ RwsAt H' D (ps.map (rowOf false)) ∧ Same H H' ∧ H D = none, ?_, ?_⟩
      · refine ⟨_, rfl, t, _, 1, _, rfl, rfl, h, rfl, p, rfl, ⟨_, SqL.of g1⟩, fun D hD => ?_⟩
        refine lc_it (walk_list (xs := ts.map V.ref)) (fun i H' => Refs D H (PiR (ps.map (rowOf false))) i H') (Refs.start hD) (fun i H' _ h => by obtain ⟨_, _, _, _, s, _⟩ := h; exact SqL.of (s _ _ g1)) ?_ ?_
        · rintro i y H4 H5 hi R ⟨rfl, hy⟩
          rw [List.length_map] at hi
          rw [List.getElem?_map, List.getElem?_eq_getElem hi] at hy
          cases hy
          obtain ⟨q, hq⟩ : ∃ q, ps[i]? = some q := ⟨_, List.getElem?_eq_getElem (by omega)⟩
          have s5 : Same H H5 := by obtain ⟨_, _, _, _, s, _⟩ := R; exact s
          have wt := sqT_same (g3 i _ q (List.getElem?_eq_getElem hi) hq) s5
          refine ⟨rfl, _, rfl, _, _, 0, _, rfl, rfl, wt, rfl, _, rfl, _, _, 1, _, rfl, rfl, wt, rfl, by show 3 ≤ sizeLine; decide, fun u hu => ?_⟩
          obtain ⟨acc, ea⟩ := R.lt
          have nu : u ≠ D := fun z => by rw [z, ea] at hu; cases hu
          exact R.push PiR.st (same_new hu) (fun r er => by
            rw [List.getElem?_map, hq] at er
            cases er
            rw [hide_ne nu, upd_same]
            rfl) (by omega)
        · rintro H1 R
          rw [List.length_map, g2] at R
          have R : Refs D H (PiR (ps.map (rowOf false))) (ps.map (rowOf false)).length H1 := by rw [List.length_map]; exact R
          obtain ⟨a, b, c⟩ := R.rws
          exact ⟨D, rfl, a, b, c⟩
      rintro σ' H1 ⟨D, rfl, rD, s1, hD⟩
      have eC : (Spc.some ps).wi.cases = (ps.map fun q => (1, [rowOf true q])) ++ [(0, ps.map (rowOf false))] := rfl
      refine ⟨_, rfl, t, _, 1, _, rfl, rfl, sqT_same h s1, rfl, p, rfl, ⟨_, SqL.of (s1 _ _ g1)⟩, fun M hM => ?_⟩
      refine lc_it (walk_list (xs := ts.map V.ref)) (fun i H' => Refs M H1 (PiD H (ps.map fun q => ((1 : Int), [rowOf true q]))) i H') (Refs.start hM) (fun i H' _ h => by obtain ⟨_, _, _, _, s, _⟩ := h; exact SqL.of (s _ _ (s1 _ _ g1))) ?_ ?_
      · rintro i y H4 H5 hi R4 ⟨rfl, hy⟩
        rw [List.length_map] at hi
        rw [List.getElem?_map, List.getElem?_eq_getElem hi] at hy
        cases hy
        obtain ⟨q, hq⟩ : ∃ q, ps[i]? = some q := ⟨_, List.getElem?_eq_getElem (by omega)⟩
        have s4 : Same H1 H5 := by obtain ⟨_, _, _, _, s, _⟩ := R4; exact s
        have wt := sqT_same (g3 i _ q (List.getElem?_eq_getElem hi) hq) (same_tr s1 s4)
        refine ⟨rfl, _, rfl, _, _, 0, _, rfl, rfl, wt, rfl, _, rfl, _, _, 1, _, rfl, rfl, wt, rfl, by show 3 ≤ sizeLine; decide, fun y hy => ⟨by show 1 ≤ sizeLine; decide, fun l hl => ⟨by show 2 ≤ sizeLine; decide, fun tt htt => ?_⟩⟩⟩
        have s6 := same_new (o := .tup (RwT (rowOf true q))) hy
        have e6 : upd H5 y (.tup (RwT (rowOf true q))) y = some (.tup (RwT (rowOf true q))) := upd_same
        have hl' : upd H5 y (.tup (RwT (rowOf true q))) l = none := hl
        have htt' : upd (upd H5 y (.tup (RwT (rowOf true q)))) l (.lst [V.ref y]) tt = none := htt
        obtain ⟨acc, ea⟩ := R4.lt
        have ny : y ≠ M := fun z => by rw [z, ea] at hy; cases hy
        show ∃ acc, upd (upd (upd H5 y (.tup (RwT (rowOf true q)))) l (.lst [V.ref y])) tt (.tup [V.int 1, V.ref l]) M = some (.lst acc) ∧ acc.length < sizeLine ∧ Refs M H1 (PiD H (ps.map fun q => ((1 : Int), [rowOf true q]))) (i + 1) (upd (upd (upd (upd H5 y (.tup (RwT (rowOf true q)))) l (.lst [V.ref y])) tt (.tup [V.int 1, V.ref l])) M (.lst (acc ++ [V.ref tt])))
        generalize upd H5 y (.tup (RwT (rowOf true q))) = H6 at s6 e6 hl' htt' ⊢
        have s7 := same_new (o := .lst [V.ref y]) hl'
        have e7 : upd H6 l (.lst [V.ref y]) l = some (.lst [V.ref y]) := upd_same
        generalize upd H6 l (.lst [V.ref y]) = H7 at s7 e7 htt' ⊢
        have s8 := same_new (o := .tup [V.int 1, V.ref l]) htt'
        have e8 : upd H7 tt (.tup [V.int 1, V.ref l]) tt = some (.tup [V.int 1, V.ref l]) := upd_same
        generalize upd H7 tt (.tup [V.int 1, V.ref l]) = H8 at s8 e8 ⊢
        have nl : l ≠ M := fun z => by rw [z, s6 _ _ ea] at hl'; cases hl'
        have nt : tt ≠ M := fun z => by rw [z, s7 _ _ (s6 _ _ ea)] at htt'; cases htt'
        refine R4.push PiD.st (same_tr s6 (same_tr s7 s8)) (fun c ec => ?_) (by omega)
        rw [List.getElem?_map, hq] at ec
        cases ec
        refine ⟨l, freshS (same_tr s1 s4) (freshS s6 hl'), by rw [hide_ne nt]; exact e8, [y], by rw [hide_ne nl]; exact s8 _ _ e7, rfl, fun j z r e1 e2 => ?_⟩
        match j, e1, e2 with
        | 0, e1, e2 =>
          cases e1
          cases e2
          rw [hide_ne ny]
          exact s8 _ _ (s7 _ _ e6)
      rintro H4 R4
      rw [List.length_map] at R4
      obtain ⟨vs, v1, v2, v3, s4, _⟩ := R4.fin PiD.st
      refine ⟨_, rfl, by show 2 ≤ sizeLine; decide, fun u hu => ⟨by show 1 ≤ sizeLine; decide, fun L hL => ?_⟩⟩
      have s2 := same_new (o := .tup [V.int 0, V.ref D]) hu
      have eT : upd H4 u (.tup [V.int 0, V.ref D]) u = some (.tup [V.int 0, V.ref D]) := upd_same
      generalize upd H4 u (.tup [V.int 0, V.ref D]) = H5 at s2 eT hL ⊢
      have s3 := same_new (o := .lst [V.ref u]) hL
      have e3 : upd H5 L (.lst [V.ref u]) L = some (.lst [V.ref u]) := upd_same
      generalize upd H5 L (.lst [V.ref u]) = H6 at s3 e3 ⊢
      refine ⟨M, L, _, _, rfl, rfl, s3 _ _ (s2 _ _ v1), e3, by rw [List.length_map, sizeLine_eq]; show vs.length + 1 ≤ _; omega, fun p' hp' => ?_⟩
      have s5 := same_new (o := .lst (vs.map V.ref ++ [V.ref u])) hp'
      have s45 := same_tr s2 (same_tr s3 s5)
      refine k p' _ (same_tr s1 (same_tr s4 s45)) ⟨freshS s1 (freshS s4 (freshS s2 (freshS s3 hp'))), vs ++ [u], by rw [upd_same, List.map_append]; rfl, by rw [eC]; simp [v2, g2], fun i z c e1 e2 => ?_⟩
      rw [eC] at e2
      by_cases ci : i < vs.length
      · rw [List.getElem?_append_left ci] at e1
        rw [List.getElem?_append_left (by rw [List.length_map]; omega)] at e2
        obtain ⟨l, a, b, d⟩ := v3 i z e1 c e2
        exact ⟨l, a, s45 _ _ b, d.same s45⟩
      · rw [List.getElem?_append_right (by omega)] at e1
        rw [List.getElem?_append_right (by rw [List.length_map]; omega), List.length_map] at e2
        have z0 : i - vs.length = 0 := by
          have := (List.getElem?_eq_some_iff.mp e1).1
          have this : i - vs.length < 1 := this
          omega
        rw [z0] at e1
        rw [show i - ps.length = 0 by omega] at e2
        cases e1
        cases e2
        exact ⟨D, hD, s5 _ _ (s3 _ _ eT), rD.same (same_tr s4 s45)⟩
    | band p cs =>
      obtain ⟨c, h, e⟩ := h
      obtain ⟨h8, p0, p1, hz, hb⟩ := ok
      refine ⟨_, rfl, t, _, 0, _, rfl, rfl, h, rfl, rfl, _, rfl, if_f (ne (by decide +kernel)) ?_⟩
      refine ⟨_, rfl, t, _, 0, _, rfl, rfl, h, rfl, rfl, _, rfl, if_f (ne (by decide +kernel)) ?_⟩
      refine ⟨_, rfl, t, _, 0, _, rfl, rfl, h, rfl, rfl, _, rfl, if_f (ne (by decide +kernel)) ?_⟩
      refine ⟨fun σ' H' => ∃ D : Addr, σ' = [some (.ref t), none, none, none, some (.ref D), none, none, none, none, none] ∧ Refs D H (PiD H (bandC p 0 [] cs)) 0 H', ?_, ?_⟩
      · exact ⟨by show 0 ≤ sizeLine; decide, fun D hD => ⟨D, rfl, Refs.start hD⟩⟩
      rintro σ' H1 ⟨D, rfl, R0⟩
      have s1 : Same H H1 := by obtain ⟨_, _, _, _, s, _⟩ := R0; exact s
      have h1 := sqT_same h s1
      refine ⟨_, rfl, t, _, 0, _, rfl, rfl, h1, rfl, rfl, _, rfl, if_f (ne (by decide +kernel)) ?_⟩
      refine ⟨fun σ' H' => σ' = [some (.ref t), none, none, none, some (.ref D), none, none, some (.ref c), none, none] ∧ H1 = H', ⟨_, rfl, t, _, 2, _, rfl, rfl, h1, rfl, rfl, rfl⟩, ?_⟩
      rintro σ' _ ⟨rfl, rfl⟩
      have lc : (cs.map V.int).length = cs.length := List.length_map ..
      refine ⟨fun σ' H' => ∃ v8 v9 : Option V, σ' = [some (.ref t), none, none, none, some (.ref D), none, none, some (.ref c), v8, v9] ∧ Refs D H (PiD H (bandC p 0 [] cs)) (cs.length + 1) H', ?_, ?_⟩
      · refine ⟨_, rfl, c, _, rfl, .inl (SqL.of (s1 _ _ e)), _, _, rfl, rfl, _, rfl, by omega, by omega, ?_⟩
        refine for_it (walk_range (lo := 0) (n := (((cs.map V.int).length : Int) + 1).toNat)) (fun i σ' H' => ∃ v8 v9 : Option V, σ' = [some (.ref t), none, none, none, some (.ref D), none, none, some (.ref c), v8, v9] ∧ Refs D H (PiD H (bandC p 0 [] cs)) i H') ⟨_, _, rfl, R0⟩ (fun _ _ _ _ _ => trivial) ?_ ?_
        · rintro i x' σ' H3 H4 hi ⟨v8, v9, rfl, R4⟩ ⟨rfl, rfl⟩
          have hi : i < cs.length + 1 := by omega
          have s4 : Same H H4 := by obtain ⟨_, _, _, _, s, _⟩ := R4; exact s
          refine ⟨fun σ' H' => ∃ (R : Addr) (vk : Option V), vk = some (V.int (0 + (i : Int))) ∧ σ' = [some (.ref t), none, none, none, some (.ref D), none, none, some (.ref c), vk, some (.ref R)] ∧ H4 R = none ∧ Same H4 H' ∧ RwsAt H' R [], ?_, ?_⟩
          · exact ⟨by show 0 ≤ sizeLine; decide, fun R hR => ⟨R, _, rfl, rfl, hR, same_new hR, [], upd_same, rfl, fun i u r e => (nomatch e)⟩⟩
          rintro σ' H5 ⟨R, vk, hvk, rfl, hR, s5, r5⟩
          subst hvk
          have grow : ∀ {H6 H7 : Hp} {rows : List TRow} {r : TRow} {u : Addr}, Same H4 H6 → RwsAt H6 R rows → H6 u = none → H7 = upd H6 u (.tup (RwT r)) → ∃ acc, H7 R = some (.lst acc) ∧ acc.length = rows.length ∧ RwsAt (upd H7 R (.lst (acc ++ [.ref u]))) R (rows ++ [r]) ∧ Same H4 (upd H7 R (.lst (acc ++ [.ref u]))) := fun {H6 H7 rows r u} s r6 hu e7 => by
            subst e7
            have su := same_new (o := .tup (RwT r)) hu
            obtain ⟨acc, a, b, d⟩ := (r6.same su).app (u := u) (r := r) upd_same
            exact ⟨acc, a, b, d, fun x o ex => by rw [upd_ne (ne_of_none ex hR)]; exact su _ _ (s _ _ ex)⟩
          refine ⟨fun σ' H' => σ' = [some (.ref t), none, none, none, some (.ref D), none, none, some (.ref c), some (V.int (0 + (i : Int))), some (.ref R)] ∧ Same H4 H' ∧ RwsAt H' R (ovr p cs i), ?_, ?_⟩
          · refine ⟨_, rfl, _, _, rfl, rfl, _, rfl, ite2 (fun g => ?_) (fun g => ?_)⟩
            · have g : (0 : Int) < 0 + (i : Int) := of_decide_eq_true g
              have ok1 : ovr p cs i = [(p, hAt cs (0 + (i : Int) - 1), false)] := by
                unfold ovr
                rw [if_neg (by omega), List.getElem?_eq_getElem (show i - 1 < cs.length by omega)]
                show [(p, cs[i - 1], false)] = [(p, cs.getD (0 + (i : Int) - 1).toNat 0, false)]
                rw [show (0 + (i : Int) - 1).toNat = i - 1 by omega, List.getD_eq_getElem?_getD, List.getElem?_eq_getElem (show i - 1 < cs.length by omega)]
                rfl
              obtain ⟨us, ue, _⟩ := id r5
              refine ⟨_, rfl, .inl ⟨rfl, _, SqL.of ue⟩, _, rfl, t, _, 1, _, rfl, rfl, sqT_same h (same_tr s4 s5), rfl, _, rfl, _, rfl, _, _, rfl, rfl, c, _, _, _, rfl, rfl, SqL.of (s5 _ _ (s4 _ _ e)), at_hAt (by omega) (by omega), by show 3 ≤ sizeLine; decide, fun u hu => ?_⟩
              obtain ⟨acc, a, b, d, s⟩ := grow (r := (p, hAt cs (0 + (i : Int) - 1), false)) s5 r5 hu rfl
              exact ⟨R, acc, _, rfl, rfl, a, small1000 (by rw [b]; decide), rfl, s, by rw [ok1]; exact d⟩
            · have g : ¬ (0 : Int) < 0 + (i : Int) := fun z => g (decide_eq_true z)
              exact ⟨rfl, s5, by unfold ovr; rw [if_pos (by omega)]; exact r5⟩
          rintro σ' H6 ⟨rfl, s6, r6⟩
          have ol := ovr_len p cs i
          refine ⟨fun σ' H' => σ' = [some (.ref t), none, none, none, some (.ref D), none, none, some (.ref c), some (V.int (0 + (i : Int))), some (.ref R)] ∧ Same H4 H' ∧ ∀ k, (bandC p 0 [] cs)[i]? = some k → k.1 = 0 + (i : Int) ∧ RwsAt H' R k.2, ?_, ?_⟩
          · refine ⟨_, rfl, _, rfl, c, _, rfl, .inl (SqL.of (s6 _ _ (s4 _ _ e))), _, _, rfl, rfl, _, rfl, ite2 (fun g => ?_) (fun g => ?_)⟩
            · have g : 0 + (i : Int) < ((cs.map V.int).length : Int) := of_decide_eq_true g
              have hic : i < cs.length := by omega
              have hA : hAt cs (0 + (i : Int)) = cs[i] := by
                show cs.getD (0 + (i : Int)).toNat 0 = cs[i]
                rw [show (0 + (i : Int)).toNat = i by omega, List.getD_eq_getElem?_getD, List.getElem?_eq_getElem hic]
                rfl
              obtain ⟨us, ue, _⟩ := id r6
              refine ⟨_, rfl, .inl ⟨rfl, _, SqL.of ue⟩, _, rfl, t, _, 1, _, rfl, rfl, sqT_same h (same_tr s4 s6), rfl, _, rfl, _, rfl, c, _, _, _, rfl, rfl, SqL.of (s6 _ _ (s4 _ _ e)), at_hAt (by omega) (by omega), by show 3 ≤ sizeLine; decide, fun u hu => ?_⟩
              obtain ⟨acc, a, b, d, s⟩ := grow (r := (p, hAt cs (0 + (i : Int)), true)) s6 r6 hu rfl
              refine ⟨R, acc, _, rfl, rfl, a, small1000 (by rw [b]; omega), rfl, s, fun k hk => ?_⟩
              rw [bandC_at (List.getElem?_eq_getElem hic)] at hk
              cases hk
              refine ⟨by show (i : Int) = 0 + (i : Int); omega, ?_⟩
              show RwsAt _ R (ovr p cs i ++ [(p, cs[i], true)])
              rw [← hA]
              exact d
            · have g : ¬ 0 + (i : Int) < ((cs.map V.int).length : Int) := fun z => g (decide_eq_true z)
              have hic : i = cs.length := by omega
              subst hic
              refine ⟨rfl, s6, fun k hk => ?_⟩
              rw [bandC_end] at hk
              cases hk
              exact ⟨by show (cs.length : Int) = 0 + (cs.length : Int); omega, r6⟩
          rintro σ' H7 ⟨rfl, s7, r7⟩
          obtain ⟨acc0, ea0⟩ := R4.lt
          have eD := s7 _ _ ea0
          refine ⟨_, rfl, .inl ⟨rfl, _, SqL.of eD⟩, _, rfl, _, rfl, by show 2 ≤ sizeLine; decide, fun u hu => ?_⟩
          have su := same_new (o := .tup [V.int (0 + (i : Int)), V.ref R]) hu
          have nu : u ≠ D := fun z => by rw [z, eD] at hu; cases hu
          have nR : R ≠ D := fun z => by rw [z, ea0] at hR; cases hR
          obtain ⟨acc', ea', la', R9⟩ := R4.push PiD.st (same_tr s7 su) (u := u) (fun k hk => by
            obtain ⟨k1, k2⟩ := r7 k hk
            refine ⟨R, freshS s4 hR, by rw [hide_ne nu, upd_same, k1], (k2.same su).hide nR ⟨_, su _ _ eD⟩⟩) (by omega)
          exact ⟨D, acc', _, rfl, rfl, ea', la', _, _, rfl, R9⟩
        · rintro σ' H3 ⟨v8, v9, rfl, R3⟩
          refine ⟨_, _, rfl, ?_⟩
          rw [show cs.length + 1 = (((cs.map V.int).length : Int) + 1).toNat by omega]
          exact R3
      rintro σ' H2 ⟨v8, v9, rfl, R2⟩
      rw [← bandC_len p cs 0 []] at R2
      obtain ⟨dn, s⟩ := R2.dus
      exact ⟨_, rfl, k D H2 s dn⟩
    | both x y =>
      obtain ⟨ta, tb, h, hx, hy⟩ := h
      obtain ⟨ox, oy⟩ := ok
      have hd : max x.dep y.dep + 1 ≤ d := hd
      refine ⟨_, rfl, t, _, 0, _, rfl, rfl, h, rfl, rfl, _, rfl, if_f (ne (by decide +kernel)) ?_⟩
      refine ⟨_, rfl, t, _, 0, _, rfl, rfl, h, rfl, rfl, _, rfl, if_f (ne (by decide +kernel)) ?_⟩
      refine ⟨_, rfl, t, _, 0, _, rfl, rfl, h, rfl, rfl, _, rfl, if_f (ne (by decide +kernel)) ?_⟩
      refine ⟨fun σ' H' => ∃ D : Addr, σ' = [some (.ref t), none, none, none, some (.ref D), none, none, none, none, none] ∧ Refs D H (PiD H (prodC y.wi.size x.wi.cases y.wi.cases)) 0 H', ?_, ?_⟩
      · exact ⟨by show 0 ≤ sizeLine; decide, fun D hD => ⟨D, rfl, Refs.start hD⟩⟩
      rintro σ' H1 ⟨D, rfl, R0⟩
      have s1 : Same H H1 := by obtain ⟨_, _, _, _, s, _⟩ := R0; exact s
      have h1 := sqT_same h s1
      refine ⟨_, rfl, t, _, 0, _, rfl, rfl, h1, rfl, rfl, _, rfl, if_t (decide_eq_true rfl) ?_⟩
      obtain ⟨na, xa⟩ := Spc.cs_le (by decide) ox
      obtain ⟨nb, ya⟩ := Spc.cs_le (by decide) oy
      have hpl : x.wi.cases.length * y.wi.cases.length ≤ 500 := by rw [← prodC_len y.wi.size]; exact h500
      have na5 : x.wi.cases.length ≤ 500 := Nat.le_trans (Nat.le_mul_of_pos_right _ nb) hpl
      have nb5 : y.wi.cases.length ≤ 500 := Nat.le_trans (Nat.le_mul_of_pos_left _ na) hpl
      have p3 : (8 + 1) * 2 ^ 2 = 36 := by decide
      have xl : ∀ c ∈ x.wi.cases, c.2.length ≤ 36 := fun c hc => by
        have := (xa c hc).2.2
        have : (8 + 1) * 2 ^ x.dep ≤ (8 + 1) * 2 ^ 2 := Nat.mul_le_mul_left _ (Nat.pow_le_pow_right (by decide) (by omega))
        omega
      have yl : ∀ c ∈ y.wi.cases, c.2.length ≤ 36 := fun c hc => by
        have := (ya c hc).2.2
        have : (8 + 1) * 2 ^ y.dep ≤ (8 + 1) * 2 ^ 2 := Nat.mul_le_mul_left _ (Nat.pow_le_pow_right (by decide) (by omega))
        omega
      cases d with
      | zero => omega
      | succ d =>
        refine ⟨fun σ' H' => ∃ v5 v6 : Option V, σ' = [some (.ref t), none, none, none, some (.ref D), v5, v6, none, none, none] ∧ Refs D H (PiD H (prodC y.wi.size x.wi.cases y.wi.cases)) (prodC y.wi.size x.wi.cases y.wi.cases).length H', ?_, ?_⟩
        · refine ⟨_, rfl, t, _, 1, _, rfl, rfl, h1, rfl, ta, x, n, rfl, SpcAt.same s1 hx, ox, by omega, na5, fun p1 H2 s2 n1 => ?_⟩
          have d2 := n1.hide (by obtain ⟨acc, e⟩ := R0.lt; exact ⟨acc, s2 _ _ e⟩) R0.lt
          obtain ⟨ts, a1, a2, a3⟩ := d2
          refine ⟨p1, rfl, ⟨_, SqL.of (hide_le _ _ a1)⟩, ?_⟩
          refine for_it (walk_list (xs := ts.map V.ref)) (fun i σ' H' => ∃ v5 v6 : Option V, σ' = [some (.ref t), none, none, none, some (.ref D), v5, v6, none, none, none] ∧ Refs D H (PiD H (prodC y.wi.size x.wi.cases y.wi.cases)) (i * y.wi.cases.length) H' ∧ Same (hide D H2) (hide D H')) ⟨_, _, rfl, by rw [Nat.zero_mul]; exact R0.same PiD.st s2, same_rfl⟩ (fun i σ' H' _ h => by obtain ⟨_, _, _, _, s⟩ := h; exact SqL.of (hide_le _ _ (s _ _ a1))) ?_ ?_
          · rintro i z σ' H3 H4 hi ⟨v5, v6, rfl, R, sh⟩ ⟨rfl, hz⟩
            rw [List.length_map] at hi
            rw [List.getElem?_map, List.getElem?_eq_getElem hi] at hz
            cases hz
            obtain ⟨c1, hc1⟩ : ∃ c, x.wi.cases[i]? = some c := ⟨_, List.getElem?_eq_getElem (by omega)⟩
            obtain ⟨l1, t1, r1⟩ := a3 i _ c1 (List.getElem?_eq_getElem hi) hc1
            have s4 : Same H H4 := by obtain ⟨_, _, _, _, s, _⟩ := R; exact s
            have h4 := sqT_same h s4
            refine ⟨_, rfl, t, _, 2, _, rfl, rfl, h4, rfl, tb, y, n, rfl, SpcAt.same s4 hy, oy, by omega, nb5, fun p2 H5 s5 n2 => ?_⟩
            have d5 := n2.hide (by obtain ⟨acc, e⟩ := R.lt; exact ⟨acc, s5 _ _ e⟩) R.lt
            obtain ⟨us, b1, b2, b3⟩ := d5
            refine ⟨p2, rfl, ⟨_, SqL.of (hide_le _ _ b1)⟩, ?_⟩
            have shB := same_tr sh (hide_same s5)
            refine for_it (walk_list (xs := us.map V.ref)) (fun j σ' H' => ∃ v6 : Option V, σ' = [some (.ref t), none, none, none, some (.ref D), some (.ref ts[i]), v6, none, none, none] ∧ Refs D H (PiD H (prodC y.wi.size x.wi.cases y.wi.cases)) (i * y.wi.cases.length + j) H' ∧ Same (hide D H5) (hide D H')) ⟨_, rfl, R.same PiD.st s5, same_rfl⟩ (fun j σ' H' _ h => by obtain ⟨_, _, _, s⟩ := h; exact SqL.of (hide_le _ _ (s _ _ b1))) ?_ ?_
            · rintro j z σ' H6 H7 hj ⟨v6, rfl, R7, sh7⟩ ⟨rfl, hz⟩
              rw [List.length_map] at hj
              rw [List.getElem?_map, List.getElem?_eq_getElem hj] at hz
              cases hz
              obtain ⟨c2, hc2⟩ : ∃ c, y.wi.cases[j]? = some c := ⟨_, List.getElem?_eq_getElem (by omega)⟩
              obtain ⟨l2, t2, r2⟩ := b3 j _ c2 (List.getElem?_eq_getElem hj) hc2
              have s7 : Same H H7 := by obtain ⟨_, _, _, _, s, _⟩ := R7; exact s
              have h7 := sqT_same h s7
              have t1' := hide_le _ _ (sh7 _ _ (shB _ _ t1))
              have t2' := hide_le _ _ (sh7 _ _ t2)
              have r1' := r1.same (same_tr shB sh7)
              have r2' := r2.same sh7
              obtain ⟨us1, f1, f2, _⟩ := id r1'
              obtain ⟨us2, g1, g2, _⟩ := id r2'
              have m1 := List.mem_of_getElem? hc1
              have m2 := List.mem_of_getElem? hc2
              have x1 := xa c1 m1
              have sx := Spc.sz ox (by omega)
              have x2 := xl c1 m1
              have y2 := yl c2 m2
              have ij : i * y.wi.cases.length + j ≤ 900 := by
                have := Nat.mul_le_mul_right y.wi.cases.length (show i + 1 ≤ x.wi.cases.length by omega)
                rw [Nat.succ_mul] at this
                omega
              obtain ⟨acc, ea⟩ := R7.lt
              refine ⟨_, rfl, .inl ⟨rfl, _, SqL.of ea⟩, _, rfl, ts[i], _, 0, _, rfl, rfl, SqT.of t1', rfl, _, rfl, t, _, 2, _, rfl, rfl, h7, rfl, tb, y, n, rfl, SpcAt.same s7 hy, oy, by omega, _, _, rfl, rfl, mulW (sz_small (Nat.le_trans (show c1.1.natAbs ≤ 10 ^ 9 by omega) big21)) (Spc.szS oy (by omega)), _, rfl, us[j], _, 0, _, rfl, rfl, SqT.of t2', rfl, _, _, rfl, rfl, ?_⟩
              refine ⟨_, rfl, ts[i], _, 1, _, rfl, rfl, SqT.of t1', rfl, _, rfl, us[j], _, 1, _, rfl, rfl, SqT.of t2', rfl, l1, l2, _, _, rfl, rfl, hide_le _ _ f1, hide_le _ _ g1, by rw [List.length_map, List.length_map, sizeLine_eq]; omega, fun l hl => ⟨by show 2 ≤ sizeLine; decide, fun tt htt => ?_⟩⟩
              have s8 := same_new (o := .lst (us1.map V.ref ++ us2.map V.ref)) hl
              have e8 : upd H7 l (.lst (us1.map V.ref ++ us2.map V.ref)) l = some (.lst (us1.map V.ref ++ us2.map V.ref)) := upd_same
              have nl : l ≠ D := fun z => by rw [z, ea] at hl; cases hl
              have hl0 : H l = none := freshS s7 hl
              clear hl
              generalize upd H7 l (.lst (us1.map V.ref ++ us2.map V.ref)) = H8 at s8 e8 htt ⊢
              have s9 := same_new (o := .tup [V.int (c1.1 * y.wi.size + c2.1), V.ref l]) htt
              have e9 : upd H8 tt (.tup [V.int (c1.1 * y.wi.size + c2.1), V.ref l]) tt = some (.tup [V.int (c1.1 * y.wi.size + c2.1), V.ref l]) := upd_same
              have nt : tt ≠ D := fun z => by rw [z, s8 _ _ ea] at htt; cases htt
              generalize upd H8 tt (.tup [V.int (c1.1 * y.wi.size + c2.1), V.ref l]) = H9 at s9 e9 ⊢
              have sh9 := hide_same (D := D) (same_tr s8 s9)
              obtain ⟨acc', ea', la', R9⟩ := R7.push PiD.st (same_tr s8 s9) (u := tt) (fun c ec => by
                rw [prodC_get hc2 hc1] at ec
                cases ec
                exact ⟨l, hl0, by rw [hide_ne nt]; exact e9, RwsAt.cat (r1'.same sh9) (r2'.same sh9) (sh9 _ _ f1) (sh9 _ _ g1) (by rw [hide_ne nl]; exact s9 _ _ e8)⟩) ij
              exact ⟨D, acc', _, rfl, rfl, ea', la', _, rfl, R9, by rw [hide_upd]; exact same_tr sh7 sh9⟩
            · rintro σ' H6 ⟨v6, rfl, R6, sh6⟩
              refine ⟨_, _, rfl, ?_, same_tr shB sh6⟩
              rw [List.length_map, b2] at R6
              rw [Nat.succ_mul]
              exact R6
          · rintro σ' H3 ⟨v5, v6, rfl, R, _⟩
            rw [List.length_map, a2] at R
            exact ⟨_, _, rfl, by rw [prodC_len]; exact R⟩
        rintro σ' H2 ⟨v5, v6, rfl, R⟩
        obtain ⟨dn, s⟩ := R.dus
        exact ⟨_, rfl, k D H2 s dn⟩
theorem ok_cas {fSz fCa fNu : Addr} {fd fdS : FuncData} {L : LhTxt mg fSz} (F : Fun K "_law_cases" "_law_cases" sCas fCa fd) (b : Binds K fd ["_law_spec"] []) (FS : Fun K "_law_size" "_law_size" sSiz fSz fdS) (bS : Binds K fdS ["_law_spec"] []) (T : LcTxt mg fSz fCa fNu) : ∀ d : Nat, d ≤ 3 → FnOk P w K mg base CX0 (d + 2) fCa fd ["_law_spec"] (spCaw K d)
  | 0, h => cas_step F b FS bS T h (ok_siz FS bS L 0 h) fn_never
  | d + 1, h => cas_step F b FS bS T h (ok_siz FS bS L (d + 1) h) (ok_cas (L := L) F b FS bS T d (by omega))
set_option maxHeartbeats 0 in
theorem ok_sme {f fSz fCa fNu : Addr} {fd fdNu : FuncData} (F : Fun K "_law_same" "_law_same" sSme f fd) (GNu : FnOk P w K mg base CX0 1 fNu fdNu ["_law_x"] spNum) (FNu : Fun K "_law_number" "_law_number" sNum fNu fdNu) (bNu : Binds K fdNu ["_law_x"] []) (T : LcTxt mg fSz fCa fNu) (TT : TriTxt K mg CT) : FnOk P w K mg base CX0 2 f fd ["_law_told", "_law_due"] (spSme CT) := by
  refine F.ok scSme (fun vs H Q E h => ?_) (fun cdv A outer s H vs Q E hr h => ?_)
  · obtain ⟨p, d, cs, rfl, _⟩ := h
    rfl
  · obtain ⟨p, d, cs, rfl, hp, hd, h500, t500, k⟩ := h
    have hr1 : Room 1 _ := hr
    obtain ⟨ts, p1, p2, p3⟩ := hp
    obtain ⟨ds, d1, d2, d3⟩ := hd
    have lt : (ts.map V.ref).length = cs.length := by rw [List.length_map, p2]
    have ld : (ds.map V.ref).length = cs.length := by rw [List.length_map, d2]
    refine ⟨_, (pss_cons (ps_if (PW.pt (pw_or (pt_not (pt_val (pe_callB call_isi (by rfl) T.b_isinstance (by decide +kernel) (pa_cons (pv 0) (pa_cons (pe_bltn (v := .ty "list") (by rfl) T.b_list (by decide +kernel) rfl) pa_nil))))) (pw_or1 (pt_cmpR op_ne (pe_callB call_len_seq (by rfl) T.b_len PySem.boot_len (pa_cons (pv 0) pa_nil)) (pe_callB call_len_seq (by rfl) T.b_len PySem.boot_len (pa_cons (pv 1) pa_nil)) (nomark _))))) (pss_one (ps_ret pe_bl)) pss_nil)
      (C8.pss_cut (ps_for PassesOwn.never rfl (pi_range1 (by rfl) T.b_range (pa_cons (pe_callB call_len_seq (by rfl) T.b_len PySem.boot_len (pa_cons (pv 1) pa_nil)) pa_nil)) (pg_name (i := 2) scSme.nd rfl (Or.inl rfl)) (pss_cons (ps_set (i := 3) scSme.nd rfl (Or.inl rfl) (pe_ix ix_list (pv 0) (pv 2) (fun _ _ => rfl)))
      (C8.pss_cut (ps_if (PW.pt (pw_or (pt_not (pt_val (pe_callB call_isi (by rfl) T.b_isinstance (by decide +kernel) (pa_cons (pv 3) (pa_cons (pe_bltn (v := .ty "tuple") (by rfl) T.b_tuple (by decide +kernel) rfl) pa_nil))))) (pw_or (pt_cmpR op_ne (pe_callB call_len_seq (by rfl) T.b_len PySem.boot_len (pa_cons (pv 3) pa_nil)) pe_int (nomark _)) (pw_or1 (pt_not (pt_val (pe_call GNu hr1 rfl T.num FNu.kp bNu .nil pass0 (pa_cons (pe_ix ix_tup (pv 3) pe_int (fun _ _ => rfl)) pa_nil)))))))) (pss_one (ps_ret pe_bl)) pss_nil)
      (C8.pss_cut (ps_if (PW.pt (pw_or (pt_cmpR op_ne (pe_ix ix_tup (pv 3) pe_int (fun _ _ => rfl)) (pe_ix ix_tup (pe_ix ix_list (pv 1) (pv 2) (fun _ _ => rfl)) pe_int (fun _ _ => rfl)) (nomark _)) (pw_or1 (pt_not (pt_val (pe_callB call_isi (by rfl) T.b_isinstance (by decide +kernel) (pa_cons (pe_ix ix_tup (pv 3) pe_int (fun _ _ => rfl)) (pa_cons (pe_bltn (v := .ty "list") (by rfl) T.b_list (by decide +kernel) rfl) pa_nil)))))))) (pss_one (ps_ret pe_bl)) pss_nil)
      (pss_one (ps_if (pt_cmpR (op_neD (hu64 hr)) (pe_lc (own := [("_law_trial", 4)]) (g := gName 4) (tt := tYes) (te := tTup (tCons (tFld K (tVar 4) "place") (tCons (tFld K (tVar 4) "height") (tCons (tFld K (tVar 4) "reached") tNil)))) (by rfl) scSme.nd (pi_list (pe_ix (r := rIxT K) ix_tup (pv 3) pe_int (fun _ _ => rfl))) (blkOk_by (own := [("_law_trial", 4)]) (N := ["_law_told", "_law_due", "_law_k", "_law_case", "_law_trial"]) (sc := defScope sSme) (by decide +kernel)) (fun _ _ _ _ _ => (pg_name (i := 4) scSme.nd rfl (Or.inl rfl))) (fun _ _ _ _ _ => pts_nil) (fun _ _ _ _ _ => by exact (pe_tup (pa_cons (pe_fld (pv 4) rfl) (pa_cons (pe_fld (pv 4) rfl) (pa_cons (pe_fld (pv 4) rfl) pa_nil)))))) (pe_ix ix_tup (pe_ix ix_list (pv 1) (pv 2) (fun _ _ => rfl)) pe_int (fun _ _ => rfl)) (nomark _)) (pss_one (ps_ret pe_bl)) pss_nil))))))
      (pss_one (ps_ret pe_bl)))), ?_⟩
    refine ⟨_, rfl, V.ref p, .ty "list", .type "list", .type "list", true, rfl, .ty _, .base (.lst p1), by rfl, true, rfl, if_f rfl ?_⟩
    refine ⟨_, rfl, p, _, rfl, .inl (SqL.of p1), _, rfl, d, _, rfl, .inl (SqL.of d1), rfl, _, rfl, if_f (by rw [lt, ld]; simp) ?_⟩
    refine ⟨fun σ' H' => (∃ v2 v3 v4 : Option V, σ' = [some (.ref p), some (.ref d), v2, v3, v4]) ∧ Same H H', ?_, ?_⟩
    · refine ⟨_, rfl, d, _, rfl, .inl (SqL.of d1), _, rfl, by omega, by omega, ?_⟩
      refine for_it (walk_range (lo := 0) (n := ((ds.map V.ref).length : Int).toNat)) (fun i σ' H' => (∃ v2 v3 v4 : Option V, σ' = [some (.ref p), some (.ref d), v2, v3, v4]) ∧ Same H H') ⟨⟨_, _, _, rfl⟩, same_rfl⟩ (fun _ _ _ _ _ => trivial) ?_ ?_
      · rintro i x σ' H3 H4 hi ⟨⟨v2, v3, v4, rfl⟩, s4⟩ ⟨rfl, rfl⟩
        have hi : i < cs.length := by omega
        obtain ⟨c, hc⟩ : ∃ c, cs[i]? = some c := ⟨_, List.getElem?_eq_getElem hi⟩
        obtain ⟨t1, e1⟩ : ∃ t, ts[i]? = some t := ⟨_, List.getElem?_eq_getElem (by omega)⟩
        obtain ⟨t2, e2⟩ : ∃ t, ds[i]? = some t := ⟨_, List.getElem?_eq_getElem (by omega)⟩
        obtain ⟨l1, h1, w1⟩ := p3 i t1 c e1 hc
        obtain ⟨l2, h2, w2⟩ := d3 i t2 c e2 hc
        have h1 := s4 _ _ h1
        have h2 := s4 _ _ h2
        have w1 := w1.same s4
        have w2 := w2.same s4
        have p4 := s4 _ _ p1
        have d4 := s4 _ _ d1
        have c5 := t500 c (List.mem_of_getElem? hc)
        have ax : atI (ts.map V.ref) (0 + (i : Int)) = some (.ref t1) := by rw [Int.zero_add]; exact atI_nat (by rw [List.getElem?_map, e1]; rfl)
        have ay : atI (ds.map V.ref) (0 + (i : Int)) = some (.ref t2) := by rw [Int.zero_add]; exact atI_nat (by rw [List.getElem?_map, e2]; rfl)
        obtain ⟨us, u1, u2, u3⟩ := id w1
        refine ⟨_, rfl, _, rfl, p, _, _, _, rfl, rfl, SqL.of p4, ax, ?_⟩
        refine ⟨fun σ' H' => σ' = [some (.ref p), some (.ref d), some (V.int (0 + (i : Int))), some (.ref t1), v4] ∧ H4 = H', ?_, ?_⟩
        · refine ⟨_, rfl, V.ref t1, .ty "tuple", .type "tuple", .type "tuple", true, rfl, .ty _, .base (.tup h1), by rfl, true, rfl, if_f rfl ?_⟩
          refine ⟨_, rfl, t1, _, rfl, .inr (SqT.of h1), rfl, _, rfl, if_f rfl ?_⟩
          exact ⟨_, rfl, t1, _, 0, _, rfl, rfl, SqT.of h1, rfl, _, rfl, _, rfl, if_f rfl ⟨rfl, rfl⟩⟩
        rintro σ' _ ⟨rfl, rfl⟩
        refine ⟨fun σ' H' => σ' = [some (.ref p), some (.ref d), some (V.int (0 + (i : Int))), some (.ref t1), v4] ∧ H4 = H', ?_, ?_⟩
        · refine ⟨_, rfl, t1, _, 0, _, rfl, rfl, SqT.of h1, rfl, _, rfl, _, rfl, d, _, _, _, rfl, rfl, SqL.of d4, ay, t2, _, 0, _, rfl, rfl, SqT.of h2, rfl, rfl, _, rfl, if_f (by simp) ?_⟩
          exact ⟨_, rfl, t1, _, 1, _, rfl, rfl, SqT.of h1, rfl, V.ref l1, .ty "list", .type "list", .type "list", true, rfl, .ty _, .base (.lst u1), by rfl, true, rfl, if_f rfl ⟨rfl, rfl⟩⟩
        rintro σ' _ ⟨rfl, rfl⟩
        refine ⟨_, rfl, t1, _, 1, _, rfl, rfl, SqT.of h1, rfl, l1, rfl, ⟨_, SqL.of u1⟩, fun D hD => ?_⟩
        refine lc_it (walk_list (xs := us.map V.ref)) (fun j H' => Refs D H4 (PiR c.2) j H') (Refs.start hD) (fun j H' _ h => by obtain ⟨_, _, _, _, s, _⟩ := h; exact SqL.of (s _ _ u1)) ?_ ?_
        · rintro j y H5 H6 hj R ⟨rfl, hy⟩
          rw [List.length_map] at hj
          rw [List.getElem?_map, List.getElem?_eq_getElem hj] at hy
          cases hy
          obtain ⟨r, hr⟩ : ∃ r, c.2[j]? = some r := ⟨_, List.getElem?_eq_getElem (by omega)⟩
          have s6 : Same H4 H6 := by obtain ⟨_, _, _, _, s, _⟩ := R; exact s
          obtain ⟨dt, ft, q1, q2, q3, q4, _⟩ := (u3 j _ r (List.getElem?_eq_getElem hj) hr).same s6
          refine ⟨rfl, _, rfl, _, CT, dt, ft, _, rfl, q1, TT.cl, TT.nP, q2, _, rfl, _, CT, dt, ft, _, rfl, q1, TT.cl, TT.nH, q3, _, rfl, _, CT, dt, ft, _, rfl, q1, TT.cl, TT.nR, q4, by show 3 ≤ sizeLine; decide, fun z hz => ?_⟩
          obtain ⟨acc, ea⟩ := R.lt
          have nz : z ≠ D := fun e => by rw [e, ea] at hz; cases hz
          exact R.push PiR.st (same_new hz) (fun r' er => by
            rw [hr] at er
            cases er
            rw [hide_ne nz, upd_same]
            rfl) (by omega)
        · rintro H5 R
          rw [List.length_map, u2] at R
          obtain ⟨rD, s5, _⟩ := R.rws
          refine ⟨_, rfl, _, rfl, d, _, _, _, rfl, rfl, SqL.of (s5 _ _ d4), ay, t2, _, 1, _, rfl, rfl, SqT.of (s5 _ _ h2), rfl, ?_⟩
          exact ne_rows rD (w2.same s5) ⟨_, rfl, if_f rfl ⟨⟨_, _, _, rfl⟩, same_tr s4 s5⟩⟩
      · rintro σ' H3 ⟨⟨v2, v3, v4, rfl⟩, s3⟩
        exact ⟨⟨_, _, _, rfl⟩, s3⟩
    · rintro σ' H3 ⟨⟨v2, v3, v4, rfl⟩, s3⟩
      exact k H3 s3
end
end Law

/-! The law. -/
namespace Law
open PySem PySem.Spec PyProof.Rows L2 Sup
abbrev sLaw : Stmt := top 27
theorem dp_ints {K : PySem.W.Frag} {H : Hp} : ∀ ns : List Int, DpAll K H (ns.map V.int) (ns.map PyData.int)
  | [] => .nil
  | _ :: ns => .cons (.int _) (dp_ints ns)
theorem intLay (n : Int) : PyData.canLay0 (.int n) = true := by simp only [PyData.canLay0]
theorem ok_ints : ∀ ns : List Int, PyData.canLayAll0 (ns.map PyData.int) = true
  | [] => by simp only [List.map_nil, PyData.canLayAll0]
  | n :: ns => by
    rw [List.map_cons]
    simp only [PyData.canLayAll0]
    rw [Bool.and_eq_true]
    exact ⟨intLay n, ok_ints ns⟩
theorem deep_ints : ∀ ns : List Int, PyData.depthAll (ns.map PyData.int) = 0
  | [] => by simp [PyData.depthAll]
  | n :: ns => by
    rw [List.map_cons]
    simp [PyData.depthAll, PyData.depth, deep_ints ns]
theorem shaped_ints (ns : List Int) : SeqAt.shaped (.list (ns.map PyData.int)) = true := by
  unfold SeqAt.shaped
  have e : PyData.canLay0 (.list (ns.map PyData.int)) = true := by
    simp only [PyData.canLay0]
    exact ok_ints ns
  rw [e]
  simp [PyData.depth, deep_ints]
theorem ne_same {K : PySem.W.Frag} {H : Hp} {a b : Addr} {xs : List Int} {Q : VK} (h1 : H a = some (.lst (xs.map V.int))) (h2 : H b = some (.lst (xs.map V.int))) (q : Q (.bl false) H) : rNeD K (.ref a) (.ref b) H Q :=
  ⟨_, _, .lst (SqL.of h1) (dp_ints xs), .lst (SqL.of h2) (dp_ints xs), shaped_ints xs, shaped_ints xs, by rw [eqv_rfl (shaped_ints xs)]; exact q⟩
theorem DuAt.draw {H H' : Hp} {b l p : Addr} {cs : List Cse} (h : DuAt H p cs) (B : Box H b l) (s : SameB b H H') : DuAt H' p cs := by
  obtain ⟨ts, a1, a2, a3⟩ := h
  refine ⟨ts, s _ _ (B.neL3 a1) a1, a2, fun i t c e1 e2 => ?_⟩
  obtain ⟨m, d, us, c1, c2, c3⟩ := a3 i t c e1 e2
  exact ⟨m, s _ _ (B.neT d) d, us, s _ _ (B.neL3 c1) c1, c2, fun i u r f1 f2 => s _ _ (B.neT (c3 i u r f1 f2)) (c3 i u r f1 f2)⟩
/-- what the law holds on to -/
def LwI (K : PySem.W.Frag) (CT : Addr) (C : WCls) (t : Addr) (hs : List Int) (x u : Addr) (v : Spc) (du : Addr) (H : Hp) : Prop := H t = some (.lst (hs.map V.int)) ∧ WiAt K CT C H x v.wi ∧ SpcAt K H u v ∧ DuAt H du v.wi.cases
theorem LwI.same {K : PySem.W.Frag} {CT : Addr} {C : WCls} {t : Addr} {hs : List Int} {x u : Addr} {v : Spc} {du : Addr} {H H' : Hp} (h : LwI K CT C t hs x u v du H) (s : Same H H') : LwI K CT C t hs x u v du H' := by
  obtain ⟨a, b, c, d⟩ := h
  exact ⟨s _ _ a, b.same s, SpcAt.same s c, d.same s⟩
theorem LwI.draw {K : PySem.W.Frag} {CT : Addr} {C : WCls} {t : Addr} {hs : List Int} {x u : Addr} {v : Spc} {du b l : Addr} {H H' : Hp} (h : LwI K CT C t hs x u v du H) (B : Box H b l) (s : SameB b H H') : LwI K CT C t hs x u v du H' := by
  obtain ⟨a, e, c, d⟩ := h
  exact ⟨s _ _ (B.neZ a) a, e.draw B s, SpcAt.draw B s c, d.draw B s⟩
/-- instances of the five classes are wishes -/
structure WIsi (K : PySem.W.Frag) (C : WCls) : Prop where
  ha : ∀ v : Wi, PySem.W.findIn K (.ref (v.cls C)) "__class__" = some (some (.builtin "object.__class__"))
  hn : PySem.W.specialIn K (.builtin "object.__class__") "__get__" = some (some (.builtin "getset_descriptor.__get__"))
  ht : PySem.W.takesIn K (.builtin "object.__class__") = some true
  hm : ∀ v : Wi, PySem.W.mroIn K (v.cls C) (.type "object") = some true
  kit : ∀ v : Wi, PySem.W.kitOne K (.ref (v.cls C)) (.ref C.W) = some true
structure LwTxt (mg : Str → Option Value) (C : WCls) (fB fT fWs fSn fCa fSm fSz fEg : Addr) : Prop where
  box : mg "_law_box" = some (.ref fB)
  take : mg "_law_take" = some (.ref fT)
  wsh : mg "_law_wish" = some (.ref fWs)
  sing : mg "_law_single" = some (.ref fSn)
  cas : mg "_law_cases" = some (.ref fCa)
  same : mg "_law_same" = some (.ref fSm)
  siz : mg "_law_size" = some (.ref fSz)
  egt : mg "_law_eight" = some (.ref fEg)
  g_Wish : mg "Wish" = some (.ref C.W)
  somw : mg "SomeWithin" = some (.ref C.S)
  both : mg "Both" = some (.ref C.O)
  b_range : mg "range" = none
  b_isinstance : mg "isinstance" = none
def spLaw (K : PySem.W.Frag) : Sp := fun vs H Q _ => ∃ (a : Addr) (ns : List Int), vs = [.ref a] ∧ SqL K H a (ns.map V.int) ∧ ns.length ≤ 63 ∧ ∀ H', Q (.bl true) H'
section
variable {P : Program} {w : World} {K : PySem.W.Frag} {mg : Str → Option Value} {base : Heap} {CT CB : Addr} {C : WCls}
theorem scLaw : FnScope ["_law_script", "_law_box_here", "_law_truth", "_law_k", "_law_wish_here", "_law_spec", "_law_due", "_law_turn", "_law_told", "_law_case", "_law_large", "_law_parts", "_law_single_here", "_law_part", "_law_twice", "_law_plain", "_law_both"] ["_law_script"] (defScope sLaw) := ⟨rfl, rfl, rfl, by decide +kernel, rfl, by decide +kernel, by decide +kernel⟩
set_option maxHeartbeats 0 in
theorem ok_law {f fB fT fWs fSn fCa fSm fSz fEg fS fO : Addr} {fd fdB fdT fdWs fdSn fdCa fdSm fdSz fdEg : FuncData} (F : Fun K "law" "law" sLaw f fd) (T : LwTxt mg C fB fT fWs fSn fCa fSm fSz fEg) (X : WiTxt K mg CT C) (Y : WIsi K C)
    (GB : FnOk P w K mg base CX0 1 fB fdB ["_law_script"] (spBox K)) (FB : Fun K "_law_box" "_law_box" sBox fB fdB) (bB : Binds K fdB ["_law_script"] [])
    (GT : FnOk P w K mg base CX0 1 fT fdT ["_law_box_here", "_law_size_here"] spTake) (FT : Fun K "_law_take" "_law_take" sTake fT fdT) (bT : Binds K fdT ["_law_box_here", "_law_size_here"] [])
    (GWs : FnOk P w K mg base CX0 8 fWs fdWs ["_law_box_here", "_law_truth", "_law_tall"] (spWsh K CT C)) (FWs : Fun K "_law_wish" "_law_wish" sWsh fWs fdWs) (bWs : Binds K fdWs ["_law_box_here", "_law_truth", "_law_tall"] [])
    (GSn : FnOk P w K mg base CX0 7 fSn fdSn ["_law_box_here", "_law_truth", "_law_tall"] (spSng K CT C)) (FSn : Fun K "_law_single" "_law_single" sSng fSn fdSn) (bSn : Binds K fdSn ["_law_box_here", "_law_truth", "_law_tall"] [])
    (GCa : FnOk P w K mg base CX0 4 fCa fdCa ["_law_spec"] (spCaw K 2)) (FCa : Fun K "_law_cases" "_law_cases" sCas fCa fdCa) (bCa : Binds K fdCa ["_law_spec"] [])
    (GSm : FnOk P w K mg base CX0 2 fSm fdSm ["_law_told", "_law_due"] (spSme CT)) (FSm : Fun K "_law_same" "_law_same" sSme fSm fdSm) (bSm : Binds K fdSm ["_law_told", "_law_due"] [])
    (GSz : FnOk P w K mg base CX0 2 fSz fdSz ["_law_spec"] (spSiz K 1)) (FSz : Fun K "_law_size" "_law_size" sSiz fSz fdSz) (bSz : Binds K fdSz ["_law_spec"] [])
    (GEg : FnOk P w K mg base CX0 6 fEg fdEg ["_law_box_here", "_law_truth"] (spEgt K CT C)) (FEg : Fun K "_law_eight" "_law_eight" sEgt fEg fdEg) (bEg : Binds K fdEg ["_law_box_here", "_law_truth"] [])
    (MKS : Mk K C.S fS) (GS : FnR P w K mg base CX0 3 fS (spMny K CT C 2)) (MKO : Mk K C.O fO) (GO : FnR P w K mg base CX0 5 fO (spOini K CT C)) (W : WOps P w K mg base CT C) (M : WMeth P w K mg base CT C) : FnOk P w K mg base CX0 9 f fd ["_law_script"] (spLaw K) := by
  refine F.ok scLaw (fun vs H Q E h => ?_) (fun cdv A outer s H vs Q E hr h => ?_)
  · obtain ⟨a, ns, rfl, _⟩ := h
    rfl
  · obtain ⟨a, ns, rfl, h1, h2, h3⟩ := h
    have hr8 : Room 8 _ := hr
    have hr7 : Room 7 _ := hr.mono (by decide)
    have hr6 : Room 6 _ := hr.mono (by decide)
    have hr4 : Room 4 _ := hr.mono (by decide)
    have hr2 : Room 2 _ := hr.mono (by decide)
    have hr1 : Room 1 _ := hr.mono (by decide)
    refine ⟨_, (pss_cons (ps_set (i := 1) scLaw.nd rfl (Or.inr rfl) (pe_call GB hr1 rfl T.box FB.kp bB .nil pass0 (pa_cons (pv 0) pa_nil)))
      (C8.pss_cut (ps_setLc (i := 2) (own := [("_law_k", 3)]) (g := gName 3) (tt := tYes) (by rfl) scLaw.nd rfl rfl (sw_true rfl rfl rfl (by decide +kernel)) (pi_range1 (by rfl) T.b_range (pa_cons (pe_op op_add pe_int (pe_call GT hr1 rfl T.take FT.kp bT .nil pass0 (pa_cons (pv 1) (pa_cons pe_int pa_nil)))) pa_nil)) (blkOk_by (own := [("_law_k", 3)]) (N := ["_law_script", "_law_box_here", "_law_truth", "_law_k", "_law_wish_here", "_law_spec", "_law_due", "_law_turn", "_law_told", "_law_case", "_law_large", "_law_parts", "_law_single_here", "_law_part", "_law_twice", "_law_plain", "_law_both"]) (sc := defScope sLaw) (by decide +kernel)) (fun _ _ _ _ _ => (pg_name (i := 3) scLaw.nd rfl (Or.inl rfl))) (fun _ _ _ _ _ => pts_nil) (fun _ _ _ _ _ => by exact (pe_call GT hr1 rfl T.take FT.kp bT .nil pass0 (pa_cons (pv 1) (pa_cons pe_int pa_nil)))))
      (C8.pss_cut (ps_asg (pe_call GWs hr8 rfl T.wsh FWs.kp bWs .nil pass0 (pa_cons (pv 1) (pa_cons (pv 2) (pa_cons pe_int pa_nil)))) (pg_tup (by rfl) (pgs_cons (pg_name (i := 4) scLaw.nd rfl (Or.inl rfl)) (pgs_cons (pg_name (i := 5) scLaw.nd rfl (Or.inl rfl)) pgs_nil))))
      (C8.pss_cut (ps_set (i := 6) scLaw.nd rfl (Or.inl rfl) (pe_call GCa hr4 rfl T.cas FCa.kp bCa .nil pass0 (pa_cons (pv 5) pa_nil)))
      (C8.pss_cut (ps_for PassesOwn.never rfl (pi_range1 (by rfl) T.b_range (pa_cons pe_int pa_nil)) (pg_name (i := 7) scLaw.nd rfl (Or.inl rfl)) (C8.pss_cut (ps_set (i := 8) scLaw.nd rfl (Or.inl rfl) (SubZ.pe_methP0 (k := 4) (CX := CX0) (E := fun _ => E0) (pv 4) hr4 (passS pass0)))
      (C8.pss_cut (ps_if (pt_not (pt_val (pe_call GSm hr2 rfl T.same FSm.kp bSm .nil pass0 (pa_cons (pv 8) (pa_cons (pv 6) pa_nil))))) (pss_one (ps_ret pe_bl)) pss_nil)
      (C8.pss_cut (ps_for PassesOwn.never rfl (pi_list (pv 8)) (pg_name (i := 9) scLaw.nd rfl (Or.inl rfl)) (pss_one (ps_expr (pe_bm0 PySem.F.plainAttrs_list PySem.F.slot_list_clear PySem.F.type_list_clear mt_clear (pe_ix ix_tup (pv 9) pe_int (fun _ _ => rfl))))))
      (pss_one (ps_expr (pe_bm0 PySem.F.plainAttrs_list PySem.F.slot_list_clear PySem.F.type_list_clear mt_clear (pv 8))))))))
      (C8.pss_cut (ps_for PassesOwn.never rfl (pi_list (pe_call GEg hr6 rfl T.egt FEg.kp bEg .nil pass0 (pa_cons (pv 1) (pa_cons (pv 2) pa_nil)))) (pg_tup (by rfl) (pgs_cons (pg_name (i := 10) scLaw.nd rfl (Or.inl rfl)) (pgs_cons (pg_name (i := 11) scLaw.nd rfl (Or.inl rfl)) pgs_nil))) (pss_one (ps_if (pt_not (pt_val (pe_call GSm hr2 rfl T.same FSm.kp bSm .nil pass0 (pa_cons (SubZ.pe_methP0 (k := 4) (CX := CX0) (E := fun _ => E0) (pv 10) hr4 (passS pass0)) (pa_cons (pe_call GCa hr4 rfl T.cas FCa.kp bCa .nil pass0 (pa_cons (pv 11) pa_nil)) pa_nil))))) (pss_one (ps_ret pe_bl)) pss_nil)))
      (C8.pss_cut (ps_asg (pe_call GSn hr7 rfl T.sing FSn.kp bSn .nil pass0 (pa_cons (pv 1) (pa_cons (pv 2) (pa_cons pe_int pa_nil)))) (pg_tup (by rfl) (pgs_cons (pg_name (i := 12) scLaw.nd rfl (Or.inl rfl)) (pgs_cons (pg_name (i := 13) scLaw.nd rfl (Or.inl rfl)) pgs_nil))))
      (C8.pss_cut (ps_set (i := 14) scLaw.nd rfl (Or.inl rfl) (pe_op (SubZ.op_own2 (CX := CX0) (E := E0) hr7 pass0 rfl) (pv 12) (pv 12)))
      (C8.pss_cut (ps_if (PW.pt (pw_or (pt_not (pt_val (pe_callB call_isi (by rfl) T.b_isinstance (by decide +kernel) (pa_cons (pv 12) (pa_cons (pe_glob (v := .ref C.W) rfl T.g_Wish rfl) pa_nil))))) (pw_or1 (pt_not (pt_val (pe_callB call_isi (by rfl) T.b_isinstance (by decide +kernel) (pa_cons (pv 14) (pa_cons (pe_glob (v := .ref C.W) rfl T.g_Wish rfl) pa_nil)))))))) (pss_one (ps_ret pe_bl)) pss_nil)
      (C8.pss_cut (ps_if (pt_not (pt_val (pe_call GSm hr2 rfl T.same FSm.kp bSm .nil pass0 (pa_cons (SubZ.pe_methP0 (k := 4) (CX := CX0) (E := fun _ => E0) (pv 14) hr4 (passS pass0)) (pa_cons (pe_call GCa hr4 rfl T.cas FCa.kp bCa .nil pass0 (pa_cons (pe_tup (pa_cons pe_str (pa_cons (pv 13) (pa_cons (pv 13) pa_nil)))) pa_nil)) pa_nil))))) (pss_one (ps_ret pe_bl)) pss_nil)
      (C8.pss_cut (ps_set (i := 15) scLaw.nd rfl (Or.inl rfl) (Own.pe_makeS (E := fun _ => E0) MKS GS hr4 rfl T.somw (passS pass0) (pa_cons (pe_tup (pa_cons pe_int (pa_cons pe_int pa_nil))) pa_nil)))
      (C8.pss_cut (ps_set (i := 16) scLaw.nd rfl (Or.inl rfl) (Own.pe_makeS (E := fun _ => E0) MKO GO hr6 rfl T.both (passS pass0) (pa_cons (pv 4) (pa_cons (pv 15) pa_nil))))
      (C8.pss_cut (ps_if (PW.pt (pw_or (pt_cmpR op_ne (pe_fld (pv 16) rfl) (pe_op op_mulW pe_int (pe_call GSz hr2 rfl T.siz FSz.kp bSz .nil pass0 (pa_cons (pv 5) pa_nil))) (nomark _)) (pw_or1 (pt_cmpR (op_neD (hu64 hr)) (SubZ.pe_methP0 (k := 4) (CX := CX0) (E := fun _ => E0) (pv 16) hr4 (passS pass0)) (pe_op op_cat (SubZ.pe_methP0 (k := 4) (CX := CX0) (E := fun _ => E0) (pv 4) hr4 (passS pass0)) (pe_lst (pa_cons pe_int pa_nil))) (nomark _))))) (pss_one (ps_ret pe_bl)) pss_nil)
      (C8.pss_cut (ps_if (pt_not (pt_val (pe_call GSm hr2 rfl T.same FSm.kp bSm .nil pass0 (pa_cons (SubZ.pe_methP0 (k := 4) (CX := CX0) (E := fun _ => E0) (pv 16) hr4 (passS pass0)) (pa_cons (pe_call GCa hr4 rfl T.cas FCa.kp bCa .nil pass0 (pa_cons (pe_tup (pa_cons pe_str (pa_cons (pv 5) (pa_cons (pe_tup (pa_cons pe_str (pa_cons (pe_lst (pa_cons (pe_tup (pa_cons pe_int (pa_cons pe_int pa_nil))) pa_nil)) pa_nil))) pa_nil)))) pa_nil)) pa_nil))))) (pss_one (ps_ret pe_bl)) pss_nil)
      (pss_one (ps_ret (pe_call GSm hr2 rfl T.same FSm.kp bSm .nil pass0 (pa_cons (SubZ.pe_methP0 (k := 4) (CX := CX0) (E := fun _ => E0) (pv 4) hr4 (passS pass0)) (pa_cons (pv 6) pa_nil))))))))))))))))))), ?_⟩
    refine ⟨_, rfl, a, ns, rfl, h1, h2, fun b l H1 B1 nb nl s1 => ?_⟩
    clear s1 nb nl h1 h2
    refine ⟨fun σ' H' => ∃ (t : Addr) (hs : List Int), σ' = [some (.ref a), some (.ref b), some (.ref t), none, none, none, none, none, none, none, none, none, none, none, none, none, none] ∧ H' t = some (.lst (hs.map V.int)) ∧ TrOk hs ∧ Box H' b l, ?_, ?_⟩
    · refine ⟨_, rfl, b, l, 4, rfl, B1, by decide, by decide, fun cnt H3 c0 c1 B3 k3 => ⟨_, _, rfl, rfl, _, rfl, by omega, by omega, fun D hD => ?_⟩⟩
      have fr := B3.free hD
      refine lc_it (walk_range (lo := 0) (n := (1 + cnt).toNat)) (fun i H' => Box H' b l ∧ ∃ hs : List Int, H' D = some (.lst (hs.map V.int)) ∧ hs.length = i ∧ ∀ h ∈ hs, 0 ≤ h ∧ h ≤ 10 ^ 20) ⟨B3.same (same_new hD), [], upd_same, rfl, fun h hh => (nomatch hh)⟩ (fun _ _ _ _ => trivial) ?_ ?_
      · rintro i x H4 H5 hi ⟨B5, hs, d5, l5, hh⟩ ⟨rfl, rfl⟩
        refine ⟨rfl, _, rfl, b, l, 10, rfl, B5, by decide, by decide, fun z H6 z0 z1 B6 k6 => ?_⟩
        have d6 : H6 D = some (.lst (hs.map V.int)) := by rw [k6 _ fun z => fr.1 z.symm]; exact d5
        refine ⟨_, d6, small1000 (by rw [List.length_map]; omega), B6.at fr, hs ++ [z], by rw [upd_same, List.map_append]; rfl, by rw [List.length_append, l5]; rfl, fun h hm => ?_⟩
        rcases List.mem_append.mp hm with h | h
        · exact hh _ h
        · rw [List.mem_singleton.mp h]
          exact ⟨z0, Int.le_trans (show z ≤ 9 by omega) (by decide +kernel)⟩
      · rintro H4 ⟨B4, hs, d4, l4, hh⟩
        exact ⟨D, hs, rfl, d4, ⟨by omega, by omega, hh⟩, B4⟩
    rintro σ' H3 ⟨t, hs, rfl, e3, tr, B3⟩
    clear B1 H1
    obtain ⟨l1, l5, hh⟩ := id tr
    have b920 : (9 : Int) ≤ 10 ^ 20 := by decide +kernel
    refine ⟨fun σ' H' => ∃ (x u : Addr) (v : Spc), σ' = [some (.ref a), some (.ref b), some (.ref t), none, some (.ref x), some (.ref u), none, none, none, none, none, none, none, none, none, none, none] ∧ H' t = some (.lst (hs.map V.int)) ∧ WiAt K CT C H' x v.wi ∧ SpcAt K H' u v ∧ SpcOk hs.length 3 v ∧ v.dep ≤ 1 ∧ WiN 16 v.wi ∧ Box H' b l, ?_, ?_⟩
    · exact ⟨_, rfl, _, rfl, b, l, t, hs, 9, rfl, B3, e3, tr, by decide, b920, fun r x u v H4 r4 x4 u4 ok dp n16 B4 S4 => ⟨r, _, rfl, SqT.of r4, rfl, _, _, rfl, _, _, rfl, rfl, x, u, v, rfl, S4 _ _ (B3.neZ e3) e3, x4, u4, ok, dp, n16, B4⟩⟩
    rintro σ' H4 ⟨x, u, v, rfl, e4, x4, u4, ok3, dp, n16, B4⟩
    clear B3 e3
    have ok : SpcOk hs.length 8 v := ok3.mono (by decide)
    refine ⟨fun σ' H' => ∃ du : Addr, σ' = [some (.ref a), some (.ref b), some (.ref t), none, some (.ref x), some (.ref u), some (.ref du), none, none, none, none, none, none, none, none, none, none] ∧ LwI K CT C t hs x u v du H' ∧ Box H' b l, ?_, ?_⟩
    · exact ⟨_, rfl, u, v, hs.length, rfl, u4, ok, by omega, Nat.le_trans n16.ln (by decide), fun du H5 s5 dn => ⟨du, rfl, ⟨s5 _ _ e4, x4.same s5, SpcAt.same s5 u4, dn.at⟩, B4.same s5⟩⟩
    rintro σ' H5 ⟨du, rfl, I5, B5⟩
    clear e4 x4 u4 B4
    have ln5 : v.wi.cases.length ≤ 500 := Nat.le_trans n16.ln (by decide)
    have tl5 : ∀ c ∈ v.wi.cases, c.2.length ≤ 500 := fun c hc => Nat.le_trans (n16.tl c hc) (by decide)
    have ln1 := (Spc.cs_le (by decide) ok).1
    have sizX : ∀ {H' : Hp}, LwI K CT C t hs x u v du H' → ∃ dx fs, H' x = some (.ins (v.wi.cls C) dx fs) ∧ fs.lookup ("size" : Str) = some (.int v.wi.size) ∧ ∀ m ∈ wMth, fs.lookup m = none := fun I => by
      obtain ⟨_, ⟨dx, fs, a, b, c, _⟩, _⟩ := I
      exact ⟨dx, fs, a, b, c⟩
    refine ⟨fun σ' H' => ∃ v7 v8 v9 : Option V, σ' = [some (.ref a), some (.ref b), some (.ref t), none, some (.ref x), some (.ref u), some (.ref du), v7, v8, v9, none, none, none, none, none, none, none] ∧ Same H5 H', ?_, ?_⟩
    · refine ⟨2, rfl, by decide, by decide, ?_⟩
      refine for_it (walk_range (lo := 0) (n := 2)) (fun i σ' H' => ∃ v7 v8 v9 : Option V, σ' = [some (.ref a), some (.ref b), some (.ref t), none, some (.ref x), some (.ref u), some (.ref du), v7, v8, v9, none, none, none, none, none, none, none] ∧ Same H5 H') ⟨_, _, _, rfl, same_rfl⟩ (fun _ _ _ _ _ => trivial) ?_ ?_
      · rintro i x' σ' H6 HA hi ⟨v7, v8, v9, rfl, sA⟩ ⟨rfl, rfl⟩
        have IA := I5.same sA
        obtain ⟨dx, fs, i1, i2, i3⟩ := sizX IA
        obtain ⟨gc, mc, fc⟩ := M.cas v.wi
        refine ⟨fun σ' H' => ∃ (p : Addr) (vt : Option V), σ' = [some (.ref a), some (.ref b), some (.ref t), none, some (.ref x), some (.ref u), some (.ref du), vt, some (.ref p), v9, none, none, none, none, none, none, none] ∧ Same HA H' ∧ CssN CT HA H' p v.wi.cases, ?_, ?_⟩
        · exact ⟨_, rfl, x, v.wi.cls C, dx, fs, gc, _, rfl, i1, i3 _ (by decide), X.cl v.wi, mc, fc, x, v.wi, rfl, IA.2.1, rfl, ln5, tl5, fun p HB sB cn => ⟨p, _, rfl, sB, cn⟩⟩
        rintro σ' HB ⟨p, vt, rfl, sB, cn⟩
        refine ⟨fun σ' H' => σ' = [some (.ref a), some (.ref b), some (.ref t), none, some (.ref x), some (.ref u), some (.ref du), vt, some (.ref p), v9, none, none, none, none, none, none, none] ∧ Same HB H', ?_, ?_⟩
        · exact ⟨_, rfl, _, rfl, p, du, v.wi.cases, rfl, cn.at, (IA.same sB).2.2.2, ln5, tl5, fun HC sC => ⟨_, rfl, if_f rfl ⟨rfl, sC⟩⟩⟩
        rintro σ' HC ⟨rfl, sC⟩
        have cn := cn.same sC
        have sC := same_tr sB sC
        clear sB
        obtain ⟨np, ts, c1, c2, c3⟩ := cn
        refine ⟨fun σ' H' => ∃ v9 : Option V, σ' = [some (.ref a), some (.ref b), some (.ref t), none, some (.ref x), some (.ref u), some (.ref du), vt, some (.ref p), v9, none, none, none, none, none, none, none] ∧ Same HA H' ∧ H' p = some (.lst (ts.map V.ref)), ?_, ?_⟩
        · refine ⟨_, rfl, p, rfl, ⟨_, SqL.of c1⟩, ?_⟩
          refine for_it (walk_list (xs := ts.map V.ref)) (fun i σ' H' => ∃ v9 : Option V, σ' = [some (.ref a), some (.ref b), some (.ref t), none, some (.ref x), some (.ref u), some (.ref du), vt, some (.ref p), v9, none, none, none, none, none, none, none] ∧ Same HA H' ∧ H' p = some (.lst (ts.map V.ref)) ∧ ∀ (j : Nat) (tt : Addr) (c : Cse), ts[j]? = some tt → v.wi.cases[j]? = some c → ∃ m xs, m ≠ p ∧ HA m = none ∧ H' tt = some (.tup [.int c.1, .ref m]) ∧ H' m = some (.lst xs)) ⟨_, rfl, sC, c1, fun j tt c e1 e2 => ?_⟩ (fun i σ' H' _ h => by obtain ⟨_, _, _, e, _⟩ := h; exact SqL.of e) ?_ ?_
          · obtain ⟨m, n0, t1, us, u1, u2, u3⟩ := c3 j tt c e1 e2
            refine ⟨m, us.map V.ref, fun z => ?_, n0, t1, u1⟩
            rw [z, c1] at u1
            have e := HO.lst.inj (Option.some.inj u1)
            match ts, us, c2, e, c3 with
            | [], _, c2, _, _ => rw [← c2] at ln1; exact absurd ln1 (by decide)
            | t0 :: _, [], _, e, _ => cases e
            | t0 :: _, u0 :: _, c2, e, c3 =>
              rw [List.map_cons, List.map_cons] at e
              injection e with e _
              cases e
              obtain ⟨c0, hc0⟩ : ∃ c, v.wi.cases[0]? = some c := ⟨_, List.getElem?_eq_getElem (by omega)⟩
              obtain ⟨_, _, t9, _⟩ := c3 0 t0 c0 rfl hc0
              obtain ⟨r0, hr0⟩ : ∃ r, c.2[0]? = some r := ⟨_, List.getElem?_eq_getElem (by rw [← u2]; exact Nat.succ_pos _)⟩
              obtain ⟨_, _, q, _⟩ := u3 0 t0 r0 rfl hr0
              rw [t9] at q
              cases q
          · rintro i z σ' H7 H8 hi ⟨v9, rfl, s8, p8, c8⟩ ⟨rfl, hz⟩
            rw [List.length_map] at hi
            rw [List.getElem?_map, List.getElem?_eq_getElem hi] at hz
            cases hz
            obtain ⟨c, hc⟩ : ∃ c, v.wi.cases[i]? = some c := ⟨_, List.getElem?_eq_getElem (by omega)⟩
            obtain ⟨m, xs, nm, n0, t1, m1⟩ := c8 i _ c (List.getElem?_eq_getElem hi) hc
            refine ⟨_, rfl, ts[i], _, 1, _, rfl, rfl, SqT.of t1, rfl, .inl ⟨rfl, _, SqL.of m1⟩, m, _, rfl, rfl, m1, _, rfl, fun y o e => ?_, ?_, fun j tt c e1 e2 => ?_⟩
            · rw [upd_ne (ne_of_none e n0)]
              exact s8 _ _ e
            · rw [upd_ne (Ne.symm nm)]
              exact p8
            · obtain ⟨m', xs', a, b, d, g⟩ := c8 j tt c e1 e2
              have : upd H8 m (.lst []) tt = some (.tup [.int c.1, .ref m']) := by rw [upd_ne (fun z => by rw [z, m1] at d; cases d)]; exact d
              by_cases k : m' = m
              · exact ⟨m', [], a, b, this, by rw [k, upd_same]⟩
              · exact ⟨m', xs', a, b, this, by rw [upd_ne k]; exact g⟩
          · rintro σ' H7 ⟨v9, rfl, s7, p7, _⟩
            exact ⟨v9, rfl, s7, p7⟩
        rintro σ' HD ⟨v9, rfl, sD, eD⟩
        refine ⟨_, rfl, .inl ⟨rfl, _, SqL.of eD⟩, p, _, rfl, rfl, eD, _, _, _, rfl, fun y o e => ?_⟩
        rw [upd_ne (ne_of_none e (freshS sA np))]
        exact sD _ _ (sA _ _ e)
      · rintro σ' H6 ⟨v7, v8, v9, rfl, s6⟩
        exact ⟨v7, v8, v9, rfl, s6⟩
    rintro σ' H9 ⟨v7, v8, v9, rfl, s9⟩
    have I9 := I5.same s9
    have B9 := B5.same s9
    clear s9 I5 B5
    refine ⟨fun σ' H' => ∃ v10 v11 : Option V, σ' = [some (.ref a), some (.ref b), some (.ref t), none, some (.ref x), some (.ref u), some (.ref du), v7, v8, v9, v10, v11, none, none, none, none, none] ∧ Box H' b l ∧ SameB b H9 H', ?_, ?_⟩
    · refine ⟨_, rfl, _, rfl, b, l, t, hs, rfl, B9, I9.1, tr, fun r q1 q2 q3 w1 w2 w3 HA rA g1 g2 g3 BA SA => ⟨r, rfl, ⟨_, SqL.of rA⟩, ?_⟩⟩
      have nr := BA.neL3 (ts := [q1, q2, q3]) rA
      refine for_it (walk_list (xs := [V.ref q1, V.ref q2, V.ref q3])) (fun i σ' H' => ∃ v10 v11 : Option V, σ' = [some (.ref a), some (.ref b), some (.ref t), none, some (.ref x), some (.ref u), some (.ref du), v7, v8, v9, v10, v11, none, none, none, none, none] ∧ Same HA H') ⟨_, _, rfl, same_rfl⟩ (fun i σ' H' _ h => by obtain ⟨_, _, _, s⟩ := h; exact SqL.of (s _ _ rA)) ?_ ?_
      · rintro i z σ' HB HC hi ⟨v10, v11, rfl, SC⟩ ⟨rfl, hy⟩
        obtain ⟨qq, vv, eg, rfl⟩ : ∃ qq vv, EgAt K CT C HC hs.length qq vv ∧ z = .ref qq := by
          have hi : i < 3 := hi
          match i, hi, hy with
          | 0, _, hy => cases hy; exact ⟨q1, w1, g1.same SC, rfl⟩
          | 1, _, hy => cases hy; exact ⟨q2, w2, g2.same SC, rfl⟩
          | 2, _, hy => cases hy; exact ⟨q3, w3, g3.same SC, rfl⟩
        obtain ⟨xl, ul, c1, c2, c3, c4, c5⟩ := eg
        have n9 := wiN_leaf (m := 8) (by decide) c4 c5
        have l5' : vv.wi.cases.length ≤ 500 := Nat.le_trans n9.ln (by decide)
        have t5' : ∀ c ∈ vv.wi.cases, c.2.length ≤ 500 := fun c hc => Nat.le_trans (n9.tl c hc) (by decide)
        obtain ⟨dx, fs, i1, i2, i3, _⟩ := id c2
        obtain ⟨gc, mc, fc⟩ := M.cas vv.wi
        refine ⟨qq, _, rfl, SqT.of c1, rfl, _, _, rfl, _, _, rfl, rfl, ?_⟩
        refine ⟨_, rfl, xl, vv.wi.cls C, dx, fs, gc, _, rfl, i1, i3 _ (by decide), X.cl vv.wi, mc, fc, xl, vv.wi, rfl, c2, rfl, l5', t5', fun p HD sD cn => ?_⟩
        refine ⟨_, rfl, ul, vv, hs.length, rfl, SpcAt.same sD c3, c4, by omega, l5', fun q HE sE dn => ?_⟩
        exact ⟨p, q, vv.wi.cases, rfl, cn.at.same sE, dn.at, l5', t5', fun HF sF => ⟨_, rfl, if_f rfl ⟨_, _, rfl, same_tr SC (same_tr sD (same_tr sE sF))⟩⟩⟩
      · rintro σ' HB ⟨v10, v11, rfl, SB⟩
        exact ⟨_, _, rfl, BA.same SB, SA.trans (SameB.of_same SB)⟩
    rintro σ' HA ⟨v10, v11, rfl, BA, SA⟩
    have IA := I9.draw B9 SA
    clear I9 B9 SA
    refine ⟨fun σ' H' => ∃ (x2 u2 : Addr) (v2 : Spc), σ' = [some (.ref a), some (.ref b), some (.ref t), none, some (.ref x), some (.ref u), some (.ref du), v7, v8, v9, v10, v11, some (.ref x2), some (.ref u2), none, none, none] ∧ WiAt K CT C H' x2 v2.wi ∧ SpcAt K H' u2 v2 ∧ SpcOk hs.length 3 v2 ∧ v2.dep = 0 ∧ Box H' b l ∧ SameB b HA H', ?_, ?_⟩
    · exact ⟨_, rfl, _, rfl, b, l, t, hs, 9, rfl, BA, IA.1, tr, by decide, b920, fun r x u v H4 r4 x4 u4 ok dp B4 S4 => ⟨r, _, rfl, SqT.of r4, rfl, _, _, rfl, _, _, rfl, rfl, x, u, v, rfl, x4, u4, ok, dp, B4, S4⟩⟩
    rintro σ' HB ⟨x2, u2, v2, rfl, wB, pB, ok2, dp2, BB, SB⟩
    have IB := IA.draw BA SB
    clear IA BA SB
    have n4 := wiN_leaf (m := 3) (by decide) ok2 dp2
    have ok28 : SpcOk hs.length 8 v2 := ok2.mono (by decide)
    refine ⟨fun σ' H' => ∃ x3 : Addr, σ' = [some (.ref a), some (.ref b), some (.ref t), none, some (.ref x), some (.ref u), some (.ref du), v7, v8, v9, v10, v11, some (.ref x2), some (.ref u2), some (.ref x3), none, none] ∧ WiAt K CT C H' x3 (bothW v2.wi v2.wi) ∧ Same HB H', ?_, ?_⟩
    · obtain ⟨dx, fs, i1, _⟩ := id wB
      obtain ⟨fa, bn, fr⟩ := W.and v2.wi v2.wi
      exact ⟨_, rfl, _, rfl, x2, x2, dx, dx, fs, fs, _, _, fa, _, rfl, rfl, i1, i1, bn, fr, x2, x2, v2.wi, v2.wi, rfl, wB, wB, n4.b (by decide), n4.b (by decide), Nat.le_trans (Nat.mul_le_mul n4.ln n4.ln) (by decide), Nat.le_trans (Nat.add_le_add n4.pl n4.pl) (by decide), fun z H4 hz S4 wz => ⟨z, rfl, wz, S4⟩⟩
    rintro σ' HC ⟨x3, rfl, w3, sC⟩
    have IC := IB.same sC
    have pC := SpcAt.same sC pB
    have wC := wB.same sC
    clear IB pB wB sC
    have n16' := wiN_both n4 n4 (by decide) (by decide)
    refine ⟨fun σ' H' => σ' = [some (.ref a), some (.ref b), some (.ref t), none, some (.ref x), some (.ref u), some (.ref du), v7, v8, v9, v10, v11, some (.ref x2), some (.ref u2), some (.ref x3), none, none] ∧ HC = H', ?_, ?_⟩
    · obtain ⟨dx, fs, i1, _⟩ := id wC
      obtain ⟨dy, gs, j1, _⟩ := id w3
      refine ⟨_, rfl, V.ref x2, V.ref C.W, .ref (v2.wi.cls C), .ref C.W, true, rfl, .own _, .base (.ins i1 (X.cl v2.wi) (Y.ha v2.wi) Y.hn Y.ht (Y.hm v2.wi)), Y.kit v2.wi, true, rfl, if_f rfl ?_⟩
      exact ⟨_, rfl, V.ref x3, V.ref C.W, .ref ((bothW v2.wi v2.wi).cls C), .ref C.W, true, rfl, .own _, .base (.ins j1 (X.cl (bothW v2.wi v2.wi)) (Y.ha (bothW v2.wi v2.wi)) Y.hn Y.ht (Y.hm (bothW v2.wi v2.wi))), Y.kit (bothW v2.wi v2.wi), true, rfl, if_f rfl ⟨rfl, rfl⟩⟩
    rintro σ' _ ⟨rfl, rfl⟩
    refine ⟨fun σ' H' => σ' = [some (.ref a), some (.ref b), some (.ref t), none, some (.ref x), some (.ref u), some (.ref du), v7, v8, v9, v10, v11, some (.ref x2), some (.ref u2), some (.ref x3), none, none] ∧ Same HC H', ?_, ?_⟩
    · obtain ⟨dx, fs, i1, i2, i3, _⟩ := id w3
      obtain ⟨gc, mc, fc⟩ := M.cas (bothW v2.wi v2.wi)
      have l5' : (bothW v2.wi v2.wi).cases.length ≤ 500 := Nat.le_trans n16'.ln (by decide)
      have t5' : ∀ c ∈ (bothW v2.wi v2.wi).cases, c.2.length ≤ 500 := fun c hc => Nat.le_trans (n16'.tl c hc) (by decide)
      refine ⟨_, rfl, x3, _, dx, fs, gc, _, rfl, i1, i3 _ (by decide), X.cl (bothW v2.wi v2.wi), mc, fc, x3, bothW v2.wi v2.wi, rfl, w3, rfl, l5', t5', fun p HD sD cn => ?_⟩
      refine ⟨_, rfl, _, rfl, by show 3 ≤ sizeLine; decide, fun tt htt => ?_⟩
      have st := same_new (o := .tup [V.str "both", V.ref u2, V.ref u2]) htt
      have sp2 := SpcAt.same st (SpcAt.same sD pC)
      refine ⟨tt, .both v2 v2, hs.length, rfl, ⟨u2, u2, SqT.of upd_same, sp2, sp2⟩, ⟨ok28, ok28⟩, by show max v2.dep v2.dep + 1 ≤ 2; omega, l5', fun q HE sE dn => ?_⟩
      exact ⟨p, q, (bothW v2.wi v2.wi).cases, rfl, cn.at.same (same_tr st sE), dn.at, l5', t5', fun HF sF => ⟨_, rfl, if_f rfl ⟨rfl, same_tr sD (same_tr st (same_tr sE sF))⟩⟩⟩
    rintro σ' HD ⟨rfl, sD⟩
    have ID := IC.same sD
    clear IC w3 pC wC sD n16'
    have a0 : (0 : Int) < hs.length := by omega
    have pr1 : PrOk hs.length ((0 : Int), (4 : Int)) := ⟨Int.le_refl 0, a0, sz_small (by decide +kernel)⟩
    have okS : SpcOk hs.length 8 (.some [(0, 4)]) := ⟨by show 1 ≤ 8; decide, fun q hq => by rw [List.mem_singleton.mp hq]; exact pr1⟩
    have okS3 : SpcOk hs.length 3 (.some [(0, 4)]) := ⟨by show 1 ≤ 3; decide, okS.2⟩
    have n4s := wiN_leaf (m := 3) (by decide) okS3 rfl
    refine ⟨fun σ' H' => ∃ x4 : Addr, σ' = [some (.ref a), some (.ref b), some (.ref t), none, some (.ref x), some (.ref u), some (.ref du), v7, v8, v9, v10, v11, some (.ref x2), some (.ref u2), some (.ref x3), some (.ref x4), none] ∧ WiAt K CT C H' x4 (.some [(0, 4)]) ∧ Same HD H', ?_, ?_⟩
    · refine ⟨by show 2 ≤ sizeLine; decide, fun tu htu => ?_⟩
      have su := same_new (o := .tup [V.int 0, V.int 4]) htu
      have etu : upd HD tu (.tup [V.int 0, V.int 4]) tu = some (.tup [V.int 0, V.int 4]) := upd_same
      generalize upd HD tu (.tup [V.int 0, V.int 4]) = HF at su etu ⊢
      refine mk_mny (CT := CT) (ts := [tu]) (ps := [(0, 4)]) (v := .some [(0, 4)]) rfl (.inr rfl) rfl (fun i z q e1 e2 => ?_) (by show 1 ≤ 100; decide) fun x4 HG _ sG w4 => ⟨x4, rfl, w4, same_tr su sG⟩
      match i, e1, e2 with
      | 0, e1, e2 => cases e1; cases e2; exact SqT.of etu
      | i + 1, e1, e2 => cases e1
    rintro σ' HE ⟨x4, rfl, w4, sE⟩
    have IE := ID.same sE
    clear ID sE
    refine ⟨fun σ' H' => ∃ x5 : Addr, σ' = [some (.ref a), some (.ref b), some (.ref t), none, some (.ref x), some (.ref u), some (.ref du), v7, v8, v9, v10, v11, some (.ref x2), some (.ref u2), some (.ref x3), some (.ref x4), some (.ref x5)] ∧ WiAt K CT C H' x5 (bothW v.wi (.some [(0, 4)])) ∧ Same HE H', ?_, ?_⟩
    · exact ⟨_, rfl, _, rfl, mk_oth IE.2.1 w4 (n16.b (by decide)) (n4s.b (by decide)) (Nat.le_trans (Nat.mul_le_mul n16.ln n4s.ln) (by decide)) (Nat.le_trans (Nat.add_le_add n16.pl n4s.pl) (by decide)) fun x5 HF _ sF w5 => ⟨x5, rfl, w5, sF⟩⟩
    rintro σ' HF ⟨x5, rfl, w5, sF⟩
    have IF := IE.same sF
    clear IE sF w4
    have n64 := wiN_both n16 n4s (by decide) (by decide)
    have okM : SpcOk hs.length 8 (.both v (.some [(0, 4)])) := ⟨ok, okS⟩
    refine ⟨fun σ' H' => σ' = [some (.ref a), some (.ref b), some (.ref t), none, some (.ref x), some (.ref u), some (.ref du), v7, v8, v9, v10, v11, some (.ref x2), some (.ref u2), some (.ref x3), some (.ref x4), some (.ref x5)] ∧ Same HF H', ?_, ?_⟩
    · obtain ⟨dx, fs, i1, i2, i3, _⟩ := id w5
      obtain ⟨gp, mp, fp⟩ := M.pla (bothW v.wi (.some [(0, 4)]))
      obtain ⟨gq, mq, fq⟩ := M.pla v.wi
      refine ⟨_, rfl, x5, _, dx, fs, _, rfl, i1, X.cl (bothW v.wi (.some [(0, 4)])), X.na (bothW v.wi (.some [(0, 4)])) _ (by decide), i2, _, rfl, u, v, hs.length, rfl, IF.2.2.1, ok, dp, _, _, rfl, rfl, mulW (sz_small (by decide +kernel)) (Spc.szS ok (by omega)), rfl, _, rfl, if_f (by show (!decide (V.int (v.wi.size * 2) = V.int (2 * v.wi.size))) = false; rw [Int.mul_comm]; simp) ?_⟩
      refine ⟨_, rfl, x5, _, dx, fs, gp, _, rfl, i1, i3 _ (by decide), X.cl (bothW v.wi (.some [(0, 4)])), mp, fp, x5, bothW v.wi (.some [(0, 4)]), rfl, w5, rfl, Nat.le_trans n64.pl (by decide), fun p HG hp sG eG => ?_⟩
      have IG := IF.same sG
      obtain ⟨dy, gs, j1, _, j3⟩ := sizX IG
      have p16 := n16.pl
      refine ⟨_, rfl, x, _, dy, gs, gq, _, rfl, j1, j3 _ (by decide), X.cl v.wi, mq, fq, x, v.wi, rfl, IG.2.1, rfl, by omega, fun q HH hq sH eH => ?_⟩
      refine ⟨by show 1 ≤ sizeLine; decide, fun m hm => ?_⟩
      have sm := same_new (o := .lst [V.int 0]) hm
      refine ⟨q, m, _, _, rfl, rfl, sm _ _ eH, upd_same, Nat.le_of_lt (small1000 (by rw [List.length_map]; show v.wi.places.length + 1 ≤ _; omega)), fun r hr' => ?_⟩
      have sr := same_new (o := .lst (v.wi.places.map V.int ++ [V.int 0])) hr'
      exact ne_same (xs := v.wi.places ++ [0]) (sr _ _ (sm _ _ (sH _ _ eG))) (by rw [upd_same, List.map_append]; rfl) ⟨_, rfl, if_f rfl ⟨rfl, same_tr sG (same_tr sH (same_tr sm sr))⟩⟩
    rintro σ' HG ⟨rfl, sG⟩
    have IG := IF.same sG
    have w5 := w5.same sG
    clear IF sG
    refine ⟨fun σ' H' => σ' = [some (.ref a), some (.ref b), some (.ref t), none, some (.ref x), some (.ref u), some (.ref du), v7, v8, v9, v10, v11, some (.ref x2), some (.ref u2), some (.ref x3), some (.ref x4), some (.ref x5)] ∧ Same HG H', ?_, ?_⟩
    · obtain ⟨dx, fs, i1, i2, i3, _⟩ := id w5
      obtain ⟨gc, mc, fc⟩ := M.cas (bothW v.wi (.some [(0, 4)]))
      have l5' : (bothW v.wi (.some [(0, 4)])).cases.length ≤ 500 := Nat.le_trans n64.ln (by decide)
      have t5' : ∀ c ∈ (bothW v.wi (.some [(0, 4)])).cases, c.2.length ≤ 500 := fun c hc => Nat.le_trans (n64.tl c hc) (by decide)
      refine ⟨_, rfl, x5, _, dx, fs, gc, _, rfl, i1, i3 _ (by decide), X.cl (bothW v.wi (.some [(0, 4)])), mc, fc, x5, bothW v.wi (.some [(0, 4)]), rfl, w5, rfl, l5', t5', fun p HH sH cn => ?_⟩
      refine ⟨_, rfl, by show 2 ≤ sizeLine; decide, fun ta hta => ⟨by show 1 ≤ sizeLine; decide, fun tb htb => ⟨by show 2 ≤ sizeLine; decide, fun tc htc => ⟨by show 3 ≤ sizeLine; decide, fun td htd => ?_⟩⟩⟩⟩
      have sa := same_new (o := .tup [V.int 0, V.int 4]) hta
      have ea : upd HH ta (.tup [V.int 0, V.int 4]) ta = some (.tup [V.int 0, V.int 4]) := upd_same
      have htb' : upd HH ta (.tup [V.int 0, V.int 4]) tb = none := htb
      have htc' : upd (upd HH ta (.tup [V.int 0, V.int 4])) tb (.lst [V.ref ta]) tc = none := htc
      have htd' : upd (upd (upd HH ta (.tup [V.int 0, V.int 4])) tb (.lst [V.ref ta])) tc (.tup [V.str "some", V.ref tb]) td = none := htd
      clear htb htc htd
      generalize upd HH ta (.tup [V.int 0, V.int 4]) = HI at sa ea htb' htc' htd' ⊢
      have sb := same_new (o := .lst [V.ref ta]) htb'
      have eb : upd HI tb (.lst [V.ref ta]) tb = some (.lst [V.ref ta]) := upd_same
      generalize upd HI tb (.lst [V.ref ta]) = HJ at sb eb htc' htd' ⊢
      have sc := same_new (o := .tup [V.str "some", V.ref tb]) htc'
      have ec : upd HJ tc (.tup [V.str "some", V.ref tb]) tc = some (.tup [V.str "some", V.ref tb]) := upd_same
      generalize upd HJ tc (.tup [V.str "some", V.ref tb]) = HK at sc ec htd' ⊢
      have sd := same_new (o := .tup [V.str "both", V.ref u, V.ref tc]) htd'
      have sA := same_tr sa (same_tr sb (same_tr sc sd))
      refine ⟨td, .both v (.some [(0, 4)]), hs.length, rfl, ⟨u, tc, SqT.of upd_same, SpcAt.same (same_tr sH sA) IG.2.2.1, ⟨tb, SqT.of (sd _ _ ec), [ta], sd _ _ (sc _ _ eb), rfl, fun i z q e1 e2 => ?_⟩⟩, okM, by show max v.dep 0 + 1 ≤ 2; omega, l5', fun q HL sL dn => ?_⟩
      · match i, e1, e2 with
        | 0, e1, e2 => cases e1; cases e2; exact SqT.of (sd _ _ (sc _ _ (sb _ _ ea)))
        | i + 1, e1, e2 => cases e1
      exact ⟨p, q, (bothW v.wi (.some [(0, 4)])).cases, rfl, cn.at.same (same_tr sA sL), dn.at, l5', t5', fun HF sF => ⟨_, rfl, if_f rfl ⟨rfl, same_tr sH (same_tr sA (same_tr sL sF))⟩⟩⟩
    rintro σ' HH ⟨rfl, sH⟩
    have IH := IG.same sH
    obtain ⟨dx, fs, i1, i2, i3⟩ := sizX IH
    obtain ⟨gc, mc, fc⟩ := M.cas v.wi
    refine ⟨_, rfl, x, _, dx, fs, gc, _, rfl, i1, i3 _ (by decide), X.cl v.wi, mc, fc, x, v.wi, rfl, IH.2.1, rfl, ln5, tl5, fun p HI sI cn => ?_⟩
    exact ⟨_, rfl, p, du, v.wi.cases, rfl, cn.at, (IH.same sI).2.2.2, ln5, tl5, fun HJ _ => h3 HJ⟩
end
end Law

/-! For the end: a def with a default, the two classes of an operator, names of classes. -/
namespace SubZ
open PySem PySem.Spec PyProof.Rows L2
theorem and_eq : PySem.dunder Operator.BitAnd.info.2 = ("__and__" : Str) := by decide +kernel
theorem rand_eq : dunderR Operator.BitAnd.info.2 = ("__rand__" : Str) := by decide +kernel
theorem bin_same {K : PySem.W.Frag} {C f : Addr} (hc : PySem.W.selfFirst K C = true) (hs : PySem.W.findIn K (.ref C) "__and__" = some (some (.ref f))) (hf : PySem.W.isFn K (.ref f) = true) : Bin K .BitAnd C C f := .same rfl hc (by rw [and_eq]; exact hs) hf
theorem bin_two {K : PySem.W.Frag} {C C2 f f2 : Addr} {sub : Bool} (ne : C ≠ C2) (hc : PySem.W.selfFirst K C = true) (hc2 : PySem.W.selfFirst K C2 = true) (hs : PySem.W.findIn K (.ref C) "__and__" = some (some (.ref f))) (hs2 : PySem.W.findIn K (.ref C2) "__and__" = some (some (.ref f2)))
    (hr : PySem.W.findIn K (.ref C) "__rand__" = some none) (hr2 : PySem.W.findIn K (.ref C2) "__rand__" = some none) (hf : PySem.W.isFn K (.ref f) = true) (hsub : PySem.W.subIn K (.ref C2) (.ref C) = some sub) (hl : sub = true → SubY.Lack K C2 "__rand__") : Bin K .BitAnd C C2 f :=
  .two f2 sub ne hc hc2 (by rw [and_eq]; exact hs) (by rw [and_eq]; exact hs2) (by rw [rand_eq]; exact hr) (by rw [rand_eq]; exact hr2) hf hsub (fun e => by rw [rand_eq]; exact hl e) (by rw [rand_eq]; decide +kernel)
def nmB (nm : Str) (C : Addr) (K : PySem.W.Frag) : Bool := (PySem.W.clsIn K C).any fun cd => decide (cd.name = nm)
theorem name_ok {K : PySem.W.Frag} {C : Addr} {nm : Str} (h : nmB nm C K = true) (h1 : (decide (nm.cps.foldl (fun k c => k + (Str.utf8Of c).length) 0 ≤ 100) && decide ((Str.ofString (s!"type object '{nm.toString}' has no attribute '")).length ≤ 1000)) = true) : SubY.nameB K C = true := by
  unfold nmB at h
  unfold SubY.nameB
  cases e : PySem.W.clsIn K C with
  | none => rw [e] at h; cases h
  | some cd =>
    rw [e] at h
    have h : cd.name = nm := of_decide_eq_true h
    show (decide (cd.name.cps.foldl (fun k c => k + (Str.utf8Of c).length) 0 ≤ 100) && decide ((Str.ofString (s!"type object '{cd.name.toString}' has no attribute '")).length ≤ 1000)) = true
    rw [h]
    exact h1
theorem nm_all {K : PySem.W.Frag} {C : Addr} (h : nmB "AllWithin" C K = true) : SubY.nameB K C = true := name_ok h (by decide +kernel)
theorem nm_some {K : PySem.W.Frag} {C : Addr} (h : nmB "SomeWithin" C K = true) : SubY.nameB K C = true := name_ok h (by decide +kernel)
theorem nm_band {K : PySem.W.Frag} {C : Addr} (h : nmB "Band" C K = true) : SubY.nameB K C = true := name_ok h (by decide +kernel)
theorem nm_both {K : PySem.W.Frag} {C : Addr} (h : nmB "Both" C K = true) : SubY.nameB K C = true := name_ok h (by decide +kernel)
end SubZ
namespace Law
open PySem PySem.Spec PyProof.Rows L2 Sup
section
variable {P : Program} {w : World} {K : PySem.W.Frag} {mg : Str → Option Value} {base : Heap} {CT : Addr} {C : WCls}
theorem ok_winiD {f : Addr} {fd : FuncData} (F : FunD K "__init__" "Wish.__init__" (defArgs sWini) (defBody sWini) (defScope sWini) [.int 1] [] f fd) (T : WiTxt K mg CT C) : FnOk P w K mg base CX0 1 f fd ["self", "size"] (spWini K C) := by
  refine F.ok scWini (fun vs H Q E h => ?_) (fun cdv A outer s H vs Q E hr h => ?_)
  · obtain ⟨x, v, dx, fs, n, rfl, _⟩ := h
    rfl
  · obtain ⟨x, v, dx, fs, n, rfl, hx, hl, k⟩ := h
    refine ⟨_, (pss_one (ps_fld (pv 0) (pv 1) rfl)), ?_⟩
    exact ⟨_, rfl, _, rfl, x, _, dx, _, rfl, hx, T.cl v, T.na v _ (by decide), hl, k⟩
end
end Law

namespace Law
open PySem PySem.Spec PyProof.Rows L2 Sup NdefX
abbrev sErB : Stmt := inClass (top 3) 0
abbrev sErP : Stmt := inClass (top 4) 0
abbrev sSiniq : Stmt := inClass (top 10) 0
theorem all_mk {P : Program} {w : World} {K : PySem.W.Frag} {h : Heap} {mg : Str → Option Value} {fa : Addr} (X : K.In h) (G : h.Ns mainGlobals mg) (hfa : mg "law" = some (.ref fa)) (htop : (P.main.scope.names.lookup ("super" : Str)).isSome = false)
    {fTi : Addr} {odTi anTi : Option Addr} {slTi : Array (Option Value)} {ocTi kVTi dcTi pmTi cdTi ctTi : Value}
    {fAg : Addr} {odAg anAg : Option Addr} {slAg : Array (Option Value)} {ocAg kVAg dcAg pmAg cdAg ctAg : Value}
    {fTv : Addr} {odTv anTv : Option Addr} {slTv : Array (Option Value)} {ocTv kVTv dcTv pmTv cdTv ctTv : Value}
    {fWi : Addr} {odWi anWi : Option Addr} {slWi : Array (Option Value)} {ocWi kVWi dcWi pmWi cdWi ctWi : Value}
    {DTWi : Addr} {xoWi : Value} {xdWi : Option Addr} {xsWi : Array (Option Value)} {xnWi : Nat} {tkW : Tok}
    {fWc : Addr} {odWc anWc : Option Addr} {slWc : Array (Option Value)} {ocWc kVWc dcWc pmWc cdWc ctWc : Value}
    {fWa : Addr} {odWa anWa : Option Addr} {slWa : Array (Option Value)} {ocWa kVWa dcWa pmWa cdWa ctWa : Value}
    {fWp : Addr} {odWp anWp : Option Addr} {slWp : Array (Option Value)} {ocWp kVWp dcWp pmWp cdWp ctWp : Value}
    {fWn : Addr} {odWn anWn : Option Addr} {slWn : Array (Option Value)} {ocWn kVWn dcWn pmWn cdWn ctWn : Value}
    {fAc : Addr} {odAc anAc : Option Addr} {slAc : Array (Option Value)} {ocAc kVAc dcAc pmAc cdAc ctAc : Value}
    {fAp : Addr} {odAp anAp : Option Addr} {slAp : Array (Option Value)} {ocAp kVAp dcAp pmAp cdAp ctAp : Value}
    {fSc : Addr} {odSc anSc : Option Addr} {slSc : Array (Option Value)} {ocSc kVSc dcSc pmSc cdSc ctSc : Value}
    {fSp : Addr} {odSp anSp : Option Addr} {slSp : Array (Option Value)} {ocSp kVSp dcSp pmSp cdSp ctSp : Value}
    {fBc : Addr} {odBc anBc : Option Addr} {slBc : Array (Option Value)} {ocBc kVBc dcBc pmBc cdBc ctBc : Value}
    {fBp : Addr} {odBp anBp : Option Addr} {slBp : Array (Option Value)} {ocBp kVBp dcBp pmBp cdBp ctBp : Value}
    {fOc : Addr} {odOc anOc : Option Addr} {slOc : Array (Option Value)} {ocOc kVOc dcOc pmOc cdOc ctOc : Value}
    {fOp : Addr} {odOp anOp : Option Addr} {slOp : Array (Option Value)} {ocOp kVOp dcOp pmOp cdOp ctOp : Value}
    {fBo : Addr} {odBo anBo : Option Addr} {slBo : Array (Option Value)} {ocBo kVBo dcBo pmBo cdBo ctBo : Value}
    {fT : Addr} {odT anT : Option Addr} {slT : Array (Option Value)} {ocT kVT dcT pmT cdT ctT : Value}
    {fNu : Addr} {odNu anNu : Option Addr} {slNu : Array (Option Value)} {ocNu kVNu dcNu pmNu cdNu ctNu : Value}
    {fPr : Addr} {odPr anPr : Option Addr} {slPr : Array (Option Value)} {ocPr kVPr dcPr pmPr cdPr ctPr : Value}
    {fMn : Addr} {odMn anMn : Option Addr} {slMn : Array (Option Value)} {ocMn kVMn dcMn pmMn cdMn ctMn : Value}
    {fBd : Addr} {odBd anBd : Option Addr} {slBd : Array (Option Value)} {ocBd kVBd dcBd pmBd cdBd ctBd : Value}
    {fSn : Addr} {odSn anSn : Option Addr} {slSn : Array (Option Value)} {ocSn kVSn dcSn pmSn cdSn ctSn : Value}
    {fWs : Addr} {odWs anWs : Option Addr} {slWs : Array (Option Value)} {ocWs kVWs dcWs pmWs cdWs ctWs : Value}
    {fSz : Addr} {odSz anSz : Option Addr} {slSz : Array (Option Value)} {ocSz kVSz dcSz pmSz cdSz ctSz : Value}
    {fCa : Addr} {odCa anCa : Option Addr} {slCa : Array (Option Value)} {ocCa kVCa dcCa pmCa cdCa ctCa : Value}
    {fSm : Addr} {odSm anSm : Option Addr} {slSm : Array (Option Value)} {ocSm kVSm dcSm pmSm cdSm ctSm : Value}
    {fEg : Addr} {odEg anEg : Option Addr} {slEg : Array (Option Value)} {ocEg kVEg dcEg pmEg cdEg ctEg : Value}
    {fL : Addr} {odL anL : Option Addr} {slL : Array (Option Value)} {ocL kVL dcL pmL cdL ctL : Value}
    {CEB fiEB cdEB ccEB NEB : Addr} {nmEB qEB : Str} {bsEB bmEB : List Value} {snEB : List Str} {subEB : List Value} {abEB : Bool} {colEB : Option Bool} {ddEB : Option Addr} {m0EB m1EB m2EB m3EB m5EB : Option Value}
    {odEB anEB dkEB deEB : Option Addr} {slEB skEB seEB : Array (Option Value)} {ocEB kVEB dcEB pmEB ctEB ckEB ceEB : Value} {vkEB : Array Value} {flEB : Str} {tfEB : Tok}
    {CEP fiEP cdEP ccEP NEP : Addr} {nmEP qEP : Str} {bsEP bmEP : List Value} {snEP : List Str} {subEP : List Value} {abEP : Bool} {colEP : Option Bool} {ddEP : Option Addr} {m0EP m1EP m2EP m3EP m5EP : Option Value}
    {odEP anEP dkEP deEP : Option Addr} {slEP skEP seEP : Array (Option Value)} {ocEP kVEP dcEP pmEP ctEP ckEP ceEP : Value} {vkEP : Array Value} {flEP : Str} {tfEP : Tok}
    {CTrial CWish CAllWithin CSomeWithin CBand CBoth : Addr} {fAi cdAi ccAi : Addr} {odAi anAi dkAi deAi : Option Addr} {slAi skAi seAi : Array (Option Value)} {ocAi kVAi dcAi pmAi ctAi ckAi ceAi : Value} {vkAi : Array Value} {flAi : Str} {tfAi : Tok} {fSi cdSi ccSi : Addr} {odSi anSi dkSi deSi : Option Addr} {slSi skSi seSi : Array (Option Value)} {ocSi kVSi dcSi pmSi ctSi ckSi ceSi : Value} {vkSi : Array Value} {flSi : Str} {tfSi : Tok} {fBi cdBi ccBi : Addr} {odBi anBi dkBi deBi : Option Addr} {slBi skBi seBi : Array (Option Value)} {ocBi kVBi dcBi pmBi ctBi ckBi ceBi : Value} {vkBi : Array Value} {flBi : Str} {tfBi : Tok} {fOi cdOi ccOi : Addr} {odOi anOi dkOi deOi : Option Addr} {slOi skOi seOi : Array (Option Value)} {ocOi kVOi dcOi pmOi ctOi ckOi ceOi : Value} {vkOi : Array Value} {flOi : Str} {tfOi : Tok}
    (aCTrial : PySem.W.nsIn K mainGlobals "Trial" = some (some (.ref CTrial)))
    (aCWish : PySem.W.nsIn K mainGlobals "Wish" = some (some (.ref CWish)))
    (aCAllWithin : PySem.W.nsIn K mainGlobals "AllWithin" = some (some (.ref CAllWithin)))
    (aCSomeWithin : PySem.W.nsIn K mainGlobals "SomeWithin" = some (some (.ref CSomeWithin)))
    (aCBand : PySem.W.nsIn K mainGlobals "Band" = some (some (.ref CBand)))
    (aCBoth : PySem.W.nsIn K mainGlobals "Both" = some (some (.ref CBoth)))
    (aTi : PySem.W.findIn K (.ref CTrial) "__init__" = some (some (.ref fTi)))
    (lTi : K.lookup fTi = some ⟨ocTi, odTi, .func (PySem.W.fnOf "__init__" "Trial.__init__" (defArgs sTini) (defBody sTini) (defScope sTini) .none kVTi dcTi pmTi anTi cdTi ctTi), slTi⟩)
    (cTi : PySem.W.codeIn K cdTi "Trial.__init__" = true)
    (kTi : PySem.W.keepIn K (.ref fTi) = true)
    (iTi : PySem.W.isFn K (.ref fTi) = true)
    (aAg : PySem.W.findIn K (.ref CTrial) "agrees" = some (some (.ref fAg)))
    (lAg : K.lookup fAg = some ⟨ocAg, odAg, .func (PySem.W.fnOf "agrees" "Trial.agrees" (defArgs sAgr) (defBody sAgr) (defScope sAgr) .none kVAg dcAg pmAg anAg cdAg ctAg), slAg⟩)
    (cAg : PySem.W.codeIn K cdAg "Trial.agrees" = true)
    (kAg : PySem.W.keepIn K (.ref fAg) = true)
    (iAg : PySem.W.isFn K (.ref fAg) = true)
    (aTv : PySem.W.findIn K (.ref CTrial) "__invert__" = some (some (.ref fTv)))
    (lTv : K.lookup fTv = some ⟨ocTv, odTv, .func (PySem.W.fnOf "__invert__" "Trial.__invert__" (defArgs sTnv) (defBody sTnv) (defScope sTnv) .none kVTv dcTv pmTv anTv cdTv ctTv), slTv⟩)
    (cTv : PySem.W.codeIn K cdTv "Trial.__invert__" = true)
    (kTv : PySem.W.keepIn K (.ref fTv) = true)
    (iTv : PySem.W.isFn K (.ref fTv) = true)
    (aWi : PySem.W.findIn K (.ref CWish) "__init__" = some (some (.ref fWi)))
    (lWi : K.lookup fWi = some ⟨ocWi, odWi, .func (PySem.W.fnOf "__init__" "Wish.__init__" (defArgs sWini) (defBody sWini) (defScope sWini) (.ref DTWi) kVWi dcWi pmWi anWi cdWi ctWi), slWi⟩)
    (cWi : PySem.W.codeIn K cdWi "Wish.__init__" = true)
    (kWi : PySem.W.keepIn K (.ref fWi) = true)
    (iWi : PySem.W.isFn K (.ref fWi) = true)
    (dWi : K.lookup DTWi = some ⟨xoWi, xdWi, .seq #[.int 1 tkW] xnWi, xsWi⟩)
    (aWc : PySem.W.findIn K (.ref CWish) "cases" = some (some (.ref fWc)))
    (lWc : K.lookup fWc = some ⟨ocWc, odWc, .func (PySem.W.fnOf "cases" "Wish.cases" (defArgs sWcas) (defBody sWcas) (defScope sWcas) .none kVWc dcWc pmWc anWc cdWc ctWc), slWc⟩)
    (cWc : PySem.W.codeIn K cdWc "Wish.cases" = true)
    (kWc : PySem.W.keepIn K (.ref fWc) = true)
    (iWc : PySem.W.isFn K (.ref fWc) = true)
    (aWa : PySem.W.findIn K (.ref CWish) "answer" = some (some (.ref fWa)))
    (lWa : K.lookup fWa = some ⟨ocWa, odWa, .func (PySem.W.fnOf "answer" "Wish.answer" (defArgs sWans) (defBody sWans) (defScope sWans) .none kVWa dcWa pmWa anWa cdWa ctWa), slWa⟩)
    (cWa : PySem.W.codeIn K cdWa "Wish.answer" = true)
    (kWa : PySem.W.keepIn K (.ref fWa) = true)
    (iWa : PySem.W.isFn K (.ref fWa) = true)
    (aWp : PySem.W.findIn K (.ref CWish) "places" = some (some (.ref fWp)))
    (lWp : K.lookup fWp = some ⟨ocWp, odWp, .func (PySem.W.fnOf "places" "Wish.places" (defArgs sWpla) (defBody sWpla) (defScope sWpla) .none kVWp dcWp pmWp anWp cdWp ctWp), slWp⟩)
    (cWp : PySem.W.codeIn K cdWp "Wish.places" = true)
    (kWp : PySem.W.keepIn K (.ref fWp) = true)
    (iWp : PySem.W.isFn K (.ref fWp) = true)
    (aWn : PySem.W.findIn K (.ref CWish) "__and__" = some (some (.ref fWn)))
    (lWn : K.lookup fWn = some ⟨ocWn, odWn, .func (PySem.W.fnOf "__and__" "Wish.__and__" (defArgs sWand) (defBody sWand) (defScope sWand) .none kVWn dcWn pmWn anWn cdWn ctWn), slWn⟩)
    (cWn : PySem.W.codeIn K cdWn "Wish.__and__" = true)
    (kWn : PySem.W.keepIn K (.ref fWn) = true)
    (iWn : PySem.W.isFn K (.ref fWn) = true)
    (aAc : PySem.W.findIn K (.ref CAllWithin) "cases" = some (some (.ref fAc)))
    (lAc : K.lookup fAc = some ⟨ocAc, odAc, .func (PySem.W.fnOf "cases" "AllWithin.cases" (defArgs sAcas) (defBody sAcas) (defScope sAcas) .none kVAc dcAc pmAc anAc cdAc ctAc), slAc⟩)
    (cAc : PySem.W.codeIn K cdAc "AllWithin.cases" = true)
    (kAc : PySem.W.keepIn K (.ref fAc) = true)
    (iAc : PySem.W.isFn K (.ref fAc) = true)
    (aAp : PySem.W.findIn K (.ref CAllWithin) "places" = some (some (.ref fAp)))
    (lAp : K.lookup fAp = some ⟨ocAp, odAp, .func (PySem.W.fnOf "places" "AllWithin.places" (defArgs sApla) (defBody sApla) (defScope sApla) .none kVAp dcAp pmAp anAp cdAp ctAp), slAp⟩)
    (cAp : PySem.W.codeIn K cdAp "AllWithin.places" = true)
    (kAp : PySem.W.keepIn K (.ref fAp) = true)
    (iAp : PySem.W.isFn K (.ref fAp) = true)
    (aSc : PySem.W.findIn K (.ref CSomeWithin) "cases" = some (some (.ref fSc)))
    (lSc : K.lookup fSc = some ⟨ocSc, odSc, .func (PySem.W.fnOf "cases" "SomeWithin.cases" (defArgs sScas) (defBody sScas) (defScope sScas) .none kVSc dcSc pmSc anSc cdSc ctSc), slSc⟩)
    (cSc : PySem.W.codeIn K cdSc "SomeWithin.cases" = true)
    (kSc : PySem.W.keepIn K (.ref fSc) = true)
    (iSc : PySem.W.isFn K (.ref fSc) = true)
    (aSp : PySem.W.findIn K (.ref CSomeWithin) "places" = some (some (.ref fSp)))
    (lSp : K.lookup fSp = some ⟨ocSp, odSp, .func (PySem.W.fnOf "places" "SomeWithin.places" (defArgs sSpla) (defBody sSpla) (defScope sSpla) .none kVSp dcSp pmSp anSp cdSp ctSp), slSp⟩)
    (cSp : PySem.W.codeIn K cdSp "SomeWithin.places" = true)
    (kSp : PySem.W.keepIn K (.ref fSp) = true)
    (iSp : PySem.W.isFn K (.ref fSp) = true)
    (aBc : PySem.W.findIn K (.ref CBand) "cases" = some (some (.ref fBc)))
    (lBc : K.lookup fBc = some ⟨ocBc, odBc, .func (PySem.W.fnOf "cases" "Band.cases" (defArgs sBcas) (defBody sBcas) (defScope sBcas) .none kVBc dcBc pmBc anBc cdBc ctBc), slBc⟩)
    (cBc : PySem.W.codeIn K cdBc "Band.cases" = true)
    (kBc : PySem.W.keepIn K (.ref fBc) = true)
    (iBc : PySem.W.isFn K (.ref fBc) = true)
    (aBp : PySem.W.findIn K (.ref CBand) "places" = some (some (.ref fBp)))
    (lBp : K.lookup fBp = some ⟨ocBp, odBp, .func (PySem.W.fnOf "places" "Band.places" (defArgs sBpla) (defBody sBpla) (defScope sBpla) .none kVBp dcBp pmBp anBp cdBp ctBp), slBp⟩)
    (cBp : PySem.W.codeIn K cdBp "Band.places" = true)
    (kBp : PySem.W.keepIn K (.ref fBp) = true)
    (iBp : PySem.W.isFn K (.ref fBp) = true)
    (aOc : PySem.W.findIn K (.ref CBoth) "cases" = some (some (.ref fOc)))
    (lOc : K.lookup fOc = some ⟨ocOc, odOc, .func (PySem.W.fnOf "cases" "Both.cases" (defArgs sOcas) (defBody sOcas) (defScope sOcas) .none kVOc dcOc pmOc anOc cdOc ctOc), slOc⟩)
    (cOc : PySem.W.codeIn K cdOc "Both.cases" = true)
    (kOc : PySem.W.keepIn K (.ref fOc) = true)
    (iOc : PySem.W.isFn K (.ref fOc) = true)
    (aOp : PySem.W.findIn K (.ref CBoth) "places" = some (some (.ref fOp)))
    (lOp : K.lookup fOp = some ⟨ocOp, odOp, .func (PySem.W.fnOf "places" "Both.places" (defArgs sOpla) (defBody sOpla) (defScope sOpla) .none kVOp dcOp pmOp anOp cdOp ctOp), slOp⟩)
    (cOp : PySem.W.codeIn K cdOp "Both.places" = true)
    (kOp : PySem.W.keepIn K (.ref fOp) = true)
    (iOp : PySem.W.isFn K (.ref fOp) = true)
    (aBo : PySem.W.nsIn K mainGlobals "_law_box" = some (some (.ref fBo)))
    (lBo : K.lookup fBo = some ⟨ocBo, odBo, .func (PySem.W.fnOf "_law_box" "_law_box" (defArgs sBox) (defBody sBox) (defScope sBox) .none kVBo dcBo pmBo anBo cdBo ctBo), slBo⟩)
    (cBo : PySem.W.codeIn K cdBo "_law_box" = true)
    (kBo : PySem.W.keepIn K (.ref fBo) = true)
    (aT : PySem.W.nsIn K mainGlobals "_law_take" = some (some (.ref fT)))
    (lT : K.lookup fT = some ⟨ocT, odT, .func (PySem.W.fnOf "_law_take" "_law_take" (defArgs sTake) (defBody sTake) (defScope sTake) .none kVT dcT pmT anT cdT ctT), slT⟩)
    (cT : PySem.W.codeIn K cdT "_law_take" = true)
    (kT : PySem.W.keepIn K (.ref fT) = true)
    (aNu : PySem.W.nsIn K mainGlobals "_law_number" = some (some (.ref fNu)))
    (lNu : K.lookup fNu = some ⟨ocNu, odNu, .func (PySem.W.fnOf "_law_number" "_law_number" (defArgs sNum) (defBody sNum) (defScope sNum) .none kVNu dcNu pmNu anNu cdNu ctNu), slNu⟩)
    (cNu : PySem.W.codeIn K cdNu "_law_number" = true)
    (kNu : PySem.W.keepIn K (.ref fNu) = true)
    (aPr : PySem.W.nsIn K mainGlobals "_law_pairs" = some (some (.ref fPr)))
    (lPr : K.lookup fPr = some ⟨ocPr, odPr, .func (PySem.W.fnOf "_law_pairs" "_law_pairs" (defArgs sPrs) (defBody sPrs) (defScope sPrs) .none kVPr dcPr pmPr anPr cdPr ctPr), slPr⟩)
    (cPr : PySem.W.codeIn K cdPr "_law_pairs" = true)
    (kPr : PySem.W.keepIn K (.ref fPr) = true)
    (aMn : PySem.W.nsIn K mainGlobals "_law_many" = some (some (.ref fMn)))
    (lMn : K.lookup fMn = some ⟨ocMn, odMn, .func (PySem.W.fnOf "_law_many" "_law_many" (defArgs sMny) (defBody sMny) (defScope sMny) .none kVMn dcMn pmMn anMn cdMn ctMn), slMn⟩)
    (cMn : PySem.W.codeIn K cdMn "_law_many" = true)
    (kMn : PySem.W.keepIn K (.ref fMn) = true)
    (aBd : PySem.W.nsIn K mainGlobals "_law_band" = some (some (.ref fBd)))
    (lBd : K.lookup fBd = some ⟨ocBd, odBd, .func (PySem.W.fnOf "_law_band" "_law_band" (defArgs sBnd) (defBody sBnd) (defScope sBnd) .none kVBd dcBd pmBd anBd cdBd ctBd), slBd⟩)
    (cBd : PySem.W.codeIn K cdBd "_law_band" = true)
    (kBd : PySem.W.keepIn K (.ref fBd) = true)
    (aSn : PySem.W.nsIn K mainGlobals "_law_single" = some (some (.ref fSn)))
    (lSn : K.lookup fSn = some ⟨ocSn, odSn, .func (PySem.W.fnOf "_law_single" "_law_single" (defArgs sSng) (defBody sSng) (defScope sSng) .none kVSn dcSn pmSn anSn cdSn ctSn), slSn⟩)
    (cSn : PySem.W.codeIn K cdSn "_law_single" = true)
    (kSn : PySem.W.keepIn K (.ref fSn) = true)
    (aWs : PySem.W.nsIn K mainGlobals "_law_wish" = some (some (.ref fWs)))
    (lWs : K.lookup fWs = some ⟨ocWs, odWs, .func (PySem.W.fnOf "_law_wish" "_law_wish" (defArgs sWsh) (defBody sWsh) (defScope sWsh) .none kVWs dcWs pmWs anWs cdWs ctWs), slWs⟩)
    (cWs : PySem.W.codeIn K cdWs "_law_wish" = true)
    (kWs : PySem.W.keepIn K (.ref fWs) = true)
    (aSz : PySem.W.nsIn K mainGlobals "_law_size" = some (some (.ref fSz)))
    (lSz : K.lookup fSz = some ⟨ocSz, odSz, .func (PySem.W.fnOf "_law_size" "_law_size" (defArgs sSiz) (defBody sSiz) (defScope sSiz) .none kVSz dcSz pmSz anSz cdSz ctSz), slSz⟩)
    (cSz : PySem.W.codeIn K cdSz "_law_size" = true)
    (kSz : PySem.W.keepIn K (.ref fSz) = true)
    (aCa : PySem.W.nsIn K mainGlobals "_law_cases" = some (some (.ref fCa)))
    (lCa : K.lookup fCa = some ⟨ocCa, odCa, .func (PySem.W.fnOf "_law_cases" "_law_cases" (defArgs sCas) (defBody sCas) (defScope sCas) .none kVCa dcCa pmCa anCa cdCa ctCa), slCa⟩)
    (cCa : PySem.W.codeIn K cdCa "_law_cases" = true)
    (kCa : PySem.W.keepIn K (.ref fCa) = true)
    (aSm : PySem.W.nsIn K mainGlobals "_law_same" = some (some (.ref fSm)))
    (lSm : K.lookup fSm = some ⟨ocSm, odSm, .func (PySem.W.fnOf "_law_same" "_law_same" (defArgs sSme) (defBody sSme) (defScope sSme) .none kVSm dcSm pmSm anSm cdSm ctSm), slSm⟩)
    (cSm : PySem.W.codeIn K cdSm "_law_same" = true)
    (kSm : PySem.W.keepIn K (.ref fSm) = true)
    (aEg : PySem.W.nsIn K mainGlobals "_law_eight" = some (some (.ref fEg)))
    (lEg : K.lookup fEg = some ⟨ocEg, odEg, .func (PySem.W.fnOf "_law_eight" "_law_eight" (defArgs sEgt) (defBody sEgt) (defScope sEgt) .none kVEg dcEg pmEg anEg cdEg ctEg), slEg⟩)
    (cEg : PySem.W.codeIn K cdEg "_law_eight" = true)
    (kEg : PySem.W.keepIn K (.ref fEg) = true)
    (aL : PySem.W.nsIn K mainGlobals "law" = some (some (.ref fL)))
    (lL : K.lookup fL = some ⟨ocL, odL, .func (PySem.W.fnOf "law" "law" (defArgs sLaw) (defBody sLaw) (defScope sLaw) .none kVL dcL pmL anL cdL ctL), slL⟩)
    (cL : PySem.W.codeIn K cdL "law" = true)
    (kL : PySem.W.keepIn K (.ref fL) = true)
    (opq : PySem.W.nsIn K cStatics "thirdparty.any" = some none)
    (nsup : PySem.W.nsIn K mainGlobals "super" = some none)
    (aEB : PySem.W.nsIn K mainGlobals "BadNumber" = some (some (.ref CEB)))
    (xEB : K.lookup CEB = some (excClassObj nmEB qEB CEB NEB bsEB bmEB true snEB subEB abEB colEB ddEB m0EB m1EB m2EB m3EB m5EB "ValueError.__new__"))
    (bvEB : PySem.HandSPX.refsVE bmEB = true)
    (saEB : PySem.W.findIn K (.ref CEB) "__setattr__" = some (some (.builtin "object.__setattr__")))
    (gaEB : PySem.W.findIn K (.ref CEB) "__getattribute__" = some (some (.builtin "BaseException.__getattribute__")))
    (ggEB : PySem.W.findIn K (.ref CEB) "__getattr__" = some none)
    (nbEB : PySem.W.findIn K (.ref CEB) "value" = some none)
    (iEB : PySem.W.findIn K (.ref CEB) "__init__" = some (some (.ref fiEB)))
    (tEB : PySem.W.typeIn K (.ref fiEB) = some (.type "function"))
    (lEB : K.lookup fiEB = some ⟨ocEB, odEB, .func (PySem.W.fnX "__init__" "BadNumber.__init__" (defArgs sErB) (defBody sErB) (defScope sErB) [("__class__", ccEB)] .none kVEB dcEB pmEB anEB (.ref cdEB) ctEB), slEB⟩)
    (coEB : PySem.W.codeIn K (.ref cdEB) "BadNumber.__init__" = true)
    (lkEB : K.lookup cdEB = some ⟨ckEB, dkEB, .fields vkEB, skEB⟩)
    (vkEBx : vkEB[2]? = some (.str flEB tfEB))
    (feEB : ((P.main.file : Str) == flEB) = true)
    (leEB : K.lookup ccEB = some ⟨ceEB, deEB, .cell (some (.ref CEB)), seEB⟩)
    (mrEB : PySem.W.mroIn K CEB (.ref CEB) = some true)
    (upEB : PySem.W.ks_superIn K CEB CEB "__init__" = some (some (.builtin "ValueError.__init__")))
    (svEB : PySem.W.subIn K (.ref CEB) (.type "ValueError") = some true)
    (kcEB : PySem.W.keepIn K (.ref CEB) = true)
    (ebEB : PySem.W.subIn K (.ref CEB) (.type "BaseException") = some true)
    (tyEB : PySem.W.typeIn K (.ref CEB) = some (.type "type"))
    (hdEB : PySem.W.hasDictIn K CEB = true)
    (ssEB : PySem.W.subIn K (.ref CEB) (.ref CEB) = some true)
    (aEP : PySem.W.nsIn K mainGlobals "NoPlace" = some (some (.ref CEP)))
    (xEP : K.lookup CEP = some (excClassObj nmEP qEP CEP NEP bsEP bmEP true snEP subEP abEP colEP ddEP m0EP m1EP m2EP m3EP m5EP "ValueError.__new__"))
    (bvEP : PySem.HandSPX.refsVE bmEP = true)
    (saEP : PySem.W.findIn K (.ref CEP) "__setattr__" = some (some (.builtin "object.__setattr__")))
    (gaEP : PySem.W.findIn K (.ref CEP) "__getattribute__" = some (some (.builtin "BaseException.__getattribute__")))
    (ggEP : PySem.W.findIn K (.ref CEP) "__getattr__" = some none)
    (nbEP : PySem.W.findIn K (.ref CEP) "place" = some none)
    (iEP : PySem.W.findIn K (.ref CEP) "__init__" = some (some (.ref fiEP)))
    (tEP : PySem.W.typeIn K (.ref fiEP) = some (.type "function"))
    (lEP : K.lookup fiEP = some ⟨ocEP, odEP, .func (PySem.W.fnX "__init__" "NoPlace.__init__" (defArgs sErP) (defBody sErP) (defScope sErP) [("__class__", ccEP)] .none kVEP dcEP pmEP anEP (.ref cdEP) ctEP), slEP⟩)
    (coEP : PySem.W.codeIn K (.ref cdEP) "NoPlace.__init__" = true)
    (lkEP : K.lookup cdEP = some ⟨ckEP, dkEP, .fields vkEP, skEP⟩)
    (vkEPx : vkEP[2]? = some (.str flEP tfEP))
    (feEP : ((P.main.file : Str) == flEP) = true)
    (leEP : K.lookup ccEP = some ⟨ceEP, deEP, .cell (some (.ref CEP)), seEP⟩)
    (mrEP : PySem.W.mroIn K CEP (.ref CEP) = some true)
    (upEP : PySem.W.ks_superIn K CEP CEP "__init__" = some (some (.builtin "ValueError.__init__")))
    (svEP : PySem.W.subIn K (.ref CEP) (.type "ValueError") = some true)
    (kcEP : PySem.W.keepIn K (.ref CEP) = true)
    (ebEP : PySem.W.subIn K (.ref CEP) (.type "BaseException") = some true)
    (tyEP : PySem.W.typeIn K (.ref CEP) = some (.type "type"))
    (hdEP : PySem.W.hasDictIn K CEP = true)
    (ssEP : PySem.W.subIn K (.ref CEP) (.ref CEP) = some true)
    (n_len : PySem.W.nsIn K mainGlobals "len" = some none)
    (n_int : PySem.W.nsIn K mainGlobals "int" = some none)
    (n_isinstance : PySem.W.nsIn K mainGlobals "isinstance" = some none)
    (n_range : PySem.W.nsIn K mainGlobals "range" = some none)
    (n_list : PySem.W.nsIn K mainGlobals "list" = some none)
    (n_bool : PySem.W.nsIn K mainGlobals "bool" = some none)
    (n_zip : PySem.W.nsIn K mainGlobals "zip" = some none)
    (n_enumerate : PySem.W.nsIn K mainGlobals "enumerate" = some none)
    (n_all : PySem.W.nsIn K mainGlobals "all" = some none)
    (n_tuple : PySem.W.nsIn K mainGlobals "tuple" = some none)
    (tPG : PySem.W.plainGet K CTrial Str.empty = true)
    (tHD : PySem.W.hasDictIn K CTrial = true)
    (tPO : PySem.W.plainOver K CTrial = true)
    (tSA : PySem.W.findIn K (.ref CTrial) "__setattr__" = some (some (.builtin "object.__setattr__")))
    (tMK : PySem.W.makesIn K CTrial = true)
    (tKP : PySem.W.keepIn K (.ref CTrial) = true)
    (tF0 : PySem.W.findIn K (.ref CTrial) "place" = some none)
    (tF1 : PySem.W.findIn K (.ref CTrial) "height" = some none)
    (tF2 : PySem.W.findIn K (.ref CTrial) "reached" = some none)
    (tHA : PySem.W.findIn K (.ref CTrial) "__class__" = some (some (.builtin "object.__class__")))
    (tHM : PySem.W.mroIn K CTrial (.type "object") = some true)
    (xhn : PySem.W.specialIn K (.builtin "object.__class__") "__get__" = some (some (.builtin "getset_descriptor.__get__")))
    (xht : PySem.W.takesIn K (.builtin "object.__class__") = some true)
    (wPG : PySem.W.plainGet K CWish Str.empty = true)
    (wHD : PySem.W.hasDictIn K CWish = true)
    (wPO : PySem.W.plainOver K CWish = true)
    (wSA : PySem.W.findIn K (.ref CWish) "__setattr__" = some (some (.builtin "object.__setattr__")))
    (wMK : PySem.W.makesIn K CWish = true)
    (wKP : PySem.W.keepIn K (.ref CWish) = true)
    (wF0 : PySem.W.findIn K (.ref CWish) "size" = some none)
    (wF1 : PySem.W.findIn K (.ref CWish) "_pairs" = some none)
    (wF2 : PySem.W.findIn K (.ref CWish) "_place" = some none)
    (wF3 : PySem.W.findIn K (.ref CWish) "_cuts" = some none)
    (wF4 : PySem.W.findIn K (.ref CWish) "_places" = some none)
    (wF5 : PySem.W.findIn K (.ref CWish) "_cases" = some none)
    (alPG : PySem.W.plainGet K CAllWithin Str.empty = true)
    (alHD : PySem.W.hasDictIn K CAllWithin = true)
    (alPO : PySem.W.plainOver K CAllWithin = true)
    (alSA : PySem.W.findIn K (.ref CAllWithin) "__setattr__" = some (some (.builtin "object.__setattr__")))
    (alMK : PySem.W.makesIn K CAllWithin = true)
    (alKP : PySem.W.keepIn K (.ref CAllWithin) = true)
    (alF0 : PySem.W.findIn K (.ref CAllWithin) "size" = some none)
    (alF1 : PySem.W.findIn K (.ref CAllWithin) "_pairs" = some none)
    (alF2 : PySem.W.findIn K (.ref CAllWithin) "_place" = some none)
    (alF3 : PySem.W.findIn K (.ref CAllWithin) "_cuts" = some none)
    (alF4 : PySem.W.findIn K (.ref CAllWithin) "_places" = some none)
    (alF5 : PySem.W.findIn K (.ref CAllWithin) "_cases" = some none)
    (soPG : PySem.W.plainGet K CSomeWithin Str.empty = true)
    (soHD : PySem.W.hasDictIn K CSomeWithin = true)
    (soPO : PySem.W.plainOver K CSomeWithin = true)
    (soSA : PySem.W.findIn K (.ref CSomeWithin) "__setattr__" = some (some (.builtin "object.__setattr__")))
    (soMK : PySem.W.makesIn K CSomeWithin = true)
    (soKP : PySem.W.keepIn K (.ref CSomeWithin) = true)
    (soF0 : PySem.W.findIn K (.ref CSomeWithin) "size" = some none)
    (soF1 : PySem.W.findIn K (.ref CSomeWithin) "_pairs" = some none)
    (soF2 : PySem.W.findIn K (.ref CSomeWithin) "_place" = some none)
    (soF3 : PySem.W.findIn K (.ref CSomeWithin) "_cuts" = some none)
    (soF4 : PySem.W.findIn K (.ref CSomeWithin) "_places" = some none)
    (soF5 : PySem.W.findIn K (.ref CSomeWithin) "_cases" = some none)
    (bdPG : PySem.W.plainGet K CBand Str.empty = true)
    (bdHD : PySem.W.hasDictIn K CBand = true)
    (bdPO : PySem.W.plainOver K CBand = true)
    (bdSA : PySem.W.findIn K (.ref CBand) "__setattr__" = some (some (.builtin "object.__setattr__")))
    (bdMK : PySem.W.makesIn K CBand = true)
    (bdKP : PySem.W.keepIn K (.ref CBand) = true)
    (bdF0 : PySem.W.findIn K (.ref CBand) "size" = some none)
    (bdF1 : PySem.W.findIn K (.ref CBand) "_pairs" = some none)
    (bdF2 : PySem.W.findIn K (.ref CBand) "_place" = some none)
    (bdF3 : PySem.W.findIn K (.ref CBand) "_cuts" = some none)
    (bdF4 : PySem.W.findIn K (.ref CBand) "_places" = some none)
    (bdF5 : PySem.W.findIn K (.ref CBand) "_cases" = some none)
    (boPG : PySem.W.plainGet K CBoth Str.empty = true)
    (boHD : PySem.W.hasDictIn K CBoth = true)
    (boPO : PySem.W.plainOver K CBoth = true)
    (boSA : PySem.W.findIn K (.ref CBoth) "__setattr__" = some (some (.builtin "object.__setattr__")))
    (boMK : PySem.W.makesIn K CBoth = true)
    (boKP : PySem.W.keepIn K (.ref CBoth) = true)
    (boF0 : PySem.W.findIn K (.ref CBoth) "size" = some none)
    (boF1 : PySem.W.findIn K (.ref CBoth) "_pairs" = some none)
    (boF2 : PySem.W.findIn K (.ref CBoth) "_place" = some none)
    (boF3 : PySem.W.findIn K (.ref CBoth) "_cuts" = some none)
    (boF4 : PySem.W.findIn K (.ref CBoth) "_places" = some none)
    (boF5 : PySem.W.findIn K (.ref CBoth) "_cases" = some none)
    (fiWi : PySem.W.fnIn K fWi = true)
    (alAn : PySem.W.findIn K (.ref CAllWithin) "answer" = some (some (.ref fWa)))
    (alNd : PySem.W.findIn K (.ref CAllWithin) "__and__" = some (some (.ref fWn)))
    (alTy : PySem.W.typeIn K (.ref CAllWithin) = some (.type "type"))
    (alNm : SubZ.nmB "AllWithin" CAllWithin K = true)
    (soAn : PySem.W.findIn K (.ref CSomeWithin) "answer" = some (some (.ref fWa)))
    (soNd : PySem.W.findIn K (.ref CSomeWithin) "__and__" = some (some (.ref fWn)))
    (soTy : PySem.W.typeIn K (.ref CSomeWithin) = some (.type "type"))
    (soNm : SubZ.nmB "SomeWithin" CSomeWithin K = true)
    (bdAn : PySem.W.findIn K (.ref CBand) "answer" = some (some (.ref fWa)))
    (bdNd : PySem.W.findIn K (.ref CBand) "__and__" = some (some (.ref fWn)))
    (bdTy : PySem.W.typeIn K (.ref CBand) = some (.type "type"))
    (bdNm : SubZ.nmB "Band" CBand K = true)
    (boAn : PySem.W.findIn K (.ref CBoth) "answer" = some (some (.ref fWa)))
    (boNd : PySem.W.findIn K (.ref CBoth) "__and__" = some (some (.ref fWn)))
    (boTy : PySem.W.typeIn K (.ref CBoth) = some (.type "type"))
    (boNm : SubZ.nmB "Both" CBoth K = true)
    (wSf : PySem.W.selfFirst K CWish = true)
    (wRd : PySem.W.findIn K (.ref CWish) "__rand__" = some none)
    (alSf : PySem.W.selfFirst K CAllWithin = true)
    (alRd : PySem.W.findIn K (.ref CAllWithin) "__rand__" = some none)
    (soSf : PySem.W.selfFirst K CSomeWithin = true)
    (soRd : PySem.W.findIn K (.ref CSomeWithin) "__rand__" = some none)
    (bdSf : PySem.W.selfFirst K CBand = true)
    (bdRd : PySem.W.findIn K (.ref CBand) "__rand__" = some none)
    (boSf : PySem.W.selfFirst K CBoth = true)
    (boRd : PySem.W.findIn K (.ref CBoth) "__rand__" = some none)
    (sb_w_al : PySem.W.subIn K (.ref CAllWithin) (.ref CWish) = some true)
    (ne_w_al : (CWish : Addr) ≠ CAllWithin)
    (sb_w_so : PySem.W.subIn K (.ref CSomeWithin) (.ref CWish) = some true)
    (ne_w_so : (CWish : Addr) ≠ CSomeWithin)
    (sb_w_bd : PySem.W.subIn K (.ref CBand) (.ref CWish) = some true)
    (ne_w_bd : (CWish : Addr) ≠ CBand)
    (sb_w_bo : PySem.W.subIn K (.ref CBoth) (.ref CWish) = some true)
    (ne_w_bo : (CWish : Addr) ≠ CBoth)
    (sb_al_w : PySem.W.subIn K (.ref CWish) (.ref CAllWithin) = some false)
    (sb_al_so : PySem.W.subIn K (.ref CSomeWithin) (.ref CAllWithin) = some false)
    (ne_al_so : (CAllWithin : Addr) ≠ CSomeWithin)
    (sb_al_bd : PySem.W.subIn K (.ref CBand) (.ref CAllWithin) = some false)
    (ne_al_bd : (CAllWithin : Addr) ≠ CBand)
    (sb_al_bo : PySem.W.subIn K (.ref CBoth) (.ref CAllWithin) = some false)
    (ne_al_bo : (CAllWithin : Addr) ≠ CBoth)
    (sb_so_w : PySem.W.subIn K (.ref CWish) (.ref CSomeWithin) = some false)
    (sb_so_al : PySem.W.subIn K (.ref CAllWithin) (.ref CSomeWithin) = some false)
    (sb_so_bd : PySem.W.subIn K (.ref CBand) (.ref CSomeWithin) = some false)
    (ne_so_bd : (CSomeWithin : Addr) ≠ CBand)
    (sb_so_bo : PySem.W.subIn K (.ref CBoth) (.ref CSomeWithin) = some false)
    (ne_so_bo : (CSomeWithin : Addr) ≠ CBoth)
    (sb_bd_w : PySem.W.subIn K (.ref CWish) (.ref CBand) = some false)
    (sb_bd_al : PySem.W.subIn K (.ref CAllWithin) (.ref CBand) = some false)
    (sb_bd_so : PySem.W.subIn K (.ref CSomeWithin) (.ref CBand) = some false)
    (sb_bd_bo : PySem.W.subIn K (.ref CBoth) (.ref CBand) = some false)
    (ne_bd_bo : (CBand : Addr) ≠ CBoth)
    (sb_bo_w : PySem.W.subIn K (.ref CWish) (.ref CBoth) = some false)
    (sb_bo_al : PySem.W.subIn K (.ref CAllWithin) (.ref CBoth) = some false)
    (sb_bo_so : PySem.W.subIn K (.ref CSomeWithin) (.ref CBoth) = some false)
    (sb_bo_bd : PySem.W.subIn K (.ref CBand) (.ref CBoth) = some false)
    (tyGA : PySem.W.findIn K (.type "type") "__getattribute__" = some (some (.builtin "type.__getattribute__")))
    (tyGT : PySem.W.findIn K (.type "type") "__getattr__" = some none)
    (tyTT : PySem.W.subIn K (.type "type") (.type "type") = some true)
    (tyRd : PySem.W.findIn K (.type "type") "__rand__" = some none)
    (iAi : PySem.W.findIn K (.ref CAllWithin) "__init__" = some (some (.ref fAi)))
    (nAi : PySem.W.isFn K (.ref fAi) = true)
    (lAi : K.lookup fAi = some ⟨ocAi, odAi, .func (PySem.W.fnX "__init__" "AllWithin.__init__" (defArgs sAini) (defBody sAini) (defScope sAini) [("__class__", ccAi)] .none kVAi dcAi pmAi anAi (.ref cdAi) ctAi), slAi⟩)
    (coAi : PySem.W.codeIn K (.ref cdAi) "AllWithin.__init__" = true)
    (lkAi : K.lookup cdAi = some ⟨ckAi, dkAi, .fields vkAi, skAi⟩)
    (vkAix : vkAi[2]? = some (.str flAi tfAi))
    (feAi : ((P.main.file : Str) == flAi) = true)
    (leAi : K.lookup ccAi = some ⟨ceAi, deAi, .cell (some (.ref CAllWithin)), seAi⟩)
    (mrAi : PySem.W.mroIn K CAllWithin (.ref CAllWithin) = some true)
    (upAi : PySem.W.ks_superIn K CAllWithin CAllWithin "__init__" = some (some (.ref fWi)))
    (iSi : PySem.W.findIn K (.ref CSomeWithin) "__init__" = some (some (.ref fSi)))
    (nSi : PySem.W.isFn K (.ref fSi) = true)
    (lSi : K.lookup fSi = some ⟨ocSi, odSi, .func (PySem.W.fnX "__init__" "SomeWithin.__init__" (defArgs sSiniq) (defBody sSiniq) (defScope sSiniq) [("__class__", ccSi)] .none kVSi dcSi pmSi anSi (.ref cdSi) ctSi), slSi⟩)
    (coSi : PySem.W.codeIn K (.ref cdSi) "SomeWithin.__init__" = true)
    (lkSi : K.lookup cdSi = some ⟨ckSi, dkSi, .fields vkSi, skSi⟩)
    (vkSix : vkSi[2]? = some (.str flSi tfSi))
    (feSi : ((P.main.file : Str) == flSi) = true)
    (leSi : K.lookup ccSi = some ⟨ceSi, deSi, .cell (some (.ref CSomeWithin)), seSi⟩)
    (mrSi : PySem.W.mroIn K CSomeWithin (.ref CSomeWithin) = some true)
    (upSi : PySem.W.ks_superIn K CSomeWithin CSomeWithin "__init__" = some (some (.ref fWi)))
    (iBi : PySem.W.findIn K (.ref CBand) "__init__" = some (some (.ref fBi)))
    (nBi : PySem.W.isFn K (.ref fBi) = true)
    (lBi : K.lookup fBi = some ⟨ocBi, odBi, .func (PySem.W.fnX "__init__" "Band.__init__" (defArgs sBini) (defBody sBini) (defScope sBini) [("__class__", ccBi)] .none kVBi dcBi pmBi anBi (.ref cdBi) ctBi), slBi⟩)
    (coBi : PySem.W.codeIn K (.ref cdBi) "Band.__init__" = true)
    (lkBi : K.lookup cdBi = some ⟨ckBi, dkBi, .fields vkBi, skBi⟩)
    (vkBix : vkBi[2]? = some (.str flBi tfBi))
    (feBi : ((P.main.file : Str) == flBi) = true)
    (leBi : K.lookup ccBi = some ⟨ceBi, deBi, .cell (some (.ref CBand)), seBi⟩)
    (mrBi : PySem.W.mroIn K CBand (.ref CBand) = some true)
    (upBi : PySem.W.ks_superIn K CBand CBand "__init__" = some (some (.ref fWi)))
    (iOi : PySem.W.findIn K (.ref CBoth) "__init__" = some (some (.ref fOi)))
    (nOi : PySem.W.isFn K (.ref fOi) = true)
    (lOi : K.lookup fOi = some ⟨ocOi, odOi, .func (PySem.W.fnX "__init__" "Both.__init__" (defArgs sOini) (defBody sOini) (defScope sOini) [("__class__", ccOi)] .none kVOi dcOi pmOi anOi (.ref cdOi) ctOi), slOi⟩)
    (coOi : PySem.W.codeIn K (.ref cdOi) "Both.__init__" = true)
    (lkOi : K.lookup cdOi = some ⟨ckOi, dkOi, .fields vkOi, skOi⟩)
    (vkOix : vkOi[2]? = some (.str flOi tfOi))
    (feOi : ((P.main.file : Str) == flOi) = true)
    (leOi : K.lookup ccOi = some ⟨ceOi, deOi, .cell (some (.ref CBoth)), seOi⟩)
    (mrOi : PySem.W.mroIn K CBoth (.ref CBoth) = some true)
    (upOi : PySem.W.ks_superIn K CBoth CBoth "__init__" = some (some (.ref fWi)))
    (wHA : PySem.W.findIn K (.ref CWish) "__class__" = some (some (.builtin "object.__class__")))
    (wHM : PySem.W.mroIn K CWish (.type "object") = some true)
    (wKI : PySem.W.kitOne K (.ref CWish) (.ref CWish) = some true)
    (alHA : PySem.W.findIn K (.ref CAllWithin) "__class__" = some (some (.builtin "object.__class__")))
    (alHM : PySem.W.mroIn K CAllWithin (.type "object") = some true)
    (alKI : PySem.W.kitOne K (.ref CAllWithin) (.ref CWish) = some true)
    (soHA : PySem.W.findIn K (.ref CSomeWithin) "__class__" = some (some (.builtin "object.__class__")))
    (soHM : PySem.W.mroIn K CSomeWithin (.type "object") = some true)
    (soKI : PySem.W.kitOne K (.ref CSomeWithin) (.ref CWish) = some true)
    (bdHA : PySem.W.findIn K (.ref CBand) "__class__" = some (some (.builtin "object.__class__")))
    (bdHM : PySem.W.mroIn K CBand (.type "object") = some true)
    (bdKI : PySem.W.kitOne K (.ref CBand) (.ref CWish) = some true)
    (boHA : PySem.W.findIn K (.ref CBoth) "__class__" = some (some (.builtin "object.__class__")))
    (boHM : PySem.W.mroIn K CBoth (.type "object") = some true)
    (boKI : PySem.W.kitOne K (.ref CBoth) (.ref CWish) = some true) :
    ∃ fd : FuncData, (∀ (s : Shared) (v : Value), BindsTo s fd ⟨[v], []⟩ [("_law_script", v)]) ∧ ∀ base : Heap, K.In base → base.Ns mainGlobals mg → FnOk P w K mg base CX0 9 fa fd ["_law_script"] (spLaw K) := by
  have e := hfa.symm.trans (PySem.W.mg_of X G aL)
  cases e
  have FTi := fun_mk (st := sTini) lTi cTi kTi
  have bTi := FTi.binds (ps := ["self", "place", "height", "reached"]) fun _ _ _ _ _ _ us hl => match us, hl with | [_, _, _, _], _ => rfl
  have FAg := fun_mk (st := sAgr) lAg cAg kAg
  have bAg := FAg.binds (ps := ["self", "heights"]) fun _ _ _ _ _ _ us hl => match us, hl with | [_, _], _ => rfl
  have FTv := fun_mk (st := sTnv) lTv cTv kTv
  have bTv := FTv.binds (ps := ["self"]) fun _ _ _ _ _ _ us hl => match us, hl with | [_], _ => rfl
  have FWi : FunD K "__init__" "Wish.__init__" (defArgs sWini) (defBody sWini) (defScope sWini) [.int 1] [] fWi _ := ⟨⟨ocWi, odWi, .ref DTWi, kVWi, dcWi, pmWi, anWi, cdWi, ctWi, slWi, rfl, lWi, cWi, .inr ⟨by simp, DTWi, _, [.int 1 tkW], xnWi, rfl, dWi, rfl, .cons (⟨_, rfl⟩) (.nil)⟩, .inl rfl⟩, kWi⟩
  obtain ⟨dsWi0, vdWi0, bWi0⟩ := FWi.binds1 (ps := ["self", "size"]) 1 0 (by simp) (by decide) fun T kV doc pm an cdv ct us its hu hi => match us, hu, its, hi with | [_], _, [_], _ => ⟨_, rfl, rfl⟩
  obtain ⟨dsWi1, vdWi1, bWi1⟩ := FWi.binds1 (ps := ["self", "size"]) 2 1 (by simp) (by decide) fun T kV doc pm an cdv ct us its hu hi => match us, hu, its, hi with | [_, _], _, [_], _ => ⟨_, rfl, rfl⟩
  cases vdWi1
  have FWc := fun_mk (st := sWcas) lWc cWc kWc
  have bWc := FWc.binds (ps := ["self"]) fun _ _ _ _ _ _ us hl => match us, hl with | [_], _ => rfl
  have FWa := fun_mk (st := sWans) lWa cWa kWa
  have bWa := FWa.binds (ps := ["self", "heights"]) fun _ _ _ _ _ _ us hl => match us, hl with | [_, _], _ => rfl
  have FWp := fun_mk (st := sWpla) lWp cWp kWp
  have bWp := FWp.binds (ps := ["self"]) fun _ _ _ _ _ _ us hl => match us, hl with | [_], _ => rfl
  have FWn := fun_mk (st := sWand) lWn cWn kWn
  have bWn := FWn.binds (ps := ["self", "other"]) fun _ _ _ _ _ _ us hl => match us, hl with | [_, _], _ => rfl
  have FAc := fun_mk (st := sAcas) lAc cAc kAc
  have bAc := FAc.binds (ps := ["self"]) fun _ _ _ _ _ _ us hl => match us, hl with | [_], _ => rfl
  have FAp := fun_mk (st := sApla) lAp cAp kAp
  have bAp := FAp.binds (ps := ["self"]) fun _ _ _ _ _ _ us hl => match us, hl with | [_], _ => rfl
  have FSc := fun_mk (st := sScas) lSc cSc kSc
  have bSc := FSc.binds (ps := ["self"]) fun _ _ _ _ _ _ us hl => match us, hl with | [_], _ => rfl
  have FSp := fun_mk (st := sSpla) lSp cSp kSp
  have bSp := FSp.binds (ps := ["self"]) fun _ _ _ _ _ _ us hl => match us, hl with | [_], _ => rfl
  have FBc := fun_mk (st := sBcas) lBc cBc kBc
  have bBc := FBc.binds (ps := ["self"]) fun _ _ _ _ _ _ us hl => match us, hl with | [_], _ => rfl
  have FBp := fun_mk (st := sBpla) lBp cBp kBp
  have bBp := FBp.binds (ps := ["self"]) fun _ _ _ _ _ _ us hl => match us, hl with | [_], _ => rfl
  have FOc := fun_mk (st := sOcas) lOc cOc kOc
  have bOc := FOc.binds (ps := ["self"]) fun _ _ _ _ _ _ us hl => match us, hl with | [_], _ => rfl
  have FOp := fun_mk (st := sOpla) lOp cOp kOp
  have bOp := FOp.binds (ps := ["self"]) fun _ _ _ _ _ _ us hl => match us, hl with | [_], _ => rfl
  have FBo := fun_mk (st := sBox) lBo cBo kBo
  have bBo := FBo.binds (ps := ["_law_script"]) fun _ _ _ _ _ _ us hl => match us, hl with | [_], _ => rfl
  have FT := fun_mk (st := sTake) lT cT kT
  have bT := FT.binds (ps := ["_law_box_here", "_law_size_here"]) fun _ _ _ _ _ _ us hl => match us, hl with | [_, _], _ => rfl
  have FNu := fun_mk (st := sNum) lNu cNu kNu
  have bNu := FNu.binds (ps := ["_law_x"]) fun _ _ _ _ _ _ us hl => match us, hl with | [_], _ => rfl
  have FPr := fun_mk (st := sPrs) lPr cPr kPr
  have bPr := FPr.binds (ps := ["_law_box_here", "_law_truth", "_law_tall"]) fun _ _ _ _ _ _ us hl => match us, hl with | [_, _, _], _ => rfl
  have FMn := fun_mk (st := sMny) lMn cMn kMn
  have bMn := FMn.binds (ps := ["_law_pairs_here", "_law_every"]) fun _ _ _ _ _ _ us hl => match us, hl with | [_, _], _ => rfl
  have FBd := fun_mk (st := sBnd) lBd cBd kBd
  have bBd := FBd.binds (ps := ["_law_place", "_law_cuts"]) fun _ _ _ _ _ _ us hl => match us, hl with | [_, _], _ => rfl
  have FSn := fun_mk (st := sSng) lSn cSn kSn
  have bSn := FSn.binds (ps := ["_law_box_here", "_law_truth", "_law_tall"]) fun _ _ _ _ _ _ us hl => match us, hl with | [_, _, _], _ => rfl
  have FWs := fun_mk (st := sWsh) lWs cWs kWs
  have bWs := FWs.binds (ps := ["_law_box_here", "_law_truth", "_law_tall"]) fun _ _ _ _ _ _ us hl => match us, hl with | [_, _, _], _ => rfl
  have FSz := fun_mk (st := sSiz) lSz cSz kSz
  have bSz := FSz.binds (ps := ["_law_spec"]) fun _ _ _ _ _ _ us hl => match us, hl with | [_], _ => rfl
  have FCa := fun_mk (st := sCas) lCa cCa kCa
  have bCa := FCa.binds (ps := ["_law_spec"]) fun _ _ _ _ _ _ us hl => match us, hl with | [_], _ => rfl
  have FSm := fun_mk (st := sSme) lSm cSm kSm
  have bSm := FSm.binds (ps := ["_law_told", "_law_due"]) fun _ _ _ _ _ _ us hl => match us, hl with | [_, _], _ => rfl
  have FEg := fun_mk (st := sEgt) lEg cEg kEg
  have bEg := FEg.binds (ps := ["_law_box_here", "_law_truth"]) fun _ _ _ _ _ _ us hl => match us, hl with | [_, _], _ => rfl
  have FL := fun_mk (st := sLaw) lL cL kL
  have bL := FL.binds (ps := ["_law_script"]) fun _ _ _ _ _ _ us hl => match us, hl with | [_], _ => rfl
  have OEB : OexC K CEB := ⟨⟨nmEB, qEB, NEB, bsEB, _, snEB, subEB, abEB, colEB, ddEB, m0EB, m1EB, m2EB, m3EB, m5EB, xEB, bvEB⟩, saEB, ebEB, tyEB, kcEB⟩
  have TEB : ErrTxt P K mg CEB fiEB cdEB ccEB "BadNumber.__init__" sErB := {
    oex := OEB
    iC := iEB
    tI := tEB
    fn := ⟨_, _, _, _, _, _, _, _, lEB⟩
    code := coEB
    file := ⟨_, vkEB, flEB, tfEB, lkEB, rfl, vkEBx, feEB⟩
    cell := ⟨_, leEB, rfl⟩
    self := mrEB
    opaque_ := opq
    up := upEB
    isVE := svEB
    top := htop
    noSup := PySem.W.mg_none_of X G nsup }
  have REB : ∀ base, ErrOk P w K mg base "BadNumber" CEB "value" okInt := fun base => by
    obtain ⟨fd, hfd, hb⟩ := err_int (w := w) (base := base) TEB rfl rfl (nscope_by (by decide +kernel)) (fun _ _ _ _ _ _ _ us hl => match us, hl with | [_, _], _ => rfl) rfl rfl rfl (by decide) (by decide) (by decide) nbEB
    exact ⟨OEB, ⟨gaEB, ggEB, ebEB, hdEB⟩, PySem.W.mg_of X G aEB, nbEB, PySem.W.exm_ref ebEB hdEB tyEB ssEB, ⟨_, fd, iEB, tEB, hfd, hb⟩⟩
  have OEP : OexC K CEP := ⟨⟨nmEP, qEP, NEP, bsEP, _, snEP, subEP, abEP, colEP, ddEP, m0EP, m1EP, m2EP, m3EP, m5EP, xEP, bvEP⟩, saEP, ebEP, tyEP, kcEP⟩
  have TEP : ErrTxt P K mg CEP fiEP cdEP ccEP "NoPlace.__init__" sErP := {
    oex := OEP
    iC := iEP
    tI := tEP
    fn := ⟨_, _, _, _, _, _, _, _, lEP⟩
    code := coEP
    file := ⟨_, vkEP, flEP, tfEP, lkEP, rfl, vkEPx, feEP⟩
    cell := ⟨_, leEP, rfl⟩
    self := mrEP
    opaque_ := opq
    up := upEP
    isVE := svEP
    top := htop
    noSup := PySem.W.mg_none_of X G nsup }
  have REP : ∀ base, ErrOk P w K mg base "NoPlace" CEP "place" okInt := fun base => by
    obtain ⟨fd, hfd, hb⟩ := err_int (w := w) (base := base) TEP rfl rfl (nscope_by (by decide +kernel)) (fun _ _ _ _ _ _ _ us hl => match us, hl with | [_, _], _ => rfl) rfl rfl rfl (by decide) (by decide) (by decide) nbEP
    exact ⟨OEP, ⟨gaEP, ggEP, ebEP, hdEP⟩, PySem.W.mg_of X G aEP, nbEP, PySem.W.exm_ref ebEP hdEP tyEP ssEP, ⟨_, fd, iEP, tEP, hfd, hb⟩⟩
  exact ⟨PySem.W.fnOf "law" "law" (defArgs sLaw) (defBody sLaw) (defScope sLaw) .none kVL dcL pmL anL cdL ctL, fun s v => .of_eq rfl, fun base _ _ => by
    have clT : Cls K CTrial := ⟨tPG, tHD, tPO, tSA⟩
    have cl_w : Cls K CWish := ⟨wPG, wHD, wPO, wSA⟩
    have cl_al : Cls K CAllWithin := ⟨alPG, alHD, alPO, alSA⟩
    have cl_so : Cls K CSomeWithin := ⟨soPG, soHD, soPO, soSA⟩
    have cl_bd : Cls K CBand := ⟨bdPG, bdHD, bdPO, bdSA⟩
    have cl_bo : Cls K CBoth := ⟨boPG, boHD, boPO, boSA⟩
    have na_w : ∀ m ∈ wFld, NoAttr K CWish m := fun m hm => by
      simp only [wFld, List.mem_cons, List.not_mem_nil, or_false] at hm
      rcases hm with rfl | rfl | rfl | rfl | rfl | rfl
      · exact wF0
      · exact wF1
      · exact wF2
      · exact wF3
      · exact wF4
      · exact wF5
    have na_al : ∀ m ∈ wFld, NoAttr K CAllWithin m := fun m hm => by
      simp only [wFld, List.mem_cons, List.not_mem_nil, or_false] at hm
      rcases hm with rfl | rfl | rfl | rfl | rfl | rfl
      · exact alF0
      · exact alF1
      · exact alF2
      · exact alF3
      · exact alF4
      · exact alF5
    have na_so : ∀ m ∈ wFld, NoAttr K CSomeWithin m := fun m hm => by
      simp only [wFld, List.mem_cons, List.not_mem_nil, or_false] at hm
      rcases hm with rfl | rfl | rfl | rfl | rfl | rfl
      · exact soF0
      · exact soF1
      · exact soF2
      · exact soF3
      · exact soF4
      · exact soF5
    have na_bd : ∀ m ∈ wFld, NoAttr K CBand m := fun m hm => by
      simp only [wFld, List.mem_cons, List.not_mem_nil, or_false] at hm
      rcases hm with rfl | rfl | rfl | rfl | rfl | rfl
      · exact bdF0
      · exact bdF1
      · exact bdF2
      · exact bdF3
      · exact bdF4
      · exact bdF5
    have na_bo : ∀ m ∈ wFld, NoAttr K CBoth m := fun m hm => by
      simp only [wFld, List.mem_cons, List.not_mem_nil, or_false] at hm
      rcases hm with rfl | rfl | rfl | rfl | rfl | rfl
      · exact boF0
      · exact boF1
      · exact boF2
      · exact boF3
      · exact boF4
      · exact boF5
    obtain ⟨CW, hCW⟩ : ∃ CW : WCls, CW = ⟨CWish, CAllWithin, CSomeWithin, CBand, CBoth⟩ := ⟨_, rfl⟩
    have bt : BoxTxt K mg := ⟨PySem.W.mg_none_of X G n_len, PySem.W.mg_none_of X G n_int⟩
    have TT : TriTxt K mg CTrial := { tri := PySem.W.mg_of X G aCTrial, isi := PySem.W.mg_none_of X G n_isinstance, b_len := PySem.W.mg_none_of X G n_len, cl := clT, nP := tF0, nH := tF1, nR := tF2, ha := tHA, hn := xhn, ht := xht, hm := tHM }
    have MKT : Mk K CTrial fTi := ⟨tMK, aTi, iTi, tKP⟩
    have GTi := Own.fnr0 (ok_tini (P := P) (w := w) (base := base) FTi TT) bTi
    have GAg := Own.fnr0 (ok_agr (P := P) (w := w) (base := base) FAg (REP base) TT) bAg
    have GTv := Own.fnr0 (ok_tnv (P := P) (w := w) (base := base) FTv MKT GTi TT) bTv
    have WT : WiTxt K mg CTrial CW := { cl := by subst hCW; exact fun v => match v with | .none => cl_w | .all _ => cl_al | .some _ => cl_so | .band _ _ => cl_bd | .both _ _ _ => cl_bo, na := by subst hCW; exact fun v => match v with | .none => na_w | .all _ => na_al | .some _ => na_so | .band _ _ => na_bd | .both _ _ _ => na_bo, tri := PySem.W.mg_of X G aCTrial, b_list := PySem.W.mg_none_of X G n_list, b_len := PySem.W.mg_none_of X G n_len, b_zip := PySem.W.mg_none_of X G n_zip, b_enum := PySem.W.mg_none_of X G n_enumerate, b_all := PySem.W.mg_none_of X G n_all, noSup := PySem.W.mg_none_of X G nsup }
    have GWi := ok_winiD (P := P) (w := w) (base := base) FWi WT
    have GW := Own.fnr0 GWi bWi1
    have GW0 : FnR P w K mg base CX0 1 fWi (fun vs H Q E => spWini K CW (vs ++ [.int 1]) H Q E) := Own.fnr_of GWi bWi0 vdWi0
    have MKW : Mk K CW.W fWi := by subst hCW; exact ⟨wMK, aWi, iWi, wKP⟩
    have MKA : Mk K CW.A fAi := by subst hCW; exact ⟨alMK, iAi, nAi, alKP⟩
    have MKS : Mk K CW.S fSi := by subst hCW; exact ⟨soMK, iSi, nSi, soKP⟩
    have MKB : Mk K CW.B fBi := by subst hCW; exact ⟨bdMK, iBi, nBi, bdKP⟩
    have MKO : Mk K CW.O fOi := by subst hCW; exact ⟨boMK, iOi, nOi, boKP⟩
    have GAi : FnR P w K mg base CX0 3 fAi (spMny K CTrial CW 1) := ok_aini (cc := ccAi) (by subst hCW; exact ⟨⟨_, _, _, _, _, _, _, _, _, rfl, lAi, coAi, _, _, _, _, lkAi, rfl, vkAix, feAi⟩, ⟨_, leAi, rfl⟩, opq, htop⟩) (by subst hCW; exact ⟨mrAi, upAi, iWi, fiWi⟩) GW WT (fun us rest hl => match us, hl with | [_], _ => by cases rest <;> rfl)
    have GSi : FnR P w K mg base CX0 3 fSi (spMny K CTrial CW 2) := ok_sini' (cc := ccSi) (by subst hCW; exact ⟨⟨_, _, _, _, _, _, _, _, _, rfl, lSi, coSi, _, _, _, _, lkSi, rfl, vkSix, feSi⟩, ⟨_, leSi, rfl⟩, opq, htop⟩) (by subst hCW; exact ⟨mrSi, upSi, iWi, fiWi⟩) GW WT (fun us rest hl => match us, hl with | [_], _ => by cases rest <;> rfl)
    have GBi : FnR P w K mg base (L2.CX P w) 4 fBi (spBnd K CTrial CEB CW) := ok_bini (cc := ccBi) (by subst hCW; exact ⟨⟨_, _, _, _, _, _, _, _, _, rfl, lBi, coBi, _, _, _, _, lkBi, rfl, vkBix, feBi⟩, ⟨_, leBi, rfl⟩, opq, htop⟩) (by subst hCW; exact ⟨mrBi, upBi, iWi, fiWi⟩) GW WT (REB base) (fun us rest hl => match us, hl with | [_, _], _ => by cases rest <;> rfl)
    have GWc := Own.fnr0 ((ok_wcas (P := P) (w := w) (mg := mg) (base := base) (CT := CTrial) (C := CW) FWc).mono (k := 4) (by decide)) bWc
    have GAc := Own.fnr0 ((ok_acas (P := P) (w := w) (base := base) FAc WT MKT GTi GTv aTv iTv).mono (k := 4) (by decide)) bAc
    have GSc := Own.fnr0 ((ok_scas (P := P) (w := w) (base := base) FSc WT MKT GTi GTv aTv iTv).mono (k := 4) (by decide)) bSc
    have GBc := Own.fnr0 ((ok_bcas (P := P) (w := w) (base := base) FBc WT MKT GTi GTv aTv iTv).mono (k := 4) (by decide)) bBc
    have GOc := Own.fnr0 ((ok_ocas (P := P) (w := w) (base := base) FOc WT).mono (k := 4) (by decide)) bOc
    have GWp := Own.fnr0 ((ok_wpla (P := P) (w := w) (mg := mg) (base := base) (CT := CTrial) (C := CW) FWp).mono (k := 4) (by decide)) bWp
    have GAp := Own.fnr0 ((ok_apla (P := P) (w := w) (base := base) FAp WT).mono (k := 4) (by decide)) bAp
    have GSp := Own.fnr0 ((ok_spla (P := P) (w := w) (base := base) FSp WT).mono (k := 4) (by decide)) bSp
    have GBp := Own.fnr0 ((ok_bpla (P := P) (w := w) (base := base) FBp WT).mono (k := 4) (by decide)) bBp
    have GOp := Own.fnr0 ((ok_opla (P := P) (w := w) (base := base) FOp WT).mono (k := 4) (by decide)) bOp
    have WM : WMeth P w K mg base CTrial CW := ⟨fun v => match v with
      | .none => ⟨fWc, by subst hCW; exact ⟨aWc, iWc, kWc⟩, GWc⟩
      | .all _ => ⟨fAc, by subst hCW; exact ⟨aAc, iAc, kAc⟩, GAc⟩
      | .some _ => ⟨fSc, by subst hCW; exact ⟨aSc, iSc, kSc⟩, GSc⟩
      | .band _ _ => ⟨fBc, by subst hCW; exact ⟨aBc, iBc, kBc⟩, GBc⟩
      | .both _ _ _ => ⟨fOc, by subst hCW; exact ⟨aOc, iOc, kOc⟩, GOc⟩, fun v => match v with
      | .none => ⟨fWp, by subst hCW; exact ⟨aWp, iWp, kWp⟩, GWp⟩
      | .all _ => ⟨fAp, by subst hCW; exact ⟨aAp, iAp, kAp⟩, GAp⟩
      | .some _ => ⟨fSp, by subst hCW; exact ⟨aSp, iSp, kSp⟩, GSp⟩
      | .band _ _ => ⟨fBp, by subst hCW; exact ⟨aBp, iBp, kBp⟩, GBp⟩
      | .both _ _ _ => ⟨fOp, by subst hCW; exact ⟨aOp, iOp, kOp⟩, GOp⟩⟩
    have GOi : FnR P w K mg base CX0 5 fOi (spOini K CTrial CW) := ok_oini (cc := ccOi) (by subst hCW; exact ⟨⟨_, _, _, _, _, _, _, _, _, rfl, lOi, coOi, _, _, _, _, lkOi, rfl, vkOix, feOi⟩, ⟨_, leOi, rfl⟩, opq, htop⟩) (by subst hCW; exact ⟨mrOi, upOi, iWi, fiWi⟩) GW WT WM (fun us hl => match us, hl with | [_, _, _], _ => rfl)
    have GWa := Own.fnr0 (ok_wans (P := P) (w := w) (base := base) FWa WT TT WM ⟨aAg, iAg, kAg⟩ GAg) bWa
    have GWn := Own.fnr0 (ok_wand (P := P) (w := w) (base := base) (CT := CTrial) (C := CW) FWn MKO GOi (by subst hCW; exact PySem.W.mg_of X G aCBoth)) bWn
    have LK_al : SubY.Lack K CAllWithin "__rand__" := ⟨opq, alTy, tyGA, tyGT, tyTT, tyRd, alRd, SubZ.nm_all alNm⟩
    have LK_so : SubY.Lack K CSomeWithin "__rand__" := ⟨opq, soTy, tyGA, tyGT, tyTT, tyRd, soRd, SubZ.nm_some soNm⟩
    have LK_bd : SubY.Lack K CBand "__rand__" := ⟨opq, bdTy, tyGA, tyGT, tyTT, tyRd, bdRd, SubZ.nm_band bdNm⟩
    have LK_bo : SubY.Lack K CBoth "__rand__" := ⟨opq, boTy, tyGA, tyGT, tyTT, tyRd, boRd, SubZ.nm_both boNm⟩
    have BIN : ∀ va vb : Wi, SubZ.Bin K .BitAnd (va.cls CW) (vb.cls CW) fWn := by subst hCW; exact fun va vb => match va, vb with
      | .none, .none => SubZ.bin_same wSf aWn iWn
      | .none, .all _ => SubZ.bin_two ne_w_al wSf alSf aWn alNd wRd alRd iWn sb_w_al (fun _ => LK_al)
      | .none, .some _ => SubZ.bin_two ne_w_so wSf soSf aWn soNd wRd soRd iWn sb_w_so (fun _ => LK_so)
      | .none, .band _ _ => SubZ.bin_two ne_w_bd wSf bdSf aWn bdNd wRd bdRd iWn sb_w_bd (fun _ => LK_bd)
      | .none, .both _ _ _ => SubZ.bin_two ne_w_bo wSf boSf aWn boNd wRd boRd iWn sb_w_bo (fun _ => LK_bo)
      | .all _, .none => SubZ.bin_two ne_w_al.symm alSf wSf alNd aWn alRd wRd iWn sb_al_w (fun e => by cases e)
      | .all _, .all _ => SubZ.bin_same alSf alNd iWn
      | .all _, .some _ => SubZ.bin_two ne_al_so alSf soSf alNd soNd alRd soRd iWn sb_al_so (fun e => by cases e)
      | .all _, .band _ _ => SubZ.bin_two ne_al_bd alSf bdSf alNd bdNd alRd bdRd iWn sb_al_bd (fun e => by cases e)
      | .all _, .both _ _ _ => SubZ.bin_two ne_al_bo alSf boSf alNd boNd alRd boRd iWn sb_al_bo (fun e => by cases e)
      | .some _, .none => SubZ.bin_two ne_w_so.symm soSf wSf soNd aWn soRd wRd iWn sb_so_w (fun e => by cases e)
      | .some _, .all _ => SubZ.bin_two ne_al_so.symm soSf alSf soNd alNd soRd alRd iWn sb_so_al (fun e => by cases e)
      | .some _, .some _ => SubZ.bin_same soSf soNd iWn
      | .some _, .band _ _ => SubZ.bin_two ne_so_bd soSf bdSf soNd bdNd soRd bdRd iWn sb_so_bd (fun e => by cases e)
      | .some _, .both _ _ _ => SubZ.bin_two ne_so_bo soSf boSf soNd boNd soRd boRd iWn sb_so_bo (fun e => by cases e)
      | .band _ _, .none => SubZ.bin_two ne_w_bd.symm bdSf wSf bdNd aWn bdRd wRd iWn sb_bd_w (fun e => by cases e)
      | .band _ _, .all _ => SubZ.bin_two ne_al_bd.symm bdSf alSf bdNd alNd bdRd alRd iWn sb_bd_al (fun e => by cases e)
      | .band _ _, .some _ => SubZ.bin_two ne_so_bd.symm bdSf soSf bdNd soNd bdRd soRd iWn sb_bd_so (fun e => by cases e)
      | .band _ _, .band _ _ => SubZ.bin_same bdSf bdNd iWn
      | .band _ _, .both _ _ _ => SubZ.bin_two ne_bd_bo bdSf boSf bdNd boNd bdRd boRd iWn sb_bd_bo (fun e => by cases e)
      | .both _ _ _, .none => SubZ.bin_two ne_w_bo.symm boSf wSf boNd aWn boRd wRd iWn sb_bo_w (fun e => by cases e)
      | .both _ _ _, .all _ => SubZ.bin_two ne_al_bo.symm boSf alSf boNd alNd boRd alRd iWn sb_bo_al (fun e => by cases e)
      | .both _ _ _, .some _ => SubZ.bin_two ne_so_bo.symm boSf soSf boNd soNd boRd soRd iWn sb_bo_so (fun e => by cases e)
      | .both _ _ _, .band _ _ => SubZ.bin_two ne_bd_bo.symm boSf bdSf boNd bdNd boRd bdRd iWn sb_bo_bd (fun e => by cases e)
      | .both _ _ _, .both _ _ _ => SubZ.bin_same boSf boNd iWn
    have WO : WOps P w K mg base CTrial CW := ⟨fun va vb => ⟨fWn, BIN va vb, GWn⟩, by subst hCW; exact fun v => match v with
      | .none => ⟨fWa, ⟨aWa, iWa, kWa⟩, GWa⟩
      | .all _ => ⟨fWa, ⟨alAn, iWa, kWa⟩, GWa⟩
      | .some _ => ⟨fWa, ⟨soAn, iWa, kWa⟩, GWa⟩
      | .band _ _ => ⟨fWa, ⟨bdAn, iWa, kWa⟩, GWa⟩
      | .both _ _ _ => ⟨fWa, ⟨boAn, iWa, kWa⟩, GWa⟩⟩
    have GB : FnOk P w K mg base CX0 1 fBo _ ["_law_script"] (spBox K) := ok_box FBo bt
    have GT : FnOk P w K mg base CX0 1 fT _ ["_law_box_here", "_law_size_here"] spTake := ok_take FT bt
    have LF : LfTxt mg CW fT := by subst hCW; exact { take := PySem.W.mg_of X G aT, wish := PySem.W.mg_of X G aCWish, allw := PySem.W.mg_of X G aCAllWithin, somw := PySem.W.mg_of X G aCSomeWithin, band := PySem.W.mg_of X G aCBand, b_range := PySem.W.mg_none_of X G n_range, b_len := PySem.W.mg_none_of X G n_len, b_isinstance := PySem.W.mg_none_of X G n_isinstance, b_list := PySem.W.mg_none_of X G n_list, b_int := PySem.W.mg_none_of X G n_int, b_bool := PySem.W.mg_none_of X G n_bool }
    have LG : LgTxt mg fPr fMn fBd fSn := { pairs := PySem.W.mg_of X G aPr, many := PySem.W.mg_of X G aMn, bnd := PySem.W.mg_of X G aBd, sing := PySem.W.mg_of X G aSn }
    have LH : LhTxt mg fSz := { siz := PySem.W.mg_of X G aSz, b_len := PySem.W.mg_none_of X G n_len, b_int := PySem.W.mg_none_of X G n_int }
    have LC : LcTxt mg fSz fCa fNu := { siz := PySem.W.mg_of X G aSz, cas := PySem.W.mg_of X G aCa, num := PySem.W.mg_of X G aNu, b_len := PySem.W.mg_none_of X G n_len, b_range := PySem.W.mg_none_of X G n_range, b_isinstance := PySem.W.mg_none_of X G n_isinstance, b_list := PySem.W.mg_none_of X G n_list, b_tuple := PySem.W.mg_none_of X G n_tuple }
    have GNu : FnOk P w K mg base CX0 1 fNu _ ["_law_x"] spNum := ok_num FNu LF
    have GPr : FnOk P w K mg base CX0 2 fPr _ ["_law_box_here", "_law_truth", "_law_tall"] (spPrs K) := ok_prs FPr GT FT bT LF
    have GMn : FnOk P w K mg base CX0 5 fMn _ ["_law_pairs_here", "_law_every"] (spMn3 K CTrial CW) := ok_mny FMn LF MKA GAi MKS GSi
    have GBd : FnOk P w K mg base CX0 6 fBd _ ["_law_place", "_law_cuts"] (spBn3 K CTrial CW) := ok_bnd FBd LF MKB GBi
    have GSn : FnOk P w K mg base CX0 7 fSn _ ["_law_box_here", "_law_truth", "_law_tall"] (spSng K CTrial CW) := ok_sng FSn LF LG GT FT bT GPr FPr bPr GMn FMn bMn GBd FBd bBd MKW GW0
    have GWs : FnOk P w K mg base CX0 8 fWs _ ["_law_box_here", "_law_truth", "_law_tall"] (spWsh K CTrial CW) := ok_wsh FWs LF LG GT FT bT GSn FSn bSn WO
    have GSz : FnOk P w K mg base CX0 2 fSz _ ["_law_spec"] (spSiz K 1) := ok_siz FSz bSz LH 1 (by decide)
    have GCa : FnOk P w K mg base CX0 4 fCa _ ["_law_spec"] (spCaw K 2) := ok_cas (L := LH) FCa bCa FSz bSz LC 2 (by decide)
    have GSm : FnOk P w K mg base CX0 2 fSm _ ["_law_told", "_law_due"] (spSme CTrial) := ok_sme FSm GNu FNu bNu LC TT
    have YI : WIsi K CW := by subst hCW; exact ⟨fun v => match v with | .none => wHA | .all _ => alHA | .some _ => soHA | .band _ _ => bdHA | .both _ _ _ => boHA, xhn, xht, fun v => match v with | .none => wHM | .all _ => alHM | .some _ => soHM | .band _ _ => bdHM | .both _ _ _ => boHM, fun v => match v with | .none => wKI | .all _ => alKI | .some _ => soKI | .band _ _ => bdKI | .both _ _ _ => boKI⟩
    have GEg : FnOk P w K mg base CX0 6 fEg _ ["_law_box_here", "_law_truth"] (spEgt K CTrial CW) := ok_egt FEg LF GT FT bT MKA GAi MKS GSi MKB GBi
    exact ok_law FL (by subst hCW; exact { box := PySem.W.mg_of X G aBo, take := PySem.W.mg_of X G aT, wsh := PySem.W.mg_of X G aWs, sing := PySem.W.mg_of X G aSn, cas := PySem.W.mg_of X G aCa, same := PySem.W.mg_of X G aSm, siz := PySem.W.mg_of X G aSz, egt := PySem.W.mg_of X G aEg, g_Wish := PySem.W.mg_of X G aCWish, somw := PySem.W.mg_of X G aCSomeWithin, both := PySem.W.mg_of X G aCBoth, b_range := PySem.W.mg_none_of X G n_range, b_isinstance := PySem.W.mg_none_of X G n_isinstance }) WT YI GB FBo bBo GT FT bT GWs FWs bWs GSn FSn bSn GCa FCa bCa GSm FSm bSm GSz FSz bSz GEg FEg bEg MKS GSi MKO GOi WO WM⟩
end Law

/-! The end: the facts, the run of the top, the last theorem. -/
namespace Law
open PySem PySem.Spec PyProof.Rows L2 Sup NdefX
open HkE
theorem all_ok {P : Program} {w : World} {K : PySem.W.Frag} {h : Heap} {mg : Str → Option Value} {fa : Addr} (X : K.In h) (G : h.Ns mainGlobals mg) (hfa : mg "law" = some (.ref fa)) (htop : (P.main.scope.names.lookup ("super" : Str)).isSome = false) (hP : (P.main.file : Str) = fileH)
    (c : Hk.Says fx fn K) :
    ∃ fd : FuncData, (∀ (s : Shared) (v : Value), BindsTo s fd ⟨[v], []⟩ [("_law_script", v)]) ∧ ∀ base : Heap, K.In base → base.Ns mainGlobals mg → FnOk P w K mg base CX0 9 fa fd ["_law_script"] (spLaw K) := by
  obtain ⟨ocTi, odTi, slTi, kVTi, dcTi, pmTi, anTi, cdTi, ctTi, lTi, cTi⟩ := Hk.def_ok (show Hk.fnE K 90 = Hk.sig "__init__" "Trial.__init__" sTini [] from c.fn_ 0 rfl) (c.fact (f := fk0) 0 rfl)
  obtain ⟨ocAg, odAg, slAg, kVAg, dcAg, pmAg, anAg, cdAg, ctAg, lAg, cAg⟩ := Hk.def_ok (show Hk.fnE K 107 = Hk.sig "agrees" "Trial.agrees" sAgr [] from c.fn_ 1 rfl) (c.fact (f := fk1) 1 rfl)
  obtain ⟨ocTv, odTv, slTv, kVTv, dcTv, pmTv, anTv, cdTv, ctTv, lTv, cTv⟩ := Hk.def_ok (show Hk.fnE K 114 = Hk.sig "__invert__" "Trial.__invert__" sTnv [] from c.fn_ 2 rfl) (c.fact (f := fk2) 2 rfl)
  obtain ⟨ocWi, odWi, slWi, kVWi, dcWi, pmWi, anWi, cdWi, ctWi, DTWi, xoWi, xdWi, xsWi, xnWi, tkW, lWi, cWi, dWi⟩ := Hk.dfli_ok (show Hk.fnE K 150 = Hk.sig "__init__" "Wish.__init__" sWini [] from c.fn_ 3 rfl) (c.fact (f := fk3) 3 rfl)
  obtain ⟨ocWc, odWc, slWc, kVWc, dcWc, pmWc, anWc, cdWc, ctWc, lWc, cWc⟩ := Hk.def_ok (show Hk.fnE K 157 = Hk.sig "cases" "Wish.cases" sWcas [] from c.fn_ 4 rfl) (c.fact (f := fk4) 4 rfl)
  obtain ⟨ocWa, odWa, slWa, kVWa, dcWa, pmWa, anWa, cdWa, ctWa, lWa, cWa⟩ := Hk.def_ok (show Hk.fnE K 162 = Hk.sig "answer" "Wish.answer" sWans [] from c.fn_ 5 rfl) (c.fact (f := fk5) 5 rfl)
  obtain ⟨ocWp, odWp, slWp, kVWp, dcWp, pmWp, anWp, cdWp, ctWp, lWp, cWp⟩ := Hk.def_ok (show Hk.fnE K 169 = Hk.sig "places" "Wish.places" sWpla [] from c.fn_ 6 rfl) (c.fact (f := fk6) 6 rfl)
  obtain ⟨ocWn, odWn, slWn, kVWn, dcWn, pmWn, anWn, cdWn, ctWn, lWn, cWn⟩ := Hk.def_ok (show Hk.fnE K 200 = Hk.sig "__and__" "Wish.__and__" sWand [] from c.fn_ 7 rfl) (c.fact (f := fk7) 7 rfl)
  obtain ⟨ocAc, odAc, slAc, kVAc, dcAc, pmAc, anAc, cdAc, ctAc, lAc, cAc⟩ := Hk.def_ok (show Hk.fnE K 228 = Hk.sig "cases" "AllWithin.cases" sAcas [] from c.fn_ 8 rfl) (c.fact (f := fk8) 8 rfl)
  obtain ⟨ocAp, odAp, slAp, kVAp, dcAp, pmAp, anAp, cdAp, ctAp, lAp, cAp⟩ := Hk.def_ok (show Hk.fnE K 233 = Hk.sig "places" "AllWithin.places" sApla [] from c.fn_ 9 rfl) (c.fact (f := fk9) 9 rfl)
  obtain ⟨ocSc, odSc, slSc, kVSc, dcSc, pmSc, anSc, cdSc, ctSc, lSc, cSc⟩ := Hk.def_ok (show Hk.fnE K 259 = Hk.sig "cases" "SomeWithin.cases" sScas [] from c.fn_ 10 rfl) (c.fact (f := fk10) 10 rfl)
  obtain ⟨ocSp, odSp, slSp, kVSp, dcSp, pmSp, anSp, cdSp, ctSp, lSp, cSp⟩ := Hk.def_ok (show Hk.fnE K 264 = Hk.sig "places" "SomeWithin.places" sSpla [] from c.fn_ 11 rfl) (c.fact (f := fk11) 11 rfl)
  obtain ⟨ocBc, odBc, slBc, kVBc, dcBc, pmBc, anBc, cdBc, ctBc, lBc, cBc⟩ := Hk.def_ok (show Hk.fnE K 292 = Hk.sig "cases" "Band.cases" sBcas [] from c.fn_ 12 rfl) (c.fact (f := fk12) 12 rfl)
  obtain ⟨ocBp, odBp, slBp, kVBp, dcBp, pmBp, anBp, cdBp, ctBp, lBp, cBp⟩ := Hk.def_ok (show Hk.fnE K 299 = Hk.sig "places" "Band.places" sBpla [] from c.fn_ 13 rfl) (c.fact (f := fk13) 13 rfl)
  obtain ⟨ocOc, odOc, slOc, kVOc, dcOc, pmOc, anOc, cdOc, ctOc, lOc, cOc⟩ := Hk.def_ok (show Hk.fnE K 323 = Hk.sig "cases" "Both.cases" sOcas [] from c.fn_ 14 rfl) (c.fact (f := fk14) 14 rfl)
  obtain ⟨ocOp, odOp, slOp, kVOp, dcOp, pmOp, anOp, cdOp, ctOp, lOp, cOp⟩ := Hk.def_ok (show Hk.fnE K 330 = Hk.sig "places" "Both.places" sOpla [] from c.fn_ 15 rfl) (c.fact (f := fk15) 15 rfl)
  obtain ⟨ocBo, odBo, slBo, kVBo, dcBo, pmBo, anBo, cdBo, ctBo, lBo, cBo⟩ := Hk.def_ok (show Hk.fnE K 340 = Hk.sig "_law_box" "_law_box" sBox [] from c.fn_ 16 rfl) (c.fact (f := fk16) 16 rfl)
  obtain ⟨ocT, odT, slT, kVT, dcT, pmT, anT, cdT, ctT, lT, cT⟩ := Hk.def_ok (show Hk.fnE K 347 = Hk.sig "_law_take" "_law_take" sTake [] from c.fn_ 17 rfl) (c.fact (f := fk17) 17 rfl)
  obtain ⟨ocNu, odNu, slNu, kVNu, dcNu, pmNu, anNu, cdNu, ctNu, lNu, cNu⟩ := Hk.def_ok (show Hk.fnE K 354 = Hk.sig "_law_number" "_law_number" sNum [] from c.fn_ 18 rfl) (c.fact (f := fk18) 18 rfl)
  obtain ⟨ocPr, odPr, slPr, kVPr, dcPr, pmPr, anPr, cdPr, ctPr, lPr, cPr⟩ := Hk.def_ok (show Hk.fnE K 361 = Hk.sig "_law_pairs" "_law_pairs" sPrs [] from c.fn_ 19 rfl) (c.fact (f := fk19) 19 rfl)
  obtain ⟨ocMn, odMn, slMn, kVMn, dcMn, pmMn, anMn, cdMn, ctMn, lMn, cMn⟩ := Hk.def_ok (show Hk.fnE K 368 = Hk.sig "_law_many" "_law_many" sMny [] from c.fn_ 20 rfl) (c.fact (f := fk20) 20 rfl)
  obtain ⟨ocBd, odBd, slBd, kVBd, dcBd, pmBd, anBd, cdBd, ctBd, lBd, cBd⟩ := Hk.def_ok (show Hk.fnE K 375 = Hk.sig "_law_band" "_law_band" sBnd [] from c.fn_ 21 rfl) (c.fact (f := fk21) 21 rfl)
  obtain ⟨ocSn, odSn, slSn, kVSn, dcSn, pmSn, anSn, cdSn, ctSn, lSn, cSn⟩ := Hk.def_ok (show Hk.fnE K 382 = Hk.sig "_law_single" "_law_single" sSng [] from c.fn_ 22 rfl) (c.fact (f := fk22) 22 rfl)
  obtain ⟨ocWs, odWs, slWs, kVWs, dcWs, pmWs, anWs, cdWs, ctWs, lWs, cWs⟩ := Hk.def_ok (show Hk.fnE K 389 = Hk.sig "_law_wish" "_law_wish" sWsh [] from c.fn_ 23 rfl) (c.fact (f := fk23) 23 rfl)
  obtain ⟨ocSz, odSz, slSz, kVSz, dcSz, pmSz, anSz, cdSz, ctSz, lSz, cSz⟩ := Hk.def_ok (show Hk.fnE K 396 = Hk.sig "_law_size" "_law_size" sSiz [] from c.fn_ 24 rfl) (c.fact (f := fk24) 24 rfl)
  obtain ⟨ocCa, odCa, slCa, kVCa, dcCa, pmCa, anCa, cdCa, ctCa, lCa, cCa⟩ := Hk.def_ok (show Hk.fnE K 406 = Hk.sig "_law_cases" "_law_cases" sCas [] from c.fn_ 25 rfl) (c.fact (f := fk25) 25 rfl)
  obtain ⟨ocSm, odSm, slSm, kVSm, dcSm, pmSm, anSm, cdSm, ctSm, lSm, cSm⟩ := Hk.def_ok (show Hk.fnE K 411 = Hk.sig "_law_same" "_law_same" sSme [] from c.fn_ 26 rfl) (c.fact (f := fk26) 26 rfl)
  obtain ⟨ocEg, odEg, slEg, kVEg, dcEg, pmEg, anEg, cdEg, ctEg, lEg, cEg⟩ := Hk.def_ok (show Hk.fnE K 418 = Hk.sig "_law_eight" "_law_eight" sEgt [] from c.fn_ 27 rfl) (c.fact (f := fk27) 27 rfl)
  obtain ⟨ocL, odL, slL, kVL, dcL, pmL, anL, cdL, ctL, lL, cL⟩ := Hk.def_ok (show Hk.fnE K 423 = Hk.sig "law" "law" sLaw [] from c.fn_ 28 rfl) (c.fact (f := fk28) 28 rfl)
  obtain ⟨nmEB, qEB, NEB, bsEB, bmEB, snEB, subEB, abEB, colEB, ddEB, m0EB, m1EB, m2EB, m3EB, m5EB, xEB, bvEB⟩ := Hk.exc_ok (c.fact (f := fk29) 29 rfl)
  obtain ⟨ocEB, odEB, slEB, kVEB, dcEB, pmEB, anEB, cdEB, ctEB, ccEB, ckEB, dkEB, vkEB, skEB, tfEB, ceEB, deEB, seEB, lEB, coEB, lkEB, vkEBx, leEB⟩ := Hk.err_ok (show Hk.fnE K 50 = Hk.sig "__init__" "BadNumber.__init__" sErB ["__class__"] from c.fn_ 29 rfl) (c.fact (f := fk30) 30 rfl)
  obtain ⟨nmEP, qEP, NEP, bsEP, bmEP, snEP, subEP, abEP, colEP, ddEP, m0EP, m1EP, m2EP, m3EP, m5EP, xEP, bvEP⟩ := Hk.exc_ok (c.fact (f := fk31) 31 rfl)
  obtain ⟨ocEP, odEP, slEP, kVEP, dcEP, pmEP, anEP, cdEP, ctEP, ccEP, ckEP, dkEP, vkEP, skEP, tfEP, ceEP, deEP, seEP, lEP, coEP, lkEP, vkEPx, leEP⟩ := Hk.err_ok (show Hk.fnE K 71 = Hk.sig "__init__" "NoPlace.__init__" sErP ["__class__"] from c.fn_ 30 rfl) (c.fact (f := fk32) 32 rfl)
  obtain ⟨ocAi, odAi, slAi, kVAi, dcAi, pmAi, anAi, cdAi, ctAi, ccAi, ckAi, dkAi, vkAi, skAi, tfAi, ceAi, deAi, seAi, lAi, coAi, lkAi, vkAix, leAi⟩ := Hk.err_ok (show Hk.fnE K 223 = Hk.sig "__init__" "AllWithin.__init__" sAini ["__class__"] from c.fn_ 31 rfl) (c.fact (f := fk33) 33 rfl)
  obtain ⟨ocSi, odSi, slSi, kVSi, dcSi, pmSi, anSi, cdSi, ctSi, ccSi, ckSi, dkSi, vkSi, skSi, tfSi, ceSi, deSi, seSi, lSi, coSi, lkSi, vkSix, leSi⟩ := Hk.err_ok (show Hk.fnE K 254 = Hk.sig "__init__" "SomeWithin.__init__" sSiniq ["__class__"] from c.fn_ 32 rfl) (c.fact (f := fk34) 34 rfl)
  obtain ⟨ocBi, odBi, slBi, kVBi, dcBi, pmBi, anBi, cdBi, ctBi, ccBi, ckBi, dkBi, vkBi, skBi, tfBi, ceBi, deBi, seBi, lBi, coBi, lkBi, vkBix, leBi⟩ := Hk.err_ok (show Hk.fnE K 285 = Hk.sig "__init__" "Band.__init__" sBini ["__class__"] from c.fn_ 33 rfl) (c.fact (f := fk35) 35 rfl)
  obtain ⟨ocOi, odOi, slOi, kVOi, dcOi, pmOi, anOi, cdOi, ctOi, ccOi, ckOi, dkOi, vkOi, skOi, tfOi, ceOi, deOi, seOi, lOi, coOi, lkOi, vkOix, leOi⟩ := Hk.err_ok (show Hk.fnE K 318 = Hk.sig "__init__" "Both.__init__" sOini ["__class__"] from c.fn_ 34 rfl) (c.fact (f := fk36) 36 rfl)
  exact all_mk (CTrial := 131) (CWish := 203) (CAllWithin := 236) (CSomeWithin := 267) (CBand := 302) (CBoth := 333) (fBo := 340) (fT := 347) (fNu := 354) (fPr := 361) (fMn := 368) (fBd := 375) (fSn := 382) (fWs := 389) (fSz := 396) (fCa := 406) (fSm := 411) (fEg := 418) (fL := 423) (CEB := 53) (CEP := 74) (fTi := 90) (fAg := 107) (fTv := 114) (fWi := 150) (fWc := 157) (fWa := 162) (fWp := 169) (fWn := 200) (fAc := 228) (fAp := 233) (fSc := 259) (fSp := 264) (fBc := 292) (fBp := 299) (fOc := 323) (fOp := 330) (fiEB := 50) (fiEP := 71) (fAi := 223) (fSi := 254) (fBi := 285) (fOi := 318) X G hfa htop (Hk.of_ (c.fact (f := fk37) 37 rfl)) (Hk.of_ (c.fact (f := fk38) 38 rfl)) (Hk.of_ (c.fact (f := fk39) 39 rfl)) (Hk.of_ (c.fact (f := fk40) 40 rfl)) (Hk.of_ (c.fact (f := fk41) 41 rfl)) (Hk.of_ (c.fact (f := fk42) 42 rfl)) (Hk.of_ (c.fact (f := fk43) 43 rfl)) lTi cTi (c.fact (f := fk44) 44 rfl) (c.fact (f := fk45) 45 rfl) (Hk.of_ (c.fact (f := fk46) 46 rfl)) lAg cAg (c.fact (f := fk47) 47 rfl) (c.fact (f := fk48) 48 rfl) (Hk.of_ (c.fact (f := fk49) 49 rfl)) lTv cTv (c.fact (f := fk50) 50 rfl) (c.fact (f := fk51) 51 rfl) (Hk.of_ (c.fact (f := fk52) 52 rfl)) lWi cWi (c.fact (f := fk53) 53 rfl) (c.fact (f := fk54) 54 rfl) dWi (Hk.of_ (c.fact (f := fk55) 55 rfl)) lWc cWc (c.fact (f := fk56) 56 rfl) (c.fact (f := fk57) 57 rfl) (Hk.of_ (c.fact (f := fk58) 58 rfl)) lWa cWa (c.fact (f := fk59) 59 rfl) (c.fact (f := fk60) 60 rfl) (Hk.of_ (c.fact (f := fk61) 61 rfl)) lWp cWp (c.fact (f := fk62) 62 rfl) (c.fact (f := fk63) 63 rfl) (Hk.of_ (c.fact (f := fk64) 64 rfl)) lWn cWn (c.fact (f := fk65) 65 rfl) (c.fact (f := fk66) 66 rfl) (Hk.of_ (c.fact (f := fk67) 67 rfl)) lAc cAc (c.fact (f := fk68) 68 rfl) (c.fact (f := fk69) 69 rfl) (Hk.of_ (c.fact (f := fk70) 70 rfl)) lAp cAp (c.fact (f := fk71) 71 rfl) (c.fact (f := fk72) 72 rfl) (Hk.of_ (c.fact (f := fk73) 73 rfl)) lSc cSc (c.fact (f := fk74) 74 rfl) (c.fact (f := fk75) 75 rfl) (Hk.of_ (c.fact (f := fk76) 76 rfl)) lSp cSp (c.fact (f := fk77) 77 rfl) (c.fact (f := fk78) 78 rfl) (Hk.of_ (c.fact (f := fk79) 79 rfl)) lBc cBc (c.fact (f := fk80) 80 rfl) (c.fact (f := fk81) 81 rfl) (Hk.of_ (c.fact (f := fk82) 82 rfl)) lBp cBp (c.fact (f := fk83) 83 rfl) (c.fact (f := fk84) 84 rfl) (Hk.of_ (c.fact (f := fk85) 85 rfl)) lOc cOc (c.fact (f := fk86) 86 rfl) (c.fact (f := fk87) 87 rfl) (Hk.of_ (c.fact (f := fk88) 88 rfl)) lOp cOp (c.fact (f := fk89) 89 rfl) (c.fact (f := fk90) 90 rfl) (Hk.of_ (c.fact (f := fk91) 91 rfl)) lBo cBo (c.fact (f := fk92) 92 rfl) (Hk.of_ (c.fact (f := fk93) 93 rfl)) lT cT (c.fact (f := fk94) 94 rfl) (Hk.of_ (c.fact (f := fk95) 95 rfl)) lNu cNu (c.fact (f := fk96) 96 rfl) (Hk.of_ (c.fact (f := fk97) 97 rfl)) lPr cPr (c.fact (f := fk98) 98 rfl) (Hk.of_ (c.fact (f := fk99) 99 rfl)) lMn cMn (c.fact (f := fk100) 100 rfl) (Hk.of_ (c.fact (f := fk101) 101 rfl)) lBd cBd (c.fact (f := fk102) 102 rfl) (Hk.of_ (c.fact (f := fk103) 103 rfl)) lSn cSn (c.fact (f := fk104) 104 rfl) (Hk.of_ (c.fact (f := fk105) 105 rfl)) lWs cWs (c.fact (f := fk106) 106 rfl) (Hk.of_ (c.fact (f := fk107) 107 rfl)) lSz cSz (c.fact (f := fk108) 108 rfl) (Hk.of_ (c.fact (f := fk109) 109 rfl)) lCa cCa (c.fact (f := fk110) 110 rfl) (Hk.of_ (c.fact (f := fk111) 111 rfl)) lSm cSm (c.fact (f := fk112) 112 rfl) (Hk.of_ (c.fact (f := fk113) 113 rfl)) lEg cEg (c.fact (f := fk114) 114 rfl) (Hk.of_ (c.fact (f := fk115) 115 rfl)) lL cL (c.fact (f := fk116) 116 rfl) (Hk.of_ (c.fact (f := fk117) 117 rfl)) (Hk.of_ (c.fact (f := fk118) 118 rfl)) (Hk.of_ (c.fact (f := fk119) 119 rfl)) xEB bvEB (Hk.of_ (c.fact (f := fk120) 120 rfl)) (Hk.of_ (c.fact (f := fk121) 121 rfl)) (Hk.of_ (c.fact (f := fk122) 122 rfl)) (Hk.of_ (c.fact (f := fk123) 123 rfl)) (Hk.of_ (c.fact (f := fk124) 124 rfl)) (Hk.of_ (c.fact (f := fk125) 125 rfl)) lEB coEB lkEB vkEBx (by rw [hP]; exact beq_self_eq_true _) leEB (Hk.of_ (c.fact (f := fk126) 126 rfl)) (Hk.of_ (c.fact (f := fk127) 127 rfl)) (Hk.of_ (c.fact (f := fk128) 128 rfl)) (c.fact (f := fk129) 129 rfl) (Hk.of_ (c.fact (f := fk130) 130 rfl)) (Hk.of_ (c.fact (f := fk131) 131 rfl)) (c.fact (f := fk132) 132 rfl) (Hk.of_ (c.fact (f := fk133) 133 rfl)) (Hk.of_ (c.fact (f := fk134) 134 rfl)) xEP bvEP (Hk.of_ (c.fact (f := fk135) 135 rfl)) (Hk.of_ (c.fact (f := fk136) 136 rfl)) (Hk.of_ (c.fact (f := fk137) 137 rfl)) (Hk.of_ (c.fact (f := fk138) 138 rfl)) (Hk.of_ (c.fact (f := fk139) 139 rfl)) (Hk.of_ (c.fact (f := fk140) 140 rfl)) lEP coEP lkEP vkEPx (by rw [hP]; exact beq_self_eq_true _) leEP (Hk.of_ (c.fact (f := fk141) 141 rfl)) (Hk.of_ (c.fact (f := fk142) 142 rfl)) (Hk.of_ (c.fact (f := fk143) 143 rfl)) (c.fact (f := fk144) 144 rfl) (Hk.of_ (c.fact (f := fk145) 145 rfl)) (Hk.of_ (c.fact (f := fk146) 146 rfl)) (c.fact (f := fk147) 147 rfl) (Hk.of_ (c.fact (f := fk148) 148 rfl)) (Hk.of_ (c.fact (f := fk149) 149 rfl)) (Hk.of_ (c.fact (f := fk150) 150 rfl)) (Hk.of_ (c.fact (f := fk151) 151 rfl)) (Hk.of_ (c.fact (f := fk152) 152 rfl)) (Hk.of_ (c.fact (f := fk153) 153 rfl)) (Hk.of_ (c.fact (f := fk154) 154 rfl)) (Hk.of_ (c.fact (f := fk155) 155 rfl)) (Hk.of_ (c.fact (f := fk156) 156 rfl)) (Hk.of_ (c.fact (f := fk157) 157 rfl)) (Hk.of_ (c.fact (f := fk158) 158 rfl)) (c.fact (f := fk159) 159 rfl) (c.fact (f := fk160) 160 rfl) (c.fact (f := fk161) 161 rfl) (Hk.of_ (c.fact (f := fk162) 162 rfl)) (c.fact (f := fk163) 163 rfl) (c.fact (f := fk164) 164 rfl) (Hk.of_ (c.fact (f := fk165) 165 rfl)) (Hk.of_ (c.fact (f := fk166) 166 rfl)) (Hk.of_ (c.fact (f := fk167) 167 rfl)) (Hk.of_ (c.fact (f := fk168) 168 rfl)) (Hk.of_ (c.fact (f := fk169) 169 rfl)) (Hk.of_ (c.fact (f := fk170) 170 rfl)) (Hk.of_ (c.fact (f := fk171) 171 rfl)) (c.fact (f := fk172) 172 rfl) (c.fact (f := fk173) 173 rfl) (c.fact (f := fk174) 174 rfl) (Hk.of_ (c.fact (f := fk175) 175 rfl)) (c.fact (f := fk176) 176 rfl) (c.fact (f := fk177) 177 rfl) (Hk.of_ (c.fact (f := fk178) 178 rfl)) (Hk.of_ (c.fact (f := fk179) 179 rfl)) (Hk.of_ (c.fact (f := fk180) 180 rfl)) (Hk.of_ (c.fact (f := fk181) 181 rfl)) (Hk.of_ (c.fact (f := fk182) 182 rfl)) (Hk.of_ (c.fact (f := fk183) 183 rfl)) (c.fact (f := fk184) 184 rfl) (c.fact (f := fk185) 185 rfl) (c.fact (f := fk186) 186 rfl) (Hk.of_ (c.fact (f := fk187) 187 rfl)) (c.fact (f := fk188) 188 rfl) (c.fact (f := fk189) 189 rfl) (Hk.of_ (c.fact (f := fk190) 190 rfl)) (Hk.of_ (c.fact (f := fk191) 191 rfl)) (Hk.of_ (c.fact (f := fk192) 192 rfl)) (Hk.of_ (c.fact (f := fk193) 193 rfl)) (Hk.of_ (c.fact (f := fk194) 194 rfl)) (Hk.of_ (c.fact (f := fk195) 195 rfl)) (c.fact (f := fk196) 196 rfl) (c.fact (f := fk197) 197 rfl) (c.fact (f := fk198) 198 rfl) (Hk.of_ (c.fact (f := fk199) 199 rfl)) (c.fact (f := fk200) 200 rfl) (c.fact (f := fk201) 201 rfl) (Hk.of_ (c.fact (f := fk202) 202 rfl)) (Hk.of_ (c.fact (f := fk203) 203 rfl)) (Hk.of_ (c.fact (f := fk204) 204 rfl)) (Hk.of_ (c.fact (f := fk205) 205 rfl)) (Hk.of_ (c.fact (f := fk206) 206 rfl)) (Hk.of_ (c.fact (f := fk207) 207 rfl)) (c.fact (f := fk208) 208 rfl) (c.fact (f := fk209) 209 rfl) (c.fact (f := fk210) 210 rfl) (Hk.of_ (c.fact (f := fk211) 211 rfl)) (c.fact (f := fk212) 212 rfl) (c.fact (f := fk213) 213 rfl) (Hk.of_ (c.fact (f := fk214) 214 rfl)) (Hk.of_ (c.fact (f := fk215) 215 rfl)) (Hk.of_ (c.fact (f := fk216) 216 rfl)) (Hk.of_ (c.fact (f := fk217) 217 rfl)) (Hk.of_ (c.fact (f := fk218) 218 rfl)) (Hk.of_ (c.fact (f := fk219) 219 rfl)) (c.fact (f := fk220) 220 rfl) (c.fact (f := fk221) 221 rfl) (c.fact (f := fk222) 222 rfl) (Hk.of_ (c.fact (f := fk223) 223 rfl)) (c.fact (f := fk224) 224 rfl) (c.fact (f := fk225) 225 rfl) (Hk.of_ (c.fact (f := fk226) 226 rfl)) (Hk.of_ (c.fact (f := fk227) 227 rfl)) (Hk.of_ (c.fact (f := fk228) 228 rfl)) (Hk.of_ (c.fact (f := fk229) 229 rfl)) (Hk.of_ (c.fact (f := fk230) 230 rfl)) (Hk.of_ (c.fact (f := fk231) 231 rfl)) (c.fact (f := fk232) 232 rfl) (Hk.of_ (c.fact (f := fk233) 233 rfl)) (Hk.of_ (c.fact (f := fk234) 234 rfl)) (Hk.of_ (c.fact (f := fk235) 235 rfl)) (c.fact (f := fk236) 236 rfl) (Hk.of_ (c.fact (f := fk237) 237 rfl)) (Hk.of_ (c.fact (f := fk238) 238 rfl)) (Hk.of_ (c.fact (f := fk239) 239 rfl)) (c.fact (f := fk240) 240 rfl) (Hk.of_ (c.fact (f := fk241) 241 rfl)) (Hk.of_ (c.fact (f := fk242) 242 rfl)) (Hk.of_ (c.fact (f := fk243) 243 rfl)) (c.fact (f := fk244) 244 rfl) (Hk.of_ (c.fact (f := fk245) 245 rfl)) (Hk.of_ (c.fact (f := fk246) 246 rfl)) (Hk.of_ (c.fact (f := fk247) 247 rfl)) (c.fact (f := fk248) 248 rfl) (c.fact (f := fk249) 249 rfl) (Hk.of_ (c.fact (f := fk250) 250 rfl)) (c.fact (f := fk251) 251 rfl) (Hk.of_ (c.fact (f := fk252) 252 rfl)) (c.fact (f := fk253) 253 rfl) (Hk.of_ (c.fact (f := fk254) 254 rfl)) (c.fact (f := fk255) 255 rfl) (Hk.of_ (c.fact (f := fk256) 256 rfl)) (c.fact (f := fk257) 257 rfl) (Hk.of_ (c.fact (f := fk258) 258 rfl)) (Hk.of_ (c.fact (f := fk259) 259 rfl)) (Hk.of_ (c.fact (f := fk260) 260 rfl)) (Hk.of_ (c.fact (f := fk261) 261 rfl)) (Hk.of_ (c.fact (f := fk262) 262 rfl)) (Hk.of_ (c.fact (f := fk263) 263 rfl)) (Hk.of_ (c.fact (f := fk264) 264 rfl)) (Hk.of_ (c.fact (f := fk265) 265 rfl)) (Hk.of_ (c.fact (f := fk266) 266 rfl)) (Hk.of_ (c.fact (f := fk267) 267 rfl)) (Hk.of_ (c.fact (f := fk268) 268 rfl)) (Hk.of_ (c.fact (f := fk269) 269 rfl)) (Hk.of_ (c.fact (f := fk270) 270 rfl)) (Hk.of_ (c.fact (f := fk271) 271 rfl)) (Hk.of_ (c.fact (f := fk272) 272 rfl)) (Hk.of_ (c.fact (f := fk273) 273 rfl)) (Hk.of_ (c.fact (f := fk274) 274 rfl)) (Hk.of_ (c.fact (f := fk275) 275 rfl)) (Hk.of_ (c.fact (f := fk276) 276 rfl)) (Hk.of_ (c.fact (f := fk277) 277 rfl)) (Hk.of_ (c.fact (f := fk278) 278 rfl)) (Hk.of_ (c.fact (f := fk279) 279 rfl)) (Hk.of_ (c.fact (f := fk280) 280 rfl)) (Hk.of_ (c.fact (f := fk281) 281 rfl)) (Hk.of_ (c.fact (f := fk282) 282 rfl)) (Hk.of_ (c.fact (f := fk283) 283 rfl)) (Hk.of_ (c.fact (f := fk284) 284 rfl)) (Hk.of_ (c.fact (f := fk285) 285 rfl)) (Hk.of_ (c.fact (f := fk286) 286 rfl)) (Hk.of_ (c.fact (f := fk287) 287 rfl)) (Hk.of_ (c.fact (f := fk288) 288 rfl)) (Hk.of_ (c.fact (f := fk289) 289 rfl)) (Hk.of_ (c.fact (f := fk290) 290 rfl)) (Hk.of_ (c.fact (f := fk291) 291 rfl)) (Hk.of_ (c.fact (f := fk292) 292 rfl)) (Hk.of_ (c.fact (f := fk293) 293 rfl)) (c.fact (f := fk294) 294 rfl) lAi coAi lkAi vkAix (by rw [hP]; exact beq_self_eq_true _) leAi (Hk.of_ (c.fact (f := fk295) 295 rfl)) (Hk.of_ (c.fact (f := fk296) 296 rfl)) (Hk.of_ (c.fact (f := fk297) 297 rfl)) (c.fact (f := fk298) 298 rfl) lSi coSi lkSi vkSix (by rw [hP]; exact beq_self_eq_true _) leSi (Hk.of_ (c.fact (f := fk299) 299 rfl)) (Hk.of_ (c.fact (f := fk300) 300 rfl)) (Hk.of_ (c.fact (f := fk301) 301 rfl)) (c.fact (f := fk302) 302 rfl) lBi coBi lkBi vkBix (by rw [hP]; exact beq_self_eq_true _) leBi (Hk.of_ (c.fact (f := fk303) 303 rfl)) (Hk.of_ (c.fact (f := fk304) 304 rfl)) (Hk.of_ (c.fact (f := fk305) 305 rfl)) (c.fact (f := fk306) 306 rfl) lOi coOi lkOi vkOix (by rw [hP]; exact beq_self_eq_true _) leOi (Hk.of_ (c.fact (f := fk307) 307 rfl)) (Hk.of_ (c.fact (f := fk308) 308 rfl)) (Hk.of_ (c.fact (f := fk309) 309 rfl)) (Hk.of_ (c.fact (f := fk310) 310 rfl)) (Hk.of_ (c.fact (f := fk311) 311 rfl)) (Hk.of_ (c.fact (f := fk312) 312 rfl)) (Hk.of_ (c.fact (f := fk313) 313 rfl)) (Hk.of_ (c.fact (f := fk314) 314 rfl)) (Hk.of_ (c.fact (f := fk315) 315 rfl)) (Hk.of_ (c.fact (f := fk316) 316 rfl)) (Hk.of_ (c.fact (f := fk317) 317 rfl)) (Hk.of_ (c.fact (f := fk318) 318 rfl)) (Hk.of_ (c.fact (f := fk319) 319 rfl)) (Hk.of_ (c.fact (f := fk320) 320 rfl)) (Hk.of_ (c.fact (f := fk321) 321 rfl)) (Hk.of_ (c.fact (f := fk322) 322 rfl)) (Hk.of_ (c.fact (f := fk323) 323 rfl))
end Law
open PySem PySem.W PySem.Calls PyProof.Rows
set_option maxRecDepth 100000 in
set_option maxHeartbeats 0 in
theorem PySem.Challenge.cw_rungbounds_k37_cases_of_wishes_holds : PySem.Challenge.rw_rungbounds_k37_cases_of_wishes.Holds := by
  w_on; o_law
  refine HandSHeadRun.head_any (r := OpenLaw.row PySem.Challenge.rw_rungbounds_k37_cases_of_wishes) (q := HkRun.qv) (H := HkRun.hk) (ob := HkRun.ob) (M := 9000) (loose := HkE.nmsH) (d := HandSHeadRun.topDef (OpenLaw.row PySem.Challenge.rw_rungbounds_k37_cases_of_wishes).prog 27) (kwd := []) HkRun.ob_eq
    (by kernel_rfl) (fun s => by kernel_rfl) HkRun.run (by kernel_rfl) (by kernel_rfl) (by kernel_rfl) (by rfl) (by first | assumption | decide +kernel) (by decide +kernel) ⟨rfl, rfl, rfl, rfl, rfl, by decide +kernel⟩ ?hw ?hc
  case hw => w_witness2
  case hc =>
    refine L2.walk_ofE (l := PySem.Challenge.rw_rungbounds_k37_cases_of_wishes) (n := 63) (k := 9) (x := "_law_script") (CX := L2.CX0) rfl (by decide) (by kernel_rfl) ⟨rfl, by decide, by decide⟩ ?F (fun _ _ _ _ z => z)
    intro w mg fa h Y G hmg0
    obtain ⟨K, KX, c⟩ := Y
    have hmg : mg ("law" : PySem.Str) = some (.ref fa) := by
      have e : (HandSHeadRun.topDef (OpenLaw.row PySem.Challenge.rw_rungbounds_k37_cases_of_wishes).prog 27).name = ("law" : PySem.Str) := by kernel_rfl
      rw [← e]
      exact hmg0
    obtain ⟨fd, hb, hF⟩ := Law.all_ok (P := (PySem.Challenge.rw_rungbounds_k37_cases_of_wishes).prog) (w := w) KX G hmg (by rfl) rfl c
    exact ⟨K, fd, Law.spLaw K, KX, hb, fun H a ns hl _ hS => ⟨a, ns, rfl, hS, hl, fun _ => rfl⟩, hF⟩
