import PyProof.Rows.All
import Wide.All
import OpenK.AllK
import Wide.FinOn
import HandS.ForMost
import HandS.Wide
import HandS.ExcInit
import HandS.FStr
import HandS.Nested
import HandS.TryOnly
import HandS.ExcField
import HandS.WordsExc
import HandS.IsInst
import HandS.Codes
import HandS.Gcd
import HandS.Star
import HandS.ClsMeth
import KE.KTupSum
import HandS.Defaults
import HandS.ExcIs
import KE.KExcSuper
import KE.KMathG
import HandS.FStrTup
import HandS.OwnEq
import HandS.TupLe
import HandS.DeepEq
import HandS.MakeKw
import HandS.Walk
import HandS.AnyAll
import HandS.WordsDict
import HandS.More
import HandS.Deep
import HandS.Style
import HandS.Flow
import HandS.CallSlots
import KE.GoesRaise
import PyProof.ReprReads
import HandS.MethStar
import HandS.SortInts
import HandS.DictComp
import KE.KSortedM
import HandS.DictTup
import HandS.Zip
import HandS.Conv
import HandS.TupMul
import HandS.TupAny
import KE.KStateDown
import HandS.Head0
import HandS.Head1
import HandS.Head2
import HandS.Head3
import HandS.HeadEnd
import HandS.HeadHook1
import HandS.HeadHook2
import PySem.Challenge.RW_rungbounds_k60_whole_lines_refused
import KE.KUnpack
import PyProof.CollectIter
import KE.KxAffix
import KE.IntTextLaws
import HandS.Steps
import KE.GoesEnumKw
import KE.GoesEnum
import KE.GoesMore
import PyProof.Draws
import HandS.GenList
import HandS.RaiseMore
import HandS.TryMany
set_option Elab.async false
set_option linter.all false
set_option maxRecDepth 100000
set_option maxHeartbeats 4000000
/-! The head's facts, read off the heap behind the top by their paths. -/
namespace Hk
open PySem PySem.Spec PyProof.Rows L2 He
abbrev Fr : Type := PySem.W.Frag
abbrev FnE : Type := Option (Str × Str × Arguments × FuncBody × Scope × Addr × List Str × Addr)
def fnE (K : Fr) (a : Addr) : FnE := match K.lookup a with
  | some ⟨_, _, .func fd, _⟩ => some (fd.name, fd.qualname, fd.params, fd.body, fd.scope, fd.globals, fd.closure.map (·.1), fd.builtins)
  | _ => none
/-- one def of the text: where it stands, its name, its qualified name, its statement, its cells -/
structure Df where
  at_ : Addr
  name : Str
  qual : Str
  st : Stmt
  cl : List Str := []
abbrev sig (name qual : Str) (st : Stmt) (cl : List Str) : FnE := some (name, qual, defArgs st, .stmts (defBody st), defScope st, mainGlobals, cl, builtinsNs)
def Df.val (d : Df) : FnE := sig d.name d.qual d.st d.cl
abbrev Ob : Type := Bool × List FnE
def obsK (fx : List (Fr → Bool)) (fn : List Df) (K : Fr) : Ob := (fx.all fun f => f K, fn.map fun d => fnE K d.at_)
def valK (fn : List Df) : Ob := (true, fn.map Df.val)
def Says (fx : List (Fr → Bool)) (fn : List Df) (K : Fr) : Prop := obsK fx fn K = valK fn
def obK (as : List Addr) (fx : List (Fr → Bool)) (fn : List Df) (g : Addr → Option Obj) : Ob := obsK fx fn (frG g as)
def hookK (as : List Addr) (fx : List (Fr → Bool)) (fn : List Df) : PySem.W.Hook where
  α := Ob
  obs := fun s => obK as fx fn s.heap.get?
  val := fun _ => valK fn
  says := fun _ h => ∃ K : Fr, K.In h ∧ Says fx fn K
  of := fun _ _ e => ⟨_, frG_in, e⟩
  keeps := fun _ _ _ ⟨K, hK, c⟩ k => ⟨K, PySem.W.Frag.In.keeps hK k, c⟩
theorem obK_eq {as : List Addr} {fx : List (Fr → Bool)} {fn : List Df} {g : Addr → Option Obj} {s : Shared} (h : ∀ a, g a = s.heap.get? a) : obK as fx fn g = (hookK as fx fn).obs s := by
  have e : g = s.heap.get? := funext h
  rw [e] <;> rfl
section
variable {fx : List (Fr → Bool)} {fn : List Df} {K : Fr}
theorem Says.fact (c : Says fx fn K) (i : Nat) {f : Fr → Bool} (h : fx[i]? = some f) : f K = true := by
  have c1 : (fx.all fun f => f K) = true := congrArg (fun z : Ob => z.1) c
  exact List.all_eq_true.mp c1 f (List.mem_of_getElem? h)
theorem Says.fn_ (c : Says fx fn K) (i : Nat) {d : Df} (h : fn[i]? = some d) : fnE K d.at_ = d.val := by
  have e : fn.map (fun d => fnE K d.at_) = fn.map Df.val := congrArg (fun z : Ob => z.2) c
  have e2 : (fn.map fun d => fnE K d.at_)[i]? = (fn.map Df.val)[i]? := by rw [e]
  rw [List.getElem?_map, List.getElem?_map, h] at e2
  exact Option.some.inj e2
end
/-! ### defs -/
def plainB (qual : Str) (a : Addr) (K : Fr) : Bool := match K.lookup a with
  | some ⟨_, _, .func fd, _⟩ => PySem.W.codeIn K fd.code qual && decide (fd.defaults = .none)
  | _ => false
theorem def_ok {K : Fr} {a : Addr} {name qual : Str} {st : Stmt} (e : fnE K a = sig name qual st []) (c : plainB qual a K = true) :
    ∃ oc od osl kV doc pm an cdv ct, K.lookup a = some ⟨oc, od, .func (PySem.W.fnOf name qual (defArgs st) (defBody st) (defScope st) .none kV doc pm an cdv ct), osl⟩ ∧ PySem.W.codeIn K cdv qual = true := by
  unfold fnE at e
  unfold plainB at c
  cases q : K.lookup a with
  | none =>
    rw [q] at c
    cases c
  | some o =>
    obtain ⟨oc, od, dt, osl⟩ := o
    rw [q] at c e
    cases dt with
    | func fd =>
      obtain ⟨n1, n2, n3, n4, n5, n6, n7, n8, n9, n10, n11, n12, n13, n14, n15⟩ := fd
      have e2 : (some (n1, n2, n3, n4, n5, n6, n7.map (·.1), n15) : FnE) = some (name, qual, defArgs st, .stmts (defBody st), defScope st, mainGlobals, [], builtinsNs) := e
      simp only [Option.some.injEq, Prod.mk.injEq, List.map_eq_nil_iff] at e2
      obtain ⟨h1, h2, h3, h4, h5, h6, h7, h8⟩ := e2
      obtain ⟨c1, c2⟩ := ba c
      have d2 : n8 = .none := of_decide_eq_true c2
      subst h1 h2 h3 h4 h5 h6 h7 h8 d2
      exact ⟨oc, od, osl, n9, n10, n11, n12, n13, n14, rfl, c1⟩
    | _ => cases c
/-- one default, an object -/
def oneRef : List Value → Bool
  | [.ref _] => true
  | _ => false
theorem oneRef_ok : ∀ {l : List Value}, oneRef l = true → ∃ b, l = [.ref b]
  | [], h => by cases h
  | [v], h => by
    cases v with
    | ref b => exact ⟨b, rfl⟩
    | _ => cases h
  | v :: u :: r, h => by cases v <;> cases h
def dflB1 (qual : Str) (a : Addr) (K : Fr) : Bool := match K.lookup a with
  | some ⟨_, _, .func fd, _⟩ => PySem.W.codeIn K fd.code qual && (match fd.defaults with
    | .ref T => (match K.lookup T with
      | some ⟨_, _, .seq its _, _⟩ => oneRef its.toList
      | _ => false)
    | _ => false)
  | _ => false
theorem dfl1_ok {K : Fr} {a : Addr} {name qual : Str} {st : Stmt} (e : fnE K a = sig name qual st []) (c : dflB1 qual a K = true) :
    ∃ oc od osl kV doc pm an cdv ct T xo xd xs xn b, K.lookup a = some ⟨oc, od, .func (PySem.W.fnOf name qual (defArgs st) (defBody st) (defScope st) (.ref T) kV doc pm an cdv ct), osl⟩ ∧ PySem.W.codeIn K cdv qual = true ∧
      K.lookup T = some ⟨xo, xd, .seq #[.ref b] xn, xs⟩ := by
  unfold fnE at e
  unfold dflB1 at c
  cases q : K.lookup a with
  | none =>
    rw [q] at c
    cases c
  | some o =>
    obtain ⟨oc, od, dt, osl⟩ := o
    rw [q] at c e
    cases dt with
    | func fd =>
      obtain ⟨n1, n2, n3, n4, n5, n6, n7, n8, n9, n10, n11, n12, n13, n14, n15⟩ := fd
      have e2 : (some (n1, n2, n3, n4, n5, n6, n7.map (·.1), n15) : FnE) = some (name, qual, defArgs st, .stmts (defBody st), defScope st, mainGlobals, [], builtinsNs) := e
      simp only [Option.some.injEq, Prod.mk.injEq, List.map_eq_nil_iff] at e2
      obtain ⟨h1, h2, h3, h4, h5, h6, h7, h8⟩ := e2
      subst h1 h2 h3 h4 h5 h6 h7 h8
      obtain ⟨c1, c2⟩ := ba c
      cases n8 with
      | ref T =>
        have c3 : (match K.lookup T with
          | some ⟨_, _, .seq its _, _⟩ => oneRef its.toList
          | _ => false) = true := c2
        cases q2 : K.lookup T with
        | none =>
          rw [q2] at c3
          cases c3
        | some o2 =>
          obtain ⟨xo, xd, dt2, xs⟩ := o2
          rw [q2] at c3
          cases dt2 with
          | seq its xn =>
            obtain ⟨l⟩ := its
            obtain ⟨b, e⟩ := oneRef_ok (show oneRef l = true from c3)
            rw [e] at q2
            exact ⟨oc, od, osl, n9, n10, n11, n12, n13, n14, T, xo, xd, xs, xn, b, rfl, c1, q2⟩
          | _ => cases c3
      | _ => cases c2
    | _ => cases c
/-- one default, a number -/
def oneInt (i : Int) : List Value → Bool
  | [.int j _] => decide (j = i)
  | _ => false
theorem oneInt_ok {i : Int} : ∀ {l : List Value}, oneInt i l = true → ∃ b, l = [.int i b]
  | [], h => by cases h
  | [v], h => by
    cases v with
    | int j b =>
      have h : j = i := of_decide_eq_true h
      exact ⟨b, by rw [h]⟩
    | _ => cases h
  | v :: u :: r, h => by cases v <;> cases h
def dfliB (qual : Str) (i : Int) (a : Addr) (K : Fr) : Bool := match K.lookup a with
  | some ⟨_, _, .func fd, _⟩ => PySem.W.codeIn K fd.code qual && (match fd.defaults with
    | .ref T => (match K.lookup T with
      | some ⟨_, _, .seq its _, _⟩ => oneInt i its.toList
      | _ => false)
    | _ => false)
  | _ => false
theorem dfli_ok {K : Fr} {a : Addr} {name qual : Str} {i : Int} {st : Stmt} (e : fnE K a = sig name qual st []) (c : dfliB qual i a K = true) :
    ∃ oc od osl kV doc pm an cdv ct T xo xd xs xn b, K.lookup a = some ⟨oc, od, .func (PySem.W.fnOf name qual (defArgs st) (defBody st) (defScope st) (.ref T) kV doc pm an cdv ct), osl⟩ ∧ PySem.W.codeIn K cdv qual = true ∧
      K.lookup T = some ⟨xo, xd, .seq #[.int i b] xn, xs⟩ := by
  unfold fnE at e
  unfold dfliB at c
  cases q : K.lookup a with
  | none =>
    rw [q] at c
    cases c
  | some o =>
    obtain ⟨oc, od, dt, osl⟩ := o
    rw [q] at c e
    cases dt with
    | func fd =>
      obtain ⟨n1, n2, n3, n4, n5, n6, n7, n8, n9, n10, n11, n12, n13, n14, n15⟩ := fd
      have e2 : (some (n1, n2, n3, n4, n5, n6, n7.map (·.1), n15) : FnE) = some (name, qual, defArgs st, .stmts (defBody st), defScope st, mainGlobals, [], builtinsNs) := e
      simp only [Option.some.injEq, Prod.mk.injEq, List.map_eq_nil_iff] at e2
      obtain ⟨h1, h2, h3, h4, h5, h6, h7, h8⟩ := e2
      subst h1 h2 h3 h4 h5 h6 h7 h8
      obtain ⟨c1, c2⟩ := ba c
      cases n8 with
      | ref T =>
        have c3 : (match K.lookup T with
          | some ⟨_, _, .seq its _, _⟩ => oneInt i its.toList
          | _ => false) = true := c2
        cases q2 : K.lookup T with
        | none =>
          rw [q2] at c3
          cases c3
        | some o2 =>
          obtain ⟨xo, xd, dt2, xs⟩ := o2
          rw [q2] at c3
          cases dt2 with
          | seq its xn =>
            obtain ⟨l⟩ := its
            obtain ⟨b, e⟩ := oneInt_ok (show oneInt i l = true from c3)
            rw [e] at q2
            exact ⟨oc, od, osl, n9, n10, n11, n12, n13, n14, T, xo, xd, xs, xn, b, rfl, c1, q2⟩
          | _ => cases c3
      | _ => cases c2
    | _ => cases c
/-- a class has this number -/
def clsIB (a : Addr) (n : Str) (i : Int) (K : Fr) : Bool := match PySem.W.findCls K (.ref a) (.type "type") n with
  | some (.val (.int j _)) => decide (j = i)
  | _ => false
theorem clsI_ok {K : Fr} {a : Addr} {n : Str} {i : Int} (c : clsIB a n i K = true) : ∃ t, PySem.W.findCls K (.ref a) (.type "type") n = some (.val (.int i t)) := by
  unfold clsIB at c
  split at c
  · rename_i j t e
    have c : j = i := of_decide_eq_true c
    rw [c] at e
    exact ⟨t, e⟩
  · cases c
/-! ### a def with one keyword-only default, an empty tuple -/
def kwE (k : Str) (D : Value) (K : Fr) : Bool := match D with
  | .ref D => (match PySem.W.nsIn K D k with
    | some (some (.ref t)) => (match K.lookup t with
      | some ⟨.type n, _, .seq its _, _⟩ => decide (n = "tuple") && its.toList.isEmpty
      | _ => false)
    | _ => false)
  | _ => false
theorem kwE_ok {k : Str} {D : Value} {K : Fr} (h : kwE k D K = true) : ∃ d t dd n sl, D = .ref d ∧ PySem.W.nsIn K d k = some (some (.ref t)) ∧ K.lookup t = some ⟨.type "tuple", dd, .seq #[] n, sl⟩ := by
  unfold kwE at h
  split at h
  · rename_i d
    split at h
    · rename_i t e
      split at h
      · rename_i n dd its m sl e2
        obtain ⟨c1, c2⟩ := ba h
        have c1 : n = "tuple" := of_decide_eq_true c1
        obtain ⟨l⟩ := its
        have c2 : l = [] := List.isEmpty_iff.mp c2
        subst c1 c2
        exact ⟨d, t, dd, m, sl, rfl, e, e2⟩
      · cases h
    · cases h
  · cases h
def kw1B (qual k : Str) (a : Addr) (K : Fr) : Bool := match K.lookup a with
  | some ⟨_, _, .func fd, _⟩ => PySem.W.codeIn K fd.code qual && (decide (fd.defaults = .none) && kwE k fd.kwdefaults K)
  | _ => false
theorem kw1_ok {K : Fr} {a : Addr} {name qual k : Str} {st : Stmt} (e : fnE K a = sig name qual st []) (c : kw1B qual k a K = true) :
    ∃ oc od osl D doc pm an cdv ct t dd n sl, K.lookup a = some ⟨oc, od, .func (PySem.W.fnOf name qual (defArgs st) (defBody st) (defScope st) .none (.ref D) doc pm an cdv ct), osl⟩ ∧ PySem.W.codeIn K cdv qual = true ∧
      PySem.W.nsIn K D k = some (some (.ref t)) ∧ K.lookup t = some ⟨.type "tuple", dd, .seq #[] n, sl⟩ := by
  unfold fnE at e
  unfold kw1B at c
  cases q : K.lookup a with
  | none =>
    rw [q] at c
    cases c
  | some o =>
    obtain ⟨oc, od, dt, osl⟩ := o
    rw [q] at c e
    cases dt with
    | func fd =>
      obtain ⟨n1, n2, n3, n4, n5, n6, n7, n8, n9, n10, n11, n12, n13, n14, n15⟩ := fd
      have e2 : (some (n1, n2, n3, n4, n5, n6, n7.map (·.1), n15) : FnE) = some (name, qual, defArgs st, .stmts (defBody st), defScope st, mainGlobals, [], builtinsNs) := e
      simp only [Option.some.injEq, Prod.mk.injEq, List.map_eq_nil_iff] at e2
      obtain ⟨h1, h2, h3, h4, h5, h6, h7, h8⟩ := e2
      obtain ⟨c1, c⟩ := ba c
      obtain ⟨c2, c3⟩ := ba c
      have d2 : n8 = .none := of_decide_eq_true c2
      obtain ⟨d, t, dd, m, sl, hD, hn, ht⟩ := kwE_ok (show kwE k n9 K = true from c3)
      subst h1 h2 h3 h4 h5 h6 h7 h8 d2 hD
      exact ⟨oc, od, osl, d, n10, n11, n12, n13, n14, t, dd, m, sl, rfl, c1, hn, ht⟩
    | _ => cases c
/-! ### a def with one default, an empty tuple -/
def emT (b : Addr) (K : Fr) : Bool := match K.lookup b with
  | some ⟨.type n, _, .seq its _, _⟩ => decide (n = "tuple") && its.toList.isEmpty
  | _ => false
theorem emT_ok {b : Addr} {K : Fr} (h : emT b K = true) : ∃ dd n sl, K.lookup b = some ⟨.type "tuple", dd, .seq #[] n, sl⟩ := by
  unfold emT at h
  split at h
  · rename_i n dd its m sl e2
    obtain ⟨h1, h2⟩ := ba h
    have d1 : n = "tuple" := of_decide_eq_true h1
    obtain ⟨l⟩ := its
    cases l with
    | nil =>
      subst d1
      exact ⟨dd, m, sl, e2⟩
    | cons x y => cases h2
  · cases h
def dflTT (a : Addr) (K : Fr) : Bool := match K.lookup a with
  | some ⟨_, _, .func fd, _⟩ => (match fd.defaults with
    | .ref T => (match K.lookup T with
      | some ⟨_, _, .seq its _, _⟩ => (match its.toList with
        | [.ref b] => emT b K
        | _ => false)
      | _ => false)
    | _ => false)
  | _ => false
theorem dflt_ok {K : Fr} {a : Addr} {name qual : Str} {st : Stmt} (e : fnE K a = sig name qual st []) (c : dflB1 qual a K = true) (c2 : dflTT a K = true) :
    ∃ oc od osl kV doc pm an cdv ct T xo xd xs xn b dd n sl, K.lookup a = some ⟨oc, od, .func (PySem.W.fnOf name qual (defArgs st) (defBody st) (defScope st) (.ref T) kV doc pm an cdv ct), osl⟩ ∧ PySem.W.codeIn K cdv qual = true ∧
      K.lookup T = some ⟨xo, xd, .seq #[.ref b] xn, xs⟩ ∧ K.lookup b = some ⟨.type "tuple", dd, .seq #[] n, sl⟩ := by
  obtain ⟨oc, od, osl, kV, doc, pm, an, cdv, ct, T, xo, xd, xs, xn, b, h1, h2, h3⟩ := dfl1_ok e c
  unfold dflTT at c2
  rw [h1] at c2
  have c3 : (match K.lookup T with
    | some ⟨_, _, .seq its _, _⟩ => (match its.toList with
      | [.ref b] => emT b K
      | _ => false)
    | _ => false) = true := c2
  rw [h3] at c3
  obtain ⟨dd, n, sl, h4⟩ := emT_ok (show emT b K = true from c3)
  exact ⟨oc, od, osl, kV, doc, pm, an, cdv, ct, T, xo, xd, xs, xn, b, dd, n, sl, h1, h2, h3, h4⟩
/-! ### a def with one keyword-only default, a number -/
def kwIE (k : Str) (i : Int) (D : Value) (K : Fr) : Bool := match D with
  | .ref D => (match PySem.W.nsIn K D k with
    | some (some (.int j _)) => decide (j = i)
    | _ => false)
  | _ => false
theorem kwIE_ok {k : Str} {i : Int} {D : Value} {K : Fr} (h : kwIE k i D K = true) : ∃ d tk, D = .ref d ∧ PySem.W.nsIn K d k = some (some (.int i tk)) := by
  unfold kwIE at h
  split at h
  · rename_i d
    split at h
    · rename_i j tk e
      have c1 : j = i := of_decide_eq_true h
      subst c1
      exact ⟨d, tk, rfl, e⟩
    · cases h
  · cases h
def kwiB (qual k : Str) (i : Int) (a : Addr) (K : Fr) : Bool := match K.lookup a with
  | some ⟨_, _, .func fd, _⟩ => PySem.W.codeIn K fd.code qual && (decide (fd.defaults = .none) && kwIE k i fd.kwdefaults K)
  | _ => false
theorem kwi_ok {K : Fr} {a : Addr} {name qual k : Str} {i : Int} {st : Stmt} (e : fnE K a = sig name qual st []) (c : kwiB qual k i a K = true) :
    ∃ oc od osl D doc pm an cdv ct tk, K.lookup a = some ⟨oc, od, .func (PySem.W.fnOf name qual (defArgs st) (defBody st) (defScope st) .none (.ref D) doc pm an cdv ct), osl⟩ ∧ PySem.W.codeIn K cdv qual = true ∧
      PySem.W.nsIn K D k = some (some (.int i tk)) := by
  unfold fnE at e
  unfold kwiB at c
  cases q : K.lookup a with
  | none =>
    rw [q] at c
    cases c
  | some o =>
    obtain ⟨oc, od, dt, osl⟩ := o
    rw [q] at c e
    cases dt with
    | func fd =>
      obtain ⟨n1, n2, n3, n4, n5, n6, n7, n8, n9, n10, n11, n12, n13, n14, n15⟩ := fd
      have e2 : (some (n1, n2, n3, n4, n5, n6, n7.map (·.1), n15) : FnE) = some (name, qual, defArgs st, .stmts (defBody st), defScope st, mainGlobals, [], builtinsNs) := e
      simp only [Option.some.injEq, Prod.mk.injEq, List.map_eq_nil_iff] at e2
      obtain ⟨h1, h2, h3, h4, h5, h6, h7, h8⟩ := e2
      obtain ⟨c1, c⟩ := ba c
      obtain ⟨c2, c3⟩ := ba c
      have d2 : n8 = .none := of_decide_eq_true c2
      obtain ⟨d, tk, hD, hn⟩ := kwIE_ok (show kwIE k i n9 K = true from c3)
      subst h1 h2 h3 h4 h5 h6 h7 h8 d2 hD
      exact ⟨oc, od, osl, d, n10, n11, n12, n13, n14, tk, rfl, c1, hn⟩
    | _ => cases c
/-! ### a def with the default None and one keyword-only default, a number -/
def oneNon : List Value → Bool
  | [.none] => true
  | _ => false
theorem oneNon_ok : ∀ {l : List Value}, oneNon l = true → l = [.none]
  | [], h => by cases h
  | [v], h => by
    cases v with
    | none => rfl
    | _ => cases h
  | v :: u :: r, h => by cases v <;> cases h
def nkB (qual k : Str) (i : Int) (a : Addr) (K : Fr) : Bool := match K.lookup a with
  | some ⟨_, _, .func fd, _⟩ => PySem.W.codeIn K fd.code qual && (kwIE k i fd.kwdefaults K && (match fd.defaults with
    | .ref T => (match K.lookup T with
      | some ⟨_, _, .seq its _, _⟩ => oneNon its.toList
      | _ => false)
    | _ => false))
  | _ => false
theorem nk_ok {K : Fr} {a : Addr} {name qual k : Str} {i : Int} {st : Stmt} (e : fnE K a = sig name qual st []) (c : nkB qual k i a K = true) :
    ∃ oc od osl T D doc pm an cdv ct xo xd xs xn tk, K.lookup a = some ⟨oc, od, .func (PySem.W.fnOf name qual (defArgs st) (defBody st) (defScope st) (.ref T) (.ref D) doc pm an cdv ct), osl⟩ ∧ PySem.W.codeIn K cdv qual = true ∧
      K.lookup T = some ⟨xo, xd, .seq #[.none] xn, xs⟩ ∧ PySem.W.nsIn K D k = some (some (.int i tk)) := by
  unfold fnE at e
  unfold nkB at c
  cases q : K.lookup a with
  | none =>
    rw [q] at c
    cases c
  | some o =>
    obtain ⟨oc, od, dt, osl⟩ := o
    rw [q] at c e
    cases dt with
    | func fd =>
      obtain ⟨n1, n2, n3, n4, n5, n6, n7, n8, n9, n10, n11, n12, n13, n14, n15⟩ := fd
      have e2 : (some (n1, n2, n3, n4, n5, n6, n7.map (·.1), n15) : FnE) = some (name, qual, defArgs st, .stmts (defBody st), defScope st, mainGlobals, [], builtinsNs) := e
      simp only [Option.some.injEq, Prod.mk.injEq, List.map_eq_nil_iff] at e2
      obtain ⟨h1, h2, h3, h4, h5, h6, h7, h8⟩ := e2
      obtain ⟨c1, c⟩ := ba c
      obtain ⟨c3, c2⟩ := ba c
      obtain ⟨d, tk, hD, hn⟩ := kwIE_ok (show kwIE k i n9 K = true from c3)
      subst h1 h2 h3 h4 h5 h6 h7 h8 hD
      dsimp only at c2
      cases n8 with
      | ref T =>
        have c3 : (match K.lookup T with
          | some ⟨_, _, .seq its _, _⟩ => oneNon its.toList
          | _ => false) = true := c2
        cases q2 : K.lookup T with
        | none =>
          rw [q2] at c3
          cases c3
        | some o2 =>
          obtain ⟨xo, xd, dt2, xs⟩ := o2
          rw [q2] at c3
          cases dt2 with
          | seq its xn =>
            obtain ⟨l⟩ := its
            have e := oneNon_ok (show oneNon l = true from c3)
            rw [e] at q2
            exact ⟨oc, od, osl, T, d, n10, n11, n12, n13, n14, xo, xd, xs, xn, tk, rfl, c1, q2, hn⟩
          | _ => cases c3
      | _ => cases c2
    | _ => cases c
/-! ### a def with keyword-only defaults: facts of their dict -/
def kwPB (qual : Str) (p : Addr → Fr → Bool) (a : Addr) (K : Fr) : Bool := match K.lookup a with
  | some ⟨_, _, .func fd, _⟩ => PySem.W.codeIn K fd.code qual && (decide (fd.defaults = .none) && (match fd.kwdefaults with
    | .ref D => p D K
    | _ => false))
  | _ => false
theorem kwP_ok {K : Fr} {a : Addr} {name qual : Str} {p : Addr → Fr → Bool} {st : Stmt} (e : fnE K a = sig name qual st []) (c : kwPB qual p a K = true) :
    ∃ oc od osl D doc pm an cdv ct, K.lookup a = some ⟨oc, od, .func (PySem.W.fnOf name qual (defArgs st) (defBody st) (defScope st) .none (.ref D) doc pm an cdv ct), osl⟩ ∧ PySem.W.codeIn K cdv qual = true ∧ p D K = true := by
  unfold fnE at e
  unfold kwPB at c
  cases q : K.lookup a with
  | none =>
    rw [q] at c
    cases c
  | some o =>
    obtain ⟨oc, od, dt, osl⟩ := o
    rw [q] at c e
    cases dt with
    | func fd =>
      obtain ⟨n1, n2, n3, n4, n5, n6, n7, n8, n9, n10, n11, n12, n13, n14, n15⟩ := fd
      have e2 : (some (n1, n2, n3, n4, n5, n6, n7.map (·.1), n15) : FnE) = some (name, qual, defArgs st, .stmts (defBody st), defScope st, mainGlobals, [], builtinsNs) := e
      simp only [Option.some.injEq, Prod.mk.injEq, List.map_eq_nil_iff] at e2
      obtain ⟨h1, h2, h3, h4, h5, h6, h7, h8⟩ := e2
      obtain ⟨c1, c⟩ := ba c
      obtain ⟨c2, c3⟩ := ba c
      have d2 : n8 = .none := of_decide_eq_true c2
      dsimp only at c3
      cases n9 with
      | ref D =>
        subst h1 h2 h3 h4 h5 h6 h7 h8 d2
        exact ⟨oc, od, osl, D, n10, n11, n12, n13, n14, rfl, c1, c3⟩
      | _ => cases c3
    | _ => cases c
theorem kwIE_ref {k : Str} {i : Int} {D : Addr} {K : Fr} (h : kwIE k i (.ref D) K = true) : ∃ tk, PySem.W.nsIn K D k = some (some (.int i tk)) := by
  obtain ⟨d, tk, e, h⟩ := kwIE_ok h
  cases e
  exact ⟨tk, h⟩
theorem kwE_ref {k : Str} {D : Addr} {K : Fr} (h : kwE k (.ref D) K = true) : ∃ t dd n sl, PySem.W.nsIn K D k = some (some (.ref t)) ∧ K.lookup t = some ⟨.type "tuple", dd, .seq #[] n, sl⟩ := by
  obtain ⟨d, t, dd, n, sl, e, h⟩ := kwE_ok h
  cases e
  exact ⟨t, dd, n, sl, h⟩
/-! ### errors -/
def excB (C : Addr) (K : Fr) : Bool := match K.lookup C with
  | some ⟨.type "type", _, .cls cd, sl⟩ => (match cd.mro, sl.toList with
    | .ref C' :: bm, [_, _, _, _, some (.builtin n), _] => decide (C' = C) && (decide (n = "ValueError.__new__") && (!cd.hasDel && (cd.hasDict && PySem.HandSPX.refsVE bm)))
    | _, _ => false)
  | _ => false
theorem exc_ok {K : Fr} {C : Addr} (c : excB C K = true) : ∃ nm q N bs bm sn sub ab col dd k0 k1 k2 k3 k5, K.lookup C = some (excClassObj nm q C N bs bm true sn sub ab col dd k0 k1 k2 k3 k5 "ValueError.__new__") ∧ PySem.HandSPX.refsVE bm = true := by
  unfold excB at c
  split at c
  · rename_i dd cd sl ho
    split at c
    · rename_i C' bm k0 k1 k2 k3 n k5 hm hs
      obtain ⟨c1, c⟩ := ba c
      obtain ⟨c2, c⟩ := ba c
      obtain ⟨c3, c⟩ := ba c
      obtain ⟨c4, c5⟩ := ba c
      have d1 : C' = C := of_decide_eq_true c1
      have d2 : n = "ValueError.__new__" := of_decide_eq_true c2
      subst d1 d2
      obtain ⟨nm, bs, mro, ns, qn, hd, sn, sub, ab, col, del⟩ := cd
      dsimp only at hm c3 c4
      have d3 : del = false := by
        cases del with
        | false => rfl
        | true => cases c3
      subst hm d3 c4
      have hsl : sl = #[k0, k1, k2, k3, some (.builtin "ValueError.__new__"), k5] := by
        obtain ⟨l⟩ := sl
        simp only at hs
        rw [hs]
      subst hsl
      exact ⟨nm, qn, ns, bs, bm, sn, sub, ab, col, dd, k0, k1, k2, k3, k5, ho, c5⟩
    · cases c
  · cases c
def isStr (fl : Str) : Option Value → Bool
  | some (.str y _) => decide (y = fl)
  | _ => false
theorem isStr_ok {fl : Str} : ∀ {v : Option Value}, isStr fl v = true → ∃ t, v = some (.str fl t)
  | none, h => by cases h
  | some v, h => by
    cases v with
    | str y t =>
      have e : y = fl := of_decide_eq_true h
      exact ⟨t, by rw [e]⟩
    | _ => cases h
def isCell (C : Addr) : Data → Bool
  | .cell (some (.ref D)) => decide (D = C)
  | _ => false
theorem isCell_ok {C : Addr} : ∀ {d : Data}, isCell C d = true → d = .cell (some (.ref C)) := by
  intro d h
  unfold isCell at h
  split at h
  · have e : _ = C := of_decide_eq_true h
    rw [e]
  · cases h
def errB (fl qual : Str) (C a : Addr) (K : Fr) : Bool := match K.lookup a with
  | some ⟨_, _, .func fd, _⟩ => decide (fd.defaults = .none) && (PySem.W.codeIn K fd.code qual && ((match fd.code with
    | .ref c => (match K.lookup c with
      | some ⟨_, _, .fields vk, _⟩ => isStr fl vk[2]?
      | _ => false)
    | _ => false) && (match fd.closure with
    | [(_, cc)] => (match K.lookup cc with
      | some o => isCell C o.data
      | _ => false)
    | _ => false)))
  | _ => false
theorem err_ok {K : Fr} {C a : Addr} {name qual fl : Str} {st : Stmt} (e : fnE K a = sig name qual st ["__class__"]) (c : errB fl qual C a K = true) :
    ∃ oc od osl kV doc pm an cda ct cc ck dk vk sk tf ce de se, K.lookup a = some ⟨oc, od, .func (PySem.W.fnX name qual (defArgs st) (defBody st) (defScope st) [("__class__", cc)] .none kV doc pm an (.ref cda) ct), osl⟩ ∧
      PySem.W.codeIn K (.ref cda) qual = true ∧ K.lookup cda = some ⟨ck, dk, .fields vk, sk⟩ ∧ vk[2]? = some (.str fl tf) ∧ K.lookup cc = some ⟨ce, de, .cell (some (.ref C)), se⟩ := by
  unfold fnE at e
  unfold errB at c
  cases q : K.lookup a with
  | none =>
    rw [q] at c
    cases c
  | some o =>
    obtain ⟨oc, od, dt, osl⟩ := o
    rw [q] at c e
    cases dt with
    | func fd =>
      obtain ⟨n1, n2, n3, n4, n5, n6, n7, n8, n9, n10, n11, n12, n13, n14, n15⟩ := fd
      have e2 : (some (n1, n2, n3, n4, n5, n6, n7.map (·.1), n15) : FnE) = some (name, qual, defArgs st, FuncBody.stmts (defBody st), defScope st, mainGlobals, [("__class__" : Str)], builtinsNs) := e
      simp only [Option.some.injEq, Prod.mk.injEq] at e2
      obtain ⟨h1, h2, h3, h4, h5, h6, h7, h8⟩ := e2
      obtain ⟨c1, c⟩ := ba c
      obtain ⟨c2, c⟩ := ba c
      obtain ⟨c3, c4⟩ := ba c
      have d1 : n8 = .none := of_decide_eq_true c1
      subst h1 h2 h3 h4 h5 h6 h8 d1
      dsimp only at c2 c3 c4
      cases n13 with
      | ref cda =>
        have c3 : (match K.lookup cda with
          | some ⟨_, _, .fields vk, _⟩ => isStr fl vk[2]?
          | _ => false) = true := c3
        cases q3 : K.lookup cda with
        | none =>
          rw [q3] at c3
          cases c3
        | some o3 =>
          obtain ⟨ck, dk, dt3, sk⟩ := o3
          rw [q3] at c3
          cases dt3 with
          | fields vk =>
            obtain ⟨tf, qv⟩ := isStr_ok (show isStr fl vk[2]? = true from c3)
            cases n7 with
            | nil => cases h7
            | cons p r =>
              obtain ⟨x, cc⟩ := p
              cases r with
              | cons p2 r => cases h7
              | nil =>
                have hx : x = "__class__" := (List.cons.inj h7).1
                subst hx
                have c4 : (match K.lookup cc with
                  | some o => isCell C o.data
                  | _ => false) = true := c4
                cases q4 : K.lookup cc with
                | none =>
                  rw [q4] at c4
                  cases c4
                | some o4 =>
                  obtain ⟨ce, de, dt4, se⟩ := o4
                  rw [q4] at c4
                  have d4 := isCell_ok (show isCell C dt4 = true from c4)
                  subst d4
                  exact ⟨oc, od, osl, n9, n10, n11, n12, cda, n14, cc, ck, dk, vk, sk, tf, ce, de, se, rfl, c2, q3, qv, q4⟩
          | _ => cases c3
      | _ => cases c3
    | _ => cases c
/-! ### constants -/
def intB (x : Str) (i : Int) (K : Fr) : Bool := match PySem.W.nsIn K mainGlobals x with
  | some (some (.int j _)) => decide (j = i)
  | _ => false
theorem int_ok {K : Fr} {x : Str} {i : Int} (c : intB x i K = true) : ∃ t, PySem.W.nsIn K mainGlobals x = some (some (.int i t)) := by
  unfold intB at c
  split at c
  · rename_i j t e
    have c : j = i := of_decide_eq_true c
    rw [c] at e
    exact ⟨t, e⟩
  · cases c
def strB (x z : Str) (K : Fr) : Bool := match PySem.W.nsIn K mainGlobals x with
  | some (some (.str y _)) => decide (y = z)
  | _ => false
theorem str_ok {K : Fr} {x z : Str} (c : strB x z K = true) : ∃ t, PySem.W.nsIn K mainGlobals x = some (some (.str z t)) := by
  unfold strB at c
  split at c
  · rename_i y t e
    have c : y = z := of_decide_eq_true c
    rw [c] at e
    exact ⟨t, e⟩
  · cases c
theorem of_ {p : Prop} [Decidable p] (h : decide p = true) : p := of_decide_eq_true h
/-! ### a tuple of two texts -/
def tup2SB (b : Addr) (x y : Str) (K : Fr) : Bool := match K.lookup b with
  | some ⟨.type n, _, .seq its _, _⟩ => decide (n = "tuple") && (match its.toList with
    | [.str u _, .str v _] => decide (u = x) && decide (v = y)
    | _ => false)
  | _ => false
theorem tup2S_ok {b : Addr} {x y : Str} {K : Fr} (h : tup2SB b x y K = true) : ∃ dd t1 t2 n sl, K.lookup b = some ⟨.type "tuple", dd, .seq #[.str x t1, .str y t2] n, sl⟩ := by
  unfold tup2SB at h
  split at h
  · rename_i n dd its m sl e2
    obtain ⟨h1, h2⟩ := ba h
    have d1 : n = "tuple" := of_decide_eq_true h1
    obtain ⟨l⟩ := its
    split at h2
    · rename_i u t1 v t2 el
      obtain ⟨a, c⟩ := ba h2
      have a := of_decide_eq_true a
      have c := of_decide_eq_true c
      have el : l = [.str u t1, .str v t2] := el
      subst d1 a c el
      exact ⟨dd, t1, t2, m, sl, e2⟩
    · cases h2
  · cases h
end Hk

/-! The run of the head, ahead of all. -/
namespace HkE
open PySem PySem.Spec PyProof.Rows L2
def tp (i : Nat) : Stmt := PySem.Challenge.pw_rungbounds_k60_whole_lines_refused.main.body.getD i (.Pass ⟨0, 0, 0, 0⟩)
abbrev fileH : Str := (PySem.Challenge.rw_rungbounds_k60_whole_lines_refused).prog.main.file
abbrev fk0 : Hk.Fr → Bool := fun K => Hk.plainB "check_name" 188 K
abbrev fk1 : Hk.Fr → Bool := fun K => Hk.plainB "check_not_negative" 195 K
abbrev fk2 : Hk.Fr → Bool := fun K => Hk.plainB "_check_rows" 320 K
abbrev fk3 : Hk.Fr → Bool := fun K => Hk.plainB "_check_numbers" 327 K
abbrev fk4 : Hk.Fr → Bool := fun K => Hk.plainB "_check_links" 334 K
abbrev fk5 : Hk.Fr → Bool := fun K => Hk.plainB "_spots_of" 339 K
abbrev fk6 : Hk.Fr → Bool := fun K => Hk.plainB "_tops_of" 344 K
abbrev fk7 : Hk.Fr → Bool := fun K => Hk.plainB "_told_limits" 351 K
abbrev fk8 : Hk.Fr → Bool := fun K => Hk.plainB "_ground_limits" 358 K
abbrev fk9 : Hk.Fr → Bool := fun K => Hk.plainB "_slope_limits" 365 K
abbrev fk10 : Hk.Fr → Bool := fun K => Hk.plainB "_link_limits" 372 K
abbrev fk11 : Hk.Fr → Bool := fun K => Hk.plainB "_find_ring" 377 K
abbrev fk12 : Hk.Fr → Bool := fun K => Hk.plainB "_ring_behind" 384 K
abbrev fk13 : Hk.Fr → Bool := fun K => Hk.plainB "_least_sums" 389 K
abbrev fk14 : Hk.Fr → Bool := fun K => Hk.plainB "_first_sum" 396 K
abbrev fk15 : Hk.Fr → Bool := fun K => Hk.plainB "_sums_by" 401 K
abbrev fk16 : Hk.Fr → Bool := fun K => Hk.dflB1 "Site.__init__" 209 K
abbrev fk17 : Hk.Fr → Bool := fun K => Hk.plainB "Trial.__init__" 415 K
abbrev fk18 : Hk.Fr → Bool := fun K => Hk.plainB "read_site" 466 K
abbrev fk19 : Hk.Fr → Bool := fun K => Hk.plainB "_numbered_lines" 478 K
abbrev fk20 : Hk.Fr → Bool := fun K => Hk.plainB "_is_wall_line" 483 K
abbrev fk21 : Hk.Fr → Bool := fun K => Hk.plainB "_is_link_line" 488 K
abbrev fk22 : Hk.Fr → Bool := fun K => Hk.plainB "_is_number" 500 K
abbrev fk23 : Hk.Fr → Bool := fun K => Hk.plainB "read_trials" 473 K
abbrev fk24 : Hk.Fr → Bool := fun K => Hk.plainB "_is_trial_line" 495 K
abbrev fk25 : Hk.Fr → Bool := fun K => Hk.plainB "_law_box" 505 K
abbrev fk26 : Hk.Fr → Bool := fun K => Hk.plainB "_law_take" 512 K
abbrev fk27 : Hk.Fr → Bool := fun K => Hk.plainB "_law_is_number" 517 K
abbrev fk28 : Hk.Fr → Bool := fun K => Hk.plainB "_law_site_line" 522 K
abbrev fk29 : Hk.Fr → Bool := fun K => Hk.plainB "_law_trial_line" 529 K
abbrev fk30 : Hk.Fr → Bool := fun K => Hk.plainB "_law_number_word" 536 K
abbrev fk31 : Hk.Fr → Bool := fun K => Hk.plainB "_law_good_lines" 543 K
abbrev fk32 : Hk.Fr → Bool := fun K => Hk.plainB "_law_bent" 550 K
abbrev fk33 : Hk.Fr → Bool := fun K => Hk.plainB "_law_first_bad" 557 K
abbrev fk34 : Hk.Fr → Bool := fun K => Hk.plainB "_law_outcome" 564 K
abbrev fk35 : Hk.Fr → Bool := fun K => Hk.plainB "law" 571 K
abbrev fk36 : Hk.Fr → Bool := fun K => Hk.excB 53 K
abbrev fk37 : Hk.Fr → Bool := fun K => Hk.errB fileH "BadNumber.__init__" 53 50 K
abbrev fk38 : Hk.Fr → Bool := fun K => Hk.excB 74 K
abbrev fk39 : Hk.Fr → Bool := fun K => Hk.errB fileH "BadName.__init__" 74 71 K
abbrev fk40 : Hk.Fr → Bool := fun K => Hk.excB 95 K
abbrev fk41 : Hk.Fr → Bool := fun K => Hk.errB fileH "TakenName.__init__" 95 92 K
abbrev fk42 : Hk.Fr → Bool := fun K => Hk.excB 116 K
abbrev fk43 : Hk.Fr → Bool := fun K => Hk.errB fileH "NoPlace.__init__" 116 113 K
abbrev fk44 : Hk.Fr → Bool := fun K => Hk.excB 137 K
abbrev fk45 : Hk.Fr → Bool := fun K => Hk.errB fileH "TooMany.__init__" 137 134 K
abbrev fk46 : Hk.Fr → Bool := fun K => Hk.excB 158 K
abbrev fk47 : Hk.Fr → Bool := fun K => Hk.errB fileH "NoSite.__init__" 158 155 K
abbrev fk48 : Hk.Fr → Bool := fun K => Hk.excB 179 K
abbrev fk49 : Hk.Fr → Bool := fun K => Hk.errB fileH "BadLine.__init__" 179 176 K
abbrev fk50 : Hk.Fr → Bool := fun K => decide (PySem.W.nsIn K mainGlobals "Site" = some (some (.ref 309)))
abbrev fk51 : Hk.Fr → Bool := fun K => decide (PySem.W.nsIn K mainGlobals "Trial" = some (some (.ref 456)))
abbrev fk52 : Hk.Fr → Bool := fun K => decide (PySem.W.nsIn K mainGlobals "RESULTS" = some (some (.ref 461)))
abbrev fk53 : Hk.Fr → Bool := fun K => decide (PySem.W.nsIn K mainGlobals "LadderError" = some (some (.ref 31)))
abbrev fk54 : Hk.Fr → Bool := fun K => decide (PySem.W.nsIn K mainGlobals "check_name" = some (some (.ref 188)))
abbrev fk55 : Hk.Fr → Bool := fun K => PySem.W.keepIn K (.ref 188)
abbrev fk56 : Hk.Fr → Bool := fun K => decide (PySem.W.nsIn K mainGlobals "check_not_negative" = some (some (.ref 195)))
abbrev fk57 : Hk.Fr → Bool := fun K => PySem.W.keepIn K (.ref 195)
abbrev fk58 : Hk.Fr → Bool := fun K => decide (PySem.W.nsIn K mainGlobals "_check_rows" = some (some (.ref 320)))
abbrev fk59 : Hk.Fr → Bool := fun K => PySem.W.keepIn K (.ref 320)
abbrev fk60 : Hk.Fr → Bool := fun K => decide (PySem.W.nsIn K mainGlobals "_check_numbers" = some (some (.ref 327)))
abbrev fk61 : Hk.Fr → Bool := fun K => PySem.W.keepIn K (.ref 327)
abbrev fk62 : Hk.Fr → Bool := fun K => decide (PySem.W.nsIn K mainGlobals "_check_links" = some (some (.ref 334)))
abbrev fk63 : Hk.Fr → Bool := fun K => PySem.W.keepIn K (.ref 334)
abbrev fk64 : Hk.Fr → Bool := fun K => decide (PySem.W.nsIn K mainGlobals "_spots_of" = some (some (.ref 339)))
abbrev fk65 : Hk.Fr → Bool := fun K => PySem.W.keepIn K (.ref 339)
abbrev fk66 : Hk.Fr → Bool := fun K => decide (PySem.W.nsIn K mainGlobals "_tops_of" = some (some (.ref 344)))
abbrev fk67 : Hk.Fr → Bool := fun K => PySem.W.keepIn K (.ref 344)
abbrev fk68 : Hk.Fr → Bool := fun K => decide (PySem.W.nsIn K mainGlobals "_told_limits" = some (some (.ref 351)))
abbrev fk69 : Hk.Fr → Bool := fun K => PySem.W.keepIn K (.ref 351)
abbrev fk70 : Hk.Fr → Bool := fun K => decide (PySem.W.nsIn K mainGlobals "_ground_limits" = some (some (.ref 358)))
abbrev fk71 : Hk.Fr → Bool := fun K => PySem.W.keepIn K (.ref 358)
abbrev fk72 : Hk.Fr → Bool := fun K => decide (PySem.W.nsIn K mainGlobals "_slope_limits" = some (some (.ref 365)))
abbrev fk73 : Hk.Fr → Bool := fun K => PySem.W.keepIn K (.ref 365)
abbrev fk74 : Hk.Fr → Bool := fun K => decide (PySem.W.nsIn K mainGlobals "_link_limits" = some (some (.ref 372)))
abbrev fk75 : Hk.Fr → Bool := fun K => PySem.W.keepIn K (.ref 372)
abbrev fk76 : Hk.Fr → Bool := fun K => decide (PySem.W.nsIn K mainGlobals "_find_ring" = some (some (.ref 377)))
abbrev fk77 : Hk.Fr → Bool := fun K => PySem.W.keepIn K (.ref 377)
abbrev fk78 : Hk.Fr → Bool := fun K => decide (PySem.W.nsIn K mainGlobals "_ring_behind" = some (some (.ref 384)))
abbrev fk79 : Hk.Fr → Bool := fun K => PySem.W.keepIn K (.ref 384)
abbrev fk80 : Hk.Fr → Bool := fun K => decide (PySem.W.nsIn K mainGlobals "_least_sums" = some (some (.ref 389)))
abbrev fk81 : Hk.Fr → Bool := fun K => PySem.W.keepIn K (.ref 389)
abbrev fk82 : Hk.Fr → Bool := fun K => decide (PySem.W.nsIn K mainGlobals "_first_sum" = some (some (.ref 396)))
abbrev fk83 : Hk.Fr → Bool := fun K => PySem.W.keepIn K (.ref 396)
abbrev fk84 : Hk.Fr → Bool := fun K => decide (PySem.W.nsIn K mainGlobals "_sums_by" = some (some (.ref 401)))
abbrev fk85 : Hk.Fr → Bool := fun K => PySem.W.keepIn K (.ref 401)
abbrev fk86 : Hk.Fr → Bool := fun K => decide (PySem.W.findIn K (.ref 309) "__init__" = some (some (.ref 209)))
abbrev fk87 : Hk.Fr → Bool := fun K => PySem.W.keepIn K (.ref 209)
abbrev fk88 : Hk.Fr → Bool := fun K => PySem.W.isFn K (.ref 209)
abbrev fk89 : Hk.Fr → Bool := fun K => decide (PySem.W.findIn K (.ref 456) "__init__" = some (some (.ref 415)))
abbrev fk90 : Hk.Fr → Bool := fun K => PySem.W.keepIn K (.ref 415)
abbrev fk91 : Hk.Fr → Bool := fun K => PySem.W.isFn K (.ref 415)
abbrev fk92 : Hk.Fr → Bool := fun K => decide (PySem.W.nsIn K mainGlobals "read_site" = some (some (.ref 466)))
abbrev fk93 : Hk.Fr → Bool := fun K => PySem.W.keepIn K (.ref 466)
abbrev fk94 : Hk.Fr → Bool := fun K => decide (PySem.W.nsIn K mainGlobals "_numbered_lines" = some (some (.ref 478)))
abbrev fk95 : Hk.Fr → Bool := fun K => PySem.W.keepIn K (.ref 478)
abbrev fk96 : Hk.Fr → Bool := fun K => decide (PySem.W.nsIn K mainGlobals "_is_wall_line" = some (some (.ref 483)))
abbrev fk97 : Hk.Fr → Bool := fun K => PySem.W.keepIn K (.ref 483)
abbrev fk98 : Hk.Fr → Bool := fun K => decide (PySem.W.nsIn K mainGlobals "_is_link_line" = some (some (.ref 488)))
abbrev fk99 : Hk.Fr → Bool := fun K => PySem.W.keepIn K (.ref 488)
abbrev fk100 : Hk.Fr → Bool := fun K => decide (PySem.W.nsIn K mainGlobals "_is_number" = some (some (.ref 500)))
abbrev fk101 : Hk.Fr → Bool := fun K => PySem.W.keepIn K (.ref 500)
abbrev fk102 : Hk.Fr → Bool := fun K => decide (PySem.W.nsIn K mainGlobals "read_trials" = some (some (.ref 473)))
abbrev fk103 : Hk.Fr → Bool := fun K => PySem.W.keepIn K (.ref 473)
abbrev fk104 : Hk.Fr → Bool := fun K => decide (PySem.W.nsIn K mainGlobals "_is_trial_line" = some (some (.ref 495)))
abbrev fk105 : Hk.Fr → Bool := fun K => PySem.W.keepIn K (.ref 495)
abbrev fk106 : Hk.Fr → Bool := fun K => decide (PySem.W.nsIn K mainGlobals "_law_box" = some (some (.ref 505)))
abbrev fk107 : Hk.Fr → Bool := fun K => PySem.W.keepIn K (.ref 505)
abbrev fk108 : Hk.Fr → Bool := fun K => decide (PySem.W.nsIn K mainGlobals "_law_take" = some (some (.ref 512)))
abbrev fk109 : Hk.Fr → Bool := fun K => PySem.W.keepIn K (.ref 512)
abbrev fk110 : Hk.Fr → Bool := fun K => decide (PySem.W.nsIn K mainGlobals "_law_is_number" = some (some (.ref 517)))
abbrev fk111 : Hk.Fr → Bool := fun K => PySem.W.keepIn K (.ref 517)
abbrev fk112 : Hk.Fr → Bool := fun K => decide (PySem.W.nsIn K mainGlobals "_law_site_line" = some (some (.ref 522)))
abbrev fk113 : Hk.Fr → Bool := fun K => PySem.W.keepIn K (.ref 522)
abbrev fk114 : Hk.Fr → Bool := fun K => decide (PySem.W.nsIn K mainGlobals "_law_trial_line" = some (some (.ref 529)))
abbrev fk115 : Hk.Fr → Bool := fun K => PySem.W.keepIn K (.ref 529)
abbrev fk116 : Hk.Fr → Bool := fun K => decide (PySem.W.nsIn K mainGlobals "_law_number_word" = some (some (.ref 536)))
abbrev fk117 : Hk.Fr → Bool := fun K => PySem.W.keepIn K (.ref 536)
abbrev fk118 : Hk.Fr → Bool := fun K => decide (PySem.W.nsIn K mainGlobals "_law_good_lines" = some (some (.ref 543)))
abbrev fk119 : Hk.Fr → Bool := fun K => PySem.W.keepIn K (.ref 543)
abbrev fk120 : Hk.Fr → Bool := fun K => decide (PySem.W.nsIn K mainGlobals "_law_bent" = some (some (.ref 550)))
abbrev fk121 : Hk.Fr → Bool := fun K => PySem.W.keepIn K (.ref 550)
abbrev fk122 : Hk.Fr → Bool := fun K => decide (PySem.W.nsIn K mainGlobals "_law_first_bad" = some (some (.ref 557)))
abbrev fk123 : Hk.Fr → Bool := fun K => PySem.W.keepIn K (.ref 557)
abbrev fk124 : Hk.Fr → Bool := fun K => decide (PySem.W.nsIn K mainGlobals "_law_outcome" = some (some (.ref 564)))
abbrev fk125 : Hk.Fr → Bool := fun K => PySem.W.keepIn K (.ref 564)
abbrev fk126 : Hk.Fr → Bool := fun K => decide (PySem.W.nsIn K mainGlobals "law" = some (some (.ref 571)))
abbrev fk127 : Hk.Fr → Bool := fun K => PySem.W.keepIn K (.ref 571)
abbrev fk128 : Hk.Fr → Bool := fun K => decide (PySem.W.nsIn K cStatics "thirdparty.any" = some none)
abbrev fk129 : Hk.Fr → Bool := fun K => decide (PySem.W.nsIn K mainGlobals "super" = some none)
abbrev fk130 : Hk.Fr → Bool := fun K => decide (PySem.W.nsIn K mainGlobals "BadNumber" = some (some (.ref 53)))
abbrev fk131 : Hk.Fr → Bool := fun K => decide (PySem.W.findIn K (.ref 53) "__setattr__" = some (some (.builtin "object.__setattr__")))
abbrev fk132 : Hk.Fr → Bool := fun K => decide (PySem.W.findIn K (.ref 53) "__getattribute__" = some (some (.builtin "BaseException.__getattribute__")))
abbrev fk133 : Hk.Fr → Bool := fun K => decide (PySem.W.findIn K (.ref 53) "__getattr__" = some none)
abbrev fk134 : Hk.Fr → Bool := fun K => decide (PySem.W.findIn K (.ref 53) "value" = some none)
abbrev fk135 : Hk.Fr → Bool := fun K => decide (PySem.W.findIn K (.ref 53) "__init__" = some (some (.ref 50)))
abbrev fk136 : Hk.Fr → Bool := fun K => decide (PySem.W.typeIn K (.ref 50) = some (.type "function"))
abbrev fk137 : Hk.Fr → Bool := fun K => decide (PySem.W.mroIn K 53 (.ref 53) = some true)
abbrev fk138 : Hk.Fr → Bool := fun K => decide (PySem.W.ks_superIn K 53 53 "__init__" = some (some (.builtin "ValueError.__init__")))
abbrev fk139 : Hk.Fr → Bool := fun K => decide (PySem.W.subIn K (.ref 53) (.type "ValueError") = some true)
abbrev fk140 : Hk.Fr → Bool := fun K => PySem.W.keepIn K (.ref 53)
abbrev fk141 : Hk.Fr → Bool := fun K => decide (PySem.W.subIn K (.ref 53) (.type "BaseException") = some true)
abbrev fk142 : Hk.Fr → Bool := fun K => decide (PySem.W.typeIn K (.ref 53) = some (.type "type"))
abbrev fk143 : Hk.Fr → Bool := fun K => PySem.W.hasDictIn K 53
abbrev fk144 : Hk.Fr → Bool := fun K => decide (PySem.W.subIn K (.ref 53) (.ref 53) = some true)
abbrev fk145 : Hk.Fr → Bool := fun K => decide (PySem.W.nsIn K mainGlobals "BadName" = some (some (.ref 74)))
abbrev fk146 : Hk.Fr → Bool := fun K => decide (PySem.W.findIn K (.ref 74) "__setattr__" = some (some (.builtin "object.__setattr__")))
abbrev fk147 : Hk.Fr → Bool := fun K => decide (PySem.W.findIn K (.ref 74) "__getattribute__" = some (some (.builtin "BaseException.__getattribute__")))
abbrev fk148 : Hk.Fr → Bool := fun K => decide (PySem.W.findIn K (.ref 74) "__getattr__" = some none)
abbrev fk149 : Hk.Fr → Bool := fun K => decide (PySem.W.findIn K (.ref 74) "name" = some none)
abbrev fk150 : Hk.Fr → Bool := fun K => decide (PySem.W.findIn K (.ref 74) "__init__" = some (some (.ref 71)))
abbrev fk151 : Hk.Fr → Bool := fun K => decide (PySem.W.typeIn K (.ref 71) = some (.type "function"))
abbrev fk152 : Hk.Fr → Bool := fun K => decide (PySem.W.mroIn K 74 (.ref 74) = some true)
abbrev fk153 : Hk.Fr → Bool := fun K => decide (PySem.W.ks_superIn K 74 74 "__init__" = some (some (.builtin "ValueError.__init__")))
abbrev fk154 : Hk.Fr → Bool := fun K => decide (PySem.W.subIn K (.ref 74) (.type "ValueError") = some true)
abbrev fk155 : Hk.Fr → Bool := fun K => PySem.W.keepIn K (.ref 74)
abbrev fk156 : Hk.Fr → Bool := fun K => decide (PySem.W.subIn K (.ref 74) (.type "BaseException") = some true)
abbrev fk157 : Hk.Fr → Bool := fun K => decide (PySem.W.typeIn K (.ref 74) = some (.type "type"))
abbrev fk158 : Hk.Fr → Bool := fun K => PySem.W.hasDictIn K 74
abbrev fk159 : Hk.Fr → Bool := fun K => decide (PySem.W.subIn K (.ref 74) (.ref 74) = some true)
abbrev fk160 : Hk.Fr → Bool := fun K => decide (PySem.W.nsIn K mainGlobals "TakenName" = some (some (.ref 95)))
abbrev fk161 : Hk.Fr → Bool := fun K => decide (PySem.W.findIn K (.ref 95) "__setattr__" = some (some (.builtin "object.__setattr__")))
abbrev fk162 : Hk.Fr → Bool := fun K => decide (PySem.W.findIn K (.ref 95) "__getattribute__" = some (some (.builtin "BaseException.__getattribute__")))
abbrev fk163 : Hk.Fr → Bool := fun K => decide (PySem.W.findIn K (.ref 95) "__getattr__" = some none)
abbrev fk164 : Hk.Fr → Bool := fun K => decide (PySem.W.findIn K (.ref 95) "name" = some none)
abbrev fk165 : Hk.Fr → Bool := fun K => decide (PySem.W.findIn K (.ref 95) "__init__" = some (some (.ref 92)))
abbrev fk166 : Hk.Fr → Bool := fun K => decide (PySem.W.typeIn K (.ref 92) = some (.type "function"))
abbrev fk167 : Hk.Fr → Bool := fun K => decide (PySem.W.mroIn K 95 (.ref 95) = some true)
abbrev fk168 : Hk.Fr → Bool := fun K => decide (PySem.W.ks_superIn K 95 95 "__init__" = some (some (.builtin "ValueError.__init__")))
abbrev fk169 : Hk.Fr → Bool := fun K => decide (PySem.W.subIn K (.ref 95) (.type "ValueError") = some true)
abbrev fk170 : Hk.Fr → Bool := fun K => PySem.W.keepIn K (.ref 95)
abbrev fk171 : Hk.Fr → Bool := fun K => decide (PySem.W.subIn K (.ref 95) (.type "BaseException") = some true)
abbrev fk172 : Hk.Fr → Bool := fun K => decide (PySem.W.typeIn K (.ref 95) = some (.type "type"))
abbrev fk173 : Hk.Fr → Bool := fun K => PySem.W.hasDictIn K 95
abbrev fk174 : Hk.Fr → Bool := fun K => decide (PySem.W.subIn K (.ref 95) (.ref 95) = some true)
abbrev fk175 : Hk.Fr → Bool := fun K => decide (PySem.W.nsIn K mainGlobals "NoPlace" = some (some (.ref 116)))
abbrev fk176 : Hk.Fr → Bool := fun K => decide (PySem.W.findIn K (.ref 116) "__setattr__" = some (some (.builtin "object.__setattr__")))
abbrev fk177 : Hk.Fr → Bool := fun K => decide (PySem.W.findIn K (.ref 116) "__getattribute__" = some (some (.builtin "BaseException.__getattribute__")))
abbrev fk178 : Hk.Fr → Bool := fun K => decide (PySem.W.findIn K (.ref 116) "__getattr__" = some none)
abbrev fk179 : Hk.Fr → Bool := fun K => decide (PySem.W.findIn K (.ref 116) "place" = some none)
abbrev fk180 : Hk.Fr → Bool := fun K => decide (PySem.W.findIn K (.ref 116) "__init__" = some (some (.ref 113)))
abbrev fk181 : Hk.Fr → Bool := fun K => decide (PySem.W.typeIn K (.ref 113) = some (.type "function"))
abbrev fk182 : Hk.Fr → Bool := fun K => decide (PySem.W.mroIn K 116 (.ref 116) = some true)
abbrev fk183 : Hk.Fr → Bool := fun K => decide (PySem.W.ks_superIn K 116 116 "__init__" = some (some (.builtin "ValueError.__init__")))
abbrev fk184 : Hk.Fr → Bool := fun K => decide (PySem.W.subIn K (.ref 116) (.type "ValueError") = some true)
abbrev fk185 : Hk.Fr → Bool := fun K => PySem.W.keepIn K (.ref 116)
abbrev fk186 : Hk.Fr → Bool := fun K => decide (PySem.W.subIn K (.ref 116) (.type "BaseException") = some true)
abbrev fk187 : Hk.Fr → Bool := fun K => decide (PySem.W.typeIn K (.ref 116) = some (.type "type"))
abbrev fk188 : Hk.Fr → Bool := fun K => PySem.W.hasDictIn K 116
abbrev fk189 : Hk.Fr → Bool := fun K => decide (PySem.W.subIn K (.ref 116) (.ref 116) = some true)
abbrev fk190 : Hk.Fr → Bool := fun K => decide (PySem.W.nsIn K mainGlobals "TooMany" = some (some (.ref 137)))
abbrev fk191 : Hk.Fr → Bool := fun K => decide (PySem.W.findIn K (.ref 137) "__setattr__" = some (some (.builtin "object.__setattr__")))
abbrev fk192 : Hk.Fr → Bool := fun K => decide (PySem.W.findIn K (.ref 137) "__getattribute__" = some (some (.builtin "BaseException.__getattribute__")))
abbrev fk193 : Hk.Fr → Bool := fun K => decide (PySem.W.findIn K (.ref 137) "__getattr__" = some none)
abbrev fk194 : Hk.Fr → Bool := fun K => decide (PySem.W.findIn K (.ref 137) "count" = some none)
abbrev fk195 : Hk.Fr → Bool := fun K => decide (PySem.W.findIn K (.ref 137) "__init__" = some (some (.ref 134)))
abbrev fk196 : Hk.Fr → Bool := fun K => decide (PySem.W.typeIn K (.ref 134) = some (.type "function"))
abbrev fk197 : Hk.Fr → Bool := fun K => decide (PySem.W.mroIn K 137 (.ref 137) = some true)
abbrev fk198 : Hk.Fr → Bool := fun K => decide (PySem.W.ks_superIn K 137 137 "__init__" = some (some (.builtin "ValueError.__init__")))
abbrev fk199 : Hk.Fr → Bool := fun K => decide (PySem.W.subIn K (.ref 137) (.type "ValueError") = some true)
abbrev fk200 : Hk.Fr → Bool := fun K => PySem.W.keepIn K (.ref 137)
abbrev fk201 : Hk.Fr → Bool := fun K => decide (PySem.W.subIn K (.ref 137) (.type "BaseException") = some true)
abbrev fk202 : Hk.Fr → Bool := fun K => decide (PySem.W.typeIn K (.ref 137) = some (.type "type"))
abbrev fk203 : Hk.Fr → Bool := fun K => PySem.W.hasDictIn K 137
abbrev fk204 : Hk.Fr → Bool := fun K => decide (PySem.W.subIn K (.ref 137) (.ref 137) = some true)
abbrev fk205 : Hk.Fr → Bool := fun K => decide (PySem.W.nsIn K mainGlobals "NoSite" = some (some (.ref 158)))
abbrev fk206 : Hk.Fr → Bool := fun K => decide (PySem.W.findIn K (.ref 158) "__setattr__" = some (some (.builtin "object.__setattr__")))
abbrev fk207 : Hk.Fr → Bool := fun K => decide (PySem.W.findIn K (.ref 158) "__getattribute__" = some (some (.builtin "BaseException.__getattribute__")))
abbrev fk208 : Hk.Fr → Bool := fun K => decide (PySem.W.findIn K (.ref 158) "__getattr__" = some none)
abbrev fk209 : Hk.Fr → Bool := fun K => decide (PySem.W.findIn K (.ref 158) "ring" = some none)
abbrev fk210 : Hk.Fr → Bool := fun K => decide (PySem.W.findIn K (.ref 158) "__init__" = some (some (.ref 155)))
abbrev fk211 : Hk.Fr → Bool := fun K => decide (PySem.W.typeIn K (.ref 155) = some (.type "function"))
abbrev fk212 : Hk.Fr → Bool := fun K => decide (PySem.W.mroIn K 158 (.ref 158) = some true)
abbrev fk213 : Hk.Fr → Bool := fun K => decide (PySem.W.ks_superIn K 158 158 "__init__" = some (some (.builtin "ValueError.__init__")))
abbrev fk214 : Hk.Fr → Bool := fun K => decide (PySem.W.subIn K (.ref 158) (.type "ValueError") = some true)
abbrev fk215 : Hk.Fr → Bool := fun K => PySem.W.keepIn K (.ref 158)
abbrev fk216 : Hk.Fr → Bool := fun K => decide (PySem.W.subIn K (.ref 158) (.type "BaseException") = some true)
abbrev fk217 : Hk.Fr → Bool := fun K => decide (PySem.W.typeIn K (.ref 158) = some (.type "type"))
abbrev fk218 : Hk.Fr → Bool := fun K => PySem.W.hasDictIn K 158
abbrev fk219 : Hk.Fr → Bool := fun K => decide (PySem.W.subIn K (.ref 158) (.ref 158) = some true)
abbrev fk220 : Hk.Fr → Bool := fun K => decide (PySem.W.nsIn K mainGlobals "BadLine" = some (some (.ref 179)))
abbrev fk221 : Hk.Fr → Bool := fun K => decide (PySem.W.findIn K (.ref 179) "__setattr__" = some (some (.builtin "object.__setattr__")))
abbrev fk222 : Hk.Fr → Bool := fun K => decide (PySem.W.findIn K (.ref 179) "__getattribute__" = some (some (.builtin "BaseException.__getattribute__")))
abbrev fk223 : Hk.Fr → Bool := fun K => decide (PySem.W.findIn K (.ref 179) "__getattr__" = some none)
abbrev fk224 : Hk.Fr → Bool := fun K => decide (PySem.W.findIn K (.ref 179) "line" = some none)
abbrev fk225 : Hk.Fr → Bool := fun K => decide (PySem.W.findIn K (.ref 179) "__init__" = some (some (.ref 176)))
abbrev fk226 : Hk.Fr → Bool := fun K => decide (PySem.W.typeIn K (.ref 176) = some (.type "function"))
abbrev fk227 : Hk.Fr → Bool := fun K => decide (PySem.W.mroIn K 179 (.ref 179) = some true)
abbrev fk228 : Hk.Fr → Bool := fun K => decide (PySem.W.ks_superIn K 179 179 "__init__" = some (some (.builtin "ValueError.__init__")))
abbrev fk229 : Hk.Fr → Bool := fun K => decide (PySem.W.subIn K (.ref 179) (.type "ValueError") = some true)
abbrev fk230 : Hk.Fr → Bool := fun K => PySem.W.keepIn K (.ref 179)
abbrev fk231 : Hk.Fr → Bool := fun K => decide (PySem.W.subIn K (.ref 179) (.type "BaseException") = some true)
abbrev fk232 : Hk.Fr → Bool := fun K => decide (PySem.W.typeIn K (.ref 179) = some (.type "type"))
abbrev fk233 : Hk.Fr → Bool := fun K => PySem.W.hasDictIn K 179
abbrev fk234 : Hk.Fr → Bool := fun K => decide (PySem.W.subIn K (.ref 179) (.ref 179) = some true)
abbrev fk235 : Hk.Fr → Bool := fun K => decide (PySem.W.nsIn K mainGlobals "len" = some none)
abbrev fk236 : Hk.Fr → Bool := fun K => decide (PySem.W.nsIn K mainGlobals "int" = some none)
abbrev fk237 : Hk.Fr → Bool := fun K => decide (PySem.W.nsIn K mainGlobals "range" = some none)
abbrev fk238 : Hk.Fr → Bool := fun K => decide (PySem.W.nsIn K mainGlobals "list" = some none)
abbrev fk239 : Hk.Fr → Bool := fun K => decide (PySem.W.nsIn K mainGlobals "tuple" = some none)
abbrev fk240 : Hk.Fr → Bool := fun K => decide (PySem.W.nsIn K mainGlobals "enumerate" = some none)
abbrev fk241 : Hk.Fr → Bool := fun K => decide (PySem.W.nsIn K mainGlobals "zip" = some none)
abbrev fk242 : Hk.Fr → Bool := fun K => decide (PySem.W.nsIn K mainGlobals "sum" = some none)
abbrev fk243 : Hk.Fr → Bool := fun K => decide (PySem.W.nsIn K mainGlobals "str" = some none)
abbrev fk244 : Hk.Fr → Bool := fun K => decide (PySem.W.nsIn K mainGlobals "all" = some none)
abbrev fk245 : Hk.Fr → Bool := fun K => PySem.W.plainGet K 309 Str.empty
abbrev fk246 : Hk.Fr → Bool := fun K => PySem.W.hasDictIn K 309
abbrev fk247 : Hk.Fr → Bool := fun K => PySem.W.plainOver K 309
abbrev fk248 : Hk.Fr → Bool := fun K => decide (PySem.W.findIn K (.ref 309) "__setattr__" = some (some (.builtin "object.__setattr__")))
abbrev fk249 : Hk.Fr → Bool := fun K => decide (PySem.W.findIn K (.ref 309) "_rows" = some none)
abbrev fk250 : Hk.Fr → Bool := fun K => decide (PySem.W.findIn K (.ref 309) "_links" = some none)
abbrev fk251 : Hk.Fr → Bool := fun K => decide (PySem.W.findIn K (.ref 309) "_spots" = some none)
abbrev fk252 : Hk.Fr → Bool := fun K => decide (PySem.W.findIn K (.ref 309) "_places" = some none)
abbrev fk253 : Hk.Fr → Bool := fun K => decide (PySem.W.findIn K (.ref 309) "_tops" = some none)
abbrev fk254 : Hk.Fr → Bool := fun K => decide (PySem.W.findIn K (.ref 309) "size" = some none)
abbrev fk255 : Hk.Fr → Bool := fun K => decide (PySem.W.findIn K (.ref 309) "_told" = some none)
abbrev fk256 : Hk.Fr → Bool := fun K => decide (PySem.W.findIn K (.ref 309) "_limits" = some none)
abbrev fk257 : Hk.Fr → Bool := fun K => PySem.W.makesIn K 309
abbrev fk258 : Hk.Fr → Bool := fun K => PySem.W.keepIn K (.ref 309)
abbrev fk259 : Hk.Fr → Bool := fun K => Hk.strB "LETTERS" "abcdefghijklmnopqrstuvwxyz" K
abbrev fk260 : Hk.Fr → Bool := fun K => Hk.intB "LONGEST_NAME" 12 K
abbrev fk261 : Hk.Fr → Bool := fun K => Hk.intB "MOST_PLACES" 24 K
abbrev fk262 : Hk.Fr → Bool := fun K => Hk.intB "GROUND" (-1) K
abbrev fk263 : Hk.Fr → Bool := fun K => decide (PySem.W.subIn K (.ref 74) (.ref 179) = some false)
abbrev fk264 : Hk.Fr → Bool := fun K => decide (PySem.W.subIn K (.ref 95) (.ref 179) = some false)
abbrev fk265 : Hk.Fr → Bool := fun K => decide (PySem.W.subIn K (.ref 53) (.ref 179) = some false)
abbrev fk266 : Hk.Fr → Bool := fun K => decide (PySem.W.subIn K (.ref 137) (.ref 179) = some false)
abbrev fk267 : Hk.Fr → Bool := fun K => decide (PySem.W.subIn K (.ref 116) (.ref 179) = some false)
abbrev fk268 : Hk.Fr → Bool := fun K => decide (PySem.W.subIn K (.ref 158) (.ref 179) = some false)
abbrev fk269 : Hk.Fr → Bool := fun K => decide (PySem.W.subIn K (.ref 74) (.ref 31) = some true)
abbrev fk270 : Hk.Fr → Bool := fun K => decide (PySem.W.subIn K (.ref 95) (.ref 31) = some true)
abbrev fk271 : Hk.Fr → Bool := fun K => decide (PySem.W.subIn K (.ref 53) (.ref 31) = some true)
abbrev fk272 : Hk.Fr → Bool := fun K => decide (PySem.W.subIn K (.ref 137) (.ref 31) = some true)
abbrev fk273 : Hk.Fr → Bool := fun K => decide (PySem.W.subIn K (.ref 116) (.ref 31) = some true)
abbrev fk274 : Hk.Fr → Bool := fun K => decide (PySem.W.subIn K (.ref 158) (.ref 31) = some true)
abbrev fk275 : Hk.Fr → Bool := fun K => decide (PySem.W.subIn K (.ref 31) (.type "BaseException") = some true)
abbrev fk276 : Hk.Fr → Bool := fun K => decide (PySem.W.typeIn K (.ref 31) = some (.type "type"))
abbrev fk277 : Hk.Fr → Bool := fun K => PySem.W.hasDictIn K 31
abbrev fk278 : Hk.Fr → Bool := fun K => PySem.W.plainGet K 456 Str.empty
abbrev fk279 : Hk.Fr → Bool := fun K => PySem.W.hasDictIn K 456
abbrev fk280 : Hk.Fr → Bool := fun K => PySem.W.plainOver K 456
abbrev fk281 : Hk.Fr → Bool := fun K => decide (PySem.W.findIn K (.ref 456) "__setattr__" = some (some (.builtin "object.__setattr__")))
abbrev fk282 : Hk.Fr → Bool := fun K => PySem.W.makesIn K 456
abbrev fk283 : Hk.Fr → Bool := fun K => PySem.W.keepIn K (.ref 456)
abbrev fk284 : Hk.Fr → Bool := fun K => decide (PySem.W.findIn K (.ref 456) "place" = some none)
abbrev fk285 : Hk.Fr → Bool := fun K => decide (PySem.W.findIn K (.ref 456) "height" = some none)
abbrev fk286 : Hk.Fr → Bool := fun K => decide (PySem.W.findIn K (.ref 456) "reached" = some none)
abbrev fk287 : Hk.Fr → Bool := fun K => Hk.tup2SB 461 "reached" "missed" K
abbrev fk288 : Hk.Fr → Bool := fun K => Hk.strB "DIGITS" "0123456789" K
abbrev fk289 : Hk.Fr → Bool := fun K => Hk.intB "MOST_DIGITS" 40 K
def asH0 : List Addr := [2,
  3,
  31,
  53,
  74,
  95,
  116,
  137,
  158,
  179,
  188,
  195,
  309,
  320,
  327,
  334,
  339,
  344,
  351,
  358,
  365,
  372,
  377,
  384,
  389,
  396,
  401,
  456,
  461,
  466,
  473,
  478,
  483,
  488,
  495,
  500,
  505,
  512,
  517,
  522]
def asH1 : List Addr := [529,
  536,
  543,
  550,
  557,
  564,
  571,
  30,
  52,
  73,
  94,
  115,
  136,
  157,
  178,
  187,
  194,
  308,
  319,
  326,
  333,
  338,
  343,
  350,
  357,
  364,
  371,
  376,
  383,
  388,
  395,
  400,
  455,
  465,
  472,
  477,
  482,
  487,
  494,
  499]
def asH2 : List Addr := [504,
  511,
  516,
  521,
  528,
  535,
  542,
  549,
  556,
  563,
  570,
  50,
  71,
  92,
  113,
  134,
  155,
  176,
  209,
  415,
  49,
  38,
  70,
  59,
  91,
  80,
  112,
  101,
  133,
  122,
  154,
  143,
  175,
  164,
  208,
  204,
  414]
def asH : List Addr := asH0 ++ asH1 ++ asH2
def fx0 : List (Hk.Fr → Bool) := [fk0,
  fk1,
  fk2,
  fk3,
  fk4,
  fk5,
  fk6,
  fk7,
  fk8,
  fk9,
  fk10,
  fk11,
  fk12,
  fk13,
  fk14,
  fk15,
  fk16,
  fk17,
  fk18,
  fk19,
  fk20,
  fk21,
  fk22,
  fk23,
  fk24,
  fk25,
  fk26,
  fk27,
  fk28,
  fk29,
  fk30,
  fk31,
  fk32,
  fk33,
  fk34,
  fk35,
  fk36,
  fk37,
  fk38,
  fk39]
def fx1 : List (Hk.Fr → Bool) := [fk40,
  fk41,
  fk42,
  fk43,
  fk44,
  fk45,
  fk46,
  fk47,
  fk48,
  fk49,
  fk50,
  fk51,
  fk52,
  fk53,
  fk54,
  fk55,
  fk56,
  fk57,
  fk58,
  fk59,
  fk60,
  fk61,
  fk62,
  fk63,
  fk64,
  fk65,
  fk66,
  fk67,
  fk68,
  fk69,
  fk70,
  fk71,
  fk72,
  fk73,
  fk74,
  fk75,
  fk76,
  fk77,
  fk78,
  fk79]
def fx2 : List (Hk.Fr → Bool) := [fk80,
  fk81,
  fk82,
  fk83,
  fk84,
  fk85,
  fk86,
  fk87,
  fk88,
  fk89,
  fk90,
  fk91,
  fk92,
  fk93,
  fk94,
  fk95,
  fk96,
  fk97,
  fk98,
  fk99,
  fk100,
  fk101,
  fk102,
  fk103,
  fk104,
  fk105,
  fk106,
  fk107,
  fk108,
  fk109,
  fk110,
  fk111,
  fk112,
  fk113,
  fk114,
  fk115,
  fk116,
  fk117,
  fk118,
  fk119]
def fx3 : List (Hk.Fr → Bool) := [fk120,
  fk121,
  fk122,
  fk123,
  fk124,
  fk125,
  fk126,
  fk127,
  fk128,
  fk129,
  fk130,
  fk131,
  fk132,
  fk133,
  fk134,
  fk135,
  fk136,
  fk137,
  fk138,
  fk139,
  fk140,
  fk141,
  fk142,
  fk143,
  fk144,
  fk145,
  fk146,
  fk147,
  fk148,
  fk149,
  fk150,
  fk151,
  fk152,
  fk153,
  fk154,
  fk155,
  fk156,
  fk157,
  fk158,
  fk159]
def fx4 : List (Hk.Fr → Bool) := [fk160,
  fk161,
  fk162,
  fk163,
  fk164,
  fk165,
  fk166,
  fk167,
  fk168,
  fk169,
  fk170,
  fk171,
  fk172,
  fk173,
  fk174,
  fk175,
  fk176,
  fk177,
  fk178,
  fk179,
  fk180,
  fk181,
  fk182,
  fk183,
  fk184,
  fk185,
  fk186,
  fk187,
  fk188,
  fk189,
  fk190,
  fk191,
  fk192,
  fk193,
  fk194,
  fk195,
  fk196,
  fk197,
  fk198,
  fk199]
def fx5 : List (Hk.Fr → Bool) := [fk200,
  fk201,
  fk202,
  fk203,
  fk204,
  fk205,
  fk206,
  fk207,
  fk208,
  fk209,
  fk210,
  fk211,
  fk212,
  fk213,
  fk214,
  fk215,
  fk216,
  fk217,
  fk218,
  fk219,
  fk220,
  fk221,
  fk222,
  fk223,
  fk224,
  fk225,
  fk226,
  fk227,
  fk228,
  fk229,
  fk230,
  fk231,
  fk232,
  fk233,
  fk234,
  fk235,
  fk236,
  fk237,
  fk238,
  fk239]
def fx6 : List (Hk.Fr → Bool) := [fk240,
  fk241,
  fk242,
  fk243,
  fk244,
  fk245,
  fk246,
  fk247,
  fk248,
  fk249,
  fk250,
  fk251,
  fk252,
  fk253,
  fk254,
  fk255,
  fk256,
  fk257,
  fk258,
  fk259,
  fk260,
  fk261,
  fk262,
  fk263,
  fk264,
  fk265,
  fk266,
  fk267,
  fk268,
  fk269,
  fk270,
  fk271,
  fk272,
  fk273,
  fk274,
  fk275,
  fk276,
  fk277,
  fk278,
  fk279]
def fx7 : List (Hk.Fr → Bool) := [fk280,
  fk281,
  fk282,
  fk283,
  fk284,
  fk285,
  fk286,
  fk287,
  fk288,
  fk289]
def fx : List (Hk.Fr → Bool) := fx0 ++ fx1 ++ fx2 ++ fx3 ++ fx4 ++ fx5 ++ fx6 ++ fx7
def fn0 : List Hk.Df := [⟨188, "check_name", "check_name", (tp 13), []⟩,
  ⟨195, "check_not_negative", "check_not_negative", (tp 14), []⟩,
  ⟨320, "_check_rows", "_check_rows", (tp 19), []⟩,
  ⟨327, "_check_numbers", "_check_numbers", (tp 20), []⟩,
  ⟨334, "_check_links", "_check_links", (tp 21), []⟩,
  ⟨339, "_spots_of", "_spots_of", (tp 22), []⟩,
  ⟨344, "_tops_of", "_tops_of", (tp 23), []⟩,
  ⟨351, "_told_limits", "_told_limits", (tp 24), []⟩,
  ⟨358, "_ground_limits", "_ground_limits", (tp 25), []⟩,
  ⟨365, "_slope_limits", "_slope_limits", (tp 26), []⟩,
  ⟨372, "_link_limits", "_link_limits", (tp 27), []⟩,
  ⟨377, "_find_ring", "_find_ring", (tp 28), []⟩,
  ⟨384, "_ring_behind", "_ring_behind", (tp 29), []⟩,
  ⟨389, "_least_sums", "_least_sums", (tp 30), []⟩,
  ⟨396, "_first_sum", "_first_sum", (tp 31), []⟩,
  ⟨401, "_sums_by", "_sums_by", (tp 32), []⟩,
  ⟨209, "__init__", "Site.__init__", (inClass (tp 18) 0), []⟩,
  ⟨415, "__init__", "Trial.__init__", (inClass (tp 34) 0), []⟩,
  ⟨466, "read_site", "read_site", (tp 39), []⟩,
  ⟨478, "_numbered_lines", "_numbered_lines", (tp 41), []⟩,
  ⟨483, "_is_wall_line", "_is_wall_line", (tp 42), []⟩,
  ⟨488, "_is_link_line", "_is_link_line", (tp 43), []⟩,
  ⟨500, "_is_number", "_is_number", (tp 45), []⟩,
  ⟨473, "read_trials", "read_trials", (tp 40), []⟩,
  ⟨495, "_is_trial_line", "_is_trial_line", (tp 44), []⟩,
  ⟨505, "_law_box", "_law_box", (tp 47), []⟩,
  ⟨512, "_law_take", "_law_take", (tp 48), []⟩,
  ⟨517, "_law_is_number", "_law_is_number", (tp 49), []⟩,
  ⟨522, "_law_site_line", "_law_site_line", (tp 50), []⟩,
  ⟨529, "_law_trial_line", "_law_trial_line", (tp 51), []⟩,
  ⟨536, "_law_number_word", "_law_number_word", (tp 52), []⟩,
  ⟨543, "_law_good_lines", "_law_good_lines", (tp 53), []⟩,
  ⟨550, "_law_bent", "_law_bent", (tp 54), []⟩,
  ⟨557, "_law_first_bad", "_law_first_bad", (tp 55), []⟩,
  ⟨564, "_law_outcome", "_law_outcome", (tp 56), []⟩,
  ⟨571, "law", "law", (tp 57), []⟩,
  ⟨50, "__init__", "BadNumber.__init__", (inClass (tp 3) 0), ["__class__"]⟩,
  ⟨71, "__init__", "BadName.__init__", (inClass (tp 4) 0), ["__class__"]⟩,
  ⟨92, "__init__", "TakenName.__init__", (inClass (tp 5) 0), ["__class__"]⟩,
  ⟨113, "__init__", "NoPlace.__init__", (inClass (tp 6) 0), ["__class__"]⟩]
def fn1 : List Hk.Df := [⟨134, "__init__", "TooMany.__init__", (inClass (tp 7) 0), ["__class__"]⟩,
  ⟨155, "__init__", "NoSite.__init__", (inClass (tp 8) 0), ["__class__"]⟩,
  ⟨176, "__init__", "BadLine.__init__", (inClass (tp 9) 0), ["__class__"]⟩]
def fn : List Hk.Df := fn0 ++ fn1
def nmsH0 : List Str := ["_wall",
  "LadderError",
  "BadNumber",
  "BadName",
  "TakenName",
  "NoPlace",
  "TooMany",
  "NoSite",
  "BadLine",
  "LETTERS",
  "LONGEST_NAME",
  "check_name",
  "check_not_negative",
  "GROUND",
  "MOST_PLACES",
  "Site",
  "_check_rows",
  "_check_numbers",
  "_check_links",
  "_spots_of",
  "_tops_of",
  "_told_limits",
  "_ground_limits",
  "_slope_limits",
  "_link_limits",
  "_find_ring",
  "_ring_behind",
  "_least_sums",
  "_first_sum",
  "_sums_by"]
def nmsH1 : List Str := ["Trial",
  "DIGITS",
  "MOST_DIGITS",
  "RESULTS",
  "read_site",
  "read_trials",
  "_numbered_lines",
  "_is_wall_line",
  "_is_link_line",
  "_is_trial_line",
  "_is_number",
  "_law_box",
  "_law_take",
  "_law_is_number",
  "_law_site_line",
  "_law_trial_line",
  "_law_number_word",
  "_law_good_lines",
  "_law_bent",
  "_law_first_bad",
  "_law_outcome"]
def nmsH : List Str := nmsH0 ++ nmsH1
end HkE
namespace HkRun
open PySem PySem.W PySem.Calls PyProof.Rows
abbrev R : OpenRow := OpenLaw.row PySem.Challenge.rw_rungbounds_k60_whole_lines_refused
abbrev qv : Program := view R.prog [57]
abbrev hk : Hook := Hk.hookK HkE.asH HkE.fx HkE.fn
def ob (s : SharedT) : Hk.Ob := Hk.obK HkE.asH HkE.fx HkE.fn (HandSHeadRun.getT s)
theorem ob_eq (s : SharedT) : ob s = hk.obs s.abs := Hk.obK_eq (HandSHeadRun.getT_eq s)
set_option maxHeartbeats 0 in
theorem run (w : World) : HandSHeadRun.RunEq R qv hk ob 9000 HkE.nmsH w := by
  intro os
  kernel_rfl
end HkRun

/-! Errors whose making calls super().__init__ on a text, then keeps a field. -/
namespace Sup
open PySem PySem.Spec PyProof.Rows L2 NdefX

abbrev mwrap (x : Addr) : Obj := PySem.W.kxs_mw "ValueError.__init__" x

/-- the wrapper of ValueError.__init__ bound to a, called -/
theorem call_wrap {prog : Program} {w : World} {A : Around} {E : Value → Shared → Prop} {h : Heap} {g : Array GenState} {d : Drawn} {t : Nat} {os : OsState}
    {nm q : Str} {C N : Addr} {bs bm : List Value} {hd : Bool} {sn : List Str} {sub : List Value} {ab : Bool} {col : Option Bool} {dd : Option Addr} {k0 k1 k2 k3 k5 : Option Value}
    {u a t0 : Addr} {us : List Value} {Q : Value → Shared → Prop}
    (hC : h.get? C = some (excClassObj nm q C N bs bm hd sn sub ab col dd k0 k1 k2 k3 k5 "ValueError.__new__"))
    (ha : h.get? a = some (PySem.HandSPX.excO C t0)) (hu : h.get? u = some (mwrap a)) (hl : us.length ≤ sizeLine)
    (hq : ∀ h' t1, (∀ b o, b ≠ a → h.get? b = some o → h'.get? b = some o) → h'.get? a = some (PySem.HandSPX.excO C t1) → Q .none ⟨h', g, d, t, os⟩) :
    wpAny (model prog w) A (call (.ref u) us) Q E ⟨h, g, d, t, os⟩ := by
  have FB := F.excBase_ValueError
  refine wpAny_call (codeAny_of_tree ?_)
  show wpAny _ A.in1 (callAny (.ref u) ⟨us, []⟩) _ _ _
  unfold callAny
  refine wpAny_bind (wpAny_load hu ?_)
  have k1' : (Value.type "method-wrapper" == Value.type "method" || Value.type "method-wrapper" == Value.type "builtin_function_or_method" || Value.type "method-wrapper" == Value.type "method-wrapper") = true := by decide
  simp only [mwrap, PySem.W.kxs_mw, k1', if_true]
  refine PySem.W.KFB.if_so (by decide) ?_
  refine wpAny_bind (PySem.W.check_bound_init FB.toExcCallFacts hC ha rfl ?_)
  refine wpAny_bind (wpAny_pure (wpAny_pure ?_))
  refine ⟨plainId_quiet FB.init.plain _, codeAny_builtin FB.initEntry ?_⟩
  exact PySem.W.exc_init_tree (cls := .ref C) (t0 := t0) (dv := none) (c2 := .none) (c3 := .none) (b4 := .bool false) ha hl fun h' k e _ => hq h' _ k e

/-- what the written part says of an own error's class at C and its __init__ at f -/
structure ErrTxt (P : Program) (K : PySem.W.Frag) (mg : Str → Option Value) (C f cda cc : Addr) (qual : Str) (st : Stmt) : Prop where
  oex : OexC K C
  iC : PySem.W.findIn K (.ref C) "__init__" = some (some (.ref f))
  tI : PySem.W.typeIn K (.ref f) = some (.type "function")
  fn : ∃ (oc : Value) (od an : Option Addr) (kV doc pm ct : Value) (osl : Array (Option Value)),
    K.lookup f = some ⟨oc, od, .func (PySem.W.fnX "__init__" qual (defArgs st) (defBody st) (defScope st) [("__class__", cc)] .none kV doc pm an (.ref cda) ct), osl⟩
  code : PySem.W.codeIn K (.ref cda) qual = true
  file : ∃ (o : Obj) (vs : Array Value) (fl : Str) (tf : Tok), K.lookup cda = some o ∧ o.data = .fields vs ∧ vs[2]? = some (.str fl tf) ∧ ((P.main.file : Str) == fl) = true
  cell : ∃ (o : Obj), K.lookup cc = some o ∧ o.data = .cell (some (.ref C))
  self : PySem.W.mroIn K C (.ref C) = some true
  opaque_ : PySem.W.nsIn K cStatics "thirdparty.any" = some none
  up : PySem.W.ks_superIn K C C "__init__" = some (some (.builtin "ValueError.__init__"))
  isVE : PySem.W.subIn K (.ref C) (.type "ValueError") = some true
  top : (P.main.scope.names.lookup ("super" : Str)).isSome = false
  noSup : mg "super" = none

section
variable {X : Cx} {pins : List (Addr × Obj)} {σ : L2.St} {H : Hp} {s : Shared} {a C f cda cc : Addr} {qual : Str} {st : Stmt} {e : Expr} {te : TE} {body : List Stmt} {p0 p1 p2 p3 : Pos} {Q : Hp → Prop} {scope : Scope} {ar : Arg}
theorem super_init (T : ErrTxt X.prog X.K X.mg C f cda cc qual st) (I : Inv X pins σ H s)
    (henv : X.env = PySem.W.envX qual scope X.env.locals f (.ref cda) [("__class__", cc)])
    (hks : scope.names.lookup ("super" : Str) = some .globalImplicit) (hkc : scope.names.lookup ("__class__" : Str) = some .free)
    (hks' : scope.names.lookup ar.arg = some .local)
    (har : ((defArgs st).posonlyargs ++ (defArgs st).args).head? = some ar)
    (h0 : X.N[0]? = some ar.arg) (hs0 : σ[0]? = some (some (V.ref a))) (ha : H a = some (exo a C none))
    (he : PE X e te) (hq : te σ H fun x H1 => [x].length ≤ 1 ∧ H1 a = some (exo a C none) ∧ Q H1) {pl : Sem Bool}
    (hform : eval (.Call (.Attribute (.Call (.Name "super" p0) [] [] p1) "__init__" p2) [e] [] p3) X.env = (do
      let ov ← attributeBase (.Call (.Name "super" p0) [] [] p1) "__init__" X.env (eval (.Call (.Name "super" p0) [] [] p1) X.env)
      standAt p2.atName
      let (g, first) ← holding [ov] (getMethod ov "__init__" pl)
      callWith p3 g first (backTo p3 (starEach [e] X.env)) []) := by rfl)
    (hse : starEach [e] X.env = (false, eval e X.env) :: starEach [] X.env := by rfl) :
    _root_.PySem.wpAt (model X.prog X.w) X.A (.func body X.env) (eval (.Call (.Attribute (.Call (.Name "super" p0) [] [] p1) "__init__" p2) [e] [] p3) X.env)
      (fun _ s' => ∃ H', Inv X pins σ H' s' ∧ Q H') X.xe s := by
  have kS : X.env.kindOf "super" = some .globalImplicit := by rw [henv]; exact hks
  have kC : X.env.kindOf "__class__" = some .free := by rw [henv]; exact hkc
  have kA : X.env.kindOf ar.arg = some .local := by rw [henv]; exact hks'
  have cL : X.env.cells.lookup ("__class__" : Str) = some cc := by rw [henv]; rfl
  have fL : X.env.func = some f := by rw [henv]
  have dL : X.env.code = .ref cda := by rw [henv]
  obtain ⟨nm, q, N, bs, bm, sn, sub, ab, col, dd, k0, k1, k2, k3, k5, hC, hbm⟩ := T.oex.cls
  have hcl : PySem.W.clsIn X.K C = some { name := nm, bases := bs, mro := .ref C :: bm, ns := N, qualname := q, hasDict := true, slotNames := sn, subclasses := sub, abstract := ab, collection := col, hasDel := false } := by
    unfold PySem.W.clsIn; rw [hC] <;> rfl
  obtain ⟨oc, od, an, kV, doc, pm, ct, osl, lf⟩ := T.fn
  obtain ⟨oF, vs, fl, tf, lc, hvf, hv2, hfl⟩ := T.file
  obtain ⟨oc2, lcell, dcell⟩ := T.cell
  obtain ⟨t1, hga⟩ := exo_at I.hok ha
  refine ks_wpAt_MethodCall (o := .Call (.Name "super" p0) [] [] p1) (name := "__init__") (apos := p2) (pos := p3) (args := [e]) (env := X.env) ?_ hform
  refine ks_wpAt_super_base (env := X.env) (cc := cda) (ar := ar) kS kC (by decide) fL (I.kIn _ _ lf) rfl har dL (I.kIn _ _ lc) hvf hv2 hfl T.top ?_
  -- the name super
  obtain ⟨mb, hb1, hb2⟩ := I.mod.blt
  refine PySem.W.ks_loadName_global I.ok.kind kS (Calls.loadGlobal_builtin (v := .type "super") (by rw [I.ok.glob]; exact I.mod.glob.keeps I.bk) T.noSup
    (by rw [I.ok.blt]; exact hb1.keeps I.bk) ((hb2 _ (by decide)).trans (by decide +kernel)) ⟨rfl, ?_⟩)
  -- the cell __class__
  refine wpAny_loadName_free I.ok.kind kC cL (v := .ref C) ⟨_, I.kIn _ _ lcell, dcell⟩ ?_
  -- self
  obtain ⟨m, hn, hlm⟩ := I.loc
  obtain ⟨u, ru, hlook⟩ := hlm 0 ar.arg (V.ref a) h0 hs0 (.inl (by rw [henv]; exact hks'))
  obtain rfl : u = Value.ref a := ru
  have hma : m ar.arg = some (Value.ref a) := by
    rcases hlook with ⟨_, z⟩ | ⟨z, _⟩
    · exact z
    · rw [kA] at z
      rcases z with z | z <;> cases z
  refine wpAny_loadName_local I.ok.kind kA hn hma ?_
  have gC := I.kIn _ _ hC
  refine ks_wpAny_isType_cls gC rfl ⟨rfl, ?_⟩
  obtain ⟨hp, g, d, t, os⟩ := s
  refine ks_wpAny_call_super gC rfl hga rfl (fun c z => by cases z) (PySem.W.looks_mroIn I.kIn T.self) fun h1 e1 k1 => ?_
  have J1 : Inv X pins σ H ⟨h1, g, d, t, os⟩ := I.kept (t' := t) k1
  have I1 : PySem.W.InstAt h1 a (PySem.HandSPX.excO C t1) C none := ⟨k1 _ _ hga, rfl, rfl, trivial⟩
  have hup := T.up
  unfold PySem.W.ks_superIn at hup
  rw [hcl] at hup
  refine PySem.W.kxs_getMethod PySem.W.kxs_ValueError e1 (PySem.W.looks_opaque J1.kIn T.opaque_)
    (fun A' Q' E' s' k q => wpAny_bind ((PySem.W.looks_clsIn J1.kIn hcl) A' _ E' s' k (wpAny_pure q))) rfl J1.kIn hup
    (I1.type.andThen (PySem.W.looks_subIn J1.kIn T.isVE)) (PySem.W.ks_ne J1.kIn I1 hcl) (by decide) ?_
  have gu : (h1.push (mwrap a)).get? h1.objs.size = some (mwrap a) := Heap.get?_push_at rfl rfl
  have J2 : Inv X pins σ H ⟨h1.push (mwrap a), g, d, t + 1, os⟩ := J1.kept (t' := t + 1) fun b o z => Heap.get?_push_of_some _ z
  have J3 : Inv X ((h1.objs.size, mwrap a) :: pins) σ H ⟨h1.push (mwrap a), g, d, t + 1, os⟩ := J2.pins_of fun p hp => by
    rcases List.mem_cons.mp hp with rfl | hp
    · refine ⟨gu, J1.hok.fresh (Nat.le_refl _), fun z => ?_, J1.nofs (Nat.le_refl _), fun v z => by cases z⟩
      have z' : h1.objs.size = X.env.locals := z
      have y := J1.lt
      rw [← z'] at y
      exact absurd y (Nat.lt_irrefl _)
    · exact J2.pin p (List.mem_append_right _ hp)
  show wpAny _ _ (callWith p3 (.ref h1.objs.size) [] (backTo p3 (starEach [e] X.env)) []) _ _ _
  have hq' : tCons te tNil σ H fun xs H1 => xs.length ≤ 1 ∧ H1 a = some (exo a C none) ∧ Q H1 := hq
  rw [hse]
  refine PySem.W.kxs_callWith (i := "ValueError.__init__") (x := a) (by rfl) ?_
  refine Calls.evalArgs_plain ?_
  have pr := (pa_cons he pa_nil hse).run p3 _ _ σ H _ J3 hq'
  rw [hse] at pr
  refine thn pr fun us s2 hh => ?_
  obtain ⟨xs, H2, I2, r2, hx1, ha2, hQ2⟩ := hh
  have gw := (I2.pin (h1.objs.size, mwrap a) (List.mem_append_right _ List.mem_cons_self)).1
  refine ⟨gw, ?_⟩
  obtain ⟨t2, hga2⟩ := exo_at I2.hok ha2
  obtain ⟨hp2, g2, d2, tk2, os2⟩ := s2
  have hul : us.length ≤ sizeLine := by
    rw [← r2.length, sizeLine_eq]
    omega
  refine call_wrap (us := us) (I2.kIn _ _ hC) hga2 gw hul fun h3 t3 k3' e3 => ?_
  have J4 := I2.write (t' := tk2) (x := a) (e := a) (o := exo a C none) (by rw [ha2]; exact True.intro) (.inl rfl) k3' ⟨_, e3⟩ (exo_ok e3)
  have eu : upd H2 a (exo a C none) = H2 := by
    funext b
    by_cases hb : b = a
    · rw [hb, upd_same, ha2]
    · exact upd_ne hb
  rw [eu] at J4
  exact ⟨H2, J4.pins_of fun p hp => J4.pin p (List.mem_append_right _ (List.mem_cons_of_mem _ hp)), hQ2⟩
end

/-! ### the making of an own error, as a promise -/
/-- at a an exception of the class at C is being made; the argument v goes to the field fl -/
def spErr (C : Addr) (fl : Str) (ok : V → Prop) : Sp := fun vs H Q _ => ∃ (a : Addr) (v : V), vs = [.ref a, v] ∧ H a = some (exo a C none) ∧ ok v ∧
  ∀ dx, H dx = none → dx ≠ a → Q .non (upd (upd H dx (exd dx [(fl, v)])) a (exo a C (some dx)))

def okInt : V → Prop := fun v => ∃ i : Int, v = .int i ∧ i.natAbs.log2 < 1920
def okTxt : V → Prop := fun v => ∃ y : Str, v = .str y ∧ (reprText y).length ≤ 10000

section
variable {P : Program} {w : World} {K : PySem.W.Frag} {mg : Str → Option Value} {base : Heap} {C f cda cc : Addr} {qual pn : Str} {st : Stmt} {N : List Str}

abbrev supNF (qual : Str) (st : Stmt) (cda cc : Addr) : NF := ⟨"__init__", qual, defArgs st, defBody st, defScope st, [("__class__", cc)], cda⟩

/-- a def that closes over __class__ alone, entered: its body runs in the frame of NdefX -/
theorem sup_fn {CX : CXT} {sp : Sp} {k : Nat} {ps : List Str} (T : ErrTxt P K mg C f cda cc qual st) (S : NScope N ps ["__class__"] (defScope st))
    (len : ∀ vs H Q E, sp vs H Q E → vs.length = ps.length)
    (hb : ∀ (oc : Value) (od an : Option Addr) (kV doc pm ct : Value) (us : List Value), us.length = ps.length →
      bindArgs (PySem.W.fnX "__init__" qual (defArgs st) (defBody st) (defScope st) [("__class__", cc)] .none kV doc pm an (.ref cda) ct) ⟨us, []⟩ = pure (ps.zip us))
    (hbody : ∀ (A : Around) (outer : List Env) (s : Shared) (H : Hp) (vs : List V) (Q : VK) (E : XK), sp vs H Q E → Room k (ncx CX P w K mg base N (supNF qual st cda cc) f A outer s H E).A →
      ∀ s1, L2.Inv (ncx CX P w K mg base N (supNF qual st cda cc) f A outer s H E) [] (startF N vs [none]) H s1 →
        _root_.PySem.wpAt (model P w) (ncx CX P w K mg base N (supNF qual st cda cc) f A outer s H E).A (.func (defBody st) (ncx CX P w K mg base N (supNF qual st cda cc) f A outer s H E).env)
          (execs (defBody st) (ncx CX P w K mg base N (supNF qual st cda cc) f A outer s H E).env)
          (SP (ncx CX P w K mg base N (supNF qual st cda cc) f A outer s H E) [] { nx := fun _ H' => Q .non H', rt := Q })
          (ncx CX P w K mg base N (supNF qual st cda cc) f A outer s H E).xe s1) :
    ∃ fd, FnOk P w K mg base CX (k + 1) f fd ps sp ∧ Binds K fd ps [] := by
  obtain ⟨oc, od, an, kV, doc, pm, ct, osl, lf⟩ := T.fn
  obtain ⟨oc2, lcell, dcell⟩ := T.cell
  refine ⟨_, ⟨len, fun A outer s H args us vs Q E hr e0 hbd r hsp => ?_⟩, Binds.all (hb oc od an kV doc pm ct)⟩
  have hl := len _ _ _ _ hsp
  have KX : K.In s.heap := e0.mod.kin.keeps fun b o e => (e0.bs b o e).1
  have lim : s.heap.NoLimit := e0.mod.nolimit.keeps fun b o e => (e0.bs b o e).1
  have hH : H cc = none := (e0.bs cc oc2 (e0.mod.kin _ _ lcell)).2
  have CA : CellsAt [("__class__", cc)] ["__class__"] [none] s.heap H := {
    len := rfl
    all := fun y c h => by
      have h' : (if y = ("__class__" : Str) then some cc else none) = some c := by
        by_cases e : y = ("__class__" : Str)
        · subst e; exact h
        · have q : (y == ("__class__" : Str)) = false := by simpa using e
          have z : List.lookup y [(("__class__" : Str), cc)] = none := by simp [List.lookup, q]
          rw [z] at h; cases h
      split at h'
      · cases h'
        exact ⟨hH, some (.ref C), oc2, KX _ _ lcell, dcell⟩
      · cases h'
    inj := fun x y c h1 h2 => by
      have key : ∀ z : Str, List.lookup z [(("__class__" : Str), cc)] = some c → z = "__class__" := fun z hz => by
        by_cases e : z = ("__class__" : Str)
        · exact e
        · have q : (z == ("__class__" : Str)) = false := by simpa using e
          have w : List.lookup z [(("__class__" : Str), cc)] = none := by simp [List.lookup, q]
          rw [w] at hz; cases hz
      exact (key x h1).trans (key y h2).symm
    has := fun i y h => by
      match i, h with
      | 0, h =>
        have e : ("__class__" : Str) = y := Option.some.inj h
        subst e
        exact ⟨cc, by simp [List.lookup], fun v z => by cases z⟩
      | i + 1, h => cases h }
  refine ks_codeAny_call_defAt (binds := ps.zip us) hr.depth (KX _ _ lf) rfl lim (PySem.W.codeRec_of KX T.code) rfl hbd S.nocell (fun ⟨n, _⟩ hy => S.par n (List.of_mem_zip hy).1) (fun h1 hns kp => ?_) S.co S.gen S.kind
  have I : L2.Inv (ncx CX P w K mg base N (supNF qual st cda cc) f A outer s H E) [] (startF N vs [none]) H { s with heap := h1, toks := s.toks + (ps.zip us).length } :=
    inv_startN S hr.hd e0 hl r CA hns kp
  refine _root_.PySem.wpAt_mono (hbody A outer s H vs Q E hsp (hr.deeper _) _ I) (fun fl s' hs => ?_) fun e s' hs => hs
  cases fl with
  | ret u =>
    obtain ⟨v, σ', H', J, rv, q⟩ := hs
    exact ⟨v, H', J.os, J.bare, J.base, J.hok, rv, q⟩
  | next =>
    obtain ⟨σ', H', J, q⟩ := hs
    exact ⟨V.non, H', J.os, J.bare, J.base, J.hok, rfl, q⟩
  | brk =>
    obtain ⟨_, _, _, q⟩ := hs
    exact False.elim q
  | cont =>
    obtain ⟨_, _, _, q⟩ := hs
    exact False.elim q
end

section
variable {P : Program} {w : World} {K : PySem.W.Frag} {mg : Str → Option Value} {base : Heap} {C f cda cc : Addr} {qual pn : Str} {st : Stmt} {N : List Str}

/-- the body: super().__init__(e), then one statement more -/
theorem two_run {X : Cx} {σ : L2.St} {H : Hp} {s : Shared} {a : Addr} {e : Expr} {te : TE} {t2 : TS} {st2 : Stmt} {body : List Stmt} {p0 p1 p2 p3 p4 : Pos} {scope : Scope} {ar : Arg} {D : Ends}
    (T : ErrTxt X.prog X.K X.mg C f cda cc qual st) (I : L2.Inv X [] σ H s)
    (henv : X.env = PySem.W.envX qual scope X.env.locals f (.ref cda) [("__class__", cc)])
    (hks : scope.names.lookup ("super" : Str) = some .globalImplicit) (hkc : scope.names.lookup ("__class__" : Str) = some .free)
    (hka : scope.names.lookup ar.arg = some .local)
    (har : ((defArgs st).posonlyargs ++ (defArgs st).args).head? = some ar)
    (h0 : X.N[0]? = some ar.arg) (hs0 : σ[0]? = some (some (V.ref a))) (ha : H a = some (exo a C none))
    (he : PE X e te) (h2 : PS X st2 t2) (hq : te σ H fun x H1 => [x].length ≤ 1 ∧ H1 a = some (exo a C none) ∧ t2 D σ H1) {pl : Sem Bool}
    (hform : eval (.Call (.Attribute (.Call (.Name "super" p0) [] [] p1) "__init__" p2) [e] [] p3) X.env = (do
      let ov ← attributeBase (.Call (.Name "super" p0) [] [] p1) "__init__" X.env (eval (.Call (.Name "super" p0) [] [] p1) X.env)
      standAt p2.atName
      let (g, first) ← holding [ov] (getMethod ov "__init__" pl)
      callWith p3 g first (backTo p3 (starEach [e] X.env)) []) := by rfl)
    (hse : starEach [e] X.env = (false, eval e X.env) :: starEach [] X.env := by rfl) (hi : interactive X.env = false := by rfl) :
    _root_.PySem.wpAt (model X.prog X.w) X.A (.func body X.env)
      (execs [.Expr (.Call (.Attribute (.Call (.Name "super" p0) [] [] p1) "__init__" p2) [e] [] p3) p4, st2] X.env) (SP X [] D) X.xe s := by
  refine ks_wpAt_execs_cons (ks_wpAt_Expr_any ?_ hi)
  refine _root_.PySem.wpAt_mono (super_init (Q := fun H1 => t2 D σ H1) T I henv hks hkc hka har h0 hs0 ha he hq hform hse) (fun v s' hh => ?_) fun _ _ z => z
  obtain ⟨H1, I1, q⟩ := hh
  exact _root_.PySem.wpAt_of_wpAny ((pss_one h2).run [] s' σ H1 D I1 q)

theorem form_of (env : Env) {p0 p1 p2 p3 q4 : Pos} {ps : List Expr} (hln : (p2.endLine == p3.line) = true) : eval (.Call (.Attribute (.Call (.Name "super" p0) [] [] p1) "__init__" p2) [.JoinedStr ps q4] [] p3) env = (do
      let ov ← attributeBase (.Call (.Name "super" p0) [] [] p1) "__init__" env (eval (.Call (.Name "super" p0) [] [] p1) env)
      standAt p2.atName
      let (g, first) ← holding [ov] (getMethod ov "__init__" (do return (← importBound (.Call (.Name "super" p0) [] [] p1) env).getD true))
      callWith p3 g first (backTo p3 (starEach [.JoinedStr ps q4] env)) []) := by
  have hp : methodCallPos true (.Call (.Name "super" p0) [] [] p1) env p2 p3 = pure p3 := by
    unfold methodCallPos
    rw [hln]
    rfl
  show (do
    let ov ← attributeBase (.Call (.Name "super" p0) [] [] p1) "__init__" env (eval (.Call (.Name "super" p0) [] [] p1) env)
    standAt p2.atName
    let (g, first) ← holding [ov] (getMethod ov "__init__" (do return (← importBound (.Call (.Name "super" p0) [] [] p1) env).getD true))
    let cp ← methodCallPos true (.Call (.Name "super" p0) [] [] p1) env p2 p3
    callWith cp g first (backTo p3 (starEach [.JoinedStr ps q4] env)) []) = _
  rw [hp]
  rfl
theorem lit_small {lit : Str} (hl : lit.length ≤ 1000) : (Str.empty ++ lit).length ≤ 1000 := by
  rw [Str.length_append]
  exact Nat.le_trans (Nat.le_of_eq (Nat.zero_add _)) hl
theorem err_int {lit : Str} {j : Nat} {q1 q2 q3 q4 p0 p1 p2 p3 p4 r1 r2 r3 r4 : Pos} {ar : Arg} (T : ErrTxt P K mg C f cda cc qual st)
    (hbd : defBody st = [.Expr (.Call (.Attribute (.Call (.Name "super" p0) [] [] p1) "__init__" p2) [.JoinedStr [.Constant (.str lit) j q1, .FormattedValue (.Name pn q2) (-1) none q3] q4] [] p3) p4,
      .Assign [.Attribute (.Name "self" r1) pn r2] (.Name pn r3) r4]) (hln : (p2.endLine == p3.line) = true)
    (S : NScope ["self", pn, "__class__"] ["self", pn] ["__class__"] (defScope st))
    (hb : ∀ (oc : Value) (od an : Option Addr) (kV doc pm ct : Value) (us : List Value), us.length = 2 →
      bindArgs (PySem.W.fnX "__init__" qual (defArgs st) (defBody st) (defScope st) [("__class__", cc)] .none kV doc pm an (.ref cda) ct) ⟨us, []⟩ = pure ((["self", pn] : List Str).zip us))
    (hks : (defScope st).names.lookup ("super" : Str) = some .globalImplicit)
    (har : ((defArgs st).posonlyargs ++ (defArgs st).args).head? = some ar) (har2 : ar.arg = "self")
    (hd1 : (pn == ("__debug__" : Str)) = false) (hd2 : (pn == ("__classdict__" : Str)) = false)
    (hlit : lit.length ≤ 1000) (hno : PySem.W.findIn K (.ref C) pn = some none) :
    ∃ fd, FnOk P w K mg base CX0 2 f fd ["self", pn] (spErr C pn okInt) ∧ Binds K fd ["self", pn] [] := by
  refine sup_fn T S (fun vs H Q E h => ?_) hb fun A outer s H vs Q E hsp hroom s1 I => ?_
  · obtain ⟨a, v, rfl, _⟩ := h
    rfl
  · obtain ⟨a, v, rfl, ha, ⟨i, rfl, hi⟩, hQ⟩ := hsp
    have vN : Vis (ncx CX0 P w K mg base ["self", pn, "__class__"] (supNF qual st cda cc) f A outer s H E).env.scope pn := .inl (S.par _ (by simp))
    have vS : Vis (ncx CX0 P w K mg base ["self", pn, "__class__"] (supNF qual st cda cc) f A outer s H E).env.scope "self" := .inl (S.par _ (by simp))
    rw [hbd]
    refine two_run (te := fun σ H Q => tJs [tC (.str lit), tFmt (tVar 1)] Str.empty σ H fun out H1 => Q (.str out) H1) T I rfl hks (S.frk _ (by simp)) (by rw [har2]; exact S.par _ (by simp)) har (by rw [har2]; rfl) rfl ha
      (pe_joined (.cons pe_str (.cons (pe_fmt (pe_var (i := 1) rfl vN hd1 hd2)) .nil)))
      (ps_ost (pe_var (i := 0) rfl vS) (pe_var (i := 1) rfl vN hd1 hd2)) ?_ (form_of _ hln) (by rfl) (by show ((defScope st).kind == _ && _) = false; rw [S.kind]; rfl)
    have e0 := lit_small hlit
    have e1 := int_text_length_le (k := 1920) (by decide) hi
    refine ⟨lit, rfl, by rw [sizeLine_eq]; omega, _, rfl, .inr ⟨i, rfl, hi, Str.ofString (toString i), rfl, ?_, Nat.le_refl _, ha, ?_⟩⟩
    · rw [Str.length_append, PySem.ofString_length, sizeLine_eq]
      omega
    · exact ⟨_, rfl, _, rfl, a, C, rfl, T.oex, hno, .inl ⟨ha, fun dx h1 h2 => hQ dx h1 h2⟩⟩
/-- the same where the argument is a text, shown by its repr -/
theorem err_txt {lit : Str} {j : Nat} {q1 q2 q3 q4 p0 p1 p2 p3 p4 r1 r2 r3 r4 : Pos} {ar : Arg} (T : ErrTxt P K mg C f cda cc qual st)
    (hbd : defBody st = [.Expr (.Call (.Attribute (.Call (.Name "super" p0) [] [] p1) "__init__" p2) [.JoinedStr [.Constant (.str lit) j q1, .FormattedValue (.Name pn q2) 114 none q3] q4] [] p3) p4,
      .Assign [.Attribute (.Name "self" r1) pn r2] (.Name pn r3) r4]) (hln : (p2.endLine == p3.line) = true)
    (S : NScope ["self", pn, "__class__"] ["self", pn] ["__class__"] (defScope st))
    (hb : ∀ (oc : Value) (od an : Option Addr) (kV doc pm ct : Value) (us : List Value), us.length = 2 →
      bindArgs (PySem.W.fnX "__init__" qual (defArgs st) (defBody st) (defScope st) [("__class__", cc)] .none kV doc pm an (.ref cda) ct) ⟨us, []⟩ = pure ((["self", pn] : List Str).zip us))
    (hks : (defScope st).names.lookup ("super" : Str) = some .globalImplicit)
    (har : ((defArgs st).posonlyargs ++ (defArgs st).args).head? = some ar) (har2 : ar.arg = "self")
    (hd1 : (pn == ("__debug__" : Str)) = false) (hd2 : (pn == ("__classdict__" : Str)) = false)
    (hlit : lit.length ≤ 1000) (hno : PySem.W.findIn K (.ref C) pn = some none) :
    ∃ fd, FnOk P w K mg base CX0 2 f fd ["self", pn] (spErr C pn okTxt) ∧ Binds K fd ["self", pn] [] := by
  refine sup_fn T S (fun vs H Q E h => ?_) hb fun A outer s H vs Q E hsp hroom s1 I => ?_
  · obtain ⟨a, v, rfl, _⟩ := h
    rfl
  · obtain ⟨a, v, rfl, ha, ⟨y, rfl, hy⟩, hQ⟩ := hsp
    have vN : Vis (ncx CX0 P w K mg base ["self", pn, "__class__"] (supNF qual st cda cc) f A outer s H E).env.scope pn := .inl (S.par _ (by simp))
    have vS : Vis (ncx CX0 P w K mg base ["self", pn, "__class__"] (supNF qual st cda cc) f A outer s H E).env.scope "self" := .inl (S.par _ (by simp))
    rw [hbd]
    refine two_run (te := fun σ H Q => tJs [tC (.str lit), tFmtR (tVar 1)] Str.empty σ H fun out H1 => Q (.str out) H1) T I rfl hks (S.frk _ (by simp)) (by rw [har2]; exact S.par _ (by simp)) har (by rw [har2]; rfl) rfl ha
      (pe_joined (.cons pe_str (.cons (pe_fmtR (pe_var (i := 1) rfl vN hd1 hd2)) .nil)))
      (ps_ost (pe_var (i := 0) rfl vS) (pe_var (i := 1) rfl vN hd1 hd2)) ?_ (form_of _ hln) (by rfl) (by show ((defScope st).kind == _ && _) = false; rw [S.kind]; rfl)
    have e0 := lit_small hlit
    refine ⟨lit, rfl, by rw [sizeLine_eq]; omega, _, rfl, .inl ⟨y, rfl, by rw [sizeLine_eq]; omega, reprText y, rfl, ?_, Nat.le_refl _, ha, ?_⟩⟩
    · rw [Str.length_append, sizeLine_eq]
      omega
    · exact ⟨_, rfl, _, rfl, a, C, rfl, T.oex, hno, .inl ⟨ha, fun dx h1 h2 => hQ dx h1 h2⟩⟩
end

/-! ### an own error, ready to be raised and caught -/
structure ErrOk (P : Program) (w : World) (K : PySem.W.Frag) (mg : Str → Option Value) (base : Heap) (nm : Str) (C : Addr) (fl : Str) (ok : V → Prop) : Prop where
  oex : OexC K C
  xf : XfC K C
  g : mg nm = some (.ref C)
  no : PySem.W.findIn K (.ref C) fl = some none
  te : PySem.W.exmOne K (.ref C) (.ref C) = some true
  run : ∃ (f : Addr) (fd : FuncData), PySem.W.findIn K (.ref C) "__init__" = some (some (.ref f)) ∧ PySem.W.typeIn K (.ref f) = some (.type "function") ∧
    FnOk P w K mg base CX0 2 f fd ["self", fl] (spErr C fl ok) ∧ Binds K fd ["self", fl] []

section
variable {X : Cx} {nm : Str} {C : Addr} {fl : Str} {ok : V → Prop} {e : Expr} {ta : TA} {p pos pos2 : Pos} {W : WX}
/-- raise nm(e) -/
def tErr (C : Addr) (fl : Str) (ok : V → Prop) (ta : TA) (W : WX) : TS := fun _ σ H => tMkO C (spErr C fl ok) [] ta σ H fun cls d H' => W cls d σ H'
theorem ps_err (R : ErrOk X.prog X.w X.K X.mg X.base nm C fl ok) (hc : X.calm = true) (tk : Takes X W) (hr : Room 3 X.A) (ha : PA X [e] ta) (hg : Gl X nm)
    (hdb : (nm == ("__debug__" : Str)) = false := by decide) (he : starEach [e] X.env = (false, eval e X.env) :: starEach [] X.env := by rfl) (hpl : (backTo pos (starEach [] X.env)).any (·.1) = false := by rfl) :
    PS X (.Raise (some (.Call (.Name nm p) [e] [] pos)) none pos2) (tErr C fl ok ta W) := by
  obtain ⟨f, fd, h1, h2, h3, h4⟩ := R.run
  exact ps_raise hc tk (pmk_oex R.oex h1 h2 h3 hr h4 .nil pass0 hg R.g ha hdb he hpl)
/-- what such a raise asks: the argument is fit, and every way out is met -/
theorem err_way {H1 : Hp} {v : V} {Q : XK} (hv : ok v) (h : ∀ d, H1 d = none → Q (.ref C) (some d) (upd H1 d (.xd [(fl, v)]))) :
    [v].length ≤ 1000 ∧ ∀ a, H1 a = none → spErr C fl ok (.ref a :: ([v] ++ [])) (upd H1 a (exo a C none))
      (fun r H2 => r = .non ∧ ∃ (d : Addr) (fs : List (Str × V)), H2 a = some (exo a C (some d)) ∧ H2 d = some (exd d fs) ∧ H1 d = none ∧ Q (.ref C) (some d) (upd (del H2 a) d (.xd fs))) (fun _ _ _ => False) := by
  refine ⟨by show 1 ≤ 1000; omega, fun a hn => ⟨a, v, rfl, upd_same, hv, fun dx hdx hne => ⟨rfl, dx, _, upd_same, by rw [upd_ne hne, upd_same], ?_, ?_⟩⟩⟩
  · rw [upd_ne hne] at hdx
    exact hdx
  · have hd1 : H1 dx = none := by
      rw [upd_ne hne] at hdx
      exact hdx
    have e : upd (del (upd (upd (upd H1 a (exo a C none)) dx (exd dx [(fl, v)])) a (exo a C (some dx))) a) dx (.xd [(fl, v)]) = upd H1 dx (.xd [(fl, v)]) := by
      funext b
      by_cases hb : b = dx
      · rw [hb, upd_same, upd_same]
      · rw [upd_ne hb, upd_ne hb]
        by_cases hba : b = a
        · rw [hba, del_same, hn]
        · rw [del_ne hba, upd_ne hba, upd_ne hb, upd_ne hba]
    rw [e]
    exact h dx hd1
end
end Sup

/-! The text of a list, whatever is under way: some text of bounded length. -/
namespace Txs
open PySem PySem.Spec PyProof.Rows
section
variable {prog : Program} {w : World}
/-- the text of an item: some text of at most m signs; what stands in h0 is kept by whoever asks -/
def Tx (prog : Program) (w : World) (h0 : Heap) (m : Nat) (x : Value) : Prop :=
  ∀ (b : Nat), b + m ≤ sizeLine → ∀ (A : Around) (E : Value → Shared → Prop) (s : Shared) (Q : Str → Shared → Prop), A.units + 4 < cLine →
    (∀ c o, h0.get? c = some o → s.heap.get? c = some o) → (∀ (t : Str) (tk : Tok), t.length ≤ m → Q t { s with toks := tk }) → wpAny (model prog w) A (pyReprUnder b x) Q E s
theorem Tx.int {h0 : Heap} {i : Int} (t : Tok) (hi : i.natAbs.log2 < 1920) : Tx prog w h0 1921 (.int i t) := by
  intro b hb A E s Q _ _ h
  have e := int_text_length_le (k := 1920) (by decide) hi
  have e2 : (Str.ofString (toString i)).length ≤ 1921 := by rw [PySem.ofString_length]; exact e
  exact ReprIs.int t hi b (by omega) A E s Q fun tk => h _ tk e2
theorem Tx.mono {h0 : Heap} {m n : Nat} {x : Value} (T : Tx prog w h0 m x) (hmn : m ≤ n) : Tx prog w h0 n x := fun b hb A E s Q hu hk h =>
  T b (by omega) A E s Q hu hk fun t tk ht => h t tk (by omega)
theorem way_len : ("(...)" : Str).length ≤ 5 := by decide +kernel
/-- a tuple of things whose texts are settled -/
theorem Tx.tup {h0 : Heap} {a : Addr} {o : Obj} {items : Array Value} {n : Nat} {ts : List Str} (ha : h0.get? a = some o) (hc : o.cls = .type "tuple") (hd : o.data = .seq items n) (hT : ReprAll prog w items.toList ts) :
    Tx prog w h0 ((tupleText ts).length + 5) (.ref a) := by
  intro b hb A E s Q hu hk h
  have ha' := hk _ _ ha
  refine wpAny_pyReprUnder_ref (by omega) (wpAny_pyReprObjUnder_twin (T := "tuple") (twin := "tuple.__repr__.under") ⟨o, ha', hc⟩ F.slot_tuple_repr rfl (by omega) ?_)
  refine call_twin_own (F.quiet_tuple_repr_under _) F.entry_tuple_repr_under F.check_tuple_repr_under ⟨o, ha', hc⟩ F.slot_tuple_repr (F.args_tuple_repr_1 _) (wpOwn_of_wpAny ?_)
  show wpAny _ _ (Builtin.tupleReprAt b ⟨[.ref a], []⟩) _ _ s
  rw [tuple_repr_tree]
  refine wpAny_bind (fmt_underWay fun c => ?_)
  cases c with
  | true =>
    refine PySem.W.KFB.if_so rfl (wpAny_bind (wpAny_rule (wpAny_bind (wpAny_mkStr (wpAny_pure ?_) (by decide +kernel)))))
    exact ⟨⟨_, _, rfl⟩, _, _, rfl, h "(...)" _ (Nat.le_trans way_len (Nat.le_add_left _ _))⟩
  | false =>
    refine PySem.W.KFB.if_not rfl (wpAny_tupleReprRest ha' hd hT (fun u tk => ?_) (by omega))
    exact ⟨⟨_, _, rfl⟩, _, _, rfl, h (tupleText ts) tk (Nat.le_add_right _ _)⟩
theorem piled_le {m : Nat} : ∀ {ts : List Str}, (∀ t ∈ ts, t.length ≤ m) → piled ts ≤ (m + 2) * ts.length
  | [], _ => Nat.zero_le _
  | t :: ts, h => by
    have h1 := h t List.mem_cons_self
    have h2 := piled_le (ts := ts) fun u hu => h u (List.mem_cons_of_mem _ hu)
    rw [piled_cons, List.length_cons, Nat.mul_succ]
    omega
theorem listText_le : ∀ ts : List Str, (listText ts).length ≤ piled ts + 2
  | [] => by
    show (listText []).length ≤ 2
    rw [listText_nil]
    decide +kernel
  | t :: r => by
    have h := textFrom_length_pos r 1 (("[" : Str) ++ (if (0 : Nat) > 0 then ", " else "" : String) ++ t) (Nat.succ_pos 0)
    have e : ((("[" : Str) ++ (if (0 : Nat) > 0 then ", " else "" : String) ++ t)).length = 1 + t.length := by
      rw [strLen_append, strLen_append]; rfl
    have e3 : (listText (t :: r)).length = (textFrom 1 (("[" : Str) ++ (if (0 : Nat) > 0 then ", " else "" : String) ++ t) r).length + 1 := by
      show (textFrom 1 _ r ++ "]").length = _
      rw [strLen_append]; rfl
    rw [e3, h, e, piled_cons]
    omega
variable {A : Around} {R : Result → Shared → Prop}
theorem units_loop (A : Around) (args : Args) : (A.under (.builtin "list.__repr__.loop" args)).units ≤ A.units + 1 := by
  have e : (A.under (.builtin "list.__repr__.loop" args)).units = A.units + 1 ∨ (A.under (.builtin "list.__repr__.loop" args)).units = A.units := by
    first
      | exact .inl rfl
      | exact .inr rfl
      | simp [Around.under, Code.cUnits, Code.frames, Code.isFrame]
  rcases e with e | e <;> omega
theorem run_loop {h0 : Heap} {a Pa : Addr} {items : Array Value} {m b : Nat} (hP0 : h0.get? Pa = none) (hT : ∀ (i : Nat) (x : Value), items[i]? = some x → Tx prog w h0 m x)
    (hsz : b + ((m + 2) * items.size + 2 + m) ≤ sizeLine) (hu : A.units + 5 < cLine) {oa : Obj} {na : Nat} (ha : h0.get? a = some oa) (hda : oa.data = .seq items na) :
    ∀ (k i : Nat) (s : Shared) (acc : Array Value) (c : Nat) (done : List (Str × Tok)), items.size - i = k → i ≤ items.size → (∀ c o, h0.get? c = some o → s.heap.get? c = some o) →
    s.heap.get? Pa = some { cls := .type "list", dict := none, data := .seq acc c, slots := #[] } → acc.toList = strValues done → done.length = i → (∀ p ∈ done, p.1.length ≤ m) →
    (∀ h' (t : Str) u tk, t.length ≤ (m + 2) * items.size + 2 → (∀ b o, b ≠ Pa → s.heap.get? b = some o → h'.get? b = some o) → R (.ok (.ret (.str t u))) { s with heap := h', toks := tk }) →
    codeAny (model prog w) A (.builtin "list.__repr__.loop" ⟨[.ref a, rawInt i, .ref Pa, rawInt ((b + piled (done.map (·.1)) : Nat) : Int)], []⟩) R s := by
  intro k
  induction k with
  | zero =>
    intro i s acc c done hk hi hk0 hP hacc hdone hm hR
    have hin : i = items.size := by omega
    refine codeAny_builtin F.entry_list_repr_loop ?_
    show wpAny _ _ (Builtin.«list.__repr__.loop» ⟨[.ref a, .int i 0, .ref Pa, .int ((b + piled (done.map (·.1)) : Nat) : Int) 0], []⟩) _ _ s
    rw [repr_loop_tree]
    refine wpAny_bind (wpAny_listItems (hk0 _ _ ha) hda ?_)
    have hnone : items[(i : Int).toNat]? = none := by simp [hin]
    simp only [hnone]
    unfold reprEnd
    refine wpAny_bind (wpAny_listItems hP rfl ?_)
    rw [hacc, repr_fold]
    have hpl := piled_le (m := m) (ts := done.map (·.1)) fun t ht => by
      obtain ⟨p, hp, rfl⟩ := List.mem_map.mp ht
      exact hm p hp
    have hlt := listText_le (done.map (·.1))
    rw [List.length_map, hdone, hin] at hpl
    refine wpAny_bind (wpAny_pure (wpAny_bind (wpAny_mkStr (wpAny_pure ?_) (show (listText (done.map (·.1))).length ≤ sizeLine by omega))))
    exact hR s.heap (listText (done.map (·.1))) _ _ (by omega) (fun _ _ _ e => e)
  | succ k ih =>
    intro i s acc c done hk hi hk0 hP hacc hdone hm hR
    have hlt : i < items.size := by omega
    have hrep := hT i items[i] (by simp [hlt])
    have hpl := piled_le (m := m) (ts := done.map (·.1)) fun t ht => by
      obtain ⟨p, hp, rfl⟩ := List.mem_map.mp ht
      exact hm p hp
    rw [List.length_map, hdone] at hpl
    have hmul : (m + 2) * i ≤ (m + 2) * items.size := Nat.mul_le_mul_left _ hi
    refine codeAny_builtin F.entry_list_repr_loop ?_
    show wpAny _ _ (Builtin.«list.__repr__.loop» ⟨[.ref a, .int i 0, .ref Pa, .int ((b + piled (done.map (·.1)) : Nat) : Int) 0], []⟩) _ _ s
    rw [repr_loop_tree]
    refine wpAny_bind (wpAny_listItems (hk0 _ _ ha) hda ?_)
    have hsome : items[(i : Int).toNat]? = some items[i] := by simp [hlt]
    simp only [hsome]
    rw [Int.toNat_natCast]
    have hul := units_loop A ⟨[.ref a, .int i 0, .ref Pa, .int ((b + piled (done.map (·.1)) : Nat) : Int) 0], []⟩
    refine wpAny_bind (wpAny_holding (hrep (b + piled (done.map (·.1)) + 1) (by omega) _ _ _ _ (Nat.lt_of_le_of_lt (Nat.add_le_add_right hul 4) (by omega)) hk0 fun t tk ht => ?_))
    refine wpAny_bind (wpAny_mkStr ?_ (show t.length ≤ sizeLine by omega))
    refine wpAny_bind ?_
    show wpAny _ _ (updateSeq Pa _) _ _ _
    have hasz : acc.size ≤ sizeLine := by
      have e1 : acc.toList.length = acc.size := by simp
      have e2 : (strValues done).length = done.length := by simp [strValues]
      have e3 : i ≤ (m + 2) * items.size := Nat.le_trans hi (Nat.le_mul_of_pos_left _ (by omega))
      rw [hacc] at e1; omega
    refine wpAny_updateSeq hP rfl (wpAny_pure ⟨F.quiet_list_repr_loop _, ?_⟩) hasz
    have e1 : ((i : Int) + 1) = ((i + 1 : Nat) : Int) := by omega
    have e2 : b + piled (done.map (·.1)) + (t.length + 2) = b + piled ((done ++ [(t, tk)]).map (·.1)) := by
      rw [List.map_append, piled_append]
      simp [piled]
      omega
    rw [e1]
    show codeAny _ _ (.builtin "list.__repr__.loop" ⟨[.ref a, rawInt ((i + 1 : Nat) : Int), .ref Pa, rawInt ((b + piled (done.map (·.1)) + (t.length + 2) : Nat) : Int)], []⟩) _ _
    rw [e2]
    have nP : ∀ c o, h0.get? c = some o → Pa ≠ c := fun c o e z => by
      rw [z, e] at hP0
      cases hP0
    refine ih (i + 1) _ (acc.push (.str t tk)) _ (done ++ [(t, tk)]) (by omega) hlt (fun c o e => (Heap.get?_update_other _ _ (nP c o e)).trans (hk0 c o e)) (Heap.get?_update_self _ hP rfl) (by simp [hacc, strValues]) (by rw [List.length_append, hdone]; rfl)
      (fun p hp => ?_) fun h' t' u tk' ht' hh => ?_
    · rcases List.mem_append.mp hp with z | z
      · exact hm p z
      · rw [List.mem_singleton.mp z]
        exact ht
    · exact hR h' t' u tk' ht' fun b o hb e => hh b o hb ((Heap.get?_update_other _ _ (fun z : Pa = b => hb z.symm)).trans e)
end
section
variable {prog : Program} {w : World} {A : Around} {E : Value → Shared → Prop} {s : Shared}
/-- {xs}, a list: some text -/
theorem fmt_list {a : Addr} {items : Array Value} {n m : Nat} {Q : Value → Shared → Prop} (hu : A.units + 8 < cLine) (ha : s.heap.get? a = some { cls := .type "list", data := .seq items n })
    (hT : ∀ (i : Nat) (x : Value), items[i]? = some x → Tx prog w s.heap m x) (hsz : (m + 2) * items.size + 2 + m ≤ sizeLine)
    (h : ∀ h' (t : Str) (u : Tok) tk, t.length ≤ (m + 2) * items.size + 5 → (∀ b o, s.heap.get? b = some o → h'.get? b = some o) → Q (.str t u) { s with heap := h', toks := tk }) : wpAny (model prog w) A (formatField (.ref a) Str.empty) Q E s := by
  refine wpAny_formatField_slot (T := "list") (idr := "list.__repr__") (fun _ _ => nofun) (by omega) ⟨_, ha, rfl⟩ F.slot_list_format F.slot_list_str F.slot_list_repr.toG ?_
  have hs0 : ({ s with toks := s.toks + 1 } : Shared).heap = s.heap := rfl
  refine wpAny_call (codeAny_call_builtin F.slot_list_repr.plain F.entry_list_repr (F.slot_list_repr.check _ _ _ _ _ _ _ _ ⟨_, ha, rfl⟩ (F.args_list_repr_1 _) ?_))
  show wpAny _ _ (Builtin.listReprAt 0 ⟨[.ref a], []⟩) _ _ { s with toks := s.toks + 1 }
  have fin : ∀ h' (t : Str) (u : Tok) tk, t.length ≤ (m + 2) * items.size + 5 → (∀ b o, s.heap.get? b = some o → h'.get? b = some o) → ∃ x t', Value.str t u = .str x t' ∧ Q (.str t u) { s with heap := h', toks := tk } :=
    fun h' t u tk h1 h2 => ⟨t, u, rfl, h h' t u tk h1 h2⟩
  unfold Builtin.listReprAt
  refine wpAny_bind (wpAny_of_eq (a := (Value.ref a, ([] : List Value))) (by first | rfl | (simp only [slotArgs]; rfl)) ?_)
  show wpAny _ _ (Builtin.List.listItems (.ref a) >>= _) _ _ { s with toks := s.toks + 1 }
  refine wpAny_bind (wpAny_listItems (s := { s with toks := s.toks + 1 }) ha rfl ?_)
  by_cases he : items.isEmpty = true
  · refine PySem.W.KFB.if_so he (wpAny_bind (wpAny_rule ?_))
    refine wpAny_bind (wpAny_mkStr (wpAny_pure ?_) (by decide +kernel))
    exact fin s.heap _ _ _ (Nat.le_trans (by decide +kernel : ("[]" : Str).length ≤ 5) (Nat.le_add_left _ _)) fun _ _ e => e
  · refine PySem.W.KFB.if_not (by simpa using he) ?_
    refine wpAny_bind (wpAny_stack_any fun st => ?_)
    dsimp only
    refine wpAny_ite_split (fun _ => ?_) (fun _ => ?_)
    · refine wpAny_bind (wpAny_rule ?_)
      refine wpAny_bind (wpAny_mkStr (wpAny_pure ?_) (by decide +kernel))
      exact fin s.heap _ _ _ (Nat.le_trans (by decide +kernel : ("[...]" : Str).length ≤ 5) (Nat.le_add_left _ _)) fun _ _ e => e
    · refine wpAny_bind (m := newList []) (wpAny_newObj_type ?_)
      refine wpAny_pure ⟨F.quiet_list_repr_loop _, ?_⟩
      have q := run_loop (prog := prog) (w := w) (A := A.in1.in1) (h0 := s.heap) (a := a) (Pa := s.heap.objs.size) (items := items) (m := m) (b := 0) (R := fun r s' => match r with
          | .ok (.ret v) => ∃ x t, v = Value.str x t ∧ Q v s'
          | .ok _ => False
          | .error e => E e s') (Heap.get?_none_of_le (Nat.le_refl _)) hT (by omega) (by show A.units + 2 + 5 < cLine; omega) ha rfl items.size 0
          { s with heap := s.heap.push { cls := .type "list", data := .seq #[] }, toks := s.toks + 1 } #[] 0 [] (by omega) (by omega) (fun c o e => Heap.get?_push_of_some _ e) (Heap.get?_push_size _ rfl) rfl rfl (fun p hp => absurd hp (by simp)) ?_
      · exact q
      · intro h' t u tk ht hk
        exact fin h' t u tk (by omega) fun b o e => hk b o (Nat.ne_of_lt (Heap.lt_size e)) (Heap.get?_push_of_some _ e)
end
end Txs
namespace Sup
open PySem PySem.Spec PyProof.Rows L2
/-- what a shown list may hold: whole numbers, tuples of whole numbers -/
def Shown (H : Hp) (xs : List V) : Prop := ∀ v ∈ xs, (∃ i : Int, v = .int i ∧ i.natAbs.log2 < 1920) ∨ ∃ (t : Addr) (ns : List Int), v = .ref t ∧ H t = some (.tup (ns.map V.int)) ∧ ns.length ≤ 10 ∧ ∀ i ∈ ns, i.natAbs.log2 < 1920
theorem reprs_int {prog : Program} {w : World} : ∀ {ns : List Int} {its : List Value}, Vals (ns.map V.int) its → (∀ i ∈ ns, i.natAbs.log2 < 1920) → ReprAll prog w its (ns.map fun i => Str.ofString (toString i))
  | [], _, r, _ => by
    cases r
    exact .nil
  | i :: ns, _, r, h => by
    cases r with
    | cons r1 r2 =>
      obtain ⟨t, rfl⟩ := r1
      exact .cons (ReprIs.int t (h i List.mem_cons_self)) (reprs_int r2 fun z hz => h z (List.mem_cons_of_mem _ hz))
def tFmtL (te : TE) : TE := fun σ H Q => te σ H fun x H1 => ∃ (a : Addr) (xs : List V), x = .ref a ∧ H1 a = some (.lst xs) ∧ xs.length ≤ 60 ∧ Shown H1 xs ∧ ∀ y : Str, y.length ≤ 2000000 → Q (.str y) H1
theorem pe_fmtL {X : Cx} {e : Expr} {te : TE} {pos : Pos} (hu : X.A.units + 64 < cLine) (he : PE X e te) : PE X (.FormattedValue e (-1) none pos) (tFmtL te) := by
  refine ⟨fun pins s σ H Q I h => ?_⟩
  refine wpAny_FormattedValue_plain (thn (he.run pins s σ H _ I h) fun v s1 hv => ?_)
  obtain ⟨x, H1, I1, r1, a, xs, rfl, ht, hlen, hsh, q⟩ := hv
  cases r1
  obtain ⟨_, its, n, rv, ho⟩ := (show ObjOk X.prog X.w H1 s1.heap a (.lst xs) from I1.hok a _ ht)
  have hl : its.length = xs.length := rv.length.symm
  have hsz : (20000 + 2) * its.toArray.size + 2 + 20000 ≤ sizeLine := by
    rw [List.size_toArray, hl, sizeLine_eq]
    omega
  refine Txs.fmt_list (m := 20000) (by omega) ho (fun i y hy => ?_) hsz fun h' t u tk htl hk => ⟨.str t, H1, I1.kept hk, ⟨u, rfl⟩, q t ?_⟩
  · have hy' : its[i]? = some y := by simpa using hy
    have hi : i < xs.length := by
      rw [← hl]
      exact (List.getElem?_eq_some_iff.mp hy').1
    obtain ⟨u, hu', ru⟩ := rv.get (List.getElem?_eq_getElem hi)
    rw [hy'] at hu'
    obtain rfl := Option.some.inj hu'
    rcases hsh _ (List.getElem_mem hi) with ⟨j, ej, hj⟩ | ⟨t, ns, et, htt, h10, hns⟩
    · rw [ej] at ru
      obtain ⟨tk, rfl⟩ := ru
      exact (Txs.Tx.int tk hj).mono (by decide)
    · rw [et] at ru
      obtain rfl : y = Value.ref t := ru
      obtain ⟨its2, r2, ⟨o, ho2, hc2, n2, hd2⟩, _⟩ := I1.tuple (.inl (.inl htt))
      have T := Txs.Tx.tup (prog := X.prog) (w := X.w) (h0 := s1.heap) ho2 hc2 hd2 (reprs_int r2 hns)
      refine T.mono ?_
      have h1 := fmt_text (ns.map fun i => Str.ofString (toString i))
      have h2 := Txs.piled_le (m := 1921) (ts := ns.map fun i => Str.ofString (toString i)) fun z hz => by
        obtain ⟨i, hi, rfl⟩ := List.mem_map.mp hz
        have e := int_text_length_le (k := 1920) (by decide) (hns i hi)
        rw [PySem.ofString_length]
        exact e
      rw [List.length_map] at h2
      have h3 : (1921 + 2) * ns.length ≤ (1921 + 2) * 10 := Nat.mul_le_mul_left _ h10
      omega
  · rw [List.size_toArray, hl] at htl
    omega
end Sup

namespace Sup
open PySem PySem.Spec PyProof.Rows L2 NdefX
/-- the form of super().__init__('..') -/
theorem form_const (env : Env) {p0 p1 p2 p3 q : Pos} {c : Const} {j : Nat} (hln : (p2.endLine == p3.line) = true) : eval (.Call (.Attribute (.Call (.Name "super" p0) [] [] p1) "__init__" p2) [.Constant c j q] [] p3) env = (do
      let ov ← attributeBase (.Call (.Name "super" p0) [] [] p1) "__init__" env (eval (.Call (.Name "super" p0) [] [] p1) env)
      standAt p2.atName
      let (g, first) ← holding [ov] (getMethod ov "__init__" (do return (← importBound (.Call (.Name "super" p0) [] [] p1) env).getD true))
      callWith p3 g first (backTo p3 (starEach [.Constant c j q] env)) []) := by
  have hp : methodCallPos true (.Call (.Name "super" p0) [] [] p1) env p2 p3 = pure p3 := by
    unfold methodCallPos
    rw [hln]
    rfl
  show (do
    let ov ← attributeBase (.Call (.Name "super" p0) [] [] p1) "__init__" env (eval (.Call (.Name "super" p0) [] [] p1) env)
    standAt p2.atName
    let (g, first) ← holding [ov] (getMethod ov "__init__" (do return (← importBound (.Call (.Name "super" p0) [] [] p1) env).getD true))
    let cp ← methodCallPos true (.Call (.Name "super" p0) [] [] p1) env p2 p3
    callWith cp g first (backTo p3 (starEach [.Constant c j q] env)) []) = _
  rw [hp]
  rfl
/-- an error without a field is made -/
def spErr0 (C : Addr) : Sp := fun vs H Q _ => ∃ a : Addr, vs = [.ref a] ∧ H a = some (exo a C none) ∧ Q .non H
/-- an error that keeps a copy of a list -/
def spErrL (C : Addr) (fl : Str) : Sp := fun vs H Q _ => ∃ (a l : Addr) (xs : List V), vs = [.ref a, .ref l] ∧ H a = some (exo a C none) ∧ H l = some (.lst xs) ∧ xs.length ≤ 60 ∧ Shown H xs ∧
  ∀ c dx, H c = none → H dx = none → dx ≠ a → c ≠ a → dx ≠ c → Q .non (upd (upd (upd H c (.lst xs)) dx (exd dx [(fl, .ref c)])) a (exo a C (some dx)))
section
variable {P : Program} {w : World} {K : PySem.W.Frag} {mg : Str → Option Value} {base : Heap} {C f cda cc : Addr} {qual pn : Str} {st : Stmt} {N : List Str}
theorem err_nil {lit : Str} {j : Nat} {q1 p0 p1 p2 p3 p4 : Pos} {ar : Arg} (T : ErrTxt P K mg C f cda cc qual st)
    (hbd : defBody st = [.Expr (.Call (.Attribute (.Call (.Name "super" p0) [] [] p1) "__init__" p2) [.Constant (.str lit) j q1] [] p3) p4]) (hln : (p2.endLine == p3.line) = true)
    (S : NScope ["self", "__class__"] ["self"] ["__class__"] (defScope st))
    (hb : ∀ (oc : Value) (od an : Option Addr) (kV doc pm ct : Value) (us : List Value), us.length = 1 →
      bindArgs (PySem.W.fnX "__init__" qual (defArgs st) (defBody st) (defScope st) [("__class__", cc)] .none kV doc pm an (.ref cda) ct) ⟨us, []⟩ = pure ((["self"] : List Str).zip us))
    (hks : (defScope st).names.lookup ("super" : Str) = some .globalImplicit)
    (har : ((defArgs st).posonlyargs ++ (defArgs st).args).head? = some ar) (har2 : ar.arg = "self") :
    ∃ fd, FnOk P w K mg base CX0 2 f fd ["self"] (spErr0 C) ∧ Binds K fd ["self"] [] := by
  refine sup_fn T S (fun vs H Q E h => ?_) hb fun A outer s H vs Q E hsp hroom s1 I => ?_
  · obtain ⟨a, rfl, _⟩ := h
    rfl
  · obtain ⟨a, rfl, ha, hQ⟩ := hsp
    rw [hbd]
    refine ks_wpAt_execs_cons (ks_wpAt_Expr_any ?_ (by show ((defScope st).kind == _ && _) = false; rw [S.kind]; rfl))
    refine _root_.PySem.wpAt_mono (super_init (Q := fun H1 => Q .non H1) T I rfl hks (S.frk _ (by simp)) (by rw [har2]; exact S.par _ (by simp)) har (by rw [har2]; rfl) rfl ha
      (pe_str (x := lit)) ⟨Nat.le_refl _, ha, hQ⟩ (form_const _ hln) (by rfl)) (fun v s' hh => ?_) fun _ _ z => z
    obtain ⟨H1, I1, q⟩ := hh
    exact _root_.PySem.wpAt_of_wpAny (pss_nil.run [] s' _ H1 { nx := fun _ H' => Q .non H', rt := Q } I1 q)
theorem err_lst {lit : Str} {j : Nat} {q1 q2 q3 q4 p0 p1 p2 p3 p4 r1 r2 r3 r4 r5 r6 : Pos} {ar : Arg} (T : ErrTxt P K mg C f cda cc qual st)
    (hbd : defBody st = [.Expr (.Call (.Attribute (.Call (.Name "super" p0) [] [] p1) "__init__" p2) [.JoinedStr [.Constant (.str lit) j q1, .FormattedValue (.Name pn q2) (-1) none q3] q4] [] p3) p4,
      .Assign [.Attribute (.Name "self" r1) pn r2] (.Call (.Name "list" r3) [.Name pn r4] [] r5) r6]) (hln : (p2.endLine == p3.line) = true)
    (S : NScope ["self", pn, "__class__"] ["self", pn] ["__class__"] (defScope st))
    (hb : ∀ (oc : Value) (od an : Option Addr) (kV doc pm ct : Value) (us : List Value), us.length = 2 →
      bindArgs (PySem.W.fnX "__init__" qual (defArgs st) (defBody st) (defScope st) [("__class__", cc)] .none kV doc pm an (.ref cda) ct) ⟨us, []⟩ = pure ((["self", pn] : List Str).zip us))
    (hks : (defScope st).names.lookup ("super" : Str) = some .globalImplicit)
    (har : ((defArgs st).posonlyargs ++ (defArgs st).args).head? = some ar) (har2 : ar.arg = "self")
    (hd1 : (pn == ("__debug__" : Str)) = false) (hd2 : (pn == ("__classdict__" : Str)) = false)
    (hlit : lit.length ≤ 1000) (hno : PySem.W.findIn K (.ref C) pn = some none)
    (hgl : (defScope st).names.lookup ("list" : Str) = some .globalImplicit) (hml : mg "list" = none) :
    ∃ fd, FnOk P w K mg base CX0 2 f fd ["self", pn] (spErrL C pn) ∧ Binds K fd ["self", pn] [] := by
  refine sup_fn T S (fun vs H Q E h => ?_) hb fun A outer s H vs Q E hsp hroom s1 I => ?_
  · obtain ⟨a, l, xs, rfl, _⟩ := h
    rfl
  · obtain ⟨a, l, xs, rfl, ha, hl, h60, hsh, hQ⟩ := hsp
    have vN : Vis (ncx CX0 P w K mg base ["self", pn, "__class__"] (supNF qual st cda cc) f A outer s H E).env.scope pn := .inl (S.par _ (by simp))
    have vS : Vis (ncx CX0 P w K mg base ["self", pn, "__class__"] (supNF qual st cda cc) f A outer s H E).env.scope "self" := .inl (S.par _ (by simp))
    rw [hbd]
    refine two_run (te := fun σ H Q => tJs [tC (.str lit), tFmtL (tVar 1)] Str.empty σ H fun out H1 => Q (.str out) H1) T I rfl hks (S.frk _ (by simp)) (by rw [har2]; exact S.par _ (by simp)) har (by rw [har2]; rfl) rfl ha
      (pe_joined (.cons pe_str (.cons (pe_fmtL hroom.units (pe_var (i := 1) rfl vN hd1 hd2)) .nil)))
      (ps_ost (pe_var (i := 0) rfl vS) (pe_callTy call_list_of hgl hml (by decide +kernel) (pa_cons (pe_var (i := 1) rfl vN hd1 hd2) pa_nil))) ?_ (form_of _ hln) (by rfl) (by show ((defScope st).kind == _ && _) = false; rw [S.kind]; rfl)
    have e0 := lit_small hlit
    refine ⟨lit, rfl, by rw [sizeLine_eq]; omega, _, rfl, l, xs, rfl, hl, h60, hsh, fun y hy => ⟨y, rfl, ?_, Nat.le_refl _, ha, ?_⟩⟩
    · rw [Str.length_append, sizeLine_eq]
      omega
    · refine ⟨_, rfl, l, xs, rfl, .inl (SqL.of hl), fun c hc => ?_⟩
      have nca : c ≠ a := fun z => by
        rw [z, ha] at hc
        cases hc
      refine ⟨_, rfl, a, C, rfl, T.oex, hno, .inl ⟨by rw [upd_ne (Ne.symm nca)]; exact ha, fun dx h1 h2 => ?_⟩⟩
      have ndc : dx ≠ c := fun z => by
        rw [z, upd_same] at h1
        cases h1
      rw [upd_ne ndc] at h1
      exact hQ c dx hc h1 h2 nca ndc
end
section
variable {X : Cx} {x : Str} {C fI : Addr} {k : Nat} {fd : FuncData} {ps : List Str} {sp : Sp} {e : Expr} {es : List Expr} {ta : TA} {p pos : Pos}
/-- what follows where an own error has just been made, for positional values vs in the heap H1 -/
structure MkV (C : Addr) (sp : Sp) (vs : List V) (H1 : Hp) (Q : VK) : Prop where
  few : vs.length ≤ 1000
  run : ∀ a, H1 a = none → sp (.ref a :: vs) (upd H1 a (exo a C none)) (fun v H2 => v = .non ∧ Q (.ref a) H2) (fun _ _ _ => False)
theorem run_mkV {pins : List (Addr × Obj)} {σ : L2.St} {H1 : Hp} {s1 : Shared} {us : List Value} {vs : List V} {Q : VK} (T : OexC X.K C) (iC : PySem.W.findIn X.K (.ref C) "__init__" = some (some (.ref fI))) (tI : PySem.W.typeIn X.K (.ref fI) = some (.type "function"))
    (F1 : FnOk X.prog X.w X.K X.mg X.base CX0 k fI fd ps sp) (hr : Room (k + 1) X.A) (hb : Binds X.K fd ps []) (I1 : L2.Inv X pins σ H1 s1) (r1 : Vals vs us) (h : MkV C sp vs H1 Q) :
    wpAny (model X.prog X.w) X.A (call (.ref C) us) (EP X pins σ Q) X.xe s1 := by
  obtain ⟨nm, q, N, bs, bm, sn, sub, ab, col, dd, k0, k1, k2, k3, k5, hC, hbm⟩ := T.cls
  obtain ⟨hz, q1⟩ := h
  obtain ⟨hp, g, dr, tk, os⟩ := s1
  have hsz : hp.objs.size ≤ hp.objs.size + 1 := Nat.le_succ _
  have hn : H1 (hp.objs.size + 1) = none := I1.hok.fresh hsz
  have hq := q1 (hp.objs.size + 1) hn
  have kk : ∀ b o, hp.get? b = some o → ((hp.push (PySem.W.kdv_tup us)).push (PySem.HandSPX.excO C hp.objs.size)).get? b = some o :=
    fun b o z => Heap.get?_push_of_some _ (Heap.get?_push_of_some _ z)
  have hget : ((hp.push (PySem.W.kdv_tup us)).push (PySem.HandSPX.excO C hp.objs.size)).get? (hp.objs.size + 1) = some (PySem.HandSPX.excO C hp.objs.size) := by heap_get
  have I2 : L2.Inv X pins σ (upd H1 (hp.objs.size + 1) (exo (hp.objs.size + 1) C none)) ⟨(hp.push (PySem.W.kdv_tup us)).push (PySem.HandSPX.excO C hp.objs.size), g, dr, tk, os⟩ :=
    I1.laid (t' := tk) (a := hp.objs.size + 1) (o := exo (hp.objs.size + 1) C none)
      (h' := (hp.push (PySem.W.kdv_tup us)).push (PySem.HandSPX.excO C hp.objs.size)) kk hsz (exo_ok hget)
  have r2 : Vals (V.ref (hp.objs.size + 1) :: vs) (Value.ref (hp.objs.size + 1) :: us) := .cons rfl r1
  have hl : (Value.ref (hp.objs.size + 1) :: us).length = ps.length := by
    have e := r2.length
    rw [F1.len _ _ _ _ hq] at e
    exact e.symm
  have hus : us.length ≤ sizeLine := by
    rw [← Paired.length r1, sizeLine_eq]
    omega
  have hbd := hb _ (Value.ref (hp.objs.size + 1) :: us) I2.kIn (by rw [List.append_nil]; exact hl)
  rw [List.append_nil] at hbd
  refine wpAny_call (PySem.HandSPX.call_own F.excBase_ValueError (fun Y => PySem.HandSPX.refsVE_contains Y bm hbm) (I1.kIn _ _ hC) (PySem.W.looks_findIn I1.kIn iC) (fun self => PySem.W.bind_fn I1.kIn self tI) hus
    (codeAny_mono (F1.run _ X.stack _ _ ⟨Value.ref (hp.objs.size + 1) :: us, []⟩ (Value.ref (hp.objs.size + 1) :: us) _ _ (fun _ _ _ => False) (hr.make C us []) (I2.env0.make C us []) hbd r2 hq) fun r s' hq' => ?_))
  cases r with
  | error er => exact False.elim hq'
  | ok fl =>
    cases fl with
    | ret u =>
      obtain ⟨v, H2, os2, bare2, un2, hok2, rv, ev, q2⟩ := hq'
      subst ev
      have J := I2.call' (s' := s') (ch := []) os2 un2 hok2 bare2 (fun b z => absurd z (by simp))
      exact ⟨rv, .ref (hp.objs.size + 1), H2, J, rfl, q2⟩
    | next => exact False.elim hq'
    | brk => exact False.elim hq'
    | cont => exact False.elim hq'
theorem pe_mkV (T : OexC X.K C) (iC : PySem.W.findIn X.K (.ref C) "__init__" = some (some (.ref fI))) (tI : PySem.W.typeIn X.K (.ref fI) = some (.type "function"))
    (F1 : FnOk X.prog X.w X.K X.mg X.base CX0 k fI fd ps sp) (hr : Room (k + 1) X.A) (hb : Binds X.K fd ps []) (hg : Gl X x) (hm : X.mg x = some (.ref C)) (ha : PA X (e :: es) ta)
    (hdb : (x == ("__debug__" : Str)) = false := by decide) (he : starEach (e :: es) X.env = (false, eval e X.env) :: starEach es X.env := by rfl) (hpl : (backTo pos (starEach es X.env)).any (·.1) = false := by rfl) :
    PE X (.Call (.Name x p) (e :: es) [] pos) (fun σ H Q => ta σ H fun vs H1 => MkV C sp vs H1 Q) := by
  refine ⟨fun pins s σ H Q I h => ?_⟩
  refine wpAny_Call_Name_kw (ld_glob I hg hm ?_ hdb)
  refine PySem.W.callWith_K (h₀ := X.base) I.ok.mod.kin T.kC
    (thn (ha.run pos pins s σ H _ I h) fun us s1 ⟨vs, H1, I1, r1, q⟩ => ⟨I1.kIn, ?_⟩) he hpl
  exact run_mkV T iC tI F1 hr hb I1 r1 q
theorem pe_mkV0 (T : OexC X.K C) (iC : PySem.W.findIn X.K (.ref C) "__init__" = some (some (.ref fI))) (tI : PySem.W.typeIn X.K (.ref fI) = some (.type "function"))
    (F1 : FnOk X.prog X.w X.K X.mg X.base CX0 k fI fd ps sp) (hr : Room (k + 1) X.A) (hb : Binds X.K fd ps []) (hg : Gl X x) (hm : X.mg x = some (.ref C))
    (hdb : (x == ("__debug__" : Str)) = false := by decide) : PE X (.Call (.Name x p) [] [] pos) (fun σ H Q => MkV C sp [] H Q) := by
  refine ⟨fun pins s σ H Q I h => ?_⟩
  refine wpAny_Call_Name_kw (ld_glob I hg hm ?_ hdb)
  exact PySem.W.callWith_K0 I.kIn T.kC (run_mkV (us := []) T iC tI F1 hr hb I .nil h)
/-- what stands at a is an error of the class at C with these fields -/
def ErrAt (H : Hp) (a C : Addr) (fs : List (Str × V)) : Prop := (H a = some (exo a C none) ∧ fs = []) ∨ ∃ d, H a = some (exo a C (some d)) ∧ H d = some (exd d fs)
theorem ErrAt.inst {pins : List (Addr × Obj)} {σ : L2.St} {H : Hp} {s : Shared} {a : Addr} {fs : List (Str × V)} (I : L2.Inv X pins σ H s) (h : ErrAt H a C fs) :
    ∃ (ox : Obj) (od : Option Obj), PySem.W.InstAt s.heap a ox C od := by
  rcases h with ⟨h, _⟩ | ⟨d, h, hd⟩
  · obtain ⟨t, ho⟩ := exo_at I.hok h
    exact ⟨_, none, ho, rfl, rfl, trivial⟩
  · obtain ⟨t, ho⟩ := exo_at I.hok h
    obtain ⟨mA, hns, _⟩ := exd_at I.hok hd
    obtain ⟨ob, hob, _⟩ := lookIn_ns hns
    exact ⟨_, some ob, ho, rfl, rfl, hob⟩
end
end Sup

namespace Sup
open PySem PySem.Spec PyProof.Rows L2
/-- an own error, ready to be made -/
structure MkE (P : Program) (w : World) (K : PySem.W.Frag) (mg : Str → Option Value) (base : Heap) (nm : Str) (C : Addr) (sp : Sp) (ps : List Str) : Prop where
  oex : OexC K C
  g : mg nm = some (.ref C)
  run : ∃ (f : Addr) (fd : FuncData), PySem.W.findIn K (.ref C) "__init__" = some (some (.ref f)) ∧ PySem.W.typeIn K (.ref f) = some (.type "function") ∧ FnOk P w K mg base CX0 2 f fd ps sp ∧ Binds K fd ps []
section
variable {X : Cx} {nm : Str} {C : Addr} {sp : Sp} {ps : List Str} {e : Expr} {es : List Expr} {ta : TA} {p pos : Pos}
theorem pe_err (M : MkE X.prog X.w X.K X.mg X.base nm C sp ps) (hr : Room 3 X.A) (hg : Gl X nm) (ha : PA X (e :: es) ta)
    (hdb : (nm == ("__debug__" : Str)) = false := by decide) (he : starEach (e :: es) X.env = (false, eval e X.env) :: starEach es X.env := by rfl) (hpl : (backTo pos (starEach es X.env)).any (·.1) = false := by rfl) :
    PE X (.Call (.Name nm p) (e :: es) [] pos) (fun σ H Q => ta σ H fun vs H1 => MkV C sp vs H1 Q) := by
  obtain ⟨f, fd, h1, h2, h3, h4⟩ := M.run
  exact pe_mkV M.oex h1 h2 h3 hr h4 hg M.g ha hdb he hpl
theorem pe_err0 (M : MkE X.prog X.w X.K X.mg X.base nm C sp ps) (hr : Room 3 X.A) (hg : Gl X nm)
    (hdb : (nm == ("__debug__" : Str)) = false := by decide) : PE X (.Call (.Name nm p) [] [] pos) (fun σ H Q => MkV C sp [] H Q) := by
  obtain ⟨f, fd, h1, h2, h3, h4⟩ := M.run
  exact pe_mkV0 M.oex h1 h2 h3 hr h4 hg M.g hdb
end
theorem ErrAt.same {H H' : Hp} {a C : Addr} {fs : List (Str × V)} (h : ErrAt H a C fs) (s : Same H H') : ErrAt H' a C fs := by
  rcases h with ⟨h, e⟩ | ⟨d, h, hd⟩
  · exact .inl ⟨s _ _ h, e⟩
  · exact .inr ⟨d, s _ _ h, s _ _ hd⟩
/-- another object is written -/
theorem ErrAt.upd {H : Hp} {a C p : Addr} {fs : List (Str × V)} {xs : List V} {o : HO} (h : ErrAt H a C fs) (hp : H p = some (.lst xs)) : ErrAt (upd H p o) a C fs := by
  have key : ∀ {b : Addr} {φ : Heap → Prop}, H b = some (.ext φ) → b ≠ p := fun {b φ} e z => by
    rw [z, hp] at e
    cases e
  rcases h with ⟨h, e⟩ | ⟨d, h, hd⟩
  · exact .inl ⟨by rw [upd_ne (key h)]; exact h, e⟩
  · exact .inr ⟨d, by rw [upd_ne (key h)]; exact h, by rw [upd_ne (key hd)]; exact hd⟩
theorem mk_one {C : Addr} {fl : Str} {ok : V → Prop} {v : V} {H1 : Hp} {Q : VK} (hv : ok v) (h : ∀ (a : Addr) (H2 : Hp), H1 a = none → Same H1 H2 → ErrAt H2 a C [(fl, v)] → Q (.ref a) H2) : MkV C (spErr C fl ok) [v] H1 Q := by
  refine ⟨by show 1 ≤ 1000; omega, fun a hn => ⟨a, v, rfl, upd_same, hv, fun dx hdx hne => ⟨rfl, h a _ hn (fun b o e => ?_) (.inr ⟨dx, upd_same, by rw [upd_ne hne, upd_same]⟩)⟩⟩⟩
  rw [upd_ne hne] at hdx
  rw [upd_ne (ne_of_none e hn), upd_ne (ne_of_none e hdx), upd_ne (ne_of_none e hn)]
  exact e
theorem mk_nil {C : Addr} {H1 : Hp} {Q : VK} (h : ∀ (a : Addr) (H2 : Hp), H1 a = none → Same H1 H2 → ErrAt H2 a C [] → Q (.ref a) H2) : MkV C (spErr0 C) [] H1 Q := by
  refine ⟨Nat.zero_le _, fun a hn => ⟨a, rfl, upd_same, rfl, h a _ hn (fun b o e => ?_) (.inl ⟨upd_same, rfl⟩)⟩⟩
  rw [upd_ne (ne_of_none e hn)]
  exact e
theorem mk_lst {C l : Addr} {fl : Str} {xs : List V} {H1 : Hp} {Q : VK} (hl : H1 l = some (.lst xs)) (h60 : xs.length ≤ 60) (hs : Shown H1 xs)
    (h : ∀ (a c : Addr) (H2 : Hp), H1 a = none → H1 c = none → Same H1 H2 → H2 c = some (.lst xs) → ErrAt H2 a C [(fl, .ref c)] → Q (.ref a) H2) : MkV C (spErrL C fl) [.ref l] H1 Q := by
  refine ⟨by show 1 ≤ 1000; omega, fun a hn => ⟨a, l, xs, rfl, upd_same, by rw [upd_ne (ne_of_none hl hn)]; exact hl, h60, fun v hv => ?_, fun c dx hc hdx n1 n2 n3 => ⟨rfl, h a c _ hn ?_ (fun b o e => ?_) ?_ (.inr ⟨dx, upd_same, by rw [upd_ne n1, upd_same]⟩)⟩⟩⟩
  · rcases hs v hv with z | ⟨t, ns, e, ht, r⟩
    · exact .inl z
    · exact .inr ⟨t, ns, e, by rw [upd_ne (ne_of_none ht hn)]; exact ht, r⟩
  · rw [upd_ne n2] at hc
    exact hc
  · rw [upd_ne n2] at hc
    rw [upd_ne n1] at hdx
    rw [upd_ne (ne_of_none e hn), upd_ne (ne_of_none e hdx), upd_ne (ne_of_none e hc), upd_ne (ne_of_none e hn)]
    exact e
  · rw [upd_ne n2, upd_ne (Ne.symm n3), upd_same]
/-- e.f, e an error that stands in the heap -/
def tEx (K : PySem.W.Frag) (n : Str) (te : TE) : TE := fun σ H Q => te σ H fun x H1 => ∃ (a C : Addr) (fs : List (Str × V)) (v : V), x = .ref a ∧ XfC K C ∧ PySem.W.findIn K (.ref C) n = some none ∧ ErrAt H1 a C fs ∧ fs.lookup n = some v ∧ Q v H1
theorem pe_ex {X : Cx} {e : Expr} {te : TE} {pos : Pos} {n : Str} (he : PE X e te) (hb : attributeBase e n X.env (eval e X.env) = eval e X.env := by rfl) : PE X (.Attribute e n pos) (tEx X.K n te) := by
  refine ⟨fun pins s σ H Q I h => attr_of hb (thn (he.run pins s σ H _ I h) fun u s1 hh => ?_)⟩
  obtain ⟨x, H1, I1, rx, a, C, fs, v, rfl, T, hno, hE, hl, q⟩ := hh
  obtain rfl : u = Value.ref a := rx
  rcases hE with ⟨_, e0⟩ | ⟨d, h1, h2⟩
  · rw [e0] at hl
    cases hl
  · obtain ⟨t, ho⟩ := exo_at I1.hok h1
    obtain ⟨mA, hns, hrel⟩ := exd_at I1.hok h2
    obtain ⟨od, hod, hlk⟩ := lookIn_ns hns
    obtain ⟨u, hu, ru⟩ := RelO.some_of (v := v) (o := mA n) (by rw [← hl]; exact hrel n)
    have J : PySem.W.InstAt s1.heap a _ C (some od) := ⟨ho, rfl, rfl, hod⟩
    exact HandSPX.exc_get I1.kIn J T.ga T.gg T.exC (PySem.W.findObj_own T.hdC hno rfl (by rw [hlk, hu])) (handed_of ru) ⟨v, H1, I1.tok _, ru, q⟩
end Sup

namespace Law
open PySem PySem.Spec PyProof.Rows L2 Sup
/-! isinstance of a caught error that has its own dict -/
section
open PySem.W
variable {prog : Program} {w : World} {A : Around} {E : Value → Shared → Prop} {s : Shared} {K : Frag} {x D : Addr} {ox : Obj} {od : Option Obj}
theorem find_data {C : Addr} {nm : Str} {a g : Value} (h1 : (clsIn K C).isSome = true) (h2 : findIn K (.ref C) nm = some (some a)) (h3 : specialIn K a "__get__" = some (some g)) (h4 : takesIn K a = some true) :
    findObj K C od nm = some (.bind g a) := by
  obtain ⟨cd, hcd⟩ := Option.isSome_iff_exists.mp h1
  simp [findObj, hcd, h2, h3, h4]
theorem class_of_err (T : ExcC K D) {Q : Option Value → Shared → Prop} (X : K.In s.heap) (I : InstAt s.heap x ox D od) (h : Q (some (.ref D)) { s with toks := s.toks + 1 }) :
    wpAny (model prog w) A (getAttr? (.ref x) "__class__") Q E s := by
  have isS : (clsIn K D).isSome = true := by
    obtain ⟨cd, hcd, _⟩ := any_some T.hd
    rw [hcd]; rfl
  have hf : findObj K D od "__class__" = some (.bind (.builtin "getset_descriptor.__get__") (.builtin "object.__class__")) :=
    find_data isS T.ha T.hn T.ht
  obtain ⟨hp, g, d, t, os⟩ := s
  have M0 := I.type (M := model prog w)
  have M1 := looks_findIn (M := model prog w) X T.hg
  have M2 := looks_findIn (M := model prog w) X T.hk
  have M3 := looks_find (M := model prog w) X I hf
  have sub : Looks (model prog w) hp (isInstance (.ref x) (.type "BaseException")) true := M0.andThen (looks_subIn X T.hs)
  have n0 : (false && onTheHeap (Value.builtin "BaseException.__getattribute__")) = false := rfl
  have n1 : (onTheHeap (Value.ref D) && Value.builtin "BaseException.__getattribute__" == Value.builtin "object.__getattribute__") = false := by
    have z : (Value.builtin "BaseException.__getattribute__" == Value.builtin "object.__getattribute__") = false := by decide +kernel
    rw [z]; rfl
  unfold getAttr? getAttrBy? getAttrBy
  refine wpAny_bind (wpAny_mkText (wpAny_bind (wpAny_attempt (wpAny_holding (wpAny_bind (M0.at (wpAny_bind (M1.at ?_))))))))
  show wpAny _ _ (if (onTheHeap (Value.ref D) && Value.builtin "BaseException.__getattribute__" == Value.builtin "object.__getattribute__") = true
    then _ else _) _ _ _
  rw [n1, if_neg Bool.false_ne_true]
  unfold getAttrByItsOwn hookBefore
  refine wpAny_bind ?_
  rw [if_pos (show onTheHeap (Value.ref D) = true from rfl)]
  refine M2.at ?_
  refine wpAny_bind (wpAny_attempt (wpAny_holding ?_))
  unfold callGetattribute
  rw [n0, if_neg Bool.false_ne_true]
  unfold boundAndCalled
  rw [PySem.F.excAttr_ValueError.ga.bind (.ref x)]
  refine wpAny_bind (wpAny_pure ?_)
  show wpAny _ _ (call (.builtin "BaseException.__getattribute__")
    [.ref x, .str "__class__" t]) _ _ _
  refine wpAny_call (codeAny_call_builtin PySem.F.excAttr_ValueError.ga.plain PySem.F.entry_bexc_ga ?_)
  refine @check_slot (model prog w) _ _ ⟨hp, g, d, t + 1, os⟩ "BaseException.__getattribute__" "BaseException" "__getattribute__" (.ref x)
    [.str "__class__" t] [] _ (by decide +kernel) (by decide +kernel) sub (PySem.F.args_bexc_ga (.ref x) (.str "__class__" t)) ?_
  unfold Builtin.«object.__getattribute__»
  refine wpAny_bind (wpAny_of_eq (a := ((Value.ref x : Value), [Value.str "__class__" t])) (by first | rfl | (simp only [slotArgs]; rfl)) ?_)
  refine wpAny_bind (wpAny_pure (wpAny_bind (M0.at (wpAny_bind (M3.at ?_)))))
  show wpAny _ _ (holding [Value.builtin "object.__class__"] (call (.builtin "getset_descriptor.__get__")
    [.builtin "object.__class__", .ref x, .ref D]) >>= ret) _ _ _
  refine wpAny_bind (wpAny_holding (wpAny_call (class_get (s := ⟨hp, g, d, t + 1, os⟩) (ox := ox) (od := od) X I T.hm ?_)))
  refine wpAny_pure ?_
  show wpAny _ _ (handedOut (.ref D)) _ _ _
  rw [handedOut_of (v := .ref D) rfl]
  first
    | exact wpAny_pure (wpAny_pure h)
    | exact wpAny_pure h
    | exact wpAny_pure (wpAny_bind (wpAny_pure (wpAny_pure h)))
theorem kit_err (T : ExcC K D) : KitX K (.ref x) (.ref D) (fun h => ∃ od, InstAt h x ox D od) where
  ty := fun _ _ _ ⟨_, I⟩ => I.type
  it := fun _ _ X _ => by
    obtain ⟨cdD, hcD, _⟩ := any_some T.hd
    unfold clsIn at hcD
    split at hcD
    · rename_i ho
      intro A' Q' E' s' k q
      unfold isType loadHead
      exact wpAny_bind (wpAny_loadPart (k _ _ (X _ _ ho)) (wpAny_pure q))
    · cases hcD
  ne := fun h tp dd its n sl X htp => by
    obtain ⟨cdD, hcD, _⟩ := any_some T.hd
    unfold clsIn at hcD
    split at hcD
    · rename_i ho
      refine Bool.eq_false_iff.mpr fun q => ?_
      have e : D = tp := Value.ref.inj (beq_iff_eq.mp q)
      subst e
      have z := (X _ _ ho).symm.trans htp
      cases z
    · cases hcD
  ca := fun X I k => by
    obtain ⟨od, I⟩ := I
    exact class_of_err T X I k
end
/-- isinstance(e, c), e the exception that the suite holds, its own dict at d -/
def rIsD (K : PySem.W.Frag) (D a : Addr) (cls : Value) (d : Option Addr) : List V → Hp → VK → Prop := fun xs H Q =>
  ∃ (c : V) (cv : Value) (b : Bool) (dd : Addr) (fs : List (Str × V)), xs = [.ref a, c] ∧ cls = .ref D ∧ d = some dd ∧ H dd = some (.xd fs) ∧ (∀ u, RelV c u → u = cv) ∧ PySem.W.kitOne K (.ref D) cv = some b ∧ Q (.bl b) H
theorem call_isD {X : Cx} {a D : Addr} {oe : Obj} {cls : Value} {d : Option Addr} {pn : List (Addr × Obj)} (T : ExcC X.K D) (hz : Zc cls d oe) (hf : ∃ vs, oe.data = .fields vs) :
    CallR (X.suite a ((a, oe) :: pn)) (.builtin "isinstance") (rIsD X.K D a cls d) := by
  intro pins s σ H xs us Q I r h
  obtain ⟨c, cv, b, dd, fs, rfl, rfl, rfl, hd, hcv, e, q⟩ := h
  cases r with
  | cons rx rr =>
    cases rr with
    | cons rt rr =>
      cases rr
      cases rx
      have ec := hcv _ rt
      subst ec
      obtain ⟨hget, _⟩ := I.pin (a, oe) (List.mem_append.mpr (.inl List.mem_cons_self))
      obtain ⟨vs, hv⟩ := hf
      obtain ⟨mA, hns, _⟩ := (show ObjOk X.prog X.w H s.heap dd (.xd fs) from I.hok dd _ hd)
      obtain ⟨ob, ho, _⟩ := lookIn_ns hns
      have J : ∃ od, PySem.W.InstAt s.heap a oe D od := ⟨some ob, hget, hz.1, by unfold PySem.W.notCls; rw [hv], by rw [hz.2]; exact ho⟩
      exact PySem.W.kia_one (kit_err T) I.kIn J e (fun z => nomatch z) fun tk => ⟨.bl b, H, I.kept (t' := tk) fun _ _ z => z, rfl, q⟩
end Law

/-! Operators, repr and call of instances of own classes. -/
namespace Own
open PySem PySem.Spec PyProof.Rows L2
section
variable {X : Cx} {CX : CXT} {k : Nat} {C g : Addr} {sp : Sp} {E : XK} {pins : List (Addr × Obj)} {σ : L2.St} {H : Hp} {s : Shared}
theorem not_ni {v : V} {u : Value} (r : RelV v u) : u ≠ .notImplemented := fun z => by
  subst z
  cases v <;> first | (cases r; done) | (obtain ⟨_, z⟩ := r; cases z; done) | (obtain ⟨_, z⟩ := r; nomatch z)
theorem back {Q : VK} {u : Value} {s' : Shared} (h : EP X pins σ Q u s') : PySem.W.CmpBack (EP X pins σ Q) u s' := by
  obtain ⟨v, H', I', rv, q⟩ := id h
  have n := not_ni rv
  cases u <;> first | exact h | exact absurd rfl n
/-- a promise of an own method, asked at other surroundings with the same frames -/
theorem run_at {A : Around} {Q : VK} {us : List Value} {vs : List V} (F : FnR X.prog X.w X.K X.mg X.base CX k g sp) (hr : Room k A) (hfr : A.frames = some X.stack) (hx : Passes CX X E) (I : Inv X pins σ H s) (r : Vals vs us) (h : sp vs H Q E) :
    wpAny (model X.prog X.w) A (call (.ref g) us) (EP X pins σ Q) X.xe s := by
  have e0 : Env0 X.prog X.w X.K X.mg X.base A X.stack s H := by
    have e := I.env0
    exact ⟨hfr, e.mod, e.bs, e.bsz, e.funs, e.frf, e.hok, e.bare⟩
  refine wpAny_call (codeAny_mono (F A X.stack s H us vs Q E hr e0 r h) fun r s' hq => ?_)
  cases r with
  | error e => exact hx pins σ H s e s' I hq
  | ok fl =>
    cases fl with
    | ret u => exact I.after hq
    | next => exact False.elim hq
    | brk => exact False.elim hq
    | cont => exact False.elim hq
/-- two instances of the class at C, and what the operator's def promises of them -/
def rOwn (C : Addr) (sp : Sp) (E : XK) : R2 := fun x y H Q => ∃ a b dx dy fs gs, x = .ref a ∧ y = .ref b ∧ H a = some (.ins C dx fs) ∧ H b = some (.ins C dy gs) ∧ sp [.ref a, .ref b] H Q E
theorem op_cmp {op : CmpOp} (hop : ∀ v u, compareOp op v u = richCompare op v u) (F : FnR X.prog X.w X.K X.mg X.base CX k g sp) (hs : PySem.W.findIn X.K (.ref C) (cmpInfo op).2.1 = some (some (.ref g))) (hf : PySem.W.isFn X.K (.ref g) = true)
    (hr : Room k X.A) (hx : Passes CX X E) : OpR X (compareOp op) (rOwn C sp E) := by
  intro pins s σ H x y v u Q I rx ry h
  obtain ⟨a, b, dx, dy, fs, gs, rfl, rfl, ha, hb, hsp⟩ := h
  cases rx
  cases ry
  obtain ⟨mA, J, _⟩ := ins_get I.hok ha
  obtain ⟨mB, J', _⟩ := ins_get I.hok hb
  obtain ⟨od, J, _⟩ := J.look
  obtain ⟨od', J', _⟩ := J'.look
  obtain ⟨m, hF⟩ := I.fr
  rw [hop]
  refine PySem.W.cmp_K (op := op) (tb := .ref C) hr.units0 hF I.ok.mod.kin J J'.type (by simp [PySem.W.notFirst]) hs hf ?_
  exact wpAny_mono (wpAny_call (run_fnR F hr hx I (us := [.ref a, .ref b]) (vs := [.ref a, .ref b]) (.cons rfl (.cons rfl .nil)) hsp)) (fun _ _ z => back z) fun _ _ z => z
theorem op_bin {op : Operator} (hop : ∀ v u : Value, PySem.binaryOp op v u = PySem.binaryOp op v u) (F : FnR X.prog X.w X.K X.mg X.base CX k g sp) (hs : PySem.W.findIn X.K (.ref C) (PySem.dunder op.info.2) = some (some (.ref g))) (hf : PySem.W.isFn X.K (.ref g) = true)
    (hc : PySem.W.selfFirst X.K C = true) (hr : Room k X.A) (hx : Passes CX X E) : OpR X (PySem.binaryOp op) (rOwn C sp E) := by
  intro pins s σ H x y v u Q I rx ry h
  obtain ⟨a, b, dx, dy, fs, gs, rfl, rfl, ha, hb, hsp⟩ := h
  cases rx
  cases ry
  obtain ⟨mA, J, _⟩ := ins_get I.hok ha
  obtain ⟨mB, J', _⟩ := ins_get I.hok hb
  obtain ⟨od, J, _⟩ := J.look
  obtain ⟨od', J', _⟩ := J'.look
  obtain ⟨m, hF⟩ := I.fr
  refine PySem.W.binop_K (op := op) hF I.ok.mod.kin J J'.type hc hs hf ?_
  exact wpAny_mono (wpAny_call (run_fnR F hr hx I (us := [.ref a, .ref b]) (vs := [.ref a, .ref b]) (.cons rfl (.cons rfl .nil)) hsp)) (fun _ _ z => back z) fun _ _ z => z
/-- repr of an instance -/
def rRepr (C : Addr) (sp : Sp) (E : XK) : List V → Hp → VK → Prop := fun xs H Q => ∃ a dx fs, xs = [.ref a] ∧ H a = some (.ins C dx fs) ∧ sp [.ref a] H (fun v H' => ∃ y, v = .str y ∧ Q v H') E
theorem call_repr (F : FnR X.prog X.w X.K X.mg X.base CX k g sp) (hs : PySem.W.findIn X.K (.ref C) "__repr__" = some (some (.ref g))) (hf : PySem.W.isFn X.K (.ref g) = true)
    (hr : Room (k + 1) X.A) (hx : Passes CX X E) : CallR X (.builtin "repr") (rRepr C sp E) := by
  intro pins s σ H xs us Q I r h
  obtain ⟨a, dx, fs, rfl, ha, hsp⟩ := h
  obtain ⟨u, rfl, r1⟩ : ∃ u, us = [u] ∧ RelV (.ref a) u := by
    cases r with
    | cons r1 rr =>
      cases rr
      exact ⟨_, rfl, r1⟩
  cases r1
  obtain ⟨mA, J, _⟩ := ins_get I.hok ha
  obtain ⟨od, J, _⟩ := J.look
  obtain ⟨m, hF⟩ := I.fr
  refine PySem.W.repr_K ?_ hF I.ok.mod.kin J hs hf (wpAny_mono (run_at F ?_ ?_ hx I (us := [.ref a]) (vs := [.ref a]) (.cons rfl .nil) hsp) (fun u s' z => ?_) fun _ _ z => z)
  · have := hr.un
    show X.A.units + 1 < _
    omega
  · exact hr.in1
  · exact I.env0.frames
  · obtain ⟨v, H', I', rv, y, rfl, q⟩ := z
    obtain ⟨t, rfl⟩ := rv
    exact ⟨.str y, H', I', ⟨t, rfl⟩, q⟩
/-! ### != by the own == -/
theorem ifBound_B {M : Model} {A : Around} {Er : Value → Shared → Prop} {s : Shared} {K : PySem.W.Frag} {x C : Addr} {ox : Obj} {od : Option Obj} {name : Str} {id : String} {args : List Value} {Q : Option Value → Shared → Prop} (X : K.In s.heap) (I : PySem.W.InstAt s.heap x ox C od)
    (hs : PySem.W.findIn K (.ref C) name = some (some (.builtin id))) (hb : ∀ self, bindSpecial (.builtin id) self = pure (.builtin id, [self]))
    (h : wpAny M A (call (.builtin id) (.ref x :: args)) (fun v => Q (some v)) Er s) : wpAny M A (callSpecialIfBound? (.ref x) name args) Q Er s := by
  simp only [callSpecialIfBound?, bindSpecialIfBound?]
  refine wpAny_holding (wpAny_bind (wpAny_bind (wpAny_bind (I.type.here ((PySem.W.looks_findIn X hs).here ?_)))))
  refine wpAny_bind (wpAny_askSetting (wpAny_ite ?_))
  have fin : wpAny M A (call (.builtin id) ([.ref x] ++ args) >>= fun v => pure (some v)) Q Er s := wpAny_bind (wpAny_mono h (fun v s' h' => wpAny_pure h') fun _ _ h' => h')
  split
  · exact wpAny_bind ((PySem.W.Looks.of_pure (hb _)).here (wpAny_pure (by exact fin)))
  · exact wpAny_tryCatch (wpAny_bind ((PySem.W.Looks.of_pure (hb _)).here (wpAny_pure (by exact fin))))
def rOwnNe (C : Addr) (sp : Sp) (E : XK) : R2 := fun x y H Q => ∃ a b dx dy fs gs, x = .ref a ∧ y = .ref b ∧ H a = some (.ins C dx fs) ∧ H b = some (.ins C dy gs) ∧ sp [.ref a, .ref b] H (fun v H' => ∃ t, v = .bl t ∧ Q (.bl (!t)) H') E
theorem op_ne (F : FnR X.prog X.w X.K X.mg X.base CX k g sp) (hs : PySem.W.findIn X.K (.ref C) "__eq__" = some (some (.ref g))) (hn : PySem.W.findIn X.K (.ref C) "__ne__" = some (some (.builtin "object.__ne__"))) (hm : PySem.W.mroIn X.K C (.type "object") = some true)
    (hf : PySem.W.isFn X.K (.ref g) = true) (hr : Room (k + 1) X.A) (hx : Passes CX X E) : OpR X (compareOp .NotEq) (rOwnNe C sp E) := by
  intro pins s σ H x y v u Q I rx ry h
  obtain ⟨a, b, dx, dy, fs, gs, rfl, rfl, ha, hb, hsp⟩ := h
  cases rx
  cases ry
  obtain ⟨mA, J, _⟩ := ins_get I.hok ha
  obtain ⟨mB, J', _⟩ := ins_get I.hok hb
  obtain ⟨od, J, _⟩ := J.look
  obtain ⟨od', J', _⟩ := J'.look
  have KI := I.kIn
  have hu1 : X.A.in1.units < cLine := by
    have := hr.un
    show X.A.units + 1 < _
    omega
  have one : wpAny (model X.prog X.w) X.A (tryCompare (.ref a) (cmpInfo .NotEq).2.1 (.ref b)) (fun r s' => ∃ v, r = some v ∧ EP X pins σ Q v s') X.xe s := by
    unfold tryCompare
    refine wpAny_bind (ifBound_B KI J hn PySem.F.cmp_object.ne.bind (wpAny_call (codeAny_call_builtin PySem.F.cmp_object.ne.plain PySem.F.cmpEntry_ne
      (PySem.W.check_slot PySem.F.cmpKind_ne PySem.F.cmpSplit_ne (J.type.andThen (PySem.W.looks_mroIn KI hm)) (PySem.F.cmpArgs_ne _ _) ?_))))
    unfold Builtin.«object.__ne__»
    refine wpAny_bind (m := slotArgs "__ne__" 1 _) (wpAny_pure ?_)
    refine wpAny_bind (m := cRoomFor _ _) (wpAny_cRoomFor hu1 ?_)
    refine wpAny_bind (m := callSpecialIfBound? (.ref a) (Str.ofString "__eq__") _) (PySem.W.ifBound_K KI J hs hf (wpAny_mono (run_at F hr.in1 I.env0.frames hx I (us := [.ref a, .ref b]) (vs := [.ref a, .ref b]) (.cons rfl (.cons rfl .nil)) hsp) (fun u s' z => ?_) fun _ _ z => z))
    obtain ⟨v, H', I', rv, t, rfl, q⟩ := z
    cases rv
    refine wpAny_bind (m := truthy (.bool t)) (wpAny_truthy_bool ?_)
    first
      | exact wpAny_pure (wpAny_pure ⟨_, rfl, .bl (!t), H', I', rfl, q⟩)
      | exact wpAny_pure ⟨_, rfl, .bl (!t), H', I', rfl, q⟩
  show wpAny _ _ (richCompare .NotEq (.ref a) (.ref b)) _ _ _
  unfold richCompare
  simp only [PySem.oneThing_ref]
  refine wpAny_holding (wpAny_bind (wpAny_cRoomFor hr.units0 ?_))
  refine wpAny_bind (J.type.here (wpAny_bind (J'.type.here ?_)))
  rw [if_neg (by simp)]
  refine wpAny_bind (wpAny_pure ?_)
  simp only [Bool.false_eq_true, if_false]
  refine wpAny_bind (wpAny_mono one (fun r s' z => ?_) fun _ _ e => e)
  obtain ⟨v, rfl, hq⟩ := z
  exact wpAny_pure hq
end
/-! ### a def that returns NotImplemented -/
section
variable {P : Program} {w : World} {K : PySem.W.Frag} {mg : Str → Option Value} {base : Heap}
/-- on values of which pre holds the def at f returns NotImplemented and changes nothing -/
def NiOk (P : Program) (w : World) (K : PySem.W.Frag) (mg : Str → Option Value) (base : Heap) (k : Nat) (f : Addr) (pre : List V → Hp → Prop) : Prop :=
  ∀ (A : Around) (outer : List Env) (s : Shared) (H : Hp) (us : List Value) (vs : List V), Room k A → Env0 P w K mg base A outer s H → Vals vs us → pre vs H →
    codeAny (model P w) A (.call (.ref f) ⟨us, []⟩) (fun r s' => r = .ok (.ret .notImplemented) ∧ CE outer P w H s (fun _ H' => H' = H) .none s') s
theorem ni_def {x qual : Str} {st : Stmt} {f : Addr} {fd : FuncData} {N ps : List Str} {k : Nat} {pre : List V → Hp → Prop} {t : Expr} {els rest : List Stmt} {p2 p3 p4 : Pos} (F : Fun K x qual st f fd) (S : FnScope N ps (defScope st)) (hb : Binds K fd ps [])
    (len : ∀ vs H, pre vs H → vs.length = ps.length) (hbd : defBody st = .If t [.Return (some (.Name "NotImplemented" p2)) p3] els p4 :: rest) (hg : (defScope st).names.lookup ("NotImplemented" : Str) = some .globalImplicit) (hm : mg "NotImplemented" = none)
    (htest : ∀ (cdv : Value) (A : Around) (outer : List Env) (s : Shared) (H : Hp) (vs : List V), Room k (A.deeper (envOfC qual (defScope st) s.heap.objs.size f cdv)) → pre vs H →
      ∃ tt, PT (cxOf CX0 P w K mg base N qual (defScope st) f cdv A outer s H (fun _ _ _ => False)).nox t tt ∧ tt (start N vs) H (fun b H' => b = true ∧ H' = H)) :
    NiOk P w K mg base (k + 1) f pre := by
  intro A outer s H us vs hr e0 r hp
  have hl := len _ _ hp
  have hbind := hb s us (e0.mod.kin.keeps fun b o e => (e0.bs b o e).1) (by rw [List.append_nil, ← r.length]; exact hl)
  rw [List.append_nil] at hbind
  obtain ⟨oc, od, kV, doc, pm, an, cdv, ct, osl, rfl, lk, hcd⟩ := F.ex
  have KX : K.In s.heap := e0.mod.kin.keeps fun b o e => (e0.bs b o e).1
  have lim : s.heap.NoLimit := e0.mod.nolimit.keeps fun b o e => (e0.bs b o e).1
  have hkind : ∀ y ∈ ps.zip us, (defScope st).names.lookup y.1 = some .local ∨ ((defScope st).names.lookup y.1 = some .cell ∧ ((cellsFrom (s.heap.objs.size + 1) (defScope st).names []).lookup y.1).isSome = true) := fun ⟨n, v⟩ hy => by
    rcases S.par n (List.of_mem_zip hy).1 with q | q
    · exact .inl q
    · exact .inr ⟨q, PySem.W.cellsFrom_some _ _ _ (.inl q)⟩
  refine codeAny_call_function hr.depth (KX _ _ lk) rfl S.co S.gen rfl (PySem.W.codeRec_of KX hcd) (hbind _ _ _ _ ?_)
  refine wpAny_newFunctionEnv_cells S.kind hkind fun env he s1 x => ?_
  subst he
  refine ⟨lim.keeps x.toInCall.keep, codeAny_func ?_⟩
  obtain ⟨tt, ht, hq⟩ := htest cdv A outer s H vs (hr.deeper _) hp
  have I : L2.Inv (cxOf CX0 P w K mg base N qual (defScope st) f cdv A outer s H (fun _ _ _ => False)) [] (start N vs) H s1 := inv_start S hr.hd e0 hl r x
  rw [hbd]
  refine wpAny_execs_cons (wpAny_If (wpAny_mono (ht.run [] s1 (start N vs) H _ (I.wish _) hq) (fun b s2 h2 => ?_) fun e s' z => False.elim z))
  obtain ⟨H2, I2, rfl, rfl⟩ := h2
  refine wpAny_execs_cons (wpAny_Return_some (ld_blt I2 hg hm (u := .notImplemented) (by decide +kernel) ?_))
  exact ⟨rfl, .non, _, I2.os, I2.bare, I2.base, I2.hok, rfl, rfl⟩
end
section
variable {X : Cx} {CX : CXT} {k : Nat} {C g : Addr} {sp : Sp} {E : XK} {pre : List V → Hp → Prop}
theorem int_eq_ref (a : Int) (t : Tok) (b C dx : Addr) : Meets (Builtin.«int.__eq__» ⟨[.int a t, .ref b], []⟩) (fun _ R s => s.heap.get? b = some (PySem.W.instObj C dx) ∧ R (.ok (.ret Value.notImplemented)) s) :=
  .of_wp fun prog w A R s h => by
    obtain ⟨hp, g, d, tk, os⟩ := s
    obtain ⟨hl, h⟩ := h
    wp_walk using wpAny_load' hl
    exact ⟨_, rfl, h⟩
/-- an instance == a whole number, where the own == declines -/
def rEqI (C : Addr) (pre : List V → Hp → Prop) : R2 := fun x y H Q => ∃ a dx fs i, x = .ref a ∧ y = .int i ∧ H a = some (.ins C dx fs) ∧ pre [.ref a, .int i] H ∧ Q (.bl false) H
theorem op_eqI (N : NiOk X.prog X.w X.K X.mg X.base k g pre) (hs : PySem.W.findIn X.K (.ref C) "__eq__" = some (some (.ref g))) (hf : PySem.W.isFn X.K (.ref g) = true) (hsub : PySem.W.subIn X.K (.type "int") (.ref C) = some false)
    (hr : Room k X.A) : OpR X (compareOp .Eq) (rEqI C pre) := by
  intro pins s σ H x y v u Q I rx ry h
  obtain ⟨a, dx, fs, i, rfl, rfl, ha, hp, q⟩ := h
  cases rx
  obtain ⟨t, rfl⟩ := ry
  obtain ⟨mA, J, _⟩ := ins_get I.hok ha
  obtain ⟨od, J, _⟩ := J.look
  have KI := I.kIn
  show wpAny _ _ (richCompare .Eq (.ref a) (.int i t)) _ _ _
  unfold richCompare
  simp only [PySem.oneThing_ref]
  refine wpAny_holding (wpAny_bind (wpAny_cRoomFor hr.units0 ?_))
  refine wpAny_bind (J.type.here (wpAny_bind ((PySem.W.Looks.of_pure (M := model X.prog X.w) (h := s.heap) (show typeOf (.int i t) = pure (.type "int") from rfl)).here ?_)))
  have hne : (Value.ref C != Value.type "int") = true := by
    have z : (Value.ref C == Value.type "int") = false := Bool.eq_false_iff.mpr fun q => by cases beq_iff_eq.mp q
    show (!(Value.ref C == Value.type "int")) = true
    rw [z]; rfl
  rw [if_pos hne]
  refine wpAny_bind ((PySem.W.looks_subIn KI hsub).here ?_)
  simp only [Bool.false_eq_true, if_false]
  refine wpAny_bind (m := tryCompare (.ref a) _ (.int i t)) ?_
  unfold tryCompare
  have cl : wpAny (model X.prog X.w) X.A (call (.ref g) [.ref a, .int i t]) (fun u s' => u = .notImplemented ∧ L2.Inv X pins σ H s') X.xe s := by
    refine wpAny_call (codeAny_mono (N X.A X.stack s H [.ref a, .int i t] [.ref a, .int i] hr I.env0 (.cons rfl (.cons ⟨t, rfl⟩ .nil)) hp) fun r s' z => ?_)
    obtain ⟨rfl, z⟩ := z
    obtain ⟨v, H', I', rv, e⟩ := I.after z
    rw [e] at I'
    exact ⟨rfl, I'⟩
  refine wpAny_bind (PySem.W.ifBound_K KI J hs hf (wpAny_mono cl (fun u s' z => ?_) fun _ _ z => z))
  obtain ⟨rfl, I'⟩ := z
  refine wpAny_pure ?_
  obtain ⟨mA', J', _⟩ := ins_get I'.hok ha
  obtain ⟨od', J', _⟩ := J'.look
  dsimp only
  refine wpAny_bind (m := tryCompare (.int i t) _ (.ref a)) ?_
  refine wpAny_tryCompare_declines (typeIs_int _ i t) PySem.F.slot_int_eq (call_meets PySem.F.slot_int_eq (typeIs_int _ i t) PySem.F.entry_int_eq (PySem.F.args_int_eq_2 _ _) (int_eq_ref i t a C dx) ⟨J'.at_, rfl, ?_⟩)
  dsimp only
  refine wpAny_bind (wpAny_rule (wpAny_bind (wpAny_isSame_plain (by rfl) (wpAny_pure ?_))))
  have z : (Value.ref a == Value.int i t) = false := Bool.eq_false_iff.mpr fun q => by cases beq_iff_eq.mp q
  rw [z]
  exact ⟨.bl false, H, I', rfl, q⟩
end
/-! ### x(e, ..) and x(), x a local name that holds an instance -/
section
variable {X : Cx} {CX : CXT} {k i : Nat} {C g : Addr} {sp : Sp} {E : XK} {x : Str} {e : Expr} {es : List Expr} {t : TA} {p pos : Pos}
theorem run_ins {pins : List (Addr × Obj)} {σ : L2.St} {H : Hp} {s : Shared} {Q : VK} {a dx : Addr} {fs : List (Str × V)} {us : List Value} {vs : List V} (c : StX.CallO X.K C g) (F : FnR X.prog X.w X.K X.mg X.base CX k g sp) (hr : Room k X.A) (hx : Passes CX X E) (I : L2.Inv X pins σ H s)
    (ha : H a = some (.ins C dx fs)) (r : Vals vs us) (h : sp (V.ref a :: vs) H Q E) : wpAny (model X.prog X.w) X.A (call (.ref a) us) (EP X pins σ Q) X.xe s := by
  obtain ⟨mA, J, _⟩ := ins_get I.hok ha
  obtain ⟨od, J, _⟩ := J.look
  exact wpAny_call (PySem.W.kco_code I.kIn J rfl c.at_ c.fn c.fi (run_fnR (us := .ref a :: us) (vs := .ref a :: vs) F hr hx I (.cons rfl r) h))
def tCallI (i : Nat) (C : Addr) (sp : Sp) (E : XK) (t : TA) : TE := fun σ H Q => ∃ a, σ[i]? = some (some (.ref a)) ∧ t σ H fun vs H1 => (∃ dx fs, H1 a = some (.ins C dx fs)) ∧ sp (V.ref a :: vs) H1 Q E
theorem pe_callI (c : StX.CallO X.K C g) (F : FnR X.prog X.w X.K X.mg X.base CX k g sp) (hr : Room k X.A) (hx : Passes CX X E) (hN : X.N[i]? = some x) (hv : Vis X.env.scope x) (ha : PA X (e :: es) t)
    (hd : (x == ("__debug__" : Str)) = false := by decide) (hcd : (x == ("__classdict__" : Str)) = false := by decide)
    (he : starEach (e :: es) X.env = (false, eval e X.env) :: starEach es X.env := by rfl) (hpl : (backTo pos (starEach es X.env)).any (·.1) = false := by rfl) : PE X (.Call (.Name x p) (e :: es) [] pos) (tCallI i C sp E t) := by
  refine ⟨fun pins s σ H Q I h => ?_⟩
  obtain ⟨a, hs, h⟩ := h
  refine wpAny_Call_Name_kw (thn ((pe_var (pos := p) (i := i) hN hv hd hcd).run pins s σ H (fun v H1 => v = .ref a ∧ H1 = H) I ⟨.ref a, hs, rfl, rfl⟩) fun u s1 ⟨v, H1, I1, r1, ev, eH⟩ => ?_)
  subst ev
  rw [eH] at I1
  cases r1
  refine StX.callO_with (thn (ha.run pos pins s1 σ H _ I1 h) fun us s2 ⟨vs, H2, I2, r, ⟨dx, fs, hi⟩, q2⟩ => ?_) he hpl
  obtain ⟨mA, J, _⟩ := ins_get I2.hok hi
  obtain ⟨od, J, _⟩ := J.look
  exact ⟨⟨C, _, _, J, rfl⟩, run_ins c F hr hx I2 hi r q2⟩
theorem pe_callI0 (c : StX.CallO X.K C g) (F : FnR X.prog X.w X.K X.mg X.base CX k g sp) (hr : Room k X.A) (hx : Passes CX X E) (hN : X.N[i]? = some x) (hv : Vis X.env.scope x)
    (hd : (x == ("__debug__" : Str)) = false := by decide) (hcd : (x == ("__classdict__" : Str)) = false := by decide) : PE X (.Call (.Name x p) [] [] pos) (tCallI i C sp E tNil) := by
  refine ⟨fun pins s σ H Q I h => ?_⟩
  obtain ⟨a, hs, ⟨dx, fs, hi⟩, h⟩ := h
  refine wpAny_Call_Name_kw (thn ((pe_var (pos := p) (i := i) hN hv hd hcd).run pins s σ H (fun v H1 => v = .ref a ∧ H1 = H) I ⟨.ref a, hs, rfl, rfl⟩) fun u s1 ⟨v, H1, I1, r1, ev, eH⟩ => ?_)
  subst ev
  rw [eH] at I1
  cases r1
  obtain ⟨mA, J, _⟩ := ins_get I1.hok hi
  obtain ⟨od, J, _⟩ := J.look
  exact PySem.W.kco_callWith0 (K := X.K) I1.kIn J rfl c.at_ (run_ins (us := []) c F hr hx I1 hi .nil h)
end
end Own

namespace Own
open PySem PySem.Spec PyProof.Rows L2
/-- a promise told of the values as they come -/
theorem fnr_of {P : Program} {w : World} {K : PySem.W.Frag} {mg : Str → Option Value} {base : Heap} {CX : CXT} {k : Nat} {f : Addr} {fd : FuncData} {ps : List Str} {sp : Sp} {dvs : List V} {ds : List Value} (G : FnOk P w K mg base CX k f fd ps sp) (hb : Binds K fd ps ds) (hd : Vals dvs ds) :
    FnR P w K mg base CX k f (fun vs H Q E => sp (vs ++ dvs) H Q E) := fun A outer s H us vs Q E hr e0 r h => by
  have KX : K.In s.heap := e0.mod.kin.keeps fun b o e => (e0.bs b o e).1
  have hl : (us ++ ds).length = ps.length := by
    have e := (r.append hd).length
    rw [G.len _ _ _ _ h] at e
    exact e.symm
  exact G.run A outer s H ⟨us, []⟩ (us ++ ds) (vs ++ dvs) Q E hr e0 (hb s us KX hl) (r.append hd) h
theorem fnr0 {P : Program} {w : World} {K : PySem.W.Frag} {mg : Str → Option Value} {base : Heap} {CX : CXT} {k : Nat} {f : Addr} {fd : FuncData} {ps : List Str} {sp : Sp} (G : FnOk P w K mg base CX k f fd ps sp) (hb : Binds K fd ps []) :
    FnR P w K mg base CX k f sp := (fnr_of G hb .nil).imp fun vs H Q E h => by rw [List.append_nil]; exact h
section
variable {X : Cx} {CX : CXT} {k i : Nat} {C g f : Addr} {sp : Sp} {E : L2.St → XK} {x : Str} {e a b : Expr} {es : List Expr} {t : TA} {ta tb : TE} {p pos : Pos} {fd : FuncData} {ps : List Str} {dvs : List V} {ds : List Value}
theorem run_fnRS {pins : List (Addr × Obj)} {σ : L2.St} {H : Hp} {s : Shared} {Q : VK} {us : List Value} {vs : List V} (F : FnR X.prog X.w X.K X.mg X.base CX k g sp) (hr : Room k X.A) (hx : PassesAt CX X σ (E σ)) (I : L2.Inv X pins σ H s) (r : Vals vs us) (h : sp vs H Q (E σ)) :
    codeAny (model X.prog X.w) X.A (.call (.ref g) ⟨us, []⟩) (fun r s' => match r with | .ok (.ret v) => EP X pins σ Q v s' | .ok _ => False | .error e => X.xe e s') s := by
  refine codeAny_mono (F X.A X.stack s H us vs Q (E σ) hr I.env0 r h) fun r s' hq => ?_
  cases r with
  | error e => exact hx pins H s e s' I hq
  | ok fl =>
    cases fl with
    | ret u => exact I.after hq
    | next => exact False.elim hq
    | brk => exact False.elim hq
    | cont => exact False.elim hq
/-- a + b of two instances of one own class -/
theorem pe_binS {op : Operator} (F : FnR X.prog X.w X.K X.mg X.base CX k g sp) (hs : PySem.W.findIn X.K (.ref C) (PySem.dunder op.info.2) = some (some (.ref g))) (hf : PySem.W.isFn X.K (.ref g) = true) (hc : PySem.W.selfFirst X.K C = true) (hr : Room k X.A)
    (hx : ∀ σ, PassesAt CX X σ (E σ)) (ha : PE X a ta) (hb : PE X b tb) : PE X (.BinOp a op b pos) (fun σ H Q => ta σ H fun x H1 => tb σ H1 fun y H2 => rOwn C sp (E σ) x y H2 Q) := by
  refine ⟨fun pins s σ H Q I h => ?_⟩
  have h' : tOp (fun x y H2 Q => rOwn C sp (E σ) x y H2 Q) ta tb σ H Q := h
  refine wpAny_BinOp (binT ha hb I h' fun v u s2 x y H2 I2 rx ry q => ?_)
  obtain ⟨a, b, dx, dy, fs, gs, rfl, rfl, ha, hb, hsp⟩ := q
  cases rx
  cases ry
  obtain ⟨mA, J, _⟩ := ins_get I2.hok ha
  obtain ⟨mB, J', _⟩ := ins_get I2.hok hb
  obtain ⟨od, J, _⟩ := J.look
  obtain ⟨od', J', _⟩ := J'.look
  obtain ⟨m, hF⟩ := I2.fr
  refine PySem.W.binop_K (op := op) hF I2.ok.mod.kin J J'.type hc hs hf ?_
  exact wpAny_mono (wpAny_call (run_fnRS F hr (hx σ) I2 (us := [.ref a, .ref b]) (vs := [.ref a, .ref b]) (.cons rfl (.cons rfl .nil)) hsp)) (fun _ _ z => back z) fun _ _ z => z
/-- C(e, ..) whose __init__ may raise -/
structure MkS (C : Addr) (sp : Sp) (E : XK) (vs : List V) (H1 : Hp) (Q : VK) : Prop where
  run : ∀ x dx, H1 x = Option.none → H1 dx = Option.none → dx ≠ x → sp (V.ref x :: vs) (upd (upd H1 dx (.own x)) x (.ins C dx [])) (fun v H2 => v = .non ∧ Q (.ref x) H2) E
def tMakeS (C : Addr) (sp : Sp) (E : L2.St → XK) (t : TA) : TE := fun σ H Q => t σ H fun vs H1 => MkS C sp (E σ) vs H1 Q
theorem pe_makeS (M : Mk X.K C f) (F : FnR X.prog X.w X.K X.mg X.base CX k f sp) (hr : Room (k + 1) X.A) (hg : Gl X x) (hm : X.mg x = some (.ref C)) (hx : ∀ σ, PassesAt CX X σ (E σ)) (ha : PA X (e :: es) t) (hdb : (x == ("__debug__" : Str)) = false := by decide)
    (he : starEach (e :: es) X.env = (false, eval e X.env) :: starEach es X.env := by rfl) (hpl : (backTo pos (starEach es X.env)).any (·.1) = false := by rfl) : PE X (.Call (.Name x p) (e :: es) [] pos) (tMakeS C sp E t) := by
  refine ⟨fun pins s σ H Q I h => ?_⟩
  refine wpAny_Call_Name_kw (ld_glob I hg hm ?_ hdb)
  refine PySem.W.callWith_K (h₀ := X.base) I.ok.mod.kin M.kp (thn (ha.run pos pins s σ H _ I h) fun us s1 ⟨vs, H1, I1, r, q⟩ => ⟨I1.kIn, ?_⟩) he hpl
  have hq := q.run (s1.heap.objs.size + 1) s1.heap.objs.size (I1.hok.fresh (Nat.le_succ _)) (I1.hok.fresh (Nat.le_refl _)) (Nat.ne_of_lt (Nat.lt_succ_self _))
  have I2 := Inv.made (C := C) I1
  have r2 : Vals (V.ref (s1.heap.objs.size + 1) :: vs) (Value.ref (s1.heap.objs.size + 1) :: us) := .cons rfl r
  refine wpAny_call (make_map (f := f) I1.kIn M.makes M.init (beq_iff_eq.mp M.fn) (codeAny_mono (F _ X.stack _ _ (Value.ref (s1.heap.objs.size + 1) :: us) _ _ (E σ) (hr.make C us []) (I2.env0.make C us []) r2 hq) fun r s' hq' => ?_))
  cases r with
  | error e => exact hx σ pins _ _ e s' I2 hq'
  | ok fl =>
    cases fl with
    | ret u =>
      obtain ⟨v, H', I3, rv, ev, q3⟩ := I2.after hq'
      subst ev
      exact ⟨rv, ⟨V.ref (s1.heap.objs.size + 1), H', I3, rfl, q3⟩⟩
    | next => exact False.elim hq'
    | brk => exact False.elim hq'
    | cont => exact False.elim hq'
def tCallIS (i : Nat) (C : Addr) (sp : Sp) (E : L2.St → XK) (t : TA) : TE := fun σ H Q => ∃ a, σ[i]? = some (some (.ref a)) ∧ t σ H fun vs H1 => (∃ dx fs, H1 a = some (.ins C dx fs)) ∧ sp (V.ref a :: vs) H1 Q (E σ)
theorem run_insS {pins : List (Addr × Obj)} {σ : L2.St} {H : Hp} {s : Shared} {Q : VK} {a dx : Addr} {fs : List (Str × V)} {us : List Value} {vs : List V} (c : StX.CallO X.K C g) (F : FnR X.prog X.w X.K X.mg X.base CX k g sp) (hr : Room k X.A) (hx : PassesAt CX X σ (E σ)) (I : L2.Inv X pins σ H s)
    (ha : H a = some (.ins C dx fs)) (r : Vals vs us) (h : sp (V.ref a :: vs) H Q (E σ)) : wpAny (model X.prog X.w) X.A (call (.ref a) us) (EP X pins σ Q) X.xe s := by
  obtain ⟨mA, J, _⟩ := ins_get I.hok ha
  obtain ⟨od, J, _⟩ := J.look
  exact wpAny_call (PySem.W.kco_code I.kIn J rfl c.at_ c.fn c.fi (run_fnRS (us := .ref a :: us) (vs := .ref a :: vs) F hr hx I (.cons rfl r) h))
theorem pe_callIS (c : StX.CallO X.K C g) (F : FnR X.prog X.w X.K X.mg X.base CX k g sp) (hr : Room k X.A) (hx : ∀ σ, PassesAt CX X σ (E σ)) (hN : X.N[i]? = some x) (hv : Vis X.env.scope x) (ha : PA X (e :: es) t)
    (hd : (x == ("__debug__" : Str)) = false := by decide) (hcd : (x == ("__classdict__" : Str)) = false := by decide)
    (he : starEach (e :: es) X.env = (false, eval e X.env) :: starEach es X.env := by rfl) (hpl : (backTo pos (starEach es X.env)).any (·.1) = false := by rfl) : PE X (.Call (.Name x p) (e :: es) [] pos) (tCallIS i C sp E t) := by
  refine ⟨fun pins s σ H Q I h => ?_⟩
  obtain ⟨a, hs, h⟩ := h
  refine wpAny_Call_Name_kw (thn ((pe_var (pos := p) (i := i) hN hv hd hcd).run pins s σ H (fun v H1 => v = .ref a ∧ H1 = H) I ⟨.ref a, hs, rfl, rfl⟩) fun u s1 ⟨v, H1, I1, r1, ev, eH⟩ => ?_)
  subst ev
  rw [eH] at I1
  cases r1
  refine StX.callO_with (thn (ha.run pos pins s1 σ H _ I1 h) fun us s2 ⟨vs, H2, I2, r, ⟨dx, fs, hi⟩, q2⟩ => ?_) he hpl
  obtain ⟨mA, J, _⟩ := ins_get I2.hok hi
  obtain ⟨od, J, _⟩ := J.look
  exact ⟨⟨C, _, _, J, rfl⟩, run_insS c F hr (hx σ) I2 hi r q2⟩
theorem pe_callIS0 (c : StX.CallO X.K C g) (F : FnR X.prog X.w X.K X.mg X.base CX k g sp) (hr : Room k X.A) (hx : ∀ σ, PassesAt CX X σ (E σ)) (hN : X.N[i]? = some x) (hv : Vis X.env.scope x)
    (hd : (x == ("__debug__" : Str)) = false := by decide) (hcd : (x == ("__classdict__" : Str)) = false := by decide) : PE X (.Call (.Name x p) [] [] pos) (tCallIS i C sp E tNil) := by
  refine ⟨fun pins s σ H Q I h => ?_⟩
  obtain ⟨a, hs, ⟨dx, fs, hi⟩, h⟩ := h
  refine wpAny_Call_Name_kw (thn ((pe_var (pos := p) (i := i) hN hv hd hcd).run pins s σ H (fun v H1 => v = .ref a ∧ H1 = H) I ⟨.ref a, hs, rfl, rfl⟩) fun u s1 ⟨v, H1, I1, r1, ev, eH⟩ => ?_)
  subst ev
  rw [eH] at I1
  cases r1
  obtain ⟨mA, J, _⟩ := ins_get I1.hok hi
  obtain ⟨od, J, _⟩ := J.look
  exact PySem.W.kco_callWith0 (K := X.K) I1.kIn J rfl c.at_ (run_insS (us := []) c F hr (hx σ) I1 hi .nil h)
end
end Own

/-! Several except clauses, each with a name for the error. -/
namespace TryAs
open PySem PySem.Spec PyProof.Rows L2
abbrev Su := Addr → Value → Option Addr → TS
/-- the ends of a suite whose name in slot i goes behind it -/
def endsOf (i : Nat) (D : Ends) : Ends := { nx := fun σ' H' => D.nx (σ'.set i none) H', rt := D.rt, bk := fun σ' H' => D.bk (σ'.set i none) H', ct := fun σ' H' => D.ct (σ'.set i none) H' }
/-- what the clauses wish of an error, from the first on: class, slot of the name, suite -/
def wAsM (K : PySem.W.Frag) (Wout : WX) (D : Ends) : List (Value × Nat × Su) → WX
  | [] => Wout
  | (c, i, ts) :: r => fun cls d σ H => ∃ b, PySem.W.exmOne K cls c = some b ∧ (b = true → ∀ a, H a = none → ts a cls d (endsOf i D) (σ.set i (some (.ref a))) H) ∧ (b = false → wAsM K Wout D r cls d σ H)
inductive Hds (X : Cx) : List ExceptHandler → List (Value × Nat × Su) → Prop
  | nil : Hds X [] []
  | cons {x n : Str} {c : Value} {i : Nat} {ts : Su} {b₀ : Stmt} {suite : List Stmt} {np pos' : Pos} {hds : List ExceptHandler} {l : List (Value × Nat × Su)} (hi : X.N[i]? = some n) (hln : X.env.kindOf n = some .local) (hc : Names X x c)
      (hsu : ∀ (a : Addr) (oe : Obj) (cls : Value) (d : Option Addr) (pn : List (Addr × Obj)), Zc cls d oe → (∃ vs, oe.data = .fields vs) → PSs (X.suite a ((a, oe) :: pn)) (b₀ :: suite) (ts a cls d)) (r : Hds X hds l) :
      Hds X (.ExceptHandler (some (.Name x np)) (some n) (b₀ :: suite) pos' :: hds) ((c, i, ts) :: l)
section
variable {X : Cx} {body : List Stmt} {h₀ : ExceptHandler} {hds : List ExceptHandler} {l : List (Value × Nat × Su)} {pos : Pos} {tb : WX → TS} {Wout : WX}
theorem ps_try_asM (hs : X.stack = X.env :: X.outer) (hf : X.env.frame = some X.env.locals) (hN : X.N.Nodup) (tk : Takes X Wout)
    (hb : ∀ (W : WX) (pn : List (Addr × Obj)) (xe : Value → Shared → Prop), Takes (X.tr pn xe) W → PassesOwn (model X.prog X.w) X.A X.env xe → PSs (X.tr pn xe) body (tb W))
    (hh : Hds X (h₀ :: hds) l) : PS X (.Try body (h₀ :: hds) [] [] pos) (fun D σ H => tb (wAsM X.K Wout D l) D σ H) := by
  refine ⟨fun pins s σ H D I h => wpAny_Try_except ?_⟩
  have ok := I.ok
  have hfr : X.A.frames = some (X.env :: X.outer) := by rw [ok.frames, hs]
  refine wpAny_mono ((hb (wAsM X.K Wout D l) (X.pn ++ pins) (fun e s₁ => wpAny (model X.prog X.w) X.A (noteFrame e X.env) (fun _ s₂ => wpAny (model X.prog X.w) X.A (setFlight e none) (fun _ s₃ =>
    wpAny (model X.prog X.w) X.A (handleBy e X.env (h₀ :: hds)) (SP X pins D) X.xe s₃) X.xe s₂) X.xe s₁) (fun u s' xx => ?_) PassesOwn.looking).run [] s σ H D (I.toTry _) h) (fun f s1 hsp => ?_) (fun e s1 he => he)
  · obtain ⟨a, B, sI, pins', σ', H', cls, d, rfl, J', nb, up, sky, na, os, ag, w⟩ := xx
    have J : Inv X pins σ' H' sI := J'.ofTry ok
    show wpAny (model X.prog X.w) X.A (noteFrame (.ref a) X.env) _ _ _
    refine Sky.land Zc.steady hfr hf (show Sky B (X.env :: X.outer) a (Zc cls d) X.env.locals s'.heap by rw [← hs]; exact sky) fun h3 fl3 up3 => ?_
    have J3 : Inv X pins σ' H' { s' with heap := h3 } := J.landed nb fl3.1 (up.trans up3) os ag
    obtain ⟨oe3, vs3, he3, hz3, hd3⟩ := fl3.there
    have nfr : a ∉ frs (X.env :: X.outer) := fun hm => by
      obtain ⟨_, o', e', hnf⟩ := fl3.2.2.1.mem hm
      rw [he3] at e'
      cases e'
      exact hnf _ hd3
    have nL : a ≠ X.env.locals := fun z => nfr (List.mem_filterMap.mpr ⟨X.env, List.mem_cons_self, by rw [hf, z]⟩)
    have nF : a ∉ X.fs := fun hm => by
      obtain ⟨e, he, q⟩ := List.mem_filterMap.mp hm
      exact nfr (List.mem_filterMap.mpr ⟨e, List.mem_cons_of_mem _ he, q⟩)
    have S3 := J3.suite he3 hd3 na nL nF
    have go : ∀ {hds' : List ExceptHandler} {l' : List (Value × Nat × Su)}, Hds X hds' l' → wAsM X.K Wout D l' cls d σ' H' →
        wpAny (model X.prog X.w) X.A (handleBy (.ref a) X.env hds') (SP X pins D) X.xe { s' with heap := h3 } := fun {hds' l'} hk => by
      induction hk with
      | nil =>
        intro w
        refine wpAny_handleBy_nil ?_
        obtain ⟨k1, k2, k3, oe, vs, T, oT, ts', he, hz, hd, h1, hr⟩ := id fl3
        unfold PySem.passOn
        refine wpAny_bind (wpAny_field he hd h1 ?_)
        rw [if_neg (show ¬ ((Value.ref T == Value.none) = true) from by simp)]
        have fin : wpAny (model X.prog X.w) X.A (setFlight (.ref a) X.env.frame) (fun _ s4 => wpAny (model X.prog X.w) X.A (throw (.ref a) : Sem Flow) (SP X pins D) X.xe s4) X.xe { s' with heap := h3 } := by
          rw [hf]
          exact HandSPX.setFlight_upZ fl3 fun h4 hh4 up4 => wpAny_throw (tk _ _ ⟨a, B, sI, pins, σ', H', cls, d, rfl, J, nb, (up.trans up3).trans up4, .inr (.inr (by rw [hs]; exact hh4)), na, os, ag, w⟩)
        first
          | exact wpAny_bind (wpAny_pure (wpAny_bind fin))
          | exact wpAny_bind fin
      | @cons x n c i ts b₀ suite np pos' hds2 l2 hi hln hc hsu r ih =>
        intro w
        obtain ⟨b, hb1, hyes, hno⟩ := w
        refine wpAny_handleBy_cons (codeAny_handlers_test ?_) (by intro q; cases q)
        have LT : PySem.W.Looks (model X.prog X.w) h3 (typeOf (.ref a)) cls := fun A Q E s k q => wpAny_typeOf_ref (k _ _ he3) (by rw [hz3.1]; exact q)
        have LM := PySem.W.exm_one (M := model X.prog X.w) (J3.kIn) LT hb1
        have test : ∀ {Q : Value → Shared → Prop} {E : Value → Shared → Prop}, Q c { s' with heap := h3 } → wpAny (model X.prog X.w) (X.A.mark (some (.ref a))) (eval (.Name x np) X.env) Q E { s' with heap := h3 } := fun {Q E} q => by
          obtain ⟨hg, hdbg, hm | ⟨hm, hv, hnn⟩⟩ := hc
          · exact ld_glob (X := X.suite a ((a, oe3) :: (X.pn ++ pins))) S3 hg hm q hdbg
          · exact ld_blt (X := X.suite a ((a, oe3) :: (X.pn ++ pins))) S3 hg hm hv q hnn hdbg
        refine test (LM.here ?_)
        cases b with
        | false => exact ih (hno rfl)
        | true =>
          refine codeAny_handlers_suite_as (HandSPX.lands_againZ fl3 fun h4 fl4 up4 => ?_)
          have J4 : Inv X pins σ' H' { s' with heap := h4 } := J.landed nb fl4.1 ((up.trans up3).trans up4) os ag
          obtain ⟨oe4, vs4, he4, hz4, hd4⟩ := fl4.there
          refine store_ok (X := X.suite a ((a, oe4) :: (X.pn ++ pins))) (v := .ref a) (J4.suite he4 hd4 na nL nF) hN hi (.inl hln) rfl (fun s5 S5 => ?_) (.inr hln)
          refine wpAny_mono ((hsu a oe4 cls d (X.pn ++ pins) hz4 ⟨_, hd4⟩).run [] s5 _ H' _ S5 (hyes rfl a na)) (fun f s6 hsp => ?_) (fun _ _ z => False.elim z)
          cases f with
          | next =>
            obtain ⟨σ6, H6, S6, q6⟩ := hsp
            exact gone_ok (S6.unsuite ok) hN hi hln fun s7 J7 => ⟨_, _, J7, q6⟩
          | brk =>
            obtain ⟨σ6, H6, S6, q6⟩ := hsp
            exact gone_ok (S6.unsuite ok) hN hi hln fun s7 J7 => ⟨_, _, J7, q6⟩
          | cont =>
            obtain ⟨σ6, H6, S6, q6⟩ := hsp
            exact gone_ok (S6.unsuite ok) hN hi hln fun s7 J7 => ⟨_, _, J7, q6⟩
          | ret u =>
            obtain ⟨v6, σ6, H6, S6, r6, q6⟩ := hsp
            exact gone_ok (S6.unsuite ok) hN hi hln fun s7 J7 => ⟨_, _, _, J7, r6, q6⟩
    exact go hh w
  · cases f with
    | next =>
      obtain ⟨σ', H', J', q⟩ := hsp
      exact wpAny_execs_nil ⟨σ', H', J'.ofTry ok, q⟩
    | brk =>
      obtain ⟨σ', H', J', q⟩ := hsp
      exact ⟨σ', H', J'.ofTry ok, q⟩
    | cont =>
      obtain ⟨σ', H', J', q⟩ := hsp
      exact ⟨σ', H', J'.ofTry ok, q⟩
    | ret u =>
      obtain ⟨v, σ', H', J', r, q⟩ := hsp
      exact ⟨v, σ', H', J'.ofTry ok, r, q⟩
end
end TryAs

/-! len and in of instances by their own defs; methods that raise, in a try. -/
namespace Own
open PySem PySem.Spec PyProof.Rows L2
section
variable {X : Cx} {CX : CXT} {k : Nat} {C g : Addr} {sp : Sp} {E : XK}
def rLenO (C : Addr) (sp : Sp) (E : XK) : List V → Hp → VK → Prop := fun xs H Q => ∃ a dx fs, xs = [.ref a] ∧ H a = some (.ins C dx fs) ∧ sp [.ref a] H (fun v H' => ∃ n : Nat, v = .int n ∧ n < 2 ^ 62 ∧ Q v H') E
theorem call_lenO (F : FnR X.prog X.w X.K X.mg X.base CX k g sp) (hs : PySem.W.findIn X.K (.ref C) "__len__" = some (some (.ref g))) (hf : PySem.W.isFn X.K (.ref g) = true)
    (hr : Room (k + 1) X.A) (hx : Passes CX X E) : CallR X (.builtin "len") (rLenO C sp E) := by
  intro pins s σ H xs us Q I r h
  obtain ⟨a, dx, fs, rfl, ha, hsp⟩ := h
  obtain ⟨u, rfl, r1⟩ : ∃ u, us = [u] ∧ RelV (.ref a) u := by
    cases r with
    | cons r1 rr =>
      cases rr
      exact ⟨_, rfl, r1⟩
  cases r1
  obtain ⟨mA, J, _⟩ := ins_get I.hok ha
  obtain ⟨od, J, _⟩ := J.look
  obtain ⟨m, hF⟩ := I.fr
  refine PySem.W.len_K hF I.ok.mod.kin J hs hf (wpAny_mono (run_at F hr.in1 I.env0.frames hx I (us := [.ref a]) (vs := [.ref a]) (.cons rfl .nil) hsp) (fun u s' z => ?_) fun _ _ z => z)
  obtain ⟨v, H', I', rv, n, rfl, hn, q⟩ := z
  obtain ⟨t, rfl⟩ := rv
  exact ⟨⟨by omega, by omega⟩, .int n, H', I'.tok _, ⟨_, rfl⟩, q⟩
/-- x in o, o an instance -/
def rInO (C : Addr) (sp : Sp) (E : XK) : R2 := fun x y H Q => ∃ a dx fs, y = .ref a ∧ H a = some (.ins C dx fs) ∧ sp [.ref a, x] H (fun v H' => ∃ t, v = .bl t ∧ Q v H') E
theorem op_inO (F : FnR X.prog X.w X.K X.mg X.base CX k g sp) (hs : PySem.W.findIn X.K (.ref C) "__contains__" = some (some (.ref g))) (hf : PySem.W.isFn X.K (.ref g) = true)
    (hr : Room k X.A) (hx : Passes CX X E) : OpR X (compareOp .In) (rInO C sp E) := by
  intro pins s σ H x y v u Q I rx ry h
  obtain ⟨a, dx, fs, rfl, ha, hsp⟩ := h
  cases ry
  obtain ⟨mA, J, _⟩ := ins_get I.hok ha
  obtain ⟨od, J, _⟩ := J.look
  obtain ⟨m, hF⟩ := I.fr
  refine PySem.W.in_K hF I.ok.mod.kin J hs hf ?_
  refine wpAny_mono (run_at F hr I.env0.frames hx I (us := [.ref a, v]) (vs := [.ref a, x]) (.cons rfl (.cons rx .nil)) hsp) (fun u s' z => ?_) fun _ _ z => z
  obtain ⟨w, H', I', rv, t, rfl, q⟩ := z
  cases rv
  exact wpAny_truthy_bool ⟨.bl t, H', I', rfl, q⟩
end
section
variable {X : Cx} {CX : CXT} {k : Nat} {C f : Addr} {sp : Sp} {E : L2.St → XK} {m : Str} {o e : Expr} {es : List Expr} {t : TA} {ta : TE} {p pos apos : Pos}
/-- o.m(e, ..) that may raise, at the slots σ -/
def tMethS (C : Addr) (m : Str) (sp : Sp) (E : L2.St → XK) (ta : TE) (t : TA) : TE := fun σ H Q => ta σ H fun x H1 => ∃ a dx fs, x = .ref a ∧ H1 a = some (.ins C dx fs) ∧ fs.lookup m = none ∧ t σ H1 fun vs H2 => sp (x :: vs) H2 Q (E σ)
theorem pe_methW {pl : Sem Bool} (he : PE X o ta) (c : Cls X.K C) (hm : Meth X.K C m f) (F : FnR X.prog X.w X.K X.mg X.base CX k f sp) (hr : Room k X.A) (hx : ∀ σ, PassesAt CX X σ (E σ)) (ha : PA X (e :: es) t)
    (hst : starEach (e :: es) X.env = (false, eval e X.env) :: starEach es X.env := by rfl) (hpl : (backTo pos (starEach es X.env)).any (·.1) = false := by rfl)
    (ht : eval (.Call (.Attribute o m apos) (e :: es) [] pos) X.env = (do
      let ov ← eval o X.env
      standAt apos.atName
      let (f, first) ← holding [ov] (getMethod ov m pl)
      callWith pos f first (backTo pos (starEach (e :: es) X.env)) (backToKw pos (keywordEach [] X.env))) := by rfl) :
    PE X (.Call (.Attribute o m apos) (e :: es) [] pos) (tMethS C m sp E ta t) := by
  refine ⟨fun pins s σ H Q I h => ?_⟩
  refine PySem.W.methodCall_KW (pl := pl) (thn (he.run pins s σ H _ I h) fun u s1 ⟨x, H1, I1, rx, a, dx, fs, ex, ea, l, q⟩ => ?_) ht
  subst ex
  obtain rfl : u = Value.ref a := rx
  refine getmeth_ok I1 ea c hm l ?_
  refine PySem.W.callWith_K (first := [.ref a]) (h₀ := X.base) I.ok.mod.kin hm.kp (thn (ha.run pos pins s1 σ H1 _ I1 q) fun us s2 ⟨vs, H2, I2, r, q2⟩ => ⟨I2.kIn, ?_⟩) hst hpl
  exact wpAny_call (run_fnRS (us := .ref a :: us) (vs := .ref a :: vs) F hr (hx σ) I2 (.cons rfl r) q2)
end
end Own

namespace Law
open PySem PySem.Spec PyProof.Rows L2
def top (i : Nat) : Stmt := PySem.Challenge.pw_rungbounds_k60_whole_lines_refused.main.body.getD i (.Pass ⟨0, 0, 0, 0⟩)
abbrev sBox : Stmt := top 47
abbrev sTake : Stmt := top 48
/-- the box at b: the cells in the list at l, the place, what is left of a great cell, the seed -/
def Box (H : Hp) (b l : Addr) : Prop := ∃ (ns : List Int) (i : Nat) (q s : Int), H b = some (.lst [.ref l, .int i, .int q, .int s]) ∧ H l = some (.lst (ns.map V.int)) ∧ ns.length ≤ 63
theorem Box.ne {H : Hp} {b l : Addr} (B : Box H b l) : l ≠ b := fun z => by
  obtain ⟨ns, i, q, s, h1, h2, _⟩ := B
  rw [z, h1] at h2
  have e := HO.lst.inj (Option.some.inj h2)
  cases ns with
  | nil => cases e
  | cons n ns => cases e
theorem Box.keep {H H' : Hp} {b l : Addr} (B : Box H b l) (k : ∀ c, c = b ∨ c = l → H' c = H c) : Box H' b l := by
  obtain ⟨ns, i, q, s, h1, h2, h3⟩ := B
  exact ⟨ns, i, q, s, (k b (.inl rfl)).trans h1, (k l (.inr rfl)).trans h2, h3⟩
/-- a draw: 0 ≤ r < size; nothing but the box has changed -/
def spTake : Sp := fun vs H Q _ => ∃ (b l : Addr) (n : Int), vs = [.ref b, .int n] ∧ Box H b l ∧ 0 < n ∧ n.natAbs < 2 ^ 8000 ∧
  ∀ (r : Int) (H' : Hp), 0 ≤ r → r < n → Box H' b l → (∀ c, c ≠ b → H' c = H c) → Q (.int r) H'
def spBox (K : PySem.W.Frag) : Sp := fun vs H Q _ => ∃ (a : Addr) (ns : List Int), vs = [.ref a] ∧ SqL K H a (ns.map V.int) ∧ ns.length ≤ 63 ∧
  ∀ (b l : Addr) (H' : Hp), Box H' b l → H b = none → H l = none → Same H H' → Q (.ref b) H'
structure BoxTxt (K : PySem.W.Frag) (mg : Str → Option Value) : Prop where
  len : mg "len" = none
  int : mg "int" = none
section
variable {P : Program} {w : World} {K : PySem.W.Frag} {mg : Str → Option Value} {base : Heap}
theorem scTake : FnScope ["_law_box_here", "_law_size", "_law_cell", "_law_digit"] ["_law_box_here", "_law_size"] (defScope sTake) := ⟨rfl, rfl, rfl, by decide +kernel, rfl, by decide +kernel, by decide +kernel⟩
theorem if_t {c : Bool} {A B : Prop} (hc : c = true) (h : A) : if c = true then A else B := by
  rw [hc]
  exact h
theorem if_f {c : Bool} {A B : Prop} (hc : c = false) (h : B) : if c = true then A else B := by
  rw [hc]
  exact h
theorem pow18 : CPow 10 18 := ⟨by decide, by decide, by decide⟩
theorem at_box {l : Addr} {i q s : Int} : atI [V.ref l, .int i, .int q, .int s] 0 = some (.ref l) ∧ atI [V.ref l, .int i, .int q, .int s] 1 = some (.int i) ∧ atI [V.ref l, .int i, .int q, .int s] 2 = some (.int q) ∧ atI [V.ref l, .int i, .int q, .int s] 3 = some (.int s) := ⟨rfl, rfl, rfl, rfl⟩
theorem ok_take {f : Addr} {fd : FuncData} (F : Fun K "_law_take" "_law_take" sTake f fd) (T : BoxTxt K mg) : FnOk P w K mg base CX0 1 f fd ["_law_box_here", "_law_size"] spTake := by
  refine F.ok scTake (fun vs H Q E h => ?_) (fun cdv A outer s H vs Q E hr h => ?_)
  · obtain ⟨b, l, n, rfl, _⟩ := h
    rfl
  · obtain ⟨b, l, n, rfl, B, hn0, hn1, k⟩ := h
    refine ⟨_, C8.pss_cut (ps_if (PW.pt (pw_and (pt_cmpR op_lt (pe_ix ix_list (pv 0) pe_int (fun _ _ => rfl)) pe_int (nomark _))
          (pw_and1 (pt_cmpR op_lt (pe_ix ix_list (pv 0) pe_int (fun _ _ => rfl)) (pe_callB call_len_seq (by rfl) T.len PySem.boot_len (pa_cons (pe_ix ix_list (pv 0) pe_int (fun _ _ => rfl)) pa_nil)) (nomark _)))))
        (pss_cons (ps_set (i := 2) scTake.nd rfl (Or.inl rfl) (pe_ix ix_list (pe_ix ix_list (pv 0) pe_int (fun _ _ => rfl)) (pe_ix ix_list (pv 0) pe_int (fun _ _ => rfl)) (fun _ _ => rfl)))
        (pss_cons (ps_asg (pe_op op_add (pe_ix ix_list (pv 0) pe_int (fun _ _ => rfl)) pe_int) (pg_sub (pv 0) pe_int set_list))
        (pss_one (ps_if (pt_cmpR op_ge (pv 2) (pe_op op_pow pe_int pe_int) (nomark _))
          (pss_one (ps_asg (pe_op op_sub (pv 2) (pe_op op_pow pe_int pe_int)) (pg_sub (pv 0) pe_int set_list)))
          (pss_one (ps_asg (pe_op op_mod (pe_callTy call_int1 (by rfl) T.int (by decide +kernel) (pa_cons (pe_op op_add (pe_op op_add (pe_op op_mul (pe_ix ix_list (pv 0) pe_int (fun _ _ => rfl)) pe_int) (pe_op op_mul (pv 2) pe_int)) pe_int) pa_nil)) pe_int) (pg_sub (pv 0) pe_int set_list)))))))
        pss_nil)
      (pss_cons (ps_if (pt_cmpR op_gt (pe_ix ix_list (pv 0) pe_int (fun _ _ => rfl)) pe_int (nomark _))
        (pss_cons (ps_set (i := 3) scTake.nd rfl (Or.inl rfl) (pe_op op_mod (pe_callTy call_int1 (by rfl) T.int (by decide +kernel) (pa_cons (pe_ix ix_list (pv 0) pe_int (fun _ _ => rfl)) pa_nil)) (pv 1)))
        (pss_cons (ps_asg (pe_op op_fdivW (pe_ix ix_list (pv 0) pe_int (fun _ _ => rfl)) (pv 1)) (pg_sub (pv 0) pe_int set_list))
        (pss_one (ps_ret (pv 3))))) pss_nil)
      (pss_cons (ps_asg (pe_op op_mod (pe_callTy call_int1 (by rfl) T.int (by decide +kernel) (pa_cons (pe_op op_mul (pe_ix ix_list (pv 0) pe_int (fun _ _ => rfl)) pe_int) pa_nil)) pe_int) (pg_sub (pv 0) pe_int set_list))
      (pss_one (ps_ret (pe_op op_mod (pe_callTy call_int1 (by rfl) T.int (by decide +kernel) (pa_cons (pe_op op_fdiv (pe_ix ix_list (pv 0) pe_int (fun _ _ => rfl)) pe_int) pa_nil)) (pv 1)))))), ?_⟩
    obtain ⟨ns, i, q, sd, hb, hl, h63⟩ := id B
    have hne := B.ne
    have keepB : ∀ {H' : Hp} {i' : Nat} {q' s' : Int}, H' b = some (.lst [.ref l, .int i', .int q', .int s']) → (∀ c, c ≠ b → H' c = H c) → Box H' b l :=
      fun {H' i' q' s'} h1 h2 => ⟨ns, i', q', s', h1, (h2 l hne).trans hl, h63⟩
    refine ⟨fun σ' H' => ∃ (v : Option V) (i' : Nat) (q' s' : Int), σ' = [some (.ref b), some (.int n), v, none] ∧ H' b = some (.lst [.ref l, .int i', .int q', .int s']) ∧ ∀ c, c ≠ b → H' c = H c, ?_, ?_⟩
    · -- a new cell is read, or not
      refine ⟨_, rfl, b, _, _, _, rfl, rfl, SqL.of hb, at_box.2.2.1, _, _, rfl, rfl, _, rfl, ?_⟩
      by_cases c1 : q < 1
      · refine if_t (decide_eq_true c1) ?_
        refine ⟨_, rfl, b, _, _, _, rfl, rfl, SqL.of hb, at_box.2.1, _, rfl, b, _, _, _, rfl, rfl, SqL.of hb, at_box.1, l, _, rfl, .inl (SqL.of hl), _, _, rfl, rfl, _, rfl, ?_⟩
        by_cases c2 : (i : Int) < ((ns.map V.int).length : Int)
        · refine if_t (decide_eq_true c2) ?_
          rw [List.length_map] at c2
          obtain ⟨z, hz⟩ : ∃ z, ns[i]? = some z := ⟨_, List.getElem?_eq_getElem (by omega)⟩
          have hz' : atI (ns.map V.int) (i : Int) = some (V.int z) := atI_nat (by rw [List.getElem?_map, hz]; rfl)
          refine ⟨_, rfl, b, _, _, _, rfl, rfl, SqL.of hb, at_box.1, _, rfl, b, _, _, _, rfl, rfl, SqL.of hb, at_box.2.1, l, _, _, _, rfl, rfl, SqL.of hl, hz', ?_⟩
          refine ⟨_, rfl, b, _, _, _, rfl, rfl, SqL.of hb, at_box.2.1, _, _, rfl, rfl, _, rfl, b, _, _, 1, rfl, rfl, hb, rfl, ?_⟩
          have h1 : ∀ (o : HO), upd H b o b = some o := fun o => upd_same
          have hc : ∀ (o : HO) c, c ≠ b → upd H b o c = H c := fun o c hc => upd_ne hc
          refine ⟨_, rfl, _, _, rfl, rfl, pow18, _, _, rfl, rfl, _, rfl, ?_⟩
          refine ite2 (fun _ => ?_) fun _ => ?_
          · refine ⟨_, rfl, _, _, rfl, rfl, pow18, _, _, rfl, rfl, _, rfl, b, _, _, 2, rfl, rfl, h1 _, rfl, ?_⟩
            exact ⟨some (.int z), i + 1, _, sd, rfl, upd_same, fun c hc' => by rw [upd_ne hc', upd_ne hc']⟩
          · refine ⟨_, rfl, b, _, _, _, rfl, rfl, SqL.of (h1 _), at_box.2.2.2, _, _, rfl, rfl, .inr ⟨by decide, by decide⟩, _, rfl, _, _, rfl, rfl, .inr ⟨by decide, by decide⟩, _, _, rfl, rfl, _, _, rfl, rfl, .inl ⟨_, rfl, _, _, rfl, rfl, (by show (0 : Int) < 2147483647; decide), _, rfl, b, _, _, 3, rfl, rfl, h1 _, rfl, ?_⟩⟩
            exact ⟨some (.int z), i + 1, q, _, rfl, upd_same, fun c hc' => by rw [upd_ne hc', upd_ne hc']⟩
        · refine if_f (decide_eq_false c2) ?_
          exact ⟨none, i, q, sd, rfl, hb, fun _ _ => rfl⟩
      · refine if_f (decide_eq_false c1) ?_
        exact ⟨none, i, q, sd, rfl, hb, fun _ _ => rfl⟩
    · rintro σ' H' ⟨v, i', q', s', rfl, hb', ho⟩
      refine ⟨_, rfl, b, _, _, _, rfl, rfl, SqL.of hb', at_box.2.2.1, _, _, rfl, rfl, _, rfl, ?_⟩
      refine ite2 (fun _ => ?_) fun _ => ?_
      · refine ⟨_, rfl, b, _, _, _, rfl, rfl, SqL.of hb', at_box.2.2.1, .inl ⟨_, rfl, _, rfl, _, _, rfl, rfl, hn0, ?_⟩⟩
        refine ⟨_, rfl, b, _, _, _, rfl, rfl, SqL.of hb', at_box.2.2.1, _, rfl, _, _, rfl, rfl, wide_div hn0 hn1 (by decide) (by decide), _, rfl, b, _, _, 2, rfl, rfl, hb', rfl, _, rfl, ?_⟩
        exact k _ _ (Int.emod_nonneg _ (by omega)) (Int.emod_lt_of_pos _ hn0) (keepB (q' := q' / n) upd_same fun c hc => (upd_ne hc).trans (ho c hc)) fun c hc => (upd_ne hc).trans (ho c hc)
      · refine ⟨_, rfl, b, _, _, _, rfl, rfl, SqL.of hb', at_box.2.2.2, _, _, rfl, rfl, .inr ⟨by decide, by decide⟩, .inl ⟨_, rfl, _, _, rfl, rfl, (by show (0 : Int) < 2147483647; decide), _, rfl, b, _, _, 3, rfl, rfl, hb', rfl, ?_⟩⟩
        refine ⟨_, rfl, b, _, _, _, rfl, rfl, SqL.of upd_same, at_box.2.2.2, _, _, rfl, rfl, ⟨by decide, by decide⟩, .inl ⟨_, rfl, _, rfl, _, _, rfl, rfl, hn0, ?_⟩⟩
        exact k _ _ (Int.emod_nonneg _ (by omega)) (Int.emod_lt_of_pos _ hn0) (keepB upd_same fun c hc => (upd_ne hc).trans (ho c hc)) fun c hc => (upd_ne hc).trans (ho c hc)

theorem cut63 {xs : List V} (h : xs.length ≤ 63) : cutV xs none (some 63) = xs := by
  unfold cutV
  have e0 : HT.sIx xs.length 0 none = 0 := rfl
  have e1 : HT.sIx xs.length xs.length (some 63) = xs.length := by
    unfold HT.sIx
    simp
    omega
  rw [e0, e1, List.drop_zero, Nat.sub_zero, List.take_length]
theorem scBox : FnScope ["_law_script", "_law_cell"] ["_law_script"] (defScope sBox) := ⟨rfl, rfl, rfl, by decide +kernel, rfl, by decide +kernel, by decide +kernel⟩
theorem ok_box {f : Addr} {fd : FuncData} (F : Fun K "_law_box" "_law_box" sBox f fd) (T : BoxTxt K mg) : FnOk P w K mg base CX0 1 f fd ["_law_script"] (spBox K) := by
  refine F.ok scBox (fun vs H Q E h => ?_) (fun cdv A outer s H vs Q E hr h => ?_)
  · obtain ⟨a, ns, rfl, _⟩ := h
    rfl
  · obtain ⟨a, ns, rfl, hS, h63, k⟩ := h
    refine ⟨_, pss_one (ps_ret (pe_lst (pa_cons (pe_lc (own := [("_law_cell", 1)]) (g := gName 1) (tt := tYes) (by rfl) scBox.nd (pi_list (pe_slice sl_list (pv 0) po_none (po_some pe_int)))
        (blkOk_by (own := [("_law_cell", 1)]) (N := ["_law_script", "_law_cell"]) (sc := defScope sBox) (by decide +kernel)) (fun _ _ _ _ _ => pg_name (i := 1) scBox.nd rfl (Or.inl rfl)) (fun _ _ _ _ _ => pts_nil)
        (fun _ _ _ _ _ => pe_callTy call_int1 (by rfl) T.int (by decide +kernel) (pa_cons (pv 1) pa_nil))) (pa_cons pe_int (pa_cons pe_int (pa_cons pe_int pa_nil)))))), ?_⟩
    have e63 : cutV (ns.map V.int) none (some 63) = ns.map V.int := cut63 (by rw [List.length_map]; exact h63)
    refine ⟨_, rfl, 63, rfl, a, _, rfl, hS, fun p hp => ?_⟩
    rw [e63]
    refine ⟨p, rfl, ⟨_, SqL.of upd_same⟩, fun D hD => ?_⟩
    have hpD : p ≠ D := fun z => by
      rw [z, upd_same] at hD
      cases hD
    have hD0 : H D = none := by rw [upd_ne (Ne.symm hpD)] at hD; exact hD
    refine lc_list (K := K) (a := p) (xs := ns.map V.int) (fun i H' => H' D = some (.lst ((ns.take i).map V.int)) ∧ H' p = some (.lst (ns.map V.int)) ∧ ∀ c, c ≠ D → c ≠ p → H' c = H c)
      ⟨upd_same, by rw [upd_ne hpD, upd_same], fun c h1 h2 => by rw [upd_ne h1, upd_ne h2]⟩ (fun i H' _ h => SqL.of h.2.1) ?_ ?_
    · rintro i y H' hi ⟨g1, g2, g3⟩
      obtain ⟨z, hz, rfl⟩ : ∃ z, ns[i]? = some z ∧ y = V.int z := by
        rw [List.getElem?_map] at hi
        cases e : ns[i]? with
        | none =>
          rw [e] at hi
          cases hi
        | some z =>
          rw [e] at hi
          exact ⟨z, rfl, (Option.some.inj hi).symm⟩
      refine ⟨rfl, ?_⟩
      have step : ∃ acc, H' D = some (.lst acc) ∧ acc.length < sizeLine ∧ (upd H' D (.lst (acc ++ [V.int z]))) D = some (.lst ((ns.take (i + 1)).map V.int)) ∧ (upd H' D (.lst (acc ++ [V.int z]))) p = some (.lst (ns.map V.int)) ∧
          ∀ c, c ≠ D → c ≠ p → (upd H' D (.lst (acc ++ [V.int z]))) c = H c := by
        refine ⟨_, g1, ?_, ?_⟩
        · rw [List.length_map, List.length_take]
          exact small1000 (by omega)
        · refine ⟨?_, by rw [upd_ne hpD]; exact g2, fun c h1 h2 => by rw [upd_ne h1]; exact g3 c h1 h2⟩
          rw [upd_same, List.take_succ, hz, Option.toList_some, List.map_append]
          rfl
      exact ⟨V.int z, rfl, .inl ⟨z, rfl, step⟩⟩
    · rintro H' ⟨g1, g2, g3⟩
      rw [List.length_map, List.take_length] at g1
      refine ⟨(by show 4 ≤ sizeLine; decide), fun b hb => ?_⟩
      have hDb : D ≠ b := ne_of_none g1 hb
      have hpb : p ≠ b := ne_of_none g2 hb
      refine k b D _ ⟨ns, 0, 0, 0, upd_same, by rw [upd_ne hDb]; exact g1, h63⟩ (by rw [← g3 b (Ne.symm hDb) (Ne.symm hpb)]; exact hb) hD0 fun c o hc => ?_
      have n1 : c ≠ D := ne_of_none hc hD0
      have n2 : c ≠ p := ne_of_none hc hp
      have n3 : c ≠ b := fun z => by
        rw [z, ← g3 b (Ne.symm hDb) (Ne.symm hpb), hb] at hc
        cases hc
      rw [upd_ne n3, g3 c n1 n2]
      exact hc
end
end Law



namespace Law
open PySem PySem.Spec PyProof.Rows L2 Sup
abbrev sErr : Stmt := inClass (top 3) 0
abbrev sChk : Stmt := top 14
/-- the way out by BadNumber -/
def Bad (C : Addr) (E : XK) (H : Hp) (v : Int) : Prop := ∀ d, H d = none → E (.ref C) (some d) (upd H d (.xd [("value", .int v)]))
def spChk (C : Addr) : Sp := fun vs H Q E => ∃ i : Int, vs = [.int i] ∧ i.natAbs < 2 ^ 1000 ∧ (i < 0 → Bad C E H i) ∧ (0 ≤ i → Q .non H)
theorem log_of {i : Int} {k : Nat} (hk : 0 < k) (h : i.natAbs < 2 ^ k) : i.natAbs.log2 < k := by
  by_cases hz : i.natAbs = 0
  · rw [hz, Nat.log2_zero]
    exact hk
  · exact (Nat.log2_lt hz).mpr h
section
variable {P : Program} {w : World} {K : PySem.W.Frag} {mg : Str → Option Value} {base : Heap} {C : Addr}
theorem scChk : FnScope ["number"] ["number"] (defScope sChk) := ⟨rfl, rfl, rfl, by decide +kernel, rfl, by decide +kernel, by decide +kernel⟩
theorem ok_chk {f : Addr} {fd : FuncData} (F : Fun K "check_not_negative" "check_not_negative" sChk f fd) (R : ErrOk P w K mg base "BadNumber" C "value" okInt) : FnOk P w K mg base (L2.CX P w) 4 f fd ["number"] (spChk C) := by
  refine F.okX scChk (fun vs H Q E h => ?_) (fun cdv A outer s H vs Q E hr h => ?_)
  · obtain ⟨i, rfl, _⟩ := h
    rfl
  · obtain ⟨i, rfl, hi, h1, h2⟩ := h
    refine ⟨_, pss_one (ps_if (pt_cmpR op_lt (pv 0) pe_int (nomark _)) (pss_one (ps_err R rfl (takes_of rfl rfl rfl rfl) hr (pa_cons (pv 0) pa_nil) rfl)) pss_nil), ?_⟩
    refine ⟨_, rfl, _, _, rfl, rfl, _, rfl, ?_⟩
    by_cases c : i < 0
    · refine if_t (decide_eq_true c) ⟨_, rfl, err_way ⟨i, rfl, log_of (by decide) (Nat.lt_of_lt_of_le hi (Nat.pow_le_pow_right (by decide) (by decide)))⟩ (h1 c)⟩
    · exact if_f (decide_eq_false c) (h2 (by omega))
end
def Sz (i : Int) : Prop := i.natAbs < 2 ^ 200
theorem Sz.mul {a b : Int} (ha : a.natAbs < 2 ^ 300) (hb : b.natAbs < 2 ^ 300) : CMulW a b := wide_mul ha hb (by decide) (by decide) (by decide)
theorem Sz.w {a : Int} (ha : Sz a) : a.natAbs < 2 ^ 300 := Nat.lt_of_lt_of_le ha (Nat.pow_le_pow_right (by decide) (by decide))
theorem Sz.t {a : Int} (ha : Sz a) : a.natAbs < 2 ^ 1000 := Nat.lt_of_lt_of_le ha (Nat.pow_le_pow_right (by decide) (by decide))
theorem Sz.of {i : Int} (h : i.natAbs ≤ 10 ^ 42) : Sz i := Nat.lt_of_le_of_lt h (by decide +kernel)
theorem pow_ok {j : Int} (h : 0 ≤ j ∧ j ≤ 1000000) : CPow 10 j := ⟨h.1, h.2, by decide⟩
theorem size_fit {n : Int} (h0 : 0 < n) (h : n ≤ 10 ^ 40) : n.natAbs < 2 ^ 8000 := by
  have h1 : n.natAbs ≤ 10 ^ 40 := by omega
  exact Nat.lt_of_le_of_lt h1 (by decide +kernel)
end Law

/-! Names, errors and the defs that check a name: for programs without a rack. -/
namespace Law
open PySem PySem.Spec PyProof.Rows L2 Sup
abbrev sCkn : Stmt := top 13
def letters : Str := "abcdefghijklmnopqrstuvwxyz"
/-- a name that breaks the rule for names -/
def badN (y : Str) : Bool := decide (y.length < 1) || decide (12 < y.length) || y.cps.toList.any fun c => !decide (c ∈ letters.cps.toList)
/-- a text that errors may tell -/
def Fit (y : Str) : Prop := y.length ≤ 60 ∧ ∀ c ∈ y.cps.toList, c < 1114112
theorem Fit.ok {y : Str} (h : Fit y) : okTxt (.str y) := ⟨y, rfl, by
  have := StrLaws.reprText_len y fun c hc => Nat.lt_of_lt_of_le (h.2 c hc) (by decide)
  have := h.1
  omega⟩
/-- the way out by an own error with one field, from a heap in which all stands as it stood -/
def BadX (C : Addr) (fl : Str) (E : XK) (H : Hp) (v : V) : Prop := ∀ (H' : Hp) (d : Addr), Same H H' → H' d = none → E (.ref C) (some d) (upd H' d (.xd [(fl, v)]))
abbrev Row := Str × Int
def known (rows : List Row) (y : Str) : Bool := (rows.map (·.1)).contains y
structure Errs where
  N : Addr
  T : Addr
  B : Addr
  M : Addr
  U : Addr
  P : Addr
  S : Addr
def spCkn (C : Errs) : Sp := fun vs H Q E => ∃ y : Str, vs = [.str y] ∧ Fit y ∧ (badN y = true → BadX C.N "name" E H (.str y)) ∧ (badN y = false → Q .non H)
structure NameTxt (K : PySem.W.Frag) (mg : Str → Option Value) : Prop where
  letters : ∃ t, mg "LETTERS" = some (.str letters t)
  longest : ∃ t, mg "LONGEST_NAME" = some (.int 12 t)
  len : mg "len" = none
section
variable {P : Program} {w : World} {K : PySem.W.Frag} {mg : Str → Option Value} {base : Heap} {C : Errs}
theorem scCkn : FnScope ["name", "letter"] ["name"] (defScope sCkn) := ⟨rfl, rfl, rfl, by decide +kernel, rfl, by decide +kernel, by decide +kernel⟩
theorem ok_ckn {f : Addr} {fd : FuncData} (F : Fun K "check_name" "check_name" sCkn f fd) (RN : ErrOk P w K mg base "BadName" C.N "name" okTxt) (T : NameTxt K mg) : FnOk P w K mg base (L2.CX P w) 4 f fd ["name"] (spCkn C) := by
  obtain ⟨t1, T1⟩ := T.letters
  obtain ⟨t2, T2⟩ := T.longest
  refine F.okX scCkn (fun vs H Q E h => ?_) (fun cdv A outer s H vs Q E hr h => ?_)
  · obtain ⟨y, rfl, _⟩ := h
    rfl
  · obtain ⟨y, rfl, fy, h1, h2⟩ := h
    have hr3 : Room 3 _ := hr
    refine ⟨_, (pss_cons (ps_if (pt_not (pt_chain op_le op_le pe_int (pe_callB call_len_str (by rfl) T.len PySem.boot_len (pa_cons (pv 0) pa_nil)) (pe_glob (v := .int 12) rfl T2 ⟨_, rfl⟩))) (pss_one (ps_err RN rfl (takes_of rfl rfl rfl rfl) hr3 (pa_cons (pv 0) pa_nil) rfl)) pss_nil)
      (pss_one (ps_for (passes_of rfl) rfl (pi_str (pv 0)) (pg_name (i := 1) scCkn.nd rfl (Or.inl rfl)) (pss_one (ps_if (pt_cmpR op_notIn_sign (pv 1) (pe_glob (v := .str letters) rfl T1 ⟨_, rfl⟩) rfl) (pss_one (ps_err RN rfl (takes_of rfl rfl rfl rfl) hr3 (pa_cons (pv 0) pa_nil) rfl)) pss_nil))))), ?_⟩
    have way : badN y = true → okTxt (.str y) ∧ ∀ d, H d = none → E (.ref C.N) (some d) (upd H d (.xd [("name", .str y)])) := fun hb => ⟨fy.ok, fun d hd => h1 hb H d (fun _ _ e => e) hd⟩
    refine ⟨_, rfl, y, rfl, by have := fy.1; rw [sizeLine_eq]; omega, _, _, rfl, rfl, _, rfl, ?_⟩
    by_cases c0 : (1 : Int) ≤ (y.length : Int)
    · refine if_t (decide_eq_true c0) ⟨_, _, rfl, rfl, _, rfl, ?_⟩
      by_cases c1 : (y.length : Int) ≤ 12
      · refine if_f (by rw [decide_eq_true c1]; rfl) ?_
        have e0 : decide (y.length < 1) = false := decide_eq_false (by omega)
        have e1 : decide (12 < y.length) = false := decide_eq_false (by omega)
        refine ⟨_, rfl, y, rfl, for_it walk_str (fun i σ' H' => ∃ v : Option V, σ' = [some (.str y), v] ∧ H' = H ∧ (y.cps.toList.take i).any (fun c => !decide (c ∈ letters.cps.toList)) = false) ⟨_, rfl, rfl, by simp⟩ (fun _ _ _ _ _ => True.intro) ?_ ?_⟩
        · rintro i x σ' H' H'' hi ⟨v, rfl, rfl, ha⟩ ⟨rfl, c, hc, rfl⟩
          have hc' : y.cps.toList[i]? = some c := by rw [← hc]; simp
          refine ⟨_, rfl, c, letters, rfl, rfl, _, rfl, ?_⟩
          by_cases cl : c ∈ letters.cps.toList
          · refine if_f (by rw [decide_eq_true cl]; rfl) ⟨_, rfl, rfl, ?_⟩
            rw [List.take_succ, hc', Option.toList_some, List.any_append, ha, List.any_cons, decide_eq_true cl]
            rfl
          · refine if_t (by rw [decide_eq_false cl]; rfl) ⟨_, rfl, ?_⟩
            obtain ⟨z1, z2⟩ := way (by
              unfold badN
              have : y.cps.toList.any (fun c => !decide (c ∈ letters.cps.toList)) = true := List.any_eq_true.mpr ⟨c, List.mem_of_getElem? hc', by simp [cl]⟩
              rw [this, Bool.or_true])
            exact err_way z1 z2
        · rintro σ' H' ⟨v, rfl, rfl, ha⟩
          refine h2 ?_
          unfold badN
          rw [e0, e1]
          rw [List.take_of_length_le (by simp)] at ha
          rw [ha]
          rfl
      · refine if_t (by rw [decide_eq_false c1]; rfl) ⟨_, rfl, ?_⟩
        obtain ⟨z1, z2⟩ := way (by
          unfold badN
          rw [decide_eq_true (show 12 < y.length by omega), Bool.or_true, Bool.true_or])
        exact err_way z1 z2
    · refine if_f (decide_eq_false c0) ⟨_, rfl, ?_⟩
      refine if_t rfl ⟨_, rfl, ?_⟩
      obtain ⟨z1, z2⟩ := way (by
        unfold badN
        rw [decide_eq_true (show y.length < 1 by omega), Bool.true_or, Bool.true_or])
      exact err_way z1 z2
end
end Law


/-! What the law's own defs of several laws want: comprehensions told by a function, draws, texts as data. -/
namespace Law
open PySem PySem.Spec PyProof.Rows L2
def SameB (b : Addr) (H H' : Hp) : Prop := ∀ c o, c ≠ b → H c = some o → H' c = some o
theorem SameB.of {b : Addr} {H H' : Hp} (k : ∀ c, c ≠ b → H' c = H c) : SameB b H H' := fun c o n e => (k c n).trans e
theorem SameB.trans {b : Addr} {H H1 H2 : Hp} (s : SameB b H H1) (t : SameB b H1 H2) : SameB b H H2 := fun c o n e => t c o n (s c o n e)
theorem SameB.of_same {b : Addr} {H H' : Hp} (s : Same H H') : SameB b H H' := fun c o _ e => s c o e
theorem same_tr {H H1 H2 : Hp} (s : Same H H1) (t : Same H1 H2) : Same H H2 := fun c o e => t c o (s c o e)
theorem same_rfl {H : Hp} : Same H H := fun _ _ e => e
theorem Room.u65 {k : Nat} {A : Around} (r : Room k A) : A.units + 65 < cLine := by have := r.un; omega
theorem Box.free {H : Hp} {b l d : Addr} (B : Box H b l) (h : H d = none) : b ≠ d ∧ l ≠ d := by
  obtain ⟨ns, i, q, s, h1, h2, _⟩ := B
  exact ⟨ne_of_none h1 h, ne_of_none h2 h⟩
theorem Box.at {H : Hp} {b l d : Addr} {o : HO} (B : Box H b l) (n : b ≠ d ∧ l ≠ d) : Box (upd H d o) b l := B.keep fun c hc => by
  rcases hc with rfl | rfl
  · exact upd_ne n.1
  · exact upd_ne n.2
theorem Box.same {H H' : Hp} {b l : Addr} (B : Box H b l) (s : Same H H') : Box H' b l := by
  obtain ⟨ns, i, q, s', h1, h2, h3⟩ := B
  exact ⟨ns, i, q, s', s _ _ h1, s _ _ h2, h3⟩
theorem Box.neT {H : Hp} {b l c : Addr} {xs : List V} (B : Box H b l) (h : H c = some (.tup xs)) : c ≠ b := fun z => by
  obtain ⟨_, _, _, _, q, _⟩ := B
  rw [z, q] at h
  cases h
theorem Box.neD {H : Hp} {b l c : Addr} {kv : List (Key × V)} (B : Box H b l) (h : H c = some (.dK kv)) : c ≠ b ∧ c ≠ l := by
  obtain ⟨_, _, _, _, q, q2, _⟩ := B
  exact ⟨fun z => (by rw [z, q] at h; cases h), fun z => (by rw [z, q2] at h; cases h)⟩
theorem Box.neI {H : Hp} {b l c C dx : Addr} {fs : List (Str × V)} (B : Box H b l) (h : H c = some (.ins C dx fs)) : c ≠ b ∧ c ≠ l := by
  obtain ⟨_, _, _, _, q, q2, _⟩ := B
  exact ⟨fun z => (by rw [z, q] at h; cases h), fun z => (by rw [z, q2] at h; cases h)⟩
theorem same_new {H : Hp} {p : Addr} {o : HO} (h : H p = none) : Same H (upd H p o) := fun b o' e => by
  rw [upd_ne (ne_of_none e h)]
  exact e
theorem none_back {H H' : Hp} {x : Addr} (s : Same H H') (h : H' x = none) : H x = none := by
  cases e : H x with
  | none => rfl
  | some o =>
    have z := s _ _ e
    rw [h] at z
    cases z
/-- within a comprehension whose turn i adds out i (or nothing), all else new -/
def LcP (D : Addr) (H1 : Hp) (out : Nat → Option V) (i : Nat) (H : Hp) : Prop := H D = some (.lst ((List.range i).filterMap out)) ∧ Same H1 H
section
variable {D : Addr} {H1 H H4 : Hp} {out : Nat → Option V} {i : Nat} {y : V}
theorem LcP.start (hD : H1 D = none) : LcP D H1 out 0 (upd H1 D (.lst [])) := ⟨upd_same, same_new hD⟩
theorem fm_len (i : Nat) : ((List.range i).filterMap out).length ≤ i := by
  have := List.length_filterMap_le out (List.range i)
  rw [List.length_range] at this
  exact this
theorem fm_succ : (List.range (i + 1)).filterMap out = (List.range i).filterMap out ++ (out i).toList := by
  rw [List.range_succ, List.filterMap_append]
  cases e : out i <;> simp [e]
theorem LcP.push (h : LcP D H1 out i H) (hD : H1 D = none) (s : Same H H4) (ho : out i = some y) (hi : i < 1000) :
    ∃ acc, H4 D = some (.lst acc) ∧ acc.length < sizeLine ∧ LcP D H1 out (i + 1) (upd H4 D (.lst (acc ++ [y]))) := by
  refine ⟨_, s _ _ h.1, small1000 (Nat.le_of_lt (Nat.lt_of_le_of_lt (fm_len i) hi)), ?_, fun b o e => ?_⟩
  · rw [upd_same, fm_succ, ho]
    rfl
  · rw [upd_ne (ne_of_none e hD)]
    exact s _ _ (h.2 _ _ e)
theorem LcP.skip (h : LcP D H1 out i H) (s : Same H H4) (ho : out i = none) : LcP D H1 out (i + 1) H4 := by
  refine ⟨?_, same_tr h.2 s⟩
  rw [fm_succ, ho, s _ _ h.1]
  simp
end
theorem range_fm {α β : Type} (f : α → Option β) (xs : List α) : (List.range xs.length).filterMap (fun i => xs[i]?.bind f) = xs.filterMap f := by
  induction xs with
  | nil => rfl
  | cons x xs ih =>
    rw [List.length_cons, List.range_succ_eq_map, List.filterMap_cons, List.filterMap_map, List.filterMap_cons]
    have e : (fun i => (x :: xs)[i]?.bind f) ∘ Nat.succ = fun i => xs[i]?.bind f := by
      funext i
      simp
    rw [e, ih]
    simp
theorem range_id {α : Type} (xs : List α) : (List.range xs.length).filterMap (fun i : Nat => xs[i]?) = xs := by
  have e := range_fm (some : α → Option α) xs
  have e1 : (fun i : Nat => xs[i]?.bind some) = fun i : Nat => xs[i]? := by
    funext i
    cases xs[i]? <;> rfl
  rw [e1] at e
  rw [e]
  simp
theorem fm_any {α β : Type} (p : α → Bool) (f : α → β) (xs : List α) : decide ((0 : Int) < (((xs.filterMap fun c => if p c = true then none else some (f c)).length : Nat) : Int)) = xs.any fun c => !p c := by
  induction xs with
  | nil => rfl
  | cons x xs ih =>
    rw [List.filterMap_cons, List.any_cons, ← ih]
    cases h : p x with
    | true => simp
    | false =>
      simp
theorem at_nat {xs : List V} {j : Nat} {v : V} (h : xs[j]? = some v) : atI xs (j : Int) = some v := atI_nat h
/-! texts as data -/
theorem ok_str {y : Str} (h : ∀ c ∈ y.cps.toList, c < 1114112) : PyData.canLay0 (.str y) = true := by
  have e : PyData.canLay0 (.str y) = PyData.strOk y := by simp only [PyData.canLay0]
  rw [e]
  unfold PyData.strOk
  rw [← Array.all_toList, List.all_eq_true]
  intro c hc
  exact decide_eq_true (h c hc)
theorem ok_strs : ∀ {ys : List Str}, (∀ y ∈ ys, ∀ c ∈ y.cps.toList, c < 1114112) → PyData.canLayAll0 (ys.map PyData.str) = true
  | [], _ => by simp only [List.map_nil, PyData.canLayAll0]
  | y :: ys, h => by
    rw [List.map_cons]
    simp only [PyData.canLayAll0]
    rw [Bool.and_eq_true]
    exact ⟨ok_str (h y List.mem_cons_self), ok_strs fun x hx => h x (List.mem_cons_of_mem _ hx)⟩
theorem deep_strs : ∀ ys : List Str, PyData.depthAll (ys.map PyData.str) = 0
  | [] => by simp [PyData.depthAll]
  | y :: ys => by
    rw [List.map_cons]
    simp [PyData.depthAll, PyData.depth, deep_strs ys]
theorem shaped_str {y : Str} (h : ∀ c ∈ y.cps.toList, c < 1114112) : SeqAt.shaped (.str y) = true := by
  unfold SeqAt.shaped
  rw [ok_str h]
  simp [PyData.depth]
theorem shaped_strs {ys : List Str} (h : ∀ y ∈ ys, ∀ c ∈ y.cps.toList, c < 1114112) : SeqAt.shaped (.list (ys.map PyData.str)) = true := by
  unfold SeqAt.shaped
  have e : PyData.canLay0 (.list (ys.map PyData.str)) = true := by
    simp only [PyData.canLay0]
    exact ok_strs h
  rw [e]
  simp [PyData.depth, deep_strs]
theorem dp_strs {K : PySem.W.Frag} {H : Hp} : ∀ ys : List Str, DpAll K H (ys.map V.str) (ys.map PyData.str)
  | [] => .nil
  | _ :: ys => .cons (.str _) (dp_strs ys)
theorem any_strs (ys : List Str) (y : Str) : ((ys.map PyData.str).any fun z => PyData.eqv z (.str y)) = ys.contains y := by
  induction ys with
  | nil => rfl
  | cons x ys ih =>
    rw [List.map_cons, List.any_cons, ih, List.contains_cons]
    have e : PyData.eqv (.str x) (.str y) = (y == x) := by
      simp only [PyData.eqv]
      by_cases h : x = y
      · subst h
        rfl
      · have h1 : (x == y) = false := by simpa using h
        have h2 : (y == x) = false := by simpa using fun z => h z.symm
        rw [h1, h2]
    rw [e]
/-- two shaped data that are told the same are equal -/
theorem eqv_rfl {d : PyData} (h : SeqAt.shaped d = true) : PyData.eqv d d = true := SeqAt.eqv_refl _ (SeqAt.canLay_of_shaped h)
theorem shaped_pair {a b : PyData} (ha : PyData.canLay0 a = true) (hb : PyData.canLay0 b = true) (da : PyData.depth a = 0) (db : PyData.depth b = 0) : SeqAt.shaped (.tuple [a, b]) = true := by
  unfold SeqAt.shaped
  have e : PyData.canLay0 (.tuple [a, b]) = true := by
    simp only [PyData.canLay0, PyData.canLayAll0, ha, hb]
    rfl
  rw [e]
  simp [PyData.depth, PyData.depthAll, da, db]
/-! texts joined without a separator, and cut -/
theorem joinL_mem : ∀ {ls : List (List Nat)} {c : Nat}, c ∈ TL.joinL [] ls → ∃ x ∈ ls, c ∈ x
  | [], c, h => by cases h
  | [p], c, h => ⟨p, List.mem_cons_self, h⟩
  | p :: q :: r, c, h => by
    rcases List.mem_append.mp h with h | h
    · exact ⟨p, List.mem_cons_self, h⟩
    · obtain ⟨x, hx, hc⟩ := joinL_mem (ls := q :: r) h
      exact ⟨x, List.mem_cons_of_mem _ hx, hc⟩
theorem joinL_len : ∀ (ls : List (List Nat)), (TL.joinL [] ls).length = (ls.map List.length).sum
  | [] => rfl
  | [p] => by simp [TL.joinL]
  | p :: q :: r => by
    show (p ++ ([] ++ TL.joinL [] (q :: r))).length = _
    rw [List.nil_append, List.length_append, joinL_len (q :: r)]
    rfl
theorem join_cps (ys : List Str) : (Txt.join "" ys).cps.toList = TL.joinL [] (ys.map fun y => y.cps.toList) := by
  have e := TL.tl_join ("" : Str) ys
  have e2 : Txt.join "" ys = Str.join "" ys := TL.join_eq _ _
  rw [e2]
  exact e
theorem cut_mem {z : Str} {lo hi : Option Int} {c : Nat} (h : c ∈ (cutS z lo hi).cps.toList) : c ∈ z.cps.toList := by
  unfold cutS at h
  exact List.mem_of_mem_drop (List.mem_of_mem_take (by simpa using h))
theorem cut_len {z : Str} {lo hi : Option Int} : (cutS z lo hi).length ≤ z.length := by
  show (((z.cps.toList.drop _).take _).toArray).size ≤ z.cps.size
  simp
  omega
theorem cps_app (a b : Str) : (a ++ b).cps.toList = a.cps.toList ++ b.cps.toList := TL.tl_append a b
end Law

namespace Law
open PySem PySem.Spec PyProof.Rows L2
/-- the law's own rows: a list of tuples -/
def RowsAt (H : Hp) (l : Addr) (rows : List Row) : Prop := ∃ ts : List Addr, H l = some (.lst (ts.map V.ref)) ∧ ts.length = rows.length ∧ ∀ (i : Nat) (t : Addr) (y : Str) (L : Int), ts[i]? = some t → rows[i]? = some (y, L) → H t = some (.tup [.str y, .int L])
theorem RowsAt.same {H H' : Hp} {l : Addr} {rows : List Row} (h : RowsAt H l rows) (s : Same H H') : RowsAt H' l rows := by
  obtain ⟨ts, h1, h2, h3⟩ := h
  exact ⟨ts, s _ _ h1, h2, fun i t y L e1 e2 => s _ _ (h3 i t y L e1 e2)⟩
theorem RowsAt.neB {H : Hp} {l b l0 : Addr} {rows : List Row} (h : RowsAt H l rows) (B : Box H b l0) : l ≠ b := fun z => by
  obtain ⟨ts, h1, _⟩ := h
  obtain ⟨_, _, _, _, q, _⟩ := B
  rw [z, q] at h1
  have e := HO.lst.inj (Option.some.inj h1)
  match ts, e with
  | [], e => cases e
  | [_], e => cases e
  | _ :: _ :: _, e =>
    rw [List.map_cons, List.map_cons] at e
    injection e with _ e
    injection e with e _
    cases e
theorem RowsAt.sameB {H H' : Hp} {l b l0 : Addr} {rows : List Row} (h : RowsAt H l rows) (B : Box H b l0) (s : SameB b H H') : RowsAt H' l rows := by
  have n := h.neB B
  obtain ⟨ts, h1, h2, h3⟩ := h
  exact ⟨ts, s _ _ n h1, h2, fun i t y L e1 e2 => s _ _ (B.neT (h3 i t y L e1 e2)) (h3 i t y L e1 e2)⟩
theorem RowsAt.len {H : Hp} {l : Addr} {rows : List Row} (h : RowsAt H l rows) : ∃ xs, H l = some (.lst xs) ∧ xs.length = rows.length := by
  obtain ⟨ts, h1, h2, _⟩ := h
  exact ⟨_, h1, by rw [List.length_map, h2]⟩
theorem RowsAt.at {H : Hp} {l : Addr} {rows : List Row} {i : Nat} {y : Str} {L : Int} (h : RowsAt H l rows) (e : rows[i]? = some (y, L)) : ∃ xs t, H l = some (.lst xs) ∧ xs[i]? = some (.ref t) ∧ H t = some (.tup [.str y, .int L]) := by
  obtain ⟨ts, h1, h2, h3⟩ := h
  have hi : i < rows.length := (List.getElem?_eq_some_iff.mp e).1
  have hi' : i < ts.length := by omega
  exact ⟨_, ts[i], h1, by rw [List.getElem?_map, List.getElem?_eq_getElem hi']; rfl, h3 i _ y L (List.getElem?_eq_getElem hi') e⟩
end Law

/-! for (a, b), c in d.items(), d with tuple keys: the key's own tuple and the value, in a new pair. -/
namespace DTX
open PySem PySem.Spec PyProof.Rows L2
section
variable {X : Cx} {pins : List (Addr × Obj)} {σ : L2.St} {H : Hp} {s : Shared} {d : Addr} {o : Obj}
theorem frzT {kvs : List (List Key × V)} (I : Inv X pins σ H s) (h : H d = some (.frz o (.dT kvs))) :
    (d == sysModules) = false ∧ s.heap.get? d = some o ∧ o.ExactDict ∧ ∃ (es : Array DictEntry) (ep : Nat), o.data = .dict es ep ∧ es.size = kvs.length ∧
      ∀ (i : Nat) (k : List Key) (v : V), kvs[i]? = some (k, v) → ∃ (en : DictEntry) (q : Addr), es[i]? = some en ∧ en.key = .ref q ∧ H q = some (.tup (k.map kV)) ∧ RelV v en.val := by
  obtain ⟨hd, z, hs, xs, pr, o', es, ep, ho, hx, hdt, he, _⟩ := I.hok d _ h
  rw [hd] at ho
  cases ho
  refine ⟨hs, hd, hx, es, ep, hdt, ?_, fun i k v e => ?_⟩
  · have l1 : es.size = xs.length := size_of_entries he
    have l2 : kvs.length = xs.length := Paired.length pr
    omega
  · obtain ⟨b, hb, e1, e2, e3⟩ := L2.paired_get pr e
    have q := entry_at he i
    rw [hb] at q
    exact ⟨_, b.2.1, q, rfl, e2, e3⟩
end
def Itit (d : Addr) (o : Obj) (kvs : List (List Key × V)) : It :=
  ⟨fun i H => H d = some (.frz o (.dT kvs)) ∧ i < kvs.length, fun i H x H' => ∃ T q k v, kvs[i]? = some (k, v) ∧ x = .ref T ∧ H q = some (.tup (k.map kV)) ∧ H T = none ∧ H' = upd H T (.tup [.ref q, v]), fun i H => H d = some (.frz o (.dT kvs)) ∧ kvs.length ≤ i⟩
theorem turn_itemsT {P : Program} {w : World} {K : PySem.W.Frag} {d : Addr} {o : Obj} {es : Array DictEntry} {ep : Nat} {kvs : List (List Key × V)} {elts : List Expr} {kk : Nat} {tpos : Pos} (it : Addr) (hod : o.data = .dict es ep) :
    Turn P w K (.Tuple elts kk tpos) (Itit d o kvs) [it] it (fun i h => ∃ ok ov, IsItemIter h it d i kvs.length ep ok ov) where
  mem := by simp
  obj := fun i h st b hb => by
    have e : b = it := by simpa using hb
    subst e
    obtain ⟨ok, ov, e⟩ := st
    exact ⟨_, e, fun v z => nomatch z⟩
  keep := fun i h h' st k => let ⟨ok, ov, e⟩ := st; ⟨ok, ov, k it (by simp) _ e⟩
  item := by
    intro X hP hw hK hc i pins s σ H E I hf st hg
    subst hP hw hK
    obtain ⟨hd, hi⟩ := hg
    obtain ⟨hs, hgd, hx, es', ep', hdt, hsz, ent⟩ := frzT I hd
    obtain ⟨rfl, rfl⟩ := dict_ep hod hdt
    obtain ⟨⟨k, v⟩, hkv⟩ : ∃ p, kvs[i]? = some p := ⟨kvs[i], List.getElem?_eq_getElem hi⟩
    obtain ⟨en, q, hen, hkey, hq, ru⟩ := ent i k v hkv
    obtain ⟨ok, ov, he⟩ := st
    rw [← hsz] at he
    have hlt : it < s.heap.objs.size := Heap.lt_size he
    have hie : i < es'.size := by omega
    have een : es'[i] = en := by
      rw [Array.getElem?_eq_getElem hie] at hen
      exact Option.some.inj hen
    refine DT.nextI he ⟨o, hgd, hx, hdt⟩ hie fun h' ho hT hz hk => ?_
    rw [een] at ho hT
    rw [hkey] at ho hT
    refine ⟨_, rfl, wpAny_letOwnedTupleGo_items (s := { s with heap := h' }) ho fun h'' he' sb => ?_⟩
    have hT2 : h''.get? s.heap.objs.size = some { cls := .type "tuple", data := .seq #[.ref q, en.val] } := (sb.2 _ (Nat.ne_of_gt hlt)).trans hT
    have new : ObjOk X.prog X.w (upd H s.heap.objs.size (.tup [.ref q, v])) h'' s.heap.objs.size (.tup [.ref q, v]) :=
      ⟨by show 2 ≤ sizeLine; decide, [.ref q, en.val], .cons rfl (.cons ru .nil), ⟨_, hT2, rfl, _, rfl⟩⟩
    have I1 : Inv X pins σ (upd H s.heap.objs.size (.tup [.ref q, v])) { s with heap := h'' } :=
      I.turnedNew (t' := s.toks) (ch := [it]) (fun b ob hb e => (sb.2 b (by simpa using hb)).trans (hk b ob (by simpa using hb) e)) hf (Nat.le_refl _) new
    refine ⟨.ref s.heap.objs.size, _, I1, rfl, ⟨_, q, k, v, hkv, rfl, hq, I.hok.fresh (Nat.le_refl _), rfl⟩, ⟨.ref q, en.val, ?_⟩, fun b hb => ?_⟩
    · rw [← hsz]; exact he'
    · have e : b = it := by simpa using hb
      rw [e, upd_ne (Nat.ne_of_lt hlt)]
      exact (hf it (by simp)).1
  done := by
    intro X hP hw hK hc i pins s σ H E I hf st hg
    subst hP hw hK
    obtain ⟨hd, hi⟩ := hg
    obtain ⟨f0, f1, f2, f3, f4, f5⟩ := hf it (by simp)
    obtain ⟨hs, hgd, hx, es', ep', hdt, hsz, ent⟩ := frzT I hd
    obtain ⟨rfl, rfl⟩ := dict_ep hod hdt
    obtain ⟨ok, ov, he⟩ := st
    rw [← hsz] at he
    exact DT.endI (I.ok.hd hc) he ⟨o, hgd, hx, hdt⟩ (by omega) fun h' eb => ⟨rfl, I.turned (t' := s.toks) (fun b ob hb e => eb b ob hb e) f0 f1 f3 f4 f5⟩
  self := fun A i s Q E st h => let ⟨_, _, e⟩ := st; PySem.W.kcp_self e h
def iItemsT (td : TE) : TI := fun σ H R => td σ H fun x H1 => ∃ d o kvs, x = .ref d ∧ H1 d = some (.frz o (.dT kvs)) ∧ R (Itit d o kvs) H1
theorem pi_itemsT {X : Cx} {e : Expr} {td : TE} {apos cpos : Pos} {elts : List Expr} {kk : Nat} {tpos : Pos} (he : PE X e td) (hbase : attributeBase e "items" X.env (eval e X.env) = eval e X.env := by rfl) (hline : (apos.endLine == cpos.line) = true := by rfl) :
    PI X (.Tuple elts kk tpos) (.Call (.Attribute e "items" apos) [] [] cpos) (iItemsT td) := by
  refine ⟨fun pins s σ H R I h => ?_⟩
  refine wpAny_Call_method (T := "dict") (id := "dict.items") hbase rfl hline F.plainAttrs_dict F.slot_dict_items F.type_dict_items (thn (he.run pins s σ H _ I h) fun u s1 ⟨x, H1, I1, rx, d, o, kvs, ex, hd, q⟩ => ?_)
  subst ex
  obtain rfl : u = Value.ref d := rx
  obtain ⟨hs, hgd, hx, es, ep, hdt, hsz, ent⟩ := frzT I1 hd
  have raw : DT.Raw s1.heap d es ep := ⟨o, hgd, hx, hdt⟩
  refine ⟨raw.typeIs, ?_, ?_⟩
  · intro a e
    cases e
    exact ⟨o, hgd, hx.2.1⟩
  have I2 : Inv X pins σ H1 { s1 with heap := s1.heap.push { cls := .type "dict_items", data := .fields #[.ref d] } } := I1.kept (t' := s1.toks) fun b ob q => Heap.get?_push_of_some _ q
  have fin : wpAny (model X.prog X.w) X.A (pyIter (.ref s1.heap.objs.size)) (PIE X pins σ (.Tuple elts kk tpos) R) X.xe { s1 with heap := s1.heap.push { cls := .type "dict_items", data := .fields #[.ref d] } } := by
    refine DT.iterI (d := d) ⟨_, Heap.get?_push_size _ rfl, rfl, rfl⟩ (raw.push _) (pi_one (tk := s1.toks) I2 _ (turn_itemsT _ hdt) ⟨.none, .none, ?_⟩ q)
    rw [← hsz]
    exact Heap.get?_push_size _ rfl
  show wpAny _ _ (callWith cpos (.builtin "dict.items") [.ref d] [] []) _ X.xe s1
  exact method_meetsIn F.slot_dict_items F.entry_dict_items rfl (PySem.evalArgs_none ⟨rfl, raw.typeIs, F.args_dict_items_1 _, _, DT.meetsItems (es := es) (ep := ep) hs, raw, fin⟩)
theorem walk_itemsT {d : Addr} {o : Obj} {kvs : List (List Key × V)} : Walk (Itit d o kvs) kvs.length (fun H => H d = some (.frz o (.dT kvs)))
    (fun i H x H' => ∃ T q k v, kvs[i]? = some (k, v) ∧ x = .ref T ∧ H q = some (.tup (k.map kV)) ∧ H T = none ∧ H' = upd H T (.tup [.ref q, v])) :=
  ⟨fun i _ hi q => ⟨q, hi⟩, fun _ q => ⟨q, Nat.le_refl _⟩, fun i H v H' _ q y => y⟩
end DTX

/-! {k: v for ..} where the keys are tuples that stand. -/
namespace DcT
open PySem PySem.Spec PyProof.Rows L2
section
variable {X : Cx}
theorem put_ok {pins : List (Addr × Obj)} {σ : L2.St} {H : Hp} {s : Shared} {E : Value → Shared → Prop} {D b : Addr} {kvs : List (List Key × V)} {k : List Key} {v : V} {r : Value} {Q : Unit → Shared → Prop} (hu : X.A.units < cLine) (I : L2.Inv X pins σ H s)
    (hD : H D = some (.dT kvs)) (hb : H b = some (.tup (k.map kV))) (hz : kvs.length < sizeLine) (rv : RelV v r) (h : ∀ s', L2.Inv X pins σ (upd H D (.dT (putK kvs k v))) s' → Q () s') : wpAny (model X.prog X.w) X.A (dictSet D (.ref b) r) Q E s := by
  obtain ⟨z, hd, xs, rel, dd⟩ := dt_of I.hok hD
  have l1 : xs.length ≤ sizeLine := by rw [← Paired.length rel]; exact z
  have l2 : (putK kvs k v).length ≤ sizeLine := by have := length_putK kvs k v; omega
  refine wpAny_dictSet_heap (hsz := l1) (show (tupleKind (mixKind X.prog X.w)).room X.A from hu) (key_of I.hok hb) dd fun h' dd' hs => h _ ?_
  obtain ⟨q, es, ep, hq, h2, h3, h4, _, h5⟩ := dd'
  refine d_write I (by rw [hD]; exact True.intro) hs ⟨q, hq⟩ ⟨l2, hd, _, (rel.put k hb rv).keeps fun c ys ec => ?_, q, es, ep, hq, h2, h3, h4, h5⟩
  rw [upd_ne (ne_of ec hD (fun z => nomatch z))]
  exact ec
/-- the reading: D the new dict -/
def tDcT (wi : TI) (g : TG) (tt : TT) (tk tv : TE) (vs : List Nat) : TE := fun σ H Q => wi σ H fun J H1 => ∀ D, H1 D = none → ∃ W : Nat → Nat → Hp → Prop, (∃ m, W 0 m (upd H1 D (.dT []))) ∧ ∀ i m H, W i m H →
  (J.stop i H ∧ Q (.ref D) H) ∨ (J.go i H ∧ ∃ Nx : Hp → Prop, (∀ H', Nx H' → ∃ m', m' < m ∧ W (i + 1) m' H') ∧ ∀ x H', J.yld i H x H' → g x (wipe σ vs) H' fun σ2 H2 => wipe σ2 vs = wipe σ vs ∧ tt σ2 H2 fun c H3 =>
    if c = true then tk σ2 H3 fun y H4 => tv σ2 H4 fun z H5 => ∃ kvs k b, y = .ref b ∧ H5 D = some (.dT kvs) ∧ H5 b = some (.tup (k.map kV)) ∧ kvs.length < sizeLine ∧ Nx (upd H5 D (.dT (putK kvs k z))) else Nx H3)
variable {kx vx tg iter : Expr} {ifs : List Expr} {scope : Scope} {own : List (Str × Nat)} {wi : TI} {g : TG} {tt : TT} {tk tv : TE}
/-- its parts, in whatever block -/
structure Parts (X : Cx) (kx vx tg iter : Expr) (ifs : List Expr) (scope : Scope) (own : List (Str × Nat)) (wi : TI) (g : TG) (tt : TT) (tk tv : TE) : Prop where
  calm : X.calm = true
  nd : X.N.Nodup
  it : PI X tg iter wi
  ok : BlkOk X.N X.env.scope scope own
  tgt : ∀ s H C cl fp, PG (X.blk s H scope (compEnvC scope cl C X.env) fp) tg g
  tst : ∀ s H C cl fp, PTs (X.blk s H scope (compEnvC scope cl C X.env) fp) ifs tt
  key : ∀ s H C cl fp, PE (X.blk s H scope (compEnvC scope cl C X.env) fp) kx tk
  val : ∀ s H C cl fp, PE (X.blk s H scope (compEnvC scope cl C X.env) fp) vx tv
  fold : ∀ x, foldedSetIterable iter X.env x = pure x
  un : X.A.units < cLine
theorem core {pins : List (Addr × Obj)} {s : Shared} {σ : L2.St} {H : Hp} {Q : VK} {pos pos' : Pos} {use : Option (Value → Sem Unit)} {Qf : Value → Shared → Prop}
    (P : Parts X kx vx tg iter ifs scope own wi g tt tk tv) (I : L2.Inv X pins σ H s) (h : tDcT wi g tt tk tv (own.map (·.2)) σ H Q)
    (hRR : ∀ (D : Addr) (C : Addr) s' m H', L2.Inv X pins σ H' s' → Q (.ref D) H' → s'.heap.Ns C m → FpOk X pins H' C → compPost (model X.prog X.w) X.A X.xe use Qf (.ref D) C (.ok .next) s') :
    wpAny (model X.prog X.w) X.A (comprehension (.DictComp kx vx [⟨tg, iter, ifs, 0⟩] scope pos) scope X.env pos' newDict false (eval iter X.env) use) Qf X.xe s := by
  have ok := P.ok
  have free : ∀ y ∈ scope.names, y.2 = .free → ∃ c, X.env.cells.lookup y.1 = some c := fun y hy e => (ok.free y hy e).elim (fun k => I.ok.has _ (.inl k)) fun k => I.ok.has _ (.inr k)
  refine wpAny_comprehension_free (use := use) rfl P.fold (closure_ok free) ok.kind (fun y hy e => (ok.uniq y hy).trans (congrArg some e))
    (thn (P.it.run pins s σ H _ I h) fun v0 s1 k1 => thn k1 fun v1 s2 k2 => ?_)
  obtain ⟨it, fp, tn, J, H2, rfl, I2, T, t2, f2, q⟩ := k2
  refine wpAny_newObj_type (newEnv_comp ?_)
  obtain ⟨D, hD⟩ : ∃ D, D = s2.heap.objs.size := ⟨_, rfl⟩
  rw [← hD]
  have nD : H2 D = none := I2.hok.fresh (Nat.le_of_eq hD.symm)
  obtain ⟨Wv, ⟨m0, w0⟩, turn⟩ := q D nD
  obtain ⟨s3, hs3⟩ : ∃ s3 : Shared, s3 = { s2 with heap := s2.heap.push { cls := .type "dict", data := .dict #[] } } := ⟨_, rfl⟩
  have I3 : L2.Inv X pins σ (upd H2 D (.dT [])) s3 := by
    subst hs3 hD
    exact I2.laid (t' := s2.toks) (fun b o e => Heap.get?_push_of_some _ e) (Nat.le_refl _) (dt_empty s2.heap I2.big)
  have old : ∀ b o, s2.heap.get? b = some o → s3.heap.get? b = some o := fun b o e => by
    rw [hs3]
    exact Heap.get?_push_of_some _ e
  have lt2 : ∀ b ∈ fp, b < s2.heap.objs.size := fun b hb => by
    obtain ⟨o, e, _⟩ := T.obj _ _ t2 b hb
    exact Heap.lt_size e
  have f3 : ∀ b ∈ fp, FpOk X pins (upd H2 D (.dT [])) b ∧ b < s3.heap.objs.size := fun b hb => by
    have l := lt2 b hb
    refine ⟨⟨(upd_ne (by rw [hD]; exact Nat.ne_of_lt l)).trans (f2 b hb).1, (f2 b hb).2⟩, ?_⟩
    rw [hs3]
    show b < (s2.heap.push _).objs.size
    rw [Heap.size_push]
    exact Nat.lt_succ_of_lt l
  have t3 : tn 0 s3.heap := T.keep _ _ _ t2 fun b _ o e => old b o e
  have I4 := block_start I3 ok P.nd f3
  obtain ⟨H3, hH3⟩ : ∃ H3, H3 = upd H2 D (.dT []) := ⟨_, rfl⟩
  rw [← hH3] at I3 I4 f3 w0
  obtain ⟨cl, hcl⟩ : ∃ cl, cl = cellsFrom (s3.heap.objs.size + 1) scope.names (cloFrom X.env.cells scope.names []) := ⟨_, rfl⟩
  rw [← hcl] at I4
  have pgT := P.tgt s3 H3 s3.heap.objs.size cl fp
  have ptT := P.tst s3 H3 s3.heap.objs.size cl fp
  have pkT := P.key s3 H3 s3.heap.objs.size cl fp
  have pvT := P.val s3 H3 s3.heap.objs.size cl fp
  obtain ⟨s4, hs4⟩ : ∃ s4 : Shared, s4 = { s3 with heap := pushCells (s3.heap.push { cls := .type "dict", data := .dict #[] }) scope.names } := ⟨_, rfl⟩
  rw [← hs4] at I4
  have t4 : tn 0 s4.heap := T.keep _ _ _ t3 fun b _ o e => by
    rw [hs4]
    exact pushCells_keeps _ _ _ _ (Heap.get?_push_of_some _ e)
  have key : codeAny (model X.prog X.w) X.A (.compStart (.DictComp kx vx [⟨tg, iter, ifs, 0⟩] scope pos) 0 (.ref it) (.ref D) (compEnvC scope cl s3.heap.objs.size X.env))
      (compPost (model X.prog X.w) X.A X.xe use Qf (.ref D) s3.heap.objs.size) s4 := by
    obtain ⟨ce, hce⟩ : ∃ ce, ce = compEnvC scope cl s3.heap.objs.size X.env := ⟨_, rfl⟩
    rw [← hce] at I4 pgT ptT pkT pvT ⊢
    have cL : ce.locals = s3.heap.objs.size := by rw [hce]; rfl
    have nfp : ∀ b ∈ fp, H3 b = none := fun b hb => (f3 b hb).1.1
    have stat : ∀ {τ : L2.St} {H' : Hp} {s' : Shared}, L2.Inv (X.blk s3 H3 scope ce fp) [] τ H' s' → (∀ b ∈ fp, H' b = none) → ∀ b ∈ fp, FpOk (X.blk s3 H3 scope ce fp) [] H' b := fun {τ H' s'} I' hn b hb =>
      ⟨hn b hb, (I'.ok.exf b hb).1, I'.ok.exfs b hb, .inl hb, fun x c e => (I'.ok.exf b hb).2 x c e, fun p hp => nomatch (show p ∈ ([] : List (Addr × Obj)) from hp)⟩
    have loop : codeAny (model X.prog X.w) X.A (.compLoop (.DictComp kx vx [⟨tg, iter, ifs, 0⟩] scope pos) 0 (.ref it) (.ref D) ce) (compPost (model X.prog X.w) X.A X.xe use Qf (.ref D) s3.heap.objs.size) s4 := by
      refine compLoop_anyD (fun n s' => ∃ i H', L2.Inv (X.blk s3 H3 scope ce fp) [] (wipe σ (own.map (·.2))) H' s' ∧ tn i s'.heap ∧ (∀ b ∈ fp, H' b = none) ∧ Wv i n H') ?_ m0 ⟨0, H3, I4, t4, nfp, w0⟩
      rintro n s5 ⟨i, H5, I5, t5, n5, w5⟩
      rcases turn i n H5 w5 with ⟨stop, qq⟩ | ⟨go, Nx, hNx, step⟩
      · refine thnF (T.done (X.blk s3 H3 scope ce fp) rfl rfl rfl P.calm i [] s5 _ H5 (fun _ _ => False) I5 (stat I5 n5) t5 stop) fun r s6 ⟨hr, I6⟩ => ?_
        subst hr
        have I7 : L2.Inv X pins σ H5 s6 := I3.call' (ch := fp) I6.os I6.base I6.hok I6.bare fun b hb => by
          obtain ⟨_, z1, _, z3, z4, z5⟩ := (f3 b hb).1
          exact ⟨z3, z1, z4, z5⟩
        have nC : H5 ce.locals = none := I6.free
        obtain ⟨m, hn, _⟩ := I6.loc
        have hn : s6.heap.Ns ce.locals m := hn
        rw [cL] at hn nC
        exact hRR D _ s6 m H5 I7 qq hn (I3.fpOk (Nat.le_refl _) nC)
      · refine thnF (T.item (X.blk s3 H3 scope ce fp) rfl rfl rfl P.calm i [] s5 _ H5 (fun _ _ => False) I5 (stat I5 n5) t5 go) fun r s6 ⟨u, hr, h6⟩ => ?_
        subst hr
        refine thnF h6 fun _ s7 ⟨x, H7, I7, r7, y7, t7, n7⟩ => ?_
        have I7' := I7.pinned (stat I7 n7) (T.obj _ _ t7)
        refine thnF (pgT.run _ s7 _ H7 x u _ I7' r7 (step x H7 y7)) fun _ s8 ⟨τ, H8, I8, hw, q8⟩ => ?_
        refine thnF (ptT.run _ s8 τ H8 _ I8 q8) fun b s9 ⟨H9, I9, q9⟩ => ?_
        have fin : ∀ {s' : Shared} {H' : Hp}, L2.Inv (X.blk s3 H3 scope ce fp) ([] ++ pinsAt fp s7.heap) τ H' s' → Nx H' →
            ∃ m, m < n ∧ ∃ i H', L2.Inv (X.blk s3 H3 scope ce fp) [] (wipe σ (own.map (·.2))) H' s' ∧ tn i s'.heap ∧ (∀ b ∈ fp, H' b = none) ∧ Wv i m H' := fun {s' H'} I' nx => by
          obtain ⟨m', hm, w'⟩ := hNx H' nx
          have pin : ∀ b ∈ fp, ∀ o, s7.heap.get? b = some o → s'.heap.get? b = some o ∧ H' b = none := fun b hb o e => by
            have z := I'.pin (b, o) (List.mem_append_right _ (List.mem_append_right _ (mem_pinsAt hb e)))
            exact ⟨z.1, z.2.1⟩
          refine ⟨m', hm, i + 1, H', (I'.unpinned (pins := [])).weak ?_ fun j v e => ?_, T.keep _ _ _ t7 fun b hb o e => (pin b hb o e).1, fun b hb => ?_, w'⟩
          · rw [← hw, wipe_length]
          · rw [← hw] at e
            exact (wipe_some e).1
          · obtain ⟨o, e, _⟩ := T.obj _ _ t7 b hb
            exact (pin b hb o e).2
        cases b with
        | false =>
          rw [if_neg Bool.false_ne_true] at q9 ⊢
          exact fin I9 q9
        | true =>
          rw [if_pos rfl] at q9 ⊢
          refine thnF (pkT.run _ s9 τ H9 _ I9 q9) fun ku s10 ⟨yk, H10, I10, r10, q10⟩ => ?_
          refine thnF (pvT.run _ s10 τ H10 _ I10 q10) fun vu s11 ⟨yv, H11, I11, r11, kvs, k, b, ek, hD11, hb11, hz11, nx⟩ => ?_
          subst ek
          obtain rfl : ku = Value.ref b := r10
          exact put_ok (X := X.blk s3 H3 scope ce fp) P.un I11 hD11 hb11 hz11 r11 fun s12 I12 => fin I12 nx
    exact codeAny_compStart_dict loop (T.self X.A 0 _ _ _ t4 loop)
  subst hs4 hcl hs3
  exact key
/-- as a value -/
theorem pe_dcT {pos : Pos} (P : Parts X kx vx tg iter ifs scope own wi g tt tk tv) : PE X (.DictComp kx vx [⟨tg, iter, ifs, 0⟩] scope pos) (tDcT wi g tt tk tv (own.map (·.2))) := by
  refine ⟨fun pins s σ H Q I h => ?_⟩
  rw [arm_eval_DictComp]
  refine core P I h fun D C s' m H' I' q hn f => ⟨m, hn, fun h'' sb => ?_⟩
  obtain ⟨f0, f1, f2, f3, f4, f5⟩ := f
  exact ⟨.ref D, H', I'.turned (t' := s'.toks) (fun b o hb e => (sb.2 b hb).trans e) f0 f1 f3 f4 f5, rfl, q⟩
/-- over a walk -/
theorem dcT_it {J : It} {n : Nat} {G : Hp → Prop} {Y : Nat → Hp → V → Hp → Prop} (w : Walk J n G Y) {vs : List Nat} {σ : L2.St} {H1 : Hp} {D : Addr} {Qd : Hp → Prop} (Pv : Nat → Hp → Prop) (h0 : Pv 0 (upd H1 D (.dT []))) (hG : ∀ i H, i ≤ n → Pv i H → G H)
    (hs : ∀ i x H H', i < n → Pv i H → Y i H x H' → g x (wipe σ vs) H' fun σ2 H2 => wipe σ2 vs = wipe σ vs ∧ tt σ2 H2 fun c H3 =>
      if c = true then tk σ2 H3 fun y H4 => tv σ2 H4 fun z H5 => ∃ kvs k b, y = .ref b ∧ H5 D = some (.dT kvs) ∧ H5 b = some (.tup (k.map kV)) ∧ kvs.length < sizeLine ∧ Pv (i + 1) (upd H5 D (.dT (putK kvs k z))) else Pv (i + 1) H3) (hd : ∀ H, Pv n H → Qd H) :
    ∃ W : Nat → Nat → Hp → Prop, (∃ m, W 0 m (upd H1 D (.dT []))) ∧ ∀ i m H, W i m H →
      (J.stop i H ∧ Qd H) ∨ (J.go i H ∧ ∃ Nx : Hp → Prop, (∀ H', Nx H' → ∃ m', m' < m ∧ W (i + 1) m' H') ∧ ∀ x H', J.yld i H x H' → g x (wipe σ vs) H' fun σ2 H2 => wipe σ2 vs = wipe σ vs ∧ tt σ2 H2 fun c H3 =>
        if c = true then tk σ2 H3 fun y H4 => tv σ2 H4 fun z H5 => ∃ kvs k b, y = .ref b ∧ H5 D = some (.dT kvs) ∧ H5 b = some (.tup (k.map kV)) ∧ kvs.length < sizeLine ∧ Nx (upd H5 D (.dT (putK kvs k z))) else Nx H3) := by
  refine ⟨fun i m H => i ≤ n ∧ m + i = n ∧ Pv i H, ⟨n, Nat.zero_le _, rfl, h0⟩, ?_⟩
  rintro i m H ⟨hi, hm, p⟩
  have q := hG i H hi p
  rcases Nat.lt_or_ge i n with c | c
  · exact .inr ⟨w.goes i H c q, Pv (i + 1), fun H' p' => ⟨m - 1, by omega, by omega, by omega, p'⟩, fun x H' y => hs i x H H' c p (w.yields i H x H' c q y)⟩
  · obtain rfl : i = n := by omega
    exact .inl ⟨w.stops H q, hd H p⟩
end
end DcT

/-! y = {k: v for ..} on one line, y a local. -/
namespace DcX
open PySem PySem.Spec PyProof.Rows L2
section
variable {X : Cx} {kx vx tg iter : Expr} {ifs : List Expr} {scope : Scope} {own : List (Str × Nat)} {wi : TI} {g : TG} {tt : TT} {tk tv : TE}
theorem swd_true {kx vx : Expr} {gs : List Comprehension} {scope : Scope} {pos py : Pos} {y : Str} {l : Nat} {env : Env} (hk : env.scope.kind = .function) (hy : env.scope.names.lookup y = some .local) (hl : (py.line == pos.line) = true)
    (ha : (scope.names.any fun (n, k) => n == y && (k == .local || k == .cell)) = false) : swapsWith (.DictComp kx vx gs scope pos) (some (.Name y py)) l env = pure true := by
  have k1 : env.kindOf y = some .local := hy
  have k2 : env.blockKind = .function := by unfold Env.blockKind; rw [hk]; rfl
  unfold swapsWith
  simp only [k2, k1, ha, Expr.pos, hl]
  rfl
theorem ps_setDc {i : Nat} {y : Str} {py pos spos : Pos} (hc : X.calm = true) (hN : X.N.Nodup) (hy : X.N[i]? = some y) (hyl : X.env.scope.names.lookup y = some .local)
    (hsw : swapsWith (.DictComp kx vx [⟨tg, iter, ifs, 0⟩] scope pos) (some (.Name y py)) spos.line X.env = pure true) (hi : PI X tg iter wi) (ok : BlkOk X.N X.env.scope scope own)
    (hg : ∀ s H C cl fp, PG (X.blk s H scope (compEnvC scope cl C X.env) fp) tg g) (ht : ∀ s H C cl fp, PTs (X.blk s H scope (compEnvC scope cl C X.env) fp) ifs tt)
    (hk : ∀ s H C cl fp, PE (X.blk s H scope (compEnvC scope cl C X.env) fp) kx tk) (he : ∀ s H C cl fp, PE (X.blk s H scope (compEnvC scope cl C X.env) fp) vx tv) (hs : ∀ x, foldedSetIterable iter X.env x = pure x := by intro _; rfl) :
    PS X (.Assign [.Name y py] (.DictComp kx vx [⟨tg, iter, ifs, 0⟩] scope pos) spos) (tAsg (tDc wi g tt tk tv (own.map (·.2))) (gName i)) := by
  refine ⟨fun pins s σ H D I h => ?_⟩
  rw [exec_Assign_Name_used _ _ _ _ hsw]
  refine wpAny_bind (wpAny_standAt (wpAny_bind ?_))
  show wpAny _ X.A (do let _ ← comprehension (.DictComp kx vx [⟨tg, iter, ifs, 0⟩] scope pos) scope X.env (firstIterPos [⟨tg, iter, ifs, 0⟩] pos) newDict false (eval iter X.env) (some (assign (.Name y py) X.env))) _ _ s
  have h : tDc wi g tt tk tv (own.map (·.2)) σ H (fun x H1 => gName i x σ H1 D.nx) := h
  refine wpAny_bind (thn (dc_core (Qf := fun _ s' => SP X pins D .next s') hc hN I hi ok hg ht hk he hs h fun L C s' m H' I' q hn f => ?_) fun _ s' hq => wpAny_pure (wpAny_pure hq))
  show wpAny _ _ (assign (.Name y py) X.env (.ref L)) _ _ _
  refine wpAny_assign_Name (store_ok2 (v := V.ref L) I' hN hy (.inl hyl) rfl (fun s2 I2 ⟨a, sb, ha⟩ => ?_) (.inr hyl))
  obtain ⟨f0, f1, f2, f3, f4, f5⟩ := f
  have hne : C ≠ a := ha.elim (fun z => by rw [z]; exact f1) fun z e => f4 y a z e.symm
  exact ⟨m, hn.sameBut sb hne, fun h3 sb3 => ⟨_, H', I2.turned (t' := s2.toks) (fun b o hb e => (sb3.2 b hb).trans e) f0 f1 f3 f4 f5, q⟩⟩
/-- over a walk -/
theorem dc_it {J : It} {n : Nat} {G : Hp → Prop} {Y : Nat → Hp → V → Hp → Prop} (w : Walk J n G Y) {vs : List Nat} {σ : L2.St} {H1 : Hp} {D : Addr} {Qd : Hp → Prop} (Pv : Nat → Hp → Prop) (h0 : Pv 0 (upd H1 D (.dK []))) (hG : ∀ i H, i ≤ n → Pv i H → G H)
    (hs : ∀ i x H H', i < n → Pv i H → Y i H x H' → g x (wipe σ vs) H' fun σ2 H2 => wipe σ2 vs = wipe σ vs ∧ tt σ2 H2 fun b H3 =>
      if b = true then tk σ2 H3 fun y H4 => tv σ2 H4 fun z H5 => ∃ kvs k, y = kV k ∧ H5 D = some (.dK kvs) ∧ kvs.length < sizeLine ∧ Pv (i + 1) (upd H5 D (.dK (putK kvs k z))) else Pv (i + 1) H3) (hd : ∀ H, Pv n H → Qd H) :
    ∃ W : Nat → Nat → Hp → Prop, (∃ m, W 0 m (upd H1 D (.dK []))) ∧ ∀ i m H, W i m H →
      (J.stop i H ∧ Qd H) ∨ (J.go i H ∧ ∃ Nx : Hp → Prop, (∀ H', Nx H' → ∃ m', m' < m ∧ W (i + 1) m' H') ∧ ∀ x H', J.yld i H x H' → g x (wipe σ vs) H' fun σ2 H2 => wipe σ2 vs = wipe σ vs ∧ tt σ2 H2 fun b H3 =>
        if b = true then tk σ2 H3 fun y H4 => tv σ2 H4 fun z H5 => ∃ kvs k, y = kV k ∧ H5 D = some (.dK kvs) ∧ kvs.length < sizeLine ∧ Nx (upd H5 D (.dK (putK kvs k z))) else Nx H3) := by
  refine ⟨fun i m H => i ≤ n ∧ m + i = n ∧ Pv i H, ⟨n, Nat.zero_le _, rfl, h0⟩, ?_⟩
  rintro i m H ⟨hi, hm, p⟩
  have q := hG i H hi p
  rcases Nat.lt_or_ge i n with c | c
  · exact .inr ⟨w.goes i H c q, Pv (i + 1), fun H' p' => ⟨m - 1, by omega, by omega, by omega, p'⟩, fun x H' y => hs i x H H' c p (w.yields i H x H' c q y)⟩
  · obtain rfl : i = n := by omega
    exact .inl ⟨w.stops H q, hd H p⟩
end
end DcX

/-! Rounds of relaxing: with a shape there is no change behind as many rounds as nodes, less one. -/
namespace Relax
abbrev Edge := Int × Int × Int
def put (s : Int → Int) (v x : Int) : Int → Int := fun a => if a = v then x else s a
def relax (s : Int → Int) (e : Edge) : Int → Int := if s e.1 + e.2.2 < s e.2.1 then put s e.2.1 (s e.1 + e.2.2) else s
def round (es : List Edge) (s : Int → Int) : Int → Int := es.foldl relax s
def rounds (es : List Edge) : Nat → Int → Int
  | 0 => fun _ => 0
  | k + 1 => round es (rounds es k)
/-- a way along edges: its nodes, the last one first, and its sum -/
inductive WL (es : List Edge) : List Int → Int → Prop
  | one (v : Int) : WL es [v] 0
  | snoc {u v w x : Int} {l : List Int} : WL es (u :: l) x → (u, v, w) ∈ es → WL es (v :: u :: l) (x + w)
theorem relax_le (s : Int → Int) (e : Edge) (a : Int) : relax s e a ≤ s a := by
  unfold relax
  split
  · unfold put
    split
    · rename_i h1 h2
      subst h2
      omega
    · exact Int.le_refl _
  · exact Int.le_refl _
theorem relax_to (s : Int → Int) (e : Edge) : relax s e e.2.1 ≤ s e.1 + e.2.2 := by
  unfold relax
  split
  · unfold put
    rw [if_pos rfl]
    exact Int.le_refl _
  · omega
theorem fold_le : ∀ (es : List Edge) (s : Int → Int) (a : Int), es.foldl relax s a ≤ s a
  | [], _, _ => Int.le_refl _
  | e :: es, s, a => Int.le_trans (fold_le es (relax s e) a) (relax_le s e a)
theorem fold_to : ∀ (es : List Edge) (s : Int → Int) (e : Edge), e ∈ es → es.foldl relax s e.2.1 ≤ s e.1 + e.2.2
  | f :: es, s, e, h => by
    rcases List.mem_cons.mp h with rfl | h
    · exact Int.le_trans (fold_le es (relax s e) _) (relax_to s e)
    · have := fold_to es (relax s f) e h
      have := relax_le s f e.1
      show List.foldl relax (relax s f) es e.2.1 ≤ _
      omega
theorem rounds_le {es : List Edge} : ∀ (k : Nat) (l : List Int) (v x : Int), WL es (v :: l) x → l.length ≤ k → rounds es k v ≤ x
  | 0, l, v, x, h, hl => by
    cases h with
    | one => exact Int.le_refl _
    | snoc h _ => simp at hl
  | k + 1, l, v, x, h, hl => by
    cases h with
    | one =>
      have h0 := rounds_le (es := es) k [] v 0 (.one v) (Nat.zero_le _)
      exact Int.le_trans (fold_le es (rounds es k) v) h0
    | snoc h he =>
      rename_i u w x l
      have := rounds_le k l u x h (by simp at hl; omega)
      have := fold_to es (rounds es k) (u, v, w) he
      show es.foldl relax (rounds es k) v ≤ _
      have : es.foldl relax (rounds es k) v ≤ rounds es k u + w := this
      omega
def Told (es : List Edge) (s : Int → Int) : Prop := ∀ v, ∃ l, WL es (v :: l) (s v)
theorem Told.relax {es : List Edge} {s : Int → Int} (h : Told es s) {e : Edge} (he : e ∈ es) : Told es (relax s e) := fun v => by
  unfold Relax.relax
  split
  · unfold put
    split
    · rename_i h1 h2
      subst h2
      obtain ⟨l, hl⟩ := h e.1
      exact ⟨e.1 :: l, .snoc hl he⟩
    · exact h v
  · exact h v
theorem Told.fold {es : List Edge} : ∀ (fs : List Edge) {s : Int → Int}, Told es s → (∀ e ∈ fs, e ∈ es) → Told es (fs.foldl Relax.relax s)
  | [], _, h, _ => h
  | f :: fs, _, h, hf => Told.fold fs (h.relax (hf f List.mem_cons_self)) fun e he => hf e (List.mem_cons_of_mem _ he)
theorem told_rounds (es : List Edge) : ∀ k, Told es (rounds es k)
  | 0 => fun v => ⟨[], .one v⟩
  | k + 1 => (told_rounds es k).fold es fun _ h => h
/-! cutting rings off -/
theorem WL.tail {es : List Edge} {pi : Int → Int} (hp : ∀ e ∈ es, pi e.2.1 - pi e.1 ≤ e.2.2) : ∀ (l : List Int) {y z x : Int} {c : List Int}, WL es (y :: (l ++ z :: c)) x → ∃ x1, WL es (z :: c) x1 ∧ pi y - pi z ≤ x - x1
  | [], y, z, x, c, h => by
    cases h with
    | snoc h he =>
      rename_i w x
      refine ⟨x, h, ?_⟩
      have := hp _ he
      dsimp only at this
      omega
  | u :: l, y, z, x, c, h => by
    cases h with
    | snoc h he =>
      rename_i w x
      obtain ⟨x1, h1, h2⟩ := WL.tail hp l h
      refine ⟨x1, h1, ?_⟩
      have := hp _ he
      dsimp only at this
      omega
theorem WL.swap {es : List Edge} : ∀ (a : List Int) {y x : Int} {r : List Int}, WL es (a ++ y :: r) x → ∃ x1, WL es (y :: r) x1 ∧ ∀ r' x1', WL es (y :: r') x1' → WL es (a ++ y :: r') (x - x1 + x1')
  | [], y, x, r, h => ⟨x, h, fun r' x1' h' => by
    have e : x - x + x1' = x1' := by omega
    rw [e]
    exact h'⟩
  | [u], y, x, r, h => by
    cases h with
    | snoc h he =>
      rename_i w x
      refine ⟨x, h, fun r' x1' h' => ?_⟩
      have e : x + w - x + x1' = x1' + w := by omega
      rw [e]
      exact .snoc h' he
  | u :: t :: a, y, x, r, h => by
    cases h with
    | snoc h he =>
      rename_i w x
      obtain ⟨x1, h1, h2⟩ := WL.swap (t :: a) h
      refine ⟨x1, h1, fun r' x1' h' => ?_⟩
      have e : x + w - x1 + x1' = (x - x1 + x1') + w := by omega
      rw [e]
      exact .snoc (h2 r' x1' h') he
theorem twice : ∀ (l : List Int), ¬ l.Nodup → ∃ a y b c, l = a ++ y :: (b ++ y :: c)
  | [], h => absurd List.nodup_nil h
  | x :: l, h => by
    by_cases hx : x ∈ l
    · obtain ⟨b, c, rfl⟩ := List.append_of_mem hx
      exact ⟨[], x, b, c, rfl⟩
    · have hl : ¬ l.Nodup := fun z => h (List.nodup_cons.mpr ⟨hx, z⟩)
      obtain ⟨a, y, b, c, rfl⟩ := twice l hl
      exact ⟨x :: a, y, b, c, rfl⟩
theorem few : ∀ (n : Nat) (lo : Int) (l : List Int), l.Nodup → (∀ x ∈ l, lo ≤ x ∧ x < lo + n) → l.length ≤ n
  | 0, lo, l, _, h => by
    cases l with
    | nil => exact Nat.le_refl _
    | cons x l =>
      have := h x List.mem_cons_self
      omega
  | n + 1, lo, l, hn, h => by
    have e := few n lo (l.filter fun x => x ≠ lo + n) (hn.filter _) fun x hx => by
      obtain ⟨h1, h2⟩ := List.mem_filter.mp hx
      have := h x h1
      have h2 : x ≠ lo + n := of_decide_eq_true h2
      omega
    have z : l.length ≤ (l.filter fun x => x ≠ lo + n).length + 1 := by
      have e1 : (l.filter fun x => x ≠ lo + n) = l.erase (lo + n) := by
        rw [hn.erase_eq_filter]
        congr 1
        funext x
        by_cases h : x = lo + n <;> simp [h]
      rw [e1, List.length_erase]
      split <;> omega
    omega
/-- every way can be made short -/
theorem short {es : List Edge} {pi : Int → Int} (hp : ∀ e ∈ es, pi e.2.1 - pi e.1 ≤ e.2.2) {n : Nat} {lo : Int} (hr : ∀ e ∈ es, (lo ≤ e.1 ∧ e.1 < lo + n) ∧ lo ≤ e.2.1 ∧ e.2.1 < lo + n) :
    ∀ (k : Nat) (v : Int) (l : List Int) (x : Int), l.length ≤ k → lo ≤ v → v < lo + n → WL es (v :: l) x → ∃ l' x', WL es (v :: l') x' ∧ x' ≤ x ∧ l'.length + 1 ≤ n := fun k => by
  induction k with
  | zero =>
    intro v l x hk h1 h2 h
    obtain rfl : l = [] := List.length_eq_zero_iff.mp (Nat.le_zero.mp hk)
    exact ⟨[], x, h, Int.le_refl _, by simp; omega⟩
  | succ k ih =>
    intro v l x hk h1 h2 h
    by_cases hn : (v :: l).Nodup
    · refine ⟨l, x, h, Int.le_refl _, few n lo (v :: l) hn ?_⟩
      have key : ∀ {l : List Int} {x : Int}, WL es l x → ∀ v l', l = v :: l' → lo ≤ v → v < lo + n → ∀ y ∈ l, lo ≤ y ∧ y < lo + n := fun {l x} h => by
        induction h with
        | one v =>
          intro v' l' e a1 a2 y hy
          cases e
          rw [List.mem_singleton] at hy
          subst hy
          exact ⟨a1, a2⟩
        | snoc h he ih =>
          intro v' l' e a1 a2 y hy
          cases e
          have z := hr _ he
          rcases List.mem_cons.mp hy with rfl | hy
          · exact ⟨a1, a2⟩
          · exact ih _ _ rfl z.1.1 z.1.2 y hy
      exact key h v l rfl h1 h2
    · obtain ⟨a, y, b, c, e⟩ := twice _ hn
      rw [e] at h
      obtain ⟨x1, q1, q2⟩ := h.swap a
      obtain ⟨x2, q3, q4⟩ := q1.tail hp b
      have q5 := q2 c x2 q3
      cases a with
      | nil =>
        cases e
        obtain ⟨l', x', w1, w2, w3⟩ := ih v c _ (by rw [List.length_append, List.length_cons] at hk; omega) h1 h2 q5
        exact ⟨l', x', w1, by omega, w3⟩
      | cons t a =>
        cases e
        obtain ⟨l', x', w1, w2, w3⟩ := ih v (a ++ y :: c) _ (by have hk : (a ++ y :: (b ++ y :: c)).length ≤ k + 1 := hk; rw [List.length_append, List.length_cons, List.length_append, List.length_cons] at hk; rw [List.length_append, List.length_cons]; omega) h1 h2 q5
        exact ⟨l', x', w1, by omega, w3⟩
/-- with a shape: no edge relaxes behind n - 1 rounds -/
theorem settled {es : List Edge} {pi : Int → Int} (hp : ∀ e ∈ es, pi e.2.1 - pi e.1 ≤ e.2.2) {n : Nat} {lo : Int} (hr : ∀ e ∈ es, (lo ≤ e.1 ∧ e.1 < lo + n) ∧ lo ≤ e.2.1 ∧ e.2.1 < lo + n) {k : Nat} (hk : n ≤ k + 1) :
    ∀ e ∈ es, rounds es k e.2.1 ≤ rounds es k e.1 + e.2.2 := fun e he => by
  obtain ⟨l, hl⟩ := told_rounds es k e.1
  obtain ⟨l', x', w1, w2, w3⟩ := short hp hr (e.1 :: l).length e.2.1 (e.1 :: l) _ (Nat.le_refl _) (hr e he).2.1 (hr e he).2.2 (.snoc hl he)
  have := rounds_le k l' e.2.1 x' w1 (by omega)
  have w2 : x' ≤ rounds es k e.1 + e.2.2 := w2
  omega
end Relax

/-! for x in xs, xs a list or a tuple; [*xs, y]. -/
namespace ItSeq
open PySem PySem.Spec PyProof.Rows L2
/-- a list or a tuple -/
def Sq (K : PySem.W.Frag) (H : Hp) (a : Addr) (xs : List V) : Prop := SqL K H a xs ∨ SqT K H a xs
theorem sqT_same {K : PySem.W.Frag} {H H' : Hp} {a : Addr} {xs : List V} (h : SqT K H a xs) (s : Same H H') : SqT K H' a xs := by
  rcases h with (h | ⟨o, h⟩) | h
  · exact .inl (.inl (s _ _ h))
  · exact .inl (.inr ⟨o, s _ _ h⟩)
  · exact .inr h
theorem sqL_same {K : PySem.W.Frag} {H H' : Hp} {a : Addr} {xs : List V} (h : SqL K H a xs) (s : Same H H') : SqL K H' a xs := by
  rcases h with (h | ⟨o, h⟩) | h
  · exact .inl (.inl (s _ _ h))
  · exact .inl (.inr ⟨o, s _ _ h⟩)
  · exact .inr h
theorem Sq.same {K : PySem.W.Frag} {H H' : Hp} {a : Addr} {xs : List V} (h : Sq K H a xs) (s : Same H H') : Sq K H' a xs := h.imp (sqL_same · s) (sqT_same · s)
/-- whichever it is, it is walked alike as long as all stands -/
def iSeq (K : PySem.W.Frag) (tl : TE) : TI := fun σ H R => tl σ H fun x H1 => ∃ a xs, x = .ref a ∧ Sq K H1 a xs ∧ ∀ J, Walk J xs.length (fun H => Same H1 H) (YAt xs) → R J H1
theorem pi_seq {X : Cx} {tg l : Expr} {tl : TE} (hl : PE X l tl) : PI X tg l (iSeq X.K tl) := by
  refine ⟨fun pins s σ H R I h => ?_⟩
  refine thn (hl.run pins s σ H _ I h) fun v s1 ⟨x, H1, I1, r1, a, xs, e, hq, q⟩ => ?_
  subst e
  cases r1
  have fp : ∀ b ∈ [s1.heap.objs.size], FpOk X pins H1 b := fun b hb => by
    rw [List.mem_singleton] at hb
    subst hb
    exact I1.fpOk (Nat.le_refl _) (I1.hok.fresh (Nat.le_refl _))
  rcases hq with hq | hq
  · obtain ⟨its, rv, p, hz⟩ := I1.list hq
    exact wpAny_pyIter_list p.isList ⟨s1.heap.objs.size, [s1.heap.objs.size], _, _, H1, rfl, I1.kept (t' := s1.toks) fun b o e => Heap.get?_push_of_some _ e, turn_list a _, ⟨_, Heap.get?_push_size _ rfl, rfl, rfl⟩, fp,
      q _ (walk_list.mono (fun _ s => sqL_same hq s) fun _ _ _ _ _ _ y => y)⟩
  · obtain ⟨its, rv, p, hz⟩ := I1.tuple hq
    exact wpAny_pyIter_tuple (show s1.heap.IsTuple a its.toArray from p) ⟨s1.heap.objs.size, [s1.heap.objs.size], _, _, H1, rfl, I1.kept (t' := s1.toks) fun b o e => Heap.get?_push_of_some _ e, turn_tuple a _, ⟨_, Heap.get?_push_size _ rfl, rfl, rfl⟩, fp,
      q _ (walk_tup.mono (fun _ s => sqT_same hq s) fun _ _ _ _ _ _ y => y)⟩
end ItSeq

namespace Law
open PySem PySem.Spec PyProof.Rows L2
theorem passS {X : Cx} {CX : CXT} {E : XK} (h : Passes CX X E) : ∀ σ, PassesAt CX X σ E := fun σ pins H s e s' I c => h pins σ H s e s' I c
end Law



/-! Site: the rows of walls, and what is made of them. -/
namespace Law
open PySem PySem.Spec PyProof.Rows L2 Sup
abbrev sSpots : Stmt := top 22
abbrev sTops : Stmt := top 23
theorem call_lenK (K : PySem.W.Frag) {X : Cx} (h : X.K = K) : CallR X (.builtin "len") (fun xs H Q => ∃ p ys, xs = [.ref p] ∧ (SqL K H p ys ∨ SqT K H p ys) ∧ Q (.int ys.length) H) := h ▸ call_len_seq
section
variable {J : It} {n : Nat} {G : Hp → Prop} {Y : Nat → Hp → V → Hp → Prop}
/-- the inner clause of a comprehension with two: Nx behind it -/
def InnerC (D : Addr) (g1 : TG) (tt1 : TT) (te : TE) (vs1 : List Nat) (J1 : It) (σ2 : L2.St) (Nx : Hp → Prop) (H4 : Hp) : Prop := ∃ W1 : Nat → Nat → Hp → Prop, (∃ m, W1 0 m H4) ∧ ∀ j k H, W1 j k H →
  (J1.stop j H ∧ Nx H) ∨ (J1.go j H ∧ ∃ Nx1 : Hp → Prop, (∀ H', Nx1 H' → ∃ k', k' < k ∧ W1 (j + 1) k' H') ∧ ∀ x H', J1.yld j H x H' → g1 x (wipe σ2 vs1) H' fun σ3 H5 => wipe σ3 vs1 = wipe σ2 vs1 ∧ tt1 σ3 H5 fun b H6 =>
    if b = true then te σ3 H6 fun y H7 => ∃ acc, H7 D = some (.lst acc) ∧ acc.length < sizeLine ∧ Nx1 (upd H7 D (.lst (acc ++ [y]))) else Nx1 H6)
theorem lcI (w : Walk J n G Y) {g : TG} {tt : TT} {te : TE} {vs : List Nat} {σ : L2.St} {H0 : Hp} {D : Addr} {Qd : Hp → Prop} (Pv : Nat → Hp → Prop) (h0 : Pv 0 H0) (hG : ∀ i H, i ≤ n → Pv i H → G H)
    (hs : ∀ i x H H', i < n → Pv i H → Y i H x H' → g x (wipe σ vs) H' fun σ2 H2 => wipe σ2 vs = wipe σ vs ∧ tt σ2 H2 fun b H3 =>
      if b = true then te σ2 H3 fun y H4 => ∃ acc, H4 D = some (.lst acc) ∧ acc.length < sizeLine ∧ Pv (i + 1) (upd H4 D (.lst (acc ++ [y]))) else Pv (i + 1) H3) (hd : ∀ H, Pv n H → Qd H) : InnerC D g tt te vs J σ Qd H0 := by
  refine ⟨fun i m H => i ≤ n ∧ m + i = n ∧ Pv i H, ⟨n, Nat.zero_le _, rfl, h0⟩, ?_⟩
  rintro i m H ⟨hi, hm, p⟩
  have q := hG i H hi p
  rcases Nat.lt_or_ge i n with c | c
  · exact .inr ⟨w.goes i H c q, Pv (i + 1), fun H' p' => ⟨m - 1, by omega, by omega, by omega, p'⟩, fun x H' y => hs i x H H' c p (w.yields i H x H' c q y)⟩
  · obtain rfl : i = n := by omega
    exact .inl ⟨w.stops H q, hd H p⟩
/-- the outer clause -/
theorem lcO (w : Walk J n G Y) {g g1 : TG} {tt tt1 : TT} {te : TE} {wi1 : TI} {vs vs1 : List Nat} {σ : L2.St} {H1 : Hp} {D : Addr} {Qd : Hp → Prop} (Pv : Nat → Hp → Prop) (h0 : Pv 0 (upd H1 D (.lst []))) (hG : ∀ i H, i ≤ n → Pv i H → G H)
    (hs : ∀ i x H H', i < n → Pv i H → Y i H x H' → g x (wipe σ vs) H' fun σ2 H2 => wipe σ2 vs = wipe σ vs ∧ tt σ2 H2 fun b H3 => if b = true then wi1 σ2 H3 fun J1 H4 => InnerC D g1 tt1 te vs1 J1 σ2 (Pv (i + 1)) H4 else Pv (i + 1) H3) (hd : ∀ H, Pv n H → Qd H) :
    ∃ W : Nat → Nat → Hp → Prop, (∃ m, W 0 m (upd H1 D (.lst []))) ∧ ∀ i m H, W i m H →
      (J.stop i H ∧ Qd H) ∨ (J.go i H ∧ ∃ Nx : Hp → Prop, (∀ H', Nx H' → ∃ m', m' < m ∧ W (i + 1) m' H') ∧ ∀ x H', J.yld i H x H' → g x (wipe σ vs) H' fun σ2 H2 => wipe σ2 vs = wipe σ vs ∧ tt σ2 H2 fun b H3 =>
        if b = true then wi1 σ2 H3 fun J1 H4 => InnerC D g1 tt1 te vs1 J1 σ2 Nx H4 else Nx H3) := by
  refine ⟨fun i m H => i ≤ n ∧ m + i = n ∧ Pv i H, ⟨n, Nat.zero_le _, rfl, h0⟩, ?_⟩
  rintro i m H ⟨hi, hm, p⟩
  have q := hG i H hi p
  rcases Nat.lt_or_ge i n with c | c
  · exact .inr ⟨w.goes i H c q, Pv (i + 1), fun H' p' => ⟨m - 1, by omega, by omega, by omega, p'⟩, fun x H' y => hs i x H H' c p (w.yields i H x H' c q y)⟩
  · obtain rfl : i = n := by omega
    exact .inl ⟨w.stops H q, hd H p⟩
end
/-- a wall: its name, top, slope and spans -/
abbrev Wal := Str × Int × Int × List Int
def Wal.many (w : Wal) : Nat := w.2.2.2.length + 1
theorem sqT_same {K : PySem.W.Frag} {H H' : Hp} {a : Addr} {xs : List V} (h : SqT K H a xs) (s : Same H H') : SqT K H' a xs := by
  rcases h with (h | ⟨o, h⟩) | h
  · exact .inl (.inl (s _ _ h))
  · exact .inl (.inr ⟨o, s _ _ h⟩)
  · exact .inr h
def WalT (K : PySem.W.Frag) (H : Hp) (t : Addr) (w : Wal) : Prop := ∃ sp, H t = some (.tup [.str w.1, .int w.2.1, .int w.2.2.1, .ref sp]) ∧ SqT K H sp (w.2.2.2.map V.int)
theorem WalT.same {K : PySem.W.Frag} {H H' : Hp} {t : Addr} {w : Wal} (h : WalT K H t w) (s : Same H H') : WalT K H' t w := by
  obtain ⟨sp, h1, h2⟩ := h
  exact ⟨sp, s _ _ h1, sqT_same h2 s⟩
def WalsAt (K : PySem.W.Frag) (H : Hp) (p : Addr) (ws : List Wal) : Prop := ∃ ts : List Addr, H p = some (.lst (ts.map V.ref)) ∧ ts.length = ws.length ∧ ∀ (i : Nat) (t : Addr) (w : Wal), ts[i]? = some t → ws[i]? = some w → WalT K H t w
theorem WalsAt.same {K : PySem.W.Frag} {H H' : Hp} {p : Addr} {ws : List Wal} (h : WalsAt K H p ws) (s : Same H H') : WalsAt K H' p ws := by
  obtain ⟨ts, h1, h2, h3⟩ := h
  exact ⟨ts, s _ _ h1, h2, fun i t w e1 e2 => (h3 i t w e1 e2).same s⟩
def spotsW (w : Wal) : List (Str × Int) := (List.range w.many).map fun (i : Nat) => (w.1, (i : Int))
def spotsOf (ws : List Wal) : List (Str × Int) := ws.flatMap spotsW
def topsW (w : Wal) : List Int := List.replicate w.many w.2.1
def topsOf (ws : List Wal) : List Int := ws.flatMap topsW
theorem tops_len : ∀ ws : List Wal, (topsOf ws).length = (spotsOf ws).length
  | [] => rfl
  | w :: ws => by
    have ih := tops_len ws
    unfold topsOf spotsOf at ih ⊢
    rw [List.flatMap_cons, List.flatMap_cons, List.length_append, List.length_append, ih]
    unfold topsW spotsW
    rw [List.length_replicate, List.length_map, List.length_range]
/-- the rows list grows by a new tuple -/
theorem RowsAt.push {H : Hp} {p q : Addr} {rows : List Row} {y : Str} {L : Int} (h : RowsAt H p rows) (hq : H q = none) (hl : rows.length ≤ 900) :
    ∃ acc, (upd H q (.tup [.str y, .int L])) p = some (.lst acc) ∧ acc.length < sizeLine ∧ RowsAt (upd (upd H q (.tup [.str y, .int L])) p (.lst (acc ++ [.ref q]))) p (rows ++ [(y, L)]) := by
  obtain ⟨ts, h1, h2, h3⟩ := h
  have npq : p ≠ q := ne_of_none h1 hq
  refine ⟨_, by rw [upd_ne npq]; exact h1, small1000 (by rw [List.length_map]; omega), ts ++ [q], by rw [upd_same, List.map_append]; rfl, by simp [h2], fun i t y' L' e1 e2 => ?_⟩
  by_cases hi : i < ts.length
  · rw [List.getElem?_append_left hi] at e1
    rw [List.getElem?_append_left (by omega)] at e2
    have z := h3 i t y' L' e1 e2
    have n1 : t ≠ p := fun w => by rw [w, h1] at z; cases z
    rw [upd_ne n1, upd_ne (ne_of_none z hq)]
    exact z
  · rw [List.getElem?_append_right (by omega)] at e1 e2
    have ei : i - ts.length = 0 := by
      have := (List.getElem?_eq_some_iff.mp e1).1
      simp at this
      omega
    have ej : i - rows.length = 0 := by omega
    rw [ei] at e1
    rw [ej] at e2
    cases e1
    cases e2
    rw [upd_ne (Ne.symm npq), upd_same]
theorem part_len {α β : Type} {l : List α} {f : α → List β} {i j : Nat} {a : α} (h : l[i]? = some a) : ((l.take i).flatMap f ++ (f a).take j).length ≤ (l.flatMap f).length := by
  have e : l = l.take i ++ a :: l.drop (i + 1) := by
    obtain ⟨hi', hx⟩ := List.getElem?_eq_some_iff.mp h
    rw [← hx, List.getElem_cons_drop, List.take_append_drop]
  have e2 : (l.flatMap f).length = ((l.take i).flatMap f).length + ((f a).length + ((l.drop (i + 1)).flatMap f).length) := by
    conv => lhs; rw [e]
    rw [List.flatMap_append, List.flatMap_cons, List.length_append, List.length_append]
  rw [List.length_append, List.length_take, e2]
  omega
structure STxt (mg : Str → Option Value) : Prop where
  len : mg "len" = none
  range : mg "range" = none
def spSpots (K : PySem.W.Frag) : Sp := fun vs H Q _ => ∃ (p : Addr) (ws : List Wal), vs = [.ref p] ∧ WalsAt K H p ws ∧ (spotsOf ws).length ≤ 800 ∧ ∀ (q : Addr) (H' : Hp), H q = none → Same H H' → RowsAt H' q (spotsOf ws) → Q (.ref q) H'
def spTops (K : PySem.W.Frag) : Sp := fun vs H Q _ => ∃ (p : Addr) (ws : List Wal), vs = [.ref p] ∧ WalsAt K H p ws ∧ (spotsOf ws).length ≤ 800 ∧ ∀ (q : Addr) (H' : Hp), H q = none → Same H H' → H' q = some (.lst ((topsOf ws).map V.int)) → Q (.ref q) H'
section
variable {P : Program} {w : World} {K : PySem.W.Frag} {mg : Str → Option Value} {base : Heap}
theorem scSpots : FnScope ["rows", "name", "_", "spans", "index"] ["rows"] (defScope sSpots) := ⟨rfl, rfl, rfl, by decide +kernel, rfl, by decide +kernel, by decide +kernel⟩
theorem scTops : FnScope ["rows", "_", "top", "spans"] ["rows"] (defScope sTops) := ⟨rfl, rfl, rfl, by decide +kernel, rfl, by decide +kernel, by decide +kernel⟩
set_option maxHeartbeats 0 in
theorem ok_spots {f : Addr} {fd : FuncData} (F : Fun K "_spots_of" "_spots_of" sSpots f fd) (T : STxt mg) : FnOk P w K mg base CX0 1 f fd ["rows"] (spSpots K) := by
  refine F.ok scSpots (fun vs H Q E h => ?_) (fun cdv A outer s H vs Q E hr h => ?_)
  · obtain ⟨p, ws, rfl, _⟩ := h
    rfl
  · obtain ⟨p, ws, rfl, W, len8, k⟩ := h
    refine ⟨_, (pss_one (ps_ret (pe_lc2 (own := [("name", 1), ("_", 2), ("spans", 3), ("index", 4)]) (vs1 := [4]) (g := (gTup K 4 (gCons (gName 1) (gCons (gName 2) (gCons (gName 2) (gCons (gName 3) gNil)))))) (g1 := gName 4) (tt := tYes) (tt1 := tYes) (wi1 := (iRng1 (tCons (tOp (rI0 fun i j => .int (i + j)) (tCB (fun xs H Q => ∃ p ys, xs = [.ref p] ∧ (SqL K H p ys ∨ SqT K H p ys) ∧ Q (.int ys.length) H) (tCons (tVar 3) tNil)) (tC (.int 1))) tNil))) (te := tTup (tCons (tVar 1) (tCons (tVar 4) tNil)))
        (by rfl) scSpots.nd (pi_list (pv 0)) (blkOk_by (own := [("name", 1), ("_", 2), ("spans", 3), ("index", 4)]) (N := ["rows", "name", "_", "spans", "index"]) (sc := defScope sSpots) (by decide +kernel)) (by decide)
        (fun _ _ _ _ _ => by exact (pg_tup (n := 4) rfl (pgs_cons (pg_name (i := 1) scSpots.nd rfl (Or.inl rfl)) (pgs_cons (pg_name (i := 2) scSpots.nd rfl (Or.inl rfl)) (pgs_cons (pg_name (i := 2) scSpots.nd rfl (Or.inl rfl)) (pgs_cons (pg_name (i := 3) scSpots.nd rfl (Or.inl rfl)) pgs_nil)))))) (fun _ _ _ _ _ => pts_nil) (fun _ _ _ _ _ => by exact (pi_range1 (by rfl) T.range (pa_cons (pe_op op_add (pe_callB (call_lenK K rfl) (by rfl) T.len PySem.boot_len (pa_cons (pv 3) pa_nil)) pe_int) pa_nil)))
        (fun _ _ _ _ _ => pg_name (i := 4) scSpots.nd rfl (Or.inl rfl)) (fun _ _ _ _ _ => pts_nil) (fun _ _ _ _ _ => (pe_tup (pa_cons (pv 1) (pa_cons (pv 4) pa_nil))))))), ?_⟩
    obtain ⟨ts, t1, t2, t3⟩ := id W
    refine ⟨_, rfl, p, rfl, ⟨_, SqL.of t1⟩, fun D hD => ?_⟩
    refine lcO (walk_list (xs := ts.map V.ref)) (fun i H' => RowsAt H' D ((ws.take i).flatMap spotsW) ∧ Same H H') ⟨⟨[], upd_same, rfl, fun i t y L e => by cases e⟩, same_new hD⟩ (fun _ _ _ h => SqL.of (h.2 _ _ t1)) ?_ ?_
    · rintro i x H1 H2 hi ⟨R, S1⟩ ⟨rfl, hx⟩
      rw [List.length_map] at hi
      rw [List.getElem?_map, List.getElem?_eq_getElem hi] at hx
      cases hx
      obtain ⟨wl, hw⟩ : ∃ w, ws[i]? = some w := ⟨_, List.getElem?_eq_getElem (by omega)⟩
      obtain ⟨sp, z1, z2⟩ := (t3 i _ wl (List.getElem?_eq_getElem hi) hw).same S1
      have et : (ws.take (i + 1)).flatMap spotsW = (ws.take i).flatMap spotsW ++ spotsW wl := by
        rw [List.take_succ, hw, List.flatMap_append]
        simp
      have wm : wl.many = wl.2.2.2.length + 1 := rfl
      have pl0 := part_len (f := spotsW) (j := wl.many) hw
      have hm8 : wl.many ≤ 800 := by
        have e2 : ((ws.take i).flatMap spotsW ++ (spotsW wl).take wl.many).length ≤ 800 := Nat.le_trans pl0 len8
        rw [List.length_append, List.length_take] at e2
        have : (spotsW wl).length = wl.many := by unfold spotsW; rw [List.length_map, List.length_range]
        omega
      refine ⟨_, _, rfl, SqT.of z1, rfl, _, _, rfl, _, _, rfl, _, _, rfl, _, _, rfl, rfl, rfl, _, rfl, sp, _, rfl, .inr z2, _, _, rfl, rfl, _, rfl, by omega, by rw [List.length_map]; omega, ?_⟩
      have en : ((((wl.2.2.2.map V.int).length : Nat) : Int) + 1).toNat = wl.many := by rw [List.length_map, wm]; omega
      rw [en]
      refine lcI (walk_range (lo := 0) (n := wl.many)) (fun m H' => RowsAt H' D ((ws.take i).flatMap spotsW ++ (spotsW wl).take m) ∧ Same H H') ⟨by rw [List.take_zero, List.append_nil]; exact R, S1⟩ (fun _ _ _ _ => trivial) ?_ ?_
      · rintro m x H3 H4 hm ⟨R3, S3⟩ ⟨rfl, rfl⟩
        have pl := part_len (f := spotsW) (j := m) hw
        have pl : ((ws.take i).flatMap spotsW ++ (spotsW wl).take m).length ≤ (spotsOf ws).length := pl
        refine ⟨rfl, _, rfl, _, rfl, by show 2 ≤ sizeLine; decide, fun q hq => ?_⟩
        obtain ⟨acc, a1, a2, a3⟩ := R3.push (y := wl.1) (L := 0 + (m : Int)) hq (by omega)
        refine ⟨acc, a1, a2, ?_, fun b o e => ?_⟩
        · have er : (spotsW wl)[m]? = some (wl.1, 0 + (m : Int)) := by
            unfold spotsW
            rw [List.getElem?_map, List.getElem?_range hm, Int.zero_add]
            rfl
          rw [List.take_succ, er, ← List.append_assoc]
          exact a3
        · rw [upd_ne (ne_of_none e hD), upd_ne (ne_of_none (S3 _ _ e) hq)]
          exact S3 _ _ e
      · rintro H3 ⟨R3, S3⟩
        rw [List.take_of_length_le (l := spotsW wl) (by unfold spotsW; rw [List.length_map, List.length_range]; omega)] at R3
        rw [et]
        exact ⟨R3, S3⟩
    · rintro H1 ⟨R, S1⟩
      rw [List.length_map, t2, List.take_length] at R
      exact k D H1 hD S1 R
set_option maxHeartbeats 0 in
theorem ok_tops {f : Addr} {fd : FuncData} (F : Fun K "_tops_of" "_tops_of" sTops f fd) (T : STxt mg) : FnOk P w K mg base CX0 1 f fd ["rows"] (spTops K) := by
  refine F.ok scTops (fun vs H Q E h => ?_) (fun cdv A outer s H vs Q E hr h => ?_)
  · obtain ⟨p, ws, rfl, _⟩ := h
    rfl
  · obtain ⟨p, ws, rfl, W, len8, k⟩ := h
    refine ⟨_, (pss_one (ps_ret (pe_lc2 (own := [("_", 1), ("top", 2), ("spans", 3)]) (vs1 := [1]) (g := (gTup K 4 (gCons (gName 1) (gCons (gName 2) (gCons (gName 1) (gCons (gName 3) gNil)))))) (g1 := gName 1) (tt := tYes) (tt1 := tYes) (wi1 := (iRng1 (tCons (tOp (rI0 fun i j => .int (i + j)) (tCB (fun xs H Q => ∃ p ys, xs = [.ref p] ∧ (SqL K H p ys ∨ SqT K H p ys) ∧ Q (.int ys.length) H) (tCons (tVar 3) tNil)) (tC (.int 1))) tNil))) (te := tVar 2)
        (by rfl) scTops.nd (pi_list (pv 0)) (blkOk_by (own := [("_", 1), ("top", 2), ("spans", 3)]) (N := ["rows", "_", "top", "spans"]) (sc := defScope sTops) (by decide +kernel)) (by decide)
        (fun _ _ _ _ _ => by exact (pg_tup (n := 4) rfl (pgs_cons (pg_name (i := 1) scTops.nd rfl (Or.inl rfl)) (pgs_cons (pg_name (i := 2) scTops.nd rfl (Or.inl rfl)) (pgs_cons (pg_name (i := 1) scTops.nd rfl (Or.inl rfl)) (pgs_cons (pg_name (i := 3) scTops.nd rfl (Or.inl rfl)) pgs_nil)))))) (fun _ _ _ _ _ => pts_nil) (fun _ _ _ _ _ => by exact (pi_range1 (by rfl) T.range (pa_cons (pe_op op_add (pe_callB (call_lenK K rfl) (by rfl) T.len PySem.boot_len (pa_cons (pv 3) pa_nil)) pe_int) pa_nil)))
        (fun _ _ _ _ _ => pg_name (i := 1) scTops.nd rfl (Or.inl rfl)) (fun _ _ _ _ _ => pts_nil) (fun _ _ _ _ _ => (pv 2))))), ?_⟩
    obtain ⟨ts, t1, t2, t3⟩ := id W
    rw [← tops_len] at len8
    refine ⟨_, rfl, p, rfl, ⟨_, SqL.of t1⟩, fun D hD => ?_⟩
    refine lcO (walk_list (xs := ts.map V.ref)) (fun i H' => H' D = some (.lst (((ws.take i).flatMap topsW).map V.int)) ∧ Same H H') ⟨upd_same, same_new hD⟩ (fun _ _ _ h => SqL.of (h.2 _ _ t1)) ?_ ?_
    · rintro i x H1 H2 hi ⟨R, S1⟩ ⟨rfl, hx⟩
      rw [List.length_map] at hi
      rw [List.getElem?_map, List.getElem?_eq_getElem hi] at hx
      cases hx
      obtain ⟨wl, hw⟩ : ∃ w, ws[i]? = some w := ⟨_, List.getElem?_eq_getElem (by omega)⟩
      obtain ⟨sp, z1, z2⟩ := (t3 i _ wl (List.getElem?_eq_getElem hi) hw).same S1
      have et : (ws.take (i + 1)).flatMap topsW = (ws.take i).flatMap topsW ++ topsW wl := by
        rw [List.take_succ, hw, List.flatMap_append]
        simp
      have wm : wl.many = wl.2.2.2.length + 1 := rfl
      have tl : (topsW wl).length = wl.many := by unfold topsW; rw [List.length_replicate]
      have pl0 := part_len (f := topsW) (j := wl.many) hw
      have hm8 : wl.many ≤ 800 := by
        have e2 : ((ws.take i).flatMap topsW ++ (topsW wl).take wl.many).length ≤ 800 := Nat.le_trans pl0 len8
        rw [List.length_append, List.length_take] at e2
        omega
      refine ⟨_, _, rfl, SqT.of z1, rfl, _, _, rfl, _, _, rfl, _, _, rfl, _, _, rfl, rfl, rfl, _, rfl, sp, _, rfl, .inr z2, _, _, rfl, rfl, _, rfl, by omega, by rw [List.length_map]; omega, ?_⟩
      have en : ((((wl.2.2.2.map V.int).length : Nat) : Int) + 1).toNat = wl.many := by rw [List.length_map, wm]; omega
      rw [en]
      refine lcI (walk_range (lo := 0) (n := wl.many)) (fun m H' => H' D = some (.lst (((ws.take i).flatMap topsW ++ (topsW wl).take m).map V.int)) ∧ Same H H') ⟨by rw [List.take_zero, List.append_nil]; exact R, S1⟩ (fun _ _ _ _ => trivial) ?_ ?_
      · rintro m x H3 H4 hm ⟨R3, S3⟩ ⟨rfl, rfl⟩
        have pl := part_len (f := topsW) (j := m) hw
        have pl : ((ws.take i).flatMap topsW ++ (topsW wl).take m).length ≤ (topsOf ws).length := pl
        refine ⟨rfl, _, rfl, _, R3, small1000 (by rw [List.length_map]; omega), ?_, fun b o e => ?_⟩
        · have er : (topsW wl)[m]? = some wl.2.1 := by
            unfold topsW
            rw [List.getElem?_replicate, if_pos hm]
          rw [upd_same, List.take_succ, er, ← List.append_assoc]
          exact congrArg (fun l => some (HO.lst l)) (List.map_append (l₂ := [wl.2.1])).symm
        · rw [upd_ne (ne_of_none e hD)]
          exact S3 _ _ e
      · rintro H3 ⟨R3, S3⟩
        rw [List.take_of_length_le (l := topsW wl) (by omega)] at R3
        rw [et]
        exact ⟨R3, S3⟩
    · rintro H1 ⟨R, S1⟩
      rw [List.length_map, t2, List.take_length] at R
      exact k D H1 hD S1 R
end
end Law

/-! The limits that walls and links tell. -/
namespace Law
open PySem PySem.Spec PyProof.Rows L2 Sup
abbrev sGrd : Stmt := top 25
abbrev sSlp : Stmt := top 26
abbrev sLnk : Stmt := top 27
abbrev Edge := Int × Int × Int
/-- a list of limits: tuples of three ints -/
def LimsAt (H : Hp) (p : Addr) (es : List Edge) : Prop := ∃ ts : List Addr, H p = some (.lst (ts.map V.ref)) ∧ ts.length = es.length ∧ ∀ (i : Nat) (t : Addr) (e : Edge), ts[i]? = some t → es[i]? = some e → H t = some (.tup [.int e.1, .int e.2.1, .int e.2.2])
theorem LimsAt.same {H H' : Hp} {p : Addr} {es : List Edge} (h : LimsAt H p es) (s : Same H H') : LimsAt H' p es := by
  obtain ⟨ts, h1, h2, h3⟩ := h
  exact ⟨ts, s _ _ h1, h2, fun i t e e1 e2 => s _ _ (h3 i t e e1 e2)⟩
theorem LimsAt.len {H : Hp} {p : Addr} {es : List Edge} (h : LimsAt H p es) : ∃ xs, H p = some (.lst xs) ∧ xs.length = es.length := by
  obtain ⟨ts, h1, h2, _⟩ := h
  exact ⟨_, h1, by rw [List.length_map]; exact h2⟩
theorem LimsAt.push {H : Hp} {p t : Addr} {es : List Edge} {e : Edge} {xs : List V} (h : LimsAt H p es) (hx : H p = some (.lst xs)) (ht : H t = some (.tup [.int e.1, .int e.2.1, .int e.2.2])) : LimsAt (upd H p (.lst (xs ++ [.ref t]))) p (es ++ [e]) := by
  obtain ⟨ts, h1, h2, h3⟩ := h
  rw [hx] at h1
  cases h1
  have old : ∀ {c : Addr} {ys : List V}, H c = some (.tup ys) → c ≠ p := fun {c ys} e z => by rw [z, hx] at e; cases e
  refine ⟨ts ++ [t], by rw [upd_same, List.map_append]; rfl, by simp [h2], fun i t' e' e1 e2 => ?_⟩
  by_cases hi : i < ts.length
  · rw [List.getElem?_append_left hi] at e1
    rw [List.getElem?_append_left (by omega)] at e2
    have z := h3 i t' e' e1 e2
    rw [upd_ne (old z)]
    exact z
  · rw [List.getElem?_append_right (by omega)] at e1 e2
    have ei : i - ts.length = 0 := by
      have := (List.getElem?_eq_some_iff.mp e1).1
      simp at this
      omega
    have ej : i - es.length = 0 := by omega
    rw [ei] at e1
    rw [ej] at e2
    cases e1
    cases e2
    rw [upd_ne (old ht)]
    exact ht
theorem LimsAt.cat {H : Hp} {a b p : Addr} {xs ys : List V} {u v : List Edge} (hu : LimsAt H a u) (hv : LimsAt H b v) (ha : H a = some (.lst xs)) (hb : H b = some (.lst ys)) (hp : H p = none) : LimsAt (upd H p (.lst (xs ++ ys))) p (u ++ v) := by
  obtain ⟨us, u1, u2, u3⟩ := hu
  obtain ⟨vs, v1, v2, v3⟩ := hv
  rw [ha] at u1
  rw [hb] at v1
  cases u1
  cases v1
  refine ⟨us ++ vs, by rw [upd_same, List.map_append], by rw [List.length_append, List.length_append, u2, v2], fun i t e e1 e2 => ?_⟩
  by_cases hi : i < us.length
  · rw [List.getElem?_append_left hi] at e1
    rw [List.getElem?_append_left (by omega)] at e2
    have z := u3 i t e e1 e2
    rw [upd_ne (ne_of_none z hp)]
    exact z
  · rw [List.getElem?_append_right (by omega)] at e1 e2
    rw [← u2] at e2
    have z := v3 _ t e e1 e2
    rw [upd_ne (ne_of_none z hp)]
    exact z
/-- two limits more, each in a new tuple: what the steps of the loops do -/
theorem push2 {H0 H : Hp} {p : Addr} {es : List Edge} {Q : Hp → Prop} (e f : Edge) (h : LimsAt H p es) (s : Same H0 H) (np : H0 p = none) (hl : es.length ≤ 900)
    (k : ∀ H', LimsAt H' p (es ++ [e, f]) → Same H0 H' → Q H') :
    ∀ t, H t = none → ∃ xs, upd H t (.tup [.int e.1, .int e.2.1, .int e.2.2]) p = some (.lst xs) ∧ xs.length < sizeLine ∧
      ∀ H1, H1 = upd (upd H t (.tup [.int e.1, .int e.2.1, .int e.2.2])) p (.lst (xs ++ [.ref t])) → (∃ ys, H1 p = some (.lst ys)) ∧ ∀ u, H1 u = none → ∃ ys, upd H1 u (.tup [.int f.1, .int f.2.1, .int f.2.2]) p = some (.lst ys) ∧ ys.length < sizeLine ∧
        Q (upd (upd H1 u (.tup [.int f.1, .int f.2.1, .int f.2.2])) p (.lst (ys ++ [.ref u]))) := fun t ht => by
  have s1 := same_new (o := .tup [.int e.1, .int e.2.1, .int e.2.2]) ht
  have h1 := h.same s1
  obtain ⟨xs, x1, x2⟩ := h1.len
  have e0 : upd H t (.tup [.int e.1, .int e.2.1, .int e.2.2]) t = some (.tup [.int e.1, .int e.2.1, .int e.2.2]) := upd_same
  have sA := same_tr s s1
  generalize upd H t (.tup [.int e.1, .int e.2.1, .int e.2.2]) = HA at s1 h1 x1 e0 sA
  refine ⟨xs, x1, small1000 (by omega), fun H1 eH => ?_⟩
  have h2 := h1.push (e := e) x1 e0
  rw [← eH] at h2
  have sB : Same H0 H1 := fun c o z => by
    rw [eH, upd_ne (ne_of_none z np)]
    exact sA _ _ z
  obtain ⟨ys0, y01, y02⟩ := h2.len
  refine ⟨⟨ys0, y01⟩, fun u hu => ?_⟩
  have s2 := same_new (o := .tup [.int f.1, .int f.2.1, .int f.2.2]) hu
  have h3 := h2.same s2
  obtain ⟨ys, y1, y2⟩ := h3.len
  have f0 : upd H1 u (.tup [.int f.1, .int f.2.1, .int f.2.2]) u = some (.tup [.int f.1, .int f.2.1, .int f.2.2]) := upd_same
  have sC := same_tr sB s2
  generalize upd H1 u (.tup [.int f.1, .int f.2.1, .int f.2.2]) = HC at s2 h3 y1 f0 sC
  refine ⟨ys, y1, small1000 (by rw [y2, List.length_append]; simp; omega), k _ ?_ fun c o z => ?_⟩
  · have h4 := h3.push (e := f) y1 f0
    rw [List.append_assoc] at h4
    exact h4
  · rw [upd_ne (ne_of_none z np)]
    exact sC _ _ z
def groundE (i t : Int) : List Edge := [(-1, i, t), (i, -1, 0)]
def groundN : Int → List Int → List Edge
  | _, [] => []
  | k, t :: ts => groundE k t ++ groundN (k + 1) ts
theorem groundN_snoc : ∀ (k : Int) (l : List Int) (t : Int), groundN k (l ++ [t]) = groundN k l ++ groundE (k + l.length) t
  | k, [], t => by simp [groundN]
  | k, x :: l, t => by
    have ih := groundN_snoc (k + 1) l t
    show groundE k x ++ groundN (k + 1) (l ++ [t]) = _
    rw [ih]
    show _ = groundE k x ++ groundN (k + 1) l ++ _
    rw [List.append_assoc]
    have e : k + 1 + (l.length : Int) = k + ((x :: l).length : Int) := by rw [List.length_cons]; omega
    rw [e]
theorem groundN_len : ∀ (k : Int) (l : List Int), (groundN k l).length = 2 * l.length
  | _, [] => rfl
  | k, x :: l => by
    have ih := groundN_len (k + 1) l
    show (groundE k x ++ groundN (k + 1) l).length = _
    rw [List.length_append, ih, List.length_cons]
    show 2 + 2 * l.length = _
    omega
def spanE (p w : Int) : List Edge := [(p, p + 1, w), (p + 1, p, w)]
def spanN (sl : Int) : Int → List Int → List Edge
  | _, [] => []
  | p, x :: xs => spanE p (sl * x) ++ spanN sl (p + 1) xs
theorem spanN_snoc (sl : Int) : ∀ (p : Int) (l : List Int) (x : Int), spanN sl p (l ++ [x]) = spanN sl p l ++ spanE (p + l.length) (sl * x)
  | p, [], x => by simp [spanN]
  | p, y :: l, x => by
    have ih := spanN_snoc sl (p + 1) l x
    show spanE p (sl * y) ++ spanN sl (p + 1) (l ++ [x]) = _
    rw [ih]
    show _ = spanE p (sl * y) ++ spanN sl (p + 1) l ++ _
    rw [List.append_assoc]
    have e : p + 1 + (l.length : Int) = p + ((y :: l).length : Int) := by rw [List.length_cons]; omega
    rw [e]
theorem spanN_len (sl : Int) : ∀ (p : Int) (l : List Int), (spanN sl p l).length = 2 * l.length
  | _, [] => rfl
  | p, x :: l => by
    have ih := spanN_len sl (p + 1) l
    show (spanE p (sl * x) ++ spanN sl (p + 1) l).length = _
    rw [List.length_append, ih, List.length_cons]
    show 2 + 2 * l.length = _
    omega
def slopeN : Int → List Wal → List Edge
  | _, [] => []
  | p, w :: ws => spanN w.2.2.1 p w.2.2.2 ++ slopeN (p + w.many) ws
/-- how many places -/
def places : List Wal → Nat
  | [] => 0
  | w :: ws => w.many + places ws
theorem places_snoc : ∀ (l : List Wal) (w : Wal), places (l ++ [w]) = places l + w.many
  | [], w => by simp [places]
  | x :: l, w => by
    show x.many + places (l ++ [w]) = x.many + places l + w.many
    rw [places_snoc l w]
    omega
theorem spots_places : ∀ ws : List Wal, (spotsOf ws).length = places ws
  | [] => rfl
  | w :: ws => by
    have ih := spots_places ws
    unfold spotsOf at ih ⊢
    rw [List.flatMap_cons, List.length_append, ih]
    unfold spotsW
    rw [List.length_map, List.length_range]
    rfl
theorem slopeN_snoc : ∀ (p : Int) (l : List Wal) (w : Wal), slopeN p (l ++ [w]) = slopeN p l ++ spanN w.2.2.1 (p + places l) w.2.2.2
  | p, [], w => by simp [slopeN, places]
  | p, x :: l, w => by
    have ih := slopeN_snoc (p + x.many) l w
    show spanN x.2.2.1 p x.2.2.2 ++ slopeN (p + x.many) (l ++ [w]) = _
    rw [ih]
    show _ = spanN x.2.2.1 p x.2.2.2 ++ slopeN (p + x.many) l ++ _
    rw [List.append_assoc]
    have e : p + (x.many : Int) + (places l : Int) = p + ((places (x :: l) : Nat) : Int) := by show _ = p + ((x.many + places l : Nat) : Int); omega
    rw [e]
theorem slopeN_len : ∀ (p : Int) (l : List Wal), (slopeN p l).length ≤ 2 * places l
  | _, [] => Nat.zero_le _
  | p, x :: l => by
    have ih := slopeN_len (p + x.many) l
    show (spanN x.2.2.1 p x.2.2.2 ++ slopeN (p + x.many) l).length ≤ 2 * (x.many + places l)
    rw [List.length_append, spanN_len]
    have : x.many = x.2.2.2.length + 1 := rfl
    omega
theorem places_take {ws : List Wal} {i : Nat} {w : Wal} (h : ws[i]? = some w) : places (ws.take i) + w.many ≤ places ws := by
  have e : ws = ws.take (i + 1) ++ ws.drop (i + 1) := (List.take_append_drop _ _).symm
  have key : ∀ a b : List Wal, places (a ++ b) = places a + places b := fun a b => by
    induction a with
    | nil => simp [places]
    | cons x a ih =>
      show x.many + places (a ++ b) = x.many + places a + places b
      rw [ih]
      omega
  have e2 : places ws = places (ws.take (i + 1)) + places (ws.drop (i + 1)) := by rw [← key, ← e]
  rw [List.take_succ, h, Option.toList_some, places_snoc] at e2
  omega
/-- a link: two places, the least and the most difference -/
abbrev Lnk := Int × Int × Int × Int
def linkE (l : Lnk) : List Edge := [(l.1, l.2.1, l.2.2.2), (l.2.1, l.1, -l.2.2.1)]
def LnkT (K : PySem.W.Frag) (H : Hp) (t : Addr) (l : Lnk) : Prop := SqT K H t [.int l.1, .int l.2.1, .int l.2.2.1, .int l.2.2.2]
def LnksAt (K : PySem.W.Frag) (H : Hp) (p : Addr) (ls : List Lnk) : Prop := ∃ ts : List Addr, H p = some (.lst (ts.map V.ref)) ∧ ts.length = ls.length ∧ ∀ (i : Nat) (t : Addr) (l : Lnk), ts[i]? = some t → ls[i]? = some l → LnkT K H t l
theorem LnksAt.same {K : PySem.W.Frag} {H H' : Hp} {p : Addr} {ls : List Lnk} (h : LnksAt K H p ls) (s : Same H H') : LnksAt K H' p ls := by
  obtain ⟨ts, h1, h2, h3⟩ := h
  exact ⟨ts, s _ _ h1, h2, fun i t l e1 e2 => sqT_same (h3 i t l e1 e2) s⟩
theorem linkE_len (ls : List Lnk) : (ls.flatMap linkE).length = 2 * ls.length := by
  induction ls with
  | nil => rfl
  | cons l ls ih =>
    rw [List.flatMap_cons, List.length_append, ih, List.length_cons]
    show 2 + 2 * ls.length = _
    omega
structure EdTxt (mg : Str → Option Value) : Prop where
  ground : ∃ t, mg "GROUND" = some (.int (-1) t)
  enumerate : mg "enumerate" = none
def spGrd : Sp := fun vs H Q _ => ∃ (p : Addr) (ts : List Int), vs = [.ref p] ∧ H p = some (.lst (ts.map V.int)) ∧ ts.length ≤ 400 ∧ ∀ (q : Addr) (H' : Hp), H q = none → Same H H' → LimsAt H' q (groundN 0 ts) → Q (.ref q) H'
def spSlp (K : PySem.W.Frag) : Sp := fun vs H Q _ => ∃ (p : Addr) (ws : List Wal), vs = [.ref p] ∧ WalsAt K H p ws ∧ places ws ≤ 400 ∧ (∀ w ∈ ws, Sz w.2.2.1 ∧ ∀ x ∈ w.2.2.2, Sz x) ∧ ∀ (q : Addr) (H' : Hp), H q = none → Same H H' → LimsAt H' q (slopeN 0 ws) → Q (.ref q) H'
def spLnk (K : PySem.W.Frag) : Sp := fun vs H Q _ => ∃ (p : Addr) (ls : List Lnk), vs = [.ref p] ∧ LnksAt K H p ls ∧ ls.length ≤ 400 ∧ ∀ (q : Addr) (H' : Hp), H q = none → Same H H' → LimsAt H' q (ls.flatMap linkE) → Q (.ref q) H'
section
variable {P : Program} {w : World} {K : PySem.W.Frag} {mg : Str → Option Value} {base : Heap}
theorem scGrd : FnScope ["tops", "limits", "place", "top"] ["tops"] (defScope sGrd) := ⟨rfl, rfl, rfl, by decide +kernel, rfl, by decide +kernel, by decide +kernel⟩
theorem scSlp : FnScope ["rows", "limits", "place", "_", "slope", "spans", "span"] ["rows"] (defScope sSlp) := ⟨rfl, rfl, rfl, by decide +kernel, rfl, by decide +kernel, by decide +kernel⟩
theorem scLnk : FnScope ["links", "limits", "first", "second", "least", "most"] ["links"] (defScope sLnk) := ⟨rfl, rfl, rfl, by decide +kernel, rfl, by decide +kernel, by decide +kernel⟩
set_option maxHeartbeats 0 in
theorem ok_grd {f : Addr} {fd : FuncData} (F : Fun K "_ground_limits" "_ground_limits" sGrd f fd) (T : EdTxt mg) : FnOk P w K mg base CX0 1 f fd ["tops"] spGrd := by
  obtain ⟨tk, hgr⟩ := T.ground
  have hen := T.enumerate
  refine F.ok scGrd (fun vs H Q E h => ?_) (fun cdv A outer s H vs Q E hr h => ?_)
  · obtain ⟨p, ts, rfl, _⟩ := h
    rfl
  · obtain ⟨p, ts, rfl, hp, l4, k⟩ := h
    refine ⟨_, (pss_cons (ps_set (i := 1) scGrd.nd rfl (Or.inl rfl) (pe_lst pa_nil))
      (pss_cons (ps_for PassesOwn.never rfl (pi_enum (by rfl) hen (pa_cons (pv 0) pa_nil)) (pg_tup (by rfl) (pgs_cons (pg_name (i := 2) scGrd.nd rfl (Or.inl rfl)) (pgs_cons (pg_name (i := 3) scGrd.nd rfl (Or.inl rfl)) pgs_nil))) (pss_cons (ps_expr (pe_bm PySem.F.plainAttrs_list PySem.F.slot_list_append PySem.F.type_list_append mt_append (pv 1) (pa_cons (pe_tup (pa_cons (pe_glob (v := .int (-1)) rfl hgr ⟨_, rfl⟩) (pa_cons (pv 2) (pa_cons (pv 3) pa_nil)))) pa_nil)))
      (pss_one (ps_expr (pe_bm PySem.F.plainAttrs_list PySem.F.slot_list_append PySem.F.type_list_append mt_append (pv 1) (pa_cons (pe_tup (pa_cons (pv 2) (pa_cons (pe_glob (v := .int (-1)) rfl hgr ⟨_, rfl⟩) (pa_cons pe_int pa_nil)))) pa_nil))))))
      (pss_one (ps_ret (pv 1))))), ?_⟩
    refine ⟨by show 0 ≤ sizeLine; decide, fun D hD => ?_⟩
    have S1 := same_new (o := .lst []) hD
    refine ⟨_, rfl, p, _, rfl, SqL.of (S1 _ _ hp), ?_⟩
    refine for_it (walk_enum (xs := ts.map V.int)) (fun i σ' H' => ∃ v2 v3 : Option V, σ' = [some (.ref p), some (.ref D), v2, v3] ∧ LimsAt H' D (groundN 0 (ts.take i)) ∧ Same H H')
      ⟨_, _, rfl, ⟨[], upd_same, rfl, fun i t e z => by cases z⟩, S1⟩ (fun i σ' H' _ h => by obtain ⟨_, _, _, _, z⟩ := h; exact SqL.of (z _ _ hp)) ?_ ?_
    · rintro i x σ' H1 H2 hi ⟨v2, v3, rfl, L, S⟩ ⟨T0, x0, y0, rfl, hT, rfl, hx, hy⟩
      cases hx
      rw [List.length_map] at hi
      have hy : (ts.map V.int)[i]? = some y0 := hy
      rw [List.getElem?_map, List.getElem?_eq_getElem hi] at hy
      cases hy
      have sT := same_new (o := .tup [V.int (i : Nat), V.int ts[i]]) hT
      refine ⟨T0, _, rfl, SqT.of upd_same, rfl, _, _, rfl, _, _, rfl, rfl, ?_⟩
      have L2 := L.same sT
      have S2 := same_tr S sT
      generalize upd H1 T0 (.tup [V.int (i : Nat), V.int ts[i]]) = H2 at L2 S2
      obtain ⟨zs, z1, z2⟩ := L2.len
      have et : groundN 0 (ts.take (i + 1)) = groundN 0 (ts.take i) ++ [((-1 : Int), ((i : Nat) : Int), ts[i]), (((i : Nat) : Int), (-1 : Int), (0 : Int))] := by
        rw [List.take_succ, List.getElem?_eq_getElem hi, Option.toList_some, groundN_snoc, List.length_take, show min i ts.length = i by omega, Int.zero_add]
        rfl
      have pp := push2 (H0 := H) (Q := fun H' => ∃ v2 v3 : Option V, [some (.ref p), some (.ref D), some (.int ((i : Nat) : Int)), some (.int ts[i])] = [some (.ref p), some (.ref D), v2, v3] ∧ LimsAt H' D (groundN 0 (ts.take (i + 1))) ∧ Same H H')
        ((-1 : Int), ((i : Nat) : Int), ts[i]) (((i : Nat) : Int), (-1 : Int), (0 : Int)) L2 S2 hD (by rw [groundN_len, List.length_take]; omega) (fun H' l s => ⟨_, _, rfl, by rw [et]; exact l, s⟩)
      refine ⟨_, rfl, .inl ⟨rfl, _, SqL.of z1⟩, _, rfl, _, rfl, by show 3 ≤ sizeLine; decide, fun t ht => ?_⟩
      obtain ⟨xs, x1, x2, x3⟩ := pp t ht
      refine ⟨D, xs, _, rfl, rfl, x1, x2, ?_⟩
      obtain ⟨⟨ys, y1⟩, y2⟩ := x3 _ rfl
      refine ⟨_, rfl, .inl ⟨rfl, _, SqL.of y1⟩, _, rfl, by show 3 ≤ sizeLine; decide, fun u hu => ?_⟩
      obtain ⟨ys', w1, w2, w3⟩ := y2 u hu
      exact ⟨D, ys', _, rfl, rfl, w1, w2, w3⟩
    · rintro σ' H1 ⟨v2, v3, rfl, L, S⟩
      rw [List.length_map, List.take_length] at L
      exact ⟨_, rfl, k D H1 hD S L⟩
set_option maxHeartbeats 0 in
theorem ok_lnk {f : Addr} {fd : FuncData} (F : Fun K "_link_limits" "_link_limits" sLnk f fd) : FnOk P w K mg base CX0 1 f fd ["links"] (spLnk K) := by
  refine F.ok scLnk (fun vs H Q E h => ?_) (fun cdv A outer s H vs Q E hr h => ?_)
  · obtain ⟨p, ls, rfl, _⟩ := h
    rfl
  · obtain ⟨p, ls, rfl, hL, l4, k⟩ := h
    refine ⟨_, (pss_cons (ps_set (i := 1) scLnk.nd rfl (Or.inl rfl) (pe_lst pa_nil))
      (pss_cons (ps_for PassesOwn.never rfl (pi_list (pv 0)) (pg_tup (by rfl) (pgs_cons (pg_name (i := 2) scLnk.nd rfl (Or.inl rfl)) (pgs_cons (pg_name (i := 3) scLnk.nd rfl (Or.inl rfl)) (pgs_cons (pg_name (i := 4) scLnk.nd rfl (Or.inl rfl)) (pgs_cons (pg_name (i := 5) scLnk.nd rfl (Or.inl rfl)) pgs_nil))))) (pss_cons (ps_expr (pe_bm PySem.F.plainAttrs_list PySem.F.slot_list_append PySem.F.type_list_append mt_append (pv 1) (pa_cons (pe_tup (pa_cons (pv 2) (pa_cons (pv 3) (pa_cons (pv 5) pa_nil)))) pa_nil)))
      (pss_one (ps_expr (pe_bm PySem.F.plainAttrs_list PySem.F.slot_list_append PySem.F.type_list_append mt_append (pv 1) (pa_cons (pe_tup (pa_cons (pv 3) (pa_cons (pv 2) (pa_cons (pe_un un_neg (pv 4)) pa_nil)))) pa_nil))))))
      (pss_one (ps_ret (pv 1))))), ?_⟩
    refine ⟨by show 0 ≤ sizeLine; decide, fun D hD => ?_⟩
    have S1 := same_new (o := .lst []) hD
    obtain ⟨ts, t1, t2, t3⟩ := id hL
    refine ⟨_, rfl, p, rfl, ⟨_, SqL.of (S1 _ _ t1)⟩, ?_⟩
    refine for_it (walk_list (xs := ts.map V.ref)) (fun i σ' H' => ∃ v2 v3 v4 v5 : Option V, σ' = [some (.ref p), some (.ref D), v2, v3, v4, v5] ∧ LimsAt H' D ((ls.take i).flatMap linkE) ∧ Same H H')
      ⟨_, _, _, _, rfl, ⟨[], upd_same, rfl, fun i t e z => by cases z⟩, S1⟩ (fun i σ' H' _ h => by obtain ⟨_, _, _, _, _, _, z⟩ := h; exact SqL.of (z _ _ t1)) ?_ ?_
    · rintro i x σ' H1 H2 hi ⟨v2, v3, v4, v5, rfl, L, S⟩ ⟨rfl, hx⟩
      rw [List.length_map] at hi
      rw [List.getElem?_map, List.getElem?_eq_getElem hi] at hx
      cases hx
      obtain ⟨⟨a, b, least, most⟩, hl⟩ : ∃ l, ls[i]? = some l := ⟨_, List.getElem?_eq_getElem (by omega)⟩
      have z := sqT_same (t3 i _ _ (List.getElem?_eq_getElem hi) hl) S
      refine ⟨_, _, rfl, z, rfl, _, _, rfl, _, _, rfl, _, _, rfl, _, _, rfl, rfl, ?_⟩
      obtain ⟨zs, z1, z2⟩ := L.len
      have et : (ls.take (i + 1)).flatMap linkE = (ls.take i).flatMap linkE ++ [(a, b, most), (b, a, -least)] := by
        rw [List.take_succ, hl, List.flatMap_append]
        simp [linkE]
      have pp := push2 (H0 := H) (Q := fun H' => ∃ v2 v3 v4 v5 : Option V, [some (.ref p), some (.ref D), some (.int a), some (.int b), some (.int least), some (.int most)] = [some (.ref p), some (.ref D), v2, v3, v4, v5] ∧ LimsAt H' D ((ls.take (i + 1)).flatMap linkE) ∧ Same H H')
        (a, b, most) (b, a, -least) L S hD (by rw [linkE_len, List.length_take]; omega) (fun H' l s => ⟨_, _, _, _, rfl, by rw [et]; exact l, s⟩)
      refine ⟨_, rfl, .inl ⟨rfl, _, SqL.of z1⟩, _, rfl, _, rfl, _, rfl, by show 3 ≤ sizeLine; decide, fun t ht => ?_⟩
      obtain ⟨xs, x1, x2, x3⟩ := pp t ht
      refine ⟨D, xs, _, rfl, rfl, x1, x2, ?_⟩
      obtain ⟨⟨ys, y1⟩, y2⟩ := x3 _ rfl
      refine ⟨_, rfl, .inl ⟨rfl, _, SqL.of y1⟩, _, rfl, _, rfl, _, rfl, least, rfl, by show 3 ≤ sizeLine; decide, fun u hu => ?_⟩
      obtain ⟨ys', w1, w2, w3⟩ := y2 u hu
      exact ⟨D, ys', _, rfl, rfl, w1, w2, w3⟩
    · rintro σ' H1 ⟨v2, v3, v4, v5, rfl, L, S⟩
      rw [List.length_map, t2, List.take_length] at L
      exact ⟨_, rfl, k D H1 hD S L⟩
set_option maxHeartbeats 0 in
theorem ok_slp {f : Addr} {fd : FuncData} (F : Fun K "_slope_limits" "_slope_limits" sSlp f fd) : FnOk P w K mg base CX0 1 f fd ["rows"] (spSlp K) := by
  refine F.ok scSlp (fun vs H Q E h => ?_) (fun cdv A outer s H vs Q E hr h => ?_)
  · obtain ⟨p, ws, rfl, _⟩ := h
    rfl
  · obtain ⟨p, ws, rfl, hW, l4, hz, k⟩ := h
    refine ⟨_, (pss_cons (ps_set (i := 1) scSlp.nd rfl (Or.inl rfl) (pe_lst pa_nil))
      (pss_cons (ps_set (i := 2) scSlp.nd rfl (Or.inl rfl) pe_int)
      (pss_cons (ps_for PassesOwn.never rfl (pi_list (pv 0)) (pg_tup (by rfl) (pgs_cons (pg_name (i := 3) scSlp.nd rfl (Or.inl rfl)) (pgs_cons (pg_name (i := 3) scSlp.nd rfl (Or.inl rfl)) (pgs_cons (pg_name (i := 4) scSlp.nd rfl (Or.inl rfl)) (pgs_cons (pg_name (i := 5) scSlp.nd rfl (Or.inl rfl)) pgs_nil))))) (pss_cons (ps_for PassesOwn.never rfl (pi_tup (pv 5)) (pg_name (i := 6) scSlp.nd rfl (Or.inl rfl)) (pss_cons (ps_expr (pe_bm PySem.F.plainAttrs_list PySem.F.slot_list_append PySem.F.type_list_append mt_append (pv 1) (pa_cons (pe_tup (pa_cons (pv 2) (pa_cons (pe_op op_add (pv 2) pe_int) (pa_cons (pe_op op_mulW (pv 4) (pv 6)) pa_nil)))) pa_nil)))
      (pss_cons (ps_expr (pe_bm PySem.F.plainAttrs_list PySem.F.slot_list_append PySem.F.type_list_append mt_append (pv 1) (pa_cons (pe_tup (pa_cons (pe_op op_add (pv 2) pe_int) (pa_cons (pv 2) (pa_cons (pe_op op_mulW (pv 4) (pv 6)) pa_nil)))) pa_nil)))
      (pss_one (ps_aug (i := 2) scSlp.nd rfl (Or.inl rfl) pe_int ip_add)))))
      (pss_one (ps_aug (i := 2) scSlp.nd rfl (Or.inl rfl) pe_int ip_add))))
      (pss_one (ps_ret (pv 1)))))), ?_⟩
    refine ⟨by show 0 ≤ sizeLine; decide, fun D hD => ?_⟩
    have S1 := same_new (o := .lst []) hD
    obtain ⟨ts, t1, t2, t3⟩ := id hW
    refine ⟨_, rfl, p, rfl, ⟨_, SqL.of (S1 _ _ t1)⟩, ?_⟩
    refine for_it (walk_list (xs := ts.map V.ref)) (fun i σ' H' => ∃ v3 v4 v5 v6 : Option V, σ' = [some (.ref p), some (.ref D), some (.int (places (ws.take i) : Nat)), v3, v4, v5, v6] ∧ LimsAt H' D (slopeN 0 (ws.take i)) ∧ Same H H')
      ⟨_, _, _, _, rfl, ⟨[], upd_same, rfl, fun i t e z => by cases z⟩, S1⟩ (fun i σ' H' _ h => by obtain ⟨_, _, _, _, _, _, z⟩ := h; exact SqL.of (z _ _ t1)) ?_ ?_
    · rintro i x σ' H1 H2 hi ⟨v3, v4, v5, v6, rfl, L, S⟩ ⟨rfl, hx⟩
      rw [List.length_map] at hi
      rw [List.getElem?_map, List.getElem?_eq_getElem hi] at hx
      cases hx
      obtain ⟨⟨nm, tp, sl, spans⟩, hw⟩ : ∃ l, ws[i]? = some l := ⟨_, List.getElem?_eq_getElem (by omega)⟩
      obtain ⟨sp, z1H, z2H⟩ := t3 i _ _ (List.getElem?_eq_getElem hi) hw
      have z1 := S _ _ z1H
      have z2 := sqT_same z2H S
      obtain ⟨hs1, hs2⟩ := hz _ (List.mem_of_getElem? hw)
      have pt := places_take hw
      have pm : Wal.many (nm, tp, sl, spans) = spans.length + 1 := rfl
      have pl := slopeN_len 0 (ws.take i)
      refine ⟨_, _, rfl, SqT.of z1, rfl, _, _, rfl, _, _, rfl, _, _, rfl, _, _, rfl, rfl, ?_⟩
      have et : slopeN 0 (ws.take (i + 1)) = slopeN 0 (ws.take i) ++ spanN sl (places (ws.take i) : Nat) spans := by
        rw [List.take_succ, hw, Option.toList_some, slopeN_snoc, Int.zero_add]
      refine ⟨_, rfl, sp, rfl, ⟨_, z2⟩, ?_⟩
      refine for_it (walk_tup (xs := spans.map V.int)) (fun m σ' H' => ∃ v3 v6 : Option V, σ' = [some (.ref p), some (.ref D), some (.int ((places (ws.take i) : Nat) + (m : Nat))), v3, some (.int sl), some (.ref sp), v6] ∧ LimsAt H' D (slopeN 0 (ws.take i) ++ spanN sl (places (ws.take i) : Nat) (spans.take m)) ∧ Same H H' ∧ SqT K H' sp (spans.map V.int))
        ⟨some (.int tp), v6, by simp, by rw [List.take_zero]; simpa [spanN] using L, S, z2⟩ (fun m σ' H' _ h => by obtain ⟨_, _, _, _, _, z⟩ := h; exact z) ?_ ?_
      · rintro m x σ' H3 H4 hm ⟨v3, v6, rfl, L3, S3, z3⟩ ⟨rfl, hx⟩
        rw [List.length_map] at hm
        rw [List.getElem?_map, List.getElem?_eq_getElem hm] at hx
        cases hx
        obtain ⟨zs, q1, q2⟩ := L3.len
        have em : spanN sl (places (ws.take i) : Nat) (spans.take (m + 1)) = spanN sl (places (ws.take i) : Nat) (spans.take m) ++ [(((places (ws.take i) : Nat) : Int) + (m : Nat), ((places (ws.take i) : Nat) : Int) + (m : Nat) + 1, sl * spans[m]), (((places (ws.take i) : Nat) : Int) + (m : Nat) + 1, ((places (ws.take i) : Nat) : Int) + (m : Nat), sl * spans[m])] := by
          rw [List.take_succ, List.getElem?_eq_getElem hm, Option.toList_some, spanN_snoc, List.length_take, show min m spans.length = m by omega]
          rfl
        have cm : CMulW sl spans[m] := Sz.mul hs1.w (hs2 _ (List.getElem_mem hm)).w
        have pp := push2 (H0 := H) (Q := fun H' => LimsAt H' D (slopeN 0 (ws.take i) ++ spanN sl (places (ws.take i) : Nat) (spans.take (m + 1))) ∧ Same H H')
          (((places (ws.take i) : Nat) : Int) + (m : Nat), ((places (ws.take i) : Nat) : Int) + (m : Nat) + 1, sl * spans[m]) (((places (ws.take i) : Nat) : Int) + (m : Nat) + 1, ((places (ws.take i) : Nat) : Int) + (m : Nat), sl * spans[m]) L3 S3 hD
          (by rw [List.length_append, spanN_len, List.length_take]; omega) (fun H' l s => ⟨by rw [em, ← List.append_assoc]; exact l, s⟩)
        refine ⟨_, rfl, .inl ⟨rfl, _, SqL.of q1⟩, _, rfl, _, rfl, _, _, rfl, rfl, _, rfl, _, rfl, _, _, rfl, rfl, cm, by show 3 ≤ sizeLine; decide, fun t ht => ?_⟩
        obtain ⟨xs, x1, x2, x3⟩ := pp t ht
        refine ⟨D, xs, _, rfl, rfl, x1, x2, ?_⟩
        obtain ⟨⟨ys, y1⟩, y2⟩ := x3 _ rfl
        refine ⟨_, rfl, .inl ⟨rfl, _, SqL.of y1⟩, _, rfl, _, _, rfl, rfl, _, rfl, _, rfl, _, rfl, _, _, rfl, rfl, cm, by show 3 ≤ sizeLine; decide, fun u hu => ?_⟩
        obtain ⟨ys', w1, w2, w3, w4⟩ := y2 u hu
        refine ⟨D, ys', _, rfl, rfl, w1, w2, ?_⟩
        refine ⟨_, rfl, _, _, rfl, rfl, v3, some (.int spans[m]), ?_, w3, w4, sqT_same z2H w4⟩
        have e1 : ((places (ws.take i) : Nat) : Int) + (m : Nat) + 1 = ((places (ws.take i) : Nat) : Int) + ((m + 1 : Nat) : Nat) := by omega
        rw [← e1]
        rfl
      · rintro σ' H3 ⟨v3, v6, rfl, L3, S3, z3⟩
        rw [List.length_map, List.take_length] at L3
        refine ⟨_, rfl, _, _, rfl, rfl, v3, some (.int sl), some (.ref sp), v6, ?_, by rw [et]; exact L3, S3⟩
        have e1 : ((places (ws.take i) : Nat) : Int) + ((spans.map V.int).length : Nat) + 1 = ((places (ws.take (i + 1)) : Nat) : Int) := by
          rw [List.take_succ, hw, Option.toList_some, places_snoc, pm, List.length_map]
          omega
        rw [← e1]
        rfl
    · rintro σ' H1 ⟨v3, v4, v5, v6, rfl, L, S⟩
      rw [List.length_map, t2, List.take_length] at L
      exact ⟨_, rfl, k D H1 hD S L⟩
end
end Law

/-! The told limits: the least of the limits between two nodes, in a dict with tuple keys. -/
namespace Law
open PySem PySem.Spec PyProof.Rows L2 Sup
abbrev sTold : Stmt := top 24
def keyT (e : Edge) : List Key := [.inl e.1, .inl e.2.1]
def kvT (es : List Edge) : List (List Key × V) := es.map fun e => (keyT e, .int e.2.2)
def likeE (e x : Edge) : Bool := decide (x.1 = e.1 ∧ x.2.1 = e.2.1)
def putE (es : List Edge) (e : Edge) : List Edge := if es.any (likeE e) = true then es.map (fun x => if likeE e x = true then e else x) else es ++ [e]
/-- one limit is told -/
def tell (es : List Edge) (e : Edge) : List Edge := match es.find? (likeE e) with
  | none => putE es e
  | some x => if e.2.2 < x.2.2 then putE es e else es
theorem keyT_eq (e x : Edge) : decide (keyT x = keyT e) = likeE e x := by
  unfold keyT likeE
  refine decide_eq_decide.mpr ⟨fun h => ?_, fun h => by rw [h.1, h.2]⟩
  injection h with h1 h2
  injection h2 with h2 _
  exact ⟨Sum.inl.inj h1, Sum.inl.inj h2⟩
theorem val_kvT (e : Edge) : ∀ es : List Edge, valV (kvT es) (keyT e) = (es.find? (likeE e)).map fun x => V.int x.2.2
  | [] => rfl
  | x :: es => by
    have ih := val_kvT e es
    have q := keyT_eq e x
    show valV ((keyT x, V.int x.2.2) :: kvT es) (keyT e) = _
    rw [List.find?_cons]
    cases c : likeE e x with
    | true =>
      rw [c] at q
      rw [valV_pos (of_decide_eq_true q)]
      rfl
    | false =>
      rw [c] at q
      rw [valV_neg (of_decide_eq_false q), ih]
theorem put_kvT (es : List Edge) (e : Edge) : putK (kvT es) (keyT e) (.int e.2.2) = kvT (putE es e) := by
  unfold putK putE
  have a : ((kvT es).any fun kv => decide (kv.1 = keyT e)) = es.any (likeE e) := by
    unfold kvT
    rw [List.any_map]
    congr 1
    funext x
    exact keyT_eq e x
  rw [a]
  by_cases c : es.any (likeE e) = true
  · rw [if_pos c, if_pos c]
    unfold kvT
    rw [List.map_map, List.map_map]
    refine List.map_congr_left fun x _ => ?_
    show (if keyT x = keyT e then (keyT x, V.int e.2.2) else (keyT x, V.int x.2.2)) = (fun e : Edge => (keyT e, V.int e.2.2)) (if likeE e x = true then e else x)
    have q := keyT_eq e x
    by_cases h : likeE e x = true
    · rw [h] at q
      rw [if_pos h, if_pos (of_decide_eq_true q), of_decide_eq_true q]
    · rw [Bool.eq_false_iff.mpr h] at q
      rw [if_neg h, if_neg (of_decide_eq_false q)]
  · rw [if_neg c, if_neg c]
    unfold kvT
    rw [List.map_append]
    rfl
theorem putE_len (es : List Edge) (e : Edge) : (putE es e).length ≤ es.length + 1 := by
  unfold putE
  split
  · rw [List.length_map]
    omega
  · rw [List.length_append]
    exact Nat.le_refl _
theorem tell_len (es : List Edge) (e : Edge) : (tell es e).length ≤ es.length + 1 := by
  unfold tell
  split
  · exact putE_len es e
  · split
    · exact putE_len es e
    · omega
theorem fold_len : ∀ (fs es : List Edge), (fs.foldl tell es).length ≤ es.length + fs.length
  | [], es => Nat.le_refl _
  | f :: fs, es => by
    have h1 := fold_len fs (tell es f)
    have h2 := tell_len es f
    rw [List.length_cons]
    show (fs.foldl tell (tell es f)).length ≤ _
    omega
theorem LimsAt.sameB {H H' : Hp} {p D : Addr} {es : List Edge} {kv : List (List Key × V)} (h : LimsAt H p es) (hD : H D = some (.dT kv)) (s : SameB D H H') : LimsAt H' p es := by
  obtain ⟨ts, h1, h2, h3⟩ := h
  refine ⟨ts, s _ _ (fun z => by rw [z, hD] at h1; cases h1) h1, h2, fun i t e e1 e2 => ?_⟩
  have z := h3 i t e e1 e2
  exact s _ _ (fun w => by rw [w, hD] at z; cases z) z
/-- all the limits that rows, tops and links tell -/
def limsOf (ws : List Wal) (ls : List Lnk) : List Edge := groundN 0 (topsOf ws) ++ slopeN 0 ws ++ ls.flatMap linkE
def toldOf (ws : List Wal) (ls : List Lnk) : List Edge := (limsOf ws ls).foldl tell []
theorem lims_len (ws : List Wal) (ls : List Lnk) : (limsOf ws ls).length ≤ 4 * places ws + 2 * ls.length := by
  unfold limsOf
  rw [List.length_append, List.length_append, groundN_len, linkE_len, tops_len, spots_places]
  have := slopeN_len 0 ws
  omega
structure ToTxt (mg : Str → Option Value) (fGr fSl fLk : Addr) : Prop where
  grd : mg "_ground_limits" = some (.ref fGr)
  slp : mg "_slope_limits" = some (.ref fSl)
  lnk : mg "_link_limits" = some (.ref fLk)
def spTold (K : PySem.W.Frag) : Sp := fun vs H Q _ => ∃ (p1 p2 p3 : Addr) (ws : List Wal) (ls : List Lnk), vs = [.ref p1, .ref p2, .ref p3] ∧ WalsAt K H p1 ws ∧ H p2 = some (.lst ((topsOf ws).map V.int)) ∧ LnksAt K H p3 ls ∧ places ws ≤ 150 ∧ ls.length ≤ 100 ∧ (∀ w ∈ ws, Sz w.2.2.1 ∧ ∀ x ∈ w.2.2.2, Sz x) ∧
  ∀ (q : Addr) (H' : Hp), H q = none → Same H H' → H' q = some (.dT (kvT (toldOf ws ls))) → Q (.ref q) H'
section
variable {P : Program} {w : World} {K : PySem.W.Frag} {mg : Str → Option Value} {base : Heap}
theorem scTold : FnScope ["rows", "tops", "links", "told", "limits", "first", "second", "most", "known"] ["rows", "tops", "links"] (defScope sTold) := ⟨rfl, rfl, rfl, by decide +kernel, rfl, by decide +kernel, by decide +kernel⟩
set_option maxHeartbeats 0 in
theorem ok_told {f fGr fSl fLk : Addr} {fd fdGr fdSl fdLk : FuncData} (F : Fun K "_told_limits" "_told_limits" sTold f fd) (T : ToTxt mg fGr fSl fLk) (GGr : FnOk P w K mg base CX0 1 fGr fdGr ["tops"] spGrd) (FGr : Fun K "_ground_limits" "_ground_limits" sGrd fGr fdGr) (bGr : Binds K fdGr ["tops"] [])
    (GSl : FnOk P w K mg base CX0 1 fSl fdSl ["rows"] (spSlp K)) (FSl : Fun K "_slope_limits" "_slope_limits" sSlp fSl fdSl) (bSl : Binds K fdSl ["rows"] [])
    (GLk : FnOk P w K mg base CX0 1 fLk fdLk ["links"] (spLnk K)) (FLk : Fun K "_link_limits" "_link_limits" sLnk fLk fdLk) (bLk : Binds K fdLk ["links"] []) : FnOk P w K mg base CX0 2 f fd ["rows", "tops", "links"] (spTold K) := by
  refine F.ok scTold (fun vs H Q E h => ?_) (fun cdv A outer s H vs Q E hr h => ?_)
  · obtain ⟨p1, p2, p3, ws, ls, rfl, _⟩ := h
    rfl
  · obtain ⟨p1, p2, p3, ws, ls, rfl, hW, hT, hL, l1, l2, hz, k⟩ := h
    have hr1 : Room 1 _ := hr.mono (by decide)
    refine ⟨_, (pss_cons (ps_set (i := 3) scTold.nd rfl (Or.inl rfl) pe_dnewT)
      (pss_cons (ps_set (i := 4) scTold.nd rfl (Or.inl rfl) (pe_op op_cat (pe_op op_cat (pe_call GGr hr1 rfl T.grd FGr.kp bGr .nil pass0 (pa_cons (pv 1) pa_nil)) (pe_call GSl hr1 rfl T.slp FSl.kp bSl .nil pass0 (pa_cons (pv 0) pa_nil))) (pe_call GLk hr1 rfl T.lnk FLk.kp bLk .nil pass0 (pa_cons (pv 2) pa_nil))))
      (pss_cons (ps_for PassesOwn.never rfl (pi_list (pv 4)) (pg_tup (by rfl) (pgs_cons (pg_name (i := 5) scTold.nd rfl (Or.inl rfl)) (pgs_cons (pg_name (i := 6) scTold.nd rfl (Or.inl rfl)) (pgs_cons (pg_name (i := 7) scTold.nd rfl (Or.inl rfl)) pgs_nil)))) (pss_cons (ps_set (i := 8) scTold.nd rfl (Or.inl rfl) (pe_dget1 (hu_of hr) (pv 3) (pe_tup (pa_cons (pv 5) (pa_cons (pv 6) pa_nil))) ⟨rfl, rfl, rfl, rfl⟩))
      (pss_one (ps_if (PW.pt (pw_or (pt_cmpR op_isN (pv 8) pe_non (nomark _)) (pw_or1 (pt_cmpR op_lt (pv 7) (pv 8) (nomark _))))) (pss_one (ps_dput (hu_of hr) (pv 3) (pe_tup (pa_cons (pv 5) (pa_cons (pv 6) pa_nil))) (pv 7) rfl)) pss_nil))))
      (pss_one (ps_ret (pv 3)))))), ?_⟩
    refine fun D hD => ?_
    have S1 := same_new (o := .dT []) hD
    have e1 : upd H D (.dT []) D = some (.dT []) := upd_same
    generalize upd H D (.dT []) = H1 at S1 e1
    have tl := tops_len ws
    rw [spots_places] at tl
    refine ⟨_, rfl, p2, topsOf ws, rfl, S1 _ _ hT, by omega, fun a Ha na sa La => ?_⟩
    refine ⟨_, rfl, p1, ws, rfl, (hW.same S1).same sa, by omega, hz, fun b Hb nb sb Lb => ?_⟩
    have La2 := La.same sb
    obtain ⟨xs, x1, x2⟩ := La2.len
    obtain ⟨ys, y1, y2⟩ := Lb.len
    have sl := slopeN_len 0 ws
    rw [groundN_len] at x2
    refine ⟨a, b, xs, ys, rfl, rfl, x1, y1, by rw [sizeLine_eq]; omega, fun c hc => ?_⟩
    have Lc := La2.cat Lb x1 y1 hc
    have sc := same_new (o := .lst (xs ++ ys)) hc
    have S2 := same_tr (same_tr (same_tr S1 sa) sb) sc
    have e2 := sc _ _ (sb _ _ (sa _ _ e1))
    generalize upd Hb c (.lst (xs ++ ys)) = H2 at Lc S2 e2
    refine ⟨_, rfl, p3, ls, rfl, hL.same S2, by omega, fun d Hd nd sd Ld => ?_⟩
    have Lc2 := Lc.same sd
    obtain ⟨us, u1, u2⟩ := Lc2.len
    obtain ⟨vs, v1, v2⟩ := Ld.len
    rw [linkE_len] at v2
    rw [List.length_append, groundN_len] at u2
    refine ⟨c, d, us, vs, rfl, rfl, u1, v1, by rw [sizeLine_eq]; omega, fun lp hlp => ?_⟩
    have LL := Lc2.cat Ld u1 v1 hlp
    have sl' := same_new (o := .lst (us ++ vs)) hlp
    have S3 := same_tr (same_tr S2 sd) sl'
    have e3 := sl' _ _ (sd _ _ e2)
    generalize upd Hd lp (.lst (us ++ vs)) = H3 at LL S3 e3
    have LL : LimsAt H3 lp (limsOf ws ls) := LL
    have ll := lims_len ws ls
    generalize hes : limsOf ws ls = es at LL ll
    obtain ⟨ts, t1, t2, t3⟩ := id LL
    refine ⟨_, rfl, lp, rfl, ⟨_, SqL.of t1⟩, ?_⟩
    have nlD : lp ≠ D := fun z => by rw [z, e3] at t1; cases t1
    refine for_it (walk_list (xs := ts.map V.ref)) (fun i σ' H' => ∃ v5 v6 v7 v8 : Option V, σ' = [some (.ref p1), some (.ref p2), some (.ref p3), some (.ref D), some (.ref lp), v5, v6, v7, v8] ∧ H' D = some (.dT (kvT ((es.take i).foldl tell []))) ∧ SameB D H3 H')
      ⟨_, _, _, _, rfl, e3, SameB.of_same same_rfl⟩ (fun i σ' H' _ h => by obtain ⟨_, _, _, _, _, _, z⟩ := h; exact SqL.of (z _ _ nlD t1)) ?_ ?_
    · rintro i x σ' H4 H5 hi ⟨v5, v6, v7, v8, rfl, eD, S⟩ ⟨rfl, hx⟩
      rw [List.length_map] at hi
      rw [List.getElem?_map, List.getElem?_eq_getElem hi] at hx
      cases hx
      obtain ⟨⟨u, v, m⟩, hl⟩ : ∃ l, es[i]? = some l := ⟨_, List.getElem?_eq_getElem (by omega)⟩
      have z0 := t3 i _ _ (List.getElem?_eq_getElem hi) hl
      have z := S _ _ (fun w => by rw [w, e3] at z0; cases z0) z0
      have et : (es.take (i + 1)).foldl tell [] = tell ((es.take i).foldl tell []) (u, v, m) := by
        rw [List.take_succ, hl, Option.toList_some, List.foldl_append]
        rfl
      have fl := fold_len (es.take i) []
      rw [List.length_take] at fl
      have fl : ((es.take i).foldl tell []).length ≤ 900 := by simp only [List.length_nil] at fl; omega
      generalize (es.take i).foldl tell [] = acc at eD et fl
      refine ⟨_, _, rfl, SqT.of z, rfl, _, _, rfl, _, _, rfl, _, _, rfl, rfl, ?_⟩
      refine ⟨_, rfl, D, rfl, .inr ⟨_, .inl eD⟩, _, rfl, _, rfl, by show 2 ≤ sizeLine; decide, fun kt hkt => ?_⟩
      have sk := same_new (o := .tup [V.int u, V.int v]) hkt
      have eD2 := sk _ _ eD
      have ek : upd H5 kt (.tup [V.int u, V.int v]) kt = some (.tup ((keyT (u, v, m)).map kV)) := upd_same
      have S2 : SameB D H3 (upd H5 kt (.tup [V.int u, V.int v])) := S.trans (SameB.of_same sk)
      generalize upd H5 kt (.tup [V.int u, V.int v]) = H6 at eD2 ek S2
      refine ⟨_, DGet.t eD2 ek, ?_⟩
      rw [val_kvT]
      -- the limit is put
      have puts : ∀ {Q : Hp → Prop}, (∀ H', H' D = some (.dT (kvT (putE acc (u, v, m)))) → SameB D H3 H' → Q H') → ∀ kt2, H6 kt2 = none → ∃ H7, DPut (upd H6 kt2 (.tup [V.int u, V.int v])) D (.ref kt2) (.int m) H7 ∧ Q H7 := fun {Q} kq kt2 hk2 => by
        have s7 := same_new (o := .tup [V.int u, V.int v]) hk2
        have eD7 := s7 _ _ eD2
        have ek7 : upd H6 kt2 (.tup [V.int u, V.int v]) kt2 = some (.tup ((keyT (u, v, m)).map kV)) := upd_same
        have S7 : SameB D H3 (upd H6 kt2 (.tup [V.int u, V.int v])) := S2.trans (SameB.of_same s7)
        generalize upd H6 kt2 (.tup [V.int u, V.int v]) = H7 at eD7 ek7 S7
        refine ⟨_, DPut.t eD7 ek7 (by unfold kvT; rw [List.length_map, sizeLine_eq]; omega), kq _ ?_ fun c o n e => ?_⟩
        · rw [upd_same]
          have pk := put_kvT acc (u, v, m)
          dsimp only at pk
          rw [pk]
        · rw [upd_ne n]
          exact S7 _ _ n e
      cases hf : acc.find? (likeE (u, v, m)) with
      | none =>
        have te : tell acc (u, v, m) = putE acc (u, v, m) := by unfold tell; rw [hf]
        refine ⟨_, rfl, rfl, _, rfl, if_t (by simp) ?_⟩
        refine ⟨_, rfl, _, rfl, _, rfl, _, rfl, by show 2 ≤ sizeLine; decide, fun kt2 hk2 => ?_⟩
        obtain ⟨H7, w1, w2⟩ := puts (Q := fun H' => ∃ v5 v6 v7 v8 : Option V, [some (.ref p1), some (.ref p2), some (.ref p3), some (.ref D), some (.ref lp), some (.int u), some (.int v), some (.int m), some V.non] = [some (.ref p1), some (.ref p2), some (.ref p3), some (.ref D), some (.ref lp), v5, v6, v7, v8] ∧ H' D = some (.dT (kvT ((es.take (i + 1)).foldl tell []))) ∧ SameB D H3 H')
          (fun H' h1 h2 => ⟨_, _, _, _, rfl, by rw [et, te]; exact h1, h2⟩) kt2 hk2
        exact ⟨D, H7, rfl, w1, w2⟩
      | some x =>
        refine ⟨_, rfl, rfl, _, rfl, if_f (by simp) ?_⟩
        refine ⟨_, rfl, _, rfl, _, _, rfl, rfl, _, rfl, ?_⟩
        by_cases c : m < x.2.2
        · have te : tell acc (u, v, m) = putE acc (u, v, m) := by unfold tell; rw [hf]; exact if_pos c
          refine if_t (decide_eq_true c) ?_
          refine ⟨_, rfl, _, rfl, _, rfl, _, rfl, by show 2 ≤ sizeLine; decide, fun kt2 hk2 => ?_⟩
          obtain ⟨H7, w1, w2⟩ := puts (Q := fun H' => ∃ v5 v6 v7 v8 : Option V, [some (.ref p1), some (.ref p2), some (.ref p3), some (.ref D), some (.ref lp), some (.int u), some (.int v), some (.int m), some (V.int x.2.2)] = [some (.ref p1), some (.ref p2), some (.ref p3), some (.ref D), some (.ref lp), v5, v6, v7, v8] ∧ H' D = some (.dT (kvT ((es.take (i + 1)).foldl tell []))) ∧ SameB D H3 H')
            (fun H' h1 h2 => ⟨_, _, _, _, rfl, by rw [et, te]; exact h1, h2⟩) kt2 hk2
          exact ⟨D, H7, rfl, w1, w2⟩
        · have te : tell acc (u, v, m) = acc := by unfold tell; rw [hf]; exact if_neg c
          exact if_f (decide_eq_false c) ⟨_, _, _, _, rfl, by rw [et, te]; exact eD2, S2⟩
    · rintro σ' H4 ⟨v5, v6, v7, v8, rfl, eD, S⟩
      rw [List.length_map, t2, List.take_length] at eD
      refine ⟨_, rfl, k D H4 hD (fun c o e => S _ _ (ne_of_none e hD) (S3 _ _ e)) ?_⟩
      unfold toldOf
      rw [hes]
      exact eD
end
end Law

/-! The ring of a site: rounds of relaxing, where a shape is. -/
namespace Law
open PySem PySem.Spec PyProof.Rows L2 Sup
abbrev sFnd : Stmt := top 28
abbrev sRgb : Stmt := top 29
/-- the sums of the nodes -/
def SumsAt (H : Hp) (D : Addr) (n : Nat) (s : Int → Int) : Prop := ∃ kv : List (Key × V), H D = some (.dK kv) ∧ kv.length ≤ n + 1 ∧ ∀ v : Int, -1 ≤ v → v < n → valV kv (.inl v) = some (.int (s v))
theorem putLen {κ : Type} [DecidableEq κ] (c : List (κ × V)) (k : κ) (x : V) : (putK c k x).length ≤ c.length + 1 := by
  unfold putK
  split
  · rw [List.length_map]
    omega
  · rw [List.length_append]
    exact Nat.le_refl _
theorem SumsAt.get {H : Hp} {D : Addr} {n : Nat} {s : Int → Int} (h : SumsAt H D n s) {v : Int} (h1 : -1 ≤ v) (h2 : v < n) : DGet H D (.int v) (some (.int (s v))) := by
  obtain ⟨kv, e, _, k⟩ := h
  rw [← k v h1 h2]
  exact DGet.k (k := .inl v) e
theorem SumsAt.put {H : Hp} {D : Addr} {n : Nat} {s : Int → Int} (h : SumsAt H D n s) {v x : Int} (h1 : -1 ≤ v) (h2 : v < n) (hn : n ≤ 200) : ∃ H', DPut H D (.int v) (.int x) H' ∧ SumsAt H' D n (Relax.put s v x) ∧ ∀ b, b ≠ D → H' b = H b := by
  obtain ⟨kv, e, l, k⟩ := h
  refine ⟨_, DPut.k (k := .inl v) e (by rw [sizeLine_eq]; omega), ⟨_, upd_same, ?_, fun u u1 u2 => ?_⟩, fun b hb => upd_ne hb⟩
  · have := valV_any (.inl v) kv
    rw [k v h1 h2] at this
    unfold putK
    rw [if_pos (by rw [this]; rfl), List.length_map]
    exact l
  · rw [valV_put]
    unfold Relax.put
    by_cases z : u = v
    · subst z
      rw [if_pos rfl, if_pos rfl]
    · rw [if_neg z, if_neg (fun w => z (Sum.inl.inj w))]
      exact k u u1 u2
theorem SumsAt.of_eq {H H' : Hp} {D : Addr} {n : Nat} {s : Int → Int} (h : SumsAt H D n s) (e : H' D = H D) : SumsAt H' D n s := by
  obtain ⟨kv, a, b⟩ := h
  exact ⟨kv, e.trans a, b⟩
theorem relax_no {s : Int → Int} {e : Edge} (h : s e.2.1 ≤ s e.1 + e.2.2) : Relax.relax s e = s := by
  unfold Relax.relax
  rw [if_neg (by omega)]
structure FiTxt (mg : Str → Option Value) (fRb : Addr) : Prop where
  ground : ∃ t, mg "GROUND" = some (.int (-1) t)
  range : mg "range" = none
  rgb : mg "_ring_behind" = some (.ref fRb)
def spNo : Sp := fun _ _ _ _ => False
def inNodes (n : Nat) (es : List Edge) : Prop := ∀ e ∈ es, (-1 ≤ e.1 ∧ e.1 < n) ∧ -1 ≤ e.2.1 ∧ e.2.1 < n
def spFnd : Sp := fun vs H Q _ => ∃ (n : Nat) (t : Addr) (es : List Edge) (pi : Int → Int), vs = [.int n, .ref t] ∧ H t = some (.dT (kvT es)) ∧ n ≤ 200 ∧ es.length ≤ 900 ∧ inNodes n es ∧ (∀ e ∈ es, pi e.2.1 - pi e.1 ≤ e.2.2) ∧
  ∀ (q : Addr) (H' : Hp), H q = none → Same H H' → H' q = some (.lst []) → Q (.ref q) H'
section
variable {P : Program} {w : World} {K : PySem.W.Frag} {mg : Str → Option Value} {base : Heap}
theorem scFnd : FnScope ["size", "told", "sums", "node", "before", "changed", "_", "first", "second", "most"] ["size", "told"] (defScope sFnd) := ⟨rfl, rfl, rfl, by decide +kernel, rfl, by decide +kernel, by decide +kernel⟩
set_option maxHeartbeats 0 in
theorem ok_fnd {f fRb : Addr} {fd fdRb : FuncData} (F : Fun K "_find_ring" "_find_ring" sFnd f fd) (T : FiTxt mg fRb) (GRb : FnOk P w K mg base CX0 1 fRb fdRb ["node", "before"] spNo) (FRb : Fun K "_ring_behind" "_ring_behind" sRgb fRb fdRb) (bRb : Binds K fdRb ["node", "before"] []) : FnOk P w K mg base CX0 2 f fd ["size", "told"] spFnd := by
  obtain ⟨tk, hgr⟩ := T.ground
  refine F.ok scFnd (fun vs H Q E h => ?_) (fun cdv A outer s H vs Q E hr h => ?_)
  · obtain ⟨n, t, es, pi, rfl, _⟩ := h
    rfl
  · obtain ⟨n, t, es, pi, rfl, ht, ln, le, hin, hpi, k⟩ := h
    have hr1 : Room 1 _ := hr.mono (by decide)
    refine ⟨_, (pss_cons (DcX.ps_setDc (i := 2) (own := [("node", 3)]) (g := gName 3) (tt := tYes) rfl scFnd.nd rfl rfl (DcX.swd_true rfl rfl rfl (by decide +kernel)) (pi_range2 (by rfl) T.range (pa_cons (pe_glob (v := .int (-1)) rfl hgr ⟨_, rfl⟩) (pa_cons (pv 0) pa_nil)))
        (blkOk_by (own := [("node", 3)]) (N := ["size", "told", "sums", "node", "before", "changed", "_", "first", "second", "most"]) (sc := defScope sFnd) (by decide +kernel)) (fun _ _ _ _ _ => pg_name (i := 3) scFnd.nd rfl (Or.inl rfl)) (fun _ _ _ _ _ => pts_nil) (fun _ _ _ _ _ => pv 3) (fun _ _ _ _ _ => pe_int))
      (pss_cons (ps_set (i := 4) scFnd.nd rfl (Or.inl rfl) pe_dnewK)
      (pss_cons (ps_set (i := 5) scFnd.nd rfl (Or.inl rfl) (pe_lst pa_nil))
      (pss_cons (ps_for PassesOwn.never rfl (pi_range2 (by rfl) T.range (pa_cons (pe_glob (v := .int (-1)) rfl hgr ⟨_, rfl⟩) (pa_cons (pv 0) pa_nil))) (pg_name (i := 6) scFnd.nd rfl (Or.inl rfl)) (pss_cons (ps_set (i := 5) scFnd.nd rfl (Or.inl rfl) (pe_lst pa_nil))
      (pss_one (ps_lock (ps_for PassesOwn.never rfl (DTX.pi_itemsT (pv 1)) (pg_tup (by rfl) (pgs_cons (pg_tup (by rfl) (pgs_cons (pg_name (i := 7) scFnd.nd rfl (Or.inl rfl)) (pgs_cons (pg_name (i := 8) scFnd.nd rfl (Or.inl rfl)) pgs_nil))) (pgs_cons (pg_name (i := 9) scFnd.nd rfl (Or.inl rfl)) pgs_nil))) (pss_one (ps_if (pt_cmpR op_lt (pe_op op_add (pe_dget (hu_of hr) (pv 2) (pv 7) (fun _ _ => rfl)) (pv 9)) (pe_dget (hu_of hr) (pv 2) (pv 8) (fun _ _ => rfl)) (nomark _)) (pss_cons (ps_dput (hu_of hr) (pv 2) (pv 8) (pe_op op_add (pe_dget (hu_of hr) (pv 2) (pv 7) (fun _ _ => rfl)) (pv 9)) rfl)
      (pss_cons (ps_dput (hu_of hr) (pv 4) (pv 8) (pv 7) rfl)
      (pss_one (ps_expr (pe_bm PySem.F.plainAttrs_list PySem.F.slot_list_append PySem.F.type_list_append mt_append (pv 5) (pa_cons (pv 8) pa_nil)))))) pss_nil)))))))
      (pss_cons (ps_if (pt_not (pt_truth (pv 5) (by intro _; rfl))) (pss_one (ps_ret (pe_lst pa_nil))) pss_nil)
      (pss_one (ps_ret (pe_call GRb hr1 rfl T.rgb FRb.kp bRb .nil pass0 (pa_cons (pe_ix ix_list (pv 5) (pe_un un_neg pe_int) (fun _ _ => rfl)) (pa_cons (pv 4) pa_nil)))))))))), ?_⟩
    have en : ((n : Int) - -1).toNat = n + 1 := by omega
    refine ⟨_, rfl, _, _, rfl, ⟨by omega, by omega, by omega, by omega⟩, fun D hD => ?_⟩
    rw [en]
    refine DcX.dc_it (walk_range (lo := -1) (n := n + 1)) (fun i H' => (∃ kv : List (Key × V), H' D = some (.dK kv) ∧ kv.length ≤ i ∧ ∀ v : Int, -1 ≤ v → v < -1 + (i : Int) → valV kv (.inl v) = some (.int 0)) ∧ Same H H') ⟨⟨[], upd_same, Nat.le_refl _, fun v h1 h2 => absurd h2 (by omega)⟩, same_new hD⟩ (fun _ _ _ _ => trivial) ?_ ?_
    · rintro i x H1 H2 hi ⟨⟨kv, a1, a2, a3⟩, S1⟩ ⟨rfl, rfl⟩
      refine ⟨rfl, _, rfl, _, .inl (-1 + (i : Int)), rfl, a1, small1000 (by omega), ⟨_, upd_same, Nat.le_trans (putLen _ _ _) (by omega), fun v h1 h2 => ?_⟩, fun b o e => ?_⟩
      · rw [valV_put]
        by_cases z : v = -1 + (i : Int)
        · subst z
          rw [if_pos rfl]
        · rw [if_neg fun w => z (Sum.inl.inj w)]
          exact a3 v h1 (by omega)
      · rw [upd_ne (ne_of_none e hD)]
        exact S1 _ _ e
    rintro H1 ⟨⟨kv, a1, a2, a3⟩, S1⟩
    have SA : SumsAt H1 D n (Relax.rounds es 0) := ⟨kv, a1, a2, fun v h1 h2 => a3 v h1 (by omega)⟩
    refine fun B hB => ?_
    have nDB : D ≠ B := ne_of_none a1 hB
    have s2 := same_new (o := .dK []) hB
    have S2 := same_tr S1 s2
    have SA := SA.of_eq (H' := upd H1 B (.dK [])) (upd_ne nDB)
    have eB : upd H1 B (.dK []) B = some (.dK []) := upd_same
    have hB0 : H B = none := none_back S1 hB
    generalize upd H1 B (.dK []) = H2 at SA S2 eB
    refine ⟨by show 0 ≤ sizeLine; decide, fun C0 hC0 => ?_⟩
    have s3 := same_new (o := .lst []) hC0
    have hC00 := none_back S2 hC0
    have S3 := same_tr S2 s3
    have SA := SA.of_eq (H' := upd H2 C0 (.lst [])) (upd_ne (ne_of_none (show H2 D = some (.dK (Classical.choose SA)) from (Classical.choose_spec SA).1) hC0))
    have eB := s3 _ _ eB
    have eC : upd H2 C0 (.lst []) C0 = some (.lst []) := upd_same
    generalize upd H2 C0 (.lst []) = H3 at SA S3 eB eC
    have nDt : D ≠ t := fun z => by rw [z, ht] at hD; cases hD
    have nBt : B ≠ t := fun z => by rw [z, ht] at hB0; cases hB0
    refine ⟨_, rfl, _, _, rfl, ⟨by omega, by omega, by omega, by omega⟩, ?_⟩
    rw [en]
    refine for_it (walk_range (lo := -1) (n := n + 1)) (fun i σ' H' => ∃ (C : Addr) (v3 v6 v7 v8 v9 : Option V) (cl : List V) (kb : List (Key × V)), σ' = [some (.int n), some (.ref t), some (.ref D), v3, some (.ref B), some (.ref C), v6, v7, v8, v9] ∧
      SumsAt H' D n (Relax.rounds es i) ∧ (H' B = some (.dK kb) ∧ kb.length ≤ i * es.length) ∧ H' C = some (.lst cl) ∧ H C = none ∧ (i = n + 1 → cl = []) ∧ Same H H')
      ⟨C0, _, _, _, _, _, [], [], rfl, SA, ⟨eB, by simp⟩, eC, hC00, fun _ => rfl, S3⟩ (fun _ _ _ _ _ => trivial) ?_ ?_
    · rintro i x σ' H4 H5 hi ⟨C1, v3, v6, v7, v8, v9, cl1, kb0, rfl, SA4, ⟨b1, b2⟩, c1, c2, c3, S4⟩ ⟨rfl, rfl⟩
      refine ⟨by show 0 ≤ sizeLine; decide, fun C hC => ?_⟩
      have s5 := same_new (o := .lst []) hC
      have hC0 := none_back S4 hC
      have S5 := same_tr S4 s5
      have nDC : D ≠ C := ne_of_none (Classical.choose_spec SA4).1 hC
      have nBC : B ≠ C := ne_of_none b1 hC
      have SA5 := SA4.of_eq (H' := upd H5 C (.lst [])) (upd_ne nDC)
      have b1 := s5 _ _ b1
      have eC : upd H5 C (.lst []) C = some (.lst []) := upd_same
      generalize upd H5 C (.lst []) = H6 at SA5 S5 b1 eC
      have nCt : C ≠ t := fun z => by rw [z, ht] at hC0; cases hC0
      refine ⟨t, .dT (kvT es), S5 _ _ ht, trivial, fun od => ?_⟩
      refine ⟨_, rfl, t, od, kvT es, rfl, upd_same, ?_⟩
      have kl : (kvT es).length = es.length := by unfold kvT; rw [List.length_map]
      refine for_it DTX.walk_itemsT (fun j σ' H' => ∃ (v7 v8 v9 : Option V) (cl : List V) (kb : List (Key × V)), σ' = [some (.int n), some (.ref t), some (.ref D), v3, some (.ref B), some (.ref C), some (.int (-1 + (i : Int))), v7, v8, v9] ∧
        H' t = some (.frz od (.dT (kvT es))) ∧ SumsAt H' D n ((es.take j).foldl Relax.relax (Relax.rounds es i)) ∧ (H' B = some (.dK kb) ∧ kb.length ≤ i * es.length + j) ∧ (H' C = some (.lst cl) ∧ cl.length ≤ j ∧ (i = n → cl = [] ∧ (es.take j).foldl Relax.relax (Relax.rounds es i) = Relax.rounds es i)) ∧ SameB t H H')
        ⟨_, _, _, [], kb0, rfl, upd_same, SA5.of_eq (upd_ne nDt), ⟨(upd_ne nBt).trans b1, b2⟩, ⟨(upd_ne nCt).trans eC, Nat.le_refl _, fun _ => ⟨rfl, rfl⟩⟩, fun b o nb e => (upd_ne nb).trans (S5 _ _ e)⟩ (fun _ _ _ _ h => by obtain ⟨_, _, _, _, _, _, z, _⟩ := h; exact z) ?_ ?_
      · rintro j x σ' H7 H8 hj ⟨v7, v8, v9, cl, kb, rfl, ft, SJ, ⟨k1, k2⟩, ⟨l1, l2, l3⟩, SB⟩ ⟨T0, q0, kk, vv, e1, rfl, e2, hT, rfl⟩
        rw [kl] at hj
        obtain ⟨⟨u, v, m⟩, he⟩ : ∃ e, es[j]? = some e := ⟨_, List.getElem?_eq_getElem hj⟩
        unfold kvT at e1
        rw [List.getElem?_map, he] at e1
        cases e1
        have sT := same_new (o := .tup [V.ref q0, V.int m]) hT
        have em := List.mem_of_getElem? he
        obtain ⟨⟨u1, u2⟩, w1, w2⟩ := hin _ em
        have et : (es.take (j + 1)).foldl Relax.relax (Relax.rounds es i) = Relax.relax ((es.take j).foldl Relax.relax (Relax.rounds es i)) (u, v, m) := by
          rw [List.take_succ, he, Option.toList_some, List.foldl_append]
          rfl
        refine ⟨T0, _, rfl, SqT.of upd_same, rfl, _, _, rfl, q0, _, rfl, SqT.of (sT _ _ e2), rfl, _, _, rfl, _, _, rfl, rfl, _, _, rfl, rfl, ?_⟩
        have nD0 : D ≠ T0 := ne_of_none (Classical.choose_spec SJ).1 hT
        have SK := SJ.of_eq (H' := upd H7 T0 (.tup [V.ref q0, V.int m])) (upd_ne nD0)
        have k1 := sT _ _ k1
        have l1 := sT _ _ l1
        have ft := sT _ _ ft
        have SB2 : SameB t H (upd H7 T0 (.tup [V.ref q0, V.int m])) := fun b o nb e => sT _ _ (SB b o nb e)
        generalize upd H7 T0 (.tup [V.ref q0, V.int m]) = H8 at SK k1 l1 ft SB2
        generalize hS : (es.take j).foldl Relax.relax (Relax.rounds es i) = S at SK et l3
        have G1 := SK.get u1 u2
        have G2 := SK.get w1 w2
        refine ⟨_, rfl, _, rfl, D, _, rfl, G1, _, rfl, _, _, rfl, rfl, _, rfl, _, rfl, D, _, rfl, G2, _, _, rfl, rfl, _, rfl, ?_⟩
        by_cases c : S u + m < S v
        · refine if_t (decide_eq_true c) ?_
          have er : Relax.relax S (u, v, m) = Relax.put S v (S u + m) := if_pos c
          obtain ⟨H9, p1, p2, p3⟩ := SK.put (x := S u + m) w1 w2 ln
          refine ⟨_, rfl, _, rfl, D, _, rfl, G1, _, rfl, _, _, rfl, rfl, _, rfl, _, rfl, D, H9, rfl, p1, ?_⟩
          have k9 := (p3 B (Ne.symm nDB)).trans k1
          have l9 := (p3 C (Ne.symm nDC)).trans l1
          have f9 := (p3 t (Ne.symm nDt)).trans ft
          have hij : i * es.length + j ≤ 200000 := by
            have a : i * es.length ≤ 201 * 900 := Nat.mul_le_mul (by omega) le
            omega
          refine ⟨_, rfl, _, rfl, _, rfl, B, _, rfl, DPut.k (k := .inl v) k9 (by rw [sizeLine_eq]; omega), ?_⟩
          have l10 : upd H9 B (.dK (putK kb (.inl v) (.int u))) C = some (.lst cl) := (upd_ne (Ne.symm nBC)).trans l9
          refine ⟨_, rfl, .inl ⟨rfl, _, SqL.of l10⟩, _, rfl, C, cl, _, rfl, rfl, l10, small1000 (by omega), ?_⟩
          refine ⟨_, _, _, cl ++ [.int v], putK kb (.inl v) (.int u), rfl, ?_, ?_, ⟨?_, ?_⟩, ⟨upd_same, ?_, fun z => ?_⟩, fun b o nb e => ?_⟩
          · rw [upd_ne (Ne.symm nCt), upd_ne (Ne.symm nBt)]
            exact f9
          · rw [et, er]
            exact p2.of_eq (by rw [upd_ne nDC, upd_ne nDB])
          · rw [upd_ne nBC, upd_same]
            rfl
          · have := putLen kb (.inl v) (.int u)
            omega
          · rw [List.length_append]
            show cl.length + 1 ≤ j + 1
            omega
          · have st := Relax.settled (n := n + 1) (lo := -1) (k := n) hpi (fun e he => by have := hin e he; omega) (Nat.le_refl _) _ em
            have e3 := (l3 z).2
            subst z
            rw [e3] at c
            have st : Relax.rounds es i v ≤ Relax.rounds es i u + m := st
            omega
          · have nbD : b ≠ D := ne_of_none e hD
            have nbB : b ≠ B := ne_of_none e hB0
            have nbC : b ≠ C := ne_of_none e hC0
            rw [upd_ne nbC, upd_ne nbB, p3 b nbD]
            exact SB2 b o nb e
        · refine if_f (decide_eq_false c) ?_
          have er : Relax.relax S (u, v, m) = S := if_neg c
          refine ⟨_, _, _, cl, kb, rfl, ft, by rw [et, er]; exact SK, ⟨k1, by omega⟩, ⟨l1, by omega, fun z => ⟨(l3 z).1, by rw [et, er]; exact (l3 z).2⟩⟩, SB2⟩
      · rintro σ' H7 ⟨v7, v8, v9, cl, kb, rfl, ft, SJ, ⟨k1, k2⟩, ⟨l1, l2, l3⟩, SB⟩
        rw [kl] at SJ k2 l2 l3
        rw [List.take_length] at SJ l3
        refine ⟨ft, C, v3, _, v7, v8, v9, cl, kb, rfl, SJ.of_eq (upd_ne nDt), ⟨(upd_ne nBt).trans k1, by rw [Nat.add_mul, Nat.one_mul]; exact k2⟩, (upd_ne nCt).trans l1, hC0, fun z => (l3 (by omega)).1, fun b o e => ?_⟩
        by_cases z : b = t
        · subst z
          rw [ht] at e
          cases e
          exact upd_same
        · rw [upd_ne z]
          exact SB _ _ z e
    · rintro σ' H4 ⟨C1, v3, v6, v7, v8, v9, cl1, kb0, rfl, SA4, ⟨b1, b2⟩, c1, c2, c3, S4⟩
      obtain rfl := c3 rfl
      refine ⟨_, rfl, false, .inl ⟨[], SqL.of c1, rfl⟩, if_t rfl ?_⟩
      exact ⟨by show 0 ≤ sizeLine; decide, fun q hq => k q _ (none_back S4 hq) (same_tr S4 (same_new hq)) upd_same⟩
end
end Law


/-! Rings: behind a change in the last round the steps back lead into a ring. -/
namespace Relax
structure RInv (es : List Edge) (n : Nat) (k : Nat) (done : List Edge) (S : Int → Int) (bf : Int → Option Int) (t : Int → Nat) : Prop where
  i1 : ∀ e ∈ es, S e.2.1 ≤ S e.1 + e.2.2 ∨ (if e ∈ done then k else k - 1) ≤ t e.1
  i2 : ∀ v, 1 ≤ t v → ∃ u, bf v = some u ∧ t v ≤ t u + 1 ∧ -1 ≤ u ∧ u < n
  i3 : ∀ v, t v ≤ k
theorem RInv.start (es : List Edge) (n : Nat) (S : Int → Int) : RInv es n 1 [] S (fun _ => none) (fun _ => 0) :=
  ⟨fun e he => .inr (by rw [if_neg (by simp)]; exact Nat.zero_le _), fun v h => absurd h (by decide), fun v => Nat.zero_le _⟩
theorem RInv.next {es : List Edge} {n k : Nat} {S : Int → Int} {bf : Int → Option Int} {t : Int → Nat} (h : RInv es n k es S bf t) : RInv es n (k + 1) [] S bf t := by
  refine ⟨fun e he => ?_, h.i2, fun v => Nat.le_succ_of_le (h.i3 v)⟩
  rcases h.i1 e he with q | q
  · exact .inl q
  · rw [if_pos he] at q
    exact .inr (by rw [if_neg (by simp)]; exact q)
/-- an edge that relaxes -/
theorem RInv.relax {es done : List Edge} {n k : Nat} {S : Int → Int} {bf : Int → Option Int} {t : Int → Nat} {u v w : Int} (h : RInv es n k done S bf t) (he : (u, v, w) ∈ es) (hk : 1 ≤ k) (hu : -1 ≤ u ∧ u < n) (c : S u + w < S v) :
    RInv es n k (done ++ [(u, v, w)]) (put S v (S u + w)) (fun a => if a = v then some u else bf a) (fun a => if a = v then k else t a) := by
  have tu : k ≤ t u + 1 := by
    rcases h.i1 _ he with q | q
    · have q : S v ≤ S u + w := q
      omega
    · have q : (if (u, v, w) ∈ done then k else k - 1) ≤ t u := q
      split at q <;> omega
  have tm : ∀ a, t a ≤ (if a = v then k else t a) := fun a => by
    split
    · exact h.i3 a
    · exact Nat.le_refl _
  refine ⟨fun e he' => ?_, fun a ha => ?_, fun a => ?_⟩
  · by_cases ca : e.1 = v
    · refine .inr ?_
      show _ ≤ (if e.1 = v then k else t e.1)
      rw [if_pos ca]
      split <;> omega
    · have hp : put S v (S u + w) e.1 = S e.1 := if_neg ca
      have hle : put S v (S u + w) e.2.1 ≤ S e.2.1 := by
        unfold put
        split
        · rename_i z
          rw [z]
          omega
        · exact Int.le_refl _
      rw [hp]
      by_cases ee : e = (u, v, w)
      · refine .inl ?_
        rw [ee]
        show put S v (S u + w) v ≤ S u + w
        unfold put
        rw [if_pos rfl]
        exact Int.le_refl _
      · rcases h.i1 e he' with q | q
        · exact .inl (Int.le_trans hle q)
        · refine .inr ?_
          show _ ≤ (if e.1 = v then k else t e.1)
          rw [if_neg ca]
          have : (e ∈ done ++ [(u, v, w)]) ↔ e ∈ done := by simp [ee]
          simp only [this]
          exact q
  · show ∃ x, (if a = v then some u else bf a) = some x ∧ (if a = v then k else t a) ≤ (if x = v then k else t x) + 1 ∧ _
    have ha : 1 ≤ (if a = v then k else t a) := ha
    by_cases ca : a = v
    · rw [if_pos ca, if_pos ca]
      exact ⟨u, rfl, Nat.le_trans tu (Nat.succ_le_succ (tm u)), hu⟩
    · rw [if_neg ca] at ha
      rw [if_neg ca, if_neg ca]
      obtain ⟨x, h1, h2, h3⟩ := h.i2 a ha
      exact ⟨x, h1, Nat.le_trans h2 (Nat.succ_le_succ (tm x)), h3⟩
  · show (if a = v then k else t a) ≤ k
    split
    · exact Nat.le_refl _
    · exact h.i3 a
theorem RInv.keep {es done : List Edge} {n k : Nat} {S : Int → Int} {bf : Int → Option Int} {t : Int → Nat} {e : Edge} (h : RInv es n k done S bf t) (c : S e.2.1 ≤ S e.1 + e.2.2) : RInv es n k (done ++ [e]) S bf t := by
  refine ⟨fun e' he' => ?_, h.i2, h.i3⟩
  by_cases ee : e' = e
  · subst ee
    exact .inl c
  · rcases h.i1 e' he' with q | q
    · exact .inl q
    · have : (e' ∈ done ++ [e]) ↔ e' ∈ done := by simp [ee]
      simp only [this]
      exact .inr q
/-! going back -/
def back (bf : Int → Option Int) (v : Int) : Nat → Int
  | 0 => v
  | j + 1 => (bf (back bf v j)).getD 0
theorem rep (it : Nat → Int) : ∀ m : Nat, ((List.range (m + 1)).map it).Nodup ∨ ∃ i j, i < j ∧ j ≤ m ∧ it i = it j ∧ ((List.range j).map it).Nodup
  | 0 => .inl (by simp)
  | m + 1 => by
    rcases rep it m with h | ⟨i, j, h1, h2, h3⟩
    · by_cases c : it (m + 1) ∈ (List.range (m + 1)).map it
      · obtain ⟨i, hi, e⟩ := List.mem_map.mp c
        exact .inr ⟨i, m + 1, List.mem_range.mp hi, Nat.le_refl _, e, h⟩
      · refine .inl ?_
        rw [List.range_succ, List.map_append]
        refine List.nodup_append.mpr ⟨h, by simp, fun a ha b hb e => ?_⟩
        rw [List.map_cons, List.map_nil, List.mem_singleton] at hb
        exact c (hb ▸ e ▸ ha)
    · exact .inr ⟨i, j, h1, by omega, h3⟩
/-- from a node changed in the last round: all steps back are told, and they come to a ring -/
theorem ring_of {es : List Edge} {n : Nat} {S : Int → Int} {bf : Int → Option Int} {t : Int → Nat} {v : Int} (h : RInv es n (n + 1) es S bf t) (hv : t v = n + 1) (hr : -1 ≤ v ∧ v < n) :
    ∃ i j, i < j ∧ j ≤ n + 1 ∧ back bf v i = back bf v j ∧ ((List.range j).map (back bf v)).Nodup ∧ (∀ m, bf (back bf v m) = some (back bf v (m + 1))) ∧ ∀ m, -1 ≤ back bf v m ∧ back bf v m < n := by
  have st : ∀ m, m ≤ n + 1 → n + 1 ≤ t (back bf v m) + m ∧ -1 ≤ back bf v m ∧ back bf v m < n := fun m => by
    induction m with
    | zero => exact fun _ => ⟨by show n + 1 ≤ t v + 0; omega, hr⟩
    | succ m ih =>
      intro hm
      obtain ⟨a, b⟩ := ih (by omega)
      obtain ⟨u, h1, h2, h3⟩ := h.i2 (back bf v m) (by omega)
      have e : back bf v (m + 1) = u := by show (bf (back bf v m)).getD 0 = u; rw [h1]; rfl
      rw [e]
      exact ⟨by omega, h3⟩
  have df : ∀ m, m ≤ n → bf (back bf v m) = some (back bf v (m + 1)) := fun m hm => by
    obtain ⟨a, _⟩ := st m (by omega)
    obtain ⟨u, h1, _⟩ := h.i2 (back bf v m) (by omega)
    show _ = some ((bf (back bf v m)).getD 0)
    rw [h1]
    rfl
  rcases rep (back bf v) (n + 1) with nd | ⟨i, j, h1, h2, h3, h4⟩
  · have := few (n + 1) (-1) ((List.range (n + 1 + 1)).map (back bf v)) nd fun x hx => by
      obtain ⟨m, hm, rfl⟩ := List.mem_map.mp hx
      obtain ⟨_, q⟩ := st m (by have := List.mem_range.mp hm; omega)
      omega
    rw [List.length_map, List.length_range] at this
    omega
  · refine ⟨i, j, h1, h2, h3, h4, ?_⟩
    have per : ∀ m, ∃ m', m' < j ∧ back bf v m = back bf v m' := fun m => by
      induction m with
      | zero => exact ⟨0, by omega, rfl⟩
      | succ m ih =>
        obtain ⟨m', q1, q2⟩ := ih
        have e : back bf v (m + 1) = back bf v (m' + 1) := by show (bf _).getD 0 = (bf _).getD 0; rw [q2]
        by_cases c : m' + 1 < j
        · exact ⟨m' + 1, c, e⟩
        · have : m' + 1 = j := by omega
          rw [this, ← h3] at e
          exact ⟨i, h1, e⟩
    refine ⟨fun m => ?_, fun m => ?_⟩
    · obtain ⟨m', q1, q2⟩ := per m
      rw [q2, df m' (by omega)]
      show some ((bf (back bf v m')).getD 0) = some ((bf (back bf v m)).getD 0)
      rw [q2]
    · obtain ⟨m', q1, q2⟩ := per m
      rw [q2]
      exact (st m' (by omega)).2
theorem back_per {bf : Int → Option Int} {v : Int} {i j : Nat} (h : i < j) (e : back bf v i = back bf v j) : ∀ m, i ≤ m → back bf v (m + (j - i)) = back bf v m := fun m => by
  induction m with
  | zero =>
    intro hm
    obtain rfl : i = 0 := by omega
    rw [Nat.zero_add, Nat.sub_zero]
    exact e.symm
  | succ m ih =>
    intro hm
    by_cases c : i ≤ m
    · have q := ih c
      rw [show m + 1 + (j - i) = (m + (j - i)) + 1 by omega]
      show (bf _).getD 0 = (bf _).getD 0
      rw [q]
    · have : i = m + 1 := by omega
      subst this
      rw [show m + 1 + (j - (m + 1)) = j by omega]
      exact e.symm
theorem back_add (bf : Int → Option Int) (v : Int) (a : Nat) : ∀ b, back bf (back bf v a) b = back bf v (a + b)
  | 0 => rfl
  | b + 1 => by
    show (bf (back bf (back bf v a) b)).getD 0 = (bf (back bf v (a + b))).getD 0
    rw [back_add bf v a b]
end Relax

/-! Rings told with their sums. -/
namespace Relax
def rs (bf : Int → Option Int) (bw : Int → Int) (v : Int) : Nat → Int
  | 0 => 0
  | j + 1 => rs bf bw v j + bw (back bf v j)
structure CInv (es : List Edge) (S : Int → Int) (bf : Int → Option Int) (bw : Int → Int) : Prop where
  c1 : ∀ v u, bf v = some u → (u, v, bw v) ∈ es ∧ S u + bw v ≤ S v
  c2 : ∀ v j, 0 < j → (∀ m, m < j → ∃ u, bf (back bf v m) = some u) → back bf v j = v → rs bf bw v j < 0
theorem CInv.start (es : List Edge) (S : Int → Int) : CInv es S (fun _ => none) (fun _ => 0) :=
  ⟨fun v u h => (by cases h), fun v j h0 h _ => (by obtain ⟨u, hu⟩ := h 0 h0; cases hu)⟩
theorem put_le {S : Int → Int} {v x : Int} (c : x ≤ S v) (a : Int) : put S v x a ≤ S a := by
  unfold put
  split
  · rename_i z
    rw [z]
    exact c
  · exact Int.le_refl _
theorem CInv.relax {es : List Edge} {S : Int → Int} {bf : Int → Option Int} {bw : Int → Int} {u v w : Int} (h : CInv es S bf bw) (he : (u, v, w) ∈ es) (c : S u + w < S v) :
    CInv es (put S v (S u + w)) (fun a => if a = v then some u else bf a) (fun a => if a = v then w else bw a) := by
  refine ⟨fun a x hx => ?_, fun z j hj hp hz => ?_⟩
  · have hx : (if a = v then some u else bf a) = some x := hx
    show (x, a, (if a = v then w else bw a)) ∈ es ∧ put S v (S u + w) x + (if a = v then w else bw a) ≤ put S v (S u + w) a
    have p1 := put_le (S := S) (v := v) (x := S u + w) (by omega) x
    by_cases ca : a = v
    · subst ca
      rw [if_pos rfl] at hx
      cases hx
      rw [if_pos rfl]
      refine ⟨he, ?_⟩
      have p2 : put S a (S u + w) a = S u + w := if_pos rfl
      rw [p2]
      omega
    · rw [if_neg ca] at hx
      rw [if_neg ca]
      obtain ⟨g1, g2⟩ := h.c1 a x hx
      have p2 : put S v (S u + w) a = S a := if_neg ca
      refine ⟨g1, ?_⟩
      rw [p2]
      omega
  · obtain ⟨bf', hbf⟩ : ∃ bf' : Int → Option Int, (fun a => if a = v then some u else bf a) = bf' := ⟨_, rfl⟩
    obtain ⟨bw', hbw⟩ : ∃ bw' : Int → Int, (fun a => if a = v then w else bw a) = bw' := ⟨_, rfl⟩
    have hp : ∀ m, m < j → ∃ x, bf' (back bf' z m) = some x := by rw [← hbf]; exact hp
    rw [hbf] at hz
    rw [hbf, hbw]
    have fv : bf' v = some u := by rw [← hbf]; exact if_pos rfl
    have fn : ∀ a, a ≠ v → bf' a = bf a := fun a ha => by rw [← hbf]; exact if_neg ha
    have wv : bw' v = w := by rw [← hbw]; exact if_pos rfl
    have wn : ∀ a, a ≠ v → bw' a = bw a := fun a ha => by rw [← hbw]; exact if_neg ha
    have step : ∀ i, i ≤ j → rs bf' bw' z i ≤ S z - S (back bf' z i) ∧ ((∃ m, m < i ∧ back bf' z m = v) → rs bf' bw' z i < S z - S (back bf' z i)) := fun i => by
      induction i with
      | zero => exact fun _ => ⟨by show (0 : Int) ≤ S z - S z; omega, fun ⟨m, hm, _⟩ => by omega⟩
      | succ i ih =>
        intro hi
        obtain ⟨a1, a2⟩ := ih (by omega)
        obtain ⟨x, hx⟩ := hp i (by omega)
        have e : back bf' z (i + 1) = x := by show (bf' (back bf' z i)).getD 0 = x; rw [hx]; rfl
        have er : rs bf' bw' z (i + 1) = rs bf' bw' z i + bw' (back bf' z i) := rfl
        rw [e, er]
        by_cases cv : back bf' z i = v
        · rw [cv, fv] at hx
          cases hx
          rw [cv] at a1 ⊢
          rw [wv]
          exact ⟨by omega, fun _ => by omega⟩
        · rw [fn _ cv] at hx
          obtain ⟨_, g2⟩ := h.c1 _ _ hx
          rw [wn _ cv]
          refine ⟨by omega, fun ⟨m, hm, hv⟩ => ?_⟩
          have : m < i := by
            rcases Nat.lt_or_ge m i with q | q
            · exact q
            · have : m = i := by omega
              rw [this] at hv
              exact absurd hv cv
          have := a2 ⟨m, this, hv⟩
          omega
    by_cases ex : ∃ m, m < j ∧ back bf' z m = v
    · have := (step j (Nat.le_refl _)).2 ex
      rw [hz] at this
      omega
    · have nv : ∀ m, m < j → back bf' z m ≠ v := fun m hm q => ex ⟨m, hm, q⟩
      have same : ∀ i, i ≤ j → back bf z i = back bf' z i ∧ rs bf bw z i = rs bf' bw' z i := fun i => by
        induction i with
        | zero => exact fun _ => ⟨rfl, rfl⟩
        | succ i ih =>
          intro hi
          obtain ⟨a1, a2⟩ := ih (by omega)
          have n1 := nv i (by omega)
          refine ⟨?_, ?_⟩
          · show (bf (back bf z i)).getD 0 = (bf' (back bf' z i)).getD 0
            rw [a1, fn _ n1]
          · show rs bf bw z i + bw (back bf z i) = rs bf' bw' z i + bw' (back bf' z i)
            rw [a1, a2, wn _ n1]
      rw [← (same j (Nat.le_refl _)).2]
      refine h.c2 z j hj (fun m hm => ?_) ((same j (Nat.le_refl _)).1.trans hz)
      rw [(same m (by omega)).1, ← fn _ (nv m hm)]
      exact hp m hm
/-- a ring: its steps are told, and their sum is below zero -/
structure RingOk (es : List Edge) (n : Nat) (ring : List Int) : Prop where
  ne : ring ≠ []
  len : ring.length ≤ n + 1
  rng : ∀ x ∈ ring, -1 ≤ x ∧ x < n
  nd : ring.Nodup
  wt : ∃ wt : Int → Int, (∀ (k : Nat) (a b : Int), ring[k]? = some a → ring[(k + 1) % ring.length]? = some b → (a, b, wt b) ∈ es) ∧ (ring.map wt).sum < 0
theorem sum_rev (f : Nat → Int) (bw : Int → Int) : ∀ r : Nat, ((((List.range (r + 1)).map f).reverse).map bw).sum = bw (f r) + ((((List.range r).map f).reverse).map bw).sum := fun r => by
  rw [List.range_succ, List.map_append, List.reverse_append]
  rfl
theorem sum_rs (bf : Int → Option Int) (bw : Int → Int) (x : Int) : ∀ r : Nat, ((((List.range r).map (back bf x)).reverse).map bw).sum = rs bf bw x r
  | 0 => rfl
  | r + 1 => by
    rw [sum_rev, sum_rs bf bw x r]
    show _ = rs bf bw x r + bw (back bf x r)
    omega
theorem ring_ok {es : List Edge} {n r : Nat} {bf : Int → Option Int} {bw : Int → Int} {x : Int} (h0 : 0 < r) (hl : r ≤ n + 1) (ret : back bf x r = x) (first : ∀ m, 0 < m → m < r → back bf x m ≠ x)
    (edge : ∀ m, (back bf x (m + 1), back bf x m, bw (back bf x m)) ∈ es) (rng : ∀ m, -1 ≤ back bf x m ∧ back bf x m < n) (sum : rs bf bw x r < 0) :
    RingOk es n ((List.range r).map (back bf x)).reverse := by
  have hlen : ((List.range r).map (back bf x)).reverse.length = r := by rw [List.length_reverse, List.length_map, List.length_range]
  have at_ : ∀ k, k < r → ((List.range r).map (back bf x)).reverse[k]? = some (back bf x (r - 1 - k)) := fun k hk => by
    rw [List.getElem?_reverse (by rw [List.length_map, List.length_range]; exact hk), List.length_map, List.length_range, List.getElem?_map, List.getElem?_range (by omega)]
    rfl
  refine ⟨fun z => ?_, by omega, fun y hy => ?_, ?_, bw, fun k a b ha hb => ?_, ?_⟩
  · have := congrArg List.length z
    rw [hlen] at this
    simp at this
    omega
  · obtain ⟨m, _, rfl⟩ := List.mem_map.mp (List.mem_reverse.mp hy)
    exact rng m
  · refine List.pairwise_reverse.mpr (List.pairwise_map.mpr (List.Pairwise.imp_of_mem (fun {a b} ha hb hab q => ?_) List.pairwise_lt_range))
    have q : back bf x a = back bf x b := q.symm
    have hb := List.mem_range.mp hb
    have e : back bf x (a + (r - b)) = x := by
      rw [← back_add, q, back_add, show b + (r - b) = r by omega]
      exact ret
    exact first _ (by omega) (by omega) e
  · have hk : k < r := by
      have := (List.getElem?_eq_some_iff.mp ha).1
      omega
    rw [at_ k hk] at ha
    cases ha
    rw [hlen] at hb
    by_cases c : k + 1 < r
    · rw [Nat.mod_eq_of_lt c, at_ _ c] at hb
      cases hb
      have := edge (r - 1 - (k + 1))
      rw [show r - 1 - (k + 1) + 1 = r - 1 - k by omega] at this
      exact this
    · have e : k + 1 = r := by omega
      rw [e, Nat.mod_self, at_ 0 h0] at hb
      cases hb
      have := edge (r - 1 - 0)
      rw [show r - 1 - 0 + 1 = r by omega, ret] at this
      rw [show r - 1 - k = 0 by omega]
      exact this
  · rw [sum_rs]
    exact sum
end Relax

/-! The ring of a site, whether a shape is or not. -/
namespace Law
open PySem PySem.Spec PyProof.Rows L2 Sup
theorem keys_len : ∀ (kv : List (Key × V)) (l : List Int), (∀ a ∈ l, (valV kv (.inl a)).isSome = true) → l.Nodup → l.length ≤ kv.length
  | [], [], _, _ => Nat.le_refl _
  | [], a :: l, h, _ => by
    have := h a List.mem_cons_self
    cases this
  | (k, v) :: kv, l, h, hn => by
    have e := keys_len kv (l.filter fun a => decide (k ≠ .inl a)) (fun a ha => by
      obtain ⟨h1, h2⟩ := List.mem_filter.mp ha
      have z := h a h1
      rw [valV_neg (of_decide_eq_true h2)] at z
      exact z) (hn.filter _)
    have z : l.length ≤ (l.filter fun a => decide (k ≠ .inl a)).length + 1 := by
      clear e h
      induction l with
      | nil => exact Nat.zero_le _
      | cons a l ih =>
        obtain ⟨n1, n2⟩ := List.nodup_cons.mp hn
        by_cases c : k = .inl a
        · have all : l.filter (fun a => decide (k ≠ .inl a)) = l := List.filter_eq_self.mpr fun b hb => decide_eq_true fun z => n1 (by rw [c] at z; rw [Sum.inl.inj z]; exact hb)
          rw [List.filter_cons, if_neg (by simp [c]), all, List.length_cons]
          exact Nat.le_refl _
        · have := ih n2
          rw [List.filter_cons, if_pos (by simp [c]), List.length_cons, List.length_cons]
          omega
    rw [List.length_cons]
    omega
/-- the steps back, in a dict -/
def BefAt (H : Hp) (B : Addr) (n : Nat) (bf : Int → Option Int) : Prop := ∃ kv : List (Key × V), H B = some (.dK kv) ∧ kv.length ≤ 200000 ∧ ∀ v : Int, -1 ≤ v → v < n → valV kv (.inl v) = (bf v).map V.int
structure RbTxt (mg : Str → Option Value) : Prop where
  b_len : mg "len" = none
  b_range : mg "range" = none
/-- a ring is told -/
def RingAt (H : Hp) (q : Addr) (n : Nat) (es : List Edge) : Prop := ∃ ring : List Int, H q = some (.lst (ring.map V.int)) ∧ Relax.RingOk es n ring
def spRgb : Sp := fun vs H Q _ => ∃ (v : Int) (B : Addr) (n i j : Nat) (bf : Int → Option Int) (es : List Edge) (bw : Int → Int), (∀ m, (Relax.back bf v (m + 1), Relax.back bf v m, bw (Relax.back bf v m)) ∈ es) ∧ (∀ z j, 0 < j → (∀ m, m < j → ∃ u, bf (Relax.back bf z m) = some u) → Relax.back bf z j = z → Relax.rs bf bw z j < 0) ∧ vs = [.int v, .ref B] ∧ BefAt H B n bf ∧ i < j ∧ j ≤ n + 1 ∧ n ≤ 200 ∧ Relax.back bf v i = Relax.back bf v j ∧ ((List.range j).map (Relax.back bf v)).Nodup ∧
  (∀ m, bf (Relax.back bf v m) = some (Relax.back bf v (m + 1))) ∧ (∀ m, -1 ≤ Relax.back bf v m ∧ Relax.back bf v m < n) ∧ ∀ (q : Addr) (H' : Hp), H q = none → Same H H' → RingAt H' q n es → Q (.ref q) H'
def spFnd2 : Sp := fun vs H Q _ => ∃ (n : Nat) (t : Addr) (es : List Edge), vs = [.int n, .ref t] ∧ H t = some (.dT (kvT es)) ∧ n ≤ 200 ∧ es.length ≤ 900 ∧ inNodes n es ∧
  ((∃ pi : Int → Int, ∀ e ∈ es, pi e.2.1 - pi e.1 ≤ e.2.2) → ∀ (q : Addr) (H' : Hp), H q = none → Same H H' → H' q = some (.lst []) → Q (.ref q) H') ∧
  ((¬ ∃ pi : Int → Int, ∀ e ∈ es, pi e.2.1 - pi e.1 ≤ e.2.2) → ∀ (q : Addr) (H' : Hp), H q = none → Same H H' → RingAt H' q n es → Q (.ref q) H')
section
variable {P : Program} {w : World} {K : PySem.W.Frag} {mg : Str → Option Value} {base : Heap}
theorem scRgb : FnScope ["node", "before", "_", "ring", "other"] ["node", "before"] (defScope sRgb) := ⟨rfl, rfl, rfl, by decide +kernel, rfl, by decide +kernel, by decide +kernel⟩
set_option maxHeartbeats 0 in
theorem ok_rgb2 {f : Addr} {fd : FuncData} (F : Fun K "_ring_behind" "_ring_behind" sRgb f fd) (T : RbTxt mg) : FnOk P w K mg base CX0 1 f fd ["node", "before"] spRgb := by
  refine F.ok scRgb (fun vs H Q E h => ?_) (fun cdv A outer s H vs Q E hr h => ?_)
  · obtain ⟨v, B, n, i, j, bf, es, bw, _, _, rfl, _⟩ := h
    rfl
  · obtain ⟨v, B, n, i, j, bf, es, bw, hedge, hsum, rfl, ⟨kv, b1, b2, b3⟩, hij, hj, hn, he, hnd, hdf, hin, k⟩ := h
    refine ⟨_, (pss_cons (ps_for PassesOwn.never rfl (pi_range1 (by rfl) T.b_range (pa_cons (pe_callB call_lenD (by rfl) T.b_len PySem.boot_len (pa_cons (pv 1) pa_nil)) pa_nil)) (pg_name (i := 2) scRgb.nd rfl (Or.inl rfl)) (pss_one (ps_set (i := 0) scRgb.nd rfl (Or.inl rfl) (pe_dget (hu_of hr) (pv 1) (pv 0) (fun _ _ => rfl)))))
      (pss_cons (ps_set (i := 3) scRgb.nd rfl (Or.inl rfl) (pe_lst (pa_cons (pv 0) pa_nil)))
      (pss_cons (ps_set (i := 4) scRgb.nd rfl (Or.inl rfl) (pe_dget (hu_of hr) (pv 1) (pv 0) (fun _ _ => rfl)))
      (pss_cons (ps_while PassesOwn.never (pt_cmpR op_ne (pv 4) (pv 0) (nomark _)) (pss_cons (ps_expr (pe_bm PySem.F.plainAttrs_list PySem.F.slot_list_append PySem.F.type_list_append mt_append (pv 3) (pa_cons (pv 4) pa_nil)))
      (pss_one (ps_set (i := 4) scRgb.nd rfl (Or.inl rfl) (pe_dget (hu_of hr) (pv 1) (pv 4) (fun _ _ => rfl))))))
      (pss_cons (ps_expr (pe_bm0 PySem.F.plainAttrs_list PySem.F.slot_list_reverse PySem.F.type_list_reverse mt_reverse (pv 3)))
      (pss_one (ps_ret (pv 3)))))))), ?_⟩
    have get : ∀ m, ∀ {H' : Hp}, H' B = some (.dK kv) → DGet H' B (.int (Relax.back bf v m)) (some (.int (Relax.back bf v (m + 1)))) := fun m {H'} e => by
      have z := DGet.k (k := .inl (Relax.back bf v m)) e
      rw [b3 _ (hin m).1 (hin m).2, hdf m] at z
      exact z
    have hL : j ≤ kv.length := by
      have z := keys_len kv ((List.range j).map (Relax.back bf v)) (fun a ha => by
        obtain ⟨m, _, rfl⟩ := List.mem_map.mp ha
        rw [b3 _ (hin m).1 (hin m).2, hdf m]
        rfl) hnd
      rw [List.length_map, List.length_range] at z
      exact z
    have per := Relax.back_per hij he
    refine ⟨_, rfl, B, kv, rfl, b1, _, rfl, by omega, by omega, ?_⟩
    rw [Int.toNat_natCast]
    refine for_it (walk_range (lo := 0) (n := kv.length)) (fun m σ' H' => (∃ v2 : Option V, σ' = [some (.int (Relax.back bf v m)), some (.ref B), v2, none, none]) ∧ H' = H) ⟨⟨_, rfl⟩, rfl⟩ (fun _ _ _ _ _ => trivial) ?_ ?_
    · rintro m x σ' H1 H2 hm ⟨⟨v2, rfl⟩, rfl⟩ ⟨rfl, rfl⟩
      exact ⟨_, rfl, _, rfl, B, _, rfl, get m b1, ⟨_, rfl⟩, rfl⟩
    rintro σ' H1 ⟨⟨v2, rfl⟩, rfl⟩
    generalize hx : Relax.back bf v kv.length = x
    have bx : ∀ m, Relax.back bf x m = Relax.back bf v (kv.length + m) := fun m => by rw [← hx]; exact Relax.back_add bf v kv.length m
    have getx : ∀ m, ∀ {H' : Hp}, H' B = some (.dK kv) → DGet H' B (.int (Relax.back bf x m)) (some (.int (Relax.back bf x (m + 1)))) := fun m {H'} e => by
      rw [bx, bx]
      exact get _ e
    have hpx : Relax.back bf x (j - i) = x := by
      rw [bx, per kv.length (by omega), hx]
    refine ⟨_, rfl, by show 1 ≤ sizeLine; decide, fun R hR => ?_⟩
    have s1 := same_new (o := .lst [V.int x]) hR
    have e1 : upd H1 R (.lst [V.int x]) R = some (.lst [V.int x]) := upd_same
    have nBR : B ≠ R := ne_of_none b1 hR
    have b1 := s1 _ _ b1
    generalize upd H1 R (.lst [V.int x]) = H2 at s1 e1 b1
    refine ⟨_, rfl, _, rfl, B, _, rfl, getx 0 b1, ?_⟩
    refine ⟨fun m σ' H' => ∃ qq, m + qq = j - i ∧ 1 ≤ m ∧ σ' = [some (.int x), some (.ref B), v2, some (.ref R), some (.int (Relax.back bf x (qq + 1)))] ∧ H' R = some (.lst (((List.range (qq + 1)).map (Relax.back bf x)).map V.int)) ∧ H' B = some (.dK kv) ∧ Same H1 H' ∧ ∀ m, 0 < m → m < qq + 1 → Relax.back bf x m ≠ x,
      ⟨j - i, 0, by omega, by omega, rfl, e1, b1, s1, fun m a b => by omega⟩, ?_⟩
    rintro m σ' H3 ⟨qq, m1, m2, rfl, r1, r2, S3, fr⟩
    refine ⟨_, rfl, _, rfl, rfl, _, rfl, ?_⟩
    by_cases c : Relax.back bf x (qq + 1) = x
    · refine if_f (by simp [c]) ?_
      refine ⟨_, rfl, .inl ⟨rfl, _, SqL.of r1⟩, R, _, rfl, rfl, r1, ?_⟩
      refine ⟨_, rfl, k R _ hR (fun b o e => (upd_ne (ne_of_none e hR)).trans (S3 _ _ e)) ⟨((List.range (qq + 1)).map (Relax.back bf x)).reverse, ?_, ?_⟩⟩
      · rw [upd_same, List.map_reverse]
      · refine Relax.ring_ok (bw := bw) (Nat.succ_pos _) (by omega) c fr (fun m => ?_) (fun m => ?_) (hsum x (qq + 1) (Nat.succ_pos _) (fun m _ => ?_) c)
        · rw [bx, bx]
          exact hedge _
        · rw [bx]
          exact hin _
        · rw [bx]
          exact ⟨_, hdf _⟩
    · refine if_t (by simp [c]) ?_
      have hlt : qq + 1 < j - i := by
        rcases Nat.lt_or_ge (qq + 1) (j - i) with z | z
        · exact z
        · have : qq + 1 = j - i := by omega
          rw [this] at c
          exact absurd hpx c
      refine ⟨fun σ' H' => σ' = [some (.int x), some (.ref B), v2, some (.ref R), some (.int (Relax.back bf x (qq + 1 + 1)))] ∧ H' R = some (.lst (((List.range (qq + 1 + 1)).map (Relax.back bf x)).map V.int)) ∧ H' B = some (.dK kv) ∧ Same H1 H',
        fun σ' H' h => ⟨m - 1, by omega, qq + 1, by omega, by omega, h.1, h.2.1, h.2.2.1, h.2.2.2, fun a a1 a2 => by
          by_cases z : a < qq + 1
          · exact fr a a1 z
          · rw [show a = qq + 1 by omega]
            exact c⟩, ?_⟩
      refine ⟨_, rfl, .inl ⟨rfl, _, SqL.of r1⟩, _, rfl, R, _, _, rfl, rfl, r1, small1000 (by rw [List.length_map, List.length_map, List.length_range]; omega), ?_⟩
      have r2' : upd H3 R (.lst (((List.range (qq + 1)).map (Relax.back bf x)).map V.int ++ [V.int (Relax.back bf x (qq + 1))])) B = some (.dK kv) := (upd_ne nBR).trans r2
      refine ⟨_, rfl, _, rfl, B, _, rfl, getx (qq + 1) r2', rfl, ?_, r2', fun b o e => (upd_ne (ne_of_none e hR)).trans (S3 _ _ e)⟩
      rw [upd_same, List.range_succ (n := qq + 1), List.map_append, List.map_append]
      rfl
set_option maxHeartbeats 0 in
theorem ok_fnd2 {f fRb : Addr} {fd fdRb : FuncData} (F : Fun K "_find_ring" "_find_ring" sFnd f fd) (T : FiTxt mg fRb) (GRb : FnOk P w K mg base CX0 1 fRb fdRb ["node", "before"] spRgb) (FRb : Fun K "_ring_behind" "_ring_behind" sRgb fRb fdRb) (bRb : Binds K fdRb ["node", "before"] []) : FnOk P w K mg base CX0 2 f fd ["size", "told"] spFnd2 := by
  obtain ⟨tk, hgr⟩ := T.ground
  refine F.ok scFnd (fun vs H Q E h => ?_) (fun cdv A outer s H vs Q E hr h => ?_)
  · obtain ⟨n, t, es, rfl, _⟩ := h
    rfl
  · obtain ⟨n, t, es, rfl, ht, ln, le, hin, kA, kB⟩ := h
    have hr1 : Room 1 _ := hr.mono (by decide)
    refine ⟨_, (pss_cons (DcX.ps_setDc (i := 2) (own := [("node", 3)]) (g := gName 3) (tt := tYes) rfl scFnd.nd rfl rfl (DcX.swd_true rfl rfl rfl (by decide +kernel)) (pi_range2 (by rfl) T.range (pa_cons (pe_glob (v := .int (-1)) rfl hgr ⟨_, rfl⟩) (pa_cons (pv 0) pa_nil)))
        (blkOk_by (own := [("node", 3)]) (N := ["size", "told", "sums", "node", "before", "changed", "_", "first", "second", "most"]) (sc := defScope sFnd) (by decide +kernel)) (fun _ _ _ _ _ => pg_name (i := 3) scFnd.nd rfl (Or.inl rfl)) (fun _ _ _ _ _ => pts_nil) (fun _ _ _ _ _ => pv 3) (fun _ _ _ _ _ => pe_int))
      (pss_cons (ps_set (i := 4) scFnd.nd rfl (Or.inl rfl) pe_dnewK)
      (pss_cons (ps_set (i := 5) scFnd.nd rfl (Or.inl rfl) (pe_lst pa_nil))
      (pss_cons (ps_for PassesOwn.never rfl (pi_range2 (by rfl) T.range (pa_cons (pe_glob (v := .int (-1)) rfl hgr ⟨_, rfl⟩) (pa_cons (pv 0) pa_nil))) (pg_name (i := 6) scFnd.nd rfl (Or.inl rfl)) (pss_cons (ps_set (i := 5) scFnd.nd rfl (Or.inl rfl) (pe_lst pa_nil))
      (pss_one (ps_lock (ps_for PassesOwn.never rfl (DTX.pi_itemsT (pv 1)) (pg_tup (by rfl) (pgs_cons (pg_tup (by rfl) (pgs_cons (pg_name (i := 7) scFnd.nd rfl (Or.inl rfl)) (pgs_cons (pg_name (i := 8) scFnd.nd rfl (Or.inl rfl)) pgs_nil))) (pgs_cons (pg_name (i := 9) scFnd.nd rfl (Or.inl rfl)) pgs_nil))) (pss_one (ps_if (pt_cmpR op_lt (pe_op op_add (pe_dget (hu_of hr) (pv 2) (pv 7) (fun _ _ => rfl)) (pv 9)) (pe_dget (hu_of hr) (pv 2) (pv 8) (fun _ _ => rfl)) (nomark _)) (pss_cons (ps_dput (hu_of hr) (pv 2) (pv 8) (pe_op op_add (pe_dget (hu_of hr) (pv 2) (pv 7) (fun _ _ => rfl)) (pv 9)) rfl)
      (pss_cons (ps_dput (hu_of hr) (pv 4) (pv 8) (pv 7) rfl)
      (pss_one (ps_expr (pe_bm PySem.F.plainAttrs_list PySem.F.slot_list_append PySem.F.type_list_append mt_append (pv 5) (pa_cons (pv 8) pa_nil)))))) pss_nil)))))))
      (pss_cons (ps_if (pt_not (pt_truth (pv 5) (by intro _; rfl))) (pss_one (ps_ret (pe_lst pa_nil))) pss_nil)
      (pss_one (ps_ret (pe_call GRb hr1 rfl T.rgb FRb.kp bRb .nil pass0 (pa_cons (pe_ix ix_list (pv 5) (pe_un un_neg pe_int) (fun _ _ => rfl)) (pa_cons (pv 4) pa_nil)))))))))), ?_⟩
    have en : ((n : Int) - -1).toNat = n + 1 := by omega
    refine ⟨_, rfl, _, _, rfl, ⟨by omega, by omega, by omega, by omega⟩, fun D hD => ?_⟩
    rw [en]
    refine DcX.dc_it (walk_range (lo := -1) (n := n + 1)) (fun i H' => (∃ kv : List (Key × V), H' D = some (.dK kv) ∧ kv.length ≤ i ∧ ∀ v : Int, -1 ≤ v → v < -1 + (i : Int) → valV kv (.inl v) = some (.int 0)) ∧ Same H H') ⟨⟨[], upd_same, Nat.le_refl _, fun v h1 h2 => absurd h2 (by omega)⟩, same_new hD⟩ (fun _ _ _ _ => trivial) ?_ ?_
    · rintro i x H1 H2 hi ⟨⟨kv, a1, a2, a3⟩, S1⟩ ⟨rfl, rfl⟩
      refine ⟨rfl, _, rfl, _, .inl (-1 + (i : Int)), rfl, a1, small1000 (by omega), ⟨_, upd_same, Nat.le_trans (putLen _ _ _) (by omega), fun v h1 h2 => ?_⟩, fun b o e => ?_⟩
      · rw [valV_put]
        by_cases z : v = -1 + (i : Int)
        · subst z
          rw [if_pos rfl]
        · rw [if_neg fun w => z (Sum.inl.inj w)]
          exact a3 v h1 (by omega)
      · rw [upd_ne (ne_of_none e hD)]
        exact S1 _ _ e
    rintro H1 ⟨⟨kv, a1, a2, a3⟩, S1⟩
    have SA : SumsAt H1 D n (Relax.rounds es 0) := ⟨kv, a1, a2, fun v h1 h2 => a3 v h1 (by omega)⟩
    refine fun B hB => ?_
    have nDB : D ≠ B := ne_of_none a1 hB
    have s2 := same_new (o := .dK []) hB
    have S2 := same_tr S1 s2
    have SA := SA.of_eq (H' := upd H1 B (.dK [])) (upd_ne nDB)
    have eB : upd H1 B (.dK []) B = some (.dK []) := upd_same
    have hB0 : H B = none := none_back S1 hB
    generalize upd H1 B (.dK []) = H2 at SA S2 eB
    refine ⟨by show 0 ≤ sizeLine; decide, fun C0 hC0 => ?_⟩
    have s3 := same_new (o := .lst []) hC0
    have hC00 := none_back S2 hC0
    have S3 := same_tr S2 s3
    have SA := SA.of_eq (H' := upd H2 C0 (.lst [])) (upd_ne (ne_of_none (show H2 D = some (.dK (Classical.choose SA)) from (Classical.choose_spec SA).1) hC0))
    have eB := s3 _ _ eB
    have eC : upd H2 C0 (.lst []) C0 = some (.lst []) := upd_same
    generalize upd H2 C0 (.lst []) = H3 at SA S3 eB eC
    let Shp : Prop := ∃ pi : Int → Int, ∀ e ∈ es, pi e.2.1 - pi e.1 ≤ e.2.2
    have nDt : D ≠ t := fun z => by rw [z, ht] at hD; cases hD
    have nBt : B ≠ t := fun z => by rw [z, ht] at hB0; cases hB0
    refine ⟨_, rfl, _, _, rfl, ⟨by omega, by omega, by omega, by omega⟩, ?_⟩
    rw [en]
    refine for_it (walk_range (lo := -1) (n := n + 1)) (fun i σ' H' => ∃ (C : Addr) (v3 v6 v7 v8 v9 : Option V) (cl : List Int) (kb : List (Key × V)) (bf : Int → Option Int) (tt : Int → Nat) (bw : Int → Int), σ' = [some (.int n), some (.ref t), some (.ref D), v3, some (.ref B), some (.ref C), v6, v7, v8, v9] ∧ Relax.CInv es (Relax.rounds es i) bf bw ∧
      SumsAt H' D n (Relax.rounds es i) ∧ (H' B = some (.dK kb) ∧ kb.length ≤ i * es.length ∧ ∀ v : Int, -1 ≤ v → v < n → valV kb (.inl v) = (bf v).map V.int) ∧ H' C = some (.lst (cl.map V.int)) ∧ H C = none ∧ (Shp → i = n + 1 → cl = []) ∧ Same H H' ∧
      ((i = 0 ∧ Relax.RInv es n 1 [] (Relax.rounds es i) bf tt) ∨ (1 ≤ i ∧ Relax.RInv es n i es (Relax.rounds es i) bf tt ∧ (∀ v ∈ cl, tt v = i ∧ -1 ≤ v ∧ v < n) ∧ (cl = [] → ∀ e ∈ es, Relax.rounds es i e.2.1 ≤ Relax.rounds es i e.1 + e.2.2))))
      ⟨C0, _, _, _, _, _, [], [], fun _ => none, fun _ => 0, fun _ => 0, rfl, Relax.CInv.start es _, SA, ⟨eB, by simp, fun v _ _ => rfl⟩, eC, hC00, fun _ _ => rfl, S3, .inl ⟨rfl, Relax.RInv.start es n _⟩⟩ (fun _ _ _ _ _ => trivial) ?_ ?_
    · rintro i x σ' H4 H5 hi ⟨C1, v3, v6, v7, v8, v9, cl1, kb0, bf0, tt0, bw0, rfl, CI0, SA4, ⟨b1, b2, b3⟩, c1, c2, c3, S4, RO⟩ ⟨rfl, rfl⟩
      have R0 : Relax.RInv es n (i + 1) [] (Relax.rounds es i) bf0 tt0 := by
        rcases RO with ⟨rfl, r⟩ | ⟨_, r, _⟩
        · exact r
        · exact r.next
      refine ⟨by show 0 ≤ sizeLine; decide, fun C hC => ?_⟩
      have s5 := same_new (o := .lst []) hC
      have hC0 := none_back S4 hC
      have S5 := same_tr S4 s5
      have nDC : D ≠ C := ne_of_none (Classical.choose_spec SA4).1 hC
      have nBC : B ≠ C := ne_of_none b1 hC
      have SA5 := SA4.of_eq (H' := upd H5 C (.lst [])) (upd_ne nDC)
      have b1 := s5 _ _ b1
      have eC : upd H5 C (.lst []) C = some (.lst []) := upd_same
      generalize upd H5 C (.lst []) = H6 at SA5 S5 b1 eC
      have nCt : C ≠ t := fun z => by rw [z, ht] at hC0; cases hC0
      refine ⟨t, .dT (kvT es), S5 _ _ ht, trivial, fun od => ?_⟩
      refine ⟨_, rfl, t, od, kvT es, rfl, upd_same, ?_⟩
      have kl : (kvT es).length = es.length := by unfold kvT; rw [List.length_map]
      refine for_it DTX.walk_itemsT (fun j σ' H' => ∃ (v7 v8 v9 : Option V) (cl : List Int) (kb : List (Key × V)) (bf : Int → Option Int) (tt : Int → Nat) (bw : Int → Int), σ' = [some (.int n), some (.ref t), some (.ref D), v3, some (.ref B), some (.ref C), some (.int (-1 + (i : Int))), v7, v8, v9] ∧ Relax.CInv es ((es.take j).foldl Relax.relax (Relax.rounds es i)) bf bw ∧
        H' t = some (.frz od (.dT (kvT es))) ∧ SumsAt H' D n ((es.take j).foldl Relax.relax (Relax.rounds es i)) ∧ (H' B = some (.dK kb) ∧ kb.length ≤ i * es.length + j ∧ ∀ v : Int, -1 ≤ v → v < n → valV kb (.inl v) = (bf v).map V.int) ∧
        (H' C = some (.lst (cl.map V.int)) ∧ cl.length ≤ j ∧ (Shp → i = n → cl = [] ∧ (es.take j).foldl Relax.relax (Relax.rounds es i) = Relax.rounds es i)) ∧ SameB t H H' ∧ Relax.RInv es n (i + 1) (es.take j) ((es.take j).foldl Relax.relax (Relax.rounds es i)) bf tt ∧ (∀ v ∈ cl, tt v = i + 1 ∧ -1 ≤ v ∧ v < n) ∧
        (cl = [] → (es.take j).foldl Relax.relax (Relax.rounds es i) = Relax.rounds es i ∧ ∀ e ∈ es.take j, Relax.rounds es i e.2.1 ≤ Relax.rounds es i e.1 + e.2.2))
        ⟨_, _, _, [], kb0, bf0, tt0, bw0, rfl, CI0, upd_same, SA5.of_eq (upd_ne nDt), ⟨(upd_ne nBt).trans b1, b2, b3⟩, ⟨(upd_ne nCt).trans eC, Nat.le_refl _, fun _ _ => ⟨rfl, rfl⟩⟩, fun b o nb e => (upd_ne nb).trans (S5 _ _ e), R0, (fun _ h => by cases h), fun _ => ⟨rfl, fun e he => by cases he⟩⟩ (fun _ _ _ _ h => by obtain ⟨_, _, _, _, _, _, _, _, _, _, z, _⟩ := h; exact z) ?_ ?_
      · rintro j x σ' H7 H8 hj ⟨v7, v8, v9, cl, kb, bf, tt, bw, rfl, CI, ft, SJ, ⟨k1, k2, k3⟩, ⟨l1, l2, l3⟩, SB, RI, cT, cE⟩ ⟨T0, q0, kk, vv, e1, rfl, e2, hT, rfl⟩
        rw [kl] at hj
        obtain ⟨⟨u, v, m⟩, he⟩ : ∃ e, es[j]? = some e := ⟨_, List.getElem?_eq_getElem hj⟩
        unfold kvT at e1
        rw [List.getElem?_map, he] at e1
        cases e1
        have sT := same_new (o := .tup [V.ref q0, V.int m]) hT
        have em := List.mem_of_getElem? he
        obtain ⟨⟨u1, u2⟩, w1, w2⟩ := hin _ em
        have et : (es.take (j + 1)).foldl Relax.relax (Relax.rounds es i) = Relax.relax ((es.take j).foldl Relax.relax (Relax.rounds es i)) (u, v, m) := by
          rw [List.take_succ, he, Option.toList_some, List.foldl_append]
          rfl
        refine ⟨T0, _, rfl, SqT.of upd_same, rfl, _, _, rfl, q0, _, rfl, SqT.of (sT _ _ e2), rfl, _, _, rfl, _, _, rfl, rfl, _, _, rfl, rfl, ?_⟩
        have nD0 : D ≠ T0 := ne_of_none (Classical.choose_spec SJ).1 hT
        have SK := SJ.of_eq (H' := upd H7 T0 (.tup [V.ref q0, V.int m])) (upd_ne nD0)
        have k1 := sT _ _ k1
        have l1 := sT _ _ l1
        have ft := sT _ _ ft
        have SB2 : SameB t H (upd H7 T0 (.tup [V.ref q0, V.int m])) := fun b o nb e => sT _ _ (SB b o nb e)
        generalize upd H7 T0 (.tup [V.ref q0, V.int m]) = H8 at SK k1 l1 ft SB2
        generalize hS : (es.take j).foldl Relax.relax (Relax.rounds es i) = S at SK et l3 RI cE CI
        have etk : es.take (j + 1) = es.take j ++ [(u, v, m)] := by rw [List.take_succ, he]; rfl
        have G1 := SK.get u1 u2
        have G2 := SK.get w1 w2
        refine ⟨_, rfl, _, rfl, D, _, rfl, G1, _, rfl, _, _, rfl, rfl, _, rfl, _, rfl, D, _, rfl, G2, _, _, rfl, rfl, _, rfl, ?_⟩
        by_cases c : S u + m < S v
        · refine if_t (decide_eq_true c) ?_
          have er : Relax.relax S (u, v, m) = Relax.put S v (S u + m) := if_pos c
          obtain ⟨H9, p1, p2, p3⟩ := SK.put (x := S u + m) w1 w2 ln
          refine ⟨_, rfl, _, rfl, D, _, rfl, G1, _, rfl, _, _, rfl, rfl, _, rfl, _, rfl, D, H9, rfl, p1, ?_⟩
          have k9 := (p3 B (Ne.symm nDB)).trans k1
          have l9 := (p3 C (Ne.symm nDC)).trans l1
          have f9 := (p3 t (Ne.symm nDt)).trans ft
          have hij : i * es.length + j ≤ 200000 := by
            have a : i * es.length ≤ 201 * 900 := Nat.mul_le_mul (by omega) le
            omega
          refine ⟨_, rfl, _, rfl, _, rfl, B, _, rfl, DPut.k (k := .inl v) k9 (by rw [sizeLine_eq]; omega), ?_⟩
          have l10 : upd H9 B (.dK (putK kb (.inl v) (.int u))) C = some (.lst (cl.map V.int)) := (upd_ne (Ne.symm nBC)).trans l9
          refine ⟨_, rfl, .inl ⟨rfl, _, SqL.of l10⟩, _, rfl, C, cl.map V.int, _, rfl, rfl, l10, small1000 (by rw [List.length_map]; omega), ?_⟩
          have RN := RI.relax em (by omega) ⟨u1, u2⟩ c
          refine ⟨_, _, _, cl ++ [v], putK kb (.inl v) (.int u), _, _, _, rfl, by rw [et, er]; exact CI.relax em c, ?_, ?_, ⟨?_, ?_, fun a a1 a2 => ?_⟩, ⟨by rw [upd_same, List.map_append]; rfl, ?_, fun sh z => ?_⟩, fun b o nb e => ?_, by rw [et, er, etk]; exact RN, fun a ha => ?_, fun z => ?_⟩
          · rw [upd_ne (Ne.symm nCt), upd_ne (Ne.symm nBt)]
            exact f9
          · rw [et, er]
            exact p2.of_eq (by rw [upd_ne nDC, upd_ne nDB])
          · rw [upd_ne nBC, upd_same]
            rfl
          · have := putLen kb (.inl v) (.int u)
            omega
          · rw [valV_put]
            by_cases z : a = v
            · subst z
              rw [if_pos rfl, if_pos rfl]
              rfl
            · rw [if_neg z, if_neg (fun w => z (Sum.inl.inj w))]
              exact k3 a a1 a2
          · rw [List.length_append]
            show cl.length + 1 ≤ j + 1
            omega
          · obtain ⟨pi, hpi⟩ := sh
            have st := Relax.settled (n := n + 1) (lo := -1) (k := n) hpi (fun e he => by have := hin e he; omega) (Nat.le_refl _) _ em
            have e3 := (l3 ⟨pi, hpi⟩ z).2
            subst z
            rw [e3] at c
            have st : Relax.rounds es i v ≤ Relax.rounds es i u + m := st
            omega
          · have nbD : b ≠ D := ne_of_none e hD
            have nbB : b ≠ B := ne_of_none e hB0
            have nbC : b ≠ C := ne_of_none e hC0
            rw [upd_ne nbC, upd_ne nbB, p3 b nbD]
            exact SB2 b o nb e
          · show (if a = v then i + 1 else tt a) = i + 1 ∧ _
            rcases List.mem_append.mp ha with h | h
            · obtain ⟨q1, q2⟩ := cT a h
              refine ⟨?_, q2⟩
              split
              · rfl
              · exact q1
            · rw [List.mem_singleton] at h
              rw [if_pos h, h]
              exact ⟨rfl, w1, w2⟩
          · have := congrArg List.length z
            simp at this
        · refine if_f (decide_eq_false c) ?_
          have er : Relax.relax S (u, v, m) = S := if_neg c
          have cle : S v ≤ S u + m := by omega
          refine ⟨_, _, _, cl, kb, bf, tt, bw, rfl, by rw [et, er]; exact CI, ft, by rw [et, er]; exact SK, ⟨k1, by omega, k3⟩, ⟨l1, by omega, fun sh z => ⟨(l3 sh z).1, by rw [et, er]; exact (l3 sh z).2⟩⟩, SB2, by rw [et, er, etk]; exact RI.keep cle, cT, fun z => ?_⟩
          obtain ⟨q1, q2⟩ := cE z
          refine ⟨by rw [et, er]; exact q1, fun e he' => ?_⟩
          rw [etk] at he'
          rcases List.mem_append.mp he' with h | h
          · exact q2 e h
          · rw [List.mem_singleton] at h
            subst h
            rw [← q1]
            exact cle
      · rintro σ' H7 ⟨v7, v8, v9, cl, kb, bf, tt, bw, rfl, CI, ft, SJ, ⟨k1, k2, k3⟩, ⟨l1, l2, l3⟩, SB, RI, cT, cE⟩
        rw [kl] at SJ k2 l2 l3 RI cE CI
        rw [List.take_length] at SJ l3 RI cE CI
        refine ⟨ft, C, v3, _, v7, v8, v9, cl, kb, bf, tt, bw, rfl, CI, SJ.of_eq (upd_ne nDt), ⟨(upd_ne nBt).trans k1, by rw [Nat.add_mul, Nat.one_mul]; exact k2, k3⟩, (upd_ne nCt).trans l1, hC0, fun sh z => (l3 sh (by omega)).1, fun b o e => ?_, .inr ⟨by omega, RI, cT, fun z e he => ?_⟩⟩
        rotate_left
        · obtain ⟨q1, q2⟩ := cE z
          show es.foldl Relax.relax (Relax.rounds es i) e.2.1 ≤ es.foldl Relax.relax (Relax.rounds es i) e.1 + e.2.2
          rw [q1]
          exact q2 e he
        by_cases z : b = t
        · subst z
          rw [ht] at e
          cases e
          exact upd_same
        · rw [upd_ne z]
          exact SB _ _ z e
    · rintro σ' H4 ⟨C1, v3, v6, v7, v8, v9, cl1, kb0, bf, tt, bw, rfl, CI, SA4, ⟨b1, b2, b3⟩, c1, c2, c3, S4, RO⟩
      obtain ⟨RI, cT, cE⟩ : Relax.RInv es n (n + 1) es (Relax.rounds es (n + 1)) bf tt ∧ (∀ v ∈ cl1, tt v = n + 1 ∧ -1 ≤ v ∧ v < n) ∧ (cl1 = [] → ∀ e ∈ es, Relax.rounds es (n + 1) e.2.1 ≤ Relax.rounds es (n + 1) e.1 + e.2.2) := by
        rcases RO with ⟨z, _⟩ | ⟨_, r⟩
        · exact absurd z (by omega)
        · exact r
      by_cases sh : Shp
      · obtain rfl := c3 sh rfl
        refine ⟨_, rfl, false, .inl ⟨[], SqL.of c1, rfl⟩, if_t rfl ?_⟩
        exact ⟨by show 0 ≤ sizeLine; decide, fun q hq => kA sh q _ (none_back S4 hq) (same_tr S4 (same_new hq)) upd_same⟩
      · have hne : cl1 ≠ [] := fun z => sh ⟨Relax.rounds es (n + 1), fun e he => by have := cE z e he; omega⟩
        have hlen : 0 < cl1.length := List.length_pos_iff.mpr hne
        refine ⟨_, rfl, true, .inl ⟨_, SqL.of c1, by cases cl1 with | nil => exact absurd rfl hne | cons x r => rfl⟩, if_f rfl ?_⟩
        obtain ⟨v, hv⟩ : ∃ v, cl1[cl1.length - 1]? = some v := ⟨_, List.getElem?_eq_getElem (by omega)⟩
        have av : atI (cl1.map V.int) (-1) = some (V.int v) := by
          unfold atI ixN
          rw [if_neg (by omega), if_pos (by rw [List.length_map]; omega)]
          show (cl1.map V.int)[((-1 : Int) + ((cl1.map V.int).length : Int)).toNat]? = _
          rw [List.length_map, show ((-1 : Int) + (cl1.length : Int)).toNat = cl1.length - 1 by omega, List.getElem?_map, hv]
          rfl
        obtain ⟨tv, vr⟩ := cT v (List.mem_of_getElem? hv)
        obtain ⟨i1, j1, r1, r2, r3, r4, r5, r6⟩ := Relax.ring_of RI tv vr
        have hij : (n + 1) * es.length ≤ 201 * 900 := Nat.mul_le_mul (by omega) le
        refine ⟨_, rfl, _, rfl, C1, _, -1, _, rfl, rfl, SqL.of c1, av, _, rfl, v, B, n, i1, j1, bf, es, bw, fun m => (CI.c1 _ _ (r5 m)).1, CI.c2, rfl, ⟨kb0, b1, Nat.le_trans b2 (Nat.le_trans hij (by decide)), b3⟩, r1, r2, ln, r3, r4, r5, r6, fun q H' nq s R => ?_⟩
        exact kB sh q H' (none_back S4 nq) (same_tr S4 s) R
end
end Law



/-! The least sums of a site. -/
namespace Law
open PySem PySem.Spec PyProof.Rows L2 Sup
abbrev sLst : Stmt := top 30
abbrev sFst : Stmt := top 31
abbrev sSby : Stmt := top 32
theorem ix_listK (K : PySem.W.Frag) {X : Cx} (h : X.K = K) : IxR X (rIxL K) := h ▸ ix_list
theorem pi_listK (K : PySem.W.Frag) {X : Cx} {tg l : Expr} {tl : TE} (h : X.K = K) (hl : PE X l tl) : PI X tg l (iList K tl) := h ▸ pi_list hl
def firstSum (es : List Edge) (a b : Int) : Int := if a = b then 0 else match es.find? (likeE (a, b, 0)) with
  | some e => e.2.2
  | none => match es.find? (likeE (-1, b, 0)) with
    | some e => e.2.2
    | none => 0
def lessOf (st known more : Int) : Int := if known ≤ st + more then known else st + more
def sumsBy (row : List Int) (st : Int) (on : List Int) : List Int := List.zipWith (lessOf st) row on
def nodesI (n : Nat) : List Int := (List.range n).map (fun (i : Nat) => (i : Int)) ++ [-1]
def fwStep (M : List (List Int)) (k : Int) : List (List Int) := M.map fun row => sumsBy row ((atI row k).getD 0) ((atI M k).getD [])
def firstTab (n : Nat) (es : List Edge) : List (List Int) := (nodesI n).map fun a => (nodesI n).map fun b => firstSum es a b
def leastSums (n : Nat) (es : List Edge) : List (List Int) := (nodesI n).foldl fwStep (firstTab n es)
/-- a square of m rows -/
def Sqr (m : Nat) (M : List (List Int)) : Prop := M.length = m ∧ ∀ row ∈ M, row.length = m
def TabAt (H : Hp) (p : Addr) (M : List (List Int)) : Prop := ∃ ts : List Addr, H p = some (.lst (ts.map V.ref)) ∧ ts.length = M.length ∧ ∀ (i : Nat) (t : Addr) (row : List Int), ts[i]? = some t → M[i]? = some row → H t = some (.lst (row.map V.int))
def Full (n : Nat) (es : List Edge) : Prop := ∀ a ∈ nodesI n, ∀ b ∈ nodesI n, a ≠ b → es.find? (likeE (a, b, 0)) = none → es.find? (likeE (-1, b, 0)) ≠ none
theorem nodesI_len (n : Nat) : (nodesI n).length = n + 1 := by unfold nodesI; simp
theorem nodesI_mem {n : Nat} {a : Int} (h : a ∈ nodesI n) : -1 ≤ a ∧ a < n := by
  unfold nodesI at h
  rcases List.mem_append.mp h with h | h
  · obtain ⟨i, hi, rfl⟩ := List.mem_map.mp h
    have := List.mem_range.mp hi
    omega
  · rw [List.mem_singleton] at h
    subst h
    omega
theorem TabAt.same {H H' : Hp} {p : Addr} {M : List (List Int)} (h : TabAt H p M) (s : Same H H') : TabAt H' p M := by
  obtain ⟨ts, h1, h2, h3⟩ := h
  exact ⟨ts, s _ _ h1, h2, fun i t e e1 e2 => s _ _ (h3 i t e e1 e2)⟩
theorem neRow {H : Hp} {t D : Addr} {ts : List Addr} {row : List Int} (h : H D = some (.lst (ts.map V.ref))) (h' : H t = some (.lst (row.map V.int))) (hr : row ≠ []) : t ≠ D := fun z => by
  rw [z, h] at h'
  have e := HO.lst.inj (Option.some.inj h')
  cases row with
  | nil => exact hr rfl
  | cons x row =>
    cases ts with
    | nil => cases e
    | cons t ts => cases e
theorem TabAt.push {H : Hp} {D q : Addr} {M : List (List Int)} {row : List Int} (h : TabAt H D M) (hq : H q = some (.lst (row.map V.int))) (hM : ∀ r ∈ M, r ≠ []) (hr : row ≠ []) (hl : M.length ≤ 900) :
    ∃ acc, H D = some (.lst acc) ∧ acc.length < sizeLine ∧ TabAt (upd H D (.lst (acc ++ [.ref q]))) D (M ++ [row]) := by
  obtain ⟨ts, h1, h2, h3⟩ := h
  refine ⟨_, h1, small1000 (by rw [List.length_map]; omega), ts ++ [q], by rw [upd_same, List.map_append]; rfl, by simp [h2], fun i t r e1 e2 => ?_⟩
  by_cases hi : i < ts.length
  · rw [List.getElem?_append_left hi] at e1
    rw [List.getElem?_append_left (by omega)] at e2
    have z := h3 i t r e1 e2
    rw [upd_ne (neRow h1 z (hM r (List.mem_of_getElem? e2)))]
    exact z
  · rw [List.getElem?_append_right (by omega)] at e1 e2
    have ei : i - ts.length = 0 := by
      have := (List.getElem?_eq_some_iff.mp e1).1
      simp at this
      omega
    have ej : i - M.length = 0 := by omega
    rw [ei] at e1
    rw [ej] at e2
    cases e1
    cases e2
    rw [upd_ne (neRow h1 hq hr)]
    exact hq
theorem sumsBy_len (row : List Int) (st : Int) (on : List Int) (h : on.length = row.length) : (sumsBy row st on).length = row.length := by
  unfold sumsBy
  rw [List.length_zipWith, h, Nat.min_self]
theorem atI_some {α : Type} {xs : List α} {n : Nat} {k : Int} (hl : xs.length = n + 1) (h1 : -1 ≤ k) (h2 : k < n) : ∃ x, atI xs k = some x ∧ x ∈ xs ∧ xs[if k < 0 then n else k.toNat]? = some x := by
  unfold atI ixN
  by_cases c : 0 ≤ k
  · rw [if_pos c, if_pos (by omega), if_neg (by omega)]
    have hk : k.toNat < xs.length := by omega
    exact ⟨xs[k.toNat], by show xs[k.toNat]? = _; exact List.getElem?_eq_getElem hk, List.getElem_mem hk, List.getElem?_eq_getElem hk⟩
  · rw [if_neg c, if_pos (by omega), if_pos (by omega)]
    have hk : n < xs.length := by omega
    have e : (k + (xs.length : Int)).toNat = n := by omega
    rw [e]
    exact ⟨xs[n], by show xs[n]? = _; exact List.getElem?_eq_getElem hk, List.getElem_mem hk, List.getElem?_eq_getElem hk⟩
theorem atI_map {α β : Type} (f : α → β) (xs : List α) (k : Int) : atI (xs.map f) k = (atI xs k).map f := by
  unfold atI
  rw [List.length_map]
  cases ixN xs.length k with
  | none => rfl
  | some j => show (xs.map f)[j]? = (xs[j]?).map f; rw [List.getElem?_map]
theorem fwStep_sqr {n : Nat} {M : List (List Int)} {k : Int} (h : Sqr (n + 1) M) (h1 : -1 ≤ k) (h2 : k < n) : Sqr (n + 1) (fwStep M k) := by
  obtain ⟨a, b⟩ := h
  refine ⟨by unfold fwStep; rw [List.length_map]; exact a, fun row hr => ?_⟩
  unfold fwStep at hr
  obtain ⟨r, hr', rfl⟩ := List.mem_map.mp hr
  obtain ⟨o, ho, hm, _⟩ := atI_some a h1 h2
  rw [ho]
  show (sumsBy r _ o).length = _
  rw [sumsBy_len _ _ _ (by rw [b _ hm, b _ hr'])]
  exact b _ hr'
theorem firstTab_sqr (n : Nat) (es : List Edge) : Sqr (n + 1) (firstTab n es) := by
  refine ⟨by unfold firstTab; rw [List.length_map, nodesI_len], fun row h => ?_⟩
  unfold firstTab at h
  obtain ⟨a, _, rfl⟩ := List.mem_map.mp h
  rw [List.length_map, nodesI_len]
theorem fold_sqr {n : Nat} : ∀ (ks : List Int) {M : List (List Int)}, Sqr (n + 1) M → (∀ k ∈ ks, -1 ≤ k ∧ k < n) → Sqr (n + 1) (ks.foldl fwStep M)
  | [], _, h, _ => h
  | k :: ks, _, h, hk => fold_sqr ks (fwStep_sqr h (hk k List.mem_cons_self).1 (hk k List.mem_cons_self).2) fun x hx => hk x (List.mem_cons_of_mem _ hx)
structure LsTxt (mg : Str → Option Value) (fFs fSb : Addr) : Prop where
  ground : ∃ t, mg "GROUND" = some (.int (-1) t)
  range : mg "range" = none
  list : mg "list" = none
  zip : mg "zip" = none
  fst : mg "_first_sum" = some (.ref fFs)
  sby : mg "_sums_by" = some (.ref fSb)
def spFst : Sp := fun vs H Q _ => ∃ (t : Addr) (es : List Edge) (a b : Int), vs = [.ref t, .int a, .int b] ∧ H t = some (.dT (kvT es)) ∧ (a ≠ b → es.find? (likeE (a, b, 0)) = none → es.find? (likeE (-1, b, 0)) ≠ none) ∧ ∀ H', Same H H' → Q (.int (firstSum es a b)) H'
def spSby : Sp := fun vs H Q _ => ∃ (r o : Addr) (st : Int) (R O : List Int), vs = [.ref r, .int st, .ref o] ∧ H r = some (.lst (R.map V.int)) ∧ H o = some (.lst (O.map V.int)) ∧ O.length = R.length ∧ R.length ≤ 900 ∧
  ∀ (q : Addr) (H' : Hp), H q = none → Same H H' → H' q = some (.lst ((sumsBy R st O).map V.int)) → Q (.ref q) H'
def spLst : Sp := fun vs H Q _ => ∃ (n : Nat) (t : Addr) (es : List Edge), vs = [.int n, .ref t] ∧ H t = some (.dT (kvT es)) ∧ n ≤ 200 ∧ Full n es ∧
  ∀ (q : Addr) (H' : Hp), H q = none → Same H H' → TabAt H' q (leastSums n es) → Q (.ref q) H'
section
variable {P : Program} {w : World} {K : PySem.W.Frag} {mg : Str → Option Value} {base : Heap} {fFs fSb : Addr}
theorem scFst : FnScope ["told", "first", "second"] ["told", "first", "second"] (defScope sFst) := ⟨rfl, rfl, rfl, by decide +kernel, rfl, by decide +kernel, by decide +kernel⟩
theorem scSby : FnScope ["row", "step", "onward", "known", "more"] ["row", "step", "onward"] (defScope sSby) := ⟨rfl, rfl, rfl, by decide +kernel, rfl, by decide +kernel, by decide +kernel⟩
theorem scLst : FnScope ["size", "told", "nodes", "table", "first", "second", "node", "onward", "row"] ["size", "told"] (defScope sLst) := ⟨rfl, rfl, rfl, by decide +kernel, rfl, by decide +kernel, by decide +kernel⟩
set_option maxHeartbeats 0 in
theorem ok_fst {f : Addr} {fd : FuncData} (F : Fun K "_first_sum" "_first_sum" sFst f fd) (T : LsTxt mg fFs fSb) : FnOk P w K mg base CX0 1 f fd ["told", "first", "second"] spFst := by
  obtain ⟨tk, hgr⟩ := T.ground
  refine F.ok scFst (fun vs H Q E h => ?_) (fun cdv A outer s H vs Q E hr h => ?_)
  · obtain ⟨t, es, a, b, rfl, _⟩ := h
    rfl
  · obtain ⟨t, es, a, b, rfl, ht, hf, k⟩ := h
    refine ⟨_, (pss_cons (ps_if (pt_cmpR op_eq (pv 1) (pv 2) (nomark _)) (pss_one (ps_ret pe_int)) pss_nil)
      (pss_one (ps_ret (pe_dget2 (hu_of hr) (pv 0) (pe_tup (pa_cons (pv 1) (pa_cons (pv 2) pa_nil))) (pe_dget1 (hu_of hr) (pv 0) (pe_tup (pa_cons (pe_glob (v := .int (-1)) rfl hgr ⟨_, rfl⟩) (pa_cons (pv 2) pa_nil))) ⟨rfl, rfl, rfl, rfl⟩) ⟨rfl, rfl, rfl, rfl⟩)))), ?_⟩
    refine ⟨_, rfl, _, rfl, rfl, _, rfl, ?_⟩
    by_cases c : a = b
    · refine if_t (by simp [c]) ?_
      have z := k H same_rfl
      unfold firstSum at z
      rw [if_pos c] at z
      exact z
    · refine if_f (by simp [c]) ?_
      refine ⟨_, rfl, t, rfl, .inr ⟨_, .inl ht⟩, _, rfl, _, rfl, by show 2 ≤ sizeLine; decide, fun k1 hk1 => ?_⟩
      have s1 := same_new (o := .tup [V.int a, V.int b]) hk1
      have t1 := s1 _ _ ht
      have e1 : upd H k1 (.tup [V.int a, V.int b]) k1 = some (.tup ((keyT (a, b, 0)).map kV)) := upd_same
      generalize upd H k1 (.tup [V.int a, V.int b]) = H1 at s1 t1 e1
      refine ⟨_, rfl, t, rfl, .inr ⟨_, .inl t1⟩, _, rfl, by show 2 ≤ sizeLine; decide, fun k2 hk2 => ?_⟩
      have s2 := same_new (o := .tup [V.int (-1), V.int b]) hk2
      have t2 := s2 _ _ t1
      have e2 : upd H1 k2 (.tup [V.int (-1), V.int b]) k2 = some (.tup ((keyT (-1, b, 0)).map kV)) := upd_same
      have e1' := s2 _ _ e1
      generalize upd H1 k2 (.tup [V.int (-1), V.int b]) = H2 at s2 t2 e2 e1'
      refine ⟨_, DGet.t t2 e2, _, DGet.t t2 e1', ?_⟩
      rw [val_kvT, val_kvT]
      have z := k H2 (same_tr s1 s2)
      unfold firstSum at z
      rw [if_neg c] at z
      cases q1 : es.find? (likeE (a, b, 0)) with
      | some e =>
        rw [q1] at z
        exact z
      | none =>
        rw [q1] at z
        cases q2 : es.find? (likeE (-1, b, 0)) with
        | some e =>
          rw [q2] at z
          exact z
        | none => exact absurd q2 (hf c q1)
set_option maxHeartbeats 0 in
theorem ok_sby {f : Addr} {fd : FuncData} (F : Fun K "_sums_by" "_sums_by" sSby f fd) (T : LsTxt mg fFs fSb) : FnOk P w K mg base CX0 1 f fd ["row", "step", "onward"] spSby := by
  refine F.ok scSby (fun vs H Q E h => ?_) (fun cdv A outer s H vs Q E hr h => ?_)
  · obtain ⟨r, o, st, R, O, rfl, _⟩ := h
    rfl
  · obtain ⟨r, o, st, R, O, rfl, hR, hO, hl, h9, k⟩ := h
    refine ⟨_, (pss_one (ps_ret (pe_lc (own := [("known", 3), ("more", 4)]) (g := gTup K 2 (gCons (gName 3) (gCons (gName 4) gNil))) (tt := tYes) (by rfl) scSby.nd (pi_zip (by rfl) T.zip (pa_cons (pv 0) (pa_cons (pv 2) pa_nil)))
        (blkOk_by (own := [("known", 3), ("more", 4)]) (N := ["row", "step", "onward", "known", "more"]) (sc := defScope sSby) (by decide +kernel)) (fun _ _ _ _ _ => by exact (pg_tup (n := 2) rfl (pgs_cons (pg_name (i := 3) scSby.nd rfl (Or.inl rfl)) (pgs_cons (pg_name (i := 4) scSby.nd rfl (Or.inl rfl)) pgs_nil)))) (fun _ _ _ _ _ => pts_nil) (fun _ _ _ _ _ => (pe_ifExp (pt_cmpR op_le (pv 3) (pe_op op_add (pv 1) (pv 4)) (nomark _)) (pv 3) (pe_op op_add (pv 1) (pv 4))))))), ?_⟩
    refine ⟨_, rfl, _, rfl, r, o, _, _, rfl, SqL.of hR, SqL.of hO, fun D hD => ?_⟩
    have sl := sumsBy_len R st O hl
    refine lc_it (walk_zip (n := R.length) (by rw [List.length_map, List.length_map]; omega)) (fun i H' => H' D = some (.lst (((sumsBy R st O).take i).map V.int)) ∧ Same H H') ⟨by rw [upd_same]; rfl, same_new hD⟩ (fun _ _ _ h => ⟨SqL.of (h.2 _ _ hR), SqL.of (h.2 _ _ hO)⟩) ?_ ?_
    · rintro i x H1 H2 hi ⟨a1, S1⟩ ⟨T0, x1, y1, rfl, hT, rfl, h1, h2⟩
      have h1 : (R.map V.int)[i]? = some x1 := h1
      have h2 : (O.map V.int)[i]? = some y1 := h2
      have hiO : i < O.length := by omega
      rw [List.getElem?_map, List.getElem?_eq_getElem hi] at h1
      rw [List.getElem?_map, List.getElem?_eq_getElem hiO] at h2
      cases h1
      cases h2
      have sT := same_new (o := .tup [V.int R[i], V.int O[i]]) hT
      have eT : (sumsBy R st O)[i]? = some (lessOf st R[i] O[i]) := by
        unfold sumsBy
        rw [List.getElem?_zipWith, List.getElem?_eq_getElem hi, List.getElem?_eq_getElem hiO]
      have fin : ∃ acc, upd H1 T0 (.tup [V.int R[i], V.int O[i]]) D = some (.lst acc) ∧ acc.length < sizeLine ∧ (fun i H' => H' D = some (.lst (((sumsBy R st O).take i).map V.int)) ∧ Same H H') (i + 1) (upd (upd H1 T0 (.tup [V.int R[i], V.int O[i]])) D (.lst (acc ++ [V.int (lessOf st R[i] O[i])]))) := by
        refine ⟨_, sT _ _ a1, small1000 (by rw [List.length_map, List.length_take]; omega), ?_, fun b o e => ?_⟩
        · rw [upd_same, List.take_succ, eT, Option.toList_some, List.map_append]
          rfl
        · rw [upd_ne (ne_of_none e hD)]
          exact sT _ _ (S1 _ _ e)
      refine ⟨T0, _, rfl, SqT.of upd_same, rfl, _, _, rfl, _, _, rfl, rfl, rfl, ?_⟩
      refine ⟨_, rfl, _, rfl, _, rfl, _, _, rfl, rfl, _, _, rfl, rfl, ?_⟩
      refine ⟨_, rfl, ?_⟩
      by_cases c : R[i] ≤ st + O[i]
      · have e : lessOf st R[i] O[i] = R[i] := if_pos c
        rw [e] at fin
        exact if_t (decide_eq_true c) ⟨_, rfl, fin⟩
      · have e : lessOf st R[i] O[i] = st + O[i] := if_neg c
        rw [e] at fin
        exact if_f (decide_eq_false c) ⟨_, rfl, _, rfl, _, _, rfl, rfl, fin⟩
    · rintro H1 ⟨a1, S1⟩
      rw [← sl, List.take_length] at a1
      exact k D H1 hD S1 a1
set_option maxHeartbeats 0 in
theorem ok_lst {f : Addr} {fd fdFs fdSb : FuncData} (F : Fun K "_least_sums" "_least_sums" sLst f fd) (T : LsTxt mg fFs fSb) (FFs : Fun K "_first_sum" "_first_sum" sFst fFs fdFs) (bFs : Binds K fdFs ["told", "first", "second"] []) (FSb : Fun K "_sums_by" "_sums_by" sSby fSb fdSb) (bSb : Binds K fdSb ["row", "step", "onward"] []) : FnOk P w K mg base CX0 2 f fd ["size", "told"] spLst := by
  have GFs : FnOk P w K mg base CX0 1 fFs fdFs ["told", "first", "second"] spFst := ok_fst FFs T
  have GSb : FnOk P w K mg base CX0 1 fSb fdSb ["row", "step", "onward"] spSby := ok_sby FSb T
  obtain ⟨tk, hgr⟩ := T.ground
  refine F.ok scLst (fun vs H Q E h => ?_) (fun cdv A outer s H vs Q E hr h => ?_)
  · obtain ⟨n, t, es, rfl, _⟩ := h
    rfl
  · obtain ⟨n, t, es, rfl, ht, hn, hF, k⟩ := h
    have hr1 : Room 1 _ := hr.mono (by decide)
    refine ⟨_, (pss_cons (ps_set (i := 2) scLst.nd rfl (Or.inr rfl) (pe_op op_cat (pe_listRg rfl (by rfl) T.list (prg_1 (by rfl) T.range (pv 0))) (pe_lst (pa_cons (pe_glob (v := .int (-1)) rfl hgr ⟨_, rfl⟩) pa_nil))))
      (pss_cons (ps_setLc (i := 3) (own := [("first", 4)]) (g := gName 4) (tt := tYes) (by rfl) scLst.nd rfl rfl (sw_true rfl rfl rfl (by decide +kernel)) (pi_list (pv 2)) (blkOk_by (own := [("first", 4)]) (N := ["size", "told", "nodes", "table", "first", "second", "node", "onward", "row"]) (sc := defScope sLst) (by decide +kernel)) (fun _ _ _ _ _ => pg_name (i := 4) scLst.nd rfl (Or.inr rfl)) (fun _ _ _ _ _ => pts_nil) (fun _ _ _ _ _ => by exact (pe_lc (own := [("second", 5)]) (g := gName 5) (tt := tYes) (by rfl) scLst.nd (pi_listK K rfl (pv 2)) (blkOk_by (own := [("second", 5)]) (N := ["size", "told", "nodes", "table", "first", "second", "node", "onward", "row"]) (sc := { kind := .function, names := [(".0", .local), ("first", .cell), ("nodes", .cell), ("told", .cell)], isGenerator := false, isCoroutine := false }) (by decide +kernel)) (fun _ _ _ _ _ => pg_name (i := 5) scLst.nd rfl (Or.inl rfl)) (fun _ _ _ _ _ => pts_nil) (fun _ _ _ _ _ => by exact (pe_call GFs hr1 rfl T.fst FFs.kp bFs .nil pass0 (pa_cons (pv 1) (pa_cons (pv 4) (pa_cons (pv 5) pa_nil))))))))
      (pss_cons (ps_for PassesOwn.never rfl (pi_list (pv 2)) (pg_name (i := 6) scLst.nd rfl (Or.inr rfl)) (pss_cons (ps_set (i := 7) scLst.nd rfl (Or.inr rfl) (pe_ix ix_list (pv 3) (pv 6) (fun _ _ => rfl)))
      (pss_one (ps_setLc (i := 3) (own := [("row", 8)]) (g := gName 8) (tt := tYes) (by rfl) scLst.nd rfl rfl (sw_true rfl rfl rfl (by decide +kernel)) (pi_list (pv 3)) (blkOk_by (own := [("row", 8)]) (N := ["size", "told", "nodes", "table", "first", "second", "node", "onward", "row"]) (sc := defScope sLst) (by decide +kernel)) (fun _ _ _ _ _ => pg_name (i := 8) scLst.nd rfl (Or.inl rfl)) (fun _ _ _ _ _ => pts_nil) (fun _ _ _ _ _ => (pe_call GSb hr1 rfl T.sby FSb.kp bSb .nil pass0 (pa_cons (pv 8) (pa_cons (pe_ix (ix_listK K rfl) (pv 8) (pv 6) (fun _ _ => rfl)) (pa_cons (pv 7) pa_nil)))))))))
      (pss_one (ps_ret (pv 3)))))), ?_⟩
    refine ⟨_, rfl, _, rfl, ⟨by omega, by omega, by omega, by omega, by omega⟩, fun q1 hq1 => ?_⟩
    have s1 := same_new (o := .lst (rgV 0 n)) hq1
    have e1 : upd H q1 (.lst (rgV 0 n)) q1 = some (.lst (rgV 0 n)) := upd_same
    generalize upd H q1 (.lst (rgV 0 n)) = H1 at s1 e1
    refine ⟨by show 1 ≤ sizeLine; decide, fun q2 hq2 => ?_⟩
    have s2 := same_new (o := .lst [V.int (-1)]) hq2
    have e2 : upd H1 q2 (.lst [V.int (-1)]) q2 = some (.lst [V.int (-1)]) := upd_same
    have e1 := s2 _ _ e1
    have S2 := same_tr s1 s2
    generalize upd H1 q2 (.lst [V.int (-1)]) = H2 at S2 e1 e2
    have ln : rgV 0 n ++ [V.int (-1)] = (nodesI n).map V.int := by
      unfold rgV nodesI
      rw [List.map_append, List.map_map, Int.sub_zero, Int.toNat_natCast]
      congr 1
      refine List.map_congr_left fun i _ => ?_
      show V.int (0 + (i : Int)) = V.int (i : Int)
      rw [Int.zero_add]
    refine ⟨q1, q2, _, _, rfl, rfl, e1, e2, by rw [rgV_length, sizeLine_eq]; simp; omega, fun lp hlp => ?_⟩
    rw [ln]
    have s3 := same_new (o := .lst ((nodesI n).map V.int)) hlp
    have e3 : upd H2 lp (.lst ((nodesI n).map V.int)) lp = some (.lst ((nodesI n).map V.int)) := upd_same
    have S3 := same_tr S2 s3
    generalize upd H2 lp (.lst ((nodesI n).map V.int)) = H3 at S3 e3
    have nl := nodesI_len n
    have t3 := S3 _ _ ht
    refine ⟨_, rfl, lp, rfl, ⟨_, SqL.of e3⟩, fun D hD => ?_⟩
    have fts := firstTab_sqr n es
    have ftl : (firstTab n es).length = n + 1 := fts.1
    refine lc_it (walk_list (xs := (nodesI n).map V.int)) (fun i H' => TabAt H' D ((firstTab n es).take i) ∧ Same H3 H') ⟨⟨[], upd_same, rfl, fun i t e z => by cases z⟩, same_new hD⟩ (fun _ _ _ h => SqL.of (h.2 _ _ e3)) ?_ ?_
    · rintro i x H4 H5 hi ⟨B, S4⟩ ⟨rfl, hx⟩
      rw [List.length_map] at hi
      rw [List.getElem?_map, List.getElem?_eq_getElem hi] at hx
      cases hx
      have am : (nodesI n)[i] ∈ nodesI n := List.getElem_mem hi
      generalize ha : (nodesI n)[i] = a at am
      refine ⟨rfl, _, rfl, lp, rfl, ⟨_, SqL.of (S4 _ _ e3)⟩, fun D2 hD2 => ?_⟩
      have er : (firstTab n es)[i]? = some ((nodesI n).map fun b => firstSum es a b) := by
        unfold firstTab
        rw [List.getElem?_map, List.getElem?_eq_getElem hi, ha]
        rfl
      refine lc_it (walk_list (xs := (nodesI n).map V.int)) (fun j H' => H' D2 = some (.lst ((((nodesI n).map fun b => firstSum es a b).take j).map V.int)) ∧ Same H5 H') ⟨upd_same, same_new hD2⟩ (fun _ _ _ h => SqL.of (h.2 _ _ (S4 _ _ e3))) ?_ ?_
      · rintro j x H6 H7 hj ⟨b1, S6⟩ ⟨rfl, hx⟩
        rw [List.length_map] at hj
        rw [List.getElem?_map, List.getElem?_eq_getElem hj] at hx
        cases hx
        have bm : (nodesI n)[j] ∈ nodesI n := List.getElem_mem hj
        refine ⟨rfl, _, rfl, _, rfl, _, rfl, t, es, a, (nodesI n)[j], rfl, S6 _ _ (S4 _ _ t3), fun c d => hF a am _ bm c d, fun H8 s8 => ?_⟩
        refine ⟨_, s8 _ _ b1, small1000 (by rw [List.length_map, List.length_take]; omega), ?_, fun b o e => ?_⟩
        · rw [upd_same, List.take_succ, List.getElem?_map, List.getElem?_eq_getElem hj, List.map_append]
          rfl
        · rw [upd_ne (ne_of_none e hD2)]
          exact s8 _ _ (S6 _ _ e)
      · rintro H6 ⟨b1, S6⟩
        rw [List.length_map, List.take_of_length_le (by rw [List.length_map]; omega)] at b1
        have B6 := B.same S6
        obtain ⟨acc, c1, c2, c3⟩ := B6.push b1 (fun r hr => by
          have := fts.2 r (List.mem_of_mem_take hr)
          intro z
          rw [z] at this
          cases this) (fun z => by have := congrArg List.length z; rw [List.length_map, nl] at this; cases this) (by rw [List.length_take]; omega)
        refine ⟨acc, c1, c2, ?_, fun b o e => ?_⟩
        · rw [List.take_succ, er]
          exact c3
        · rw [upd_ne (ne_of_none e hD)]
          exact S6 _ _ (S4 _ _ e)
    · rintro H4 ⟨B, S4⟩
      rw [List.length_map, nl, List.take_of_length_le (by omega)] at B
      have S5 := same_tr S3 S4
      refine ⟨_, rfl, lp, rfl, ⟨_, SqL.of (S4 _ _ e3)⟩, ?_⟩
      refine for_it (walk_list (xs := (nodesI n).map V.int)) (fun i σ' H' => ∃ (tb : Addr) (v4 v5 v6 v7 v8 : Option V), σ' = [some (.int n), some (.ref t), some (.ref lp), some (.ref tb), v4, v5, v6, v7, v8] ∧ H tb = none ∧ TabAt H' tb (((nodesI n).take i).foldl fwStep (firstTab n es)) ∧ Same H4 H')
        ⟨D, _, _, _, _, _, rfl, none_back S3 hD, B, same_rfl⟩ (fun i σ' H' _ h => by obtain ⟨_, _, _, _, _, _, _, _, _, z⟩ := h; exact SqL.of (z _ _ (S4 _ _ e3))) ?_ ?_
      · rintro i x σ' H5 H6 hi ⟨tb, v4, v5, v6, v7, v8, rfl, htb, B5, S6⟩ ⟨rfl, hx⟩
        rw [List.length_map] at hi
        rw [List.getElem?_map, List.getElem?_eq_getElem hi] at hx
        cases hx
        have am : (nodesI n)[i] ∈ nodesI n := List.getElem_mem hi
        have et : ((nodesI n).take (i + 1)).foldl fwStep (firstTab n es) = fwStep (((nodesI n).take i).foldl fwStep (firstTab n es)) (nodesI n)[i] := by
          rw [List.take_succ, List.getElem?_eq_getElem hi, Option.toList_some, List.foldl_append]
          rfl
        have sq := fold_sqr ((nodesI n).take i) fts fun k hk => nodesI_mem (List.mem_of_mem_take hk)
        obtain ⟨k1, k2⟩ := nodesI_mem am
        generalize (nodesI n)[i] = kk at am et k1 k2
        generalize ((nodesI n).take i).foldl fwStep (firstTab n es) = M at B5 et sq
        obtain ⟨ts, b1, b2, b3⟩ := id B5
        obtain ⟨O, o1, o2, o3⟩ := atI_some sq.1 k1 k2
        obtain ⟨oA, p1, p2, p3⟩ := atI_some (b2.trans sq.1) k1 k2
        have hO := b3 _ _ _ p3 o3
        have aR : atI (ts.map V.ref) kk = some (.ref oA) := by rw [atI_map, p1]; rfl
        refine ⟨_, rfl, _, rfl, tb, _, kk, _, rfl, rfl, SqL.of b1, aR, ?_⟩
        refine ⟨_, rfl, tb, rfl, ⟨_, SqL.of b1⟩, fun D2 hD2 => ?_⟩
        have fl : (fwStep M kk).length = n + 1 := (fwStep_sqr sq k1 k2).1
        refine lc_it (walk_list (xs := ts.map V.ref)) (fun j H' => TabAt H' D2 ((fwStep M kk).take j) ∧ Same H6 H') ⟨⟨[], upd_same, rfl, fun i t e z => by cases z⟩, same_new hD2⟩ (fun _ _ _ h => SqL.of (h.2 _ _ b1)) ?_ ?_
        · rintro j x H7 H8 hj ⟨B7, S8⟩ ⟨rfl, hx⟩
          rw [List.length_map] at hj
          rw [List.getElem?_map, List.getElem?_eq_getElem hj] at hx
          cases hx
          obtain ⟨R, hR⟩ : ∃ r, M[j]? = some r := ⟨_, List.getElem?_eq_getElem (by omega)⟩
          have rm := List.mem_of_getElem? hR
          have rl := sq.2 R rm
          have hr8 := S8 _ _ (b3 j _ R (List.getElem?_eq_getElem hj) hR)
          obtain ⟨st, u1, u2, u3⟩ := atI_some rl k1 k2
          have aS : atI (R.map V.int) kk = some (.int st) := by rw [atI_map, u1]; rfl
          have el : (fwStep M kk)[j]? = some (sumsBy R st O) := by
            unfold fwStep
            rw [List.getElem?_map, hR, o1]
            show some (sumsBy R ((atI R kk).getD 0) O) = _
            rw [u1]
            rfl
          have ol := sq.2 O o2
          refine ⟨rfl, _, rfl, _, rfl, _, rfl, _, _, kk, _, rfl, rfl, SqL.of hr8, aS, _, rfl, ts[j], oA, st, R, O, rfl, hr8, S8 _ _ hO, by omega, by omega, fun q H9 hq s9 e9 => ?_⟩
          have B9 := B7.same s9
          obtain ⟨acc, c1, c2, c3⟩ := B9.push e9 (fun r hr => by
            have := (fwStep_sqr sq k1 k2).2 r (List.mem_of_mem_take hr)
            intro z
            rw [z] at this
            cases this) (fun z => by have := congrArg List.length z; rw [sumsBy_len _ _ _ (by omega), rl] at this; cases this) (by rw [List.length_take]; omega)
          refine ⟨acc, c1, c2, ?_, fun b o e => ?_⟩
          · rw [List.take_succ, el]
            exact c3
          · rw [upd_ne (ne_of_none e hD2)]
            exact s9 _ _ (S8 _ _ e)
        · rintro H7 ⟨B7, S8⟩
          rw [List.length_map, b2, sq.1, List.take_of_length_le (by omega)] at B7
          exact ⟨D2, _, _, _, _, _, rfl, none_back (same_tr S5 S6) hD2, by rw [et]; exact B7, same_tr S6 S8⟩
      · rintro σ' H5 ⟨tb, v4, v5, v6, v7, v8, rfl, htb, B5, S6⟩
        rw [List.length_map, nl, List.take_of_length_le (by omega)] at B5
        exact ⟨_, rfl, k tb H5 htb (same_tr S5 S6) B5⟩
end
end Law

/-! What is checked of walls and links. -/
namespace Law
open PySem PySem.Spec PyProof.Rows L2 Sup
abbrev sCro : Stmt := top 19
abbrev sCnu : Stmt := top 20
abbrev sCli : Stmt := top 21
/-- an error that is due -/
inductive Due where
  | name (y : Str) | taken (y : Str) | num (x : Int) | many (n : Int) | place (x : Int)
  deriving DecidableEq
/-- the way out by it, from any heap of which S is true -/
def DueX (C : Errs) (E : XK) (S : Hp → Prop) : Due → Prop
  | .name y => ∀ (H' : Hp) (d : Addr), S H' → H' d = none → E (.ref C.N) (some d) (upd H' d (.xd [("name", .str y)]))
  | .taken y => ∀ (H' : Hp) (d : Addr), S H' → H' d = none → E (.ref C.T) (some d) (upd H' d (.xd [("name", .str y)]))
  | .num x => ∀ (H' : Hp) (d : Addr), S H' → H' d = none → E (.ref C.B) (some d) (upd H' d (.xd [("value", .int x)]))
  | .many x => ∀ (H' : Hp) (d : Addr), S H' → H' d = none → E (.ref C.M) (some d) (upd H' d (.xd [("count", .int x)]))
  | .place x => ∀ (H' : Hp) (d : Addr), S H' → H' d = none → E (.ref C.P) (some d) (upd H' d (.xd [("place", .int x)]))
theorem DueX.mono {C : Errs} {E : XK} {S S' : Hp → Prop} {b : Due} (h : DueX C E S b) (k : ∀ H', S' H' → S H') : DueX C E S' b := by
  cases b <;> exact fun H' d s hd => h H' d (k H' s) hd
def numDue (top slope : Int) (spans : List Int) : Option Int := if top < 0 then some top else if slope < 0 then some slope else spans.find? fun x => decide (x < 1)
def rowsDue : List Str → List Wal → Option Due
  | _, [] => none
  | acc, w :: r => if badN w.1 = true then some (.name w.1) else if acc.contains w.1 = true then some (.taken w.1) else match numDue w.2.1 w.2.2.1 w.2.2.2 with
    | some x => some (.num x)
    | none => rowsDue (acc ++ [w.1]) r
def linkDue (size : Int) (l : Lnk) : Option Int := if ¬ (0 ≤ l.1 ∧ l.1 < size) then some l.1 else if ¬ (0 ≤ l.2.1 ∧ l.2.1 < size) ∨ l.2.1 = l.1 then some l.2.1 else none
def linksDue (size : Int) (ls : List Lnk) : Option Int := ls.findSome? (linkDue size)
/-- walls that errors may tell -/
def WFit (w : Wal) : Prop := Fit w.1 ∧ Sz w.2.1 ∧ Sz w.2.2.1 ∧ ∀ x ∈ w.2.2.2, Sz x
def LFit (l : Lnk) : Prop := Sz l.1 ∧ Sz l.2.1
structure CkTxt (mg : Str → Option Value) (fCk fCn fCu : Addr) : Prop where
  chk : mg "check_not_negative" = some (.ref fCk)
  ckn : mg "check_name" = some (.ref fCn)
  cnu : mg "_check_numbers" = some (.ref fCu)
def spCnu (K : PySem.W.Frag) (C : Errs) : Sp := fun vs H Q E => ∃ (top slope : Int) (sp : Addr) (spans : List Int), vs = [.int top, .int slope, .ref sp] ∧ SqT K H sp (spans.map V.int) ∧ Sz top ∧ Sz slope ∧ (∀ x ∈ spans, Sz x) ∧
  (∀ x, numDue top slope spans = some x → DueX C E (Same H) (.num x)) ∧ (numDue top slope spans = none → Q .non H)
def spCro (K : PySem.W.Frag) (C : Errs) : Sp := fun vs H Q E => ∃ (p : Addr) (ws : List Wal), vs = [.ref p] ∧ WalsAt K H p ws ∧ ws.length ≤ 400 ∧ (∀ w ∈ ws, WFit w) ∧
  (∀ b, rowsDue [] ws = some b → DueX C E (Same H) b) ∧ (rowsDue [] ws = none → ∀ H', Same H H' → Q .non H')
def spCli (K : PySem.W.Frag) (C : Errs) : Sp := fun vs H Q E => ∃ (p : Addr) (ls : List Lnk) (size : Int), vs = [.ref p, .int size] ∧ LnksAt K H p ls ∧ (∀ l ∈ ls, LFit l) ∧
  (∀ x, linksDue size ls = some x → DueX C E (Same H) (.place x)) ∧ (linksDue size ls = none → Q .non H)
theorem Sz.ok {x : Int} (h : Sz x) : okInt (.int x) := ⟨x, rfl, log_of (by decide) (Nat.lt_of_lt_of_le h (Nat.pow_le_pow_right (by decide) (by decide)))⟩
section
variable {P : Program} {w : World} {K : PySem.W.Frag} {mg : Str → Option Value} {base : Heap} {C : Errs} {fCk fCn fCu : Addr}
theorem scCnu : FnScope ["top", "slope", "spans", "span"] ["top", "slope", "spans"] (defScope sCnu) := ⟨rfl, rfl, rfl, by decide +kernel, rfl, by decide +kernel, by decide +kernel⟩
theorem scCro : FnScope ["rows", "taken", "name", "top", "slope", "spans"] ["rows"] (defScope sCro) := ⟨rfl, rfl, rfl, by decide +kernel, rfl, by decide +kernel, by decide +kernel⟩
theorem scCli : FnScope ["links", "size", "first", "second", "_"] ["links", "size"] (defScope sCli) := ⟨rfl, rfl, rfl, by decide +kernel, rfl, by decide +kernel, by decide +kernel⟩
set_option maxHeartbeats 0 in
theorem ok_cnu {f : Addr} {fd fdCk : FuncData} (F : Fun K "_check_numbers" "_check_numbers" sCnu f fd) (RB : ErrOk P w K mg base "BadNumber" C.B "value" okInt) (FCk : Fun K "check_not_negative" "check_not_negative" sChk fCk fdCk) (bCk : Binds K fdCk ["number"] []) (T : CkTxt mg fCk fCn fCu) :
    FnOk P w K mg base (L2.CX P w) 5 f fd ["top", "slope", "spans"] (spCnu K C) := by
  have GCk : FnOk P w K mg base (L2.CX P w) 4 fCk fdCk ["number"] (spChk C.B) := ok_chk FCk RB
  refine F.okX scCnu (fun vs H Q E h => ?_) (fun cdv A outer s H vs Q E hr h => ?_)
  · obtain ⟨a, b, sp, spans, rfl, _⟩ := h
    rfl
  · obtain ⟨a, b, sp, spans, rfl, hsp, za, zb, zs, h1, h2⟩ := h
    have hr3 : Room 3 _ := hr.mono (by decide)
    have hrc : Room 4 _ := hr
    refine ⟨_, (pss_cons (ps_expr (pe_call (E := E) GCk hrc rfl T.chk FCk.kp bCk .nil (passes_call (takes_of rfl rfl rfl rfl) fun _ _ _ _ z => z) (pa_cons (pv 0) pa_nil)))
      (pss_cons (ps_expr (pe_call (E := E) GCk hrc rfl T.chk FCk.kp bCk .nil (passes_call (takes_of rfl rfl rfl rfl) fun _ _ _ _ z => z) (pa_cons (pv 1) pa_nil)))
      (pss_one (ps_for (passes_of rfl) rfl (pi_tup (pv 2)) (pg_name (i := 3) scCnu.nd rfl (Or.inl rfl)) (pss_one (ps_if (pt_cmpR op_lt (pv 3) pe_int (nomark _)) (pss_one (ps_err RB rfl (takes_of rfl rfl rfl rfl) hr3 (pa_cons (pv 3) pa_nil) rfl)) pss_nil)))))), ?_⟩
    refine ⟨_, rfl, a, rfl, za.t, fun c d hd => h1 a (by unfold numDue; rw [if_pos c]) H d same_rfl hd, fun ca => ?_⟩
    refine ⟨_, rfl, b, rfl, zb.t, fun c d hd => h1 b (by unfold numDue; rw [if_neg (by omega), if_pos c]) H d same_rfl hd, fun cb => ?_⟩
    have en : numDue a b spans = spans.find? fun x => decide (x < 1) := by unfold numDue; rw [if_neg (by omega), if_neg (by omega)]
    rw [en] at h1 h2
    refine ⟨_, rfl, sp, rfl, ⟨_, hsp⟩, ?_⟩
    refine for_it (walk_tup (xs := spans.map V.int)) (fun i σ' H' => (∃ v : Option V, σ' = [some (.int a), some (.int b), some (.ref sp), v]) ∧ H' = H ∧ (spans.take i).find? (fun x => decide (x < 1)) = none) ⟨⟨_, rfl⟩, rfl, rfl⟩ (fun _ _ _ _ h => by rw [h.2.1]; exact hsp) ?_ ?_
    · rintro i x σ' H1 H2 hi ⟨⟨v, rfl⟩, rfl, a1⟩ ⟨rfl, hx⟩
      rw [List.length_map] at hi
      rw [List.getElem?_map, List.getElem?_eq_getElem hi] at hx
      cases hx
      refine ⟨_, rfl, _, _, rfl, rfl, _, rfl, ?_⟩
      by_cases c : spans[i] < 1
      · refine if_t (decide_eq_true c) ⟨_, rfl, ?_⟩
        have e : spans.find? (fun x => decide (x < 1)) = some spans[i] := by
          conv => lhs; rw [← List.take_append_drop i spans]
          rw [List.find?_append, a1, Option.none_or, List.drop_eq_getElem_cons hi, List.find?_cons]
          simp [c]
        exact err_way (zs _ (List.getElem_mem hi)).ok fun d hd => h1 _ e _ d same_rfl hd
      · refine if_f (decide_eq_false c) ⟨⟨_, rfl⟩, rfl, ?_⟩
        rw [List.take_succ, List.getElem?_eq_getElem hi, List.find?_append, a1, Option.none_or]
        simp [c]
    · rintro σ' H1 ⟨⟨v, rfl⟩, rfl, a1⟩
      rw [List.length_map, List.take_length] at a1
      exact h2 a1
set_option maxHeartbeats 0 in
theorem ok_cro {f : Addr} {fd fdCk fdCn fdCu : FuncData} (F : Fun K "_check_rows" "_check_rows" sCro f fd) (RN : ErrOk P w K mg base "BadName" C.N "name" okTxt) (RT : ErrOk P w K mg base "TakenName" C.T "name" okTxt) (RB : ErrOk P w K mg base "BadNumber" C.B "value" okInt)
    (FCk : Fun K "check_not_negative" "check_not_negative" sChk fCk fdCk) (bCk : Binds K fdCk ["number"] []) (FCn : Fun K "check_name" "check_name" sCkn fCn fdCn) (bCn : Binds K fdCn ["name"] []) (FCu : Fun K "_check_numbers" "_check_numbers" sCnu fCu fdCu) (bCu : Binds K fdCu ["top", "slope", "spans"] [])
    (T : CkTxt mg fCk fCn fCu) (TN : NameTxt K mg) : FnOk P w K mg base (L2.CX P w) 6 f fd ["rows"] (spCro K C) := by
  have GCn : FnOk P w K mg base (L2.CX P w) 4 fCn fdCn ["name"] (spCkn C) := ok_ckn FCn RN TN
  have GCu : FnOk P w K mg base (L2.CX P w) 5 fCu fdCu ["top", "slope", "spans"] (spCnu K C) := ok_cnu FCu RB FCk bCk T
  refine F.okX scCro (fun vs H Q E h => ?_) (fun cdv A outer s H vs Q E hr h => ?_)
  · obtain ⟨p, ws, rfl, _⟩ := h
    rfl
  · obtain ⟨p, ws, rfl, hW, l4, hF, h1, h2⟩ := h
    have hr3 : Room 3 _ := hr.mono (by decide)
    have hrc : Room 5 _ := hr
    have hr4 : Room 4 _ := hr.mono (by decide)
    refine ⟨_, (pss_cons (ps_set (i := 1) scCro.nd rfl (Or.inl rfl) pe_dnewK)
      (pss_one (ps_for (passes_of rfl) rfl (pi_list (pv 0)) (pg_tup (by rfl) (pgs_cons (pg_name (i := 2) scCro.nd rfl (Or.inl rfl)) (pgs_cons (pg_name (i := 3) scCro.nd rfl (Or.inl rfl)) (pgs_cons (pg_name (i := 4) scCro.nd rfl (Or.inl rfl)) (pgs_cons (pg_name (i := 5) scCro.nd rfl (Or.inl rfl)) pgs_nil))))) (pss_cons (ps_expr (pe_call (E := E) GCn hr4 rfl T.ckn FCn.kp bCn .nil (passes_call (takes_of rfl rfl rfl rfl) fun _ _ _ _ z => z) (pa_cons (pv 2) pa_nil)))
      (pss_cons (ps_if (pt_cmp (pc_din (hu_of hr) (pv 2) (pv 1))) (pss_one (ps_err RT rfl (takes_of rfl rfl rfl rfl) hr3 (pa_cons (pv 2) pa_nil) rfl)) pss_nil)
      (pss_cons (ps_dput (hu_of hr) (pv 1) (pv 2) pe_bl rfl)
      (pss_one (ps_expr (pe_call (E := E) GCu hrc rfl T.cnu FCu.kp bCu .nil (passes_call (takes_of rfl rfl rfl rfl) fun _ _ _ _ z => z) (pa_cons (pv 3) (pa_cons (pv 4) (pa_cons (pv 5) pa_nil)))))))))))), ?_⟩
    refine fun D hD => ?_
    obtain ⟨ts, t1, t2, t3⟩ := id hW
    have S0 := same_new (o := .dK []) hD
    refine ⟨_, rfl, p, rfl, ⟨_, SqL.of (S0 _ _ t1)⟩, ?_⟩
    refine for_it (walk_list (xs := ts.map V.ref)) (fun i σ' H' => (∃ v2 v3 v4 v5 : Option V, σ' = [some (.ref p), some (.ref D), v2, v3, v4, v5]) ∧ (∃ kv : List (Key × V), H' D = some (.dK kv) ∧ kv.length ≤ i ∧ ∀ y : Str, (valV kv (.inr y)).isSome = ((ws.take i).map (·.1)).contains y) ∧ rowsDue ((ws.take i).map (·.1)) (ws.drop i) = rowsDue [] ws ∧ Same H H')
      ⟨⟨_, _, _, _, rfl⟩, ⟨[], upd_same, Nat.le_refl _, fun y => rfl⟩, rfl, S0⟩ (fun _ _ _ _ h => SqL.of (h.2.2.2 _ _ t1)) ?_ ?_
    · rintro i x σ' H1 H2 hi ⟨⟨v2, v3, v4, v5, rfl⟩, ⟨kv, d1, d2, d3⟩, a1, S1⟩ ⟨rfl, hx⟩
      rw [List.length_map] at hi
      rw [List.getElem?_map, List.getElem?_eq_getElem hi] at hx
      cases hx
      obtain ⟨⟨y, top, slope, spans⟩, hw⟩ : ∃ w, ws[i]? = some w := ⟨_, List.getElem?_eq_getElem (by omega)⟩
      obtain ⟨sp, z1, z2⟩ := (t3 i _ _ (List.getElem?_eq_getElem hi) hw).same S1
      obtain ⟨fy, f1, f2, f3⟩ := hF _ (List.mem_of_getElem? hw)
      have hiw : i < ws.length := by omega
      have ed : ws.drop i = (y, top, slope, spans) :: ws.drop (i + 1) := by
        rw [List.drop_eq_getElem_cons hiw]
        rw [List.getElem?_eq_getElem hiw] at hw
        rw [Option.some.inj hw]
      rw [ed] at a1
      refine ⟨_, _, rfl, SqT.of z1, rfl, _, _, rfl, _, _, rfl, _, _, rfl, _, _, rfl, rfl, ?_⟩
      refine ⟨_, rfl, y, rfl, fy, fun hb H' d s hd => h1 (.name y) (by rw [← a1]; unfold rowsDue; rw [if_pos hb]) H' d (same_tr S1 s) hd, fun hb => ?_⟩
      have hb' : ¬ badN y = true := by rw [hb]; decide
      refine ⟨_, rfl, _, rfl, D, _, rfl, DGet.k (k := .inr y) d1, _, rfl, ?_⟩
      rw [d3]
      by_cases c : ((ws.take i).map (·.1)).contains y = true
      · refine if_t c ⟨_, rfl, ?_⟩
        exact err_way fy.ok fun d hd => h1 (.taken y) (by rw [← a1]; unfold rowsDue; rw [if_neg hb', if_pos c]) _ d S1 hd
      · refine if_f (by simpa using c) ?_
        refine ⟨_, rfl, _, rfl, D, _, rfl, DPut.k (k := .inr y) d1 (small1000 (by omega)), ?_⟩
        have S2 : Same H (upd H2 D (.dK (putK kv (.inr y) (.bl true)))) := fun b o e => (upd_ne (ne_of_none e hD)).trans (S1 _ _ e)
        have nsD : SqT K (upd H2 D (.dK (putK kv (.inr y) (.bl true)))) sp (spans.map V.int) := by
          obtain ⟨sp', y1, y2⟩ := t3 i _ _ (List.getElem?_eq_getElem hi) hw
          have e' := S1 _ _ y1
          rw [z1] at e'
          cases e'
          exact sqT_same y2 S2
        refine ⟨_, rfl, _, rfl, _, rfl, top, slope, sp, spans, rfl, nsD, f1, f2, f3, fun x hx H' d s hd => h1 (.num x) (by rw [← a1]; unfold rowsDue; rw [if_neg hb', if_neg c, hx]) H' d (same_tr S2 s) hd, fun hn => ?_⟩
        have et : (ws.take (i + 1)).map (·.1) = (ws.take i).map (·.1) ++ [y] := by
          rw [List.take_succ, hw, List.map_append]
          rfl
        refine ⟨⟨_, _, _, _, rfl⟩, ⟨_, upd_same, Nat.le_trans (putLen _ _ _) (by omega), fun u => ?_⟩, ?_, S2⟩
        · show (valV (putK kv (.inr y) (.bl true)) (.inr u)).isSome = _
          rw [valV_put, et]
          by_cases e : u = y
          · subst e
            rw [if_pos rfl]
            simp
          · rw [if_neg fun z => e (Sum.inr.inj z), d3]
            simp [e]
        · rw [et, ← a1]
          conv => rhs; unfold rowsDue
          rw [if_neg hb', if_neg c]
          show _ = match numDue top slope spans with | some x => _ | none => _
          rw [hn]
    · rintro σ' H1 ⟨⟨v2, v3, v4, v5, rfl⟩, _, a1, S1⟩
      rw [List.length_map, t2, List.drop_length] at a1
      exact h2 a1.symm H1 S1
set_option maxHeartbeats 0 in
theorem ok_cli {f : Addr} {fd : FuncData} (F : Fun K "_check_links" "_check_links" sCli f fd) (RP : ErrOk P w K mg base "NoPlace" C.P "place" okInt) : FnOk P w K mg base (L2.CX P w) 4 f fd ["links", "size"] (spCli K C) := by
  refine F.okX scCli (fun vs H Q E h => ?_) (fun cdv A outer s H vs Q E hr h => ?_)
  · obtain ⟨p, ls, size, rfl, _⟩ := h
    rfl
  · obtain ⟨p, ls, size, rfl, hL, hF, h1, h2⟩ := h
    have hr3 : Room 3 _ := hr
    refine ⟨_, (pss_one (ps_for (passes_of rfl) rfl (pi_list (pv 0)) (pg_tup (by rfl) (pgs_cons (pg_name (i := 2) scCli.nd rfl (Or.inl rfl)) (pgs_cons (pg_name (i := 3) scCli.nd rfl (Or.inl rfl)) (pgs_cons (pg_name (i := 4) scCli.nd rfl (Or.inl rfl)) (pgs_cons (pg_name (i := 4) scCli.nd rfl (Or.inl rfl)) pgs_nil))))) (pss_cons (ps_if (pt_not (pt_chain op_le op_lt pe_int (pv 2) (pv 1))) (pss_one (ps_err RP rfl (takes_of rfl rfl rfl rfl) hr3 (pa_cons (pv 2) pa_nil) rfl)) pss_nil)
      (pss_one (ps_if (PW.pt (pw_or (pt_not (pt_chain op_le op_lt pe_int (pv 3) (pv 1))) (pw_or1 (pt_cmpR op_eq (pv 3) (pv 2) (nomark _))))) (pss_one (ps_err RP rfl (takes_of rfl rfl rfl rfl) hr3 (pa_cons (pv 3) pa_nil) rfl)) pss_nil))))), ?_⟩
    obtain ⟨ts, t1, t2, t3⟩ := id hL
    refine ⟨_, rfl, p, rfl, ⟨_, SqL.of t1⟩, ?_⟩
    refine for_it (walk_list (xs := ts.map V.ref)) (fun i σ' H' => (∃ v2 v3 v4 : Option V, σ' = [some (.ref p), some (.int size), v2, v3, v4]) ∧ H' = H ∧ linksDue size (ls.take i) = none) ⟨⟨_, _, _, rfl⟩, rfl, rfl⟩ (fun _ _ _ _ h => by rw [h.2.1]; exact SqL.of t1) ?_ ?_
    · rintro i x σ' H1 H2 hi ⟨⟨v2, v3, v4, rfl⟩, rfl, a1⟩ ⟨rfl, hx⟩
      rw [List.length_map] at hi
      rw [List.getElem?_map, List.getElem?_eq_getElem hi] at hx
      cases hx
      obtain ⟨⟨u, v, le, mo⟩, hl⟩ : ∃ l, ls[i]? = some l := ⟨_, List.getElem?_eq_getElem (by omega)⟩
      have z := t3 i _ _ (List.getElem?_eq_getElem hi) hl
      obtain ⟨f1, f2⟩ := hF _ (List.mem_of_getElem? hl)
      have hil : i < ls.length := by omega
      have ed : linksDue size ls = (linkDue size (u, v, le, mo)).or (linksDue size (ls.drop (i + 1))) := by
        conv => lhs; rw [← List.take_append_drop i ls]
        unfold linksDue at a1 ⊢
        rw [List.findSome?_append, a1, Option.none_or, List.drop_eq_getElem_cons hil, List.findSome?_cons]
        rw [List.getElem?_eq_getElem hil] at hl
        rw [Option.some.inj hl]
        cases linkDue size (u, v, le, mo) <;> rfl
      refine ⟨_, _, rfl, z, rfl, _, _, rfl, _, _, rfl, _, _, rfl, _, _, rfl, rfl, ?_⟩
      have er : ∀ {x}, Sz x → linkDue size (u, v, le, mo) = some x → okInt (.int x) ∧ ∀ d, H2 d = none → E (.ref C.P) (some d) (upd H2 d (.xd [("place", .int x)])) := fun {x} hx e => ⟨hx.ok, fun d hd => h1 x (by rw [ed, e]; rfl) _ d same_rfl hd⟩
      refine ⟨_, rfl, _, _, rfl, rfl, _, rfl, ?_⟩
      by_cases c0 : 0 ≤ u
      · refine if_t (decide_eq_true c0) ⟨_, rfl, _, _, rfl, rfl, _, rfl, ?_⟩
        by_cases c1 : u < size
        · refine if_f (by rw [decide_eq_true c1]; rfl) ?_
          have cu : ¬ ¬ (0 ≤ u ∧ u < size) := fun z => z ⟨c0, c1⟩
          have ev : ∀ {x}, x = v → (¬ (0 ≤ v ∧ v < size) ∨ v = u) → linkDue size (u, v, le, mo) = some x := fun {x} e z => by
            unfold linkDue
            rw [if_neg cu, if_pos z, e]
          refine ⟨_, rfl, _, _, rfl, rfl, _, rfl, ?_⟩
          by_cases d0 : 0 ≤ v
          · refine if_t (decide_eq_true d0) ⟨_, rfl, _, _, rfl, rfl, _, rfl, ?_⟩
            by_cases d1 : v < size
            · refine if_f (by rw [decide_eq_true d1]; rfl) ⟨_, rfl, _, rfl, rfl, _, rfl, ?_⟩
              by_cases d2 : v = u
              · refine if_t (by simp [d2]) ⟨_, rfl, ?_⟩
                obtain ⟨y1, y2⟩ := er f2 (ev rfl (.inr d2))
                exact err_way y1 y2
              · refine if_f (by simp [d2]) ⟨⟨_, _, _, rfl⟩, rfl, ?_⟩
                unfold linksDue at a1 ⊢
                rw [List.take_succ, hl, List.findSome?_append, a1, Option.none_or, Option.toList_some, List.findSome?_cons]
                unfold linkDue
                rw [if_neg cu, if_neg (show ¬ (¬ (0 ≤ v ∧ v < size) ∨ v = u) by omega)]
                rfl
            · refine if_t (by rw [decide_eq_false d1]; rfl) ?_
              refine if_t rfl ⟨_, rfl, ?_⟩
              obtain ⟨y1, y2⟩ := er f2 (ev rfl (.inl fun z => d1 z.2))
              exact err_way y1 y2
          · refine if_f (decide_eq_false d0) ⟨_, rfl, ?_⟩
            refine if_t rfl ?_
            refine if_t rfl ⟨_, rfl, ?_⟩
            obtain ⟨y1, y2⟩ := er f2 (ev rfl (.inl fun z => d0 z.1))
            exact err_way y1 y2
        · refine if_t (by rw [decide_eq_false c1]; rfl) ⟨_, rfl, ?_⟩
          obtain ⟨y1, y2⟩ := er f1 (by unfold linkDue; rw [if_pos (fun z => c1 z.2)])
          exact err_way y1 y2
      · refine if_f (decide_eq_false c0) ⟨_, rfl, ?_⟩
        refine if_t rfl ⟨_, rfl, ?_⟩
        obtain ⟨y1, y2⟩ := er f1 (by unfold linkDue; rw [if_pos (fun z => c0 z.1)])
        exact err_way y1 y2
    · rintro σ' H1 ⟨⟨v2, v3, v4, rfl⟩, rfl, a1⟩
      rw [List.length_map, t2, List.take_length] at a1
      exact h2 a1
end
end Law

/-! What is told: of the limits, one for each pair of nodes. -/
namespace Law
open PySem PySem.Spec PyProof.Rows L2 Sup
theorem putE_sub {x e : Edge} {es : List Edge} (h : x ∈ putE es e) : x ∈ es ∨ x = e := by
  unfold putE at h
  split at h
  · obtain ⟨y, hy, rfl⟩ := List.mem_map.mp h
    by_cases c : likeE e y = true
    · rw [if_pos c]
      exact .inr rfl
    · rw [if_neg c]
      exact .inl hy
  · rcases List.mem_append.mp h with h | h
    · exact .inl h
    · exact .inr (List.mem_singleton.mp h)
theorem tell_sub {x e : Edge} {es : List Edge} (h : x ∈ tell es e) : x ∈ es ∨ x = e := by
  unfold tell at h
  split at h
  · exact putE_sub h
  · split at h
    · exact putE_sub h
    · exact .inl h
theorem fold_sub : ∀ (fs es : List Edge) {x : Edge}, x ∈ fs.foldl tell es → x ∈ es ∨ x ∈ fs
  | [], es, x, h => .inl h
  | f :: fs, es, x, h => by
    rcases fold_sub fs (tell es f) h with h | h
    · rcases tell_sub h with h | h
      · exact .inl h
      · exact .inr (h ▸ List.mem_cons_self)
    · exact .inr (List.mem_cons_of_mem _ h)
theorem told_sub {ws : List Wal} {ls : List Lnk} {x : Edge} (h : x ∈ toldOf ws ls) : x ∈ limsOf ws ls := by
  rcases fold_sub _ _ h with h | h
  · cases h
  · exact h
def hasE (es : List Edge) (e : Edge) : Bool := es.any (likeE e)
theorem hasE_find (es : List Edge) (e : Edge) : hasE es e = (es.find? (likeE e)).isSome := by
  unfold hasE
  induction es with
  | nil => rfl
  | cons x es ih =>
    rw [List.any_cons, List.find?_cons]
    cases likeE e x with
    | true => rfl
    | false => rw [Bool.false_or]; exact ih
theorem like_iff {e x : Edge} : likeE e x = true ↔ x.1 = e.1 ∧ x.2.1 = e.2.1 := by
  unfold likeE
  exact decide_eq_true_iff
theorem putE_has {es : List Edge} {e k : Edge} (h : hasE es k = true ∨ likeE k e = true) : hasE (putE es e) k = true := by
  unfold hasE at h ⊢
  unfold putE
  split
  · rename_i c
    rw [List.any_map]
    rcases h with h | h
    · obtain ⟨x, hx, q⟩ := List.any_eq_true.mp h
      refine List.any_eq_true.mpr ⟨x, hx, ?_⟩
      show likeE k (if likeE e x = true then e else x) = true
      by_cases c : likeE e x = true
      · rw [if_pos c]
        have a := like_iff.mp c
        have b := like_iff.mp q
        exact like_iff.mpr ⟨a.1.symm.trans b.1, a.2.symm.trans b.2⟩
      · rw [if_neg c]
        exact q
    · obtain ⟨x, hx, q⟩ := List.any_eq_true.mp c
      refine List.any_eq_true.mpr ⟨x, hx, ?_⟩
      show likeE k (if likeE e x = true then e else x) = true
      rw [if_pos q]
      exact h
  · rw [List.any_append]
    rcases h with h | h
    · rw [h, Bool.true_or]
    · simp [h]
theorem tell_has {es : List Edge} {e k : Edge} (h : hasE es k = true ∨ likeE k e = true) : hasE (tell es e) k = true := by
  unfold tell
  split
  · exact putE_has h
  · rename_i x hx
    split
    · exact putE_has h
    · rcases h with h | h
      · exact h
      · unfold hasE
        have a := like_iff.mp h
        have b := like_iff.mp (List.find?_some hx)
        exact List.any_eq_true.mpr ⟨x, List.mem_of_find?_eq_some hx, like_iff.mpr ⟨b.1.trans a.1, b.2.trans a.2⟩⟩
theorem fold_has : ∀ (fs es : List Edge) {k : Edge}, (hasE es k = true ∨ ∃ e ∈ fs, likeE k e = true) → hasE (fs.foldl tell es) k = true
  | [], es, k, h => by
    rcases h with h | ⟨e, he, _⟩
    · exact h
    · cases he
  | f :: fs, es, k, h => by
    refine fold_has fs (tell es f) ?_
    rcases h with h | ⟨e, he, q⟩
    · exact .inl (tell_has (.inl h))
    · rcases List.mem_cons.mp he with rfl | he
      · exact .inl (tell_has (.inr q))
      · exact .inr ⟨e, he, q⟩
theorem told_has {ws : List Wal} {ls : List Lnk} {k e : Edge} (h : e ∈ limsOf ws ls) (q : likeE k e = true) : (toldOf ws ls).find? (likeE k) ≠ none := by
  have z : hasE (toldOf ws ls) k = true := fold_has _ [] (.inr ⟨e, h, q⟩)
  rw [hasE_find] at z
  intro w
  rw [w] at z
  cases z
theorem ground_mem : ∀ (ts : List Int) (k : Int) {e : Edge}, e ∈ groundN k ts → ∃ (i : Nat) (t : Int), ts[i]? = some t ∧ (e = (-1, k + i, t) ∨ e = (k + i, -1, 0))
  | [], _, _, h => by cases h
  | t :: ts, k, e, h => by
    rcases List.mem_append.mp h with h | h
    · refine ⟨0, t, rfl, ?_⟩
      rw [show k + ((0 : Nat) : Int) = k by omega]
      rcases List.mem_cons.mp h with h | h
      · exact .inl h
      · exact .inr (List.mem_singleton.mp h)
    · obtain ⟨i, u, h1, h2⟩ := ground_mem ts (k + 1) h
      refine ⟨i + 1, u, h1, ?_⟩
      rw [show k + ((i + 1 : Nat) : Int) = k + 1 + i by omega]
      exact h2
theorem ground_in : ∀ (ts : List Int) (k : Int) (i : Nat) {t : Int}, ts[i]? = some t → ((-1 : Int), k + (i : Int), t) ∈ groundN k ts ∧ (k + (i : Int), (-1 : Int), (0 : Int)) ∈ groundN k ts
  | [], _, _, _, h => by cases h
  | x :: ts, k, 0, t, h => by
    cases h
    rw [show k + ((0 : Nat) : Int) = k by omega]
    exact ⟨List.mem_append_left _ List.mem_cons_self, List.mem_append_left _ (List.mem_cons_of_mem _ List.mem_cons_self)⟩
  | x :: ts, k, i + 1, t, h => by
    have z := ground_in ts (k + 1) i (t := t) h
    rw [show k + ((i + 1 : Nat) : Int) = k + 1 + i by omega]
    exact ⟨List.mem_append_right _ z.1, List.mem_append_right _ z.2⟩
theorem span_mem (sl : Int) : ∀ (xs : List Int) (p : Int) {e : Edge}, e ∈ spanN sl p xs → ∃ (i : Nat) (x : Int), xs[i]? = some x ∧ (e = (p + i, p + i + 1, sl * x) ∨ e = (p + i + 1, p + i, sl * x))
  | [], _, _, h => by cases h
  | t :: ts, k, e, h => by
    rcases List.mem_append.mp h with h | h
    · refine ⟨0, t, rfl, ?_⟩
      rw [show k + ((0 : Nat) : Int) = k by omega]
      rcases List.mem_cons.mp h with h | h
      · exact .inl h
      · exact .inr (List.mem_singleton.mp h)
    · obtain ⟨i, u, h1, h2⟩ := span_mem sl ts (k + 1) h
      refine ⟨i + 1, u, h1, ?_⟩
      rw [show k + ((i + 1 : Nat) : Int) = k + 1 + i by omega]
      exact h2
theorem slope_mem : ∀ (ws : List Wal) (p : Int) {e : Edge}, e ∈ slopeN p ws → ∃ (a : Int) (w : Wal) (x : Int), w ∈ ws ∧ x ∈ w.2.2.2 ∧ p ≤ a ∧ a + 1 < p + places ws ∧ (e = (a, a + 1, w.2.2.1 * x) ∨ e = (a + 1, a, w.2.2.1 * x))
  | [], _, _, h => by cases h
  | w :: ws, p, e, h => by
    have pl : ((places (w :: ws) : Nat) : Int) = (w.2.2.2.length : Int) + 1 + places ws := by
      show ((w.many + places ws : Nat) : Int) = _
      have : w.many = w.2.2.2.length + 1 := rfl
      omega
    have wm : ((w.many : Nat) : Int) = (w.2.2.2.length : Int) + 1 := rfl
    rcases List.mem_append.mp h with h | h
    · obtain ⟨i, x, h1, h2⟩ := span_mem _ _ _ h
      have hi := (List.getElem?_eq_some_iff.mp h1).1
      exact ⟨p + i, w, x, List.mem_cons_self, List.mem_of_getElem? h1, by omega, by omega, h2⟩
    · obtain ⟨a, w', x, h1, h2, h3, h4, h5⟩ := slope_mem ws (p + w.many) h
      exact ⟨a, w', x, List.mem_cons_of_mem _ h1, h2, by omega, by omega, h5⟩
theorem link_mem {ls : List Lnk} {e : Edge} (h : e ∈ ls.flatMap linkE) : ∃ l ∈ ls, e = (l.1, l.2.1, l.2.2.2) ∨ e = (l.2.1, l.1, -l.2.2.1) := by
  obtain ⟨l, hl, h⟩ := List.mem_flatMap.mp h
  refine ⟨l, hl, ?_⟩
  rcases List.mem_cons.mp h with h | h
  · exact .inl h
  · exact .inr (List.mem_singleton.mp h)
theorem links_ok {n : Int} {ls : List Lnk} (h : linksDue n ls = none) {l : Lnk} (hl : l ∈ ls) : (0 ≤ l.1 ∧ l.1 < n) ∧ (0 ≤ l.2.1 ∧ l.2.1 < n) ∧ l.2.1 ≠ l.1 := by
  unfold linksDue at h
  have z := List.findSome?_eq_none_iff.mp h l hl
  unfold linkDue at z
  split at z
  · cases z
  · split at z
    · cases z
    · rename_i h1 h2
      exact ⟨Classical.not_not.mp h1, Classical.not_not.mp fun w => h2 (.inl w), fun w => h2 (.inr w)⟩
theorem lims_cases {ws : List Wal} {ls : List Lnk} {e : Edge} (h : e ∈ limsOf ws ls) :
    (∃ (i : Nat) (t : Int), (topsOf ws)[i]? = some t ∧ (e = (-1, (i : Int), t) ∨ e = ((i : Int), -1, 0))) ∨
    (∃ (a : Int) (w : Wal) (x : Int), w ∈ ws ∧ x ∈ w.2.2.2 ∧ 0 ≤ a ∧ a + 1 < places ws ∧ (e = (a, a + 1, w.2.2.1 * x) ∨ e = (a + 1, a, w.2.2.1 * x))) ∨
    (∃ l ∈ ls, e = (l.1, l.2.1, l.2.2.2) ∨ e = (l.2.1, l.1, -l.2.2.1)) := by
  unfold limsOf at h
  rcases List.mem_append.mp h with h | h
  · rcases List.mem_append.mp h with h | h
    · obtain ⟨i, t, h1, h2⟩ := ground_mem _ _ h
      rw [Int.zero_add] at h2
      exact .inl ⟨i, t, h1, h2⟩
    · obtain ⟨a, w, x, h1, h2, h3, h4, h5⟩ := slope_mem _ _ h
      exact .inr (.inl ⟨a, w, x, h1, h2, h3, by omega, h5⟩)
  · exact .inr (.inr (link_mem h))
theorem tops_places (ws : List Wal) : (topsOf ws).length = places ws := (tops_len ws).trans (spots_places ws)
theorem told_nodes {ws : List Wal} {ls : List Lnk} (h : linksDue (places ws) ls = none) : inNodes (places ws) (toldOf ws ls) := fun e he => by
  have tp := tops_places ws
  rcases lims_cases (told_sub he) with ⟨i, t, h1, h2⟩ | ⟨a, w, x, _, _, h3, h4, h5⟩ | ⟨l, hl, h2⟩
  · have hi := (List.getElem?_eq_some_iff.mp h1).1
    rcases h2 with rfl | rfl
    · exact ⟨⟨by show (-1 : Int) ≤ -1; decide, by show (-1 : Int) < _; omega⟩, by show (-1 : Int) ≤ (i : Int); omega, by show (i : Int) < _; omega⟩
    · exact ⟨⟨by show (-1 : Int) ≤ (i : Int); omega, by show (i : Int) < _; omega⟩, by show (-1 : Int) ≤ -1; decide, by show (-1 : Int) < _; omega⟩
  · rcases h5 with rfl | rfl
    · exact ⟨⟨by show -1 ≤ a; omega, by show a < _; omega⟩, by show -1 ≤ a + 1; omega, by show a + 1 < _; omega⟩
    · exact ⟨⟨by show -1 ≤ a + 1; omega, by show a + 1 < _; omega⟩, by show -1 ≤ a; omega, by show a < _; omega⟩
  · obtain ⟨⟨a1, a2⟩, ⟨b1, b2⟩, _⟩ := links_ok h hl
    rcases h2 with rfl | rfl
    · exact ⟨⟨by show -1 ≤ l.1; omega, a2⟩, by show -1 ≤ l.2.1; omega, b2⟩
    · exact ⟨⟨by show -1 ≤ l.2.1; omega, b2⟩, by show -1 ≤ l.1; omega, a2⟩
theorem told_full (ws : List Wal) (ls : List Lnk) : Full (places ws) (toldOf ws ls) := fun a ha b hb hab hn => by
  have tp := tops_places ws
  obtain ⟨a1, a2⟩ := nodesI_mem ha
  obtain ⟨b1, b2⟩ := nodesI_mem hb
  have has : ∀ c : Int, 0 ≤ c → c < places ws → ((-1 : Int), c, (topsOf ws).getD c.toNat 0) ∈ limsOf ws ls ∧ (c, (-1 : Int), (0 : Int)) ∈ limsOf ws ls := fun c c0 c1 => by
    have hc : c.toNat < (topsOf ws).length := by omega
    have z := ground_in (topsOf ws) 0 c.toNat (List.getElem?_eq_getElem hc)
    rw [show (0 : Int) + (c.toNat : Int) = c by omega] at z
    unfold limsOf
    rw [List.getD_eq_getElem?_getD, List.getElem?_eq_getElem hc]
    exact ⟨List.mem_append_left _ (List.mem_append_left _ z.1), List.mem_append_left _ (List.mem_append_left _ z.2)⟩
  by_cases c : 0 ≤ b
  · exact told_has (has b c b2).1 (like_iff.mpr ⟨rfl, rfl⟩)
  · have eb : b = -1 := by omega
    subst eb
    exact absurd hn (told_has (has a (by omega) a2).2 (like_iff.mpr ⟨rfl, rfl⟩))
/-- a shape keeps every limit -/
def ShapeOf (pi : Int → Int) (ws : List Wal) (ls : List Lnk) : Prop := ∀ e ∈ limsOf ws ls, pi e.2.1 - pi e.1 ≤ e.2.2
end Law


/-! What is told is the least of the limits. -/
namespace Law
theorem like_tr {a b c : Edge} (h : likeE a b = true) (h' : likeE b c = true) : likeE a c = true := by
  have x := like_iff.mp h
  have y := like_iff.mp h'
  exact like_iff.mpr ⟨y.1.trans x.1, y.2.trans x.2⟩
theorem like_sy {a b : Edge} (h : likeE a b = true) : likeE b a = true := by
  have x := like_iff.mp h
  exact like_iff.mpr ⟨x.1.symm, x.2.symm⟩
theorem like_rf (a : Edge) : likeE a a = true := like_iff.mpr ⟨rfl, rfl⟩
/-- one limit for each pair -/
def UniqE (es : List Edge) : Prop := ∀ x ∈ es, ∀ y ∈ es, likeE x y = true → x = y
/-- one that is no greater stands there -/
def LessE (es : List Edge) (k : Edge) : Prop := ∃ x ∈ es, likeE k x = true ∧ x.2.2 ≤ k.2.2
theorem putE_uniq {es : List Edge} {e : Edge} (h : UniqE es) : UniqE (putE es e) := fun x hx y hy q => by
  unfold putE at hx hy
  split at hx
  · rename_i c
    rw [if_pos c] at hy
    obtain ⟨x0, hx0, rfl⟩ := List.mem_map.mp hx
    obtain ⟨y0, hy0, rfl⟩ := List.mem_map.mp hy
    by_cases cx : likeE e x0 = true
    · rw [if_pos cx] at q ⊢
      by_cases cy : likeE e y0 = true
      · rw [if_pos cy]
      · rw [if_neg cy] at q
        exact absurd q cy
    · rw [if_neg cx] at q ⊢
      by_cases cy : likeE e y0 = true
      · rw [if_pos cy] at q
        exact absurd (like_sy q) cx
      · rw [if_neg cy] at q ⊢
        exact h x0 hx0 y0 hy0 q
  · rename_i c
    rw [if_neg c] at hy
    have no : ∀ z ∈ es, ¬ likeE e z = true := fun z hz w => c (List.any_eq_true.mpr ⟨z, hz, w⟩)
    rcases List.mem_append.mp hx with hx1 | hx1
    · rcases List.mem_append.mp hy with hy | hy
      · exact h x hx1 y hy q
      · rw [List.mem_singleton] at hy
        subst hy
        exact absurd (like_sy q) (no x hx1)
    · rw [List.mem_singleton] at hx1
      subst hx1
      rcases List.mem_append.mp hy with hy | hy
      · exact absurd q (no y hy)
      · rw [List.mem_singleton] at hy
        exact hy.symm
theorem tell_uniq {es : List Edge} {e : Edge} (h : UniqE es) : UniqE (tell es e) := by
  unfold tell
  split
  · exact putE_uniq h
  · split
    · exact putE_uniq h
    · exact h
theorem putE_self (es : List Edge) (e : Edge) : e ∈ putE es e := by
  unfold putE
  split
  · rename_i c
    obtain ⟨x, hx, q⟩ := List.any_eq_true.mp c
    exact List.mem_map.mpr ⟨x, hx, if_pos q⟩
  · exact List.mem_append_right _ List.mem_cons_self
theorem tell_less {es : List Edge} {e k : Edge} (hu : UniqE es) (h : LessE es k ∨ k = e) : LessE (tell es e) k := by
  unfold tell
  split
  · rename_i hn
    rcases h with ⟨x, hx, h1, h2⟩ | rfl
    · refine ⟨x, ?_, h1, h2⟩
      unfold putE
      have : ¬ es.any (likeE e) = true := fun z => by
        have := hasE_find es e
        unfold hasE at this
        rw [z, hn] at this
        cases this
      rw [if_neg this]
      exact List.mem_append_left _ hx
    · exact ⟨_, putE_self _ _, like_rf _, Int.le_refl _⟩
  · rename_i x hx
    have hxm := List.mem_of_find?_eq_some hx
    have hxl := List.find?_some hx
    split
    · rename_i c
      rcases h with ⟨y, hy, h1, h2⟩ | rfl
      · by_cases ce : likeE e y = true
        · have : x = y := hu x hxm y hy (like_tr (like_sy hxl) ce)
          subst this
          exact ⟨e, putE_self _ _, like_tr h1 (like_sy ce), by omega⟩
        · refine ⟨y, ?_, h1, h2⟩
          unfold putE
          rw [if_pos (List.any_eq_true.mpr ⟨x, hxm, hxl⟩)]
          exact List.mem_map.mpr ⟨y, hy, if_neg ce⟩
      · exact ⟨_, putE_self _ _, like_rf _, Int.le_refl _⟩
    · rename_i c
      rcases h with h | rfl
      · exact h
      · exact ⟨x, hxm, hxl, by omega⟩
theorem fold_less : ∀ (fs es : List Edge) {k : Edge}, UniqE es → (LessE es k ∨ k ∈ fs) → LessE (fs.foldl tell es) k
  | [], _, _, _, h => h.elim id fun z => by cases z
  | f :: fs, es, k, hu, h => by
    refine fold_less fs (tell es f) (tell_uniq hu) ?_
    rcases h with h | h
    · exact .inl (tell_less hu (.inl h))
    · rcases List.mem_cons.mp h with rfl | h
      · exact .inl (tell_less hu (.inr rfl))
      · exact .inr h
theorem told_less {ws : List Wal} {ls : List Lnk} {e : Edge} (h : e ∈ limsOf ws ls) : LessE (toldOf ws ls) e := fold_less _ [] (fun x hx => by cases hx) (.inr h)
/-- a shape of what is told is a shape of all limits -/
theorem told_shape {pi : Int → Int} {ws : List Wal} {ls : List Lnk} (h : ∀ e ∈ toldOf ws ls, pi e.2.1 - pi e.1 ≤ e.2.2) : ShapeOf pi ws ls := fun e he => by
  obtain ⟨x, hx, h1, h2⟩ := told_less he
  have z := h x hx
  have y := like_iff.mp h1
  rw [y.1, y.2] at z
  omega
end Law

namespace Sup
open PySem PySem.Spec PyProof.Rows L2
/-! an own error with a list in its field, ready to be raised and caught -/
structure ErrOkL (P : Program) (w : World) (K : PySem.W.Frag) (mg : Str → Option Value) (base : Heap) (nm : Str) (C : Addr) (fl : Str) : Prop where
  oex : OexC K C
  xf : XfC K C
  g : mg nm = some (.ref C)
  no : PySem.W.findIn K (.ref C) fl = some none
  te : PySem.W.exmOne K (.ref C) (.ref C) = some true
  run : ∃ (f : Addr) (fd : FuncData), PySem.W.findIn K (.ref C) "__init__" = some (some (.ref f)) ∧ PySem.W.typeIn K (.ref f) = some (.type "function") ∧
    FnOk P w K mg base CX0 2 f fd ["self", fl] (spErrL C fl) ∧ Binds K fd ["self", fl] []
section
variable {X : Cx} {nm : Str} {C : Addr} {fl : Str} {e : Expr} {ta : TA} {p pos pos2 : Pos} {W : WX}
def tErrL (C : Addr) (fl : Str) (ta : TA) (W : WX) : TS := fun _ σ H => tMkO C (spErrL C fl) [] ta σ H fun cls d H' => W cls d σ H'
theorem ps_errL (R : ErrOkL X.prog X.w X.K X.mg X.base nm C fl) (hc : X.calm = true) (tk : Takes X W) (hr : Room 3 X.A) (ha : PA X [e] ta) (hg : Gl X nm)
    (hdb : (nm == ("__debug__" : Str)) = false := by decide) (he : starEach [e] X.env = (false, eval e X.env) :: starEach [] X.env := by rfl) (hpl : (backTo pos (starEach [] X.env)).any (·.1) = false := by rfl) :
    PS X (.Raise (some (.Call (.Name nm p) [e] [] pos)) none pos2) (tErrL C fl ta W) := by
  obtain ⟨f, fd, h1, h2, h3, h4⟩ := R.run
  exact ps_raise hc tk (pmk_oex R.oex h1 h2 h3 hr h4 .nil pass0 hg R.g ha hdb he hpl)
theorem err_wayL {H1 : Hp} {l : Addr} {xs : List V} {Q : XK} (hl : H1 l = some (.lst xs)) (h60 : xs.length ≤ 60) (hs : Shown H1 xs)
    (h : ∀ c d, H1 c = none → (upd H1 c (.lst xs)) d = none → Q (.ref C) (some d) (upd (upd H1 c (.lst xs)) d (.xd [(fl, .ref c)]))) :
    [V.ref l].length ≤ 1000 ∧ ∀ a, H1 a = none → spErrL C fl (.ref a :: ([V.ref l] ++ [])) (upd H1 a (exo a C none))
      (fun r H2 => r = .non ∧ ∃ (d : Addr) (fs : List (Str × V)), H2 a = some (exo a C (some d)) ∧ H2 d = some (exd d fs) ∧ H1 d = none ∧ Q (.ref C) (some d) (upd (del H2 a) d (.xd fs))) (fun _ _ _ => False) := by
  refine ⟨by show 1 ≤ 1000; omega, fun a hn => ⟨a, l, xs, rfl, upd_same, by rw [upd_ne (ne_of_none hl hn)]; exact hl, h60, fun v hv => ?_, fun c dx hc hdx n1 n2 n3 => ⟨rfl, dx, _, upd_same, by rw [upd_ne n1, upd_same], ?_, ?_⟩⟩⟩
  · rcases hs v hv with z | ⟨t, ns, e, ht, r⟩
    · exact .inl z
    · exact .inr ⟨t, ns, e, by rw [upd_ne (ne_of_none ht hn)]; exact ht, r⟩
  · rw [upd_ne n1] at hdx
    exact hdx
  · have hc1 : H1 c = none := by
      rw [upd_ne n2] at hc
      exact hc
    have hd1 : H1 dx = none := by
      rw [upd_ne n1] at hdx
      exact hdx
    have e : upd (del (upd (upd (upd (upd H1 a (exo a C none)) c (.lst xs)) dx (exd dx [(fl, .ref c)])) a (exo a C (some dx))) a) dx (.xd [(fl, .ref c)]) = upd (upd H1 c (.lst xs)) dx (.xd [(fl, .ref c)]) := by
      funext b
      by_cases hb : b = dx
      · rw [hb, upd_same, upd_same]
      · rw [upd_ne hb, upd_ne hb]
        by_cases hba : b = a
        · rw [hba, del_same, upd_ne (Ne.symm n2), hn]
        · rw [del_ne hba, upd_ne hba, upd_ne hb]
          by_cases hbc : b = c
          · rw [hbc, upd_same, upd_same]
          · rw [upd_ne hbc, upd_ne hbc, upd_ne hba]
    rw [e]
    exact h c dx hc1 (by rw [upd_ne n3]; exact hd1)
end
end Sup

/-! (x, ..) * 0 and * 1. -/
namespace TupM
open PySem PySem.Spec PyProof.Rows L2
theorem tuple_mul1 (l : Addr) (items : Array Value) (n : Nat) (dd : Option Addr) (sl : Array (Option Value)) (u : Tok) :
    Meets (Builtin.«tuple.__mul__» ⟨[.ref l, .int 1 u], []⟩) (fun _ R s => s.heap.get? l = some { cls := .type "tuple", dict := dd, data := .seq items n, slots := sl } ∧ R (.ok (.ret (Value.ref l))) s) :=
  .of_wp fun prog w A R s h => by
    obtain ⟨hp, g, d, tk, os⟩ := s
    obtain ⟨hl, h⟩ := h
    have f1 := AutoSeq1.idx_int
    wp_walk using wpAny_loadPart' hl
    exact ⟨_, rfl, h⟩
theorem tuple_mul0 (l : Addr) (items : Array Value) (n : Nat) (dd : Option Addr) (sl : Array (Option Value)) (u : Tok) (c1 : items.isEmpty = false) :
    Meets (Builtin.«tuple.__mul__» ⟨[.ref l, .int 0 u], []⟩) (fun _ R s => s.heap.get? l = some { cls := .type "tuple", dict := dd, data := .seq items n, slots := sl } ∧
      R (.ok (.ret (Value.ref s.heap.objs.size))) { s with heap := s.heap.push { cls := Value.type "tuple", data := Data.seq #[] }, toks := s.toks }) :=
  .of_wp fun prog w A R s h => by
    obtain ⟨hp, g, d, tk, os⟩ := s
    obtain ⟨hl, h⟩ := h
    have f1 := AutoSeq1.idx_int
    wp_walk using wpAny_loadPart' hl
    exact ⟨_, rfl, h⟩
def rRep1 (K : PySem.W.Frag) : R2 := fun x y H Q => ∃ l xs, x = .ref l ∧ y = .int 1 ∧ SqT K H l xs ∧ Q (.ref l) H
def rRep0 (K : PySem.W.Frag) : R2 := fun x y H Q => ∃ l xs, x = .ref l ∧ y = .int 0 ∧ SqT K H l xs ∧ xs ≠ [] ∧ ∀ p, H p = none → Q (.ref p) (upd H p (.tup []))
section
variable {X : Cx}
theorem op_rep1 : OpR X (binaryOp .Mult) (rRep1 X.K) := by
  intro pins s σ H x y v u Q I rx ry h
  obtain ⟨l, xs, rfl, rfl, hT, q⟩ := h
  cases rx
  obtain ⟨t, rfl⟩ := ry
  obtain ⟨its, r, ⟨⟨cls, dd, data, sl⟩, ho, hc, n, hd⟩, hs⟩ := I.tuple hT
  simp only at hc hd
  subst hc hd
  exact wpAny_binaryOp_repeat_ref (T := "tuple") (U := "int") (by decide) ⟨_, ho, rfl⟩ (fun s' => typeIs_int s' 1 t) noFill_tuple_mul F.fills_int_mul F.slot_int_rmul repeat_tuple F.slot_int_index.lookup
    (call_meets F.slot_int_rmul (typeIs_int s 1 t) F.entry_int_rmul (F.args_int_rmul_2 _ _) (int_rmul_tuple 1 t l its.toArray n dd sl)
      ⟨ho, rfl, ⟨_, ho, rfl⟩, call_meets F.slot_tuple_mul ⟨_, ho, rfl⟩ F.entry_tuple_mul (F.args_tuple_mul_2 _ _) (tuple_mul1 l its.toArray n dd sl t) ⟨ho, ⟨.ref l, H, I, rfl, q⟩⟩⟩)
theorem op_rep0 : OpR X (binaryOp .Mult) (rRep0 X.K) := by
  intro pins s σ H x y v u Q I rx ry h
  obtain ⟨l, xs, rfl, rfl, hT, hne, q⟩ := h
  cases rx
  obtain ⟨t, rfl⟩ := ry
  obtain ⟨its, r, ⟨⟨cls, dd, data, sl⟩, ho, hc, n, hd⟩, hs⟩ := I.tuple hT
  simp only at hc hd
  subst hc hd
  have hi : its.toArray.isEmpty = false := by
    cases its with
    | nil => cases r; exact absurd rfl hne
    | cons a b => rfl
  refine wpAny_binaryOp_repeat_ref (T := "tuple") (U := "int") (by decide) ⟨_, ho, rfl⟩ (fun s' => typeIs_int s' 0 t) noFill_tuple_mul F.fills_int_mul F.slot_int_rmul repeat_tuple F.slot_int_index.lookup
    (call_meets F.slot_int_rmul (typeIs_int s 0 t) F.entry_int_rmul (F.args_int_rmul_2 _ _) (int_rmul_tuple 0 t l its.toArray n dd sl)
      ⟨ho, rfl, ⟨_, ho, rfl⟩, call_meets F.slot_tuple_mul ⟨_, ho, rfl⟩ F.entry_tuple_mul (F.args_tuple_mul_2 _ _) (tuple_mul0 l its.toArray n dd sl t hi) ⟨ho, ?_⟩⟩)
  refine ⟨.ref s.heap.objs.size, _, I.laid (t' := s.toks) (o := .tup []) (fun b ob q => Heap.get?_push_of_some _ q) (Nat.le_refl _) ?_, rfl, q _ (I.hok.fresh (Nat.le_refl _))⟩
  exact ⟨by decide, [], .nil, IsTup.new _ _⟩
theorem op_repA : OpR X (binaryOp .Mult) (fun x y H Q => rRepT X.K x y H Q ∨ rRep1 X.K x y H Q ∨ rRep0 X.K x y H Q) := op_repT.or (op_rep1.or op_rep0)
/-- (1,) * n: a tuple of n ones -/
def rOnes (K : PySem.W.Frag) : R2 := fun x y H Q => ∃ l n, x = .ref l ∧ y = .int (n : Nat) ∧ n ≤ 1000 ∧ SqT K H l [.int 1] ∧ ∀ p H', SqT K H' p (List.replicate n (V.int 1)) → (∀ b o, H b = some o → H' b = some o) → Q (.ref p) H'
theorem op_ones : OpR X (binaryOp .Mult) (rOnes X.K) := by
  intro pins s σ H x y v u Q I rx ry h
  obtain ⟨l, n, rfl, rfl, hn, hT, q⟩ := h
  refine op_repA pins s σ H _ _ v u Q I rx ry ?_
  match n, hn, q with
  | 0, _, q => exact .inr (.inr ⟨l, _, rfl, rfl, hT, by decide, fun p hp => q p _ (SqT.of upd_same) fun b o e => by rw [upd_ne (ne_of_none e hp)]; exact e⟩)
  | 1, _, q => exact .inr (.inl ⟨l, _, rfl, rfl, hT, q l H hT fun _ _ e => e⟩)
  | n + 2, hn, q =>
    refine .inl ⟨l, ((n + 2 : Nat) : Int), _, rfl, rfl, hT, by decide, by omega, by omega, by decide, fun p hp => q p _ (SqT.of ?_) fun b o e => by rw [upd_ne (ne_of_none e hp)]; exact e⟩
    rw [upd_same, Int.toNat_natCast]
    congr 2
    induction n + 2 with
    | zero => rfl
    | succ m ih => rw [List.replicate_succ, List.flatten_cons, ih]; rfl
end
end TupM

/-! Site: what is made of walls and links. -/
namespace Law
open PySem PySem.Spec PyProof.Rows L2 Sup
abbrev sSini : Stmt := inClass (top 18) 0
theorem pe_tupleOfK (K : PySem.W.Frag) {X : Cx} {a : Expr} {ta : TE} {p pos : Pos} (h : X.K = K) (hg : Gl X "tuple") (hm : X.mg "tuple" = none) (ha : PE X a ta) (na : starEach [a] X.env = (false, eval a X.env) :: starEach [] X.env := by rfl) :
    PE X (.Call (.Name "tuple" p) [a] [] pos) (tThen ta (kTup K)) := h ▸ pe_tupleOf hg hm ha na
def keyS (s : Str × Int) : List Key := [.inr s.1, .inl s.2]
/-- the places of the spots -/
def PlcAt (H : Hp) (p : Addr) (ss : List (Str × Int)) : Prop := ∃ kv : List (List Key × V), H p = some (.dT kv) ∧ kv.length ≤ ss.length ∧ (∀ (m : Nat) (s : Str × Int), ss[m]? = some s → valV kv (keyS s) = some (.int (m : Nat))) ∧ ∀ s, s ∉ ss → valV kv (keyS s) = none
/-- walls or links as they are passed: a list or a tuple of tuples -/
def WalsIn (K : PySem.W.Frag) (H : Hp) (p : Addr) (ws : List Wal) : Prop := ∃ ts : List Addr, ItSeq.Sq K H p (ts.map V.ref) ∧ ts.length = ws.length ∧ ∀ (i : Nat) (t : Addr) (w : Wal), ts[i]? = some t → ws[i]? = some w → WalT K H t w
def LnksIn (K : PySem.W.Frag) (H : Hp) (p : Addr) (ls : List Lnk) : Prop := ∃ ts : List Addr, ItSeq.Sq K H p (ts.map V.ref) ∧ ts.length = ls.length ∧ ∀ (i : Nat) (t : Addr) (l : Lnk), ts[i]? = some t → ls[i]? = some l → LnkT K H t l
def SiteAt (K : PySem.W.Frag) (CS : Addr) (ws : List Wal) (ls : List Lnk) (H : Hp) (r : Addr) : Prop := ∃ (dx : Addr) (fs : List (Str × V)) (pr pl ps pd pt : Addr), H r = some (.ins CS dx fs) ∧
  (fs.lookup ("_rows" : Str) = some (.ref pr) ∧ WalsAt K H pr ws) ∧ (fs.lookup ("_links" : Str) = some (.ref pl) ∧ LnksAt K H pl ls) ∧ (fs.lookup ("_spots" : Str) = some (.ref ps) ∧ RowsAt H ps (spotsOf ws)) ∧ (fs.lookup ("_places" : Str) = some (.ref pd) ∧ PlcAt H pd (spotsOf ws)) ∧
  (fs.lookup ("_tops" : Str) = some (.ref pt) ∧ H pt = some (.lst ((topsOf ws).map V.int))) ∧ fs.lookup ("size" : Str) = some (.int (places ws : Nat)) ∧ (∀ m : Str, m ∉ (["_rows", "_links", "_spots", "_places", "_tops", "size", "_told", "_limits"] : List Str) → fs.lookup m = none) ∧
  ∃ ptd plm : Addr, fs.lookup ("_told" : Str) = some (.ref ptd) ∧ H ptd = some (.dT (kvT (toldOf ws ls))) ∧ fs.lookup ("_limits" : Str) = some (.ref plm) ∧ TabAt H plm (leastSums (places ws) (toldOf ws ls))
/-- what is new since H (and x), and all tuples -/
structure NewIn (x : Addr) (H H' Hs : Hp) : Prop where
  all : ∀ b o, H' b = some o → Hs b = some o
  new : ∀ b o, (H b = none ∨ b = x) → H' b = some o → Hs b = some o
  tup : ∀ b xs, H' b = some (.tup xs) → Hs b = some (.tup xs)
  frz : ∀ b o xs, H' b = some (.frz o (.tup xs)) → Hs b = some (.frz o (.tup xs))
theorem NewIn.sqT {K : PySem.W.Frag} {x : Addr} {H H' Hs : Hp} (n : NewIn x H H' Hs) {a : Addr} {xs : List V} (h : SqT K H' a xs) : SqT K Hs a xs := by
  rcases h with (h | ⟨o, h⟩) | h
  · exact .inl (.inl (n.tup _ _ h))
  · exact .inl (.inr ⟨o, n.frz _ _ _ h⟩)
  · exact .inr h
theorem WalT.newIn {K : PySem.W.Frag} {x : Addr} {H H' Hs : Hp} (n : NewIn x H H' Hs) {t : Addr} {w : Wal} (h : WalT K H' t w) : WalT K Hs t w := by
  obtain ⟨sp, h1, h2⟩ := h
  exact ⟨sp, n.tup _ _ h1, n.sqT h2⟩
theorem WalsAt.newIn {K : PySem.W.Frag} {x : Addr} {H H' Hs : Hp} (n : NewIn x H H' Hs) {p : Addr} {ws : List Wal} (h : WalsAt K H' p ws) (hp : H p = none) : WalsAt K Hs p ws := by
  obtain ⟨ts, h1, h2, h3⟩ := h
  exact ⟨ts, n.new _ _ (.inl hp) h1, h2, fun i t w e1 e2 => (h3 i t w e1 e2).newIn n⟩
theorem LnksAt.newIn {K : PySem.W.Frag} {x : Addr} {H H' Hs : Hp} (n : NewIn x H H' Hs) {p : Addr} {ls : List Lnk} (h : LnksAt K H' p ls) (hp : H p = none) : LnksAt K Hs p ls := by
  obtain ⟨ts, h1, h2, h3⟩ := h
  exact ⟨ts, n.new _ _ (.inl hp) h1, h2, fun i t w e1 e2 => n.sqT (h3 i t w e1 e2)⟩
theorem RowsAt.newIn {x : Addr} {H H' Hs : Hp} (n : NewIn x H H' Hs) {p : Addr} {rows : List Row} (h : RowsAt H' p rows) (hp : H p = none) : RowsAt Hs p rows := by
  obtain ⟨ts, h1, h2, h3⟩ := h
  exact ⟨ts, n.new _ _ (.inl hp) h1, h2, fun i t y L e1 e2 => n.tup _ _ (h3 i t y L e1 e2)⟩
theorem PlcAt.newIn {x : Addr} {H H' Hs : Hp} (n : NewIn x H H' Hs) {p : Addr} {ss : List (Str × Int)} (h : PlcAt H' p ss) (hp : H p = none) : PlcAt Hs p ss := by
  obtain ⟨kv, h1, h2⟩ := h
  exact ⟨kv, n.new _ _ (.inl hp) h1, h2⟩
section
variable {K : PySem.W.Frag} {H H' : Hp} {x CS dx : Addr} {fs : List (Str × V)}
/-- all but an instance stands as it stood -/
theorem sqT_sB {a : Addr} {xs : List V} (h : SqT K H a xs) (hx : H x = some (.ins CS dx fs)) (s : SameB x H H') : SqT K H' a xs := by
  rcases h with (h | ⟨o, h⟩) | h
  · exact .inl (.inl (s _ _ (fun z => by rw [z, hx] at h; cases h) h))
  · exact .inl (.inr ⟨o, s _ _ (fun z => by rw [z, hx] at h; cases h) h⟩)
  · exact .inr h
theorem sqL_sB {a : Addr} {xs : List V} (h : SqL K H a xs) (hx : H x = some (.ins CS dx fs)) (s : SameB x H H') : SqL K H' a xs := by
  rcases h with (h | ⟨o, h⟩) | h
  · exact .inl (.inl (s _ _ (fun z => by rw [z, hx] at h; cases h) h))
  · exact .inl (.inr ⟨o, s _ _ (fun z => by rw [z, hx] at h; cases h) h⟩)
  · exact .inr h
theorem lst_sB {a : Addr} {xs : List V} (h : H a = some (.lst xs)) (hx : H x = some (.ins CS dx fs)) (s : SameB x H H') : H' a = some (.lst xs) := s _ _ (fun z => by rw [z, hx] at h; cases h) h
theorem WalT.sB {t : Addr} {w : Wal} (h : WalT K H t w) (hx : H x = some (.ins CS dx fs)) (s : SameB x H H') : WalT K H' t w := by
  obtain ⟨sp, h1, h2⟩ := h
  exact ⟨sp, s _ _ (fun z => by rw [z, hx] at h1; cases h1) h1, sqT_sB h2 hx s⟩
theorem WalsAt.sB {p : Addr} {ws : List Wal} (h : WalsAt K H p ws) (hx : H x = some (.ins CS dx fs)) (s : SameB x H H') : WalsAt K H' p ws := by
  obtain ⟨ts, h1, h2, h3⟩ := h
  exact ⟨ts, lst_sB h1 hx s, h2, fun i t w e1 e2 => (h3 i t w e1 e2).sB hx s⟩
theorem LnksAt.sB {p : Addr} {ls : List Lnk} (h : LnksAt K H p ls) (hx : H x = some (.ins CS dx fs)) (s : SameB x H H') : LnksAt K H' p ls := by
  obtain ⟨ts, h1, h2, h3⟩ := h
  exact ⟨ts, lst_sB h1 hx s, h2, fun i t w e1 e2 => sqT_sB (h3 i t w e1 e2) hx s⟩
theorem LnksIn.sB {p : Addr} {ls : List Lnk} (h : LnksIn K H p ls) (hx : H x = some (.ins CS dx fs)) (s : SameB x H H') : LnksIn K H' p ls := by
  obtain ⟨ts, h1, h2, h3⟩ := h
  exact ⟨ts, h1.imp (sqL_sB · hx s) (sqT_sB · hx s), h2, fun i t w e1 e2 => sqT_sB (h3 i t w e1 e2) hx s⟩
theorem RowsAt.sB {p : Addr} {rows : List Row} (h : RowsAt H p rows) (hx : H x = some (.ins CS dx fs)) (s : SameB x H H') : RowsAt H' p rows := by
  obtain ⟨ts, h1, h2, h3⟩ := h
  exact ⟨ts, lst_sB h1 hx s, h2, fun i t y L e1 e2 => by have z := h3 i t y L e1 e2; exact s _ _ (fun w => by rw [w, hx] at z; cases z) z⟩
theorem PlcAt.sB {p : Addr} {ss : List (Str × Int)} (h : PlcAt H p ss) (hx : H x = some (.ins CS dx fs)) (s : SameB x H H') : PlcAt H' p ss := by
  obtain ⟨kv, h1, h2⟩ := h
  exact ⟨kv, s _ _ (fun z => by rw [z, hx] at h1; cases h1) h1, h2⟩
end
theorem none_backB {H H' : Hp} {x p CS dx : Addr} {fs : List (Str × V)} (s : SameB x H H') (h : H' p = none) (hx : H' x = some (.ins CS dx fs)) : H p = none := by
  cases e : H p with
  | none => rfl
  | some o =>
    have z := s _ _ (fun z => by rw [z, hx] at h; cases h) e
    rw [h] at z
    cases z
theorem putF_len (f : Str) (v : V) : ∀ fs : List (Str × V), (putF f v fs).length ≤ fs.length + 1
  | [] => Nat.le_refl _
  | (g, u) :: r => by
    have ih := putF_len f v r
    unfold putF
    split
    · show r.length + 1 ≤ r.length + 1 + 1
      omega
    · show (putF f v r).length + 1 ≤ r.length + 1 + 1
      omega
theorem WalsAt.push {K : PySem.W.Frag} {H : Hp} {p q sp : Addr} {ws : List Wal} {w : Wal} (h : WalsAt K H p ws) (hq : H q = none) (hs : SqT K H sp (w.2.2.2.map V.int)) (hl : ws.length ≤ 900) :
    ∃ acc, (upd H q (.tup [.str w.1, .int w.2.1, .int w.2.2.1, .ref sp])) p = some (.lst acc) ∧ acc.length < sizeLine ∧ WalsAt K (upd (upd H q (.tup [.str w.1, .int w.2.1, .int w.2.2.1, .ref sp])) p (.lst (acc ++ [.ref q]))) p (ws ++ [w]) := by
  obtain ⟨ts, h1, h2, h3⟩ := h
  have npq : p ≠ q := ne_of_none h1 hq
  have s1 := same_new (o := .tup [.str w.1, .int w.2.1, .int w.2.2.1, .ref sp]) hq
  have tupP : ∀ {H2 : Hp} {ys : List V} {a : Addr} {xs : List V}, H2 p = some (.lst ys) → ∀ zs, SqT K H2 a xs → SqT K (upd H2 p (.lst zs)) a xs := fun {H2 ys a xs} e zs h => by
    rcases h with (h | ⟨o, h⟩) | h
    · exact .inl (.inl (by rw [upd_ne (fun z => by rw [z, e] at h; cases h)]; exact h))
    · exact .inl (.inr ⟨o, by rw [upd_ne (fun z => by rw [z, e] at h; cases h)]; exact h⟩)
    · exact .inr h
  refine ⟨_, s1 _ _ h1, small1000 (by rw [List.length_map]; omega), ts ++ [q], by rw [upd_same, List.map_append]; rfl, by simp [h2], fun i t w' e1 e2 => ?_⟩
  by_cases hi : i < ts.length
  · rw [List.getElem?_append_left hi] at e1
    rw [List.getElem?_append_left (by omega)] at e2
    obtain ⟨sp', z1, z2⟩ := (h3 i t w' e1 e2).same s1
    have e0 := s1 _ _ h1
    exact ⟨sp', by rw [upd_ne (fun z => by rw [z, e0] at z1; cases z1)]; exact z1, tupP e0 _ z2⟩
  · rw [List.getElem?_append_right (by omega)] at e1 e2
    have ei : i - ts.length = 0 := by
      have := (List.getElem?_eq_some_iff.mp e1).1
      simp at this
      omega
    have ej : i - ws.length = 0 := by omega
    rw [ei] at e1
    rw [ej] at e2
    cases e1
    cases e2
    exact ⟨sp, by rw [upd_ne (Ne.symm npq), upd_same], tupP (s1 _ _ h1) _ (sqT_same hs s1)⟩
theorem LnksAt.push {K : PySem.W.Frag} {H : Hp} {p q : Addr} {ls : List Lnk} {l : Lnk} (h : LnksAt K H p ls) (hs : LnkT K H q l) (hl : ls.length ≤ 900) :
    ∃ acc, H p = some (.lst acc) ∧ acc.length < sizeLine ∧ LnksAt K (upd H p (.lst (acc ++ [.ref q]))) p (ls ++ [l]) := by
  obtain ⟨ts, h1, h2, h3⟩ := h
  have tupP : ∀ {a : Addr} {xs : List V}, ∀ zs, SqT K H a xs → SqT K (upd H p (.lst zs)) a xs := fun {a xs} zs h => by
    rcases h with (h | ⟨o, h⟩) | h
    · exact .inl (.inl (by rw [upd_ne (fun z => by rw [z, h1] at h; cases h)]; exact h))
    · exact .inl (.inr ⟨o, by rw [upd_ne (fun z => by rw [z, h1] at h; cases h)]; exact h⟩)
    · exact .inr h
  refine ⟨_, h1, small1000 (by rw [List.length_map]; omega), ts ++ [q], by rw [upd_same, List.map_append]; rfl, by simp [h2], fun i t w' e1 e2 => ?_⟩
  by_cases hi : i < ts.length
  · rw [List.getElem?_append_left hi] at e1
    rw [List.getElem?_append_left (by omega)] at e2
    exact tupP _ (h3 i t w' e1 e2)
  · rw [List.getElem?_append_right (by omega)] at e1 e2
    have ei : i - ts.length = 0 := by
      have := (List.getElem?_eq_some_iff.mp e1).1
      simp at this
      omega
    have ej : i - ls.length = 0 := by omega
    rw [ei] at e1
    rw [ej] at e2
    cases e1
    cases e2
    exact tupP _ hs
/-! the names of walls are apart -/
theorem rows_names : ∀ (ws : List Wal) (acc : List Str), rowsDue acc ws = none → (∀ w ∈ ws, w.1 ∉ acc) ∧ (ws.map (·.1)).Nodup
  | [], _, _ => ⟨fun _ h => (by cases h), List.nodup_nil⟩
  | w :: ws, acc, h => by
    unfold rowsDue at h
    split at h
    · cases h
    · split at h
      · cases h
      · rename_i _ c
        cases e : numDue w.2.1 w.2.2.1 w.2.2.2 with
        | some x => rw [e] at h; cases h
        | none =>
          rw [e] at h
          obtain ⟨a, b⟩ := rows_names ws (acc ++ [w.1]) h
          refine ⟨fun v hv => ?_, List.nodup_cons.mpr ⟨fun z => ?_, b⟩⟩
          · rcases List.mem_cons.mp hv with rfl | hv
            · intro z
              exact c (List.contains_iff_mem.mpr z)
            · exact fun z => a v hv (List.mem_append_left _ z)
          · obtain ⟨v, hv, e⟩ := List.mem_map.mp z
            exact a v hv (by rw [e]; exact List.mem_append_right _ List.mem_cons_self)
theorem spots_mem {ws : List Wal} {s : Str × Int} : s ∈ spotsOf ws ↔ ∃ w ∈ ws, s.1 = w.1 ∧ 0 ≤ s.2 ∧ s.2 < w.many := by
  unfold spotsOf
  rw [List.mem_flatMap]
  constructor
  · rintro ⟨w, hw, h⟩
    unfold spotsW at h
    obtain ⟨i, hi, rfl⟩ := List.mem_map.mp h
    have := List.mem_range.mp hi
    exact ⟨w, hw, rfl, by show (0 : Int) ≤ (i : Int); omega, by show (i : Int) < _; omega⟩
  · rintro ⟨w, hw, h1, h2, h3⟩
    refine ⟨w, hw, ?_⟩
    unfold spotsW
    exact List.mem_map.mpr ⟨s.2.toNat, List.mem_range.mpr (by omega), Prod.ext h1.symm (by show ((s.2.toNat : Nat) : Int) = s.2; omega)⟩
theorem spots_nodup : ∀ ws : List Wal, (ws.map (·.1)).Nodup → (spotsOf ws).Nodup
  | [], _ => List.nodup_nil
  | w :: ws, h => by
    obtain ⟨h1, h2⟩ := List.nodup_cons.mp h
    have ih := spots_nodup ws h2
    show (spotsW w ++ spotsOf ws).Nodup
    refine List.nodup_append.mpr ⟨?_, ih, fun a ha b hb e => ?_⟩
    · unfold spotsW
      refine List.Pairwise.map _ (fun a b hab z => hab ?_) List.nodup_range
      have z2 : (a : Int) = (b : Int) := congrArg Prod.snd z
      omega
    · subst e
      unfold spotsW at ha
      obtain ⟨i, _, rfl⟩ := List.mem_map.mp ha
      obtain ⟨v, hv, e, _⟩ := spots_mem.mp hb
      exact h1 (List.mem_map.mpr ⟨v, hv, e.symm⟩)
theorem PlcAt.put {H : Hp} {D : Addr} {ss : List (Str × Int)} {s : Str × Int} {i : Nat} (h : PlcAt H D (ss.take i)) (hs : ss[i]? = some s) (hn : ss.Nodup) (hl : ss.length ≤ 900) :
    ∃ kv, H D = some (.dT kv) ∧ kv.length < sizeLine ∧ PlcAt (upd H D (.dT (putK kv (keyS s) (.int (i : Nat))))) D (ss.take (i + 1)) := by
  obtain ⟨kv, h1, h2, h3, h4⟩ := h
  have hi := (List.getElem?_eq_some_iff.mp hs).1
  rw [List.length_take] at h2
  have et : ss.take (i + 1) = ss.take i ++ [s] := by rw [List.take_succ, hs]; rfl
  have inj : ∀ a b : Str × Int, keyS a = keyS b → a = b := fun a b e => by
    unfold keyS at e
    injection e with e1 e2
    injection e2 with e2 _
    exact Prod.ext (Sum.inr.inj e1) (Sum.inl.inj e2)
  have nots : s ∉ ss.take i := fun z => by
    obtain ⟨j, hj, e⟩ := List.mem_iff_getElem.mp z
    rw [List.length_take] at hj
    rw [List.getElem_take] at e
    have hne := List.pairwise_iff_getElem.mp hn j i (by omega) hi (by omega)
    rw [List.getElem?_eq_getElem hi] at hs
    exact hne (e.trans (Option.some.inj hs).symm)
  refine ⟨kv, h1, small1000 (by omega), _, upd_same, ?_, fun m u hu => ?_, fun u hu => ?_⟩
  · have := putLen kv (keyS s) (.int (i : Nat))
    rw [et, List.length_append, List.length_take]
    show _ ≤ min i ss.length + 1
    omega
  · rw [valV_put]
    rw [et] at hu
    by_cases c : m < i
    · rw [List.getElem?_append_left (by rw [List.length_take]; omega)] at hu
      have : u ≠ s := fun z => nots (z ▸ List.mem_of_getElem? hu)
      rw [if_neg fun z => this (inj _ _ z)]
      exact h3 m u hu
    · rw [List.getElem?_append_right (by rw [List.length_take]; omega)] at hu
      have hm := (List.getElem?_eq_some_iff.mp hu).1
      rw [List.length_take] at hm hu
      simp at hm
      obtain rfl : m = i := by omega
      have e0 : m - min m ss.length = 0 := by omega
      rw [e0] at hu
      cases hu
      rw [if_pos rfl]
  · rw [valV_put]
    rw [et] at hu
    have n1 : u ∉ ss.take i := fun z => hu (List.mem_append_left _ z)
    have n2 : u ≠ s := fun z => hu (z ▸ List.mem_append_right _ List.mem_cons_self)
    rw [if_neg fun z => n2 (inj _ _ z)]
    exact h4 u n1
structure SiTxt (K : PySem.W.Frag) (mg : Str → Option Value) (CS fCr fSp fTo fCl fTd fFi fLs : Addr) : Prop where
  cl : Cls K CS
  na : ∀ m ∈ (["_rows", "_links", "_spots", "_places", "_tops", "size", "_told", "_limits"] : List Str), NoAttr K CS m
  most : ∃ t, mg "MOST_PLACES" = some (.int 24 t)
  tuple : mg "tuple" = none
  enumerate : mg "enumerate" = none
  len : mg "len" = none
  cro : mg "_check_rows" = some (.ref fCr)
  spots : mg "_spots_of" = some (.ref fSp)
  tops : mg "_tops_of" = some (.ref fTo)
  cli : mg "_check_links" = some (.ref fCl)
  told : mg "_told_limits" = some (.ref fTd)
  ring : mg "_find_ring" = some (.ref fFi)
  least : mg "_least_sums" = some (.ref fLs)
def spSini2 (K : PySem.W.Frag) (C : Errs) (CS : Addr) : Sp := fun vs H Q E => ∃ (x dx pw pk : Addr) (ws : List Wal) (ls : List Lnk), vs = [.ref x, .ref pw, .ref pk] ∧ H x = some (.ins CS dx []) ∧ WalsIn K H pw ws ∧ LnksIn K H pk ls ∧ ws.length ≤ 100 ∧ ls.length ≤ 60 ∧ places ws ≤ 800 ∧
  (∀ w ∈ ws, WFit w) ∧ (∀ l ∈ ls, LFit l) ∧ (∀ b, rowsDue [] ws = some b → DueX C E (SameB x H) b) ∧
  (rowsDue [] ws = none → (24 < places ws → DueX C E (SameB x H) (.many (places ws : Nat))) ∧ (places ws ≤ 24 → (∀ z, linksDue (places ws : Nat) ls = some z → DueX C E (SameB x H) (.place z)) ∧
    (linksDue (places ws : Nat) ls = none → ((∃ pi : Int → Int, ∀ e ∈ toldOf ws ls, pi e.2.1 - pi e.1 ≤ e.2.2) → ∀ H', SameB x H H' → (∀ Hs, NewIn x H H' Hs → SiteAt K CS ws ls Hs x) → Q .non H') ∧
      ((¬ ∃ pi : Int → Int, ∀ e ∈ toldOf ws ls, pi e.2.1 - pi e.1 ≤ e.2.2) → ∀ (H' : Hp) (c d : Addr) (ring : List Int), SameB x H H' → H' c = some (.lst (ring.map V.int)) → Relax.RingOk (toldOf ws ls) (places ws) ring → H' d = none → E (.ref C.S) (some d) (upd H' d (.xd [("ring", .ref c)]))))))
section
variable {P : Program} {w : World} {K : PySem.W.Frag} {mg : Str → Option Value} {base : Heap} {C : Errs} {CS fCr fSp fTo fCl fTd fFi fLs : Addr}
theorem scSini : FnScope ["self", "walls", "links", "name", "top", "slope", "spans", "link", "place", "spot", "ring"] ["self", "walls", "links"] (defScope sSini) := ⟨rfl, rfl, rfl, by decide +kernel, rfl, by decide +kernel, by decide +kernel⟩
set_option maxHeartbeats 0 in
theorem ok_sini2 {f aD : Addr} {fd fdCr fdSp fdTo fdCl fdTd fdFi fdLs : FuncData} (F : FunD K "__init__" "Site.__init__" (defArgs sSini) (defBody sSini) (defScope sSini) [.ref aD] [] f fd) (RM : ErrOk P w K mg base "TooMany" C.M "count" okInt) (RS : ErrOkL P w K mg base "NoSite" C.S "ring")
    (GCr : FnOk P w K mg base (L2.CX P w) 6 fCr fdCr ["rows"] (spCro K C)) (FCr : Fun K "_check_rows" "_check_rows" sCro fCr fdCr) (bCr : Binds K fdCr ["rows"] [])
    (GSp : FnOk P w K mg base CX0 1 fSp fdSp ["rows"] (spSpots K)) (FSp : Fun K "_spots_of" "_spots_of" sSpots fSp fdSp) (bSp : Binds K fdSp ["rows"] [])
    (GTo : FnOk P w K mg base CX0 1 fTo fdTo ["rows"] (spTops K)) (FTo : Fun K "_tops_of" "_tops_of" sTops fTo fdTo) (bTo : Binds K fdTo ["rows"] [])
    (GCl : FnOk P w K mg base (L2.CX P w) 4 fCl fdCl ["links", "size"] (spCli K C)) (FCl : Fun K "_check_links" "_check_links" sCli fCl fdCl) (bCl : Binds K fdCl ["links", "size"] [])
    (GTd : FnOk P w K mg base CX0 2 fTd fdTd ["rows", "tops", "links"] (spTold K)) (FTd : Fun K "_told_limits" "_told_limits" sTold fTd fdTd) (bTd : Binds K fdTd ["rows", "tops", "links"] [])
    (GFi : FnOk P w K mg base CX0 2 fFi fdFi ["size", "told"] spFnd2) (FFi : Fun K "_find_ring" "_find_ring" sFnd fFi fdFi) (bFi : Binds K fdFi ["size", "told"] [])
    (GLs : FnOk P w K mg base CX0 2 fLs fdLs ["size", "told"] spLst) (FLs : Fun K "_least_sums" "_least_sums" sLst fLs fdLs) (bLs : Binds K fdLs ["size", "told"] [])
    (T : SiTxt K mg CS fCr fSp fTo fCl fTd fFi fLs) : FnOk P w K mg base (L2.CX P w) 7 f fd ["self", "walls", "links"] (spSini2 K C CS) := by
  obtain ⟨t3, T3⟩ := T.most
  refine F.ok scSini (fun vs H Q E h => ?_) (fun cdv A outer s H vs Q E hr h => ?_)
  · obtain ⟨x, dx, pw, pk, ws, ls, rfl, _⟩ := h
    rfl
  · obtain ⟨x, dx, pw, pk, ws, ls, rfl, hx, hW, hL, l1, l2, l3, fW, fL, h1, h2⟩ := h
    have hr6 : Room 6 _ := hr
    have hr4 : Room 4 _ := hr.mono (by decide)
    have hr3 : Room 3 _ := hr.mono (by decide)
    have hr2 : Room 2 _ := hr.mono (by decide)
    have hr1 : Room 1 _ := hr.mono (by decide)
    refine ⟨_, (pss_cons (ps_fld (pv 0) (pe_lc (own := [("name", 3), ("top", 4), ("slope", 5), ("spans", 6)]) (g := (gTup K 4 (gCons (gName 3) (gCons (gName 4) (gCons (gName 5) (gCons (gName 6) gNil)))))) (tt := tYes) (by rfl) scSini.nd (ItSeq.pi_seq (pv 1)) (blkOk_by (own := [("name", 3), ("top", 4), ("slope", 5), ("spans", 6)]) (N := ["self", "walls", "links", "name", "top", "slope", "spans", "link", "place", "spot", "ring"]) (sc := defScope sSini) (by decide +kernel))
        (fun _ _ _ _ _ => by exact (pg_tup (n := 4) rfl (pgs_cons (pg_name (i := 3) scSini.nd rfl (Or.inl rfl)) (pgs_cons (pg_name (i := 4) scSini.nd rfl (Or.inl rfl)) (pgs_cons (pg_name (i := 5) scSini.nd rfl (Or.inl rfl)) (pgs_cons (pg_name (i := 6) scSini.nd rfl (Or.inl rfl)) pgs_nil)))))) (fun _ _ _ _ _ => pts_nil) (fun _ _ _ _ _ => (pe_tup (pa_cons (pv 3) (pa_cons (pv 4) (pa_cons (pv 5) (pa_cons (pe_tupleOfK K rfl (by rfl) T.tuple (pv 6)) pa_nil))))))) rfl)
      (pss_cons (ps_fld (pv 0) (pe_lc (own := [("link", 7)]) (g := gName 7) (tt := tYes) (by rfl) scSini.nd (ItSeq.pi_seq (pv 2)) (blkOk_by (own := [("link", 7)]) (N := ["self", "walls", "links", "name", "top", "slope", "spans", "link", "place", "spot", "ring"]) (sc := defScope sSini) (by decide +kernel))
        (fun _ _ _ _ _ => pg_name (i := 7) scSini.nd rfl (Or.inl rfl)) (fun _ _ _ _ _ => pts_nil) (fun _ _ _ _ _ => (pe_tupleOfK K rfl (by rfl) T.tuple (pv 7)))) rfl)
      (pss_cons (ps_expr (pe_call (E := E) GCr hr6 rfl T.cro FCr.kp bCr .nil (passes_call (takes_of rfl rfl rfl rfl) fun _ _ _ _ z => z) (pa_cons (pe_fld (pv 0) rfl) pa_nil)))
      (pss_cons (ps_fld (pv 0) (pe_call GSp hr1 rfl T.spots FSp.kp bSp .nil pass0 (pa_cons (pe_fld (pv 0) rfl) pa_nil)) rfl)
      (pss_cons (ps_fld (pv 0) (DcT.pe_dcT (own := [("place", 8), ("spot", 9)]) (g := (gTup K 2 (gCons (gName 8) (gCons (gName 9) gNil)))) (tt := tYes) (tk := tVar 9) (tv := tVar 8) (wi := iEnum K (tCons (tFld K (tVar 0) "_spots") tNil)) ⟨rfl, scSini.nd, (pi_enum (by rfl) T.enumerate (pa_cons (pe_fld (pv 0) rfl) pa_nil)), blkOk_by (own := [("place", 8), ("spot", 9)]) (N := ["self", "walls", "links", "name", "top", "slope", "spans", "link", "place", "spot", "ring"]) (sc := defScope sSini) (by decide +kernel),
        fun _ _ _ _ _ => by exact (pg_tup (n := 2) rfl (pgs_cons (pg_name (i := 8) scSini.nd rfl (Or.inl rfl)) (pgs_cons (pg_name (i := 9) scSini.nd rfl (Or.inl rfl)) pgs_nil))), fun _ _ _ _ _ => pts_nil, fun _ _ _ _ _ => (pv 9), fun _ _ _ _ _ => (pv 8), by intro _; rfl, Nat.lt_of_succ_lt (hu_of hr)⟩) rfl)
      (pss_cons (ps_fld (pv 0) (pe_call GTo hr1 rfl T.tops FTo.kp bTo .nil pass0 (pa_cons (pe_fld (pv 0) rfl) pa_nil)) rfl)
      (pss_cons (ps_fld (pv 0) (pe_callB call_len_seq (by rfl) T.len PySem.boot_len (pa_cons (pe_fld (pv 0) rfl) pa_nil)) rfl)
      (pss_cons (ps_if (pt_cmpR op_gt (pe_fld (pv 0) rfl) (pe_glob (v := .int 24) rfl T3 ⟨_, rfl⟩) (nomark _)) (pss_one (ps_err RM rfl (takes_of rfl rfl rfl rfl) hr3 (pa_cons (pe_fld (pv 0) rfl) pa_nil) rfl)) pss_nil)
      (pss_cons (ps_expr (pe_call (E := E) GCl hr4 rfl T.cli FCl.kp bCl .nil (passes_call (takes_of rfl rfl rfl rfl) fun _ _ _ _ z => z) (pa_cons (pe_fld (pv 0) rfl) (pa_cons (pe_fld (pv 0) rfl) pa_nil))))
      (pss_cons (ps_fld (pv 0) (pe_call GTd hr2 rfl T.told FTd.kp bTd .nil pass0 (pa_cons (pe_fld (pv 0) rfl) (pa_cons (pe_fld (pv 0) rfl) (pa_cons (pe_fld (pv 0) rfl) pa_nil)))) rfl)
      (pss_cons (ps_set (i := 10) scSini.nd rfl (Or.inl rfl) (pe_call GFi hr2 rfl T.ring FFi.kp bFi .nil pass0 (pa_cons (pe_fld (pv 0) rfl) (pa_cons (pe_fld (pv 0) rfl) pa_nil))))
      (pss_cons (ps_if (pt_truth (pv 10) (by intro _; rfl)) (pss_one (ps_errL RS rfl (takes_of rfl rfl rfl rfl) hr3 (pa_cons (pv 10) pa_nil) rfl)) pss_nil)
      (pss_one (ps_fld (pv 0) (pe_call GLs hr2 rfl T.least FLs.kp bLs .nil pass0 (pa_cons (pe_fld (pv 0) rfl) (pa_cons (pe_fld (pv 0) rfl) pa_nil))) rfl)))))))))))))), ?_⟩
    have SB : SameB x H H := fun _ _ _ e => e
    have hf0 : ([] : List (Str × V)).length ≤ 0 := Nat.le_refl _
    have ln0 : ∀ m : Str, m ∉ ([] : List Str) → ([] : List (Str × V)).lookup m = none := fun _ _ => rfl
    obtain ⟨ts, q1, q2, q3⟩ := hW
    refine ⟨_, rfl, pw, _, rfl, q1, fun J wJ pr hpr => ?_⟩
    refine lc_it wJ (fun i H' => WalsAt K H' pr (ws.take i) ∧ Same H H') ⟨⟨[], upd_same, rfl, fun i t e z => by cases z⟩, same_new hpr⟩ (fun _ _ _ h => h.2) ?_ ?_
    · rintro i y H1 H2 hi ⟨B, S1⟩ ⟨rfl, hy⟩
      rw [List.length_map] at hi
      rw [List.getElem?_map, List.getElem?_eq_getElem hi] at hy
      cases hy
      obtain ⟨wl, hw⟩ : ∃ w, ws[i]? = some w := ⟨_, List.getElem?_eq_getElem (by omega)⟩
      obtain ⟨sp, z1, z2⟩ := (q3 i _ wl (List.getElem?_eq_getElem hi) hw).same S1
      refine ⟨_, _, rfl, SqT.of z1, rfl, _, _, rfl, _, _, rfl, _, _, rfl, _, _, rfl, rfl, rfl, _, rfl, _, rfl, _, rfl, _, rfl, .inr ⟨sp, _, rfl, z2, by show 4 ≤ sizeLine; decide, fun q hq => ?_⟩⟩
      obtain ⟨acc, a1, a2, a3⟩ := B.push hq z2 (by rw [List.length_take]; omega)
      refine ⟨acc, a1, a2, ?_, fun b o e => ?_⟩
      · rw [List.take_succ, hw]
        exact a3
      · rw [upd_ne (ne_of_none e hpr), upd_ne (ne_of_none (S1 _ _ e) hq)]
        exact S1 _ _ e
    rintro H1 ⟨B1, S1⟩
    rw [List.length_map, q2, List.take_length] at B1
    have hx1 := S1 _ _ hx
    have SB : SameB x H H1 := SameB.of_same S1
    refine ⟨_, rfl, x, CS, dx, _, rfl, hx1, T.cl, T.na _ (by decide), Nat.lt_of_le_of_lt hf0 (by decide), ?_⟩
    have eG1 : SameB x H1 (upd H1 x (.ins CS dx (putF "_rows" (V.ref pr) []))) := fun b o n e => (upd_ne n).trans e
    have hG1 : upd H1 x (.ins CS dx (putF "_rows" (V.ref pr) [])) x = some (.ins CS dx (putF "_rows" (V.ref pr) [])) := upd_same
    have hf1 : (putF "_rows" (V.ref pr) []).length ≤ 1 := Nat.le_trans (putF_len _ _ _) (Nat.succ_le_succ hf0)
    have lk1_rows : (putF "_rows" (V.ref pr) []).lookup ("_rows" : Str) = some (V.ref pr) := by rw [lookup_putF, if_pos rfl]
    have ln1 : ∀ m : Str, m ∉ (["_rows"] : List Str) → (putF "_rows" (V.ref pr) []).lookup m = none := fun m hm => by rw [lookup_putF, if_neg (fun z => hm (by rw [z]; decide))]; exact ln0 m fun z => hm (show m ∈ (([] : List Str) ++ [("_rows" : Str)]) from List.mem_append_left _ z)
    have SG1 : SameB x H (upd H1 x (.ins CS dx (putF "_rows" (V.ref pr) []))) := SB.trans eG1
    generalize upd H1 x (.ins CS dx (putF "_rows" (V.ref pr) [])) = G1 at eG1 hG1 SG1
    generalize (putF "_rows" (V.ref pr) []) = fs1 at hG1 hf1 ln1 lk1_rows
    have fR := fun H' (s : SameB x G1 H') => B1.sB hx1 (eG1.trans s)
    have fL0 := fun H' (s : SameB x G1 H') => hL.sB hx (SG1.trans s)
    obtain ⟨us, r1, r2, r3⟩ := fL0 G1 (fun _ _ _ e => e)
    refine ⟨_, rfl, pk, _, rfl, r1, fun J wJ pl hpl => ?_⟩
    have hpl0 := none_backB SG1 hpl hG1
    refine lc_it wJ (fun i H' => LnksAt K H' pl (ls.take i) ∧ Same G1 H') ⟨⟨[], upd_same, rfl, fun i t e z => by cases z⟩, same_new hpl⟩ (fun _ _ _ h => h.2) ?_ ?_
    · rintro i y H1 H2 hi ⟨B, S1⟩ ⟨rfl, hy⟩
      rw [List.length_map] at hi
      rw [List.getElem?_map, List.getElem?_eq_getElem hi] at hy
      cases hy
      obtain ⟨l, hl⟩ : ∃ w, ls[i]? = some w := ⟨_, List.getElem?_eq_getElem (by omega)⟩
      have z : LnkT K H2 us[i] l := sqT_same (r3 i _ l (List.getElem?_eq_getElem hi) hl) S1
      obtain ⟨acc, a1, a2, a3⟩ := B.push z (by rw [List.length_take]; omega)
      refine ⟨rfl, _, rfl, .inr ⟨us[i], _, rfl, z, acc, a1, a2, ?_, fun b o e => ?_⟩⟩
      · rw [List.take_succ, hl]
        exact a3
      · rw [upd_ne (ne_of_none e hpl)]
        exact S1 _ _ e
    rintro H2 ⟨B2, S2⟩
    rw [List.length_map, r2, List.take_length] at B2
    have hx2 := S2 _ _ hG1
    have SB : SameB x H H2 := SG1.trans (SameB.of_same S2)
    refine ⟨_, rfl, x, CS, dx, _, rfl, hx2, T.cl, T.na _ (by decide), Nat.lt_of_le_of_lt hf1 (by decide), ?_⟩
    have eG2 : SameB x H2 (upd H2 x (.ins CS dx (putF "_links" (V.ref pl) fs1))) := fun b o n e => (upd_ne n).trans e
    have hG2 : upd H2 x (.ins CS dx (putF "_links" (V.ref pl) fs1)) x = some (.ins CS dx (putF "_links" (V.ref pl) fs1)) := upd_same
    have hf2 : (putF "_links" (V.ref pl) fs1).length ≤ 2 := Nat.le_trans (putF_len _ _ _) (Nat.succ_le_succ hf1)
    have lk2_rows : (putF "_links" (V.ref pl) fs1).lookup ("_rows" : Str) = some (V.ref pr) := by rw [lookup_putF, if_neg (by decide)]; exact lk1_rows
    have lk2_links : (putF "_links" (V.ref pl) fs1).lookup ("_links" : Str) = some (V.ref pl) := by rw [lookup_putF, if_pos rfl]
    have ln2 : ∀ m : Str, m ∉ (["_rows", "_links"] : List Str) → (putF "_links" (V.ref pl) fs1).lookup m = none := fun m hm => by rw [lookup_putF, if_neg (fun z => hm (by rw [z]; decide))]; exact ln1 m fun z => hm (show m ∈ ((["_rows"] : List Str) ++ [("_links" : Str)]) from List.mem_append_left _ z)
    have SG2 : SameB x H (upd H2 x (.ins CS dx (putF "_links" (V.ref pl) fs1))) := SB.trans eG2
    generalize upd H2 x (.ins CS dx (putF "_links" (V.ref pl) fs1)) = G2 at eG2 hG2 SG2
    generalize (putF "_links" (V.ref pl) fs1) = fs2 at hG2 hf2 ln2 lk2_rows lk2_links
    have st := (SameB.of_same S2).trans eG2
    have fR := fun H' (s : SameB x G2 H') => fR H' (st.trans s)
    have fLn := fun H' (s : SameB x G2 H') => B2.sB hx2 (eG2.trans s)
    refine ⟨_, rfl, x, CS, dx, _, _, rfl, hG2, T.cl, T.na _ (by decide), lk2_rows, pr, ws, rfl, fR G2 (fun _ _ _ e => e), by omega, fW, fun b hb => (h1 b hb).mono fun H' s => SG2.trans (SameB.of_same s), fun hn H3 S3 => ?_⟩
    obtain ⟨h3, h4⟩ := h2 hn
    have nd := spots_nodup ws (rows_names ws [] hn).2
    have hx3 := S3 _ _ hG2
    have SB : SameB x H H3 := SG2.trans (SameB.of_same S3)
    have st := SameB.of_same (b := x) S3
    have fR := fun H' (s : SameB x H3 H') => fR H' (st.trans s)
    have fLn := fun H' (s : SameB x H3 H') => fLn H' (st.trans s)
    have sl := spots_places ws
    refine ⟨_, rfl, x, CS, dx, _, _, rfl, hx3, T.cl, T.na _ (by decide), lk2_rows, pr, ws, rfl, fR H3 (fun _ _ _ e => e), by omega, fun ps H4 nps S4 R4 => ?_⟩
    have hps0 := none_backB SB nps hx3
    have hx4 := S4 _ _ hx3
    have SB : SameB x H H4 := SB.trans (SameB.of_same S4)
    refine ⟨_, rfl, x, CS, dx, _, rfl, hx4, T.cl, T.na _ (by decide), Nat.lt_of_le_of_lt hf2 (by decide), ?_⟩
    have eG3 : SameB x H4 (upd H4 x (.ins CS dx (putF "_spots" (V.ref ps) fs2))) := fun b o n e => (upd_ne n).trans e
    have hG3 : upd H4 x (.ins CS dx (putF "_spots" (V.ref ps) fs2)) x = some (.ins CS dx (putF "_spots" (V.ref ps) fs2)) := upd_same
    have hf3 : (putF "_spots" (V.ref ps) fs2).length ≤ 3 := Nat.le_trans (putF_len _ _ _) (Nat.succ_le_succ hf2)
    have lk3_rows : (putF "_spots" (V.ref ps) fs2).lookup ("_rows" : Str) = some (V.ref pr) := by rw [lookup_putF, if_neg (by decide)]; exact lk2_rows
    have lk3_links : (putF "_spots" (V.ref ps) fs2).lookup ("_links" : Str) = some (V.ref pl) := by rw [lookup_putF, if_neg (by decide)]; exact lk2_links
    have lk3_spots : (putF "_spots" (V.ref ps) fs2).lookup ("_spots" : Str) = some (V.ref ps) := by rw [lookup_putF, if_pos rfl]
    have ln3 : ∀ m : Str, m ∉ (["_rows", "_links", "_spots"] : List Str) → (putF "_spots" (V.ref ps) fs2).lookup m = none := fun m hm => by rw [lookup_putF, if_neg (fun z => hm (by rw [z]; decide))]; exact ln2 m fun z => hm (show m ∈ ((["_rows", "_links"] : List Str) ++ [("_spots" : Str)]) from List.mem_append_left _ z)
    have SG3 : SameB x H (upd H4 x (.ins CS dx (putF "_spots" (V.ref ps) fs2))) := SB.trans eG3
    generalize upd H4 x (.ins CS dx (putF "_spots" (V.ref ps) fs2)) = G3 at eG3 hG3 SG3
    generalize (putF "_spots" (V.ref ps) fs2) = fs3 at hG3 hf3 ln3 lk3_rows lk3_links lk3_spots
    have st := (SameB.of_same S4).trans eG3
    have fR := fun H' (s : SameB x G3 H') => fR H' (st.trans s)
    have fLn := fun H' (s : SameB x G3 H') => fLn H' (st.trans s)
    have fSp := fun H' (s : SameB x G3 H') => R4.sB hx4 (eG3.trans s)
    obtain ⟨vs, y1, y2, y3⟩ := fSp G3 (fun _ _ _ e => e)
    refine ⟨_, rfl, x, CS, dx, _, _, rfl, hG3, T.cl, T.na _ (by decide), lk3_spots, ps, _, rfl, SqL.of y1, fun pd hpd => ?_⟩
    have hpd0 := none_backB SG3 hpd hG3
    refine DcT.dcT_it (walk_enum (xs := vs.map V.ref)) (fun i H' => PlcAt H' pd ((spotsOf ws).take i) ∧ Same G3 H') ⟨⟨[], upd_same, Nat.le_refl _, fun m s z => (by cases z), fun _ _ => rfl⟩, same_new hpd⟩ (fun _ _ _ h => SqL.of (h.2 _ _ y1)) ?_ ?_
    · rintro i y H5 H6 hi ⟨B, S5⟩ ⟨T0, u0, v0, rfl, hT, rfl, hu, hv⟩
      rw [List.length_map] at hi
      cases hu
      have hv : (vs.map V.ref)[i]? = some v0 := hv
      rw [List.getElem?_map, List.getElem?_eq_getElem hi] at hv
      cases hv
      obtain ⟨⟨sn, sj⟩, hs⟩ : ∃ s, (spotsOf ws)[i]? = some s := ⟨_, List.getElem?_eq_getElem (by omega)⟩
      have z := S5 _ _ (y3 i _ sn sj (List.getElem?_eq_getElem hi) hs)
      have sT := same_new (o := .tup [V.int (i : Nat), V.ref vs[i]]) hT
      obtain ⟨kv, k1, k2, k3⟩ := (show PlcAt (upd H5 T0 (.tup [V.int (i : Nat), V.ref vs[i]])) pd ((spotsOf ws).take i) from by obtain ⟨kv, a, b⟩ := B; exact ⟨kv, sT _ _ a, b⟩).put hs nd (by omega)
      refine ⟨T0, _, rfl, SqT.of upd_same, rfl, _, _, rfl, _, _, rfl, rfl, rfl, _, rfl, _, rfl, kv, keyS (sn, sj), vs[i], rfl, k1, sT _ _ z, k2, k3, fun b o e => ?_⟩
      rw [upd_ne (ne_of_none e hpd)]
      exact sT _ _ (S5 _ _ e)
    rintro H5 ⟨B5, S5⟩
    rw [List.length_map, y2, List.take_length] at B5
    have hx5 := S5 _ _ hG3
    have SB : SameB x H H5 := SG3.trans (SameB.of_same S5)
    refine ⟨_, rfl, x, CS, dx, _, rfl, hx5, T.cl, T.na _ (by decide), Nat.lt_of_le_of_lt hf3 (by decide), ?_⟩
    have eG4 : SameB x H5 (upd H5 x (.ins CS dx (putF "_places" (V.ref pd) fs3))) := fun b o n e => (upd_ne n).trans e
    have hG4 : upd H5 x (.ins CS dx (putF "_places" (V.ref pd) fs3)) x = some (.ins CS dx (putF "_places" (V.ref pd) fs3)) := upd_same
    have hf4 : (putF "_places" (V.ref pd) fs3).length ≤ 4 := Nat.le_trans (putF_len _ _ _) (Nat.succ_le_succ hf3)
    have lk4_rows : (putF "_places" (V.ref pd) fs3).lookup ("_rows" : Str) = some (V.ref pr) := by rw [lookup_putF, if_neg (by decide)]; exact lk3_rows
    have lk4_links : (putF "_places" (V.ref pd) fs3).lookup ("_links" : Str) = some (V.ref pl) := by rw [lookup_putF, if_neg (by decide)]; exact lk3_links
    have lk4_spots : (putF "_places" (V.ref pd) fs3).lookup ("_spots" : Str) = some (V.ref ps) := by rw [lookup_putF, if_neg (by decide)]; exact lk3_spots
    have lk4_places : (putF "_places" (V.ref pd) fs3).lookup ("_places" : Str) = some (V.ref pd) := by rw [lookup_putF, if_pos rfl]
    have ln4 : ∀ m : Str, m ∉ (["_rows", "_links", "_spots", "_places"] : List Str) → (putF "_places" (V.ref pd) fs3).lookup m = none := fun m hm => by rw [lookup_putF, if_neg (fun z => hm (by rw [z]; decide))]; exact ln3 m fun z => hm (show m ∈ ((["_rows", "_links", "_spots"] : List Str) ++ [("_places" : Str)]) from List.mem_append_left _ z)
    have SG4 : SameB x H (upd H5 x (.ins CS dx (putF "_places" (V.ref pd) fs3))) := SB.trans eG4
    generalize upd H5 x (.ins CS dx (putF "_places" (V.ref pd) fs3)) = G4 at eG4 hG4 SG4
    generalize (putF "_places" (V.ref pd) fs3) = fs4 at hG4 hf4 ln4 lk4_rows lk4_links lk4_spots lk4_places
    have st := (SameB.of_same S5).trans eG4
    have fR := fun H' (s : SameB x G4 H') => fR H' (st.trans s)
    have fLn := fun H' (s : SameB x G4 H') => fLn H' (st.trans s)
    have fSp := fun H' (s : SameB x G4 H') => fSp H' (st.trans s)
    have fPl := fun H' (s : SameB x G4 H') => B5.sB hx5 (eG4.trans s)
    refine ⟨_, rfl, x, CS, dx, _, _, rfl, hG4, T.cl, T.na _ (by decide), lk4_rows, pr, ws, rfl, fR G4 (fun _ _ _ e => e), by omega, fun pt H6 npt S6 R6 => ?_⟩
    have hpt0 := none_backB SG4 npt hG4
    have hx6 := S6 _ _ hG4
    have SB : SameB x H H6 := SG4.trans (SameB.of_same S6)
    refine ⟨_, rfl, x, CS, dx, _, rfl, hx6, T.cl, T.na _ (by decide), Nat.lt_of_le_of_lt hf4 (by decide), ?_⟩
    have eG5 : SameB x H6 (upd H6 x (.ins CS dx (putF "_tops" (V.ref pt) fs4))) := fun b o n e => (upd_ne n).trans e
    have hG5 : upd H6 x (.ins CS dx (putF "_tops" (V.ref pt) fs4)) x = some (.ins CS dx (putF "_tops" (V.ref pt) fs4)) := upd_same
    have hf5 : (putF "_tops" (V.ref pt) fs4).length ≤ 5 := Nat.le_trans (putF_len _ _ _) (Nat.succ_le_succ hf4)
    have lk5_rows : (putF "_tops" (V.ref pt) fs4).lookup ("_rows" : Str) = some (V.ref pr) := by rw [lookup_putF, if_neg (by decide)]; exact lk4_rows
    have lk5_links : (putF "_tops" (V.ref pt) fs4).lookup ("_links" : Str) = some (V.ref pl) := by rw [lookup_putF, if_neg (by decide)]; exact lk4_links
    have lk5_spots : (putF "_tops" (V.ref pt) fs4).lookup ("_spots" : Str) = some (V.ref ps) := by rw [lookup_putF, if_neg (by decide)]; exact lk4_spots
    have lk5_places : (putF "_tops" (V.ref pt) fs4).lookup ("_places" : Str) = some (V.ref pd) := by rw [lookup_putF, if_neg (by decide)]; exact lk4_places
    have lk5_tops : (putF "_tops" (V.ref pt) fs4).lookup ("_tops" : Str) = some (V.ref pt) := by rw [lookup_putF, if_pos rfl]
    have ln5 : ∀ m : Str, m ∉ (["_rows", "_links", "_spots", "_places", "_tops"] : List Str) → (putF "_tops" (V.ref pt) fs4).lookup m = none := fun m hm => by rw [lookup_putF, if_neg (fun z => hm (by rw [z]; decide))]; exact ln4 m fun z => hm (show m ∈ ((["_rows", "_links", "_spots", "_places"] : List Str) ++ [("_tops" : Str)]) from List.mem_append_left _ z)
    have SG5 : SameB x H (upd H6 x (.ins CS dx (putF "_tops" (V.ref pt) fs4))) := SB.trans eG5
    generalize upd H6 x (.ins CS dx (putF "_tops" (V.ref pt) fs4)) = G5 at eG5 hG5 SG5
    generalize (putF "_tops" (V.ref pt) fs4) = fs5 at hG5 hf5 ln5 lk5_rows lk5_links lk5_spots lk5_places lk5_tops
    have st := (SameB.of_same S6).trans eG5
    have fR := fun H' (s : SameB x G5 H') => fR H' (st.trans s)
    have fLn := fun H' (s : SameB x G5 H') => fLn H' (st.trans s)
    have fSp := fun H' (s : SameB x G5 H') => fSp H' (st.trans s)
    have fPl := fun H' (s : SameB x G5 H') => fPl H' (st.trans s)
    have fTo := fun H' (s : SameB x G5 H') => lst_sB R6 hx6 (eG5.trans s)
    obtain ⟨vs2, y1, y2, y3⟩ := fSp G5 (fun _ _ _ e => e)
    refine ⟨_, rfl, x, CS, dx, _, _, rfl, hG5, T.cl, T.na _ (by decide), lk5_spots, ps, _, rfl, .inl (SqL.of y1), ?_⟩
    have ep : (vs2.map V.ref).length = places ws := by rw [List.length_map, y2]; exact sl
    rw [ep]
    have SB : SameB x H G5 := SG5
    refine ⟨_, rfl, x, CS, dx, _, rfl, hG5, T.cl, T.na _ (by decide), Nat.lt_of_le_of_lt hf5 (by decide), ?_⟩
    have eG6 : SameB x G5 (upd G5 x (.ins CS dx (putF "size" (V.int (places ws : Nat)) fs5))) := fun b o n e => (upd_ne n).trans e
    have hG6 : upd G5 x (.ins CS dx (putF "size" (V.int (places ws : Nat)) fs5)) x = some (.ins CS dx (putF "size" (V.int (places ws : Nat)) fs5)) := upd_same
    have hf6 : (putF "size" (V.int (places ws : Nat)) fs5).length ≤ 6 := Nat.le_trans (putF_len _ _ _) (Nat.succ_le_succ hf5)
    have lk6_rows : (putF "size" (V.int (places ws : Nat)) fs5).lookup ("_rows" : Str) = some (V.ref pr) := by rw [lookup_putF, if_neg (by decide)]; exact lk5_rows
    have lk6_links : (putF "size" (V.int (places ws : Nat)) fs5).lookup ("_links" : Str) = some (V.ref pl) := by rw [lookup_putF, if_neg (by decide)]; exact lk5_links
    have lk6_spots : (putF "size" (V.int (places ws : Nat)) fs5).lookup ("_spots" : Str) = some (V.ref ps) := by rw [lookup_putF, if_neg (by decide)]; exact lk5_spots
    have lk6_places : (putF "size" (V.int (places ws : Nat)) fs5).lookup ("_places" : Str) = some (V.ref pd) := by rw [lookup_putF, if_neg (by decide)]; exact lk5_places
    have lk6_tops : (putF "size" (V.int (places ws : Nat)) fs5).lookup ("_tops" : Str) = some (V.ref pt) := by rw [lookup_putF, if_neg (by decide)]; exact lk5_tops
    have lk6size : (putF "size" (V.int (places ws : Nat)) fs5).lookup ("size" : Str) = some (V.int (places ws : Nat)) := by rw [lookup_putF, if_pos rfl]
    have ln6 : ∀ m : Str, m ∉ (["_rows", "_links", "_spots", "_places", "_tops", "size"] : List Str) → (putF "size" (V.int (places ws : Nat)) fs5).lookup m = none := fun m hm => by rw [lookup_putF, if_neg (fun z => hm (by rw [z]; decide))]; exact ln5 m fun z => hm (show m ∈ ((["_rows", "_links", "_spots", "_places", "_tops"] : List Str) ++ [("size" : Str)]) from List.mem_append_left _ z)
    have SG6 : SameB x H (upd G5 x (.ins CS dx (putF "size" (V.int (places ws : Nat)) fs5))) := SB.trans eG6
    generalize upd G5 x (.ins CS dx (putF "size" (V.int (places ws : Nat)) fs5)) = G6 at eG6 hG6 SG6
    generalize (putF "size" (V.int (places ws : Nat)) fs5) = fs6 at hG6 hf6 ln6 lk6_rows lk6_links lk6_spots lk6_places lk6_tops lk6size
    have fR := fun H' (s : SameB x G6 H') => fR H' (eG6.trans s)
    have fLn := fun H' (s : SameB x G6 H') => fLn H' (eG6.trans s)
    have fSp := fun H' (s : SameB x G6 H') => fSp H' (eG6.trans s)
    have fPl := fun H' (s : SameB x G6 H') => fPl H' (eG6.trans s)
    have fTo := fun H' (s : SameB x G6 H') => fTo H' (eG6.trans s)
    refine ⟨_, rfl, x, CS, dx, _, _, rfl, hG6, T.cl, T.na _ (by decide), lk6size, _, _, rfl, rfl, _, rfl, ?_⟩
    by_cases c24 : (24 : Int) < (places ws : Nat)
    · refine if_t (decide_eq_true c24) ⟨_, rfl, x, CS, dx, _, _, rfl, hG6, T.cl, T.na _ (by decide), lk6size, ?_⟩
      exact err_way (Sz.ok (Nat.lt_of_le_of_lt (show ((places ws : Nat) : Int).natAbs ≤ 1000 by omega) (by decide +kernel))) fun d hd => h3 (by omega) G6 d SG6 hd
    refine if_f (decide_eq_false c24) ?_
    obtain ⟨h5, h6⟩ := h4 (by omega)
    refine ⟨_, rfl, x, CS, dx, _, _, rfl, hG6, T.cl, T.na _ (by decide), lk6_links, _, rfl, x, CS, dx, _, _, rfl, hG6, T.cl, T.na _ (by decide), lk6size, pl, ls, _, rfl, fLn G6 (fun _ _ _ e => e), fL, fun z hz => (h5 z hz).mono fun H' s => SG6.trans (SameB.of_same s), fun hl => ?_⟩
    have h7 := h6 hl
    refine ⟨_, rfl, x, CS, dx, _, _, rfl, hG6, T.cl, T.na _ (by decide), lk6_rows, _, rfl, x, CS, dx, _, _, rfl, hG6, T.cl, T.na _ (by decide), lk6_tops, _, rfl, x, CS, dx, _, _, rfl, hG6, T.cl, T.na _ (by decide), lk6_links, pr, pt, pl, ws, ls, rfl, fR G6 (fun _ _ _ e => e), fTo G6 (fun _ _ _ e => e), fLn G6 (fun _ _ _ e => e), by omega, by omega, fun w hw => (fW w hw).2.2, fun ptd H7 nptd S7 R7 => ?_⟩
    have hx7 := S7 _ _ hG6
    have SB : SameB x H H7 := SG6.trans (SameB.of_same S7)
    refine ⟨_, rfl, x, CS, dx, _, rfl, hx7, T.cl, T.na _ (by decide), Nat.lt_of_le_of_lt hf6 (by decide), ?_⟩
    have eG7 : SameB x H7 (upd H7 x (.ins CS dx (putF "_told" (V.ref ptd) fs6))) := fun b o n e => (upd_ne n).trans e
    have hG7 : upd H7 x (.ins CS dx (putF "_told" (V.ref ptd) fs6)) x = some (.ins CS dx (putF "_told" (V.ref ptd) fs6)) := upd_same
    have hf7 : (putF "_told" (V.ref ptd) fs6).length ≤ 7 := Nat.le_trans (putF_len _ _ _) (Nat.succ_le_succ hf6)
    have lk7_rows : (putF "_told" (V.ref ptd) fs6).lookup ("_rows" : Str) = some (V.ref pr) := by rw [lookup_putF, if_neg (by decide)]; exact lk6_rows
    have lk7_links : (putF "_told" (V.ref ptd) fs6).lookup ("_links" : Str) = some (V.ref pl) := by rw [lookup_putF, if_neg (by decide)]; exact lk6_links
    have lk7_spots : (putF "_told" (V.ref ptd) fs6).lookup ("_spots" : Str) = some (V.ref ps) := by rw [lookup_putF, if_neg (by decide)]; exact lk6_spots
    have lk7_places : (putF "_told" (V.ref ptd) fs6).lookup ("_places" : Str) = some (V.ref pd) := by rw [lookup_putF, if_neg (by decide)]; exact lk6_places
    have lk7_tops : (putF "_told" (V.ref ptd) fs6).lookup ("_tops" : Str) = some (V.ref pt) := by rw [lookup_putF, if_neg (by decide)]; exact lk6_tops
    have lk7size : (putF "_told" (V.ref ptd) fs6).lookup ("size" : Str) = some (V.int (places ws : Nat)) := by rw [lookup_putF, if_neg (by decide)]; exact lk6size
    have lk7_told : (putF "_told" (V.ref ptd) fs6).lookup ("_told" : Str) = some (V.ref ptd) := by rw [lookup_putF, if_pos rfl]
    have ln7 : ∀ m : Str, m ∉ (["_rows", "_links", "_spots", "_places", "_tops", "size", "_told"] : List Str) → (putF "_told" (V.ref ptd) fs6).lookup m = none := fun m hm => by rw [lookup_putF, if_neg (fun z => hm (by rw [z]; decide))]; exact ln6 m fun z => hm (show m ∈ ((["_rows", "_links", "_spots", "_places", "_tops", "size"] : List Str) ++ [("_told" : Str)]) from List.mem_append_left _ z)
    have SG7 : SameB x H (upd H7 x (.ins CS dx (putF "_told" (V.ref ptd) fs6))) := SB.trans eG7
    generalize upd H7 x (.ins CS dx (putF "_told" (V.ref ptd) fs6)) = G7 at eG7 hG7 SG7
    generalize (putF "_told" (V.ref ptd) fs6) = fs7 at hG7 hf7 ln7 lk7_rows lk7_links lk7_spots lk7_places lk7_tops lk7size lk7_told
    have st := (SameB.of_same S7).trans eG7
    have fR := fun H' (s : SameB x G7 H') => fR H' (st.trans s)
    have fLn := fun H' (s : SameB x G7 H') => fLn H' (st.trans s)
    have fSp := fun H' (s : SameB x G7 H') => fSp H' (st.trans s)
    have fPl := fun H' (s : SameB x G7 H') => fPl H' (st.trans s)
    have fTo := fun H' (s : SameB x G7 H') => fTo H' (st.trans s)
    have R7G : G7 ptd = some (.dT (kvT (toldOf ws ls))) := eG7 _ _ (fun z => by rw [z, hx7] at R7; cases R7) R7
    have tl : (toldOf ws ls).length ≤ 900 := by
      have a := fold_len (limsOf ws ls) []
      have b := lims_len ws ls
      have a : (toldOf ws ls).length ≤ 0 + (limsOf ws ls).length := a
      omega
    refine ⟨_, rfl, x, CS, dx, _, _, rfl, hG7, T.cl, T.na _ (by decide), lk7size, _, rfl, x, CS, dx, _, _, rfl, hG7, T.cl, T.na _ (by decide), lk7_told, places ws, ptd, _, rfl, R7G, by omega, tl, told_nodes hl, fun hsh rg H8 nrg S8 R8 => ?_, fun hsh rg H8 nrg S8 R8 => ?_⟩
    rotate_left
    · obtain ⟨ring, g1, RO⟩ := R8
      have g2 := RO.ne
      have g3 := RO.len
      have g4 := RO.rng
      have hgt : (ring.map V.int).isEmpty = false := by
        cases ring with
        | nil => exact absurd rfl g2
        | cons x r => rfl
      refine ⟨_, rfl, true, .inl ⟨_, SqL.of g1, by rw [hgt]; rfl⟩, if_t rfl ⟨_, rfl, ?_⟩⟩
      refine err_wayL g1 (by rw [List.length_map]; omega) (fun v hv => ?_) fun c d hc hd => ?_
      · obtain ⟨z, hz, rfl⟩ := List.mem_map.mp hv
        have := g4 z hz
        exact .inl ⟨z, rfl, log_of (by decide) (Nat.lt_of_le_of_lt (show z.natAbs ≤ 1000 by omega) (by decide +kernel))⟩
      · exact h7.2 (fun ⟨pi, hpi⟩ => hsh ⟨pi, hpi⟩) _ c d ring (SG7.trans (SameB.of_same (same_tr S8 (same_new hc)))) upd_same RO hd
    have hx8 := S8 _ _ hG7
    have SB : SameB x H H8 := SG7.trans (SameB.of_same S8)
    have st := SameB.of_same (b := x) S8
    refine ⟨_, rfl, false, .inl ⟨[], SqL.of R8, rfl⟩, if_f (by decide) ?_⟩
    have fR := fun H' (s : SameB x H8 H') => fR H' (st.trans s)
    have fLn := fun H' (s : SameB x H8 H') => fLn H' (st.trans s)
    have fSp := fun H' (s : SameB x H8 H') => fSp H' (st.trans s)
    have fPl := fun H' (s : SameB x H8 H') => fPl H' (st.trans s)
    have fTo := fun H' (s : SameB x H8 H') => fTo H' (st.trans s)
    refine ⟨_, rfl, x, CS, dx, _, _, rfl, hx8, T.cl, T.na _ (by decide), lk7size, _, rfl, x, CS, dx, _, _, rfl, hx8, T.cl, T.na _ (by decide), lk7_told, places ws, ptd, _, rfl, S8 _ _ R7G, by omega, told_full ws ls, fun plm H9 nplm S9 R9 => ?_⟩
    have hx9 := S9 _ _ hx8
    have SB : SameB x H H9 := SB.trans (SameB.of_same S9)
    refine ⟨_, rfl, x, CS, dx, _, rfl, hx9, T.cl, T.na _ (by decide), Nat.lt_of_le_of_lt hf7 (by decide), ?_⟩
    have eG8 : SameB x H9 (upd H9 x (.ins CS dx (putF "_limits" (V.ref plm) fs7))) := fun b o n e => (upd_ne n).trans e
    have hG8 : upd H9 x (.ins CS dx (putF "_limits" (V.ref plm) fs7)) x = some (.ins CS dx (putF "_limits" (V.ref plm) fs7)) := upd_same
    have hf8 : (putF "_limits" (V.ref plm) fs7).length ≤ 8 := Nat.le_trans (putF_len _ _ _) (Nat.succ_le_succ hf7)
    have lk8_rows : (putF "_limits" (V.ref plm) fs7).lookup ("_rows" : Str) = some (V.ref pr) := by rw [lookup_putF, if_neg (by decide)]; exact lk7_rows
    have lk8_links : (putF "_limits" (V.ref plm) fs7).lookup ("_links" : Str) = some (V.ref pl) := by rw [lookup_putF, if_neg (by decide)]; exact lk7_links
    have lk8_spots : (putF "_limits" (V.ref plm) fs7).lookup ("_spots" : Str) = some (V.ref ps) := by rw [lookup_putF, if_neg (by decide)]; exact lk7_spots
    have lk8_places : (putF "_limits" (V.ref plm) fs7).lookup ("_places" : Str) = some (V.ref pd) := by rw [lookup_putF, if_neg (by decide)]; exact lk7_places
    have lk8_tops : (putF "_limits" (V.ref plm) fs7).lookup ("_tops" : Str) = some (V.ref pt) := by rw [lookup_putF, if_neg (by decide)]; exact lk7_tops
    have lk8size : (putF "_limits" (V.ref plm) fs7).lookup ("size" : Str) = some (V.int (places ws : Nat)) := by rw [lookup_putF, if_neg (by decide)]; exact lk7size
    have lk8_told : (putF "_limits" (V.ref plm) fs7).lookup ("_told" : Str) = some (V.ref ptd) := by rw [lookup_putF, if_neg (by decide)]; exact lk7_told
    have lk8_limits : (putF "_limits" (V.ref plm) fs7).lookup ("_limits" : Str) = some (V.ref plm) := by rw [lookup_putF, if_pos rfl]
    have ln8 : ∀ m : Str, m ∉ (["_rows", "_links", "_spots", "_places", "_tops", "size", "_told", "_limits"] : List Str) → (putF "_limits" (V.ref plm) fs7).lookup m = none := fun m hm => by rw [lookup_putF, if_neg (fun z => hm (by rw [z]; decide))]; exact ln7 m fun z => hm (show m ∈ ((["_rows", "_links", "_spots", "_places", "_tops", "size", "_told"] : List Str) ++ [("_limits" : Str)]) from List.mem_append_left _ z)
    have SG8 : SameB x H (upd H9 x (.ins CS dx (putF "_limits" (V.ref plm) fs7))) := SB.trans eG8
    generalize upd H9 x (.ins CS dx (putF "_limits" (V.ref plm) fs7)) = G8 at eG8 hG8 SG8
    generalize (putF "_limits" (V.ref plm) fs7) = fs8 at hG8 hf8 ln8 lk8_rows lk8_links lk8_spots lk8_places lk8_tops lk8size lk8_told lk8_limits
    have st := (SameB.of_same S9).trans eG8
    have td8 : G8 ptd = some (.dT (kvT (toldOf ws ls))) := by
      have e := S9 _ _ (S8 _ _ R7G)
      exact eG8 _ _ (fun z => by rw [z, hx9] at e; cases e) e
    obtain ⟨ts8, a8, b8, c8⟩ : TabAt G8 plm (leastSums (places ws) (toldOf ws ls)) := by
      obtain ⟨ts, a, b, c⟩ := R9
      exact ⟨ts, eG8 _ _ (fun z => by rw [z, hx9] at a; cases a) a, b, fun i t r e1 e2 => by
        have e := c i t r e1 e2
        exact eG8 _ _ (fun z => by rw [z, hx9] at e; cases e) e⟩
    have z0 := fun H' (s : SameB x G8 H') => st.trans s
    refine h7.1 hsh G8 SG8 fun Hs n => ⟨dx, fs8, pr, pl, ps, pd, pt, n.new x _ (.inr rfl) hG8, ⟨lk8_rows, (fR G8 st).newIn n hpr⟩, ⟨lk8_links, (fLn G8 st).newIn n hpl0⟩, ⟨lk8_spots, (fSp G8 st).newIn n hps0⟩, ⟨lk8_places, (fPl G8 st).newIn n hpd0⟩, ⟨lk8_tops, n.new _ _ (.inl hpt0) (fTo G8 st)⟩, lk8size, ln8, ptd, plm, lk8_told, n.all _ _ td8, lk8_limits, ts8, n.all _ _ a8, b8, fun i t r e1 e2 => n.all _ _ (c8 i t r e1 e2)⟩
end
end Law




/-! Several except clauses, each with a name for the error or without. -/
namespace TryM
open PySem PySem.Spec PyProof.Rows L2
abbrev Su := Addr → Value → Option Addr → TS
/-- the ends of a suite whose name in slot i goes behind it -/
def endsOf : Option Nat → Ends → Ends
  | none, D => D
  | some i, D => { nx := fun σ' H' => D.nx (σ'.set i none) H', rt := D.rt, bk := fun σ' H' => D.bk (σ'.set i none) H', ct := fun σ' H' => D.ct (σ'.set i none) H' }
def setO : Option Nat → L2.St → Addr → L2.St
  | none, σ, _ => σ
  | some i, σ, a => σ.set i (some (.ref a))
/-- what the clauses wish of an error, from the first on: class, slot of the name, suite -/
def wAsM (K : PySem.W.Frag) (Wout : WX) (D : Ends) : List (Value × Option Nat × Su) → WX
  | [] => Wout
  | (c, i, ts) :: r => fun cls d σ H => ∃ b, PySem.W.exmOne K cls c = some b ∧ (b = true → ∀ a, H a = none → ts a cls d (endsOf i D) (setO i σ a) H) ∧ (b = false → wAsM K Wout D r cls d σ H)
inductive Hds (X : Cx) : List ExceptHandler → List (Value × Option Nat × Su) → Prop
  | nil : Hds X [] []
  | cons {x n : Str} {c : Value} {i : Nat} {ts : Su} {b₀ : Stmt} {suite : List Stmt} {np pos' : Pos} {hds : List ExceptHandler} {l : List (Value × Option Nat × Su)} (hi : X.N[i]? = some n) (hln : X.env.kindOf n = some .local) (hc : Names X x c)
      (hsu : ∀ (a : Addr) (oe : Obj) (cls : Value) (d : Option Addr) (pn : List (Addr × Obj)), Zc cls d oe → (∃ vs, oe.data = .fields vs) → PSs (X.suite a ((a, oe) :: pn)) (b₀ :: suite) (ts a cls d)) (r : Hds X hds l) :
      Hds X (.ExceptHandler (some (.Name x np)) (some n) (b₀ :: suite) pos' :: hds) ((c, some i, ts) :: l)
  | bare {x : Str} {c : Value} {ts : Su} {b₀ : Stmt} {suite : List Stmt} {np pos' : Pos} {hds : List ExceptHandler} {l : List (Value × Option Nat × Su)} (hc : Names X x c)
      (hsu : ∀ (a : Addr) (oe : Obj) (cls : Value) (d : Option Addr) (pn : List (Addr × Obj)), Zc cls d oe → (∃ vs, oe.data = .fields vs) → PSs (X.suite a ((a, oe) :: pn)) (b₀ :: suite) (ts a cls d)) (r : Hds X hds l) :
      Hds X (.ExceptHandler (some (.Name x np)) none (b₀ :: suite) pos' :: hds) ((c, none, ts) :: l)
section
variable {X : Cx} {body : List Stmt} {h₀ : ExceptHandler} {hds : List ExceptHandler} {l : List (Value × Option Nat × Su)} {pos : Pos} {tb : WX → TS} {Wout : WX}
theorem ps_try_asM (hs : X.stack = X.env :: X.outer) (hf : X.env.frame = some X.env.locals) (hN : X.N.Nodup) (tk : Takes X Wout)
    (hb : ∀ (W : WX) (pn : List (Addr × Obj)) (xe : Value → Shared → Prop), Takes (X.tr pn xe) W → PassesOwn (model X.prog X.w) X.A X.env xe → PSs (X.tr pn xe) body (tb W))
    (hh : Hds X (h₀ :: hds) l) : PS X (.Try body (h₀ :: hds) [] [] pos) (fun D σ H => tb (wAsM X.K Wout D l) D σ H) := by
  refine ⟨fun pins s σ H D I h => wpAny_Try_except ?_⟩
  have ok := I.ok
  have hfr : X.A.frames = some (X.env :: X.outer) := by rw [ok.frames, hs]
  refine wpAny_mono ((hb (wAsM X.K Wout D l) (X.pn ++ pins) (fun e s₁ => wpAny (model X.prog X.w) X.A (noteFrame e X.env) (fun _ s₂ => wpAny (model X.prog X.w) X.A (setFlight e none) (fun _ s₃ =>
    wpAny (model X.prog X.w) X.A (handleBy e X.env (h₀ :: hds)) (SP X pins D) X.xe s₃) X.xe s₂) X.xe s₁) (fun u s' xx => ?_) PassesOwn.looking).run [] s σ H D (I.toTry _) h) (fun f s1 hsp => ?_) (fun e s1 he => he)
  · obtain ⟨a, B, sI, pins', σ', H', cls, d, rfl, J', nb, up, sky, na, os, ag, w⟩ := xx
    have J : Inv X pins σ' H' sI := J'.ofTry ok
    show wpAny (model X.prog X.w) X.A (noteFrame (.ref a) X.env) _ _ _
    refine Sky.land Zc.steady hfr hf (show Sky B (X.env :: X.outer) a (Zc cls d) X.env.locals s'.heap by rw [← hs]; exact sky) fun h3 fl3 up3 => ?_
    have J3 : Inv X pins σ' H' { s' with heap := h3 } := J.landed nb fl3.1 (up.trans up3) os ag
    obtain ⟨oe3, vs3, he3, hz3, hd3⟩ := fl3.there
    have nfr : a ∉ frs (X.env :: X.outer) := fun hm => by
      obtain ⟨_, o', e', hnf⟩ := fl3.2.2.1.mem hm
      rw [he3] at e'
      cases e'
      exact hnf _ hd3
    have nL : a ≠ X.env.locals := fun z => nfr (List.mem_filterMap.mpr ⟨X.env, List.mem_cons_self, by rw [hf, z]⟩)
    have nF : a ∉ X.fs := fun hm => by
      obtain ⟨e, he, q⟩ := List.mem_filterMap.mp hm
      exact nfr (List.mem_filterMap.mpr ⟨e, List.mem_cons_of_mem _ he, q⟩)
    have S3 := J3.suite he3 hd3 na nL nF
    have go : ∀ {hds' : List ExceptHandler} {l' : List (Value × Option Nat × Su)}, Hds X hds' l' → wAsM X.K Wout D l' cls d σ' H' →
        wpAny (model X.prog X.w) X.A (handleBy (.ref a) X.env hds') (SP X pins D) X.xe { s' with heap := h3 } := fun {hds' l'} hk => by
      induction hk with
      | nil =>
        intro w
        refine wpAny_handleBy_nil ?_
        obtain ⟨k1, k2, k3, oe, vs, T, oT, ts', he, hz, hd, h1, hr⟩ := id fl3
        unfold PySem.passOn
        refine wpAny_bind (wpAny_field he hd h1 ?_)
        rw [if_neg (show ¬ ((Value.ref T == Value.none) = true) from by simp)]
        have fin : wpAny (model X.prog X.w) X.A (setFlight (.ref a) X.env.frame) (fun _ s4 => wpAny (model X.prog X.w) X.A (throw (.ref a) : Sem Flow) (SP X pins D) X.xe s4) X.xe { s' with heap := h3 } := by
          rw [hf]
          exact HandSPX.setFlight_upZ fl3 fun h4 hh4 up4 => wpAny_throw (tk _ _ ⟨a, B, sI, pins, σ', H', cls, d, rfl, J, nb, (up.trans up3).trans up4, .inr (.inr (by rw [hs]; exact hh4)), na, os, ag, w⟩)
        first
          | exact wpAny_bind (wpAny_pure (wpAny_bind fin))
          | exact wpAny_bind fin
      | @cons x n c i ts b₀ suite np pos' hds2 l2 hi hln hc hsu r ih =>
        intro w
        obtain ⟨b, hb1, hyes, hno⟩ := w
        refine wpAny_handleBy_cons (codeAny_handlers_test ?_) (by intro q; cases q)
        have LT : PySem.W.Looks (model X.prog X.w) h3 (typeOf (.ref a)) cls := fun A Q E s k q => wpAny_typeOf_ref (k _ _ he3) (by rw [hz3.1]; exact q)
        have LM := PySem.W.exm_one (M := model X.prog X.w) (J3.kIn) LT hb1
        have test : ∀ {Q : Value → Shared → Prop} {E : Value → Shared → Prop}, Q c { s' with heap := h3 } → wpAny (model X.prog X.w) (X.A.mark (some (.ref a))) (eval (.Name x np) X.env) Q E { s' with heap := h3 } := fun {Q E} q => by
          obtain ⟨hg, hdbg, hm | ⟨hm, hv, hnn⟩⟩ := hc
          · exact ld_glob (X := X.suite a ((a, oe3) :: (X.pn ++ pins))) S3 hg hm q hdbg
          · exact ld_blt (X := X.suite a ((a, oe3) :: (X.pn ++ pins))) S3 hg hm hv q hnn hdbg
        refine test (LM.here ?_)
        cases b with
        | false => exact ih (hno rfl)
        | true =>
          refine codeAny_handlers_suite_as (HandSPX.lands_againZ fl3 fun h4 fl4 up4 => ?_)
          have J4 : Inv X pins σ' H' { s' with heap := h4 } := J.landed nb fl4.1 ((up.trans up3).trans up4) os ag
          obtain ⟨oe4, vs4, he4, hz4, hd4⟩ := fl4.there
          refine store_ok (X := X.suite a ((a, oe4) :: (X.pn ++ pins))) (v := .ref a) (J4.suite he4 hd4 na nL nF) hN hi (.inl hln) rfl (fun s5 S5 => ?_) (.inr hln)
          refine wpAny_mono ((hsu a oe4 cls d (X.pn ++ pins) hz4 ⟨_, hd4⟩).run [] s5 _ H' _ S5 (hyes rfl a na)) (fun f s6 hsp => ?_) (fun _ _ z => False.elim z)
          cases f with
          | next =>
            obtain ⟨σ6, H6, S6, q6⟩ := hsp
            exact gone_ok (S6.unsuite ok) hN hi hln fun s7 J7 => ⟨_, _, J7, q6⟩
          | brk =>
            obtain ⟨σ6, H6, S6, q6⟩ := hsp
            exact gone_ok (S6.unsuite ok) hN hi hln fun s7 J7 => ⟨_, _, J7, q6⟩
          | cont =>
            obtain ⟨σ6, H6, S6, q6⟩ := hsp
            exact gone_ok (S6.unsuite ok) hN hi hln fun s7 J7 => ⟨_, _, J7, q6⟩
          | ret u =>
            obtain ⟨v6, σ6, H6, S6, r6, q6⟩ := hsp
            exact gone_ok (S6.unsuite ok) hN hi hln fun s7 J7 => ⟨_, _, _, J7, r6, q6⟩
      | @bare x c ts b₀ suite np pos' hds2 l2 hc hsu r ih =>
        intro w
        obtain ⟨b, hb1, hyes, hno⟩ := w
        refine wpAny_handleBy_cons (codeAny_handlers_test ?_) (by intro q; cases q)
        have LT : PySem.W.Looks (model X.prog X.w) h3 (typeOf (.ref a)) cls := fun A Q E s k q => wpAny_typeOf_ref (k _ _ he3) (by rw [hz3.1]; exact q)
        have LM := PySem.W.exm_one (M := model X.prog X.w) (J3.kIn) LT hb1
        have test : ∀ {Q : Value → Shared → Prop} {E : Value → Shared → Prop}, Q c { s' with heap := h3 } → wpAny (model X.prog X.w) (X.A.mark (some (.ref a))) (eval (.Name x np) X.env) Q E { s' with heap := h3 } := fun {Q E} q => by
          obtain ⟨hg, hdbg, hm | ⟨hm, hv, hnn⟩⟩ := hc
          · exact ld_glob (X := X.suite a ((a, oe3) :: (X.pn ++ pins))) S3 hg hm q hdbg
          · exact ld_blt (X := X.suite a ((a, oe3) :: (X.pn ++ pins))) S3 hg hm hv q hnn hdbg
        refine test (LM.here ?_)
        cases b with
        | false => exact ih (hno rfl)
        | true =>
          refine codeAny_handlers_suite ?_
          refine HandSPX.lands_againZ fl3 fun h4 fl4 up4 => ?_
          have J4 : Inv X pins σ' H' { s' with heap := h4 } := J.landed nb fl4.1 ((up.trans up3).trans up4) os ag
          obtain ⟨oe4, vs4, he4, hz4, hd4⟩ := fl4.there
          have S4 := J4.suite he4 hd4 na nL nF
          refine wpAny_mono ((hsu a oe4 cls d (X.pn ++ pins) hz4 ⟨_, hd4⟩).run [] _ _ H' _ S4 (hyes rfl a na)) (fun f s6 hsp => ?_) (fun _ _ z => False.elim z)
          cases f with
          | next =>
            obtain ⟨σ6, H6, S6, q6⟩ := hsp
            exact ⟨_, _, S6.unsuite ok, q6⟩
          | brk =>
            obtain ⟨σ6, H6, S6, q6⟩ := hsp
            exact ⟨_, _, S6.unsuite ok, q6⟩
          | cont =>
            obtain ⟨σ6, H6, S6, q6⟩ := hsp
            exact ⟨_, _, S6.unsuite ok, q6⟩
          | ret u =>
            obtain ⟨v6, σ6, H6, S6, r6, q6⟩ := hsp
            exact ⟨_, _, _, S6.unsuite ok, r6, q6⟩
    exact go hh w
  · cases f with
    | next =>
      obtain ⟨σ', H', J', q⟩ := hsp
      exact wpAny_execs_nil ⟨σ', H', J'.ofTry ok, q⟩
    | brk =>
      obtain ⟨σ', H', J', q⟩ := hsp
      exact ⟨σ', H', J'.ofTry ok, q⟩
    | cont =>
      obtain ⟨σ', H', J', q⟩ := hsp
      exact ⟨σ', H', J'.ofTry ok, q⟩
    | ret u =>
      obtain ⟨v, σ', H', J', r, q⟩ := hsp
      exact ⟨v, σ', H', J'.ofTry ok, r, q⟩
end
end TryM

/-! a, b, *c = a list: what is left goes into a new list. -/
namespace StarT
open PySem PySem.Spec PyProof.Rows
section
variable {prog : Program} {w : World} {A : Around} {E : Value → Shared → Prop} {s : Shared}
theorem walkS_list (hh : A.handled = none) (it l : Addr) (hne : l ≠ it) (items : Array Value) (k0 : Nat) (hk : k0 ≤ items.size) :
    WalksS prog w A it [it, l] [it] (fun a b => a = b) (items.size - k0) (fun i v => items[k0 + i]? = some v) (fun i s => s.heap.IsListIter it l (k0 + i) ∧ s.heap.IsList l items) where
  sub := fun b hb => by rw [List.mem_singleton.mp hb]; exact List.mem_cons_self ..
  grefl := fun _ => rfl
  gtrans := fun _ _ _ h1 h2 => h1.trans h2
  frame := fun _ _ _ _ st _ hk => ⟨st.1.at fun o e => hk it (by simp) o e, st.2.at fun o e => hk l (by simp) o e⟩
  item := fun i s Q E hi st hQ => by
    obtain ⟨hit, hl⟩ := st
    have hlt : k0 + i < items.size := by omega
    refine wpAny_pyNext_list_item hit hl (x := items[k0 + i]) (by simp [hlt]) fun h' hit' hs' => ?_
    exact hQ _ _ (by simp [hlt]) ⟨hit', hl.extBut hs'.extBut hne⟩ ⟨fun b o hb e => hs'.extBut b o (fun z => hb (by simp [z])) e, rfl, rfl, rfl, Nat.le_refl _⟩
  done := fun s Q E st hQ => by
    obtain ⟨hit, hl⟩ := st
    refine wpAny_pyNext_list_end hh hit hl (by rw [show k0 + (items.size - k0) = items.size by omega]; simp) fun h' he => ?_
    exact hQ _ ⟨fun b o hb e => he b o (fun z => hb (by simp [z])) e, rfl, rfl, rfl, Nat.le_refl _⟩
  self := fun _ _ _ _ st h => wpAny_pyIter_listiter st.1 h
theorem unpack_star {l : Addr} {items : Array Value} {i : Nat} {Q : List Value → Shared → Prop} (hh : A.handled = none) (hh1 : A.in1.handled = none) (hl : s.heap.IsList l items) (hi : i ≤ items.size) (hz : items.size ≤ sizeLine)
    (hQ : ∀ (s' : Shared), (∀ b o, s.heap.get? b = some o → s'.heap.get? b = some o) → s'.gens = s.gens → s'.drawn = s.drawn → s'.os = s.os → s.toks ≤ s'.toks →
      Q (items.toList.take i ++ [.ref s'.heap.objs.size]) { s' with heap := s'.heap.push { cls := .type "list", data := .seq (items.toList.drop i).toArray } }) :
    wpAny (model prog w) A (unpackItems (.ref l) (i + 1) (some i)) Q E s := by
  have hlt : l ≠ s.heap.objs.size := by obtain ⟨o, ho, _⟩ := hl; exact Nat.ne_of_lt (Heap.lt_size ho)
  unfold unpackItems
  refine wpAny_bind ?_
  unfold notIterableAtAll
  refine wpAny_bind (wpAny_specialOf hl.typeIs F.slot_list_iter.lookup ?_)
  refine wpAny_pure ?_
  simp only [Bool.false_eq_true, if_false]
  refine wpAny_bind (wpAny_holding (wpAny_pyIter_list hl ?_))
  refine wpAny_bind (wpAny_holding (PySem.W.kun_draw hlt i 0 _ _ ⟨_, Heap.get?_push_size _ rfl, rfl, rfl⟩ (hl.push _) (by omega) fun h₁ hit₁ hs₁ => ?_))
  rw [List.drop_zero]
  have len : (items.toList.take i).length = i := by rw [List.length_take, Array.length_toList]; omega
  rw [if_neg (by rw [len]; omega)]
  have hl₁ : h₁.IsList l items := (hl.push _).extBut hs₁.extBut hlt
  have z1 : h₁.objs.size = s.heap.objs.size + 1 := by rw [hs₁.1, Heap.size_push]
  rw [Nat.zero_add] at hit₁
  refine wpAny_bind (wpAny_holding (wpAny_collect_iter (s := { s with heap := h₁ }) (T := "list_iterator") (.inr (.inr (.inl rfl))) (walkS_list hh1 s.heap.objs.size l hlt items i hi) (fun j s' st => by obtain ⟨⟨o, ho, hc, _⟩, _⟩ := st; exact ⟨o, ho, hc⟩) ⟨by rw [Nat.add_zero]; exact hit₁, hl₁⟩ (fun b hb => ?_) (by simp) (fun s' acc mv io => ?_) (by omega)))
  · show b < h₁.objs.size
    have e' : b = s.heap.objs.size ∨ b = l := by simpa using hb
    rcases e' with z | z
    · rw [z, z1]; exact Nat.lt_succ_self _
    · rw [z]
      obtain ⟨o, ho, _⟩ := hl
      rw [z1]
      exact Nat.lt_succ_of_lt (Heap.lt_size ho)
  · have ea : acc.toList = items.toList.drop i := by
      refine List.ext_getElem? fun j => ?_
      rw [List.getElem?_drop, Array.getElem?_toList, Array.getElem?_toList]
      by_cases c : j < acc.size
      · have h1 : acc[j]? = some acc[j] := Array.getElem?_eq_getElem c
        rw [h1]
        exact (io.2 j _ h1).symm
      · rw [Array.getElem?_eq_none (by omega), Array.getElem?_eq_none (by have := io.1; omega)]
    rw [ea]
    have dl : (items.toList.drop i).length = items.size - i := by rw [List.length_drop, Array.length_toList]
    have e0 : i + 1 - 1 - i = 0 := by omega
    rw [e0, if_neg (by omega), Nat.sub_zero, List.take_length, List.drop_length]
    refine wpAny_bind (wpAny_newList (wpAny_pure ?_) (by rw [dl]; omega))
    rw [List.append_nil]
    refine hQ s' (fun b o e => mv.heap b o (fun z => ?_) (hs₁.extBut b o (fun z => ?_) (Heap.get?_push_of_some _ e))) mv.gens.symm mv.drawn mv.os mv.toks
    · have := Heap.lt_size e
      rw [List.mem_singleton.mp z] at this
      exact Nat.lt_irrefl _ this
    · have := Heap.lt_size e
      rw [z] at this
      exact Nat.lt_irrefl _ this
end
end StarT
namespace L2
open PySem PySem.Spec PyProof.Rows
/-- a, b, *c = a list of that length or more -/
def gStar (K : PySem.W.Frag) (n : Nat) (t : TGs) : TG := fun v σ H Q => ∃ a xs, v = .ref a ∧ SqL K H a xs ∧ n ≤ xs.length ∧ ∀ D, H D = none → t (xs.take n ++ [.ref D]) σ (upd H D (.lst (xs.drop n))) Q
theorem valsTake : ∀ (n : Nat) {xs : List V} {us : List Value}, Vals xs us → Vals (xs.take n) (us.take n)
  | 0, _, _, _ => .nil
  | n + 1, _, _, .nil => .nil
  | n + 1, _, _, .cons r t => .cons r (valsTake n t)
theorem valsDrop : ∀ (n : Nat) {xs : List V} {us : List Value}, Vals xs us → Vals (xs.drop n) (us.drop n)
  | 0, _, _, h => h
  | n + 1, _, _, .nil => .nil
  | n + 1, _, _, .cons _ t => valsDrop n t
section
variable {X : Cx} {pos : Pos}
theorem pg_star {es : List Expr} {k : Nat} {t : TGs} {n : Nat} (hc : X.calm = true) (h : PGs X es t)
    (hn : (assignEach es X.env).length = n + 1 := by rfl) (hst : (assignEach es X.env).findIdx? (·.1) = some n := by rfl) : PG X (.Tuple es k pos) (gStar X.K n t) := by
  refine ⟨fun pins s σ H v u Q I r hw => ?_⟩
  obtain ⟨a, xs, e1, hq, hl, hw⟩ := hw
  subst e1
  cases r
  obtain ⟨its, rv, pl, hz⟩ := I.list hq
  have il : its.length = xs.length := rv.length.symm
  rw [PyProof.Rows.assign_Tuple]
  refine wpAny_bind (wpAny_standAt ?_)
  unfold unpack
  rw [hn, hst]
  refine wpAny_bind (wpAny_holding (StarT.unpack_star (I.ok.hd hc) (I.ok.hd hc) pl.isList (by rw [List.size_toArray]; omega) (by rw [List.size_toArray]; omega) fun s' hk hg hd ho ht => ?_))
  have I1 : Inv X pins σ H s' := by
    have := I.kept (h' := s'.heap) (t' := s'.toks) hk
    rw [← hg, ← hd, ← ho] at this
    exact this
  have hf : H s'.heap.objs.size = none := I1.hok.fresh (Nat.le_refl _)
  have tk : (its.toArray.toList.take n) = its.take n := by simp
  have dk : (its.toArray.toList.drop n) = its.drop n := by simp
  rw [tk, dk]
  have I2 : Inv X pins σ (upd H s'.heap.objs.size (.lst (xs.drop n))) { s' with heap := s'.heap.push { cls := .type "list", data := .seq (its.drop n).toArray } } :=
    I1.laid (t' := s'.toks) (fun b u e => Heap.get?_push_of_some _ e) (Nat.le_refl _) ⟨by rw [List.length_drop]; omega, its.drop n, 0, valsDrop n rv, Heap.get?_push_size _ rfl⟩
  exact h.run pins _ σ _ _ _ Q I2 ((valsTake n rv).append (show Vals [V.ref s'.heap.objs.size] [Value.ref s'.heap.objs.size] from .cons rfl .nil)) (hw _ hf)
end
end L2

/-! Trials made; words. -/
namespace Law
open PySem PySem.Spec PyProof.Rows L2 Sup
abbrev sTini : Stmt := inClass (top 34) 0
def Tri (CT : Addr) (H : Hp) (x : Addr) (p h : Int) (r : Bool) : Prop := ∃ dx fs, H x = some (.ins CT dx fs) ∧ fs.lookup ("place" : Str) = some (V.int p) ∧ fs.lookup ("height" : Str) = some (V.int h) ∧ fs.lookup ("reached" : Str) = some (V.bl r) ∧ fs.lookup ("agrees" : Str) = none
theorem Tri.same {CT : Addr} {H H' : Hp} {x : Addr} {p h : Int} {r : Bool} (t : Tri CT H x p h r) (s : Same H H') : Tri CT H' x p h r := by
  obtain ⟨dx, fs, h1, h2⟩ := t
  exact ⟨dx, fs, s _ _ h1, h2⟩
structure TriTxt (K : PySem.W.Frag) (mg : Str → Option Value) (CT : Addr) : Prop where
  cl : Cls K CT
  nP : NoAttr K CT "place"
  nH : NoAttr K CT "height"
  nR : NoAttr K CT "reached"
def spTini (CT : Addr) : Sp := fun vs H Q _ => ∃ (x : Addr) (p h : Int) (r : Bool) (dx : Addr), vs = [.ref x, .int p, .int h, .bl r] ∧ H x = some (.ins CT dx []) ∧
  (∀ fs, fs.lookup ("place" : Str) = some (V.int p) → fs.lookup ("height" : Str) = some (V.int h) → fs.lookup ("reached" : Str) = some (V.bl r) → fs.lookup ("agrees" : Str) = none → Q .non (upd H x (.ins CT dx fs)))
theorem mk_tri {CT : Addr} {p h : Int} {r : Bool} {H1 : Hp} {Q : VK} {E : XK} (h2 : ∀ x H2, H1 x = none → Same H1 H2 → Tri CT H2 x p h r → Q (.ref x) H2) :
    Own.MkS CT (spTini CT) E [.int p, .int h, .bl r] H1 Q := ⟨fun x dx hx hdx hne => by
  refine ⟨x, p, h, r, dx, rfl, upd_same, fun fs l1 l2 l3 l4 => ⟨rfl, ?_⟩⟩
  rw [upd_upd]
  refine h2 x _ hx (fun b o e => ?_) ⟨dx, fs, upd_same, l1, l2, l3, l4⟩
  rw [upd_ne (ne_of_none e hx), upd_ne (ne_of_none e hdx)]
  exact e⟩
theorem Box.neL3 {H : Hp} {b l p : Addr} {ts : List Addr} (B : Box H b l) (h : H p = some (.lst (ts.map V.ref))) : p ≠ b := fun z => by
  obtain ⟨_, _, _, _, q, _⟩ := B
  rw [z, q] at h
  have e := HO.lst.inj (Option.some.inj h)
  match ts, e with
  | [], e => cases e
  | [_], e => cases e
  | _ :: _ :: _, e =>
    rw [List.map_cons, List.map_cons] at e
    injection e with _ e
    injection e with e _
    cases e
theorem sqT_sameB {K : PySem.W.Frag} {H H' : Hp} {b l a : Addr} {xs : List V} (h : SqT K H a xs) (B : Box H b l) (s : SameB b H H') : SqT K H' a xs := by
  obtain ⟨_, _, _, _, q, _⟩ := B
  rcases h with (h | ⟨o, h⟩) | h
  · exact .inl (.inl (s _ _ (fun z => by rw [z, q] at h; cases h) h))
  · exact .inl (.inr ⟨o, s _ _ (fun z => by rw [z, q] at h; cases h) h⟩)
  · exact .inr h
theorem WalT.sameB {K : PySem.W.Frag} {H H' : Hp} {b l t : Addr} {w : Wal} (h : WalT K H t w) (B : Box H b l) (s : SameB b H H') : WalT K H' t w := by
  obtain ⟨sp, h1, h2⟩ := h
  exact ⟨sp, s _ _ (B.neT h1) h1, sqT_sameB h2 B s⟩
theorem WalsAt.sameB {K : PySem.W.Frag} {H H' : Hp} {b l p : Addr} {ws : List Wal} (h : WalsAt K H p ws) (B : Box H b l) (s : SameB b H H') : WalsAt K H' p ws := by
  obtain ⟨ts, h1, h2, h3⟩ := h
  exact ⟨ts, s _ _ (B.neL3 h1) h1, h2, fun i t w e1 e2 => (h3 i t w e1 e2).sameB B s⟩
def Wd (y : Str) : Prop := y.cps.toList ≠ [] ∧ ∀ c ∈ y.cps.toList, c ≠ 32 ∧ c ≠ 10
section
variable {P : Program} {w : World} {K : PySem.W.Frag} {mg : Str → Option Value} {base : Heap} {CP CT : Addr}
theorem scTini : FnScope ["self", "place", "height", "reached"] ["self", "place", "height", "reached"] (defScope sTini) := ⟨rfl, rfl, rfl, by decide +kernel, rfl, by decide +kernel, by decide +kernel⟩
theorem ok_tini {f : Addr} {fd : FuncData} (F : Fun K "__init__" "Trial.__init__" sTini f fd) (T : TriTxt K mg CT) : FnOk P w K mg base CX0 1 f fd ["self", "place", "height", "reached"] (spTini CT) := by
  refine F.ok scTini (fun vs H Q E h => ?_) (fun cdv A outer s H vs Q E hr h => ?_)
  · obtain ⟨x, p, h, r, dx, rfl, _⟩ := h
    rfl
  · obtain ⟨x, p, h, r, dx, rfl, hx, k⟩ := h
    refine ⟨_, (pss_cons (ps_fld (pv 0) (pv 1) rfl)
      (pss_cons (ps_fld (pv 0) (pv 2) rfl)
      (pss_one (ps_fld (pv 0) (pv 3) rfl)))), ?_⟩
    refine ⟨_, rfl, _, rfl, x, CT, dx, _, rfl, hx, T.cl, T.nP, by show 0 < 1000; decide, ?_⟩
    refine ⟨_, rfl, _, rfl, x, CT, dx, _, rfl, upd_same, T.cl, T.nH, by show 1 < 1000; decide, ?_⟩
    refine ⟨_, rfl, _, rfl, x, CT, dx, _, rfl, upd_same, T.cl, T.nR, by show 2 < 1000; decide, ?_⟩
    rw [upd_upd, upd_upd]
    exact k _ rfl rfl rfl rfl
end
end Law

/-! enumerate(xs, start=k), xs a list. -/
namespace EnumS
open PySem PySem.Spec PyProof.Rows L2 ItSeq
section
variable {M : Model} {A : Around} {E : Value → Shared → Prop} {s : Shared} {env : Env}
theorem callWith_type_kwB {pos : Pos} {T : String} {first : List Value} {args : List (Bool × Sem Value)} {keywords : List (Option Str × Sem Value)} {Q : Value → Shared → Prop}
    (hplain : args.any (·.1) = false) (hkw : keywords.any (·.1.isNone) = false)
    (h : wpAny M A (evalArgs (.type T) true args keywords) (fun a s₁ => wpAny M A (call (.type T) (first ++ a.pos) a.kw) Q E s₁) E s) :
    wpAny M A (callWith pos (.type T) first args keywords) Q E s := by
  unfold callWith
  refine wpAny_bind (wpAny_holding (wpAny_mono h (fun a s₁ h₁ => wpAny_bind (wpAny_standAt ?_)) fun _ _ x => x))
  simp only [hplain, hkw, Bool.or_false]
  refine wpAny_bind (wpAny_pure ?_)
  exact wpAny_bind (wpAny_mono h₁ (fun r s₂ hr => wpAny_bind (wpAny_holding (wpAny_point (wpAny_pure hr)))) fun _ _ x => x)
theorem callWith_tkw {pos : Pos} {T : String} {e : Expr} {rest : List Expr} {kws : List Keyword} {Q : Value → Shared → Prop}
    (h : wpAny M A (spliced (backTo pos (starEach (e :: rest) env))) (fun vs s₁ => wpAny M A (evalAll ((backToKw pos (keywordEach kws env)).map (·.2)))
      (fun kvs s₂ => wpAny M A (call (.type T) vs (((backToKw pos (keywordEach kws env)).filterMap (·.1)).zip kvs)) Q E s₂) E s₁) E s)
    (he : backTo pos (starEach (e :: rest) env) = (false, eval e env) :: backTo pos (starEach rest env) := by rfl)
    (hplain : (backTo pos (starEach (e :: rest) env)).any (·.1) = false := by rfl)
    (hall : (backToKw pos (keywordEach kws env)).all (·.1.isSome) = true := by rfl)
    (hkw : (backToKw pos (keywordEach kws env)).any (·.1.isNone) = false := by rfl) :
    wpAny M A (callWith pos (.type T) [] (backTo pos (starEach (e :: rest) env)) (backToKw pos (keywordEach kws env))) Q E s := by
  refine callWith_type_kwB hplain hkw ?_
  rw [he] at h ⊢
  exact evalArgs_kwB hall h
end
/-- the list at a, each item in a new pair, the count from c on -/
def Ites (K : PySem.W.Frag) (a : Addr) (c : Int) : It :=
  ⟨fun i H => ∃ (xs : List V) (x : V), SqL K H a xs ∧ xs[i]? = some x, fun i H v H' => ∃ T x, v = .ref T ∧ H T = none ∧ H' = upd H T (.tup [.int (c + (i : Nat)), x]) ∧ ∀ xs, SqL K H a xs → xs[i]? = some x, fun i H => ∃ xs : List V, SqL K H a xs ∧ xs.length = i⟩
theorem turn_enumS {P : Program} {w : World} {K : PySem.W.Frag} {elts : List Expr} {kk : Nat} {tpos : Pos} (a e it : Addr) (c : Int) :
    Turn P w K (.Tuple elts kk tpos) (Ites K a c) [e, it] e (fun i h => (∃ old, IsEnum h e it (c + ((i : Nat) : Int)) old) ∧ h.IsListIter it a i ∧ e ≠ it ∧ e ≠ a ∧ a ≠ it) where
  mem := by simp
  obj := fun i h st b hb => by
    obtain ⟨⟨old, he⟩, ⟨o, ho, hc, hd⟩, _⟩ := st
    have e' : b = e ∨ b = it := by simpa using hb
    rcases e' with z | z
    · rw [z]; exact ⟨_, he, fun v q => nomatch q⟩
    · rw [z]; exact ⟨o, ho, fun v q => by rw [hd] at q; cases q⟩
  keep := fun i h h' st k => let ⟨⟨old, he⟩, hi, hne⟩ := st; ⟨⟨old, k e (by simp) _ he⟩, hi.at fun o q => k it (by simp) o q, hne⟩
  item := by
    intro X hP hw hK hc i pins s σ H E I hf st hg
    subst hP hw hK
    obtain ⟨⟨old, he⟩, hit, hne, hea, hai⟩ := st
    obtain ⟨xs, x, hq, hx⟩ := hg
    obtain ⟨its, rv, p, hz⟩ := I.list hq
    obtain ⟨u, hu, ru⟩ := rv.get hx
    have hel : e < s.heap.objs.size := Heap.lt_size he
    have hil : it < s.heap.objs.size := by obtain ⟨_, q, _⟩ := hit; exact Heap.lt_size q
    have hlt : i < its.toArray.size := by
      have := (List.getElem?_eq_some_iff.mp hu).1
      simpa using this
    have D := Draws.list (prog := X.prog) (w := X.w) (A := X.A.in1) (I.ok.hd hc) it a hai its.toArray
    refine wpAny_pyNext_enum_itemC D he ⟨hit, p.isList⟩ hlt hne (by simp [hne, hea]) fun y h' tk hy ho hst hT hsz hk => ?_
    have ey : y = u := by
      have z : its.toArray[i]? = some u := by simpa using hu
      rw [z] at hy
      exact (Option.some.inj hy).symm
    subst ey
    refine ⟨_, rfl, wpAny_letOwnedTupleGo_enum (s := { s with heap := h', toks := tk + 1 }) ho fun h'' he' sb => ?_⟩
    have hT2 : h''.get? s.heap.objs.size = some { cls := .type "tuple", data := .seq #[.int (c + (i : Nat)) tk, y] } := (sb.2 _ (Nat.ne_of_gt hel)).trans hT
    have new : ObjOk X.prog X.w (upd H s.heap.objs.size (.tup [.int (c + (i : Nat)), x])) h'' s.heap.objs.size (.tup [.int (c + (i : Nat)), x]) :=
      ⟨by show 2 ≤ sizeLine; decide, [.int (c + (i : Nat)) tk, y], .cons ⟨_, rfl⟩ (.cons ru .nil), ⟨_, hT2, rfl, _, rfl⟩⟩
    have I1 : Inv X pins σ (upd H s.heap.objs.size (.tup [.int (c + (i : Nat)), x])) { s with heap := h'', toks := tk + 1 } :=
      I.turnedNew (ch := [e, it]) (fun b ob hb q => (sb.2 b (fun z => hb (by simp [z]))).trans (hk b ob (fun z => hb (by simp [z])) (fun z => hb (by simp [z])) q)) hf (Nat.le_refl _) new
    refine ⟨.ref s.heap.objs.size, _, I1, rfl, ⟨_, x, rfl, I.hok.fresh (Nat.le_refl _), rfl, fun ys hy => by rw [I.list_inj hy hq]; exact hx⟩, ⟨⟨y, ?_⟩, hst.1.at fun o q => (sb.2 it (Ne.symm hne)).trans q, hne, hea, hai⟩, fun b hb => ?_⟩
    · have e1 : c + ((i + 1 : Nat) : Int) = c + (i : Int) + 1 := by omega
      rw [e1]; exact he'
    · have hb' : b < s.heap.objs.size := by
        have e' : b = e ∨ b = it := by simpa using hb
        rcases e' with z | z
        · rw [z]; exact hel
        · rw [z]; exact hil
      rw [upd_ne (Nat.ne_of_lt hb')]
      exact (hf b hb).1
  done := by
    intro X hP hw hK hc i pins s σ H E I hf st hg
    subst hP hw hK
    obtain ⟨⟨old, he⟩, hit, hne, hea, hai⟩ := st
    obtain ⟨xs, hq, hx⟩ := hg
    obtain ⟨its, rv, p, hz⟩ := I.list hq
    obtain ⟨f0, f1, f2, f3, f4, f5⟩ := hf it (by simp)
    have hl := rv.length
    have D := Draws.list (prog := X.prog) (w := X.w) (A := X.A.in1) (I.ok.hd hc) it a hai its.toArray
    have ei : i = its.toArray.size := by simp; omega
    refine wpAny_pyNext_enum_endD D he ⟨by rw [← ei]; exact hit, p.isList⟩ fun h' eb => ⟨rfl, I.turned (t' := s.toks) (fun b o hb q => eb b o hb q) f0 f1 f3 f4 f5⟩
  self := fun A i s Q E st h => let ⟨⟨_, he⟩, _⟩ := st; wpAny_pyIter_enum he h
/-- a list enumerated from c on: it is walked alike as long as all stands -/
def iEnC (K : PySem.W.Frag) (ta tk : TA) : TI := fun σ H R => ta σ H fun vs H1 => tk σ H1 fun zs H2 => ∃ a xs c, vs = [.ref a] ∧ zs = [.int c] ∧ -(2 ^ 63) ≤ c ∧ c < 2 ^ 63 ∧ SqL K H2 a xs ∧ ∀ J, Walk J xs.length (fun H => Same H2 H) (YPair (fun i => some (.int (c + (i : Nat)))) (fun i => xs[i]?)) → R J H2
theorem pi_enC {X : Cx} {e : Expr} {kws : List Keyword} {ta tk : TA} {p pos tpos : Pos} {elts : List Expr} {kk : Nat} (hg : Gl X "enumerate") (hm : X.mg "enumerate" = none) (ha : PA X [e] ta) (hk : PK X kws tk)
    (he : backTo pos (starEach [e] X.env) = (false, eval e X.env) :: backTo pos (starEach [] X.env) := by rfl) (hpl : (backTo pos (starEach [e] X.env)).any (·.1) = false := by rfl)
    (hall : (backToKw pos (keywordEach kws X.env)).all (·.1.isSome) = true := by rfl) (hnone : (backToKw pos (keywordEach kws X.env)).any (·.1.isNone) = false := by rfl) (hks : (backToKw pos (keywordEach kws X.env)).filterMap (·.1) = [Str.ofString "start"] := by rfl) :
    PI X (.Tuple elts kk tpos) (.Call (.Name "enumerate" p) [e] kws pos) (iEnC X.K ta tk) := by
  refine ⟨fun pins s σ H R I h => ?_⟩
  refine wpAny_Call_Name_kw (ld_blt I hg hm boot_enumerate ?_ (by decide) (by decide))
  refine callWith_tkw (thn (ha.run pos pins s σ H _ I h) fun us s0 ⟨vs, H1, I1, r1, q1⟩ => thn (hk.run pos pins s0 σ H1 _ I1 q1) fun ws s1 ⟨zs, H2, I2, r2, q2⟩ => ?_) he hpl hall hnone
  rw [hks]
  obtain ⟨a, xs, c, ex, ez, c0, c1, hq, q⟩ := q2
  subst ex
  subst ez
  cases r1 with
  | cons r rr =>
    cases rr
    cases r
    obtain ⟨u, rfl, ru⟩ := r2.one
    obtain ⟨tt, rfl⟩ := ru
    have fp : ∀ b ∈ [s1.heap.objs.size + 1, s1.heap.objs.size], FpOk X pins H2 b := fun b hb => by
      have e' : b = s1.heap.objs.size + 1 ∨ b = s1.heap.objs.size := by simpa using hb
      have hle : s1.heap.objs.size ≤ b := by
        rcases e' with z | z
        · rw [z]; exact Nat.le_add_right _ _
        · rw [z]; exact Nat.le_refl _
      exact I2.fpOk hle (I2.hok.fresh hle)
    obtain ⟨its, rv, p', hz⟩ := I2.list hq
    have hlt : a < s1.heap.objs.size := by
      obtain ⟨o, n, z, _⟩ := p'
      exact Heap.lt_size z
    show wpAny _ _ (call (.type "enumerate") [.ref a] [(Str.ofString "start", .int c tt)]) _ _ _
    refine enum_begins_start (begins_list a its.toArray) p'.isList c0 c1 fun h' he hit hsz hk => wpAny_pyIter_enum he ?_
    have I3 : Inv X pins σ H2 { s1 with heap := h' } := I2.kept (t' := s1.toks) hk
    refine ⟨s1.heap.objs.size + 1, [s1.heap.objs.size + 1, s1.heap.objs.size], _, _, H2, rfl, I3, turn_enumS a (s1.heap.objs.size + 1) s1.heap.objs.size c, ⟨⟨.none, by rw [show c + ((0 : Nat) : Int) = c by omega]; exact he⟩, ⟨_, hit, rfl, rfl⟩, Nat.succ_ne_self _, Ne.symm (Nat.ne_of_lt (Nat.lt_succ_of_lt hlt)), Nat.ne_of_lt hlt⟩, fp, q _ ⟨fun i H hi s => ⟨xs, xs[i], sqL_same hq s, by simp [hi]⟩, fun H s => ⟨xs, sqL_same hq s, rfl⟩, fun i H v H' _ s y => ?_⟩⟩
    obtain ⟨T, x, h1, h2, h3, h4⟩ := y
    exact ⟨T, .int (c + (i : Nat)), x, h1, h2, h3, rfl, h4 xs (sqL_same hq s)⟩
end EnumS
/-! Texts of numbers, lines of words. -/
namespace Law
open PySem PySem.Spec PyProof.Rows L2 SX NumText
/-- the signs of a number -/
def iL : Int → List Nat
  | .ofNat n => TL.numL n
  | .negSucc n => 45 :: TL.numL (n + 1)
theorem iL_str (n : Int) : Str.ofString (toString n) = S (iL n) := by
  refine TL.ext_tl ?_
  cases n with
  | ofNat n => exact TL.tl_num n
  | negSucc n =>
    rw [TL.tl_ofString, show toString (Int.negSucc n) = "-" ++ toString (n + 1) from rfl, String.toList_append, List.map_append]
    have e := TL.tl_num (n + 1)
    rw [TL.tl_ofString] at e
    have e2 : toString (((n + 1 : Nat) : Int)) = toString (n + 1) := rfl
    rw [e2] at e
    rw [e]
    rfl
theorem numL_le {m : Nat} (h : m < 10 ^ 40) : (TL.numL m).length ≤ 40 := TL.numL_len (by decide) h
theorem iL_len {n : Int} (h : n.natAbs < 10 ^ 40) : (iL n).length ≤ 41 := by
  cases n with
  | ofNat m => have := numL_le (m := m) h; show (TL.numL m).length ≤ 41; omega
  | negSucc m => have := numL_le (m := m + 1) h; show (TL.numL (m + 1)).length + 1 ≤ 41; omega
theorem iL_mem {n : Int} {c : Nat} (h : c ∈ iL n) : c = 45 ∨ (48 ≤ c ∧ c ≤ 57) := by
  cases n with
  | ofNat m => exact .inr (TL.numL_digits m c h)
  | negSucc m =>
    rcases List.mem_cons.mp h with h | h
    · exact .inl h
    · exact .inr (TL.numL_digits (m + 1) c h)
theorem iL_ne (n : Int) : iL n ≠ [] := by
  cases n with
  | ofNat m => exact TL.numL_ne m
  | negSucc m => exact List.cons_ne_nil _ _
theorem iL_int {n : Int} (h : n.natAbs < 10 ^ 40) : intText? (S (iL n)) = some n := by
  have l := iL_len h
  cases n with
  | ofNat m =>
    have e := intText_digits (x := S (iL (.ofNat m))) (TL.numL_digits m) (TL.numL_ne m) (by rw [S_len]; omega)
    rw [e]
    show some (((digitsVal (TL.numL m) : Nat) : Int)) = _
    rw [TL.numL_val]
    rfl
  | negSucc m =>
    have e := intText_neg (x := S (iL (.negSucc m))) (cs := TL.numL (m + 1)) rfl (TL.numL_digits (m + 1)) (TL.numL_ne (m + 1)) (by rw [S_len]; omega)
    rw [e]
    rw [TL.numL_val]
    rfl
/-- the first digit of a number that is not 0 -/
theorem numL_head : ∀ (m : Nat), 0 < m → ∃ c r, TL.numL m = c :: r ∧ 49 ≤ c ∧ c ≤ 57 := fun m => by
  induction m using Nat.strongRecOn with
  | _ m ih =>
    intro h
    by_cases k : m < 10
    · exact ⟨48 + m, [], TL.numL_lt k, by omega, by omega⟩
    · obtain ⟨c, r, e, b⟩ := ih (m / 10) (by omega) (by omega)
      exact ⟨c, r ++ [48 + m % 10], by rw [TL.numL_step (by omega), e]; rfl, b⟩
theorem starts_nil (d : Nat) : Txt.startswith (S []) (S [d]) = false := rfl
theorem starts_hd (c d : Nat) (r : List Nat) : Txt.startswith (S (c :: r)) (S [d]) = decide (c = d) := by
  unfold Txt.startswith
  rw [StrLaws.subAt_eq, decide_eq_true (show 0 + (S [d]).length ≤ (S (c :: r)).length by rw [S_len, S_len, List.length_cons, List.length_cons]; show 0 + 1 ≤ r.length + 1; omega), Bool.true_and]
  show ([c] == [d]) = _
  by_cases h : c = d
  · rw [h, decide_eq_true rfl]; exact beq_self_eq_true _
  · rw [decide_eq_false h]; exact beq_eq_false_iff_ne.mpr fun z => h (List.cons.inj z).1
theorem starts_S (x : List Nat) (d : Nat) : Txt.startswith (S x) (S [d]) = decide (x.head? = some d) := by
  cases x with
  | nil => exact starts_nil d
  | cons c r => rw [starts_hd]; simp
theorem starts_one {c d : Nat} {r : List Nat} : Txt.startswith (S (c :: r)) (S [d]) = Txt.startswith (S [c]) (S [d]) := by
  have e : S (c :: r) = S [c] ++ S r := (S_cat [c] r).symm
  rw [e]
  exact PySem.W.KAf.starts_left (Nat.le_refl _)
/-- the signs of a line -/
def codes (s : String) : List Nat := s.toList.map Char.toNat
theorem codes_str (s : String) : Str.ofString s = S (codes s) := TL.ext_tl (TL.tl_ofString s)
/-- a line of words, and a text of lines -/
def lineT (ps : List (List Nat)) : List Nat := TL.joinL [32] ps
def textT (pss : List (List (List Nat))) : List Nat := TL.joinL [10] (pss.map lineT)
theorem mem_join {s : List Nat} : ∀ {ls : List (List Nat)} {c : Nat}, c ∈ TL.joinL s ls → c ∈ s ∨ ∃ x ∈ ls, c ∈ x
  | [], c, h => by cases h
  | [p], c, h => .inr ⟨p, List.mem_cons_self, h⟩
  | p :: q :: r, c, h => by
    have h : c ∈ p ++ (s ++ TL.joinL s (q :: r)) := h
    rcases List.mem_append.mp h with h | h
    · exact .inr ⟨p, List.mem_cons_self, h⟩
    · rcases List.mem_append.mp h with h | h
      · exact .inl h
      · rcases mem_join (ls := q :: r) h with h | ⟨x, hx, hc⟩
        · exact .inl h
        · exact .inr ⟨x, List.mem_cons_of_mem _ hx, hc⟩
theorem join_len {s : List Nat} (hs : s.length = 1) {M : Nat} : ∀ {ls : List (List Nat)}, (∀ x ∈ ls, x.length ≤ M) → (TL.joinL s ls).length ≤ (M + 1) * ls.length
  | [], _ => Nat.zero_le _
  | [p], h => by
    have := h p List.mem_cons_self
    show p.length ≤ (M + 1) * 1
    omega
  | p :: q :: r, h => by
    have a := h p List.mem_cons_self
    have b := join_len hs (ls := q :: r) fun x hx => h x (List.mem_cons_of_mem _ hx)
    have e : (TL.joinL s (p :: q :: r)).length = p.length + (1 + (TL.joinL s (q :: r)).length) := by
      show (p ++ (s ++ TL.joinL s (q :: r))).length = _
      rw [List.length_append, List.length_append, hs]
    rw [e]
    have e2 : (M + 1) * (p :: q :: r).length = (M + 1) * (q :: r).length + (M + 1) := by
      show (M + 1) * ((q :: r).length + 1) = _
      rw [Nat.mul_add, Nat.mul_one]
    omega
/-- words of a line -/
structure WOk (ps : List (List Nat)) : Prop where
  ne : ps ≠ []
  no : ∀ p ∈ ps, 32 ∉ p ∧ 10 ∉ p
  ln : ∀ p ∈ ps, p.length ≤ 100
  few : ps.length ≤ 120
theorem join_ne {s : List Nat} : ∀ {ls : List (List Nat)}, (∃ p ∈ ls, p ≠ []) → TL.joinL s ls ≠ []
  | [], ⟨p, h, _⟩ => by cases h
  | [p], ⟨x, h, hx⟩ => by
    rw [List.mem_singleton] at h
    show p ≠ []
    rw [← h]
    exact hx
  | p :: q :: r, ⟨x, h, hx⟩ => fun z => by
    have z : p ++ (s ++ TL.joinL s (q :: r)) = [] := z
    rw [List.append_eq_nil_iff, List.append_eq_nil_iff] at z
    rcases List.mem_cons.mp h with h | h
    · exact hx (h.trans z.1)
    · exact join_ne (ls := q :: r) ⟨x, h, hx⟩ z.2.2
theorem line_split {ps : List (List Nat)} (h : WOk ps) : TL.spl [32] 0 [] (lineT ps) = ps := spl_join h.ne fun p hp => (h.no p hp).1
theorem line_no {ps : List (List Nat)} (h : WOk ps) : 10 ∉ lineT ps := fun z => by
  rcases mem_join z with z | ⟨x, hx, hc⟩
  · cases z with | tail _ z => cases z
  · exact (h.no x hx).2 hc
theorem text_split {pss : List (List (List Nat))} (ne : pss ≠ []) (h : ∀ ps ∈ pss, WOk ps) : TL.spl [10] 0 [] (textT pss) = pss.map lineT := spl_join (by simpa using ne) fun p hp => by
  obtain ⟨q, hq, rfl⟩ := List.mem_map.mp hp
  exact line_no (h q hq)
theorem line_len {ps : List (List Nat)} (h : WOk ps) : (lineT ps).length ≤ 12120 := by
  have a := join_len (s := [32]) rfl h.ln
  have b := h.few
  show (TL.joinL [32] ps).length ≤ 12120
  omega
theorem text_len {pss : List (List (List Nat))} (h : ∀ ps ∈ pss, WOk ps) : (textT pss).length ≤ 12121 * pss.length := by
  have a := join_len (s := [10]) rfl (M := 12120) (ls := pss.map lineT) fun x hx => by
    obtain ⟨q, hq, rfl⟩ := List.mem_map.mp hx
    exact line_len (h q hq)
  rw [List.length_map] at a
  exact a
/-- the words of a wall and of a link -/
def wallW (w : Wal) : List (List Nat) := [codes "wall", w.1.cps.toList, iL w.2.1, iL w.2.2.1] ++ w.2.2.2.map iL
def linkW (l : Lnk) : List (List Nat) := [codes "link", iL l.1, iL l.2.1, iL l.2.2.1, iL l.2.2.2]
def siteW (ws : List Wal) (ls : List Lnk) : List (List (List Nat)) := ws.map wallW ++ ls.map linkW
def NmOk (x : Str) : Prop := Wd x ∧ x.cps.toList.length ≤ 60
def Big (n : Int) : Prop := n.natAbs < 10 ^ 40
structure WlOk (w : Wal) : Prop where
  nm : NmOk w.1
  tp : Big w.2.1
  sl : Big w.2.2.1
  sp : ∀ n ∈ w.2.2.2, Big n
  fw : w.2.2.2.length ≤ 110
def LkOk (l : Lnk) : Prop := Big l.1 ∧ Big l.2.1 ∧ Big l.2.2.1 ∧ Big l.2.2.2
theorem iL_no {n : Int} : 32 ∉ iL n ∧ 10 ∉ iL n := ⟨fun h => by have := iL_mem h; omega, fun h => by have := iL_mem h; omega⟩
theorem wall_ok {w : Wal} (h : WlOk w) : WOk (wallW w) := by
  have c1 : ∀ c ∈ codes "wall", c ≠ 32 ∧ c ≠ 10 := by decide
  have cl : (codes "wall").length = 4 := by decide
  have nm := h.nm
  refine ⟨List.cons_ne_nil _ _, fun p hp => ?_, fun p hp => ?_, ?_⟩
  · simp only [wallW, List.cons_append, List.nil_append, List.mem_cons, List.mem_map] at hp
    rcases hp with rfl | rfl | rfl | rfl | ⟨n, _, rfl⟩
    · exact ⟨fun z => (c1 _ z).1 rfl, fun z => (c1 _ z).2 rfl⟩
    · exact ⟨fun z => (nm.1.2 _ z).1 rfl, fun z => (nm.1.2 _ z).2 rfl⟩
    · exact iL_no
    · exact iL_no
    · exact iL_no
  · simp only [wallW, List.cons_append, List.nil_append, List.mem_cons, List.mem_map] at hp
    rcases hp with rfl | rfl | rfl | rfl | ⟨n, hn, rfl⟩
    · omega
    · have := nm.2; omega
    · have := iL_len h.tp; omega
    · have := iL_len h.sl; omega
    · have := iL_len (h.sp n hn); omega
  · have := h.fw
    show ([codes "wall", w.1.cps.toList, iL w.2.1, iL w.2.2.1] ++ w.2.2.2.map iL).length ≤ 120
    rw [List.length_append, List.length_map]
    show 4 + _ ≤ 120
    omega
theorem link_ok {l : Lnk} (h : LkOk l) : WOk (linkW l) := by
  have c1 : ∀ c ∈ codes "link", c ≠ 32 ∧ c ≠ 10 := by decide
  have cl : (codes "link").length = 4 := by decide
  refine ⟨List.cons_ne_nil _ _, fun p hp => ?_, fun p hp => ?_, by show 5 ≤ 120; decide⟩
  · simp only [linkW, List.mem_cons, List.not_mem_nil, or_false] at hp
    rcases hp with rfl | rfl | rfl | rfl | rfl
    · exact ⟨fun z => (c1 _ z).1 rfl, fun z => (c1 _ z).2 rfl⟩
    all_goals exact iL_no
  · simp only [linkW, List.mem_cons, List.not_mem_nil, or_false] at hp
    rcases hp with rfl | rfl | rfl | rfl | rfl
    · omega
    · have := iL_len h.1; omega
    · have := iL_len h.2.1; omega
    · have := iL_len h.2.2.1; omega
    · have := iL_len h.2.2.2; omega
theorem site_ok {ws : List Wal} {ls : List Lnk} (hw : ∀ w ∈ ws, WlOk w) (hl : ∀ l ∈ ls, LkOk l) : ∀ ps ∈ siteW ws ls, WOk ps := fun ps hp => by
  rcases List.mem_append.mp hp with h | h
  · obtain ⟨w, hw', rfl⟩ := List.mem_map.mp h
    exact wall_ok (hw w hw')
  · obtain ⟨l, hl', rfl⟩ := List.mem_map.mp h
    exact link_ok (hl l hl')
/-! What is read of words. -/
def dgB (c : Nat) : Bool := decide (48 ≤ c ∧ c ≤ 57)
def digs (x : List Nat) : List Nat := if x.head? = some 45 then x.tail else x
def numB (x : List Nat) : Bool := x == [48] || (decide (1 ≤ (digs x).length ∧ (digs x).length ≤ 40) && (!decide ((digs x).head? = some 48) && (digs x).all dgB))
def valI (x : List Nat) : Int := if x.head? = some 45 then -((digitsVal x.tail : Nat) : Int) else ((digitsVal x : Nat) : Int)
theorem fold_dig : ∀ (x : List Nat) (a : Nat), x.all dgB = true → x.foldl (fun acc c => acc * 10 + (c - 48)) a + 1 ≤ (a + 1) * 10 ^ x.length
  | [], a, _ => by simp
  | c :: r, a, h => by
    rw [List.all_cons, Bool.and_eq_true] at h
    have hc := of_decide_eq_true h.1
    have ih := fold_dig r (a * 10 + (c - 48)) h.2
    rw [List.foldl_cons, List.length_cons, Nat.pow_succ]
    have h10 : a * 10 + (c - 48) + 1 ≤ (a + 1) * 10 := by omega
    have h2 := Nat.mul_le_mul_right (10 ^ r.length) h10
    have h3 : (a + 1) * (10 ^ r.length * 10) = (a + 1) * 10 * 10 ^ r.length := by rw [Nat.mul_comm (10 ^ r.length) 10, Nat.mul_assoc]
    rw [h3]
    exact Nat.le_trans ih h2
theorem digitsVal_lt {x : List Nat} {n : Nat} (h : x.all dgB = true) (l : x.length ≤ n) : digitsVal x < 10 ^ n := by
  have a := fold_dig x 0 h
  have b : (10 : Nat) ^ x.length ≤ 10 ^ n := Nat.pow_le_pow_right (by decide) l
  unfold digitsVal
  omega
theorem all_digits {x : List Nat} (h : x.all dgB = true) : AllDigits x := fun c hc => of_decide_eq_true (List.all_eq_true.mp h c hc)
theorem num_int {x : List Nat} (h : numB x = true) : intText? (S x) = some (valI x) ∧ x.length ≤ 41 ∧ Big (valI x) := by
  have main : ∀ y : List Nat, 1 ≤ y.length → y.length ≤ 40 → y.all dgB = true → (y.head? ≠ some 45) ∧ intText? (S y) = some ((digitsVal y : Nat) : Int) ∧ intText? (S (45 :: y)) = some (-((digitsVal y : Nat) : Int)) ∧ digitsVal y < 10 ^ 40 := fun y h1 h40 ha => by
    have ne : y ≠ [] := fun z => by rw [z] at h1; exact absurd h1 (by decide)
    refine ⟨fun z => ?_, intText_digits (x := S y) (all_digits ha) ne (by rw [S_len]; omega), intText_neg (x := S (45 :: y)) (cs := y) rfl (all_digits ha) ne (by rw [S_len, List.length_cons]; omega), digitsVal_lt ha h40⟩
    cases y with
    | nil => cases z
    | cons c r =>
      have := all_digits ha c List.mem_cons_self
      have z : c = 45 := by simpa using z
      omega
  unfold numB at h
  rw [Bool.or_eq_true] at h
  rcases h with h | h
  · obtain rfl : x = [48] := by simpa using h
    obtain ⟨a, b, c, d⟩ := main [48] (by decide) (by decide) (by decide)
    exact ⟨b, by decide, by show (valI [48]).natAbs < 10 ^ 40; decide +kernel⟩
  · rw [Bool.and_eq_true, Bool.and_eq_true, decide_eq_true_eq] at h
    obtain ⟨⟨h1, h40⟩, _, ha⟩ := h
    obtain ⟨a, b, c, d⟩ := main _ h1 h40 ha
    unfold digs at a b c d h1 h40
    unfold valI
    by_cases e : x.head? = some 45
    · rw [if_pos e] at a b c d h1 h40 ⊢
      have ex : x = 45 :: x.tail := by
        cases x with
        | nil => cases e
        | cons z r =>
          have : z = 45 := by simpa using e
          rw [this]
          rfl
      refine ⟨by rw [← ex] at c; exact c, by rw [ex, List.length_cons]; omega, ?_⟩
      show (-((digitsVal x.tail : Nat) : Int)).natAbs < 10 ^ 40
      omega
    · rw [if_neg e] at a b c d h1 h40 ⊢
      refine ⟨b, by omega, ?_⟩
      show (((digitsVal x : Nat) : Int)).natAbs < 10 ^ 40
      omega
theorem num_iL {n : Int} (h : Big n) : numB (iL n) = true ∧ valI (iL n) = n := by
  have pos : ∀ m : Nat, 0 < m → m < 10 ^ 40 → (decide (1 ≤ (TL.numL m).length ∧ (TL.numL m).length ≤ 40) && (!decide ((TL.numL m).head? = some 48) && (TL.numL m).all dgB)) = true ∧ (TL.numL m).head? ≠ some 45 := fun m m0 m40 => by
    obtain ⟨c, r, er, c0, c9⟩ := numL_head m m0
    have l40 := numL_le m40
    have ldig := TL.numL_digits m
    have l1 : 1 ≤ (TL.numL m).length := by rw [er]; exact Nat.succ_le_succ (Nat.zero_le _)
    have hh : (TL.numL m).head? = some c := by rw [er]; rfl
    have ad : (TL.numL m).all dgB = true := List.all_eq_true.mpr fun d hd => decide_eq_true (ldig d hd)
    refine ⟨?_, by rw [hh]; exact fun z => by have := Option.some.inj z; omega⟩
    rw [decide_eq_true ⟨l1, l40⟩, hh, decide_eq_false (show ¬ some c = some 48 from fun z => by have := Option.some.inj z; omega), ad]
    rfl
  have nb : numB (iL n) = true := by
    unfold numB
    rw [Bool.or_eq_true]
    cases n with
    | ofNat m =>
      by_cases m0 : m = 0
      · subst m0
        exact .inl (by decide +kernel)
      · obtain ⟨a, b⟩ := pos m (by omega) h
        refine .inr ?_
        have e : digs (iL (Int.ofNat m)) = TL.numL m := if_neg b
        rw [e]
        exact a
    | negSucc m =>
      obtain ⟨a, b⟩ := pos (m + 1) (by omega) h
      refine .inr ?_
      have e : digs (iL (Int.negSucc m)) = TL.numL (m + 1) := if_pos rfl
      rw [e]
      exact a
  exact ⟨nb, Option.some.inj ((num_int nb).1.symm.trans (iL_int h))⟩
def wallB (ps : List (List Nat)) : Bool := decide (4 ≤ ps.length) && (decide (ps[0]? = some (codes "wall")) && (!decide (ps[1]? = some []) && (ps.drop 2).all numB))
def linkB (ps : List (List Nat)) : Bool := decide (ps.length = 5) && (decide (ps[0]? = some (codes "link")) && (ps.drop 1).all numB)
def wallV (ps : List (List Nat)) : Wal := (S (ps.getD 1 []), valI (ps.getD 2 []), valI (ps.getD 3 []), (ps.drop 4).map valI)
def linkV (ps : List (List Nat)) : Lnk := (valI (ps.getD 1 []), valI (ps.getD 2 []), valI (ps.getD 3 []), valI (ps.getD 4 []))
/-- what reading makes of lines: the first bad one, or walls and links -/
def readS : Nat → List Wal → List Lnk → List (List (List Nat)) → Nat ⊕ (List Wal × List Lnk)
  | _, ws, ls, [] => .inr (ws, ls)
  | k, ws, ls, q :: r => if (wallB q && ls.isEmpty) = true then readS (k + 1) (ws ++ [wallV q]) ls r else if linkB q = true then readS (k + 1) ws (ls ++ [linkV q]) r else .inl k
theorem nums_iL {xs : List Int} (h : ∀ n ∈ xs, Big n) : (xs.map iL).all numB = true ∧ (xs.map iL).map valI = xs := by
  induction xs with
  | nil => exact ⟨rfl, rfl⟩
  | cons x xs ih =>
    obtain ⟨a, b⟩ := ih fun n hn => h n (List.mem_cons_of_mem _ hn)
    obtain ⟨c, d⟩ := num_iL (h x List.mem_cons_self)
    exact ⟨by rw [List.map_cons, List.all_cons, c, a]; rfl, by rw [List.map_cons, List.map_cons, b, d]⟩
theorem wall_back {w : Wal} (h : WlOk w) : wallB (wallW w) = true ∧ wallV (wallW w) = w := by
  obtain ⟨c1, d1⟩ := num_iL h.tp
  obtain ⟨c2, d2⟩ := num_iL h.sl
  obtain ⟨c3, d3⟩ := nums_iL h.sp
  refine ⟨?_, ?_⟩
  · unfold wallB
    have e4 : 4 ≤ (wallW w).length := by
      show 4 ≤ ([codes "wall", w.1.cps.toList, iL w.2.1, iL w.2.2.1] ++ w.2.2.2.map iL).length
      rw [List.length_append]
      exact Nat.le_add_right 4 _
    rw [decide_eq_true e4, decide_eq_true (show (wallW w)[0]? = some (codes "wall") from rfl), decide_eq_false (show ¬ (wallW w)[1]? = some [] from fun z => h.nm.1.1 (Option.some.inj z))]
    show (iL w.2.1 :: iL w.2.2.1 :: w.2.2.2.map iL).all numB = true
    rw [List.all_cons, List.all_cons, c1, c2, c3]
    rfl
  · show ((S w.1.cps.toList, valI (iL w.2.1), valI (iL w.2.2.1), (w.2.2.2.map iL).map valI) : Wal) = w
    rw [S_tl, d1, d2, d3]
theorem link_back {l : Lnk} (h : LkOk l) : linkB (linkW l) = true ∧ linkV (linkW l) = l ∧ wallB (linkW l) = false := by
  obtain ⟨a1, b1⟩ := num_iL h.1
  obtain ⟨a2, b2⟩ := num_iL h.2.1
  obtain ⟨a3, b3⟩ := num_iL h.2.2.1
  obtain ⟨a4, b4⟩ := num_iL h.2.2.2
  refine ⟨?_, ?_, ?_⟩
  · show (true && (true && (numB (iL l.1) && (numB (iL l.2.1) && (numB (iL l.2.2.1) && (numB (iL l.2.2.2) && true)))))) = true
    rw [a1, a2, a3, a4]
    rfl
  · show ((valI (iL l.1), valI (iL l.2.1), valI (iL l.2.2.1), valI (iL l.2.2.2)) : Lnk) = l
    rw [b1, b2, b3, b4]
  · unfold wallB
    rw [decide_eq_false (show ¬ (linkW l)[0]? = some (codes "wall") from fun z => absurd (Option.some.inj z) (by decide)), Bool.false_and, Bool.and_false]
theorem read_links {ls : List Lnk} (h : ∀ l ∈ ls, LkOk l) (bad : List (List (List Nat))) : ∀ (k : Nat) (ws : List Wal) (l0 : List Lnk), readS k ws l0 (ls.map linkW ++ bad) = readS (k + ls.length) ws (l0 ++ ls) bad := by
  induction ls with
  | nil => intro k ws l0; rw [List.append_nil]; rfl
  | cons l ls ih =>
    intro k ws l0
    obtain ⟨a, b, c⟩ := link_back (h l List.mem_cons_self)
    show (if (wallB (linkW l) && l0.isEmpty) = true then _ else if linkB (linkW l) = true then readS (k + 1) ws (l0 ++ [linkV (linkW l)]) (ls.map linkW ++ bad) else _) = _
    rw [c, Bool.false_and, if_neg (by decide), if_pos a, b, ih (fun x hx => h x (List.mem_cons_of_mem _ hx)), List.append_assoc, List.length_cons, Nat.add_assoc, Nat.add_comm 1 ls.length]
    rfl
theorem read_site {ws : List Wal} {ls : List Lnk} (hw : ∀ w ∈ ws, WlOk w) (h : ∀ l ∈ ls, LkOk l) (bad : List (List (List Nat))) : readS 1 [] [] (siteW ws ls ++ bad) = readS (1 + ws.length + ls.length) ws ls bad := by
  have walls : ∀ (ws : List Wal), (∀ w ∈ ws, WlOk w) → ∀ (k : Nat) (w0 : List Wal) (rest : List (List (List Nat))), readS k w0 [] (ws.map wallW ++ rest) = readS (k + ws.length) (w0 ++ ws) [] rest := fun ws => by
    induction ws with
    | nil => intro _ k w0 rest; rw [List.append_nil]; rfl
    | cons w ws ih =>
      intro hw k w0 rest
      obtain ⟨a, b⟩ := wall_back (hw w List.mem_cons_self)
      show (if (wallB (wallW w) && ([] : List Lnk).isEmpty) = true then readS (k + 1) (w0 ++ [wallV (wallW w)]) [] (ws.map wallW ++ rest) else _) = _
      rw [a, if_pos (show (true && ([] : List Lnk).isEmpty) = true from rfl), b, ih (fun x hx => hw x (List.mem_cons_of_mem _ hx)), List.append_assoc, List.length_cons, Nat.add_assoc, Nat.add_comm 1 ws.length]
      rfl
  unfold siteW
  rw [List.append_assoc, walls ws hw, read_links h, List.nil_append, List.nil_append]
end Law

/-! Lines of words read. -/
namespace Law
open PySem PySem.Spec PyProof.Rows L2 SX NumText ItSeq
abbrev sIsn : Stmt := top 45
abbrev sIwl : Stmt := top 42
abbrev sIll : Stmt := top 43
abbrev sNl : Stmt := top 41
def spIsn : Sp := fun vs H Q _ => ∃ x : List Nat, vs = [.str (S x)] ∧ x.length ≤ 100 ∧ ∀ H', Same H H' → Q (.bl (numB x)) H'
/-- the words of a line -/
def WdsAt (H : Hp) (p : Addr) (ps : List (List Nat)) : Prop := H p = some (.lst ((ps.map S).map V.str))
def spIwl : Sp := fun vs H Q _ => ∃ (p : Addr) (ps : List (List Nat)), vs = [.ref p] ∧ WdsAt H p ps ∧ WOk ps ∧ ∀ H', Same H H' → Q (.bl (wallB ps)) H'
def spIll : Sp := fun vs H Q _ => ∃ (p : Addr) (ps : List (List Nat)), vs = [.ref p] ∧ WdsAt H p ps ∧ WOk ps ∧ ∀ H', Same H H' → Q (.bl (linkB ps)) H'
def LnsAt (H : Hp) (p : Addr) (pss : List (List (List Nat))) : Prop := ∃ ts : List Addr, H p = some (.lst (ts.map V.ref)) ∧ ts.length = pss.length ∧ ∀ (i : Nat) (t : Addr) (q : List (List Nat)), ts[i]? = some t → pss[i]? = some q → ∃ w : Addr, H t = some (.tup [.int (1 + (i : Nat)), .ref w]) ∧ WdsAt H w q
def spNl : Sp := fun vs H Q _ => ∃ pss : List (List (List Nat)), vs = [.str (S (textT pss))] ∧ (pss = [] ∨ textT pss ≠ []) ∧ (∀ q ∈ pss, WOk q) ∧ pss.length ≤ 60 ∧ ∀ (p : Addr) (H' : Hp), H p = none → Same H H' → LnsAt H' p pss → Q (.ref p) H'
structure IsnTxt (mg : Str → Option Value) : Prop where
  digits : ∃ t, mg "DIGITS" = some (.str "0123456789" t)
  most : ∃ t, mg "MOST_DIGITS" = some (.int 40 t)
  b_len : mg "len" = none
  b_all : mg "all" = none
structure IlTxt (mg : Str → Option Value) (fIsn : Addr) : Prop where
  num : mg "_is_number" = some (.ref fIsn)
  b_len : mg "len" = none
  b_all : mg "all" = none
structure NlTxt (mg : Str → Option Value) : Prop where
  b_enum : mg "enumerate" = none
section
variable {P : Program} {w : World} {K : PySem.W.Frag} {mg : Str → Option Value} {base : Heap} {CT : Addr}
theorem scIsn : FnScope ["word", "digits", "digit"] ["word"] (defScope sIsn) := ⟨rfl, rfl, rfl, by decide +kernel, rfl, by decide +kernel, by decide +kernel⟩
theorem scIwl : FnScope ["words", "word"] ["words"] (defScope sIwl) := ⟨rfl, rfl, rfl, by decide +kernel, rfl, by decide +kernel, by decide +kernel⟩
theorem scIll : FnScope ["words", "word"] ["words"] (defScope sIll) := ⟨rfl, rfl, rfl, by decide +kernel, rfl, by decide +kernel, by decide +kernel⟩
theorem scNl : FnScope ["text", "number", "line"] ["text"] (defScope sNl) := ⟨rfl, rfl, rfl, by decide +kernel, rfl, by decide +kernel, by decide +kernel⟩
theorem freshS {H H1 : Hp} {v : Addr} (S : Same H H1) (n : H1 v = none) : H v = none := by
  cases e : H v with
  | none => rfl
  | some o =>
    have := S _ _ e
    rw [n] at this
    cases this
theorem codes10 : ("0123456789" : Str).cps.toList = [48, 49, 50, 51, 52, 53, 54, 55, 56, 57] := by decide +kernel
set_option maxHeartbeats 0 in
theorem ok_isn {f : Addr} {fd : FuncData} (F : Fun K "_is_number" "_is_number" sIsn f fd) (T : IsnTxt mg) : FnOk P w K mg base CX0 1 f fd ["word"] spIsn := by
  obtain ⟨td, hdg⟩ := T.digits
  obtain ⟨tm, hmd⟩ := T.most
  refine F.ok scIsn (fun vs H Q E h => ?_) (fun cdv A outer s H vs Q E hr h => ?_)
  · obtain ⟨x, rfl, _⟩ := h
    rfl
  · obtain ⟨x, rfl, hx, k⟩ := h
    refine ⟨_, (pss_cons (ps_if (pt_cmpR op_eq (pv 0) pe_str (nomark _)) (pss_one (ps_ret pe_bl)) pss_nil)
      (C8.pss_cut (ps_set (i := 1) scIsn.nd rfl (Or.inl rfl) (pe_ifExp (pt_val (pe_m1 PySem.F.slot_str_startswith PySem.F.type_str_startswith mt_startswith (pv 0) pe_str)) (pe_slice sl_str (pv 0) (po_some pe_int) po_none) (pv 0)))
      (pss_cons (ps_if (PW.pt (pw_or (pt_not (pt_chain op_le op_le pe_int (pe_callB call_len_str (by rfl) T.b_len PySem.boot_len (pa_cons (pv 1) pa_nil)) (pe_glob (v := .int 40) rfl hmd ⟨_, rfl⟩))) (pw_or1 (pt_val (pe_m1 PySem.F.slot_str_startswith PySem.F.type_str_startswith mt_startswith (pv 1) pe_str))))) (pss_one (ps_ret pe_bl)) pss_nil)
      (pss_one (ps_ret (pe_callB (cr_all (by rfl)) (by rfl) T.b_all (by decide +kernel) (pa_cons (pe_lc (own := [("digit", 2)]) (g := gName 2) (tt := tYes) (by rfl) scIsn.nd (pi_str (pv 1)) (blkOk_by (own := [("digit", 2)]) (N := ["word", "digits", "digit"]) (sc := defScope sIsn) (by decide +kernel)) (fun _ _ _ _ _ => pg_name (i := 2) scIsn.nd rfl (Or.inl rfl)) (fun _ _ _ _ _ => pts_nil) (fun _ _ _ _ _ => (pe_cmpR op_inS (pv 2) (pe_glob (v := .str "0123456789") rfl hdg ⟨_, rfl⟩) rfl))) pa_nil))))))), ?_⟩
    have e48 : (Str.ofString "0" : Str) = S [48] := by decide +kernel
    have e45 : (Str.ofString "-" : Str) = S [45] := by decide +kernel
    have big : ∀ n : Nat, n ≤ 1000 → n ≤ sizeLine := fun n h => by rw [sizeLine_eq]; omega
    refine ⟨_, rfl, rfl, _, rfl, ite2 (fun g => ?_) (fun g => ?_)⟩
    · have ex : x = [48] := by
        have := V.str.inj (of_decide_eq_true g)
        rw [e48] at this
        exact S_inj this
      have z := k _ same_rfl
      rw [show numB x = true from by rw [ex]; decide] at z
      exact z
    have nx : x ≠ [48] := fun z => g (decide_eq_true (by rw [z, e48]))
    have eb : numB x = (decide (1 ≤ (digs x).length ∧ (digs x).length ≤ 40) && (!decide ((digs x).head? = some 48) && (digs x).all dgB)) := by
      unfold numB
      rw [show (x == [48]) = false from beq_eq_false_iff_ne.mpr nx, Bool.false_or]
    refine ⟨fun σ' H' => σ' = [some (.str (S x)), some (.str (S (digs x))), none] ∧ H = H', ?_, ?_⟩
    · refine ⟨_, rfl, ⟨_, rfl⟩, _, _, rfl, rfl, _, rfl, ?_⟩
      rw [e45, starts_S]
      by_cases e : x.head? = some 45
      · have ex : x = 45 :: x.tail := by
          cases x with
          | nil => cases e
          | cons z r =>
            have : z = 45 := by simpa using e
            rw [this]
            rfl
        have ec : cutS (S x) (some 1) none = S (digs x) := by
          rw [C8.cutS_slice, slice_from (by decide)]
          unfold digs
          rw [if_pos e, ex]
          rfl
        refine if_t (decide_eq_true e) ⟨_, rfl, _, rfl, S x, rfl, by rw [S_len]; exact big _ (by omega), ?_, rfl⟩
        rw [ec]
        rfl
      · refine if_f (decide_eq_false e) ⟨_, rfl, ?_, rfl⟩
        rw [show digs x = x from if_neg e]
        rfl
    rintro σ' H1 ⟨rfl, rfl⟩
    have ld : (digs x).length ≤ 100 := by
      unfold digs
      split
      · rw [List.length_tail]; omega
      · exact hx
    generalize digs x = d at eb ld
    have zl : (S d).length ≤ sizeLine := by rw [S_len]; exact big _ (by omega)
    have sl : (S d).length = d.length := S_len d
    have no : numB x = false → Q (.bl false) H := fun e => by
      have z := k _ same_rfl
      rw [e] at z
      exact z
    by_cases c1 : 1 ≤ d.length
    · refine ⟨_, rfl, _, rfl, zl, _, _, rfl, rfl, _, rfl, if_t (decide_eq_true (by omega)) ?_⟩
      by_cases c40 : d.length ≤ 40
      · refine ⟨_, _, rfl, rfl, _, rfl, if_f (by rw [decide_eq_true (by omega)]; rfl) ?_⟩
        refine ⟨_, rfl, ⟨_, rfl⟩, _, _, rfl, rfl, _, rfl, ?_⟩
        rw [e48, starts_S]
        by_cases c48 : d.head? = some 48
        · exact if_t (decide_eq_true c48) (no (by rw [eb, decide_eq_true c48]; simp))
        refine if_f (decide_eq_false c48) ?_
        refine ⟨_, rfl, _, rfl, fun D hD => ?_⟩
        refine lc_it (walk_str (z := S d)) (fun i H' => H' D = some (.lst (((d.take i).map dgB).map V.bl)) ∧ Same H H') ⟨by rw [List.take_zero]; exact upd_same, same_new hD⟩ (fun _ _ _ _ => trivial) ?_ ?_
        · rintro i y H2 H3 hi ⟨e2, S2⟩ ⟨rfl, c, hc, rfl⟩
          have hi : i < d.length := by simpa using hi
          have hc' : d[i]? = some c := by
            have := hc
            simpa using this
          refine ⟨rfl, _, rfl, c, _, rfl, rfl, _, e2, small1000 (by rw [List.length_map, List.length_map, List.length_take]; omega), ?_, fun c o e => ?_⟩
          · rw [upd_same, List.take_succ, hc', List.map_append, List.map_append]
            rw [show decide (c ∈ ("0123456789" : Str).cps.toList) = dgB c from by
              unfold dgB
              rw [codes10]
              exact decide_eq_decide.mpr (by simp only [List.mem_cons, List.not_mem_nil, or_false]; omega)]
            rfl
          · rw [upd_ne (ne_of_none e hD)]
            exact S2 _ _ e
        rintro H2 ⟨e2, S2⟩
        have e2 : H2 D = some (.lst ((d.map dgB).map V.bl)) := by
          have : d.take (S d).cps.size = d := List.take_of_length_le (by simp)
          rw [this] at e2
          exact e2
        refine ⟨D, _, rfl, SqL.of e2, ?_⟩
        have z := k _ S2
        rw [eb, decide_eq_true ⟨c1, c40⟩, decide_eq_false c48] at z
        rw [List.all_map]
        exact z
      · exact ⟨_, _, rfl, rfl, _, rfl, if_t (by rw [decide_eq_false (by omega)]; rfl) (no (by rw [eb, decide_eq_false (fun z => c40 z.2)]; rfl))⟩
    · exact ⟨_, rfl, _, rfl, zl, _, _, rfl, rfl, _, rfl, if_f (decide_eq_false (by omega)) ⟨_, rfl, if_t rfl (no (by rw [eb, decide_eq_false (fun z => c1 z.1)]; rfl))⟩⟩
set_option maxHeartbeats 0 in
theorem ok_nl {f : Addr} {fd : FuncData} (F : Fun K "_numbered_lines" "_numbered_lines" sNl f fd) (T : NlTxt mg) : FnOk P w K mg base CX0 1 f fd ["text"] spNl := by
  refine F.ok scNl (fun vs H Q E h => ?_) (fun cdv A outer s H vs Q E hr h => ?_)
  · obtain ⟨pss, rfl, _⟩ := h
    rfl
  · obtain ⟨pss, rfl, nt, ok, r60, k⟩ := h
    refine ⟨_, (pss_cons (ps_if (pt_not (pt_truth (pv 0) (by intro _; rfl))) (pss_one (ps_ret (pe_lst pa_nil))) pss_nil)
      (pss_one (ps_ret (pe_lc (own := [("number", 1), ("line", 2)]) (g := gTup K 2 (gCons (gName 1) (gCons (gName 2) gNil))) (tt := tYes) (by rfl) scNl.nd (EnumS.pi_enC (by rfl) T.b_enum (pa_cons (pe_split (pv 0) pe_str) pa_nil) (pk_cons pe_int pk_nil)) (blkOk_by (own := [("number", 1), ("line", 2)]) (N := ["text", "number", "line"]) (sc := defScope sNl) (by decide +kernel)) (fun _ _ _ _ _ => by exact (pg_tup (n := 2) rfl (pgs_cons (pg_name (i := 1) scNl.nd rfl (Or.inl rfl)) (pgs_cons (pg_name (i := 2) scNl.nd rfl (Or.inl rfl)) pgs_nil)))) (fun _ _ _ _ _ => pts_nil) (fun _ _ _ _ _ => (pe_tup (pa_cons (pv 1) (pa_cons (pe_split (pv 2) pe_str) pa_nil)))))))), ?_⟩
    by_cases c : pss = []
    · obtain rfl := c
      refine ⟨_, rfl, false, ⟨by show 0 ≤ sizeLine; exact Nat.zero_le _, rfl⟩, if_t rfl ⟨by show 0 ≤ sizeLine; decide, fun D hD => k D _ hD (same_new hD) ⟨[], upd_same, rfl, fun i t q e => nomatch e⟩⟩⟩
    · have ne := nt.resolve_left c
      have tl := text_len ok
      have big : ∀ n : Nat, n ≤ 800000 → n ≤ sizeLine := fun n h => by rw [sizeLine_eq]; omega
      have tp : 0 < (textT pss).length := List.length_pos_iff.mpr ne
      refine ⟨_, rfl, true, ⟨by rw [S_len]; exact big _ (by omega), ?_⟩, if_f rfl ?_⟩
      · rw [S_len]
        symm
        rw [bne_iff_ne]
        omega
      have e10 : (Str.ofString "\n" : Str) = S [10] := by decide +kernel
      have e32 : (Str.ofString " " : Str) = S [32] := by decide +kernel
      refine ⟨_, rfl, ⟨_, rfl⟩, _, _, rfl, rfl, by decide +kernel, by rw [S_len]; exact big _ (by omega), fun L hL => ?_⟩
      rw [e10, split_S (List.cons_ne_nil _ _) (by decide), text_split c ok]
      have e1 : upd H L (.lst (((pss.map lineT).map S).map V.str)) L = some (.lst (((pss.map lineT).map S).map V.str)) := upd_same
      have s1 := same_new (o := .lst (((pss.map lineT).map S).map V.str)) hL
      generalize upd H L (.lst (((pss.map lineT).map S).map V.str)) = H1 at s1 e1 ⊢
      refine ⟨L, _, 1, rfl, rfl, by decide, by decide, SqL.of e1, fun J hJ D hD => ?_⟩
      refine lc_it hJ (fun i H' => ∃ ts : List Addr, H' D = some (.lst (ts.map V.ref)) ∧ ts.length = i ∧ Same H1 H' ∧ ∀ (j : Nat) (t : Addr) (q : List (List Nat)), ts[j]? = some t → pss[j]? = some q → ∃ w : Addr, H' t = some (.tup [.int (1 + (j : Nat)), .ref w]) ∧ WdsAt H' w q) ⟨[], upd_same, rfl, same_new hD, fun j t q e => nomatch e⟩ (fun _ _ _ h => by obtain ⟨_, _, _, S, _⟩ := h; exact S) ?_ ?_
      · rintro i x H2 H3 hi ⟨ts, d1, d2, d3, d4⟩ ⟨T0, x0, y0, rfl, hT0, rfl, ea, eb⟩
        cases ea
        rw [List.length_map, List.length_map, List.length_map] at hi
        obtain ⟨q, hq⟩ : ∃ q, pss[i]? = some q := ⟨_, List.getElem?_eq_getElem hi⟩
        have eb : (((pss.map lineT).map S).map V.str)[i]? = some y0 := eb
        rw [List.getElem?_map, List.getElem?_map, List.getElem?_map, hq] at eb
        cases eb
        have qo := ok q (List.mem_of_getElem? hq)
        have ll := line_len qo
        refine ⟨T0, _, rfl, SqT.of upd_same, rfl, _, _, rfl, _, _, rfl, rfl, rfl, _, rfl, _, rfl, ⟨_, rfl⟩, _, _, rfl, rfl, by decide +kernel, by rw [S_len]; exact big _ (by omega), fun W hW => ?_⟩
        rw [e32, split_S (List.cons_ne_nil _ _) (by decide), line_split qo]
        have s4 := same_new (o := .tup [V.int (1 + (i : Int)), V.str (S (lineT q))]) hT0
        have s5 := same_new (o := .lst (((q).map S).map V.str)) hW
        have wds : WdsAt (upd (upd H2 T0 (.tup [V.int (1 + (i : Int)), V.str (S (lineT q))])) W (.lst (((q).map S).map V.str))) W q := by
          unfold WdsAt
          rw [upd_same]
        have s45 := same_tr s4 s5
        generalize upd (upd H2 T0 (.tup [V.int (1 + (i : Int)), V.str (S (lineT q))])) W (.lst (((q).map S).map V.str)) = H5 at s5 s45 wds ⊢
        refine ⟨by show 2 ≤ sizeLine; decide, fun U hU => ?_⟩
        have s6 := same_new (o := .tup [V.int (1 + (i : Int)), V.ref W]) hU
        have s46 := same_tr s45 s6
        have eU : upd H5 U (.tup [V.int (1 + (i : Int)), V.ref W]) U = some (.tup [V.int (1 + (i : Int)), V.ref W]) := upd_same
        have wd6 := s6 _ _ wds
        generalize upd H5 U (.tup [V.int (1 + (i : Int)), V.ref W]) = H6 at s6 s46 eU wd6 ⊢
        have nD : ∀ {y : Addr} {xs : List V}, H6 y = some (.tup xs) → y ≠ D := fun h z => by
          rw [z, s46 _ _ d1] at h
          cases h
        refine ⟨_, s46 _ _ d1, small1000 (by rw [List.length_map]; omega), ts ++ [U], by rw [upd_same, List.map_append]; rfl, by rw [List.length_append, d2]; rfl, fun c o e => ?_, fun j t' q' e1 e2 => ?_⟩
        · rw [upd_ne (ne_of_none e hD)]
          exact s46 _ _ (d3 _ _ e)
        · have nW : ∀ {y : Addr} {qq : List (List Nat)}, qq ≠ [] → H6 y = some (.lst ((qq.map S).map V.str)) → y ≠ D := fun {y qq} nq h z => by
            rw [z, s46 _ _ d1] at h
            have h := HO.lst.inj (Option.some.inj h)
            obtain ⟨w0, wr, ew⟩ := List.exists_cons_of_ne_nil nq
            rw [ew] at h
            cases ts with
            | nil => cases h
            | cons a as => cases h
          by_cases jl : j < i
          · rw [List.getElem?_append_left (by omega)] at e1
            obtain ⟨w', h1, h2⟩ := d4 j t' q' e1 e2
            have h1' := s46 _ _ h1
            have h2' := s46 _ _ h2
            exact ⟨w', by rw [upd_ne (nD h1')]; exact h1', by unfold WdsAt; rw [upd_ne (nW (ok _ (List.mem_of_getElem? e2)).ne h2')]; exact h2'⟩
          · have jt : j < (ts ++ [U]).length := (List.getElem?_eq_some_iff.mp e1).1
            rw [List.length_append] at jt
            have jt : j < ts.length + 1 := jt
            have ej : j = i := by omega
            subst ej
            rw [hq] at e2
            cases e2
            rw [List.getElem?_append_right (by omega), d2, Nat.sub_self] at e1
            cases e1
            exact ⟨W, by rw [upd_ne (nD eU)]; exact eU, by unfold WdsAt; rw [upd_ne (nW qo.ne wd6)]; exact wd6⟩
      · rintro H2 ⟨ts, d1, d2, d3, d4⟩
        rw [List.length_map, List.length_map, List.length_map] at d2
        exact k D _ (freshS s1 hD) (same_tr s1 d3) ⟨ts, d1, d2, d4⟩

theorem wdsL (ps : List (List Nat)) (i : Nat) {x : List Nat} (h : ps[i]? = some x) : atI ((ps.map S).map V.str) (i : Int) = some (.str (S x)) := atI_nat (by rw [List.getElem?_map, List.getElem?_map, h]; rfl)
theorem cutV_drop (xs : List V) (k : Nat) : cutV xs (some (k : Int)) none = xs.drop k := by
  unfold cutV
  rw [HT.sIx_nat, HT.sIx_none, List.take_of_length_le (by rw [List.length_drop]; omega)]
  by_cases h : k ≤ xs.length
  · rw [Nat.min_eq_left h]
  · rw [Nat.min_eq_right (by omega), List.drop_length, List.drop_eq_nil_of_le (by omega)]
set_option maxHeartbeats 0 in
theorem ok_iwl {f fIsn : Addr} {fd fdIsn : FuncData} (F : Fun K "_is_wall_line" "_is_wall_line" sIwl f fd) (GIsn : FnOk P w K mg base CX0 1 fIsn fdIsn ["word"] spIsn) (FIsn : Fun K "_is_number" "_is_number" sIsn fIsn fdIsn) (bIsn : Binds K fdIsn ["word"] []) (T : IlTxt mg fIsn) : FnOk P w K mg base CX0 2 f fd ["words"] spIwl := by
  refine F.ok scIwl (fun vs H Q E h => ?_) (fun cdv A outer s H vs Q E hr h => ?_)
  · obtain ⟨p, ps, rfl, _⟩ := h
    rfl
  · obtain ⟨p, ps, rfl, hp, wo, k⟩ := h
    have hr1 : Room 1 _ := hr.mono (by decide)
    refine ⟨_, (pss_cons (ps_if (PW.pt (pw_or (pt_cmpR op_lt (pe_callB call_len_seq (by rfl) T.b_len PySem.boot_len (pa_cons (pv 0) pa_nil)) pe_int (nomark _)) (pw_or (pt_cmpR op_ne (pe_ix ix_list (pv 0) pe_int (fun _ _ => rfl)) pe_str (nomark _)) (pw_or1 (pt_not (pt_truth (pe_ix ix_list (pv 0) pe_int (fun _ _ => rfl)) (by intro _; rfl))))))) (pss_one (ps_ret pe_bl)) pss_nil)
      (pss_one (ps_ret (pe_callB (cr_all (by rfl)) (by rfl) T.b_all (by decide +kernel) (pa_cons (pe_lc (own := [("word", 1)]) (g := gName 1) (tt := tYes) (by rfl) scIwl.nd (pi_list (pe_slice sl_list (pv 0) (po_some pe_int) po_none)) (blkOk_by (own := [("word", 1)]) (N := ["words", "word"]) (sc := defScope sIwl) (by decide +kernel)) (fun _ _ _ _ _ => pg_name (i := 1) scIwl.nd rfl (Or.inl rfl)) (fun _ _ _ _ _ => pts_nil) (fun _ _ _ _ _ => by exact (pe_call GIsn hr1 rfl T.num FIsn.kp bIsn .nil pass0 (pa_cons (pv 1) pa_nil)))) pa_nil))))), ?_⟩
    have ew : (Str.ofString "wall" : Str) = S (codes "wall") := codes_str _
    unfold WdsAt at hp
    have few := wo.few
    have ll : ((ps.map S).map V.str).length = ps.length := by rw [List.length_map, List.length_map]
    have no : wallB ps = false → Q (.bl false) H := fun e => by
      have z := k _ same_rfl
      rw [e] at z
      exact z
    by_cases c4 : 4 ≤ ps.length
    · refine ⟨_, rfl, p, _, rfl, .inl (SqL.of hp), _, _, rfl, rfl, _, rfl, if_f (decide_eq_false (by omega)) ?_⟩
      obtain ⟨x0, h0⟩ : ∃ x, ps[0]? = some x := ⟨_, List.getElem?_eq_getElem (by omega)⟩
      obtain ⟨x1, h1⟩ : ∃ x, ps[1]? = some x := ⟨_, List.getElem?_eq_getElem (by omega)⟩
      refine ⟨_, rfl, p, _, 0, _, rfl, rfl, SqL.of hp, wdsL ps 0 h0, rfl, _, rfl, ?_⟩
      by_cases c0 : x0 = codes "wall"
      rotate_left
      · exact if_t (by rw [ew, decide_eq_false (fun z => c0 (S_inj (V.str.inj z)))]; rfl) (no (by unfold wallB; rw [decide_eq_false (show ¬ ps[0]? = some (codes "wall") from fun z => c0 (Option.some.inj (h0.symm.trans z)))]; simp))
      refine if_f (by rw [ew, c0, decide_eq_true rfl]; rfl) ?_
      have l1 := wo.ln x1 (List.mem_of_getElem? h1)
      refine ⟨_, rfl, p, _, 1, _, rfl, rfl, SqL.of hp, wdsL ps 1 h1, !decide (x1 = []), ⟨by rw [S_len, sizeLine_eq]; omega, ?_⟩, ?_⟩
      · rw [S_len]
        cases x1 with
        | nil => rfl
        | cons c r => rw [decide_eq_false (List.cons_ne_nil _ _), List.length_cons]; symm; rw [Bool.not_false, bne_iff_ne]; omega
      by_cases c1 : x1 = []
      · exact if_t (by rw [decide_eq_true c1]; rfl) (no (by unfold wallB; rw [decide_eq_true (show ps[1]? = some [] by rw [h1, c1])]; simp))
      refine if_f (by rw [decide_eq_false c1]; rfl) ?_
      have eb : wallB ps = (ps.drop 2).all numB := by
        unfold wallB
        rw [decide_eq_true c4, decide_eq_true (show ps[0]? = some (codes "wall") by rw [h0, c0]), decide_eq_false (show ¬ ps[1]? = some [] from fun z => c1 (Option.some.inj (h1.symm.trans z)))]
        rfl
      refine ⟨_, rfl, _, rfl, p, _, rfl, SqL.of hp, fun L hL => ?_⟩
      have sL := same_new (o := .lst (cutV ((ps.map S).map V.str) (some 2) none)) hL
      have eL : upd H L (.lst (cutV ((ps.map S).map V.str) (some 2) none)) L = some (.lst (((ps.drop 2).map S).map V.str)) := by
        rw [upd_same, show (some (2 : Int)) = some ((2 : Nat) : Int) from rfl, cutV_drop, List.map_drop, List.map_drop]
      generalize upd H L (.lst (cutV ((ps.map S).map V.str) (some 2) none)) = H1 at sL eL ⊢
      have ln : ∀ x ∈ ps.drop 2, x.length ≤ 100 := fun x hx => wo.ln x (List.mem_of_mem_drop hx)
      have fw : (ps.drop 2).length ≤ 120 := by rw [List.length_drop]; omega
      generalize ps.drop 2 = ns at eL ln fw eb
      refine ⟨L, rfl, ⟨_, SqL.of eL⟩, fun D hD => ?_⟩
      refine lc_it (walk_list (xs := (ns.map S).map V.str)) (fun i H' => H' D = some (.lst (((ns.take i).map numB).map V.bl)) ∧ Same H1 H') ⟨by rw [List.take_zero]; exact upd_same, same_new hD⟩ (fun _ _ _ h => SqL.of (h.2 _ _ eL)) ?_ ?_
      · rintro i x H2 H3 hi ⟨e2, S2⟩ ⟨rfl, hx⟩
        rw [List.length_map, List.length_map] at hi
        rw [List.getElem?_map, List.getElem?_map, List.getElem?_eq_getElem hi] at hx
        cases hx
        refine ⟨rfl, _, rfl, ns[i], rfl, ln _ (List.getElem_mem hi), fun H4 S4 => ⟨_, S4 _ _ e2, small1000 (by rw [List.length_map, List.length_map, List.length_take]; omega), ?_, fun c o e => ?_⟩⟩
        · rw [upd_same, List.take_succ, List.getElem?_eq_getElem hi, List.map_append, List.map_append]
          rfl
        · rw [upd_ne (ne_of_none e hD)]
          exact S4 _ _ (S2 _ _ e)
      rintro H2 ⟨e2, S2⟩
      rw [List.length_map, List.length_map, List.take_length] at e2
      refine ⟨D, _, rfl, SqL.of e2, ?_⟩
      have z := k _ (same_tr sL S2)
      rw [eb] at z
      rw [List.all_map]
      exact z
    · exact ⟨_, rfl, p, _, rfl, .inl (SqL.of hp), _, _, rfl, rfl, _, rfl, if_t (decide_eq_true (by omega)) (no (by unfold wallB; rw [decide_eq_false c4]; rfl))⟩

set_option maxHeartbeats 0 in
theorem ok_ill {f fIsn : Addr} {fd fdIsn : FuncData} (F : Fun K "_is_link_line" "_is_link_line" sIll f fd) (GIsn : FnOk P w K mg base CX0 1 fIsn fdIsn ["word"] spIsn) (FIsn : Fun K "_is_number" "_is_number" sIsn fIsn fdIsn) (bIsn : Binds K fdIsn ["word"] []) (T : IlTxt mg fIsn) : FnOk P w K mg base CX0 2 f fd ["words"] spIll := by
  refine F.ok scIll (fun vs H Q E h => ?_) (fun cdv A outer s H vs Q E hr h => ?_)
  · obtain ⟨p, ps, rfl, _⟩ := h
    rfl
  · obtain ⟨p, ps, rfl, hp, wo, k⟩ := h
    have hr1 : Room 1 _ := hr.mono (by decide)
    refine ⟨_, (pss_cons (ps_if (PW.pt (pw_or (pt_cmpR op_ne (pe_callB call_len_seq (by rfl) T.b_len PySem.boot_len (pa_cons (pv 0) pa_nil)) pe_int (nomark _)) (pw_or1 (pt_cmpR op_ne (pe_ix ix_list (pv 0) pe_int (fun _ _ => rfl)) pe_str (nomark _))))) (pss_one (ps_ret pe_bl)) pss_nil)
      (pss_one (ps_ret (pe_callB (cr_all (by rfl)) (by rfl) T.b_all (by decide +kernel) (pa_cons (pe_lc (own := [("word", 1)]) (g := gName 1) (tt := tYes) (by rfl) scIll.nd (pi_list (pe_slice sl_list (pv 0) (po_some pe_int) po_none)) (blkOk_by (own := [("word", 1)]) (N := ["words", "word"]) (sc := defScope sIll) (by decide +kernel)) (fun _ _ _ _ _ => pg_name (i := 1) scIll.nd rfl (Or.inl rfl)) (fun _ _ _ _ _ => pts_nil) (fun _ _ _ _ _ => by exact (pe_call GIsn hr1 rfl T.num FIsn.kp bIsn .nil pass0 (pa_cons (pv 1) pa_nil)))) pa_nil))))), ?_⟩
    have ew : (Str.ofString "link" : Str) = S (codes "link") := codes_str _
    unfold WdsAt at hp
    have few := wo.few
    have ll : ((ps.map S).map V.str).length = ps.length := by rw [List.length_map, List.length_map]
    have no : linkB ps = false → Q (.bl false) H := fun e => by
      have z := k _ same_rfl
      rw [e] at z
      exact z
    by_cases c4 : ps.length = 5
    · refine ⟨_, rfl, p, _, rfl, .inl (SqL.of hp), rfl, _, rfl, if_f (by rw [ll, c4]; rfl) ?_⟩
      obtain ⟨x0, h0⟩ : ∃ x, ps[0]? = some x := ⟨_, List.getElem?_eq_getElem (by omega)⟩
      refine ⟨_, rfl, p, _, 0, _, rfl, rfl, SqL.of hp, wdsL ps 0 h0, rfl, _, rfl, ?_⟩
      by_cases c0 : x0 = codes "link"
      rotate_left
      · exact if_t (by rw [ew, decide_eq_false (fun z => c0 (S_inj (V.str.inj z)))]; rfl) (no (by unfold linkB; rw [decide_eq_false (show ¬ ps[0]? = some (codes "link") from fun z => c0 (Option.some.inj (h0.symm.trans z)))]; simp))
      refine if_f (by rw [ew, c0, decide_eq_true rfl]; rfl) ?_
      have eb : linkB ps = (ps.drop 1).all numB := by
        unfold linkB
        rw [decide_eq_true c4, decide_eq_true (show ps[0]? = some (codes "link") by rw [h0, c0])]
        rfl
      refine ⟨_, rfl, _, rfl, p, _, rfl, SqL.of hp, fun L hL => ?_⟩
      have sL := same_new (o := .lst (cutV ((ps.map S).map V.str) (some 1) none)) hL
      have eL : upd H L (.lst (cutV ((ps.map S).map V.str) (some 1) none)) L = some (.lst (((ps.drop 1).map S).map V.str)) := by
        rw [upd_same, show (some (1 : Int)) = some ((1 : Nat) : Int) from rfl, cutV_drop, List.map_drop, List.map_drop]
      generalize upd H L (.lst (cutV ((ps.map S).map V.str) (some 1) none)) = H1 at sL eL ⊢
      have ln : ∀ x ∈ ps.drop 1, x.length ≤ 100 := fun x hx => wo.ln x (List.mem_of_mem_drop hx)
      have fw : (ps.drop 1).length ≤ 120 := by rw [List.length_drop]; omega
      generalize ps.drop 1 = ns at eL ln fw eb
      refine ⟨L, rfl, ⟨_, SqL.of eL⟩, fun D hD => ?_⟩
      refine lc_it (walk_list (xs := (ns.map S).map V.str)) (fun i H' => H' D = some (.lst (((ns.take i).map numB).map V.bl)) ∧ Same H1 H') ⟨by rw [List.take_zero]; exact upd_same, same_new hD⟩ (fun _ _ _ h => SqL.of (h.2 _ _ eL)) ?_ ?_
      · rintro i x H2 H3 hi ⟨e2, S2⟩ ⟨rfl, hx⟩
        rw [List.length_map, List.length_map] at hi
        rw [List.getElem?_map, List.getElem?_map, List.getElem?_eq_getElem hi] at hx
        cases hx
        refine ⟨rfl, _, rfl, ns[i], rfl, ln _ (List.getElem_mem hi), fun H4 S4 => ⟨_, S4 _ _ e2, small1000 (by rw [List.length_map, List.length_map, List.length_take]; omega), ?_, fun c o e => ?_⟩⟩
        · rw [upd_same, List.take_succ, List.getElem?_eq_getElem hi, List.map_append, List.map_append]
          rfl
        · rw [upd_ne (ne_of_none e hD)]
          exact S4 _ _ (S2 _ _ e)
      rintro H2 ⟨e2, S2⟩
      rw [List.length_map, List.length_map, List.take_length] at e2
      refine ⟨D, _, rfl, SqL.of e2, ?_⟩
      have z := k _ (same_tr sL S2)
      rw [eb] at z
      rw [List.all_map]
      exact z
    · exact ⟨_, rfl, p, _, rfl, .inl (SqL.of hp), rfl, _, rfl, if_t (by rw [ll, decide_eq_false (fun z => c4 (by have := V.int.inj z; omega))]; rfl) (no (by unfold linkB; rw [decide_eq_false c4]; rfl))⟩

end
end Law

namespace Own
open PySem PySem.Spec PyProof.Rows L2
/-- o.m() that may raise, at the slots σ -/
theorem pe_methW0 {X : Cx} {CX : CXT} {k : Nat} {C f : Addr} {sp : Sp} {E : L2.St → XK} {m : Str} {o : Expr} {ta : TE} {pos apos : Pos} {pl : Sem Bool} (ho : PE X o ta) (c : Cls X.K C) (hm : Meth X.K C m f) (F : FnR X.prog X.w X.K X.mg X.base CX k f sp) (hr : Room k X.A) (hx : ∀ σ, PassesAt CX X σ (E σ))
    (ht : eval (.Call (.Attribute o m apos) [] [] pos) X.env = (do
      let ov ← eval o X.env
      standAt apos.atName
      let (g, first) ← holding [ov] (getMethod ov m pl)
      callWith pos g first (backTo pos (starEach [] X.env)) (backToKw pos (keywordEach [] X.env))) := by rfl) :
    PE X (.Call (.Attribute o m apos) [] [] pos) (tMethS C m sp E ta tNil) := by
  refine ⟨fun pins s σ H Q I h => ?_⟩
  refine PySem.W.methodCall_KW (pl := pl) (thn (ho.run pins s σ H _ I h) fun u s1 ⟨x, H1, I1, rx, a, dx, fs, ex, ea, l, q⟩ => ?_) ht
  subst ex
  cases (show u = Value.ref a from rx)
  refine getmeth_ok I1 ea c hm l (PySem.W.callWith_K0 (first := [.ref a]) I1.kIn hm.kp ?_)
  exact wpAny_call (run_fnRS (us := [.ref a]) (vs := [.ref a]) F hr (hx σ) I1 (.cons rfl .nil) q)
end Own

/-! Walls and links of the law. -/
namespace L2
open PySem PySem.Spec PyProof.Rows
section
variable {X : Cx}
theorem pgs_star {e : Expr} {es : List Expr} {p : Pos} {t : TG} {u : TGs} (h1 : PG X e t) (h2 : PGs X es u)
    (hs : (assignEach (.Starred e p :: es) X.env).map (·.2) = assign e X.env :: (assignEach es X.env).map (·.2) := by rfl) : PGs X (.Starred e p :: es) (gCons t u) := by
  refine ⟨fun pins s σ H vs us Q I r h => ?_⟩
  obtain ⟨v, vr, e1, h⟩ := h
  subst e1
  cases r with
  | cons r rr =>
    rw [hs]
    refine assignInOrder_cons (thn (h1.run pins s σ H _ _ _ I r h) fun _ s1 ⟨σ1, H1, I1, q1⟩ => ?_)
    exact h2.run pins s1 σ1 H1 _ _ Q I1 rr q1
end
end L2
namespace Law
open PySem PySem.Spec PyProof.Rows L2 Sup
/-! walls and links as data -/
def wallD (w : Wal) : PyData := .tuple [.str w.1, .int w.2.1, .int w.2.2.1, .tuple (w.2.2.2.map PyData.int)]
def lnkD (l : Lnk) : PyData := .tuple [.int l.1, .int l.2.1, .int l.2.2.1, .int l.2.2.2]
theorem int_ok (n : Int) : PyData.canLay0 (.int n) = true := by simp only [PyData.canLay0]
theorem dp_all {K : PySem.W.Frag} {H : Hp} : ∀ {ds : List PyData} {vs : List V}, vs.length = ds.length → (∀ (i : Nat) (v : V) (d : PyData), vs[i]? = some v → ds[i]? = some d → Dp K H v d) → DpAll K H vs ds
  | [], [], _, _ => .nil
  | [], _ :: _, h, _ => by cases h
  | _ :: _, [], h, _ => by cases h
  | d :: ds, v :: vs, h, k => .cons (k 0 v d rfl rfl) (dp_all (Nat.succ.inj h) fun i v' d' e1 e2 => k (i + 1) v' d' e1 e2)
theorem dp_ints {K : PySem.W.Frag} {H : Hp} : ∀ xs : List Int, DpAll K H (xs.map V.int) (xs.map PyData.int)
  | [] => .nil
  | x :: xs => .cons (.int x) (dp_ints xs)
theorem ok_ints : ∀ xs : List Int, PyData.canLayAll0 (xs.map PyData.int) = true
  | [] => by simp only [List.map_nil, PyData.canLayAll0]
  | x :: xs => by
    rw [List.map_cons]
    simp only [PyData.canLayAll0]
    rw [Bool.and_eq_true]
    exact ⟨int_ok x, ok_ints xs⟩
theorem deep_ints : ∀ xs : List Int, PyData.depthAll (xs.map PyData.int) = 0
  | [] => by simp [PyData.depthAll]
  | y :: ys => by
    rw [List.map_cons]
    simp [PyData.depthAll, PyData.depth, deep_ints ys]
theorem wal_dp {K : PySem.W.Frag} {H : Hp} {t : Addr} {w : Wal} (h : WalT K H t w) : Dp K H (.ref t) (wallD w) := by
  obtain ⟨sp, h1, h2⟩ := h
  exact .tup (SqT.of h1) (.cons (.str _) (.cons (.int _) (.cons (.int _) (.cons (.tup h2 (dp_ints _)) .nil))))
theorem wals_dp {K : PySem.W.Frag} {H : Hp} {p : Addr} {ws : List Wal} (h : WalsAt K H p ws) : Dp K H (.ref p) (.list (ws.map wallD)) := by
  obtain ⟨ts, h1, h2, h3⟩ := h
  refine .lst (SqL.of h1) (dp_all (by rw [List.length_map, List.length_map, h2]) fun i v d e1 e2 => ?_)
  rw [List.getElem?_map] at e1 e2
  obtain ⟨t, e3, rfl⟩ := Option.map_eq_some_iff.mp e1
  obtain ⟨w, e4, rfl⟩ := Option.map_eq_some_iff.mp e2
  exact wal_dp (h3 i t w e3 e4)
theorem lnks_dp {K : PySem.W.Frag} {H : Hp} {p : Addr} {ls : List Lnk} (h : LnksAt K H p ls) : Dp K H (.ref p) (.list (ls.map lnkD)) := by
  obtain ⟨ts, h1, h2, h3⟩ := h
  refine .lst (SqL.of h1) (dp_all (by rw [List.length_map, List.length_map, h2]) fun i v d e1 e2 => ?_)
  rw [List.getElem?_map] at e1 e2
  obtain ⟨t, e3, rfl⟩ := Option.map_eq_some_iff.mp e1
  obtain ⟨l, e4, rfl⟩ := Option.map_eq_some_iff.mp e2
  exact .tup (h3 i t l e3 e4) (.cons (.int _) (.cons (.int _) (.cons (.int _) (.cons (.int _) .nil))))
theorem can_all {α : Type} (f : α → PyData) : ∀ (xs : List α), (∀ x ∈ xs, PyData.canLay0 (f x) = true) → PyData.canLayAll0 (xs.map f) = true
  | [], _ => by simp only [List.map_nil, PyData.canLayAll0]
  | x :: xs, h => by
    rw [List.map_cons]
    simp only [PyData.canLayAll0]
    rw [Bool.and_eq_true]
    exact ⟨h x List.mem_cons_self, can_all f xs fun y hy => h y (List.mem_cons_of_mem _ hy)⟩
theorem deep_all {α : Type} (f : α → PyData) (n : Nat) : ∀ (xs : List α), (∀ x ∈ xs, PyData.depth (f x) ≤ n) → PyData.depthAll (xs.map f) ≤ n + 1
  | [], _ => by simp [PyData.depthAll]
  | x :: xs, h => by
    have ih := deep_all f n xs fun y hy => h y (List.mem_cons_of_mem _ hy)
    have hx := h x List.mem_cons_self
    rw [List.map_cons]
    simp only [PyData.depthAll]
    omega
theorem wals_shaped {ws : List Wal} (h : ∀ w ∈ ws, Fit w.1) : SeqAt.shaped (.list (ws.map wallD)) = true := by
  unfold SeqAt.shaped
  rw [Bool.and_eq_true]
  refine ⟨?_, decide_eq_true ?_⟩
  · simp only [PyData.canLay0]
    refine can_all wallD ws fun w hw => ?_
    unfold wallD
    simp only [PyData.canLay0, PyData.canLayAll0, ok_ints, Bool.and_true, Bool.true_and]
    have z := ok_str (h w hw).2
    simp only [PyData.canLay0] at z
    exact z
  · simp only [PyData.depth]
    have z := deep_all wallD 10 ws fun w hw => by
      unfold wallD
      simp only [PyData.depth, PyData.depthAll, deep_ints]
      omega
    omega
theorem lnks_shaped (ls : List Lnk) : SeqAt.shaped (.list (ls.map lnkD)) = true := by
  unfold SeqAt.shaped
  rw [Bool.and_eq_true]
  refine ⟨?_, decide_eq_true ?_⟩
  · simp only [PyData.canLay0]
    refine can_all lnkD ls fun w hw => ?_
    unfold lnkD
    simp only [PyData.canLay0, PyData.canLayAll0, Bool.and_true, Bool.true_and]
  · simp only [PyData.depth]
    have z := deep_all lnkD 10 ls fun w hw => by
      unfold lnkD
      simp only [PyData.depth, PyData.depthAll]
      omega
    omega
theorem LnksAt.neL {K : PySem.W.Frag} {H : Hp} {p : Addr} {ls : List Lnk} (h : LnksAt K H p ls) : ∃ xs, H p = some (.lst xs) := by
  obtain ⟨ts, h1, _⟩ := h
  exact ⟨_, h1⟩
theorem Sz.small {i : Int} (h : i.natAbs ≤ 1000) : Sz i := Nat.lt_of_le_of_lt h (by decide +kernel)
theorem WalsAt.pushT {K : PySem.W.Frag} {H : Hp} {p q : Addr} {ws : List Wal} {w : Wal} (h : WalsAt K H p ws) (hs : WalT K H q w) (hl : ws.length ≤ 900) :
    ∃ acc, H p = some (.lst acc) ∧ acc.length < sizeLine ∧ WalsAt K (upd H p (.lst (acc ++ [.ref q]))) p (ws ++ [w]) := by
  obtain ⟨ts, h1, h2, h3⟩ := h
  have tupP : ∀ {a : Addr} {w : Wal}, ∀ zs, WalT K H a w → WalT K (upd H p (.lst zs)) a w := fun {a w} zs h => by
    obtain ⟨sp, y1, y2⟩ := h
    refine ⟨sp, by rw [upd_ne (fun z => by rw [z, h1] at y1; cases y1)]; exact y1, ?_⟩
    rcases y2 with (h | ⟨o, h⟩) | h
    · exact .inl (.inl (by rw [upd_ne (fun z => by rw [z, h1] at h; cases h)]; exact h))
    · exact .inl (.inr ⟨o, by rw [upd_ne (fun z => by rw [z, h1] at h; cases h)]; exact h⟩)
    · exact .inr h
  refine ⟨_, h1, small1000 (by rw [List.length_map]; omega), ts ++ [q], by rw [upd_same, List.map_append]; rfl, by simp [h2], fun i t w' e1 e2 => ?_⟩
  by_cases hi : i < ts.length
  · rw [List.getElem?_append_left hi] at e1
    rw [List.getElem?_append_left (by omega)] at e2
    exact tupP _ (h3 i t w' e1 e2)
  · rw [List.getElem?_append_right (by omega)] at e1 e2
    have ei : i - ts.length = 0 := by
      have := (List.getElem?_eq_some_iff.mp e1).1
      simp at this
      omega
    have ej : i - ws.length = 0 := by omega
    rw [ei] at e1
    rw [ej] at e2
    cases e1
    cases e2
    exact tupP _ hs
/-- all but two lists stands -/
def Sm2 (l1 l2 : Addr) (H H' : Hp) : Prop := ∀ b o, b ≠ l1 → b ≠ l2 → H b = some o → H' b = some o
section
variable {K : PySem.W.Frag} {H H' : Hp} {l1 l2 : Addr} {xs ys : List V}
theorem sqT_m2 (h1 : H l1 = some (.lst xs)) (h2 : H l2 = some (.lst ys)) (s : Sm2 l1 l2 H H') {a : Addr} {zs : List V} (h : SqT K H a zs) : SqT K H' a zs := by
  rcases h with (h | ⟨o, h⟩) | h
  · exact .inl (.inl (s _ _ (fun z => by rw [z, h1] at h; cases h) (fun z => by rw [z, h2] at h; cases h) h))
  · exact .inl (.inr ⟨o, s _ _ (fun z => by rw [z, h1] at h; cases h) (fun z => by rw [z, h2] at h; cases h) h⟩)
  · exact .inr h
theorem WalsAt.m2 (h1 : H l1 = some (.lst xs)) (h2 : H l2 = some (.lst ys)) (s : Sm2 l1 l2 H H') {p : Addr} {ws : List Wal} (h : WalsAt K H p ws) (n1 : p ≠ l1) (n2 : p ≠ l2) : WalsAt K H' p ws := by
  obtain ⟨ts, y1, y2, y3⟩ := h
  refine ⟨ts, s _ _ n1 n2 y1, y2, fun i t w e1 e2 => ?_⟩
  obtain ⟨sp, z1, z2⟩ := y3 i t w e1 e2
  exact ⟨sp, s _ _ (fun z => by rw [z, h1] at z1; cases z1) (fun z => by rw [z, h2] at z1; cases z1) z1, sqT_m2 h1 h2 s z2⟩
theorem LnksAt.m2 (h1 : H l1 = some (.lst xs)) (h2 : H l2 = some (.lst ys)) (s : Sm2 l1 l2 H H') {p : Addr} {ls : List Lnk} (h : LnksAt K H p ls) (n1 : p ≠ l1) (n2 : p ≠ l2) : LnksAt K H' p ls := by
  obtain ⟨ts, y1, y2, y3⟩ := h
  exact ⟨ts, s _ _ n1 n2 y1, y2, fun i t w e1 e2 => sqT_m2 h1 h2 s (y3 i t w e1 e2)⟩
theorem Box.m2 {b l : Addr} (B : Box H b l) (s : Sm2 l1 l2 H H') (n : b ≠ l1 ∧ l ≠ l1) (m : b ≠ l2 ∧ l ≠ l2) : Box H' b l := by
  obtain ⟨ns, i, q, s', h1, h2, h3⟩ := B
  exact ⟨ns, i, q, s', s _ _ n.1 m.1 h1, s _ _ n.2 m.2 h2, h3⟩
end
theorem LnksAt.sameB {K : PySem.W.Frag} {H H' : Hp} {b l p : Addr} {ls : List Lnk} (h : LnksAt K H p ls) (B : Box H b l) (s : SameB b H H') : LnksAt K H' p ls := by
  obtain ⟨ts, h1, h2, h3⟩ := h
  exact ⟨ts, s _ _ (B.neL3 h1) h1, h2, fun i t w e1 e2 => sqT_sameB (h3 i t w e1 e2) B s⟩
theorem WalsAt.in_ {K : PySem.W.Frag} {H : Hp} {p : Addr} {ws : List Wal} (h : WalsAt K H p ws) : WalsIn K H p ws := by
  obtain ⟨ts, h1, h2, h3⟩ := h
  exact ⟨ts, .inl (SqL.of h1), h2, h3⟩
theorem LnksAt.in_ {K : PySem.W.Frag} {H : Hp} {p : Addr} {ls : List Lnk} (h : LnksAt K H p ls) : LnksIn K H p ls := by
  obtain ⟨ts, h1, h2, h3⟩ := h
  exact ⟨ts, .inl (SqL.of h1), h2, h3⟩
theorem WalsIn.same {K : PySem.W.Frag} {H H' : Hp} {p : Addr} {ws : List Wal} (h : WalsIn K H p ws) (s : Same H H') : WalsIn K H' p ws := by
  obtain ⟨ts, h1, h2, h3⟩ := h
  exact ⟨ts, h1.same s, h2, fun i t w e1 e2 => (h3 i t w e1 e2).same s⟩
theorem LnksIn.same {K : PySem.W.Frag} {H H' : Hp} {p : Addr} {ls : List Lnk} (h : LnksIn K H p ls) (s : Same H H') : LnksIn K H' p ls := by
  obtain ⟨ts, h1, h2, h3⟩ := h
  exact ⟨ts, h1.same s, h2, fun i t w e1 e2 => sqT_same (h3 i t w e1 e2) s⟩
theorem LnksAt.upd1 {K : PySem.W.Frag} {H : Hp} {p q : Addr} {xs : List V} {o : HO} {ls : List Lnk} (h : LnksAt K H p ls) (hq : H q = some (.lst xs)) (n : p ≠ q) : LnksAt K (upd H q o) p ls :=
  LnksAt.m2 hq hq (fun b o nb _ e => (upd_ne nb).trans e) h n n
theorem WalsAt.upd1 {K : PySem.W.Frag} {H : Hp} {p q : Addr} {xs : List V} {o : HO} {ws : List Wal} (h : WalsAt K H p ws) (hq : H q = some (.lst xs)) (n : p ≠ q) : WalsAt K (upd H q o) p ws :=
  WalsAt.m2 hq hq (fun b o nb _ e => (upd_ne nb).trans e) h n n
/-- a shape is, for what is told -/
def Shp (ws : List Wal) (ls : List Lnk) : Prop := ∃ pi : Int → Int, ∀ e ∈ toldOf ws ls, pi e.2.1 - pi e.1 ≤ e.2.2
/-- what a call of Site asks for at H -/
structure SiteGo3 (K : PySem.W.Frag) (C : Errs) (CS : Addr) (ws : List Wal) (ls : List Lnk) (E : XK) (H : Hp) (Q : VK) : Prop where
  l1 : ws.length ≤ 100
  l2 : ls.length ≤ 60
  l3 : places ws ≤ 800
  fW : ∀ w ∈ ws, WFit w
  fL : ∀ l ∈ ls, LFit l
  e1 : ∀ b, rowsDue [] ws = some b → DueX C E (Same H) b
  e2 : rowsDue [] ws = none → 24 < places ws → DueX C E (Same H) (.many (places ws : Nat))
  e3 : rowsDue [] ws = none → places ws ≤ 24 → ∀ z, linksDue (places ws : Nat) ls = some z → DueX C E (Same H) (.place z)
  e4 : rowsDue [] ws = none → places ws ≤ 24 → linksDue (places ws : Nat) ls = none → ¬ Shp ws ls → ∀ (H' : Hp) (c d : Addr) (ring : List Int), Same H H' → H' c = some (.lst (ring.map V.int)) → Relax.RingOk (toldOf ws ls) (places ws) ring → H' d = none → E (.ref C.S) (some d) (upd H' d (.xd [("ring", .ref c)]))
  ok : rowsDue [] ws = none → places ws ≤ 24 → linksDue (places ws : Nat) ls = none → Shp ws ls → ∀ (r : Addr) (H' : Hp), H r = none → Same H H' → SiteAt K CS ws ls H' r → Q (.ref r) H'
theorem SiteGo3.mono {K : PySem.W.Frag} {C : Errs} {CS : Addr} {ws : List Wal} {ls : List Lnk} {E : XK} {H H1 : Hp} {Q : VK} (g : SiteGo3 K C CS ws ls E H Q) (s : Same H H1) : SiteGo3 K C CS ws ls E H1 Q :=
  { l1 := g.l1, l2 := g.l2, l3 := g.l3, fW := g.fW, fL := g.fL, e1 := fun b hb => (g.e1 b hb).mono fun _ t => same_tr s t, e2 := fun hn c => (g.e2 hn c).mono fun _ t => same_tr s t, e3 := fun hn c z hz => (g.e3 hn c z hz).mono fun _ t => same_tr s t,
    e4 := fun hn c hl hs H' c2 d ring t => g.e4 hn c hl hs H' c2 d ring (same_tr s t), ok := fun hn c hl hs r H' nr t => g.ok hn c hl hs r H' (freshS s nr) (same_tr s t) }
theorem mk_site3 {K : PySem.W.Frag} {C : Errs} {CS pw pk : Addr} {ws : List Wal} {ls : List Lnk} {E : XK} {H1 : Hp} {Q : VK} (hW : WalsIn K H1 pw ws) (hL : LnksIn K H1 pk ls) (g : SiteGo3 K C CS ws ls E H1 Q) : Own.MkS CS (spSini2 K C CS) E [.ref pw, .ref pk] H1 Q := by
  refine ⟨fun x dx nx ndx nn => ?_⟩
  have s0 : Same H1 (upd (upd H1 dx (.own x)) x (.ins CS dx [])) := fun b o e => by
    rw [upd_ne (ne_of_none e nx), upd_ne (ne_of_none e ndx)]
    exact e
  have sb : ∀ {H'}, SameB x (upd (upd H1 dx (.own x)) x (.ins CS dx [])) H' → Same H1 H' := fun {H'} s b o e => s _ _ (ne_of_none e nx) (s0 _ _ e)
  exact ⟨x, dx, pw, pk, ws, ls, rfl, upd_same, hW.same s0, hL.same s0, g.l1, g.l2, g.l3, g.fW, g.fL, fun b hb => (g.e1 b hb).mono fun _ s => sb s, fun hn => ⟨fun c => (g.e2 hn c).mono fun _ s => sb s, fun c => ⟨fun z hz => (g.e3 hn c z hz).mono fun _ s => sb s, fun hl => ⟨fun sh H' s k => ⟨rfl, g.ok hn c hl sh x H' nx (sb s) (k H' ⟨fun _ _ e => e, fun _ _ _ e => e, fun _ _ e => e, fun _ _ _ e => e⟩)⟩, fun sh H' c2 d ring s hc ro hd => g.e4 hn c hl sh H' c2 d ring (sb s) hc ro hd⟩⟩⟩⟩
theorem RingOk.two {es : List Edge} {n : Nat} {ring : List Int} (h : Relax.RingOk es n ring) (hd : ∀ e ∈ es, e.1 ≠ e.2.1) : 2 ≤ ring.length := by
  obtain ⟨wt, h1, _⟩ := h.wt
  match ring, h.ne, h1 with
  | [], z, _ => exact (z rfl).elim
  | [a], _, h1 => exact absurd rfl (hd _ (h1 0 a a rfl (by simp)))
  | _ :: _ :: _, _, _ => exact Nat.succ_le_succ (Nat.succ_le_succ (Nat.zero_le _))
theorem told_ends {ws : List Wal} {ls : List Lnk} (h : linksDue (places ws : Nat) ls = none) : ∀ e ∈ toldOf ws ls, e.1 ≠ e.2.1 := fun e he => by
  rcases lims_cases (told_sub he) with ⟨i, t, h1, h2⟩ | ⟨a, w, x, h1, h2, _, _, h5⟩ | ⟨l, hl, h2⟩
  · rcases h2 with rfl | rfl
    · intro z
      have z : (-1 : Int) = (i : Int) := z
      omega
    · intro z
      have z : (i : Int) = (-1 : Int) := z
      omega
  · rcases h5 with rfl | rfl
    · intro z
      have z : (a : Int) = (a : Int) + 1 := z
      omega
    · intro z
      have z : (a : Int) + 1 = (a : Int) := z
      omega
  · unfold linksDue at h
    have z := List.findSome?_eq_none_iff.mp h l hl
    unfold linkDue at z
    split at z
    · cases z
    · split at z
      · cases z
      · rename_i h3
        rcases h2 with rfl | rfl
        · exact fun z => h3 (.inr z.symm)
        · exact fun z => h3 (.inr z)
abbrev sWal : Stmt := inClass (top 18) 2
abbrev sLks : Stmt := inClass (top 18) 3
theorem SiteAt.same {K : PySem.W.Frag} {CS r : Addr} {ws : List Wal} {ls : List Lnk} {H H' : Hp} (h : SiteAt K CS ws ls H r) (s : Same H H') : SiteAt K CS ws ls H' r := by
  obtain ⟨dx, fs, pr, pl, ps, pd, pt, h0, ⟨a1, a2⟩, ⟨b1, b2⟩, ⟨c1, c2⟩, ⟨d1, d2⟩, ⟨e1, e2⟩, f1, g1, ptd, plm, t1, t2, m1, m2⟩ := h
  exact ⟨dx, fs, pr, pl, ps, pd, pt, s _ _ h0, ⟨a1, a2.same s⟩, ⟨b1, b2.same s⟩, ⟨c1, c2.same s⟩, ⟨d1, by obtain ⟨kv, k1, k2⟩ := d2; exact ⟨kv, s _ _ k1, k2⟩⟩, ⟨e1, s _ _ e2⟩, f1, g1, ptd, plm, t1, s _ _ t2, m1, m2.same s⟩
structure MeTxt (K : PySem.W.Frag) (mg : Str → Option Value) (CS : Addr) : Prop where
  cl : Cls K CS
  na : ∀ m ∈ (["_rows", "_links", "_spots", "_places", "_tops", "size", "_told", "_limits"] : List Str), NoAttr K CS m
  list : mg "list" = none
def spWal (K : PySem.W.Frag) (CS : Addr) : Sp := fun vs H Q _ => ∃ (r : Addr) (ws : List Wal) (ls : List Lnk), vs = [.ref r] ∧ SiteAt K CS ws ls H r ∧ ∀ q H', H q = none → Same H H' → WalsAt K H' q ws → Q (.ref q) H'
def spLks (K : PySem.W.Frag) (CS : Addr) : Sp := fun vs H Q _ => ∃ (r : Addr) (ws : List Wal) (ls : List Lnk), vs = [.ref r] ∧ SiteAt K CS ws ls H r ∧ ∀ q H', H q = none → Same H H' → LnksAt K H' q ls → Q (.ref q) H'
section
variable {P : Program} {w : World} {K : PySem.W.Frag} {mg : Str → Option Value} {base : Heap} {C : Errs} {CS : Addr}
theorem scWal : FnScope ["self"] ["self"] (defScope sWal) := ⟨rfl, rfl, rfl, by decide +kernel, rfl, by decide +kernel, by decide +kernel⟩
theorem scLks : FnScope ["self"] ["self"] (defScope sLks) := ⟨rfl, rfl, rfl, by decide +kernel, rfl, by decide +kernel, by decide +kernel⟩
theorem ok_wal {f : Addr} {fd : FuncData} (F : Fun K "walls" "Site.walls" sWal f fd) (T : MeTxt K mg CS) : FnOk P w K mg base CX0 1 f fd ["self"] (spWal K CS) := by
  refine F.ok scWal (fun vs H Q E h => ?_) (fun cdv A outer s H vs Q E hr h => ?_)
  · obtain ⟨r, ws, ls, rfl, _⟩ := h
    rfl
  · obtain ⟨r, ws, ls, rfl, hS, k⟩ := h
    obtain ⟨dx, fs, pr, pl, ps, pd, pt, h0, ⟨a1, ts, a2, a3, a4⟩, _⟩ := id hS
    refine ⟨_, (pss_one (ps_ret (pe_callTy call_list_of (by rfl) T.list (by decide +kernel) (pa_cons (pe_fld (pv 0) rfl) pa_nil)))), ?_⟩
    refine ⟨_, rfl, r, CS, dx, fs, _, rfl, h0, T.cl, T.na _ (by decide), a1, pr, _, rfl, .inl (SqL.of a2), fun q hq => k q _ hq (same_new hq) ?_⟩
    have s := same_new (o := .lst (ts.map V.ref)) hq
    exact ⟨ts, upd_same, a3, fun i t w e1 e2 => (a4 i t w e1 e2).same s⟩
theorem ok_lks {f : Addr} {fd : FuncData} (F : Fun K "links" "Site.links" sLks f fd) (T : MeTxt K mg CS) : FnOk P w K mg base CX0 1 f fd ["self"] (spLks K CS) := by
  refine F.ok scLks (fun vs H Q E h => ?_) (fun cdv A outer s H vs Q E hr h => ?_)
  · obtain ⟨r, ws, ls, rfl, _⟩ := h
    rfl
  · obtain ⟨r, ws, ls, rfl, hS, k⟩ := h
    obtain ⟨dx, fs, pr, pl, ps, pd, pt, h0, _, ⟨a1, ts, a2, a3, a4⟩, _⟩ := id hS
    refine ⟨_, (pss_one (ps_ret (pe_callTy call_list_of (by rfl) T.list (by decide +kernel) (pa_cons (pe_fld (pv 0) rfl) pa_nil)))), ?_⟩
    refine ⟨_, rfl, r, CS, dx, fs, _, rfl, h0, T.cl, T.na _ (by decide), a1, pl, _, rfl, .inl (SqL.of a2), fun q hq => k q _ hq (same_new hq) ?_⟩
    have s := same_new (o := .lst (ts.map V.ref)) hq
    exact ⟨ts, upd_same, a3, fun i t w e1 e2 => sqT_same (a4 i t w e1 e2) s⟩
end
end Law

/-! Sites read, with errors. -/
namespace Law
open PySem PySem.Spec PyProof.Rows L2 SX NumText ItSeq Sup
abbrev sRd : Stmt := top 39
/-- a list of walls and of links read so far -/
def spRd (K : PySem.W.Frag) (C : Errs) (CL CS : Addr) : Sp := fun vs H Q E => ∃ pss : List (List (List Nat)), vs = [.str (S (textT pss))] ∧ (pss = [] ∨ textT pss ≠ []) ∧ (∀ q ∈ pss, WOk q) ∧ pss.length ≤ 60 ∧
  (∀ k, readS 1 [] [] pss = .inl k → ∀ (H' : Hp) (d : Addr), Same H H' → H' d = none → E (.ref CL) (some d) (upd H' d (.xd [("line", .int (k : Nat))]))) ∧
  (∀ ws ls, readS 1 [] [] pss = .inr (ws, ls) → SiteGo3 K C CS ws ls E H Q)
structure RdTxt (mg : Str → Option Value) (CS fNl fIwl fIll : Addr) : Prop where
  nl : mg "_numbered_lines" = some (.ref fNl)
  iwl : mg "_is_wall_line" = some (.ref fIwl)
  ill : mg "_is_link_line" = some (.ref fIll)
  site : mg "Site" = some (.ref CS)
  b_int : mg "int" = none
  b_tuple : mg "tuple" = none
theorem words4 {ps : List (List Nat)} (h : wallB ps = true) : ∃ p0 p1 p2 p3 r, ps = p0 :: p1 :: p2 :: p3 :: r ∧ numB p2 = true ∧ numB p3 = true ∧ ∀ x ∈ r, numB x = true := by
  unfold wallB at h
  rw [Bool.and_eq_true, Bool.and_eq_true, Bool.and_eq_true, decide_eq_true_eq] at h
  obtain ⟨h4, _, _, ha⟩ := h
  match ps, h4, ha with
  | p0 :: p1 :: p2 :: p3 :: r, _, ha =>
    have ha := List.all_eq_true.mp ha
    exact ⟨p0, p1, p2, p3, r, rfl, ha p2 List.mem_cons_self, ha p3 (List.mem_cons_of_mem _ List.mem_cons_self), fun x hx => ha x (List.mem_cons_of_mem _ (List.mem_cons_of_mem _ hx))⟩
theorem words5 {ps : List (List Nat)} (h : linkB ps = true) : ∃ p0 p1 p2 p3 p4, ps = [p0, p1, p2, p3, p4] ∧ ∀ x ∈ [p1, p2, p3, p4], numB x = true := by
  unfold linkB at h
  rw [Bool.and_eq_true, Bool.and_eq_true, decide_eq_true_eq] at h
  obtain ⟨h4, _, ha⟩ := h
  match ps, h4, ha with
  | [p0, p1, p2, p3, p4], _, ha => exact ⟨p0, p1, p2, p3, p4, rfl, fun x hx => List.all_eq_true.mp ha x hx⟩
section
variable {P : Program} {w : World} {K : PySem.W.Frag} {mg : Str → Option Value} {base : Heap} {C : Errs} {CL CS : Addr}
theorem scRd : FnScope ["text", "walls", "links", "number", "words", "name", "top", "slope", "spans", "span", "word"] ["text"] (defScope sRd) := ⟨rfl, rfl, rfl, by decide +kernel, rfl, by decide +kernel, by decide +kernel⟩
set_option maxHeartbeats 0 in
theorem ok_rd {f fNl fIwl fIll fSi : Addr} {fd fdNl fdIwl fdIll : FuncData} (F : Fun K "read_site" "read_site" sRd f fd) (RL : ErrOk P w K mg base "BadLine" CL "line" okInt) (GNl : FnOk P w K mg base CX0 1 fNl fdNl ["text"] spNl) (FNl : Fun K "_numbered_lines" "_numbered_lines" sNl fNl fdNl) (bNl : Binds K fdNl ["text"] [])
    (GIwl : FnOk P w K mg base CX0 2 fIwl fdIwl ["words"] spIwl) (FIwl : Fun K "_is_wall_line" "_is_wall_line" sIwl fIwl fdIwl) (bIwl : Binds K fdIwl ["words"] [])
    (GIll : FnOk P w K mg base CX0 2 fIll fdIll ["words"] spIll) (FIll : Fun K "_is_link_line" "_is_link_line" sIll fIll fdIll) (bIll : Binds K fdIll ["words"] [])
    (MK : Mk K CS fSi) (GSi : FnR P w K mg base (L2.CX P w) 7 fSi (spSini2 K C CS)) (T : RdTxt mg CS fNl fIwl fIll) : FnOk P w K mg base (L2.CX P w) 9 f fd ["text"] (spRd K C CL CS) := by
  refine F.okX scRd (fun vs H Q E h => ?_) (fun cdv A outer s H vs Q E hr h => ?_)
  · obtain ⟨pss, rfl, _⟩ := h
    rfl
  · obtain ⟨pss, rfl, nt, ok, r60, hbad, hgo⟩ := h
    have hr1 : Room 1 _ := hr.mono (by decide)
    have hr2 : Room 2 _ := hr.mono (by decide)
    have hr3 : Room 3 _ := hr.mono (by decide)
    have hr7 : Room 8 _ := hr
    refine ⟨_, (pss_cons (ps_set (i := 1) scRd.nd rfl (Or.inl rfl) (pe_lst pa_nil))
      (pss_cons (ps_set (i := 2) scRd.nd rfl (Or.inl rfl) (pe_lst pa_nil))
      (C8.pss_cut (ps_for (passes_of rfl) rfl (pi_list (pe_call GNl hr1 rfl T.nl FNl.kp bNl .nil pass0 (pa_cons (pv 0) pa_nil))) (pg_tup (by rfl) (pgs_cons (pg_name (i := 3) scRd.nd rfl (Or.inl rfl)) (pgs_cons (pg_name (i := 4) scRd.nd rfl (Or.inl rfl)) pgs_nil))) (pss_one (ps_if (PW.pt (pw_and (pt_val (pe_call GIwl hr2 rfl T.iwl FIwl.kp bIwl .nil pass0 (pa_cons (pv 4) pa_nil))) (pw_and1 (pt_not (pt_truth (pv 2) (by intro _; rfl)))))) (pss_cons (ps_asg (pe_slice sl_list (pv 4) (po_some pe_int) po_none) (pg_star (n := 3) rfl (pgs_cons (pg_name (i := 5) scRd.nd rfl (Or.inl rfl)) (pgs_cons (pg_name (i := 6) scRd.nd rfl (Or.inl rfl)) (pgs_cons (pg_name (i := 7) scRd.nd rfl (Or.inl rfl)) (pgs_star (pg_name (i := 8) scRd.nd rfl (Or.inl rfl)) pgs_nil))))))
      (pss_one (ps_expr (pe_bm PySem.F.plainAttrs_list PySem.F.slot_list_append PySem.F.type_list_append mt_append (pv 1) (pa_cons (pe_tup (pa_cons (pv 5) (pa_cons (pe_callTy call_int_str (by rfl) T.b_int (by decide +kernel) (pa_cons (pv 6) pa_nil)) (pa_cons (pe_callTy call_int_str (by rfl) T.b_int (by decide +kernel) (pa_cons (pv 7) pa_nil)) (pa_cons (pe_tupleOf (by rfl) T.b_tuple (pe_lc (own := [("span", 9)]) (g := gName 9) (tt := tYes) (by rfl) scRd.nd (pi_list (pv 8)) (blkOk_by (own := [("span", 9)]) (N := ["text", "walls", "links", "number", "words", "name", "top", "slope", "spans", "span", "word"]) (sc := defScope sRd) (by decide +kernel)) (fun _ _ _ _ _ => pg_name (i := 9) scRd.nd rfl (Or.inl rfl)) (fun _ _ _ _ _ => pts_nil) (fun _ _ _ _ _ => by exact (pe_callTy call_int_str (by rfl) T.b_int (by decide +kernel) (pa_cons (pv 9) pa_nil))))) pa_nil))))) pa_nil))))) (pss_one (ps_if (pt_val (pe_call GIll hr2 rfl T.ill FIll.kp bIll .nil pass0 (pa_cons (pv 4) pa_nil))) (pss_one (ps_expr (pe_bm PySem.F.plainAttrs_list PySem.F.slot_list_append PySem.F.type_list_append mt_append (pv 2) (pa_cons (pe_tupleOf (by rfl) T.b_tuple (pe_lc (own := [("word", 10)]) (g := gName 10) (tt := tYes) (by rfl) scRd.nd (pi_list (pe_slice sl_list (pv 4) (po_some pe_int) po_none)) (blkOk_by (own := [("word", 10)]) (N := ["text", "walls", "links", "number", "words", "name", "top", "slope", "spans", "span", "word"]) (sc := defScope sRd) (by decide +kernel)) (fun _ _ _ _ _ => pg_name (i := 10) scRd.nd rfl (Or.inl rfl)) (fun _ _ _ _ _ => pts_nil) (fun _ _ _ _ _ => by exact (pe_callTy call_int_str (by rfl) T.b_int (by decide +kernel) (pa_cons (pv 10) pa_nil))))) pa_nil)))) (pss_one (ps_err RL rfl (takes_of rfl rfl rfl rfl) hr3 (pa_cons (pv 3) pa_nil) rfl)))))))
      (pss_one (ps_ret (Own.pe_makeS (E := fun _ => E) MK GSi hr7 rfl T.site (passS (passes_call (takes_of rfl rfl rfl rfl) fun _ _ _ _ z => z)) (pa_cons (pv 1) (pa_cons (pv 2) pa_nil)))))))), ?_⟩
    refine ⟨by show 0 ≤ sizeLine; decide, fun DW hDW => ?_⟩
    have s0 := same_new (o := .lst ([] : List V)) hDW
    have eW0 : upd H DW (.lst []) DW = some (.lst ([] : List V)) := upd_same
    generalize upd H DW (.lst []) = H0 at s0 eW0 ⊢
    refine ⟨by show 0 ≤ sizeLine; decide, fun DL hDL => ?_⟩
    have s1 := same_new (o := .lst ([] : List V)) hDL
    have eL1 : upd H0 DL (.lst []) DL = some (.lst ([] : List V)) := upd_same
    generalize upd H0 DL (.lst []) = H1 at s1 eL1 ⊢
    have eW1 := s1 _ _ eW0
    have nWL : DW ≠ DL := ne_of_none eW0 hDL
    have hDL0 : H DL = none := freshS s0 hDL
    refine ⟨fun σ' H' => ∃ (v3 v4 v5 v6 v7 v8 v9 v10 : Option V) (ws : List Wal) (ls : List Lnk), σ' = [some (.str (S (textT pss))), some (.ref DW), some (.ref DL), v3, v4, v5, v6, v7, v8, v9, v10] ∧ Same H H' ∧ WalsAt K H' DW ws ∧ LnksAt K H' DL ls ∧ readS 1 [] [] pss = .inr (ws, ls), ?_, ?_⟩
    · refine ⟨_, rfl, pss, rfl, nt, ok, by omega, fun p H2 np S2 ⟨tl, l1, l2, l3⟩ => ⟨p, rfl, ⟨_, SqL.of l1⟩, ?_⟩⟩
      have eW2 := S2 _ _ eW1
      have eL2 := S2 _ _ eL1
      have pW : p ≠ DW := Ne.symm (ne_of_none eW1 np)
      have pL : p ≠ DL := Ne.symm (ne_of_none eL1 np)
      have S02 := same_tr s0 (same_tr s1 S2)
      refine for_it (walk_list (xs := tl.map V.ref)) (fun i σ' H' => ∃ (v3 v4 v5 v6 v7 v8 v9 v10 : Option V) (ws : List Wal) (ls : List Lnk), σ' = [some (.str (S (textT pss))), some (.ref DW), some (.ref DL), v3, v4, v5, v6, v7, v8, v9, v10] ∧ Sm2 DW DL H2 H' ∧ WalsAt K H' DW ws ∧ LnksAt K H' DL ls ∧ ws.length + ls.length ≤ i ∧ readS 1 [] [] pss = readS (1 + i) ws ls (pss.drop i)) ⟨_, _, _, _, _, _, _, _, [], [], rfl, fun c o _ _ e => e, ⟨[], eW2, rfl, fun i t w e _ => nomatch e⟩, ⟨[], eL2, rfl, fun i t w e _ => nomatch e⟩, Nat.le_refl _, by rw [List.drop_zero]⟩ (fun i σ' H' _ h => by obtain ⟨_, _, _, _, _, _, _, _, _, _, _, K', _⟩ := h; exact SqL.of (K' _ _ pW pL l1)) ?_ ?_
      · rintro i x σ' H3 H4 hi ⟨v3, v4, v5, v6, v7, v8, v9, v10, ws, ls, rfl, K4, W4, L4, n4, rd⟩ ⟨rfl, hx⟩
        rw [List.length_map] at hi
        rw [List.getElem?_map, List.getElem?_eq_getElem hi] at hx
        cases hx
        have hip : i < pss.length := by omega
        obtain ⟨q, hq⟩ : ∃ q, pss[i]? = some q := ⟨_, List.getElem?_eq_getElem hip⟩
        have qo := ok q (List.mem_of_getElem? hq)
        have qln := qo.ln
        have qfew := qo.few
        have ed : pss.drop i = q :: pss.drop (i + 1) := by
          rw [List.drop_eq_getElem_cons hip]
          rw [List.getElem?_eq_getElem hip] at hq
          rw [Option.some.inj hq]
        rw [ed] at rd
        obtain ⟨wl, w1, w2⟩ := l3 i _ q (List.getElem?_eq_getElem hi) hq
        have nW : ∀ {D : Addr}, H2 D = some (.lst []) → wl ≠ D := fun {D} e z => by
          unfold WdsAt at w2
          rw [z, e] at w2
          have w2 := HO.lst.inj (Option.some.inj w2)
          obtain ⟨w0, wr, ew⟩ := List.exists_cons_of_ne_nil qo.ne
          rw [ew] at w2
          cases w2
        have w1' := K4 _ _ (fun z => by rw [z, eW2] at w1; cases w1) (fun z => by rw [z, eL2] at w1; cases w1) w1
        have w2' : WdsAt H4 wl q := K4 _ _ (nW eW2) (nW eL2) w2
        refine ⟨_, _, rfl, SqT.of w1', rfl, _, _, rfl, _, _, rfl, rfl, ?_⟩
        refine ⟨_, rfl, wl, q, rfl, w2', qo, fun H5 S5 => ?_⟩
        have L5 := L4.same S5
        have W5 := W4.same S5
        have w5 := S5 _ _ w2'
        have K5 : Sm2 DW DL H2 H5 := fun c o n1 n2 e => S5 _ _ (K4 c o n1 n2 e)
        obtain ⟨tl0, x1, x2, _⟩ := id L5
        have le0 : (tl0.map V.ref).isEmpty = ls.isEmpty := by
          cases tl0 with
          | nil =>
            have : ls = [] := List.length_eq_zero_iff.mp x2.symm
            rw [this]
            rfl
          | cons a b =>
            cases ls with
            | nil => cases x2
            | cons c d => rfl
        by_cases cw : (wallB q && ls.isEmpty) = true
        · rw [Bool.and_eq_true] at cw
          obtain ⟨cw1, cw2⟩ := cw
          refine ⟨_, rfl, if_t cw1 ⟨_, rfl, !(tl0.map V.ref).isEmpty, .inl ⟨_, SqL.of x1, rfl⟩, if_t (by rw [le0, cw2]; rfl) ?_⟩⟩
          have rd' : readS 1 [] [] pss = readS (1 + i + 1) (ws ++ [wallV q]) ls (pss.drop (i + 1)) := by
            rw [rd]
            show (if (wallB q && ls.isEmpty) = true then _ else _) = _
            rw [if_pos (by rw [cw1, cw2]; rfl)]
          obtain ⟨p0, p1, p2, p3, r, eq, n2, n3, nr⟩ := words4 cw1
          subst eq
          have fr : r.length ≤ 120 := by have : r.length + 1 + 1 + 1 + 1 ≤ 120 := qfew; omega
          refine ⟨_, rfl, _, rfl, wl, _, rfl, SqL.of w5, fun L hL => ?_⟩
          obtain ⟨cv, ecv⟩ : ∃ cv, cv = cutV (((p0 :: p1 :: p2 :: p3 :: r).map S).map V.str) (some 1) none := ⟨_, rfl⟩
          have ev : cv = [V.str (S p1), .str (S p2), .str (S p3)] ++ (r.map S).map V.str := by
            rw [ecv, show (some (1 : Int)) = some ((1 : Nat) : Int) from rfl, cutV_drop]
            rfl
          rw [← ecv]
          have sL := same_new (o := .lst cv) hL
          have eL : upd H5 L (.lst cv) L = some (.lst ([V.str (S p1), .str (S p2), .str (S p3)] ++ (r.map S).map V.str)) := by rw [upd_same, ev]
          have W6 := W5.same sL
          have L6 := L5.same sL
          have K6 : Sm2 DW DL H2 (upd H5 L (.lst cv)) := fun c o n1 n2 e => sL _ _ (K5 c o n1 n2 e)
          generalize upd H5 L (.lst cv) = H6 at eL W6 L6 K6 ⊢
          refine ⟨L, _, rfl, SqL.of eL, by simp, fun D hD => ?_⟩
          have sD := same_new (o := .lst ((r.map S).map V.str)) hD
          have eD : upd H6 D (.lst ((r.map S).map V.str)) D = some (.lst ((r.map S).map V.str)) := upd_same
          have W7 := W6.same sD
          have L7 := L6.same sD
          have K7 : Sm2 DW DL H2 (upd H6 D (.lst ((r.map S).map V.str))) := fun c o n1 n2 e => sD _ _ (K6 c o n1 n2 e)
          show gCons _ _ [V.str (S p1), .str (S p2), .str (S p3), .ref D] _ (upd H6 D (.lst ((r.map S).map V.str))) _
          generalize upd H6 D (.lst ((r.map S).map V.str)) = H7 at eD W7 L7 K7 ⊢
          refine ⟨_, _, rfl, _, _, rfl, _, _, rfl, _, _, rfl, rfl, ?_⟩
          obtain ⟨it2, lt2, _⟩ := num_int n2
          obtain ⟨it3, lt3, _⟩ := num_int n3
          obtain ⟨tw, y1, _, _⟩ := id W7
          refine ⟨_, rfl, .inl ⟨rfl, _, SqL.of y1⟩, _, rfl, _, rfl, _, valI p2, rfl, it2, by rw [S_len]; omega, _, rfl, _, valI p3, rfl, it3, by rw [S_len]; omega, ?_⟩
          refine ⟨_, rfl, D, rfl, ⟨_, SqL.of eD⟩, fun D3 hD3 => ?_⟩
          refine lc_it (walk_list (xs := (r.map S).map V.str)) (fun j H' => H' D3 = some (.lst (((r.take j).map valI).map V.int)) ∧ Same H7 H') ⟨by rw [List.take_zero]; exact upd_same, same_new hD3⟩ (fun _ _ _ h => SqL.of (h.2 _ _ eD)) ?_ ?_
          · rintro j x H8 H9 hj ⟨d8, S8⟩ ⟨rfl, hx⟩
            rw [List.length_map, List.length_map] at hj
            rw [List.getElem?_map, List.getElem?_map, List.getElem?_eq_getElem hj] at hx
            cases hx
            obtain ⟨itj, ltj, _⟩ := num_int (nr _ (List.getElem_mem hj))
            refine ⟨rfl, _, rfl, _, valI r[j], rfl, itj, by rw [S_len]; omega, _, d8, small1000 (by rw [List.length_map, List.length_map, List.length_take]; omega), ?_, fun c o e => ?_⟩
            · rw [upd_same, List.take_succ, List.getElem?_eq_getElem hj, List.map_append, List.map_append]
              rfl
            · rw [upd_ne (ne_of_none e hD3)]
              exact S8 _ _ e
          rintro H8 ⟨d8, S8⟩
          rw [List.length_map, List.length_map, List.take_length] at d8
          have W8 := W7.same S8
          have L8 := L7.same S8
          refine .inl ⟨D3, _, rfl, SqL.of d8, fun sp hsp => ?_⟩
          have s9 := same_new (o := .tup ((r.map valI).map V.int)) hsp
          have e9 : upd H8 sp (.tup ((r.map valI).map V.int)) sp = some (.tup ((r.map valI).map V.int)) := upd_same
          have W9 := W8.same s9
          have L9 := L8.same s9
          have K9 : Sm2 DW DL H2 (upd H8 sp (.tup ((r.map valI).map V.int))) := fun c o n1 n2 e => s9 _ _ (S8 _ _ (K7 c o n1 n2 e))
          generalize upd H8 sp (.tup ((r.map valI).map V.int)) = H9 at e9 W9 L9 K9 ⊢
          refine ⟨by show 4 ≤ sizeLine; decide, fun u hu => ?_⟩
          obtain ⟨acc, a1, a2, a3⟩ := W9.push (w := (S p1, valI p2, valI p3, r.map valI)) hu (SqT.of e9) (by omega)
          have s10 := same_new (o := .tup [.str (S p1), .int (valI p2), .int (valI p3), .ref sp]) hu
          have L10 := (L9.same s10).upd1 (o := .lst (acc ++ [V.ref u])) a1 (Ne.symm nWL)
          refine ⟨DW, acc, _, rfl, rfl, a1, a2, _, _, _, _, _, _, _, _, _, ls, rfl, fun c o n1 n2 e => ?_, a3, L10, by rw [List.length_append]; show ws.length + 1 + ls.length ≤ i + 1; omega, rd'⟩
          rw [upd_ne n1]
          exact s10 _ _ (K9 c o n1 n2 e)
        · have two : wallB q = false ∨ (wallB q = true ∧ ls.isEmpty = false) := by
            cases e1 : wallB q with
            | false => exact .inl rfl
            | true =>
              cases e2 : ls.isEmpty with
              | false => exact .inr ⟨rfl, rfl⟩
              | true => exact (cw (by rw [e1, e2]; rfl)).elim
          have rd0 : readS 1 [] [] pss = if linkB q = true then readS (1 + i + 1) ws (ls ++ [linkV q]) (pss.drop (i + 1)) else .inl (1 + i) := by
            rw [rd]
            show (if (wallB q && ls.isEmpty) = true then _ else _) = _
            rw [if_neg cw]
          refine two.elim (fun cb => ⟨_, rfl, if_f cb (if_f (by decide) ?_)⟩) (fun ⟨cb, ce⟩ => ⟨_, rfl, if_t cb ⟨_, rfl, !(tl0.map V.ref).isEmpty, .inl ⟨_, SqL.of x1, rfl⟩, if_f (by rw [le0, ce]; decide) ?_⟩⟩)
          all_goals
            refine ⟨_, rfl, wl, q, rfl, w5, qo, fun H6 S6 => ⟨_, rfl, ?_⟩⟩
            have w6 := S6 _ _ w5
            have W6 := W5.same S6
            have L6 := L5.same S6
            have K6 : Sm2 DW DL H2 H6 := fun c o n1 n2 e => S6 _ _ (K5 c o n1 n2 e)
            by_cases cl : linkB q = true
            · refine if_t cl ?_
              have rd' : readS 1 [] [] pss = readS (1 + i + 1) ws (ls ++ [linkV q]) (pss.drop (i + 1)) := by rw [rd0, if_pos cl]
              obtain ⟨p0, p1, p2, p3, p4, eq, nr⟩ := words5 cl
              subst eq
              obtain ⟨tl6, y1, _, _⟩ := id L6
              refine ⟨_, rfl, .inl ⟨rfl, _, SqL.of y1⟩, _, rfl, _, rfl, wl, _, rfl, SqL.of w6, fun L hL => ?_⟩
              obtain ⟨cv, ecv⟩ : ∃ cv, cv = cutV ((([p0, p1, p2, p3, p4].map S)).map V.str) (some 1) none := ⟨_, rfl⟩
              obtain ⟨ns, en⟩ : ∃ ns, ns = [p1, p2, p3, p4] := ⟨_, rfl⟩
              have ev : cv = (ns.map S).map V.str := by
                rw [ecv, en, show (some (1 : Int)) = some ((1 : Nat) : Int) from rfl, cutV_drop]
                rfl
              have nl : ns.length = 4 := by rw [en]; rfl
              rw [← en] at nr
              rw [← ecv]
              have sL := same_new (o := .lst cv) hL
              have eL : upd H6 L (.lst cv) L = some (.lst ((ns.map S).map V.str)) := by rw [upd_same, ev]
              have W7 := W6.same sL
              have L7 := L6.same sL
              have K7 : Sm2 DW DL H2 (upd H6 L (.lst cv)) := fun c o n1 n2 e => sL _ _ (K6 c o n1 n2 e)
              generalize upd H6 L (.lst cv) = H7 at eL W7 L7 K7 ⊢
              refine ⟨L, rfl, ⟨_, SqL.of eL⟩, fun D3 hD3 => ?_⟩
              refine lc_it (walk_list (xs := (ns.map S).map V.str)) (fun j H' => H' D3 = some (.lst (((ns.take j).map valI).map V.int)) ∧ Same H7 H') ⟨by rw [List.take_zero]; exact upd_same, same_new hD3⟩ (fun _ _ _ h => SqL.of (h.2 _ _ eL)) ?_ ?_
              · rintro j x H8 H9 hj ⟨d8, S8⟩ ⟨rfl, hx⟩
                rw [List.length_map, List.length_map] at hj
                rw [List.getElem?_map, List.getElem?_map, List.getElem?_eq_getElem hj] at hx
                cases hx
                obtain ⟨itj, ltj, _⟩ := num_int (nr _ (List.getElem_mem hj))
                refine ⟨rfl, _, rfl, _, valI ns[j], rfl, itj, by rw [S_len]; omega, _, d8, small1000 (by rw [List.length_map, List.length_map, List.length_take]; omega), ?_, fun c o e => ?_⟩
                · rw [upd_same, List.take_succ, List.getElem?_eq_getElem hj, List.map_append, List.map_append]
                  rfl
                · rw [upd_ne (ne_of_none e hD3)]
                  exact S8 _ _ e
              rintro H8 ⟨d8, S8⟩
              rw [List.length_map, List.length_map, List.take_length] at d8
              have W8 := W7.same S8
              have L8 := L7.same S8
              refine .inl ⟨D3, _, rfl, SqL.of d8, fun u hu => ?_⟩
              have s9 := same_new (o := .tup ((ns.map valI).map V.int)) hu
              have e9 : upd H8 u (.tup ((ns.map valI).map V.int)) u = some (.tup [.int (valI p1), .int (valI p2), .int (valI p3), .int (valI p4)]) := by rw [upd_same, en]; rfl
              have W9 := W8.same s9
              have L9 := L8.same s9
              have K9 : Sm2 DW DL H2 (upd H8 u (.tup ((ns.map valI).map V.int))) := fun c o n1 n2 e => s9 _ _ (S8 _ _ (K7 c o n1 n2 e))
              generalize upd H8 u (.tup ((ns.map valI).map V.int)) = H9 at e9 W9 L9 K9 ⊢
              obtain ⟨acc, a1, a2, a3⟩ := L9.push (l := (valI p1, valI p2, valI p3, valI p4)) (SqT.of e9) (by omega)
              have W10 := W9.upd1 (o := .lst (acc ++ [V.ref u])) a1 nWL
              refine ⟨DL, acc, _, rfl, rfl, a1, a2, _, _, _, _, _, _, _, _, ws, _, rfl, fun c o n1 n2 e => ?_, W10, a3, by rw [List.length_append]; show ws.length + (ls.length + 1) ≤ i + 1; omega, rd'⟩
              rw [upd_ne n2]
              exact K9 c o n1 n2 e
            · refine if_f (Bool.eq_false_iff.mpr cl) ⟨_, rfl, ?_⟩
              have rd' : readS 1 [] [] pss = .inl (1 + i) := by rw [rd0, if_neg cl]
              have S06 : Same H H6 := fun c o e => K6 c o (ne_of_none e hDW) (ne_of_none e hDL0) (S02 _ _ e)
              have ec : (1 : Int) + (i : Int) = ((1 + i : Nat) : Int) := by omega
              rw [ec]
              exact err_way (Sz.ok (Sz.small (by omega))) fun d hd => hbad _ rd' H6 d S06 hd
      · rintro σ' H3 ⟨v3, v4, v5, v6, v7, v8, v9, v10, ws, ls, rfl, K3, W3, L3, n3, rd⟩
        rw [List.length_map, l2, List.drop_length] at rd
        exact ⟨_, _, _, _, _, _, _, _, ws, ls, rfl, fun c o e => K3 c o (ne_of_none e hDW) (ne_of_none e hDL0) (S02 _ _ e), W3, L3, rd⟩
    rintro σ' H2 ⟨v3, v4, v5, v6, v7, v8, v9, v10, ws, ls, rfl, S2, W2, L2', rd⟩
    refine ⟨_, rfl, _, rfl, ?_⟩
    exact mk_site3 W2.in_ L2'.in_ ((hgo ws ls rd).mono S2)
end
end Law

/-! Trials read, with errors. -/
namespace Law
open PySem PySem.Spec PyProof.Rows L2 SX NumText ItSeq Sup
abbrev sItl : Stmt := top 44
abbrev sRt : Stmt := top 40
def trialB (q : List (List Nat)) : Bool := decide (q.length = 4) && (decide (q[0]? = some (codes "trial")) && (decide (q[3]? = some (codes "reached") ∨ q[3]? = some (codes "missed")) && (numB (q.getD 1 []) && numB (q.getD 2 []))))
def readT : Nat → List (List (List Nat)) → Option Nat
  | _, [] => none
  | k, q :: r => if trialB q = true then readT (k + 1) r else some k
def spItl : Sp := fun vs H Q _ => ∃ (p : Addr) (ps : List (List Nat)), vs = [.ref p] ∧ WdsAt H p ps ∧ WOk ps ∧ ∀ H', Same H H' → Q (.bl (trialB ps)) H'
def spRt (CL : Addr) : Sp := fun vs H Q E => ∃ pss : List (List (List Nat)), vs = [.str (S (textT pss))] ∧ (pss = [] ∨ textT pss ≠ []) ∧ (∀ q ∈ pss, WOk q) ∧ pss.length ≤ 60 ∧
  (∀ k, readT 1 pss = some k → ∀ (H' : Hp) (d : Addr), Same H H' → H' d = none → E (.ref CL) (some d) (upd H' d (.xd [("line", .int (k : Nat))]))) ∧
  (readT 1 pss = none → ∀ (p : Addr) (H' : Hp), Same H H' → Q (.ref p) H')
structure ItlTxt (mg : Str → Option Value) (aR fIsn : Addr) : Prop where
  num : mg "_is_number" = some (.ref fIsn)
  res : mg "RESULTS" = some (.ref aR)
  b_len : mg "len" = none
structure RtTxt (mg : Str → Option Value) (CT fNl fItl : Addr) : Prop where
  nl : mg "_numbered_lines" = some (.ref fNl)
  itl : mg "_is_trial_line" = some (.ref fItl)
  tri : mg "Trial" = some (.ref CT)
  b_int : mg "int" = none
theorem words_t {ps : List (List Nat)} (h : trialB ps = true) : ∃ p0 p1 p2 p3, ps = [p0, p1, p2, p3] ∧ numB p1 = true ∧ numB p2 = true := by
  unfold trialB at h
  rw [Bool.and_eq_true, Bool.and_eq_true, Bool.and_eq_true, Bool.and_eq_true, decide_eq_true_eq] at h
  obtain ⟨h4, _, _, ha, hb⟩ := h
  match ps, h4, ha, hb with
  | [p0, p1, p2, p3], _, ha, hb => exact ⟨p0, p1, p2, p3, rfl, ha, hb⟩
theorem in_strs (y : Str) : ∀ ys : List Str, inV (V.str y) (ys.map V.str) = ys.contains y
  | [] => rfl
  | x :: ys => by
    have ih := in_strs y ys
    unfold inV at ih ⊢
    rw [List.map_cons, List.any_cons, ih, List.contains_cons]
    congr 1
    show eqV (V.str x) (V.str y) = _
    by_cases h : x = y
    · subst h
      simp [eqV]
    · have h2 : (y == x) = false := by simpa using fun z => h z.symm
      rw [h2]
      simp [eqV, h]
section
variable {P : Program} {w : World} {K : PySem.W.Frag} {mg : Str → Option Value} {base : Heap} {CL CT : Addr}
theorem scItl : FnScope ["words"] ["words"] (defScope sItl) := ⟨rfl, rfl, rfl, by decide +kernel, rfl, by decide +kernel, by decide +kernel⟩
theorem scRt : FnScope ["text", "trials", "number", "words", "_", "place", "height", "result"] ["text"] (defScope sRt) := ⟨rfl, rfl, rfl, by decide +kernel, rfl, by decide +kernel, by decide +kernel⟩
set_option maxHeartbeats 0 in
theorem ok_itl {f fIsn aR : Addr} {fd fdIsn : FuncData} (F : Fun K "_is_trial_line" "_is_trial_line" sItl f fd) (GIsn : FnOk P w K mg base CX0 1 fIsn fdIsn ["word"] spIsn) (FIsn : Fun K "_is_number" "_is_number" sIsn fIsn fdIsn) (bIsn : Binds K fdIsn ["word"] []) (T : ItlTxt mg aR fIsn) (hR : ∀ H : Hp, SqT K H aR [.str "reached", .str "missed"]) : FnOk P w K mg base CX0 2 f fd ["words"] spItl := by
  refine F.ok scItl (fun vs H Q E h => ?_) (fun cdv A outer s H vs Q E hr h => ?_)
  · obtain ⟨p, q, rfl, _⟩ := h
    rfl
  · obtain ⟨p, ps, rfl, hp, wo, k⟩ := h
    have hr1 : Room 1 _ := hr.mono (by decide)
    refine ⟨_, (pss_cons (ps_if (PW.pt (pw_or (pt_cmpR op_ne (pe_callB call_len_seq (by rfl) T.b_len PySem.boot_len (pa_cons (pv 0) pa_nil)) pe_int (nomark _)) (pw_or (pt_cmpR op_ne (pe_ix ix_list (pv 0) pe_int (fun _ _ => rfl)) pe_str (nomark _)) (pw_or1 (pt_cmpR op_notIn_seq (pe_ix ix_list (pv 0) pe_int (fun _ _ => rfl)) (pe_glob (v := .ref aR) rfl T.res rfl) rfl))))) (pss_one (ps_ret pe_bl)) pss_nil)
      (pss_one (ps_ret (pe_and (pe_call GIsn hr1 rfl T.num FIsn.kp bIsn .nil pass0 (pa_cons (pe_ix ix_list (pv 0) pe_int (fun _ _ => rfl)) pa_nil)) (pe_one (pe_call GIsn hr1 rfl T.num FIsn.kp bIsn .nil pass0 (pa_cons (pe_ix ix_list (pv 0) pe_int (fun _ _ => rfl)) pa_nil))))))), ?_⟩
    unfold WdsAt at hp
    have few := wo.few
    have ll : ((ps.map S).map V.str).length = ps.length := by rw [List.length_map, List.length_map]
    have et : (Str.ofString "trial" : Str) = S (codes "trial") := codes_str _
    have er : (Str.ofString "reached" : Str) = S (codes "reached") := codes_str _
    have em : (Str.ofString "missed" : Str) = S (codes "missed") := codes_str _
    have no : ∀ H', Same H H' → trialB ps = false → Q (.bl false) H' := fun H' S' e => by
      have z := k _ S'
      rw [e] at z
      exact z
    by_cases c4 : ps.length = 4
    · refine ⟨_, rfl, p, _, rfl, .inl (SqL.of hp), rfl, _, rfl, if_f (by rw [ll, c4]; rfl) ?_⟩
      obtain ⟨x0, h0⟩ : ∃ x, ps[0]? = some x := ⟨_, List.getElem?_eq_getElem (by omega)⟩
      obtain ⟨x1, h1⟩ : ∃ x, ps[1]? = some x := ⟨_, List.getElem?_eq_getElem (by omega)⟩
      obtain ⟨x2, h2⟩ : ∃ x, ps[2]? = some x := ⟨_, List.getElem?_eq_getElem (by omega)⟩
      obtain ⟨x3, h3⟩ : ∃ x, ps[3]? = some x := ⟨_, List.getElem?_eq_getElem (by omega)⟩
      have g1 : ps.getD 1 [] = x1 := by rw [List.getD_eq_getElem?_getD, h1]; rfl
      have g2 : ps.getD 2 [] = x2 := by rw [List.getD_eq_getElem?_getD, h2]; rfl
      refine ⟨_, rfl, p, _, 0, _, rfl, rfl, SqL.of hp, wdsL ps 0 h0, rfl, _, rfl, ?_⟩
      by_cases c0 : x0 = codes "trial"
      rotate_left
      · exact if_t (by rw [et, decide_eq_false (fun z => c0 (S_inj (V.str.inj z)))]; rfl) (no _ same_rfl (by unfold trialB; rw [decide_eq_false (show ¬ ps[0]? = some (codes "trial") from fun z => c0 (Option.some.inj (h0.symm.trans z)))]; simp))
      refine if_f (by rw [et, c0, decide_eq_true rfl]; rfl) ?_
      refine ⟨_, rfl, p, _, 3, _, rfl, rfl, SqL.of hp, wdsL ps 3 h3, aR, _, rfl, .inr (hR _), rfl, rfl, _, rfl, ?_⟩
      have ein : inV (V.str (S x3)) [V.str "reached", V.str "missed"] = decide (ps[3]? = some (codes "reached") ∨ ps[3]? = some (codes "missed")) := by
        rw [h3]
        show inV (V.str (S x3)) [V.str (Str.ofString "reached"), V.str (Str.ofString "missed")] = _
        rw [er, em]
        by_cases a1 : x3 = codes "reached"
        · rw [a1, decide_eq_true (.inl rfl)]
          decide +kernel
        · by_cases a2 : x3 = codes "missed"
          · rw [a2, decide_eq_true (.inr rfl)]
            decide +kernel
          · rw [decide_eq_false (fun z => z.elim (fun y => a1 (Option.some.inj y)) fun y => a2 (Option.some.inj y))]
            have e := in_strs (S x3) [S (codes "reached"), S (codes "missed")]
            refine e.trans ?_
            rw [Bool.eq_false_iff]
            intro z
            have z := List.contains_iff_mem.mp z
            simp only [List.mem_cons, List.not_mem_nil, or_false] at z
            rcases z with z | z
            · exact a1 (S_inj z)
            · exact a2 (S_inj z)
      by_cases c3 : ps[3]? = some (codes "reached") ∨ ps[3]? = some (codes "missed")
      rotate_left
      · exact if_t (by rw [ein, decide_eq_false c3]; rfl) (no _ same_rfl (by unfold trialB; rw [decide_eq_false c3]; simp))
      refine if_f (by rw [ein, decide_eq_true c3]; rfl) ?_
      have eb : trialB ps = (numB x1 && numB x2) := by
        unfold trialB
        rw [decide_eq_true c4, decide_eq_true (show ps[0]? = some (codes "trial") by rw [h0, c0]), decide_eq_true c3, g1, g2]
        rfl
      refine ⟨_, rfl, p, _, 1, _, rfl, rfl, SqL.of hp, wdsL ps 1 h1, x1, rfl, wo.ln x1 (List.mem_of_getElem? h1), fun H1 S1 => ⟨_, rfl, ?_⟩⟩
      cases n1 : numB x1 with
      | false => exact if_f rfl (no _ S1 (by rw [eb, n1]; rfl))
      | true =>
        refine if_t rfl ⟨_, rfl, p, _, 2, _, rfl, rfl, SqL.of (S1 _ _ hp), wdsL ps 2 h2, x2, rfl, wo.ln x2 (List.mem_of_getElem? h2), fun H2 S2 => ?_⟩
        have z := k _ (same_tr S1 S2)
        rw [eb, n1, Bool.true_and] at z
        exact z
    · exact ⟨_, rfl, p, _, rfl, .inl (SqL.of hp), rfl, _, rfl, if_t (by rw [ll, decide_eq_false (fun z => c4 (by have := V.int.inj z; omega))]; rfl) (no _ same_rfl (by unfold trialB; rw [decide_eq_false c4]; rfl))⟩
set_option maxHeartbeats 0 in
theorem ok_rt {f fNl fItl fI : Addr} {fd fdNl fdItl : FuncData} (F : Fun K "read_trials" "read_trials" sRt f fd) (RL : ErrOk P w K mg base "BadLine" CL "line" okInt) (GNl : FnOk P w K mg base CX0 1 fNl fdNl ["text"] spNl) (FNl : Fun K "_numbered_lines" "_numbered_lines" sNl fNl fdNl) (bNl : Binds K fdNl ["text"] [])
    (GItl : FnOk P w K mg base CX0 2 fItl fdItl ["words"] spItl) (FItl : Fun K "_is_trial_line" "_is_trial_line" sItl fItl fdItl) (bItl : Binds K fdItl ["words"] []) (MK : Mk K CT fI) (GI : FnR P w K mg base CX0 1 fI (spTini CT)) (T : RtTxt mg CT fNl fItl) : FnOk P w K mg base (L2.CX P w) 4 f fd ["text"] (spRt CL) := by
  refine F.okX scRt (fun vs H Q E h => ?_) (fun cdv A outer s H vs Q E hr h => ?_)
  · obtain ⟨pss, rfl, _⟩ := h
    rfl
  · obtain ⟨pss, rfl, nt, ok, r60, hbad, hgo⟩ := h
    have hr1 : Room 1 _ := hr.mono (by decide)
    have hr2 : Room 2 _ := hr.mono (by decide)
    have hr3 : Room 3 _ := hr
    refine ⟨_, (pss_cons (ps_set (i := 1) scRt.nd rfl (Or.inl rfl) (pe_lst pa_nil))
      (C8.pss_cut (ps_for (passes_of rfl) rfl (pi_list (pe_call GNl hr1 rfl T.nl FNl.kp bNl .nil pass0 (pa_cons (pv 0) pa_nil))) (pg_tup (by rfl) (pgs_cons (pg_name (i := 2) scRt.nd rfl (Or.inl rfl)) (pgs_cons (pg_name (i := 3) scRt.nd rfl (Or.inl rfl)) pgs_nil))) (pss_cons (ps_if (pt_not (pt_val (pe_call GItl hr2 rfl T.itl FItl.kp bItl .nil pass0 (pa_cons (pv 3) pa_nil)))) (pss_one (ps_err RL rfl (takes_of rfl rfl rfl rfl) hr3 (pa_cons (pv 2) pa_nil) rfl)) pss_nil)
      (pss_cons (ps_asg (pv 3) (pg_lst (by rfl) (pgs_cons (pg_name (i := 4) scRt.nd rfl (Or.inl rfl)) (pgs_cons (pg_name (i := 5) scRt.nd rfl (Or.inl rfl)) (pgs_cons (pg_name (i := 6) scRt.nd rfl (Or.inl rfl)) (pgs_cons (pg_name (i := 7) scRt.nd rfl (Or.inl rfl)) pgs_nil))))))
      (pss_one (ps_expr (pe_bm PySem.F.plainAttrs_list PySem.F.slot_list_append PySem.F.type_list_append mt_append (pv 1) (pa_cons (Own.pe_makeS (E := fun _ => E0) MK GI hr2 rfl T.tri (passS pass0) (pa_cons (pe_callTy call_int_str (by rfl) T.b_int (by decide +kernel) (pa_cons (pv 5) pa_nil)) (pa_cons (pe_callTy call_int_str (by rfl) T.b_int (by decide +kernel) (pa_cons (pv 6) pa_nil)) (pa_cons (pe_cmpR op_eq (pv 7) pe_str (nomark _)) pa_nil)))) pa_nil)))))))
      (pss_one (ps_ret (pv 1))))), ?_⟩
    refine ⟨by show 0 ≤ sizeLine; decide, fun D hD => ?_⟩
    have s1 := same_new (o := .lst ([] : List V)) hD
    have e1 : upd H D (.lst []) D = some (.lst ([] : List V)) := upd_same
    generalize upd H D (.lst []) = H1 at s1 e1 ⊢
    refine ⟨fun σ' H' => ∃ (v2 v3 v4 v5 v6 v7 : Option V), σ' = [some (.str (S (textT pss))), some (.ref D), v2, v3, v4, v5, v6, v7] ∧ Same H H' ∧ readT 1 pss = none, ?_, ?_⟩
    · refine ⟨_, rfl, pss, rfl, nt, ok, by omega, fun p H2 np S2 ⟨tl, l1, l2, l3⟩ => ⟨p, rfl, ⟨_, SqL.of l1⟩, ?_⟩⟩
      have e2 := S2 _ _ e1
      have pD : p ≠ D := Ne.symm (ne_of_none e1 np)
      have S02 := same_tr s1 S2
      refine for_it (walk_list (xs := tl.map V.ref)) (fun i σ' H' => ∃ (v2 v3 v4 v5 v6 v7 : Option V) (zs : List V), σ' = [some (.str (S (textT pss))), some (.ref D), v2, v3, v4, v5, v6, v7] ∧ Sm2 D D H2 H' ∧ H' D = some (.lst zs) ∧ zs.length ≤ i ∧ readT 1 pss = readT (1 + i) (pss.drop i)) ⟨_, _, _, _, _, _, [], rfl, fun c o _ _ e => e, e2, Nat.le_refl _, by rw [List.drop_zero]⟩ (fun i σ' H' _ h => by obtain ⟨_, _, _, _, _, _, _, _, K', _⟩ := h; exact SqL.of (K' _ _ pD pD l1)) ?_ ?_
      · rintro i x σ' H3 H4 hi ⟨v2, v3, v4, v5, v6, v7, zs, rfl, K4, d4, n4, rd⟩ ⟨rfl, hx⟩
        rw [List.length_map] at hi
        rw [List.getElem?_map, List.getElem?_eq_getElem hi] at hx
        cases hx
        have hip : i < pss.length := by omega
        obtain ⟨q, hq⟩ : ∃ q, pss[i]? = some q := ⟨_, List.getElem?_eq_getElem hip⟩
        have qo := ok q (List.mem_of_getElem? hq)
        have ed : pss.drop i = q :: pss.drop (i + 1) := by
          rw [List.drop_eq_getElem_cons hip]
          rw [List.getElem?_eq_getElem hip] at hq
          rw [Option.some.inj hq]
        rw [ed] at rd
        obtain ⟨wl, w1, w2⟩ := l3 i _ q (List.getElem?_eq_getElem hi) hq
        have nW : wl ≠ D := fun z => by
          unfold WdsAt at w2
          rw [z, e2] at w2
          have w2 := HO.lst.inj (Option.some.inj w2)
          obtain ⟨w0, wr, ew⟩ := List.exists_cons_of_ne_nil qo.ne
          rw [ew] at w2
          cases w2
        have nT : tl[i] ≠ D := fun z => by rw [z, e2] at w1; cases w1
        have w1' := K4 _ _ nT nT w1
        have w2' : WdsAt H4 wl q := K4 _ _ nW nW w2
        refine ⟨_, _, rfl, SqT.of w1', rfl, _, _, rfl, _, _, rfl, rfl, ?_⟩
        refine ⟨_, rfl, wl, q, rfl, w2', qo, fun H5 S5 => ⟨_, rfl, ?_⟩⟩
        have w5 := S5 _ _ w2'
        have d5 := S5 _ _ d4
        have K5 : Sm2 D D H2 H5 := fun c o n1 n2 e => S5 _ _ (K4 c o n1 n2 e)
        cases ct : trialB q with
        | false =>
          refine if_t rfl ⟨_, rfl, ?_⟩
          have rd' : readT 1 pss = some (1 + i) := by
            rw [rd]
            show (if trialB q = true then _ else _) = _
            rw [ct, if_neg (by decide)]
          have S06 : Same H H5 := fun c o e => K5 c o (ne_of_none e hD) (ne_of_none e hD) (S02 _ _ e)
          have ec : (1 : Int) + (i : Int) = ((1 + i : Nat) : Int) := by omega
          rw [ec]
          exact err_way (Sz.ok (Sz.small (by omega))) fun d hd => hbad _ rd' H5 d S06 hd
        | true =>
          refine if_f rfl ?_
          have rd' : readT 1 pss = readT (1 + i + 1) (pss.drop (i + 1)) := by
            rw [rd]
            show (if trialB q = true then _ else _) = _
            rw [ct, if_pos rfl]
          obtain ⟨p0, p1, p2, p3, eq, n1, n2⟩ := words_t ct
          subst eq
          obtain ⟨it1, lt1, _⟩ := num_int n1
          obtain ⟨it2, lt2, _⟩ := num_int n2
          refine ⟨_, rfl, _, _, rfl, SqL.of w5, rfl, _, _, rfl, _, _, rfl, _, _, rfl, _, _, rfl, rfl, ?_⟩
          refine ⟨_, rfl, .inl ⟨rfl, _, SqL.of d5⟩, _, rfl, _, valI p1, rfl, it1, by rw [S_len]; omega, _, rfl, _, valI p2, rfl, it2, by rw [S_len]; omega, _, rfl, rfl, ?_⟩
          refine mk_tri fun x H6 hx S6 hX => ?_
          have d6 := S6 _ _ d5
          refine ⟨D, _, _, rfl, rfl, d6, small1000 (by omega), _, _, _, _, _, _, _, rfl, fun c o n1 n2 e => ?_, upd_same, by rw [List.length_append]; show zs.length + 1 ≤ i + 1; omega, rd'⟩
          rw [upd_ne n1]
          exact S6 _ _ (K5 c o n1 n2 e)
      · rintro σ' H3 ⟨v2, v3, v4, v5, v6, v7, zs, rfl, K3, d3, n3, rd⟩
        rw [List.length_map, l2, List.drop_length] at rd
        exact ⟨_, _, _, _, _, _, rfl, fun c o e => K3 c o (ne_of_none e hD) (ne_of_none e hD) (S02 _ _ e), rd⟩
    rintro σ' H2 ⟨v2, v3, v4, v5, v6, v7, rfl, S2, rd⟩
    exact ⟨_, rfl, hgo rd _ _ S2⟩
end
end Law

/-! The law's own reading. -/
namespace Law
open PySem PySem.Spec PyProof.Rows L2 SX NumText ItSeq Sup
abbrev sLi : Stmt := top 49
abbrev sSl : Stmt := top 50
abbrev sTl : Stmt := top 51
def spLi : Sp := fun vs H Q _ => ∃ x : List Nat, vs = [.str (S x)] ∧ x.length ≤ 100 ∧ ∀ H', Same H H' → Q (.bl (numB x)) H'
def siteB (ps : List (List Nat)) (l : Bool) : Bool := (wallB ps && !l) || linkB ps
def spSl : Sp := fun vs H Q _ => ∃ (p : Addr) (ps : List (List Nat)) (l : Bool), vs = [.ref p, .bl l] ∧ WdsAt H p ps ∧ WOk ps ∧ ∀ H', Same H H' → Q (.bl (siteB ps l)) H'
def spTl : Sp := fun vs H Q _ => ∃ (p : Addr) (ps : List (List Nat)), vs = [.ref p] ∧ WdsAt H p ps ∧ WOk ps ∧ ∀ H', Same H H' → Q (.bl (trialB ps)) H'
structure LiTxt (mg : Str → Option Value) : Prop where
  b_len : mg "len" = none
structure SlTxt (mg : Str → Option Value) (fLi : Addr) : Prop where
  isn : mg "_law_is_number" = some (.ref fLi)
  b_len : mg "len" = none
theorem cnt_all {α β : Type} (p : α → Bool) (f : α → β) : ∀ xs : List α, decide (V.int (((xs.filterMap fun c => if p c = true then none else some (f c)).length : Nat) : Int) = V.int 0) = xs.all p
  | [] => rfl
  | x :: xs => by
    have ih := cnt_all p f xs
    cases e : p x with
    | true =>
      rw [List.filterMap_cons, List.all_cons, e, if_pos rfl, Bool.true_and]
      exact ih
    | false =>
      rw [List.filterMap_cons, List.all_cons, e, if_neg (by decide), Bool.false_and]
      refine decide_eq_false fun z => ?_
      have z := V.int.inj z
      rw [List.length_cons] at z
      omega
theorem dig_mem (c : Nat) : decide (c ∈ ("0123456789" : Str).cps.toList) = dgB c := by
  unfold dgB
  rw [codes10]
  exact decide_eq_decide.mpr (by simp only [List.mem_cons, List.not_mem_nil, or_false]; omega)
section
variable {P : Program} {w : World} {K : PySem.W.Frag} {mg : Str → Option Value} {base : Heap}
theorem scLi : FnScope ["_law_word", "_law_digits", "_law_sign"] ["_law_word"] (defScope sLi) := ⟨rfl, rfl, rfl, by decide +kernel, rfl, by decide +kernel, by decide +kernel⟩
theorem scSl : FnScope ["_law_words", "_law_linked", "_law_word"] ["_law_words", "_law_linked"] (defScope sSl) := ⟨rfl, rfl, rfl, by decide +kernel, rfl, by decide +kernel, by decide +kernel⟩
theorem scTl : FnScope ["_law_words"] ["_law_words"] (defScope sTl) := ⟨rfl, rfl, rfl, by decide +kernel, rfl, by decide +kernel, by decide +kernel⟩
set_option maxHeartbeats 0 in
theorem ok_li {f : Addr} {fd : FuncData} (F : Fun K "_law_is_number" "_law_is_number" sLi f fd) (T : LiTxt mg) : FnOk P w K mg base CX0 1 f fd ["_law_word"] spLi := by
  refine F.ok scLi (fun vs H Q E h => ?_) (fun cdv A outer s H vs Q E hr h => ?_)
  · obtain ⟨x, rfl, _⟩ := h
    rfl
  · obtain ⟨x, rfl, hx, k⟩ := h
    refine ⟨_, (C8.pss_cut (ps_set (i := 1) scLi.nd rfl (Or.inl rfl) (pv 0))
      (C8.pss_cut (ps_if (pt_cmpR op_eq (pe_slice sl_str (pv 0) po_none (po_some pe_int)) pe_str (nomark _)) (pss_one (ps_set (i := 1) scLi.nd rfl (Or.inl rfl) (pe_slice sl_str (pv 0) (po_some pe_int) po_none))) pss_nil)
      (pss_cons (ps_if (PW.pt (pw_or (pt_cmpR op_lt (pe_callB call_len_str (by rfl) T.b_len PySem.boot_len (pa_cons (pv 1) pa_nil)) pe_int (nomark _)) (pw_or (pt_cmpR op_gt (pe_callB call_len_str (by rfl) T.b_len PySem.boot_len (pa_cons (pv 1) pa_nil)) pe_int (nomark _)) (pw_or1 (PW.pt (pw_and (pt_cmpR op_eq (pe_ix ix_str (pv 1) pe_int (fun _ _ => rfl)) pe_str (nomark _)) (pw_and1 (pt_cmpR op_ne (pv 0) pe_str (nomark _))))))))) (pss_one (ps_ret pe_bl)) pss_nil)
      (pss_one (ps_ret (pe_cmpR op_eq (pe_callB call_len_seq (by rfl) T.b_len PySem.boot_len (pa_cons (pe_lc (own := [("_law_sign", 2)]) (g := gName 2) (by rfl) scLi.nd (pi_str (pv 1)) (blkOk_by (own := [("_law_sign", 2)]) (N := ["_law_word", "_law_digits", "_law_sign"]) (sc := defScope sLi) (by decide +kernel)) (fun _ _ _ _ _ => pg_name (i := 2) scLi.nd rfl (Or.inl rfl)) (fun _ _ _ _ _ => (pts_one (pt_cmpR op_notIn_sign (pv 2) pe_str rfl))) (fun _ _ _ _ _ => (pv 2))) pa_nil)) pe_int (nomark _))))))), ?_⟩
    have e48 : (Str.ofString "0" : Str) = S [48] := by decide +kernel
    have e45 : (Str.ofString "-" : Str) = S [45] := by decide +kernel
    have big : ∀ n : Nat, n ≤ 1000 → n ≤ sizeLine := fun n h => by rw [sizeLine_eq]; omega
    refine ⟨fun σ' H' => σ' = [some (.str (S x)), some (.str (S x)), none] ∧ H = H', ?_, ?_⟩
    · exact ⟨_, rfl, rfl, rfl⟩
    rintro σ' H1 ⟨rfl, rfl⟩
    refine ⟨fun σ' H' => σ' = [some (.str (S x)), some (.str (S (digs x))), none] ∧ H = H', ?_, ?_⟩
    · have zl : (S x).length ≤ sizeLine := by rw [S_len]; exact big _ (by omega)
      refine ⟨_, rfl, _, rfl, S x, rfl, zl, rfl, _, rfl, ?_⟩
      have et : decide (V.str (cutS (S x) none (some 1)) = V.str (Str.ofString "-")) = decide (x.head? = some 45) := by
        rw [e45, C8.cutS_slice, slice_to (by decide)]
        refine decide_eq_decide.mpr ⟨fun z => ?_, fun z => ?_⟩
        · have z := S_inj (V.str.inj z)
          cases x with
          | nil => cases z
          | cons c r => exact congrArg some (List.cons.inj z).1
        · cases x with
          | nil => cases z
          | cons c r => rw [Option.some.inj z]; rfl
      rw [et]
      by_cases e : x.head? = some 45
      · have ex : x = 45 :: x.tail := by
          cases x with
          | nil => cases e
          | cons z r =>
            have : z = 45 := by simpa using e
            rw [this]
            rfl
        have ec : cutS (S x) (some 1) none = S (digs x) := by
          rw [C8.cutS_slice, slice_from (by decide)]
          unfold digs
          rw [if_pos e, ex]
          rfl
        refine if_t (decide_eq_true e) ⟨_, rfl, _, rfl, S x, rfl, zl, ?_, rfl⟩
        rw [ec]
        rfl
      · refine if_f (decide_eq_false e) ⟨?_, rfl⟩
        rw [show digs x = x from if_neg e]
    rintro σ' H1 ⟨rfl, rfl⟩
    have ld : (digs x).length ≤ 100 := by
      unfold digs
      split
      · rw [List.length_tail]; omega
      · exact hx
    have eb : x ≠ [48] → numB x = (decide (1 ≤ (digs x).length ∧ (digs x).length ≤ 40) && (!decide ((digs x).head? = some 48) && (digs x).all dgB)) := fun nx => by
      unfold numB
      rw [show (x == [48]) = false from beq_eq_false_iff_ne.mpr nx, Bool.false_or]
    have e0 : x = [48] → digs x = [48] ∧ numB x = true := fun z => by rw [z]; exact ⟨rfl, by decide⟩
    generalize digs x = d at eb ld e0
    have zd : (S d).length ≤ sizeLine := by rw [S_len]; exact big _ (by omega)
    have sl : (S d).length = d.length := S_len d
    have no : numB x = false → Q (.bl false) H := fun e => by
      have z := k _ same_rfl
      rw [e] at z
      exact z
    have last : numB x = d.all dgB → tRet (tOp rEq (tCB (fun xs H_1 Q => ∃ p ys, xs = [V.ref p] ∧ (SqL K H_1 p ys ∨ SqT K H_1 p ys) ∧ Q (V.int (ys.length : Nat)) H_1) (tCons (tLc (iStr (tVar 1)) (gName 2) (tTest (tOp (fun x y H Q => ∃ c z, x = V.str ⟨#[c]⟩ ∧ y = V.str z ∧ Q (V.bl (!decide (c ∈ z.cps.toList))) H) (tVar 2) (tC (V.str (Str.ofString "0123456789"))))) (tVar 2) [2]) tNil)) (tC (V.int 0))) { nx := fun x H' => Q V.non H', rt := Q } [some (V.str (S x)), some (V.str (S d)), none] H := fun en => by
      refine ⟨_, rfl, S d, rfl, fun D hD => ?_⟩
      refine lc_it (walk_str (z := S d)) (LcP D H fun i => d[i]?.bind fun c => if dgB c = true then none else some (V.str ⟨#[c]⟩)) (LcP.start hD) (fun _ _ _ _ => trivial) ?_ ?_
      · rintro i y H3 H4 hi B ⟨rfl, c, hc, rfl⟩
        have hi : i < d.length := by simpa using hi
        have hc' : d[i]? = some c := by
          have := hc
          simpa using this
        refine ⟨rfl, _, rfl, c, _, rfl, rfl, _, rfl, ?_⟩
        rw [dig_mem]
        cases e : dgB c with
        | true => exact if_f rfl (B.skip same_rfl (by simp only [hc', Option.bind_some, e, if_true]))
        | false => exact if_t rfl ⟨_, rfl, B.push hD same_rfl (by simp only [hc', Option.bind_some, e]; rfl) (by omega)⟩
      · rintro H2 ⟨b1, S2⟩
        have e1 : (List.range (S d).cps.size).filterMap (fun i => d[i]?.bind fun c => if dgB c = true then none else some (V.str ⟨#[c]⟩)) = d.filterMap fun c => if dgB c = true then none else some (V.str ⟨#[c]⟩) := by
          have := range_fm (fun c => if dgB c = true then none else some (V.str ⟨#[c]⟩)) d
          rw [← this]
          congr 1
        rw [e1] at b1
        refine ⟨D, _, rfl, .inl (SqL.of b1), rfl, ?_⟩
        rw [cnt_all]
        have z := k _ S2
        rw [en] at z
        exact z
    refine ⟨_, rfl, _, rfl, zd, _, _, rfl, rfl, _, rfl, ?_⟩
    by_cases c1 : 1 ≤ d.length
    rotate_left
    · have nx : x ≠ [48] := fun z => c1 (by rw [(e0 z).1]; decide)
      exact if_t (decide_eq_true (by omega)) (no (by rw [eb nx, decide_eq_false (fun z => c1 z.1)]; rfl))
    refine if_f (decide_eq_false (by omega)) ⟨_, rfl, _, rfl, zd, _, _, rfl, rfl, _, rfl, ?_⟩
    by_cases c40 : d.length ≤ 40
    rotate_left
    · have nx : x ≠ [48] := fun z => c40 (by rw [(e0 z).1]; decide)
      exact if_t (decide_eq_true (by omega)) (no (by rw [eb nx, decide_eq_false (fun z => c40 z.2)]; rfl))
    refine if_f (decide_eq_false (by omega)) ?_
    obtain ⟨c, r, ecr⟩ : ∃ c r, d = c :: r := List.exists_cons_of_ne_nil fun z => by rw [z] at c1; exact absurd c1 (by decide)
    refine ⟨_, rfl, S d, 0, c, rfl, rfl, zd, by rw [ecr]; show atI (c :: r) ((0 : Nat) : Int) = _; exact atI_nat rfl, rfl, _, rfl, ?_⟩
    have ec : decide (V.str (⟨#[c]⟩ : Str) = V.str (Str.ofString "0")) = decide (d.head? = some 48) := by
      rw [e48, ecr]
      refine decide_eq_decide.mpr ⟨fun z => ?_, fun z => ?_⟩
      · have z : ([c] : List Nat) = [48] := S_inj (V.str.inj z)
        exact congrArg some (List.cons.inj z).1
      · have z : c = 48 := Option.some.inj z
        rw [z]
    rw [ec]
    by_cases c48 : d.head? = some 48
    · refine if_t (decide_eq_true c48) ⟨_, rfl, rfl, _, rfl, ?_⟩
      by_cases cx : x = [48]
      · refine if_f (by rw [cx, e48, decide_eq_true rfl]; rfl) (last ?_)
        obtain ⟨a, b⟩ := e0 cx
        rw [a, b]
        decide
      · exact if_t (by rw [e48, decide_eq_false (fun z => cx (S_inj (V.str.inj z)))]; rfl) (no (by rw [eb cx, decide_eq_true c48]; simp))
    · refine if_f (decide_eq_false c48) (last ?_)
      have nx : x ≠ [48] := fun z => c48 (by rw [(e0 z).1]; rfl)
      rw [eb nx, decide_eq_true ⟨c1, c40⟩, decide_eq_false c48]
      rfl
set_option maxHeartbeats 0 in
theorem ok_sl {f fLi : Addr} {fd fdLi : FuncData} (F : Fun K "_law_site_line" "_law_site_line" sSl f fd) (GLi : FnOk P w K mg base CX0 1 fLi fdLi ["_law_word"] spLi) (FLi : Fun K "_law_is_number" "_law_is_number" sLi fLi fdLi) (bLi : Binds K fdLi ["_law_word"] []) (T : SlTxt mg fLi) : FnOk P w K mg base CX0 2 f fd ["_law_words", "_law_linked"] spSl := by
  refine F.ok scSl (fun vs H Q E h => ?_) (fun cdv A outer s H vs Q E hr h => ?_)
  · obtain ⟨p, ps, l, rfl, _⟩ := h
    rfl
  · obtain ⟨p, ps, l, rfl, hp, wo, k⟩ := h
    have hr1 : Room 1 _ := hr.mono (by decide)
    refine ⟨_, (pss_cons (ps_if (PW.pt (pw_and (pt_cmpR op_eq (pe_ix ix_list (pv 0) pe_int (fun _ _ => rfl)) pe_str (nomark _)) (pw_and (pt_cmpR op_gt (pe_callB call_len_seq (by rfl) T.b_len PySem.boot_len (pa_cons (pv 0) pa_nil)) pe_int (nomark _)) (pw_and (pt_cmpR op_ne (pe_ix ix_list (pv 0) pe_int (fun _ _ => rfl)) pe_str (nomark _)) (pw_and1 (pt_not (pt_val (pv 1)))))))) (pss_one (ps_ret (pe_cmpR op_eq (pe_callB call_len_seq (by rfl) T.b_len PySem.boot_len (pa_cons (pe_lc (own := [("_law_word", 2)]) (g := gName 2) (by rfl) scSl.nd (pi_list (pe_slice sl_list (pv 0) (po_some pe_int) po_none)) (blkOk_by (own := [("_law_word", 2)]) (N := ["_law_words", "_law_linked", "_law_word"]) (sc := defScope sSl) (by decide +kernel)) (fun _ _ _ _ _ => pg_name (i := 2) scSl.nd rfl (Or.inl rfl)) (fun _ _ _ _ _ => (pts_one (by exact (pt_not (pt_val (pe_call GLi hr1 rfl T.isn FLi.kp bLi .nil pass0 (pa_cons (pv 2) pa_nil))))))) (fun _ _ _ _ _ => (pv 2))) pa_nil)) pe_int (nomark _)))) pss_nil)
      (pss_cons (ps_if (PW.pt (pw_and (pt_cmpR op_eq (pe_ix ix_list (pv 0) pe_int (fun _ _ => rfl)) pe_str (nomark _)) (pw_and1 (pt_cmpR op_eq (pe_callB call_len_seq (by rfl) T.b_len PySem.boot_len (pa_cons (pv 0) pa_nil)) pe_int (nomark _))))) (pss_one (ps_ret (pe_cmpR op_eq (pe_callB call_len_seq (by rfl) T.b_len PySem.boot_len (pa_cons (pe_lc (own := [("_law_word", 2)]) (g := gName 2) (by rfl) scSl.nd (pi_list (pe_slice sl_list (pv 0) (po_some pe_int) po_none)) (blkOk_by (own := [("_law_word", 2)]) (N := ["_law_words", "_law_linked", "_law_word"]) (sc := defScope sSl) (by decide +kernel)) (fun _ _ _ _ _ => pg_name (i := 2) scSl.nd rfl (Or.inl rfl)) (fun _ _ _ _ _ => (pts_one (by exact (pt_not (pt_val (pe_call GLi hr1 rfl T.isn FLi.kp bLi .nil pass0 (pa_cons (pv 2) pa_nil))))))) (fun _ _ _ _ _ => (pv 2))) pa_nil)) pe_int (nomark _)))) pss_nil)
      (pss_one (ps_ret pe_bl)))), ?_⟩
    unfold WdsAt at hp
    have few := wo.few
    have ll : ((ps.map S).map V.str).length = ps.length := by rw [List.length_map, List.length_map]
    have ew : (Str.ofString "wall" : Str) = S (codes "wall") := codes_str _
    have ek : (Str.ofString "link" : Str) = S (codes "link") := codes_str _
    have ee : (Str.ofString "" : Str) = S [] := by decide +kernel
    obtain ⟨x0, r0, er⟩ := List.exists_cons_of_ne_nil wo.ne
    have h0 : ps[0]? = some x0 := by rw [er]; rfl
    have no : siteB ps l = false → Q (.bl false) H := fun e => by
      have z := k _ same_rfl
      rw [e] at z
      exact z
    refine ⟨_, rfl, p, _, 0, _, rfl, rfl, SqL.of hp, wdsL ps 0 h0, rfl, _, rfl, ?_⟩
    by_cases c0 : x0 = codes "wall"
    · have nk : x0 ≠ codes "link" := by rw [c0]; decide
      have lb : linkB ps = false := by
        unfold linkB
        rw [decide_eq_false (show ¬ ps[0]? = some (codes "link") from fun z => nk (Option.some.inj (h0.symm.trans z)))]
        simp
      refine if_t (by rw [ew, c0, decide_eq_true rfl]) ⟨_, rfl, p, _, rfl, .inl (SqL.of hp), _, _, rfl, rfl, _, rfl, ?_⟩
      by_cases c4 : 3 < ps.length
      rotate_left
      · exact if_f (decide_eq_false (by omega)) ⟨_, rfl, p, _, 0, _, rfl, rfl, SqL.of hp, wdsL ps 0 h0, rfl, _, rfl, if_f (by rw [ek, decide_eq_false (fun z => nk (S_inj (V.str.inj z)))]) (no (by unfold siteB wallB; rw [lb, decide_eq_false (show ¬ 4 ≤ ps.length by omega)]; rfl))⟩
      obtain ⟨x1, h1⟩ : ∃ x, ps[1]? = some x := ⟨_, List.getElem?_eq_getElem (by omega)⟩
      refine if_t (decide_eq_true (by omega)) ⟨_, rfl, p, _, 1, _, rfl, rfl, SqL.of hp, wdsL ps 1 h1, rfl, _, rfl, ?_⟩
      by_cases c1 : x1 = []
      · exact if_f (by rw [ee, c1, decide_eq_true rfl]; rfl) ⟨_, rfl, p, _, 0, _, rfl, rfl, SqL.of hp, wdsL ps 0 h0, rfl, _, rfl, if_f (by rw [ek, decide_eq_false (fun z => nk (S_inj (V.str.inj z)))]) (no (by unfold siteB wallB; rw [lb, decide_eq_true (show ps[1]? = some [] by rw [h1, c1])]; simp))⟩
      refine if_t (by rw [ee, decide_eq_false (fun z => c1 (S_inj (V.str.inj z)))]; rfl) ⟨_, rfl, l, rfl, ?_⟩
      cases l with
      | true =>
        exact if_f rfl ⟨_, rfl, p, _, 0, _, rfl, rfl, SqL.of hp, wdsL ps 0 h0, rfl, _, rfl, if_f (by rw [ek, decide_eq_false (fun z => nk (S_inj (V.str.inj z)))]) (no (by unfold siteB; rw [lb]; simp))⟩
      | false =>
        refine if_t rfl ?_
        have eb : siteB ps false = (ps.drop 2).all numB := by
          unfold siteB wallB
          rw [lb, decide_eq_true (show 4 ≤ ps.length by omega), decide_eq_true (show ps[0]? = some (codes "wall") by rw [h0, c0]), decide_eq_false (show ¬ ps[1]? = some [] from fun z => c1 (Option.some.inj (h1.symm.trans z)))]
          simp
        refine ⟨_, rfl, _, rfl, p, _, rfl, SqL.of hp, fun L hL => ?_⟩
        have sL := same_new (o := .lst (cutV ((ps.map S).map V.str) (some 2) none)) hL
        have eL : upd H L (.lst (cutV ((ps.map S).map V.str) (some 2) none)) L = some (.lst (((ps.drop 2).map S).map V.str)) := by
          rw [upd_same, show (some (2 : Int)) = some ((2 : Nat) : Int) from rfl, cutV_drop, List.map_drop, List.map_drop]
        generalize upd H L (.lst (cutV ((ps.map S).map V.str) (some 2) none)) = H1 at sL eL ⊢
        have ln : ∀ x ∈ ps.drop 2, x.length ≤ 100 := fun x hx => wo.ln x (List.mem_of_mem_drop hx)
        have fw : (ps.drop 2).length ≤ 120 := by rw [List.length_drop]; omega
        generalize ps.drop 2 = ns at eL ln fw eb
        refine ⟨L, rfl, ⟨_, SqL.of eL⟩, fun D hD => ?_⟩
        refine lc_it (walk_list (xs := (ns.map S).map V.str)) (LcP D H1 fun i => ns[i]?.bind fun c => if numB c = true then none else some (V.str (S c))) (LcP.start hD) (fun _ _ _ h => SqL.of (h.2 _ _ eL)) ?_ ?_
        · rintro i x H2 H3 hi B ⟨rfl, hx⟩
          rw [List.length_map, List.length_map] at hi
          have hni : ns[i]? = some ns[i] := List.getElem?_eq_getElem hi
          rw [List.getElem?_map, List.getElem?_map, hni] at hx
          cases hx
          refine ⟨rfl, _, rfl, ns[i], rfl, ln _ (List.getElem_mem hi), fun H4 S4 => ⟨_, rfl, ?_⟩⟩
          cases e : numB ns[i] with
          | true => exact if_f rfl (B.skip S4 (by simp only [hni, Option.bind_some, e, if_true]))
          | false => exact if_t rfl ⟨_, rfl, B.push hD S4 (by simp only [hni, Option.bind_some, e]; rfl) (by omega)⟩
        rintro H2 ⟨b1, S2⟩
        have e1 : (List.range ((ns.map S).map V.str).length).filterMap (fun i => ns[i]?.bind fun c => if numB c = true then none else some (V.str (S c))) = ns.filterMap fun c => if numB c = true then none else some (V.str (S c)) := by
          have := range_fm (fun c => if numB c = true then none else some (V.str (S c))) ns
          rw [← this, List.length_map, List.length_map]
        rw [e1] at b1
        refine ⟨D, _, rfl, .inl (SqL.of b1), rfl, ?_⟩
        rw [cnt_all]
        have z := k _ (same_tr sL S2)
        rw [eb] at z
        exact z
    · have wb : wallB ps = false := by
        unfold wallB
        rw [decide_eq_false (show ¬ ps[0]? = some (codes "wall") from fun z => c0 (Option.some.inj (h0.symm.trans z)))]
        simp
      refine if_f (by rw [ew, decide_eq_false (fun z => c0 (S_inj (V.str.inj z)))]) ⟨_, rfl, p, _, 0, _, rfl, rfl, SqL.of hp, wdsL ps 0 h0, rfl, _, rfl, ?_⟩
      by_cases ck : x0 = codes "link"
      rotate_left
      · exact if_f (by rw [ek, decide_eq_false (fun z => ck (S_inj (V.str.inj z)))]) (no (by unfold siteB linkB; rw [wb, decide_eq_false (show ¬ ps[0]? = some (codes "link") from fun z => ck (Option.some.inj (h0.symm.trans z)))]; simp))
      refine if_t (by rw [ek, ck, decide_eq_true rfl]) ⟨_, rfl, p, _, rfl, .inl (SqL.of hp), rfl, _, rfl, ?_⟩
      by_cases c5 : ps.length = 5
      rotate_left
      · exact if_f (by rw [ll]; exact decide_eq_false fun z => c5 (by have := V.int.inj z; omega)) (no (by unfold siteB linkB; rw [wb, decide_eq_false c5]; rfl))
      refine if_t (by rw [ll, c5]; rfl) ?_
      have eb : siteB ps l = (ps.drop 1).all numB := by
        unfold siteB linkB
        rw [wb, decide_eq_true c5, decide_eq_true (show ps[0]? = some (codes "link") by rw [h0, ck])]
        simp
      refine ⟨_, rfl, _, rfl, p, _, rfl, SqL.of hp, fun L hL => ?_⟩
      have sL := same_new (o := .lst (cutV ((ps.map S).map V.str) (some 1) none)) hL
      have eL : upd H L (.lst (cutV ((ps.map S).map V.str) (some 1) none)) L = some (.lst (((ps.drop 1).map S).map V.str)) := by
        rw [upd_same, show (some (1 : Int)) = some ((1 : Nat) : Int) from rfl, cutV_drop, List.map_drop, List.map_drop]
      generalize upd H L (.lst (cutV ((ps.map S).map V.str) (some 1) none)) = H1 at sL eL ⊢
      have ln : ∀ x ∈ ps.drop 1, x.length ≤ 100 := fun x hx => wo.ln x (List.mem_of_mem_drop hx)
      have fw : (ps.drop 1).length ≤ 120 := by rw [List.length_drop]; omega
      generalize ps.drop 1 = ns at eL ln fw eb
      refine ⟨L, rfl, ⟨_, SqL.of eL⟩, fun D hD => ?_⟩
      refine lc_it (walk_list (xs := (ns.map S).map V.str)) (LcP D H1 fun i => ns[i]?.bind fun c => if numB c = true then none else some (V.str (S c))) (LcP.start hD) (fun _ _ _ h => SqL.of (h.2 _ _ eL)) ?_ ?_
      · rintro i x H2 H3 hi B ⟨rfl, hx⟩
        rw [List.length_map, List.length_map] at hi
        have hni : ns[i]? = some ns[i] := List.getElem?_eq_getElem hi
        rw [List.getElem?_map, List.getElem?_map, hni] at hx
        cases hx
        refine ⟨rfl, _, rfl, ns[i], rfl, ln _ (List.getElem_mem hi), fun H4 S4 => ⟨_, rfl, ?_⟩⟩
        cases e : numB ns[i] with
        | true => exact if_f rfl (B.skip S4 (by simp only [hni, Option.bind_some, e, if_true]))
        | false => exact if_t rfl ⟨_, rfl, B.push hD S4 (by simp only [hni, Option.bind_some, e]; rfl) (by omega)⟩
      rintro H2 ⟨b1, S2⟩
      have e1 : (List.range ((ns.map S).map V.str).length).filterMap (fun i => ns[i]?.bind fun c => if numB c = true then none else some (V.str (S c))) = ns.filterMap fun c => if numB c = true then none else some (V.str (S c)) := by
        have := range_fm (fun c => if numB c = true then none else some (V.str (S c))) ns
        rw [← this, List.length_map, List.length_map]
      rw [e1] at b1
      refine ⟨D, _, rfl, .inl (SqL.of b1), rfl, ?_⟩
      rw [cnt_all]
      have z := k _ (same_tr sL S2)
      rw [eb] at z
      exact z
set_option maxHeartbeats 0 in
theorem ok_tl {f fLi : Addr} {fd fdLi : FuncData} (F : Fun K "_law_trial_line" "_law_trial_line" sTl f fd) (GLi : FnOk P w K mg base CX0 1 fLi fdLi ["_law_word"] spLi) (FLi : Fun K "_law_is_number" "_law_is_number" sLi fLi fdLi) (bLi : Binds K fdLi ["_law_word"] []) (T : SlTxt mg fLi) : FnOk P w K mg base CX0 2 f fd ["_law_words"] spTl := by
  refine F.ok scTl (fun vs H Q E h => ?_) (fun cdv A outer s H vs Q E hr h => ?_)
  · obtain ⟨p, ps, rfl, _⟩ := h
    rfl
  · obtain ⟨p, ps, rfl, hp, wo, k⟩ := h
    have hr1 : Room 1 _ := hr.mono (by decide)
    refine ⟨_, (pss_cons (ps_if (PW.pt (pw_or (pt_cmpR op_ne (pe_callB call_len_seq (by rfl) T.b_len PySem.boot_len (pa_cons (pv 0) pa_nil)) pe_int (nomark _)) (pw_or (pt_cmpR op_ne (pe_ix ix_list (pv 0) pe_int (fun _ _ => rfl)) pe_str (nomark _)) (pw_or1 (pt_cmpR op_notIn_seq (pe_ix ix_list (pv 0) pe_int (fun _ _ => rfl)) (pe_lst (pa_cons pe_str (pa_cons pe_str pa_nil))) rfl))))) (pss_one (ps_ret pe_bl)) pss_nil)
      (pss_one (ps_ret (pe_and (pe_call GLi hr1 rfl T.isn FLi.kp bLi .nil pass0 (pa_cons (pe_ix ix_list (pv 0) pe_int (fun _ _ => rfl)) pa_nil)) (pe_one (pe_call GLi hr1 rfl T.isn FLi.kp bLi .nil pass0 (pa_cons (pe_ix ix_list (pv 0) pe_int (fun _ _ => rfl)) pa_nil))))))), ?_⟩
    unfold WdsAt at hp
    have few := wo.few
    have ll : ((ps.map S).map V.str).length = ps.length := by rw [List.length_map, List.length_map]
    have et : (Str.ofString "trial" : Str) = S (codes "trial") := codes_str _
    have er : (Str.ofString "reached" : Str) = S (codes "reached") := codes_str _
    have em : (Str.ofString "missed" : Str) = S (codes "missed") := codes_str _
    have no : ∀ H', Same H H' → trialB ps = false → Q (.bl false) H' := fun H' S' e => by
      have z := k _ S'
      rw [e] at z
      exact z
    by_cases c4 : ps.length = 4
    · refine ⟨_, rfl, p, _, rfl, .inl (SqL.of hp), rfl, _, rfl, if_f (by rw [ll, c4]; rfl) ?_⟩
      obtain ⟨x0, h0⟩ : ∃ x, ps[0]? = some x := ⟨_, List.getElem?_eq_getElem (by omega)⟩
      obtain ⟨x1, h1⟩ : ∃ x, ps[1]? = some x := ⟨_, List.getElem?_eq_getElem (by omega)⟩
      obtain ⟨x2, h2⟩ : ∃ x, ps[2]? = some x := ⟨_, List.getElem?_eq_getElem (by omega)⟩
      obtain ⟨x3, h3⟩ : ∃ x, ps[3]? = some x := ⟨_, List.getElem?_eq_getElem (by omega)⟩
      have g1 : ps.getD 1 [] = x1 := by rw [List.getD_eq_getElem?_getD, h1]; rfl
      have g2 : ps.getD 2 [] = x2 := by rw [List.getD_eq_getElem?_getD, h2]; rfl
      refine ⟨_, rfl, p, _, 0, _, rfl, rfl, SqL.of hp, wdsL ps 0 h0, rfl, _, rfl, ?_⟩
      by_cases c0 : x0 = codes "trial"
      rotate_left
      · exact if_t (by rw [et, decide_eq_false (fun z => c0 (S_inj (V.str.inj z)))]; rfl) (no _ same_rfl (by unfold trialB; rw [decide_eq_false (show ¬ ps[0]? = some (codes "trial") from fun z => c0 (Option.some.inj (h0.symm.trans z)))]; simp))
      refine if_f (by rw [et, c0, decide_eq_true rfl]; rfl) ?_
      refine ⟨_, rfl, p, _, 3, _, rfl, rfl, SqL.of hp, wdsL ps 3 h3, by show 2 ≤ sizeLine; decide, fun LR hLR => ?_⟩
      have sR := same_new (o := .lst [V.str "reached", V.str "missed"]) hLR
      have eR : upd H LR (.lst [V.str "reached", V.str "missed"]) LR = some (.lst [V.str "reached", V.str "missed"]) := upd_same
      have hp9 := sR _ _ hp
      generalize upd H LR (.lst [V.str "reached", V.str "missed"]) = H9 at sR eR hp9 ⊢
      refine ⟨LR, _, rfl, .inl (SqL.of eR), rfl, rfl, _, rfl, ?_⟩
      have ein : inV (V.str (S x3)) [V.str "reached", V.str "missed"] = decide (ps[3]? = some (codes "reached") ∨ ps[3]? = some (codes "missed")) := by
        rw [h3]
        show inV (V.str (S x3)) [V.str (Str.ofString "reached"), V.str (Str.ofString "missed")] = _
        rw [er, em]
        by_cases a1 : x3 = codes "reached"
        · rw [a1, decide_eq_true (.inl rfl)]
          decide +kernel
        · by_cases a2 : x3 = codes "missed"
          · rw [a2, decide_eq_true (.inr rfl)]
            decide +kernel
          · rw [decide_eq_false (fun z => z.elim (fun y => a1 (Option.some.inj y)) fun y => a2 (Option.some.inj y))]
            have e := in_strs (S x3) [S (codes "reached"), S (codes "missed")]
            refine e.trans ?_
            rw [Bool.eq_false_iff]
            intro z
            have z := List.contains_iff_mem.mp z
            simp only [List.mem_cons, List.not_mem_nil, or_false] at z
            rcases z with z | z
            · exact a1 (S_inj z)
            · exact a2 (S_inj z)
      by_cases c3 : ps[3]? = some (codes "reached") ∨ ps[3]? = some (codes "missed")
      rotate_left
      · exact if_t (by rw [ein, decide_eq_false c3]; rfl) (no _ sR (by unfold trialB; rw [decide_eq_false c3]; simp))
      refine if_f (by rw [ein, decide_eq_true c3]; rfl) ?_
      have eb : trialB ps = (numB x1 && numB x2) := by
        unfold trialB
        rw [decide_eq_true c4, decide_eq_true (show ps[0]? = some (codes "trial") by rw [h0, c0]), decide_eq_true c3, g1, g2]
        rfl
      refine ⟨_, rfl, p, _, 1, _, rfl, rfl, SqL.of hp9, wdsL ps 1 h1, x1, rfl, wo.ln x1 (List.mem_of_getElem? h1), fun H1 S1 => ⟨_, rfl, ?_⟩⟩
      cases n1 : numB x1 with
      | false => exact if_f rfl (no _ (same_tr sR S1) (by rw [eb, n1]; rfl))
      | true =>
        refine if_t rfl ⟨_, rfl, p, _, 2, _, rfl, rfl, SqL.of (S1 _ _ hp9), wdsL ps 2 h2, x2, rfl, wo.ln x2 (List.mem_of_getElem? h2), fun H2 S2 => ?_⟩
        have z := k _ (same_tr sR (same_tr S1 S2))
        rw [eb, n1, Bool.true_and] at z
        exact z
    · exact ⟨_, rfl, p, _, rfl, .inl (SqL.of hp), rfl, _, rfl, if_t (by rw [ll, decide_eq_false (fun z => c4 (by have := V.int.inj z; omega))]; rfl) (no _ same_rfl (by unfold trialB; rw [decide_eq_false c4]; rfl))⟩
end
end Law

/-! The law's good lines. -/
namespace L2
open PySem PySem.Spec PyProof.Rows
theorem op_mul_str {X : Cx} : OpR X (binaryOp .Mult) (fun x y H Q => ∃ a i, x = .str a ∧ y = .int i ∧ a.length ≤ 16 ∧ 0 ≤ i ∧ i ≤ 1048576 ∧ Q (.str (Txt.mul a i)) H) := by
  intro pins s σ H x y v u Q I rx ry h
  obtain ⟨a, i, rfl, rfl, hz, h0, h1, q⟩ := h
  obtain ⟨t, rfl⟩ := rx
  obtain ⟨t', rfl⟩ := ry
  exact PySem.W.KXi.mul (n := a.length) rfl hz (by omega) (by omega) fun t' k _ _ => ⟨.str _, H, I.tok _, ⟨_, rfl⟩, q⟩
end L2
namespace Law
open PySem PySem.Spec PyProof.Rows L2 SX NumText ItSeq Sup
abbrev sNw : Stmt := top 52
abbrev sGl : Stmt := top 53
/-- a line of the law after j bends -/
structure LnOk (j : Nat) (q : List (List Nat)) : Prop where
  ne : q ≠ []
  no : ∀ p ∈ q, 32 ∉ p ∧ 10 ∉ p
  ln : ∀ p ∈ q, p.length ≤ 50 + j
  few : q.length ≤ 6 + j
  cd : ∀ p ∈ q, ∀ c ∈ p, c < 128
theorem LnOk.w {j : Nat} {q : List (List Nat)} (h : LnOk j q) (hj : j ≤ 30) : WOk q := ⟨h.ne, h.no, fun p hp => Nat.le_trans (h.ln p hp) (by omega), Nat.le_trans h.few (by omega)⟩
theorem LnOk.mono {j j' : Nat} {q : List (List Nat)} (h : LnOk j q) (hj : j ≤ j') : LnOk j' q := ⟨h.ne, h.no, fun p hp => Nat.le_trans (h.ln p hp) (by omega), Nat.le_trans h.few (by omega), h.cd⟩
def lnV (qs : List (List (List Nat))) : List V := ((qs.map lineT).map S).map V.str
def LnsS (H : Hp) (p : Addr) (qs : List (List (List Nat))) : Prop := H p = some (.lst (lnV qs))
theorem Box.neS {H : Hp} {b l p : Addr} {qs : List (List (List Nat))} (B : Box H b l) (h : LnsS H p qs) : p ≠ b := fun z => by
  obtain ⟨_, _, _, _, q, _⟩ := B
  unfold LnsS at h
  rw [z, q] at h
  have e := HO.lst.inj (Option.some.inj h)
  unfold lnV at e
  cases qs with
  | nil => cases e
  | cons x xs =>
    rw [List.map_cons, List.map_cons, List.map_cons] at e
    injection e with e _
    cases e
def spNw : Sp := fun vs H Q _ => ∃ b l : Addr, vs = [.ref b] ∧ Box H b l ∧ ∀ (n : Int) (H' : Hp), 0 ≤ n → n < 10 ^ 40 → Box H' b l → SameB b H H' → Q (.str (S (iL n))) H'
def spGl : Sp := fun vs H Q _ => ∃ (b l : Addr) (sd : Bool), vs = [.ref b, .bl sd] ∧ Box H b l ∧ ∀ (p : Addr) (qs : List (List (List Nat))) (H' : Hp), H p = none → LnsS H' p qs → (∀ q ∈ qs, LnOk 0 q) → qs.length ≤ 5 → Box H' b l → SameB b H H' → Q (.ref p) H'
structure NwTxt (mg : Str → Option Value) (fT : Addr) : Prop where
  take : mg "_law_take" = some (.ref fT)
  b_str : mg "str" = none
structure GlTxt (mg : Str → Option Value) (fT fNw : Addr) : Prop where
  take : mg "_law_take" = some (.ref fT)
  nw : mg "_law_number_word" = some (.ref fNw)
  b_str : mg "str" = none
  b_len : mg "len" = none
  b_range : mg "range" = none
section
variable {P : Program} {w : World} {K : PySem.W.Frag} {mg : Str → Option Value} {base : Heap} {fT fNw : Addr}
theorem scNw : FnScope ["_law_box_here", "_law_small", "_law_great"] ["_law_box_here"] (defScope sNw) := ⟨rfl, rfl, rfl, by decide +kernel, rfl, by decide +kernel, by decide +kernel⟩
theorem scGl : FnScope ["_law_box_here", "_law_sited", "_law_lines", "_law_count", "_law_k", "_law_number"] ["_law_box_here", "_law_sited"] (defScope sGl) := ⟨rfl, rfl, rfl, by decide +kernel, rfl, by decide +kernel, by decide +kernel⟩
set_option maxHeartbeats 0 in
theorem ok_nw {f : Addr} {fd fdT : FuncData} (F : Fun K "_law_number_word" "_law_number_word" sNw f fd) (GT : FnOk P w K mg base CX0 1 fT fdT ["_law_box_here", "_law_size"] spTake) (FT : Fun K "_law_take" "_law_take" sTake fT fdT) (bT : Binds K fdT ["_law_box_here", "_law_size"] []) (T : NwTxt mg fT) : FnOk P w K mg base CX0 2 f fd ["_law_box_here"] spNw := by
  refine F.ok scNw (fun vs H Q E h => ?_) (fun cdv A outer s H vs Q E hr h => ?_)
  · obtain ⟨b, l, rfl, _⟩ := h
    rfl
  · obtain ⟨b, l, rfl, B, k⟩ := h
    have hr1 : Room 1 _ := hr
    refine ⟨_, (pss_cons (ps_set (i := 1) scNw.nd rfl (Or.inl rfl) (pe_op op_add (pe_call GT hr1 rfl T.take FT.kp bT .nil pass0 (pa_cons (pv 0) (pa_cons pe_int pa_nil))) pe_int))
      (pss_cons (ps_set (i := 2) scNw.nd rfl (Or.inl rfl) (pe_call GT hr1 rfl T.take FT.kp bT .nil pass0 (pa_cons (pv 0) (pa_cons (pe_op op_pow pe_int pe_int) pa_nil))))
      (pss_one (ps_ret (pe_callTy call_str_int (by rfl) T.b_str (by decide +kernel) (pa_cons (pe_op op_add (pe_ix ix_list (pe_lst (pa_cons (pv 1) (pa_cons (pv 2) pa_nil))) (pe_call GT hr1 rfl T.take FT.kp bT .nil pass0 (pa_cons (pv 0) (pa_cons pe_int pa_nil))) (fun _ _ => rfl)) pe_int) pa_nil)))))), ?_⟩
    have bd : ∀ z : Int, Big z → z.natAbs.log2 < 1920 := fun z h => log_of (by decide) (Nat.lt_of_lt_of_le h (by decide +kernel))
    refine ⟨_, rfl, b, l, _, rfl, B, by decide, by decide, fun sm H1 s0 s1 B1 k1 => ⟨_, _, rfl, rfl, ?_⟩⟩
    refine ⟨_, rfl, _, _, rfl, rfl, pow_ok (by decide), b, l, _, rfl, B1, by decide +kernel, size_fit (by decide +kernel) (by decide +kernel), fun gr H2 g0 g1 B2 k2 => ?_⟩
    have g1 : gr < 10 ^ 40 := g1
    refine ⟨_, rfl, _, rfl, by show 2 ≤ sizeLine; decide, fun L hL => ?_⟩
    have sL := same_new (o := .lst [V.int (sm + 1), V.int gr]) hL
    have eL : upd H2 L (.lst [V.int (sm + 1), V.int gr]) L = some (.lst [V.int (sm + 1), V.int gr]) := upd_same
    have B3 := B2.same sL
    have nLb : L ≠ b := Ne.symm (B2.free hL).1
    have S3 := ((SameB.of k1).trans (SameB.of k2)).trans (SameB.of_same sL)
    generalize upd H2 L (.lst [V.int (sm + 1), V.int gr]) = H3 at sL eL B3 S3 ⊢
    refine ⟨_, rfl, b, l, _, rfl, B3, by decide, by decide, fun r H4 r0 r1 B4 k4 => ?_⟩
    obtain ⟨n, hn, n0, n1⟩ : ∃ n : Int, atI [V.int (sm + 1), V.int gr] r = some (.int n) ∧ 0 ≤ n ∧ n < 10 ^ 40 := by
      by_cases c : r = 0
      · subst c
        exact ⟨sm + 1, rfl, by omega, by omega⟩
      · have : r = 1 := by omega
        subst this
        exact ⟨gr, rfl, g0, g1⟩
    have bn : Big (n + 0) := by
      show (n + 0).natAbs < 10 ^ 40
      omega
    refine ⟨L, _, r, _, rfl, rfl, SqL.of ((k4 L nLb).trans eL), hn, _, _, rfl, rfl, _, rfl, bd _ bn, ?_⟩
    have z := k n _ n0 n1 B4 (S3.trans (SameB.of k4))
    rw [iL_str, Int.add_zero]
    exact z
set_option maxHeartbeats 0 in
theorem ok_gl {f : Addr} {fd fdT fdNw : FuncData} (F : Fun K "_law_good_lines" "_law_good_lines" sGl f fd) (GT : FnOk P w K mg base CX0 1 fT fdT ["_law_box_here", "_law_size"] spTake) (FT : Fun K "_law_take" "_law_take" sTake fT fdT) (bT : Binds K fdT ["_law_box_here", "_law_size"] [])
    (GNw : FnOk P w K mg base CX0 2 fNw fdNw ["_law_box_here"] spNw) (FNw : Fun K "_law_number_word" "_law_number_word" sNw fNw fdNw) (bNw : Binds K fdNw ["_law_box_here"] []) (T : GlTxt mg fT fNw) : FnOk P w K mg base CX0 3 f fd ["_law_box_here", "_law_sited"] spGl := by
  refine F.ok scGl (fun vs H Q E h => ?_) (fun cdv A outer s H vs Q E hr h => ?_)
  · obtain ⟨b, l, sd, rfl, _⟩ := h
    rfl
  · obtain ⟨b, l, sd, rfl, B, k⟩ := h
    have hr1 : Room 1 _ := hr.mono (by decide)
    have hr2 : Room 2 _ := hr
    refine ⟨_, (pss_cons (ps_set (i := 2) scGl.nd rfl (Or.inl rfl) (pe_lst pa_nil))
      (pss_cons (ps_set (i := 3) scGl.nd rfl (Or.inl rfl) (pe_op op_add pe_int (pe_call GT hr1 rfl T.take FT.kp bT .nil pass0 (pa_cons (pv 0) (pa_cons pe_int pa_nil)))))
      (C8.pss_cut (ps_for PassesOwn.never rfl (pi_range1 (by rfl) T.b_range (pa_cons (pe_call GT hr1 rfl T.take FT.kp bT .nil pass0 (pa_cons (pv 0) (pa_cons pe_int pa_nil))) pa_nil)) (pg_name (i := 4) scGl.nd rfl (Or.inl rfl)) (pss_cons (ps_set (i := 5) scGl.nd rfl (Or.inl rfl) (pe_call GNw hr2 rfl T.nw FNw.kp bNw .nil pass0 (pa_cons (pv 0) pa_nil)))
      (pss_one (ps_if (pt_not (pt_val (pv 1))) (pss_one (ps_expr (pe_bm PySem.F.plainAttrs_list PySem.F.slot_list_append PySem.F.type_list_append mt_append (pv 2) (pa_cons (pe_op op_add_str (pe_op op_add_str (pe_op op_add_str (pe_op op_add_str (pe_op op_add_str pe_str (pe_callTy call_str_int (by rfl) T.b_str (by decide +kernel) (pa_cons (pe_call GT hr1 rfl T.take FT.kp bT .nil pass0 (pa_cons (pv 0) (pa_cons pe_int pa_nil))) pa_nil))) pe_str) (pv 5)) (pe_slice sl_str pe_str po_none (po_some (pe_op op_sub pe_int (pe_callB call_len_str (by rfl) T.b_len PySem.boot_len (pa_cons (pv 5) pa_nil)))))) pe_str) pa_nil)))) (pss_one (ps_if (PW.pt (pw_or (pt_cmpR op_lt (pv 4) (pv 3) (nomark _)) (pw_or1 (pt_cmpR op_lt (pv 4) pe_int (nomark _))))) (pss_one (ps_expr (pe_bm PySem.F.plainAttrs_list PySem.F.slot_list_append PySem.F.type_list_append mt_append (pv 2) (pa_cons (pe_op op_add_str (pe_op op_add_str (pe_op op_add_str (pe_op op_add_str (pe_op op_add_str pe_str (pe_ix ix_str pe_str (pv 4) (fun _ _ => rfl))) pe_str) (pv 5)) pe_str) (pe_callTy call_str_int (by rfl) T.b_str (by decide +kernel) (pa_cons (pe_call GT hr1 rfl T.take FT.kp bT .nil pass0 (pa_cons (pv 0) (pa_cons pe_int pa_nil))) pa_nil))) pa_nil)))) (pss_one (ps_expr (pe_bm PySem.F.plainAttrs_list PySem.F.slot_list_append PySem.F.type_list_append mt_append (pv 2) (pa_cons (pe_op op_add_str (pe_op op_add_str (pe_op op_add_str pe_str (pe_op op_mul_str pe_str pe_int)) pe_str) (pe_op op_mul_str pe_str pe_int)) pa_nil))))))))))
      (pss_one (ps_ret (pv 2)))))), ?_⟩
    refine ⟨by show 0 ≤ sizeLine; decide, fun D hD => ?_⟩
    have s0 := same_new (o := .lst ([] : List V)) hD
    have e0 : LnsS (upd H D (.lst [])) D [] := upd_same
    have B0 := B.same s0
    have fD := B.free hD
    generalize upd H D (.lst []) = H0 at s0 e0 B0 ⊢
    refine ⟨_, rfl, b, l, _, rfl, B0, by decide, by decide, fun cn H1 c0 c1 B1 k1 => ⟨_, _, rfl, rfl, ?_⟩⟩
    have e1 : LnsS H1 D [] := (k1 D (B0.neS e0)).trans e0
    have S1 := (SameB.of_same s0).trans (SameB.of k1)
    refine ⟨fun σ' H' => ∃ (v4 v5 : Option V) (qs : List (List (List Nat))), σ' = [some (.ref b), some (.bl sd), some (.ref D), some (.int (1 + cn)), v4, v5] ∧ LnsS H' D qs ∧ (∀ q ∈ qs, LnOk 0 q) ∧ qs.length ≤ 5 ∧ Box H' b l ∧ SameB b H H', ?_, ?_⟩
    · refine ⟨_, rfl, b, l, _, rfl, B1, by decide, by decide, fun n H2 n0 n1 B2 k2 => ⟨_, rfl, by omega, by omega, ?_⟩⟩
      have e2 : LnsS H2 D [] := (k2 D (B1.neS e1)).trans e1
      refine for_it (walk_range (lo := 0) (n := n.toNat)) (fun i σ' H' => ∃ (v4 v5 : Option V) (qs : List (List (List Nat))), σ' = [some (.ref b), some (.bl sd), some (.ref D), some (.int (1 + cn)), v4, v5] ∧ LnsS H' D qs ∧ (∀ q ∈ qs, LnOk 0 q) ∧ qs.length = i ∧ Box H' b l ∧ SameB b H H') ⟨_, _, [], rfl, e2, (fun _ h => nomatch h), rfl, B2, S1.trans (SameB.of k2)⟩ (fun _ _ _ _ _ => trivial) ?_ ?_
      · rintro i x σ' H3 H4 hi ⟨v4, v5, qs, rfl, e4, o4, n4, B4, S4⟩ ⟨rfl, rfl⟩
        refine ⟨_, rfl, b, l, rfl, B4, fun nb H5 m0 m1 B5 S5 => ?_⟩
        have e5 : LnsS H5 D qs := S5 _ _ (B4.neS e4) e4
        have S6 := S4.trans S5
        have put : ∀ {H6 : Hp} (q : List (List Nat)), LnsS H6 D qs → Box H6 b l → SameB b H H6 → LnOk 0 q → ∃ acc, H6 D = some (.lst acc) ∧ acc.length < sizeLine ∧ ∃ (v4' v5' : Option V) (qs' : List (List (List Nat))), ([some (.ref b), some (.bl sd), some (.ref D), some (.int (1 + cn)), some (.int (0 + (i : Int))), some (.str (S (iL nb)))] : L2.St) = [some (.ref b), some (.bl sd), some (.ref D), some (.int (1 + cn)), v4', v5'] ∧ LnsS (upd H6 D (.lst (acc ++ [V.str (S (lineT q))]))) D qs' ∧ (∀ q ∈ qs', LnOk 0 q) ∧ qs'.length = i + 1 ∧ Box (upd H6 D (.lst (acc ++ [V.str (S (lineT q))]))) b l ∧ SameB b H (upd H6 D (.lst (acc ++ [V.str (S (lineT q))]))) := fun {H6} q e B6 S' oq => by
          refine ⟨_, e, small1000 (by unfold lnV; simp only [List.length_map]; omega), _, _, qs ++ [q], rfl, ?_, fun y hy => ?_, by rw [List.length_append, n4]; rfl, B6.at fD, fun c o n1 e1 => ?_⟩
          · unfold LnsS lnV
            rw [upd_same]
            simp only [List.map_append, List.map_cons, List.map_nil]
          · rcases List.mem_append.mp hy with h | h
            · exact o4 y h
            · rw [List.mem_singleton] at h
              rw [h]
              exact oq
          · rw [upd_ne (ne_of_none e1 hD)]
            exact S' c o n1 e1
        have bd : ∀ z : Int, Big z → z.natAbs.log2 < 1920 := fun z h => log_of (by decide) (Nat.lt_of_lt_of_le h (by decide +kernel))
        have small : ∀ z : Int, 0 ≤ z → z < 100 → Big z := fun z h0 h1 => Nat.lt_of_le_of_lt (show z.natAbs ≤ 100 by omega) (by decide +kernel)
        have big : ∀ n : Nat, n ≤ 5000 → n ≤ sizeLine := fun n h => by rw [sizeLine_eq]; omega
        have nlen : (iL nb).length ≤ 40 := by
          cases nb with
          | ofNat m => exact numL_le (m := m) (by have : (Int.ofNat m) < 10 ^ 40 := m1; have e : (10 : Int) ^ 40 = ((10 ^ 40 : Nat) : Int) := by decide +kernel
                                                  rw [e] at this; exact Int.ofNat_lt.mp this)
          | negSucc m => exact absurd m0 (by simp)
        have w1 : (Str.ofString "trial " : Str) = S (codes "trial" ++ [32]) := by rw [codes_str]; rfl
        have w2 : (Str.ofString " -" : Str) = S [32, 45] := by decide +kernel
        have w3 : (Str.ofString " reached" : Str) = S ([32] ++ codes "reached") := by rw [codes_str]; rfl
        have w4 : (Str.ofString "wall " : Str) = S (codes "wall" ++ [32]) := by rw [codes_str]; rfl
        have w5 : (Str.ofString " " : Str) = S [32] := by decide +kernel
        have w6 : (Str.ofString "link 0 1 -" : Str) = S (codes "link" ++ ([32] ++ (codes "0" ++ ([32] ++ (codes "1" ++ ([32] ++ [45])))))) := by rw [codes_str]; exact congrArg S (by decide +kernel)
        have w7 : Txt.mul (Str.ofString "9") 40 = S (List.replicate 40 57) := by decide +kernel
        have nono : ∀ z : Int, 32 ∉ iL z ∧ 10 ∉ iL z := fun z => iL_no
        cases sd with
        | false =>
          refine ⟨_, rfl, false, rfl, if_t rfl ?_⟩
          refine ⟨_, rfl, .inl ⟨rfl, _, SqL.of e5⟩, _, rfl, b, l, _, rfl, B5, by decide, by decide, fun tt H6 t0 t1 B6 k6 => ⟨_, rfl, bd _ (small _ t0 (by omega)), ?_⟩⟩
          have e6 : LnsS H6 D qs := (k6 D (B5.neS e5)).trans e5
          have lt := iL_len (small _ t0 (by omega))
          obtain ⟨one, eone, oln, ono⟩ : ∃ one : List Nat, cutS (Str.ofString "1") none (some ((40 : Int) - ((S (iL nb)).length : Nat))) = S one ∧ one.length ≤ 1 ∧ ∀ x ∈ one, x = 49 := by
            refine ⟨[49].take ((40 : Int) - ((S (iL nb)).length : Nat)).toNat, ?_, by rw [List.length_take]; exact Nat.min_le_right _ _, fun x hx => by simpa using List.mem_of_mem_take hx⟩
            rw [C8.cutS_slice, show (Str.ofString "1" : Str) = S [49] from by decide +kernel, slice_to (by rw [S_len]; omega)]
          have etx : (Str.ofString "trial " ++ Str.ofString (toString tt) ++ Str.ofString " -" ++ S (iL nb) ++ S one ++ Str.ofString " reached" : Str) = S (lineT [codes "trial", iL tt, 45 :: (iL nb ++ one), codes "reached"]) := by
            rw [w1, w2, w3, iL_str, S_cat, S_cat, S_cat, S_cat, S_cat]
            refine congrArg S ?_
            show _ = codes "trial" ++ ([32] ++ (iL tt ++ ([32] ++ ((45 :: (iL nb ++ one)) ++ ([32] ++ codes "reached")))))
            simp only [List.append_assoc, List.cons_append, List.nil_append]
          have oq : LnOk 0 [codes "trial", iL tt, 45 :: (iL nb ++ one), codes "reached"] := by
            refine ⟨List.cons_ne_nil _ _, fun x hx => ?_, fun x hx => ?_, by show 4 ≤ 6; decide, fun x hx c hc => ?_⟩
            · simp only [List.mem_cons, List.not_mem_nil, or_false] at hx
              rcases hx with rfl | rfl | rfl | rfl
              · decide
              · exact nono _
              · have := nono nb
                refine ⟨fun z => ?_, fun z => ?_⟩
                all_goals
                  simp only [List.mem_cons, List.mem_append] at z
                  rcases z with z | z | z
                  · omega
                  · first | exact this.1 z | exact this.2 z
                  · have := ono _ z; omega
              · decide
            · simp only [List.mem_cons, List.not_mem_nil, or_false] at hx
              rcases hx with rfl | rfl | rfl | rfl
              · decide
              · omega
              · rw [List.length_cons, List.length_append]; omega
              · decide
            · simp only [List.mem_cons, List.not_mem_nil, or_false] at hx
              rcases hx with rfl | rfl | rfl | rfl
              · exact (by decide : ∀ c ∈ codes "trial", c < 128) c hc
              · have := iL_mem hc; omega
              · simp only [List.mem_cons, List.mem_append] at hc
                rcases hc with z | z | z
                · omega
                · have := iL_mem z; omega
                · have := ono _ z; omega
              · exact (by decide : ∀ c ∈ codes "reached", c < 128) c hc
          have ct : (codes "trial").length = 5 := by decide
          have cr : (codes "reached").length = 7 := by decide
          refine ⟨_, _, rfl, rfl, ?_, _, _, rfl, rfl, ?_, _, rfl, _, _, rfl, rfl, ?_, _, rfl, _, rfl, by rw [S_len]; exact big _ (by omega), _, _, rfl, rfl, _, rfl, _, rfl, by decide +kernel, ?_⟩
          · simp only [Str.length_append, w1, w2, iL_str, S_len, List.length_append, List.length_cons, List.length_nil, ct]
            exact big _ (by omega)
          · simp only [Str.length_append, w1, w2, iL_str, S_len, List.length_append, List.length_cons, List.length_nil, ct]
            exact big _ (by omega)
          · simp only [Str.length_append, w1, w2, iL_str, S_len, List.length_append, List.length_cons, List.length_nil, ct]
            exact big _ (by omega)
          rw [eone]
          refine ⟨_, _, rfl, rfl, ?_, _, _, rfl, rfl, ?_, ?_⟩
          · simp only [Str.length_append, w1, w2, iL_str, S_len, List.length_append, List.length_cons, List.length_nil, ct]
            exact big _ (by omega)
          · simp only [Str.length_append, w1, w2, w3, iL_str, S_len, List.length_append, List.length_cons, List.length_nil, ct, cr]
            exact big _ (by omega)
          rw [etx]
          obtain ⟨acc, p1, p2, p3⟩ := put _ e6 B6 (S6.trans (SameB.of k6)) oq
          exact ⟨D, acc, _, rfl, rfl, p1, p2, p3⟩
        | true =>
          refine ⟨_, rfl, true, rfl, if_f rfl ?_⟩
          have two : ((0 : Int) + (i : Int) < 1 + cn) ∨ (¬ (0 : Int) + (i : Int) < 1 + cn ∧ (0 : Int) + (i : Int) < 2) ∨ (¬ (0 : Int) + (i : Int) < 1 + cn ∧ ¬ (0 : Int) + (i : Int) < 2) := by omega
          rcases two with ca | ⟨ca, cb⟩ | ⟨ca, cb⟩
          rotate_left 2
          · refine ⟨_, rfl, _, rfl, _, _, rfl, rfl, _, rfl, if_f (decide_eq_false ca) ⟨_, rfl, _, _, rfl, rfl, _, rfl, if_f (decide_eq_false cb) ?_⟩⟩
            have etx : (Str.ofString "link 0 1 -" ++ S (List.replicate 40 57) ++ Str.ofString " " ++ S (List.replicate 40 57) : Str) = S (lineT [codes "link", codes "0", codes "1", 45 :: List.replicate 40 57, List.replicate 40 57]) := by
              rw [w5, w6, S_cat, S_cat, S_cat]
              exact congrArg S (by decide +kernel)
            have oq : LnOk 0 [codes "link", codes "0", codes "1", 45 :: List.replicate 40 57, List.replicate 40 57] := ⟨List.cons_ne_nil _ _, by decide +kernel, by decide +kernel, by decide, by decide +kernel⟩
            refine ⟨_, rfl, .inl ⟨rfl, _, SqL.of e5⟩, _, _, rfl, rfl, by decide +kernel, by decide, by decide, ?_⟩
            rw [w7]
            refine ⟨_, _, rfl, rfl, ?_, _, _, rfl, rfl, ?_, _, _, rfl, rfl, by decide +kernel, by decide, by decide, ?_⟩
            · rw [w6, S_len, S_len]; exact big _ (by decide +kernel)
            · rw [w6, w5, S_cat, S_len, S_len]; exact big _ (by decide +kernel)
            rw [w7]
            refine ⟨_, _, rfl, rfl, ?_, ?_⟩
            · rw [w6, w5, S_cat, S_cat, S_len, S_len]; exact big _ (by decide +kernel)
            rw [etx]
            obtain ⟨acc, p1, p2, p3⟩ := put _ e5 B5 S6 oq
            exact ⟨D, acc, _, rfl, rfl, p1, p2, p3⟩
          · refine ⟨_, rfl, _, rfl, _, _, rfl, rfl, _, rfl, if_t (decide_eq_true ca) (if_t rfl ?_)⟩
            obtain ⟨c, hc⟩ : ∃ c, ("abcdef" : Str).cps.toList[i]? = some c := by
              have h6 : ("abcdef" : Str).cps.toList.length = 6 := by decide +kernel
              exact ⟨_, List.getElem?_eq_getElem (by omega)⟩
            have hcm : c ≠ 32 ∧ c ≠ 10 := (by decide +kernel : ∀ c ∈ ("abcdef" : Str).cps.toList, c ≠ 32 ∧ c ≠ 10) c (List.mem_of_getElem? hc)
            have hc128 : c < 128 := (by decide +kernel : ∀ c ∈ ("abcdef" : Str).cps.toList, c < 128) c (List.mem_of_getElem? hc)
            have hki : atI ("abcdef" : Str).cps.toList ((0 : Int) + (i : Int)) = some c := by
              have z := atI_nat hc
              rw [Int.zero_add]
              exact z
            have cw : (codes "wall").length = 4 := by decide
            have oc : (⟨#[c]⟩ : Str) = S [c] := rfl
            refine ⟨_, rfl, .inl ⟨rfl, _, SqL.of e5⟩, _, rfl, _, _, c, rfl, rfl, by decide +kernel, hki, _, _, rfl, rfl, ?_, _, _, rfl, rfl, ?_, _, rfl, _, _, rfl, rfl, ?_, _, _, rfl, rfl, ?_, _, rfl, b, l, _, rfl, B5, by decide, by decide, fun tt H6 t0 t1 B6 k6 => ⟨_, rfl, bd _ (small _ t0 (by omega)), _, _, rfl, rfl, ?_, ?_⟩⟩
            · simp only [w4, oc, S_len, List.length_append, List.length_cons, List.length_nil, cw]
              exact big _ (by omega)
            · simp only [w4, w5, oc, Str.length_append, S_len, List.length_append, List.length_cons, List.length_nil, cw]
              exact big _ (by omega)
            · simp only [w4, w5, oc, Str.length_append, S_len, List.length_append, List.length_cons, List.length_nil, cw]
              exact big _ (by omega)
            · simp only [w4, w5, oc, Str.length_append, S_len, List.length_append, List.length_cons, List.length_nil, cw]
              exact big _ (by omega)
            · have lt := iL_len (small _ t0 (by omega))
              simp only [w4, w5, oc, iL_str, Str.length_append, S_len, List.length_append, List.length_cons, List.length_nil, cw]
              exact big _ (by omega)
            have lt := iL_len (small _ t0 (by omega))
            have e6 : LnsS H6 D qs := (k6 D (B5.neS e5)).trans e5
            have etx : (Str.ofString "wall " ++ ⟨#[c]⟩ ++ Str.ofString " " ++ S (iL nb) ++ Str.ofString " " ++ Str.ofString (toString tt) : Str) = S (lineT [codes "wall", [c], iL nb, iL tt]) := by
              rw [w4, w5, oc, iL_str, S_cat, S_cat, S_cat, S_cat, S_cat]
              refine congrArg S ?_
              show _ = codes "wall" ++ ([32] ++ ([c] ++ ([32] ++ (iL nb ++ ([32] ++ iL tt)))))
              simp only [List.append_assoc]
            have oq : LnOk 0 [codes "wall", [c], iL nb, iL tt] := by
              refine ⟨List.cons_ne_nil _ _, fun x hx => ?_, fun x hx => ?_, by show 4 ≤ 6; decide, fun x hx c hc => ?_⟩
              · simp only [List.mem_cons, List.not_mem_nil, or_false] at hx
                rcases hx with rfl | rfl | rfl | rfl
                · decide
                · exact ⟨fun z => hcm.1 (List.mem_singleton.mp z).symm, fun z => hcm.2 (List.mem_singleton.mp z).symm⟩
                · exact nono _
                · exact nono _
              · simp only [List.mem_cons, List.not_mem_nil, or_false] at hx
                rcases hx with rfl | rfl | rfl | rfl
                · decide
                · show 1 ≤ 50; decide
                · omega
                · omega
              · simp only [List.mem_cons, List.not_mem_nil, or_false] at hx
                rcases hx with rfl | rfl | rfl | rfl
                · exact (by decide : ∀ c ∈ codes "wall", c < 128) _ hc
                · rw [List.mem_singleton.mp hc]; exact hc128
                · have := iL_mem hc; omega
                · have := iL_mem hc; omega
            rw [etx]
            obtain ⟨acc, p1, p2, p3⟩ := put _ e6 B6 (S6.trans (SameB.of k6)) oq
            exact ⟨D, acc, _, rfl, rfl, p1, p2, p3⟩
          · refine ⟨_, rfl, _, rfl, _, _, rfl, rfl, _, rfl, if_f (decide_eq_false ca) ⟨_, rfl, _, _, rfl, rfl, _, rfl, if_t (decide_eq_true cb) ?_⟩⟩
            obtain ⟨c, hc⟩ : ∃ c, ("abcdef" : Str).cps.toList[i]? = some c := by
              have h6 : ("abcdef" : Str).cps.toList.length = 6 := by decide +kernel
              exact ⟨_, List.getElem?_eq_getElem (by omega)⟩
            have hcm : c ≠ 32 ∧ c ≠ 10 := (by decide +kernel : ∀ c ∈ ("abcdef" : Str).cps.toList, c ≠ 32 ∧ c ≠ 10) c (List.mem_of_getElem? hc)
            have hc128 : c < 128 := (by decide +kernel : ∀ c ∈ ("abcdef" : Str).cps.toList, c < 128) c (List.mem_of_getElem? hc)
            have hki : atI ("abcdef" : Str).cps.toList ((0 : Int) + (i : Int)) = some c := by
              have z := atI_nat hc
              rw [Int.zero_add]
              exact z
            have cw : (codes "wall").length = 4 := by decide
            have oc : (⟨#[c]⟩ : Str) = S [c] := rfl
            refine ⟨_, rfl, .inl ⟨rfl, _, SqL.of e5⟩, _, rfl, _, _, c, rfl, rfl, by decide +kernel, hki, _, _, rfl, rfl, ?_, _, _, rfl, rfl, ?_, _, rfl, _, _, rfl, rfl, ?_, _, _, rfl, rfl, ?_, _, rfl, b, l, _, rfl, B5, by decide, by decide, fun tt H6 t0 t1 B6 k6 => ⟨_, rfl, bd _ (small _ t0 (by omega)), _, _, rfl, rfl, ?_, ?_⟩⟩
            · simp only [w4, oc, S_len, List.length_append, List.length_cons, List.length_nil, cw]
              exact big _ (by omega)
            · simp only [w4, w5, oc, Str.length_append, S_len, List.length_append, List.length_cons, List.length_nil, cw]
              exact big _ (by omega)
            · simp only [w4, w5, oc, Str.length_append, S_len, List.length_append, List.length_cons, List.length_nil, cw]
              exact big _ (by omega)
            · simp only [w4, w5, oc, Str.length_append, S_len, List.length_append, List.length_cons, List.length_nil, cw]
              exact big _ (by omega)
            · have lt := iL_len (small _ t0 (by omega))
              simp only [w4, w5, oc, iL_str, Str.length_append, S_len, List.length_append, List.length_cons, List.length_nil, cw]
              exact big _ (by omega)
            have lt := iL_len (small _ t0 (by omega))
            have e6 : LnsS H6 D qs := (k6 D (B5.neS e5)).trans e5
            have etx : (Str.ofString "wall " ++ ⟨#[c]⟩ ++ Str.ofString " " ++ S (iL nb) ++ Str.ofString " " ++ Str.ofString (toString tt) : Str) = S (lineT [codes "wall", [c], iL nb, iL tt]) := by
              rw [w4, w5, oc, iL_str, S_cat, S_cat, S_cat, S_cat, S_cat]
              refine congrArg S ?_
              show _ = codes "wall" ++ ([32] ++ ([c] ++ ([32] ++ (iL nb ++ ([32] ++ iL tt)))))
              simp only [List.append_assoc]
            have oq : LnOk 0 [codes "wall", [c], iL nb, iL tt] := by
              refine ⟨List.cons_ne_nil _ _, fun x hx => ?_, fun x hx => ?_, by show 4 ≤ 6; decide, fun x hx c hc => ?_⟩
              · simp only [List.mem_cons, List.not_mem_nil, or_false] at hx
                rcases hx with rfl | rfl | rfl | rfl
                · decide
                · exact ⟨fun z => hcm.1 (List.mem_singleton.mp z).symm, fun z => hcm.2 (List.mem_singleton.mp z).symm⟩
                · exact nono _
                · exact nono _
              · simp only [List.mem_cons, List.not_mem_nil, or_false] at hx
                rcases hx with rfl | rfl | rfl | rfl
                · decide
                · show 1 ≤ 50; decide
                · omega
                · omega
              · simp only [List.mem_cons, List.not_mem_nil, or_false] at hx
                rcases hx with rfl | rfl | rfl | rfl
                · exact (by decide : ∀ c ∈ codes "wall", c < 128) _ hc
                · rw [List.mem_singleton.mp hc]; exact hc128
                · have := iL_mem hc; omega
                · have := iL_mem hc; omega
            rw [etx]
            obtain ⟨acc, p1, p2, p3⟩ := put _ e6 B6 (S6.trans (SameB.of k6)) oq
            exact ⟨D, acc, _, rfl, rfl, p1, p2, p3⟩
      · rintro σ' H4 ⟨v4, v5, qs, rfl, e4, o4, n4, B4, S4⟩
        exact ⟨_, _, qs, rfl, e4, o4, by omega, B4, S4⟩
    rintro σ' H4 ⟨v4, v5, qs, rfl, e4, o4, n4, B4, S4⟩
    exact ⟨_, rfl, k D qs H4 hD e4 o4 n4 B4 S4⟩
end
end Law

/-! Lines bent; the first bad line. -/
namespace Law
open PySem PySem.Spec PyProof.Rows L2 SX NumText ItSeq Sup
abbrev sBe : Stmt := top 54
abbrev sFb : Stmt := top 55
/-- words after a bend -/
structure OkW (j : Nat) (q : List (List Nat)) : Prop where
  no : ∀ p ∈ q, 32 ∉ p ∧ 10 ∉ p
  ln : ∀ p ∈ q, p.length ≤ 51 + j
  few : q.length ≤ 7 + j
  cd : ∀ p ∈ q, ∀ c ∈ p, c < 128
def WdOk (j : Nat) (p : List Nat) : Prop := (32 ∉ p ∧ 10 ∉ p) ∧ p.length ≤ 51 + j ∧ ∀ c ∈ p, c < 128
theorem LnOk.okw {j : Nat} {q : List (List Nat)} (h : LnOk j q) : OkW j q := ⟨h.no, fun p hp => Nat.le_trans (h.ln p hp) (by omega), Nat.le_trans h.few (by omega), h.cd⟩
theorem OkW.line {j : Nat} {q : List (List Nat)} (h : OkW j q) : ∃ q', LnOk (j + 1) q' ∧ lineT q' = lineT q := by
  by_cases c : q = []
  · exact ⟨[[]], ⟨List.cons_ne_nil _ _, by decide, fun p hp => by rw [List.mem_singleton.mp hp]; exact Nat.zero_le _, by show 1 ≤ 6 + (j + 1); omega, by decide⟩, by rw [c]; rfl⟩
  · exact ⟨q, ⟨c, h.no, fun p hp => Nat.le_trans (h.ln p hp) (by omega), Nat.le_trans h.few (by omega), h.cd⟩, rfl⟩
theorem LnOk.put {j : Nat} {q : List (List Nat)} (h : LnOk j q) (n : Nat) {x : List Nat} (hx : WdOk j x) : OkW j (q.take n ++ [x] ++ q.drop n) := by
  have mem : ∀ p ∈ q.take n ++ [x] ++ q.drop n, p = x ∨ p ∈ q := fun p hp => by
    rcases List.mem_append.mp hp with hp | hp
    · rcases List.mem_append.mp hp with hp | hp
      · exact .inr (List.mem_of_mem_take hp)
      · exact .inl (List.mem_singleton.mp hp)
    · exact .inr (List.mem_of_mem_drop hp)
  refine ⟨fun p hp => ?_, fun p hp => ?_, ?_, fun p hp => ?_⟩
  · rcases mem p hp with rfl | hp
    · exact hx.1
    · exact h.no p hp
  · rcases mem p hp with rfl | hp
    · exact hx.2.1
    · exact h.okw.ln p hp
  · have := h.few
    simp only [List.length_append, List.length_take, List.length_drop, List.length_singleton]
    omega
  · rcases mem p hp with rfl | hp
    · exact hx.2.2
    · exact h.cd p hp
theorem LnOk.set {j : Nat} {q : List (List Nat)} (h : LnOk j q) (n : Nat) {x : List Nat} (hx : WdOk j x) : OkW j (q.set n x) := by
  refine ⟨fun p hp => ?_, fun p hp => ?_, by rw [List.length_set]; exact h.okw.few, fun p hp => ?_⟩
  · rcases List.mem_or_eq_of_mem_set hp with hp | rfl
    · exact h.no p hp
    · exact hx.1
  · rcases List.mem_or_eq_of_mem_set hp with hp | rfl
    · exact h.okw.ln p hp
    · exact hx.2.1
  · rcases List.mem_or_eq_of_mem_set hp with hp | rfl
    · exact h.cd p hp
    · exact hx.2.2
theorem LnOk.del {j : Nat} {q : List (List Nat)} (h : LnOk j q) (n : Nat) : OkW j (q.eraseIdx n) :=
  ⟨fun p hp => h.no p (List.mem_of_mem_eraseIdx hp), fun p hp => h.okw.ln p (List.mem_of_mem_eraseIdx hp), Nat.le_trans (List.length_eraseIdx_le _ _) h.okw.few, fun p hp => h.cd p (List.mem_of_mem_eraseIdx hp)⟩
theorem LnOk.word {j : Nat} {q : List (List Nat)} (h : LnOk j q) {i : Nat} {x : List Nat} (hx : q[i]? = some x) : (32 ∉ x ∧ 10 ∉ x) ∧ x.length ≤ 50 + j ∧ ∀ c ∈ x, c < 128 := ⟨h.no x (List.mem_of_getElem? hx), h.ln x (List.mem_of_getElem? hx), h.cd x (List.mem_of_getElem? hx)⟩
theorem wds_put (q : List (List Nat)) (n : Nat) (x : List Nat) : ((q.map S).map V.str).take n ++ [V.str (S x)] ++ ((q.map S).map V.str).drop n = ((q.take n ++ [x] ++ q.drop n).map S).map V.str := by
  simp only [List.map_append, List.map_take, List.map_drop, List.map_cons, List.map_nil]
theorem wds_set (q : List (List Nat)) (n : Nat) (x : List Nat) : ((q.map S).map V.str).set n (V.str (S x)) = ((q.set n x).map S).map V.str := by
  rw [List.map_set, List.map_set]
theorem wds_del (q : List (List Nat)) (n : Nat) : ((q.map S).map V.str).eraseIdx n = ((q.eraseIdx n).map S).map V.str := by
  simp only [List.eraseIdx_eq_take_drop_succ, List.map_append, List.map_take, List.map_drop]
theorem lineT_len {j : Nat} {q : List (List Nat)} (h : LnOk j q) (hj : j ≤ 10) : (lineT q).length ≤ 12120 := line_len (h.w (by omega))
theorem ixN_nat {n j : Nat} (hj : j < n) : ixN n (j : Int) = some j := by
  unfold ixN
  rw [if_pos (by omega), if_pos (by omega)]
  simp
theorem words_sum2 {m : Nat} : ∀ {ps : List (List Nat)}, (∀ p ∈ ps, p.length ≤ m) → ((ps.map S).map (·.length)).sum ≤ m * ps.length
  | [], _ => Nat.zero_le _
  | p :: ps, h => by
    have a := h p List.mem_cons_self
    have b := words_sum2 (ps := ps) fun x hx => h x (List.mem_cons_of_mem _ hx)
    rw [List.map_cons, List.map_cons, List.sum_cons, S_len, List.length_cons, Nat.mul_succ]
    omega
def spBe : Sp := fun vs H Q _ => ∃ (b l : Addr) (j : Nat) (q : List (List Nat)) (sd : Bool), vs = [.ref b, .str (S (lineT q)), .bl sd] ∧ Box H b l ∧ LnOk j q ∧ j ≤ 5 ∧ ∀ (q' : List (List Nat)) (H' : Hp), LnOk (j + 1) q' → Box H' b l → SameB b H H' → Q (.str (S (lineT q'))) H'
/-- the first bad line, as the law counts -/
def firstB (sd : Bool) : Nat → Bool → List (List (List Nat)) → Nat
  | _, _, [] => 0
  | k, l, q :: r => if (if sd = true then siteB q l else trialB q) = true then firstB sd (k + 1) (l || decide (q[0]? = some (codes "link"))) r else k + 1
def outN (sd : Bool) (pss : List (List (List Nat))) : Nat := if sd = true then (match readS 1 [] [] pss with | .inl n => n | .inr _ => 0) else (readT 1 pss).getD 0
theorem first_t : ∀ (k : Nat) (l : Bool) (pss : List (List (List Nat))), (readT (k + 1) pss).getD 0 = firstB false k l pss
  | _, _, [] => rfl
  | k, l, q :: r => by
    unfold readT firstB
    simp only [Bool.false_eq_true, if_false]
    by_cases c : trialB q = true
    · rw [if_pos c, if_pos c]
      exact first_t (k + 1) _ r
    · rw [if_neg c, if_neg c]
      rfl
theorem wall_not_link {q : List (List Nat)} (h : wallB q = true) : decide (q[0]? = some (codes "link")) = false := by
  unfold wallB at h
  rw [Bool.and_eq_true, Bool.and_eq_true, decide_eq_true_eq, decide_eq_true_eq] at h
  refine decide_eq_false fun z => ?_
  rw [h.2.1] at z
  exact absurd (Option.some.inj z) (by decide)
theorem link_link {q : List (List Nat)} (h : linkB q = true) : decide (q[0]? = some (codes "link")) = true := by
  unfold linkB at h
  rw [Bool.and_eq_true, Bool.and_eq_true] at h
  exact h.2.1
theorem first_s : ∀ (k : Nat) (ws : List Wal) (ls : List Lnk) (pss : List (List (List Nat))), (match readS (k + 1) ws ls pss with | .inl n => n | .inr _ => 0) = firstB true k (!ls.isEmpty) pss
  | _, _, _, [] => rfl
  | k, ws, ls, q :: r => by
    unfold readS firstB
    simp only [if_true]
    by_cases c : (wallB q && ls.isEmpty) = true
    · rw [if_pos c]
      rw [Bool.and_eq_true] at c
      have sb : siteB q (!ls.isEmpty) = true := by unfold siteB; rw [c.1, c.2]; rfl
      rw [if_pos sb, first_s (k + 1) _ ls r, wall_not_link c.1, Bool.or_false]
    · rw [if_neg c]
      have cf : (wallB q && !(!ls.isEmpty)) = false := by rw [Bool.not_not]; simpa using c
      by_cases c2 : linkB q = true
      · have sb : siteB q (!ls.isEmpty) = true := by unfold siteB; rw [c2, Bool.or_true]
        rw [if_pos c2, if_pos sb, first_s (k + 1) ws _ r, link_link c2, Bool.or_true]
        have : (ls ++ [linkV q]).isEmpty = false := by simp
        rw [this]
        rfl
      · have sb : ¬ siteB q (!ls.isEmpty) = true := by
          unfold siteB
          rw [cf, Bool.false_or]
          exact c2
        rw [if_neg c2, if_neg sb]
theorem out_first (sd : Bool) (pss : List (List (List Nat))) : outN sd pss = firstB sd 0 false pss := by
  unfold outN
  cases sd with
  | false =>
    rw [if_neg (by decide)]
    exact first_t 0 false pss
  | true =>
    rw [if_pos rfl]
    exact first_s 0 [] [] pss
def spFb : Sp := fun vs H Q _ => ∃ (p : Addr) (sd : Bool) (pss : List (List (List Nat))), vs = [.ref p, .bl sd] ∧ LnsS H p pss ∧ (∀ q ∈ pss, WOk q) ∧ pss.length ≤ 60 ∧ ∀ H', Same H H' → Q (.int (firstB sd 0 false pss : Nat)) H'
def BeP (j : Nat) (q : List (List Nat)) (b l W : Addr) (a : Nat) (H0 : Hp) (x : V) (sd : Bool) (k : Int) (σ' : L2.St) (H' : Hp) : Prop := ∃ (way : Int) (q2 : List (List Nat)), σ' = [some (.ref b), some x, some (.bl sd), some (.ref W), some (.int (a : Nat)), some (.int way)] ∧ 0 ≤ way ∧ way < 10 ∧ (k ≤ way → q2 = q) ∧ H' W = some (.lst ((q2.map S).map V.str)) ∧ OkW j q2 ∧ Box H' b l ∧ SameB b H0 H'
structure BeTxt (mg : Str → Option Value) (fT : Addr) : Prop where
  take : mg "_law_take" = some (.ref fT)
  b_len : mg "len" = none
structure FbTxt (mg : Str → Option Value) (fTl fSl : Addr) : Prop where
  tl : mg "_law_trial_line" = some (.ref fTl)
  sl : mg "_law_site_line" = some (.ref fSl)
  b_len : mg "len" = none
  b_range : mg "range" = none
section
variable {P : Program} {w : World} {K : PySem.W.Frag} {mg : Str → Option Value} {base : Heap} {fT : Addr}
theorem scBe : FnScope ["_law_box_here", "_law_line", "_law_sited", "_law_words", "_law_at", "_law_way"] ["_law_box_here", "_law_line", "_law_sited"] (defScope sBe) := ⟨rfl, rfl, rfl, by decide +kernel, rfl, by decide +kernel, by decide +kernel⟩
theorem scFb : FnScope ["_law_lines", "_law_sited", "_law_linked", "_law_k", "_law_words"] ["_law_lines", "_law_sited"] (defScope sFb) := ⟨rfl, rfl, rfl, by decide +kernel, rfl, by decide +kernel, by decide +kernel⟩
set_option maxHeartbeats 0 in
theorem ok_be {f : Addr} {fd fdT : FuncData} (F : Fun K "_law_bent" "_law_bent" sBe f fd) (GT : FnOk P w K mg base CX0 1 fT fdT ["_law_box_here", "_law_size"] spTake) (FT : Fun K "_law_take" "_law_take" sTake fT fdT) (bT : Binds K fdT ["_law_box_here", "_law_size"] []) (T : BeTxt mg fT) : FnOk P w K mg base CX0 2 f fd ["_law_box_here", "_law_line", "_law_sited"] spBe := by
  refine F.ok scBe (fun vs H Q E h => ?_) (fun cdv A outer s H vs Q E hr h => ?_)
  · obtain ⟨b, l, j, q, sd, rfl, _⟩ := h
    rfl
  · obtain ⟨b, l, j, q, sd, rfl, B, oq, hj, k⟩ := h
    have hr1 : Room 1 _ := hr
    refine ⟨_, (pss_cons (ps_set (i := 3) scBe.nd rfl (Or.inl rfl) (pe_split (pv 1) pe_str))
      (pss_cons (ps_set (i := 4) scBe.nd rfl (Or.inl rfl) (pe_call GT hr1 rfl T.take FT.kp bT .nil pass0 (pa_cons (pv 0) (pa_cons (pe_callB call_len_seq (by rfl) T.b_len PySem.boot_len (pa_cons (pv 3) pa_nil)) pa_nil))))
      (C8.pss_cut (ps_set (i := 5) scBe.nd rfl (Or.inl rfl) (pe_call GT hr1 rfl T.take FT.kp bT .nil pass0 (pa_cons (pv 0) (pa_cons pe_int pa_nil))))
      (C8.pss_cut (ps_if (pt_cmpR op_eq (pv 5) pe_int (nomark _)) (pss_one (ps_expr (pe_bm PySem.F.plainAttrs_list PySem.F.slot_list_insert PySem.F.type_list_insert mt_insert (pv 3) (pa_cons (pe_call GT hr1 rfl T.take FT.kp bT .nil pass0 (pa_cons (pv 0) (pa_cons (pe_op op_add (pe_callB call_len_seq (by rfl) T.b_len PySem.boot_len (pa_cons (pv 3) pa_nil)) pe_int) pa_nil))) (pa_cons pe_str pa_nil))))) pss_nil)
      (C8.pss_cut (ps_if (pt_cmpR op_eq (pv 5) pe_int (nomark _)) (pss_one (ps_expr (pe_bm PySem.F.plainAttrs_list PySem.F.slot_list_pop PySem.F.type_list_pop mt_popAt (pv 3) (pa_cons (pv 4) pa_nil)))) pss_nil)
      (C8.pss_cut (ps_if (pt_cmpR op_eq (pv 5) pe_int (nomark _)) (pss_one (ps_expr (pe_bm PySem.F.plainAttrs_list PySem.F.slot_list_insert PySem.F.type_list_insert mt_insert (pv 3) (pa_cons (pv 4) (pa_cons pe_str pa_nil))))) pss_nil)
      (C8.pss_cut (ps_if (pt_cmpR op_eq (pv 5) pe_int (nomark _)) (pss_one (ps_asg (pe_op op_add_str pe_str (pe_ix ix_list (pv 3) (pv 4) (fun _ _ => rfl))) (pg_sub (pv 3) (pv 4) set_list))) pss_nil)
      (C8.pss_cut (ps_if (pt_cmpR op_eq (pv 5) pe_int (nomark _)) (pss_one (ps_asg (pe_op op_add_str pe_str (pe_ix ix_list (pv 3) (pv 4) (fun _ _ => rfl))) (pg_sub (pv 3) (pv 4) set_list))) pss_nil)
      (C8.pss_cut (ps_if (pt_cmpR op_eq (pv 5) pe_int (nomark _)) (pss_one (ps_asg pe_str (pg_sub (pv 3) (pv 4) set_list))) pss_nil)
      (C8.pss_cut (ps_if (pt_cmpR op_eq (pv 5) pe_int (nomark _)) (pss_one (ps_asg (pe_op op_add_str (pe_ix ix_list (pv 3) (pv 4) (fun _ _ => rfl)) pe_str) (pg_sub (pv 3) (pv 4) set_list))) pss_nil)
      (C8.pss_cut (ps_if (pt_cmpR op_eq (pv 5) pe_int (nomark _)) (pss_one (ps_asg (pe_op op_add_str pe_str (pe_op op_mul_str pe_str pe_int)) (pg_sub (pv 3) (pv 4) set_list))) pss_nil)
      (C8.pss_cut (ps_if (pt_cmpR op_eq (pv 5) pe_int (nomark _)) (pss_one (ps_ret (pe_ix ix_list (pe_lst (pa_cons pe_str (pa_cons pe_str (pa_cons pe_str (pa_cons pe_str pa_nil))))) (pe_call GT hr1 rfl T.take FT.kp bT .nil pass0 (pa_cons (pv 0) (pa_cons pe_int pa_nil))) (fun _ _ => rfl)))) pss_nil)
      (C8.pss_cut (ps_if (pt_cmpR op_eq (pv 5) pe_int (nomark _)) (pss_one (ps_asg (pe_ix ix_list (pe_lst (pa_cons pe_str (pa_cons pe_str (pa_cons pe_str (pa_cons pe_str pa_nil))))) (pe_call GT hr1 rfl T.take FT.kp bT .nil pass0 (pa_cons (pv 0) (pa_cons pe_int pa_nil))) (fun _ _ => rfl)) (pg_sub (pv 3) pe_int set_list))) pss_nil)
      (pss_one (ps_ret (pe_join pe_str (pv 3))))))))))))))))), ?_⟩
    have e32 : (Str.ofString " " : Str) = S [32] := by decide +kernel
    have w0e : (Str.ofString "" : Str) = S [] := by decide +kernel
    have w7 : (Str.ofString "7" : Str) = S [55] := by decide +kernel
    have w00 : (Str.ofString "0" : Str) = S [48] := by decide +kernel
    have wpl : (Str.ofString "+" : Str) = S [43] := by decide +kernel
    have wm0 : (Str.ofString "-0" : Str) = S [45, 48] := by decide +kernel
    have wx : (Str.ofString "x" : Str) = S [120] := by decide +kernel
    have w10 : (Str.ofString "1" ++ Txt.mul (Str.ofString "0") 40 : Str) = S (49 :: List.replicate 40 48) := by decide +kernel
    have ll := lineT_len oq (by omega)
    have few := oq.few
    have q1 : 1 ≤ q.length := List.length_pos_iff.mpr oq.ne
    have big : ∀ n : Nat, n ≤ 50000 → n ≤ sizeLine := fun n h => by rw [sizeLine_eq]; omega
    refine ⟨_, rfl, ⟨_, rfl⟩, _, _, rfl, rfl, by decide +kernel, by rw [S_len]; exact big _ (by omega), fun W hW => ?_⟩
    rw [e32, split_S (List.cons_ne_nil _ _) (by decide), line_split (oq.w (by omega))]
    have s1 := same_new (o := .lst ((q.map S).map V.str)) hW
    have e1 : WdsAt (upd H W (.lst ((q.map S).map V.str))) W q := by unfold WdsAt; exact upd_same
    have B1 := B.same s1
    have nW := B.free hW
    generalize upd H W (.lst ((q.map S).map V.str)) = H1 at s1 e1 B1 ⊢
    have lq : ((q.map S).map V.str).length = q.length := by rw [List.length_map, List.length_map]
    unfold WdsAt at e1
    have fit : ∀ z : Int, z.natAbs ≤ 100 → z.natAbs < 2 ^ 8000 := fun z h => Nat.lt_of_le_of_lt h (by decide +kernel)
    refine ⟨_, rfl, _, rfl, W, _, rfl, .inl (SqL.of e1), b, l, _, rfl, B1, by rw [lq]; omega, fit _ (by rw [lq]; omega), fun at_ H2 a0 a1 B2 k2 => ?_⟩
    rw [lq] at a1
    obtain ⟨a, rfl⟩ : ∃ a : Nat, at_ = (a : Nat) := ⟨at_.toNat, by omega⟩
    have ha : a < q.length := by omega
    obtain ⟨xa, hxa⟩ : ∃ x, q[a]? = some x := ⟨_, List.getElem?_eq_getElem ha⟩
    have hwa : ((q.map S).map V.str)[a]? = some (V.str (S xa)) := by rw [List.getElem?_map, List.getElem?_map, hxa]; rfl
    have wa := oq.word hxa
    have e2 := (k2 W nW.1.symm).trans e1
    have S2 : SameB b H H2 := (SameB.of_same s1).trans (SameB.of k2)
    refine ⟨BeP j q b l W a H (.str (S (lineT q))) sd 0, ?_, ?_⟩
    · exact ⟨_, rfl, b, l, _, rfl, B2, by decide, by decide, fun way H3 w0 w1 B3 k3 => ⟨way, q, rfl, w0, w1, fun _ => rfl, (k3 W nW.1.symm).trans e2, oq.okw, B3, S2.trans (SameB.of k3)⟩⟩
    clear e1 e2 s1 B1 B2 S2 k2
    have done : ∀ (q3 : List (List Nat)) (kk way : Int) (H2 : Hp), OkW j q3 → 0 ≤ way → way < 10 → way < kk → Box H2 b l → SameB b H H2 → BeP j q b l W a H (.str (S (lineT q))) sd kk [some (.ref b), some (.str (S (lineT q))), some (.bl sd), some (.ref W), some (.int (a : Nat)), some (.int way)] (upd H2 W (.lst ((q3.map S).map V.str))) :=
      fun q3 kk way H2 o w0 w1 w2 B2 S2 => ⟨way, q3, rfl, w0, w1, fun h => by omega, upd_same, o, B2.at nW, fun c o n e => by rw [upd_ne (ne_of_none e hW)]; exact S2 c o n e⟩
    rintro σ' H3 ⟨way, q2, rfl, w0, w1, i2, e2, o2, B2, S2⟩
    refine ⟨BeP j q b l W a H (.str (S (lineT q))) sd 1, ?_, ?_⟩
    · refine ⟨_, rfl, rfl, _, rfl, ?_⟩
      by_cases c : way = 0
      rotate_left
      · exact if_f (decide_eq_false fun z => c (V.int.inj z)) ⟨way, q2, rfl, w0, w1, fun h => i2 (by omega), e2, o2, B2, S2⟩
      refine if_t (by rw [c]; exact decide_eq_true rfl) ?_
      obtain rfl := i2 (by omega)
      refine ⟨_, rfl, .inl ⟨rfl, _, SqL.of e2⟩, _, rfl, _, rfl, W, _, rfl, .inl (SqL.of e2), _, _, rfl, rfl, b, l, _, rfl, B2, by rw [lq]; omega, fit _ (by rw [lq]; omega), fun n H9 n0 n1 B9 k9 => ⟨W, _, n, _, rfl, rfl, (k9 W nW.1.symm).trans e2, small1000 (by rw [lq]; omega), n0, by rw [lq] at n1; omega, ?_⟩⟩
      rw [w0e, wds_put]
      exact done _ _ _ _ (oq.put n.toNat ⟨by decide, Nat.zero_le _, by decide⟩) w0 w1 (by omega) B9 (S2.trans (SameB.of k9))
    rintro σ' H4 ⟨way, q2, rfl, w0, w1, i2, e2, o2, B2, S2⟩
    refine ⟨BeP j q b l W a H (.str (S (lineT q))) sd 2, ?_, ?_⟩
    · refine ⟨_, rfl, rfl, _, rfl, ?_⟩
      by_cases c : way = 1
      rotate_left
      · exact if_f (decide_eq_false fun z => c (V.int.inj z)) ⟨way, q2, rfl, w0, w1, fun h => i2 (by omega), e2, o2, B2, S2⟩
      refine if_t (by rw [c]; exact decide_eq_true rfl) ?_
      obtain rfl := i2 (by omega)
      refine ⟨_, rfl, .inl ⟨rfl, _, SqL.of e2⟩, _, rfl, W, _, (a : Nat), a, _, rfl, rfl, e2, by omega, by omega, (ixN_seq (ixN_nat (by rw [lq]; omega))).1, hwa, ?_⟩
      rw [wds_del]
      exact done _ _ _ _ (oq.del a) w0 w1 (by omega) B2 S2
    rintro σ' H5 ⟨way, q2, rfl, w0, w1, i2, e2, o2, B2, S2⟩
    refine ⟨BeP j q b l W a H (.str (S (lineT q))) sd 3, ?_, ?_⟩
    · refine ⟨_, rfl, rfl, _, rfl, ?_⟩
      by_cases c : way = 2
      rotate_left
      · exact if_f (decide_eq_false fun z => c (V.int.inj z)) ⟨way, q2, rfl, w0, w1, fun h => i2 (by omega), e2, o2, B2, S2⟩
      refine if_t (by rw [c]; exact decide_eq_true rfl) ?_
      obtain rfl := i2 (by omega)
      refine ⟨_, rfl, .inl ⟨rfl, _, SqL.of e2⟩, _, rfl, W, _, (a : Nat), _, rfl, rfl, e2, small1000 (by rw [lq]; omega), by omega, by omega, ?_⟩
      rw [w7, wds_put]
      exact done _ _ _ _ (oq.put _ ⟨by decide, by show 1 ≤ 51 + j; omega, by decide⟩) w0 w1 (by omega) B2 S2
    rintro σ' H6 ⟨way, q2, rfl, w0, w1, i2, e2, o2, B2, S2⟩
    refine ⟨BeP j q b l W a H (.str (S (lineT q))) sd 4, ?_, ?_⟩
    · refine ⟨_, rfl, rfl, _, rfl, ?_⟩
      by_cases c : way = 3
      rotate_left
      · exact if_f (decide_eq_false fun z => c (V.int.inj z)) ⟨way, q2, rfl, w0, w1, fun h => i2 (by omega), e2, o2, B2, S2⟩
      refine if_t (by rw [c]; exact decide_eq_true rfl) ?_
      obtain rfl := i2 (by omega)
      refine ⟨_, rfl, _, rfl, W, _, (a : Nat), _, rfl, rfl, SqL.of e2, atI_nat hwa, _, _, rfl, rfl, ?_, _, rfl, _, rfl, W, _, (a : Nat), a, rfl, rfl, e2, ixN_nat (by rw [lq]; omega), ?_⟩
      · rw [w00, S_len, S_len]
        exact big _ (by show 1 + xa.length ≤ 50000; omega)
      rw [w00, S_cat, wds_set]
      refine done _ _ _ _ (oq.set a ⟨⟨fun z => ?_, fun z => ?_⟩, ?_, fun c z => ?_⟩) w0 w1 (by omega) B2 S2
      · simp only [List.mem_append, List.mem_singleton] at z
        rcases z with z | z
        · omega
        · exact wa.1.1 z
      · simp only [List.mem_append, List.mem_singleton] at z
        rcases z with z | z
        · omega
        · exact wa.1.2 z
      · rw [List.length_append]
        show 1 + xa.length ≤ 51 + j
        omega
      · simp only [List.mem_append, List.mem_singleton] at z
        rcases z with z | z
        · first | omega | exact wa.2.2 c z
        · first | omega | exact wa.2.2 c z
    rintro σ' H7 ⟨way, q2, rfl, w0, w1, i2, e2, o2, B2, S2⟩
    refine ⟨BeP j q b l W a H (.str (S (lineT q))) sd 5, ?_, ?_⟩
    · refine ⟨_, rfl, rfl, _, rfl, ?_⟩
      by_cases c : way = 4
      rotate_left
      · exact if_f (decide_eq_false fun z => c (V.int.inj z)) ⟨way, q2, rfl, w0, w1, fun h => i2 (by omega), e2, o2, B2, S2⟩
      refine if_t (by rw [c]; exact decide_eq_true rfl) ?_
      obtain rfl := i2 (by omega)
      refine ⟨_, rfl, _, rfl, W, _, (a : Nat), _, rfl, rfl, SqL.of e2, atI_nat hwa, _, _, rfl, rfl, ?_, _, rfl, _, rfl, W, _, (a : Nat), a, rfl, rfl, e2, ixN_nat (by rw [lq]; omega), ?_⟩
      · rw [wpl, S_len, S_len]
        exact big _ (by show 1 + xa.length ≤ 50000; omega)
      rw [wpl, S_cat, wds_set]
      refine done _ _ _ _ (oq.set a ⟨⟨fun z => ?_, fun z => ?_⟩, ?_, fun c z => ?_⟩) w0 w1 (by omega) B2 S2
      · simp only [List.mem_append, List.mem_singleton] at z
        rcases z with z | z
        · omega
        · exact wa.1.1 z
      · simp only [List.mem_append, List.mem_singleton] at z
        rcases z with z | z
        · omega
        · exact wa.1.2 z
      · rw [List.length_append]
        show 1 + xa.length ≤ 51 + j
        omega
      · simp only [List.mem_append, List.mem_singleton] at z
        rcases z with z | z
        · first | omega | exact wa.2.2 c z
        · first | omega | exact wa.2.2 c z
    rintro σ' H8 ⟨way, q2, rfl, w0, w1, i2, e2, o2, B2, S2⟩
    refine ⟨BeP j q b l W a H (.str (S (lineT q))) sd 6, ?_, ?_⟩
    · refine ⟨_, rfl, rfl, _, rfl, ?_⟩
      by_cases c : way = 5
      rotate_left
      · exact if_f (decide_eq_false fun z => c (V.int.inj z)) ⟨way, q2, rfl, w0, w1, fun h => i2 (by omega), e2, o2, B2, S2⟩
      refine if_t (by rw [c]; exact decide_eq_true rfl) ?_
      obtain rfl := i2 (by omega)
      refine ⟨_, rfl, _, rfl, W, _, (a : Nat), a, rfl, rfl, e2, ixN_nat (by rw [lq]; omega), ?_⟩
      rw [wm0, wds_set]
      exact done _ _ _ _ (oq.set a ⟨by decide +kernel, by show 2 ≤ 51 + j; omega, by decide +kernel⟩) w0 w1 (by omega) B2 S2
    rintro σ' H9 ⟨way, q2, rfl, w0, w1, i2, e2, o2, B2, S2⟩
    refine ⟨BeP j q b l W a H (.str (S (lineT q))) sd 7, ?_, ?_⟩
    · refine ⟨_, rfl, rfl, _, rfl, ?_⟩
      by_cases c : way = 6
      rotate_left
      · exact if_f (decide_eq_false fun z => c (V.int.inj z)) ⟨way, q2, rfl, w0, w1, fun h => i2 (by omega), e2, o2, B2, S2⟩
      refine if_t (by rw [c]; exact decide_eq_true rfl) ?_
      obtain rfl := i2 (by omega)
      refine ⟨_, rfl, _, rfl, W, _, (a : Nat), _, rfl, rfl, SqL.of e2, atI_nat hwa, _, _, rfl, rfl, ?_, _, rfl, _, rfl, W, _, (a : Nat), a, rfl, rfl, e2, ixN_nat (by rw [lq]; omega), ?_⟩
      · rw [wx, S_len, S_len]
        exact big _ (by show xa.length + 1 ≤ 50000; omega)
      rw [wx, S_cat, wds_set]
      refine done _ _ _ _ (oq.set a ⟨⟨fun z => ?_, fun z => ?_⟩, ?_, fun c z => ?_⟩) w0 w1 (by omega) B2 S2
      · simp only [List.mem_append, List.mem_singleton] at z
        rcases z with z | z
        · exact wa.1.1 z
        · omega
      · simp only [List.mem_append, List.mem_singleton] at z
        rcases z with z | z
        · exact wa.1.2 z
        · omega
      · rw [List.length_append]
        show xa.length + 1 ≤ 51 + j
        omega
      · simp only [List.mem_append, List.mem_singleton] at z
        rcases z with z | z
        · first | omega | exact wa.2.2 c z
        · first | omega | exact wa.2.2 c z
    rintro σ' H10 ⟨way, q2, rfl, w0, w1, i2, e2, o2, B2, S2⟩
    refine ⟨BeP j q b l W a H (.str (S (lineT q))) sd 8, ?_, ?_⟩
    · refine ⟨_, rfl, rfl, _, rfl, ?_⟩
      by_cases c : way = 7
      rotate_left
      · exact if_f (decide_eq_false fun z => c (V.int.inj z)) ⟨way, q2, rfl, w0, w1, fun h => i2 (by omega), e2, o2, B2, S2⟩
      refine if_t (by rw [c]; exact decide_eq_true rfl) ?_
      obtain rfl := i2 (by omega)
      refine ⟨_, _, rfl, rfl, by decide +kernel, by decide, by decide, _, _, rfl, rfl, by decide +kernel, _, rfl, _, rfl, W, _, (a : Nat), a, rfl, rfl, e2, ixN_nat (by rw [lq]; omega), ?_⟩
      rw [w10, wds_set]
      exact done _ _ _ _ (oq.set a ⟨by decide +kernel, by show 41 ≤ 51 + j; omega, by decide +kernel⟩) w0 w1 (by omega) B2 S2
    rintro σ' H11 ⟨way, q2, rfl, w0, w1, i2, e2, o2, B2, S2⟩
    refine ⟨BeP j q b l W a H (.str (S (lineT q))) sd 9, ?_, ?_⟩
    · refine ⟨_, rfl, rfl, _, rfl, ?_⟩
      by_cases c : way = 8
      rotate_left
      · exact if_f (decide_eq_false fun z => c (V.int.inj z)) ⟨way, q2, rfl, w0, w1, fun h => i2 (by omega), e2, o2, B2, S2⟩
      refine if_t (by rw [c]; exact decide_eq_true rfl) ?_
      obtain rfl := i2 (by omega)
      refine ⟨by show 4 ≤ sizeLine; decide, fun L hL => ?_⟩
      have sL := same_new (o := .lst [V.str (Str.ofString ""), V.str (S [32]), V.str (Str.ofString "wall zz 1 1"), V.str (Str.ofString "trial 0 1 missed")]) hL
      have eL : upd H11 L (.lst [V.str (Str.ofString ""), V.str (S [32]), V.str (Str.ofString "wall zz 1 1"), V.str (Str.ofString "trial 0 1 missed")]) L = some (.lst [V.str (Str.ofString ""), V.str (S [32]), V.str (Str.ofString "wall zz 1 1"), V.str (Str.ofString "trial 0 1 missed")]) := upd_same
      have BL := B2.same sL
      have nLb := (B2.free hL).1
      have SL := S2.trans (SameB.of_same sL)
      generalize upd H11 L (.lst [V.str (Str.ofString ""), V.str (S [32]), V.str (Str.ofString "wall zz 1 1"), V.str (Str.ofString "trial 0 1 missed")]) = H50 at sL eL BL SL ⊢
      refine ⟨_, rfl, b, l, _, rfl, BL, by decide, by decide, fun n H9 n0 n1 B9 k9 => ?_⟩
      obtain ⟨q9, o9, h9⟩ : ∃ q9 : List (List Nat), LnOk (j + 1) q9 ∧ atI [V.str (Str.ofString ""), V.str (S [32]), V.str (Str.ofString "wall zz 1 1"), V.str (Str.ofString "trial 0 1 missed")] n = some (.str (S (lineT q9))) := by
        have cn : n = 0 ∨ n = 1 ∨ n = 2 ∨ n = 3 := by omega
        have ok : ∀ q9 : List (List Nat), q9 ≠ [] → (∀ p ∈ q9, 32 ∉ p ∧ 10 ∉ p) → (∀ p ∈ q9, p.length ≤ 50) → q9.length ≤ 6 → (∀ p ∈ q9, ∀ c ∈ p, c < 128) → LnOk (j + 1) q9 := fun q9 h1 h2 h3 h4 h5 => ⟨h1, h2, fun p hp => Nat.le_trans (h3 p hp) (by omega), by omega, h5⟩
        rcases cn with rfl | rfl | rfl | rfl
        · exact ⟨[[]], ok _ (by decide) (by decide) (by decide) (by decide) (by decide), by decide +kernel⟩
        · exact ⟨[[], []], ok _ (by decide) (by decide) (by decide) (by decide) (by decide), by decide +kernel⟩
        · exact ⟨[codes "wall", codes "zz", codes "1", codes "1"], ok _ (by decide) (by decide) (by decide) (by decide) (by decide), by decide +kernel⟩
        · exact ⟨[codes "trial", codes "0", codes "1", codes "missed"], ok _ (by decide) (by decide) (by decide) (by decide) (by decide), by decide +kernel⟩
      refine ⟨L, _, n, _, rfl, rfl, SqL.of ((k9 L nLb.symm).trans eL), h9, ?_⟩
      exact k q9 H9 o9 B9 (SL.trans (SameB.of k9))
    rintro σ' H12 ⟨way, q2, rfl, w0, w1, i2, e2, o2, B2, S2⟩
    refine ⟨BeP j q b l W a H (.str (S (lineT q))) sd 10, ?_, ?_⟩
    · refine ⟨_, rfl, rfl, _, rfl, ?_⟩
      by_cases c : way = 9
      rotate_left
      · exact if_f (decide_eq_false fun z => c (V.int.inj z)) ⟨way, q2, rfl, w0, w1, fun h => i2 (by omega), e2, o2, B2, S2⟩
      refine if_t (by rw [c]; exact decide_eq_true rfl) ?_
      obtain rfl := i2 (by omega)
      refine ⟨by show 4 ≤ sizeLine; decide, fun L hL => ?_⟩
      have sL := same_new (o := .lst [V.str (Str.ofString "Wall"), V.str (Str.ofString "walls"), V.str (Str.ofString "trials"), V.str (Str.ofString "lnk")]) hL
      have eL : upd H12 L (.lst [V.str (Str.ofString "Wall"), V.str (Str.ofString "walls"), V.str (Str.ofString "trials"), V.str (Str.ofString "lnk")]) L = some (.lst [V.str (Str.ofString "Wall"), V.str (Str.ofString "walls"), V.str (Str.ofString "trials"), V.str (Str.ofString "lnk")]) := upd_same
      have BL := B2.same sL
      have nLb := (B2.free hL).1
      have SL := S2.trans (SameB.of_same sL)
      have e3 := sL _ _ e2
      generalize upd H12 L (.lst [V.str (Str.ofString "Wall"), V.str (Str.ofString "walls"), V.str (Str.ofString "trials"), V.str (Str.ofString "lnk")]) = H50 at sL eL BL SL e3 ⊢
      refine ⟨_, rfl, b, l, _, rfl, BL, by decide, by decide, fun n H9 n0 n1 B9 k9 => ?_⟩
      obtain ⟨x9, o9, h9⟩ : ∃ x9 : List Nat, WdOk j x9 ∧ atI [V.str (Str.ofString "Wall"), V.str (Str.ofString "walls"), V.str (Str.ofString "trials"), V.str (Str.ofString "lnk")] n = some (.str (S x9)) := by
        have cn : n = 0 ∨ n = 1 ∨ n = 2 ∨ n = 3 := by omega
        have ok : ∀ x9 : List Nat, (32 ∉ x9 ∧ 10 ∉ x9) → x9.length ≤ 50 → (∀ c ∈ x9, c < 128) → WdOk j x9 := fun q9 h1 h2 h3 => ⟨h1, by omega, h3⟩
        rcases cn with rfl | rfl | rfl | rfl
        · exact ⟨codes "Wall", ok _ (by decide) (by decide) (by decide), by decide +kernel⟩
        · exact ⟨codes "walls", ok _ (by decide) (by decide) (by decide), by decide +kernel⟩
        · exact ⟨codes "trials", ok _ (by decide) (by decide) (by decide), by decide +kernel⟩
        · exact ⟨codes "lnk", ok _ (by decide) (by decide) (by decide), by decide +kernel⟩
      refine ⟨L, _, n, _, rfl, rfl, SqL.of ((k9 L nLb.symm).trans eL), h9, _, rfl, W, _, 0, 0, rfl, rfl, (k9 W nW.1.symm).trans e3, ixN_nat (j := 0) (by rw [lq]; omega), ?_⟩
      rw [wds_set]
      exact done _ _ _ _ (oq.set 0 o9) w0 w1 (by omega) B9 (SL.trans (SameB.of k9))
    rintro σ' H20 ⟨way, q2, rfl, w0, w1, i2, e2, o2, B2, S2⟩
    obtain ⟨q5, o5, h5⟩ := o2.line
    refine ⟨⟨_, rfl⟩, _, rfl, _, W, q2.map S, rfl, rfl, .inl (SqL.of e2), ?_, ?_⟩
    · have w := words_sum2 o2.ln
      have f2 := o2.few
      have w : ((q2.map S).map (·.length)).sum ≤ 5000 := Nat.le_trans w (Nat.le_trans (Nat.mul_le_mul (show 51 + j ≤ 66 by omega) (show q2.length ≤ 12 by omega)) (by decide))
      rw [List.length_map, S_len]
      show _ + q2.length * 1 ≤ 16777216
      omega
    · rw [join_S]
      have z := k q5 H20 o5 B2 S2
      rw [h5] at z
      exact z
set_option maxHeartbeats 0 in
theorem ok_fb {f fTl fSl : Addr} {fd fdTl fdSl : FuncData} (F : Fun K "_law_first_bad" "_law_first_bad" sFb f fd) (GTl : FnOk P w K mg base CX0 2 fTl fdTl ["_law_words"] spTl) (FTl : Fun K "_law_trial_line" "_law_trial_line" sTl fTl fdTl) (bTl : Binds K fdTl ["_law_words"] [])
    (GSl : FnOk P w K mg base CX0 2 fSl fdSl ["_law_words", "_law_linked"] spSl) (FSl : Fun K "_law_site_line" "_law_site_line" sSl fSl fdSl) (bSl : Binds K fdSl ["_law_words", "_law_linked"] []) (T : FbTxt mg fTl fSl) : FnOk P w K mg base CX0 3 f fd ["_law_lines", "_law_sited"] spFb := by
  refine F.ok scFb (fun vs H Q E h => ?_) (fun cdv A outer s H vs Q E hr h => ?_)
  · obtain ⟨p, sd, pss, rfl, _⟩ := h
    rfl
  · obtain ⟨p, sd, pss, rfl, hp, ok, h60, k⟩ := h
    have hr2 : Room 2 _ := hr
    refine ⟨_, (pss_cons (ps_set (i := 2) scFb.nd rfl (Or.inl rfl) pe_bl)
      (pss_cons (ps_for PassesOwn.never rfl (pi_range1 (by rfl) T.b_range (pa_cons (pe_callB call_len_seq (by rfl) T.b_len PySem.boot_len (pa_cons (pv 0) pa_nil)) pa_nil)) (pg_name (i := 3) scFb.nd rfl (Or.inl rfl)) (pss_cons (ps_set (i := 4) scFb.nd rfl (Or.inl rfl) (pe_split (pe_ix ix_list (pv 0) (pv 3) (fun _ _ => rfl)) pe_str))
      (C8.pss_cut (ps_if (PW.pt (pw_and (pt_not (pt_val (pv 1))) (pw_and1 (pt_not (pt_val (pe_call GTl hr2 rfl T.tl FTl.kp bTl .nil pass0 (pa_cons (pv 4) pa_nil))))))) (pss_one (ps_ret (pe_op op_add (pv 3) pe_int))) pss_nil)
      (C8.pss_cut (ps_if (PW.pt (pw_and (pt_val (pv 1)) (pw_and1 (pt_not (pt_val (pe_call GSl hr2 rfl T.sl FSl.kp bSl .nil pass0 (pa_cons (pv 4) (pa_cons (pv 2) pa_nil)))))))) (pss_one (ps_ret (pe_op op_add (pv 3) pe_int))) pss_nil)
      (pss_one (ps_set (i := 2) scFb.nd rfl (Or.inl rfl) (pe_or (pv 2) (pe_one (pe_cmpR op_eq (pe_ix ix_list (pv 4) pe_int (fun _ _ => rfl)) pe_str (nomark _))))))))))
      (pss_one (ps_ret pe_int)))), ?_⟩
    have e32 : (Str.ofString " " : Str) = S [32] := by decide +kernel
    have ek : (Str.ofString "link" : Str) = S (codes "link") := codes_str _
    have big : ∀ n : Nat, n ≤ 50000 → n ≤ sizeLine := fun n h => by rw [sizeLine_eq]; omega
    have hp : H p = some (.lst (lnV pss)) := hp
    have lv : (lnV pss).length = pss.length := by unfold lnV; rw [List.length_map, List.length_map, List.length_map]
    refine ⟨_, rfl, p, _, rfl, .inl (SqL.of hp), _, rfl, by rw [lv]; omega, by rw [lv]; omega, ?_⟩
    refine for_it (walk_range (lo := 0) (n := (((lnV pss).length : Nat) : Int).toNat)) (fun i σ' H' => ∃ (lk : Bool) (v3 v4 : Option V), σ' = [some (.ref p), some (.bl sd), some (.bl lk), v3, v4] ∧ Same H H' ∧ firstB sd 0 false pss = firstB sd i lk (pss.drop i)) ⟨false, _, _, rfl, same_rfl, by rw [List.drop_zero]⟩ (fun _ _ _ _ _ => trivial) ?_ ?_
    · rintro i x σ' H3 H4 hi ⟨lk, v3, v4, rfl, S4, rd⟩ ⟨rfl, rfl⟩
      have hip : i < pss.length := by rw [lv] at hi; omega
      obtain ⟨q, hq⟩ : ∃ q, pss[i]? = some q := ⟨_, List.getElem?_eq_getElem hip⟩
      have qo := ok q (List.mem_of_getElem? hq)
      have hqv : (lnV pss)[i]? = some (.str (S (lineT q))) := by unfold lnV; rw [List.getElem?_map, List.getElem?_map, List.getElem?_map, hq]; rfl
      have ll := line_len qo
      have ed : pss.drop i = q :: pss.drop (i + 1) := by
        rw [List.drop_eq_getElem_cons hip]
        rw [List.getElem?_eq_getElem hip] at hq
        rw [Option.some.inj hq]
      rw [ed] at rd
      have rd : firstB sd 0 false pss = if (if sd = true then siteB q lk else trialB q) = true then firstB sd (i + 1) (lk || decide (q[0]? = some (codes "link"))) (pss.drop (i + 1)) else i + 1 := rd
      refine ⟨_, rfl, _, rfl, p, _, (0 + (i : Int)), _, rfl, rfl, SqL.of (S4 _ _ hp), by rw [Int.zero_add]; exact atI_nat hqv, ⟨_, rfl⟩, _, _, rfl, rfl, by decide +kernel, by rw [S_len]; exact big _ (by omega), fun W hW => ?_⟩
      rw [e32, split_S (List.cons_ne_nil _ _) (by decide), line_split qo]
      have s5 := same_new (o := .lst ((q.map S).map V.str)) hW
      have e5 : WdsAt (upd H4 W (.lst ((q.map S).map V.str))) W q := by unfold WdsAt; exact upd_same
      have S5 := same_tr S4 s5
      generalize upd H4 W (.lst ((q.map S).map V.str)) = H5 at s5 e5 S5 ⊢
      have ei : (0 : Int) + (i : Int) + 1 = ((i + 1 : Nat) : Int) := by omega
      refine ⟨fun σ' H' => σ' = [some (.ref p), some (.bl sd), some (.bl lk), some (.int (0 + (i : Int))), some (.ref W)] ∧ Same H H' ∧ WdsAt H' W q ∧ (sd = false → trialB q = true), ?_, ?_⟩
      · refine ⟨_, rfl, sd, rfl, ?_⟩
        cases sd with
        | true => exact if_f rfl ⟨rfl, S5, e5, fun z => Bool.noConfusion z⟩
        | false =>
          refine if_t rfl ⟨_, rfl, W, q, rfl, e5, qo, fun H6 S6 => ⟨_, rfl, ?_⟩⟩
          cases ct : trialB q with
          | true => exact if_f rfl ⟨rfl, same_tr S5 S6, S6 _ _ e5, fun _ => rfl⟩
          | false =>
            refine if_t rfl ⟨_, rfl, _, _, rfl, rfl, ?_⟩
            have rd := rd.trans (if_neg (by rw [if_neg (by decide), ct]; decide))
            have z := k H6 (same_tr S5 S6)
            rw [rd, ← ei] at z
            exact z
      rintro σ' H6 ⟨rfl, S6, e6, c6⟩
      refine ⟨fun σ' H' => σ' = [some (.ref p), some (.bl sd), some (.bl lk), some (.int (0 + (i : Int))), some (.ref W)] ∧ Same H H' ∧ WdsAt H' W q ∧ (if sd = true then siteB q lk else trialB q) = true, ?_, ?_⟩
      · refine ⟨_, rfl, sd, rfl, ?_⟩
        cases sd with
        | false => exact if_f rfl ⟨rfl, S6, e6, c6 rfl⟩
        | true =>
          refine if_t rfl ⟨_, rfl, _, rfl, W, q, lk, rfl, e6, qo, fun H7 S7 => ⟨_, rfl, ?_⟩⟩
          cases ct : siteB q lk with
          | true => exact if_f rfl ⟨rfl, same_tr S6 S7, S7 _ _ e6, rfl⟩
          | false =>
            refine if_t rfl ⟨_, rfl, _, _, rfl, rfl, ?_⟩
            have rd := rd.trans (if_neg (by rw [if_pos rfl, ct]; decide))
            have z := k H7 (same_tr S6 S7)
            rw [rd, ← ei] at z
            exact z
      rintro σ' H7 ⟨rfl, S7, e7, c7⟩
      rw [if_pos c7] at rd
      obtain ⟨x0, r0, er⟩ := List.exists_cons_of_ne_nil qo.ne
      have h0 : q[0]? = some x0 := by rw [er]; rfl
      have fin : ∀ lk2 : Bool, lk2 = (lk || decide (q[0]? = some (codes "link"))) → ∃ (lk' : Bool) (v3' v4' : Option V), ([some (.ref p), some (.bl sd), some (.bl lk2), some (.int (0 + (i : Int))), some (.ref W)] : L2.St) = [some (.ref p), some (.bl sd), some (.bl lk'), v3', v4'] ∧ Same H H7 ∧ firstB sd 0 false pss = firstB sd (i + 1) lk' (pss.drop (i + 1)) := fun lk2 e => ⟨lk2, _, _, rfl, S7, by rw [e]; exact rd⟩
      refine ⟨_, rfl, lk, rfl, ?_⟩
      cases lk with
      | true => exact if_t rfl (fin true rfl)
      | false =>
        refine if_f rfl ⟨_, rfl, W, _, 0, _, rfl, rfl, SqL.of e7, wdsL q 0 h0, rfl, ?_⟩
        have eb : decide (V.str (S x0) = V.str (Str.ofString "link")) = (false || decide (q[0]? = some (codes "link"))) := by
          rw [Bool.false_or, ek, h0]
          exact decide_eq_decide.mpr ⟨fun z => congrArg some (S_inj (V.str.inj z)), fun z => congrArg (fun x => V.str (S x)) (Option.some.inj z)⟩
        exact fin _ eb
    · rintro σ' H4 ⟨lk, v3, v4, rfl, S4, rd⟩
      have z := k H4 S4
      rw [lv, show ((pss.length : Nat) : Int).toNat = pss.length from rfl, List.drop_length] at rd
      rw [rd] at z
      exact z
end
end Law

/-! What comes of a text. -/
namespace Law
open PySem PySem.Spec PyProof.Rows L2 SX NumText ItSeq Sup
abbrev sOut : Stmt := top 56
theorem places_le (m : Nat) : ∀ ws : List Wal, (∀ w ∈ ws, w.many ≤ m) → places ws ≤ m * ws.length
  | [], _ => Nat.zero_le _
  | w :: ws, h => by
    have ih := places_le m ws fun x hx => h x (List.mem_cons_of_mem _ hx)
    have := h w List.mem_cons_self
    show w.many + places ws ≤ m * (ws.length + 1)
    rw [Nat.mul_succ]
    omega
theorem Big.sz {x : Int} (h : Big x) : Sz x := Nat.lt_of_lt_of_le h (by decide +kernel)
theorem wall_fit {j : Nat} {q : List (List Nat)} (h : LnOk j q) (hj : j ≤ 5) (hw : wallB q = true) : WFit (wallV q) ∧ (wallV q).many ≤ 11 := by
  obtain ⟨p0, p1, p2, p3, r, rfl, n2, n3, nr⟩ := words4 hw
  have m1 : p1 ∈ p0 :: p1 :: p2 :: p3 :: r := List.mem_cons_of_mem _ List.mem_cons_self
  have few := h.few
  have fr : r.length ≤ 7 := by have : r.length + 1 + 1 + 1 + 1 ≤ 6 + j := few; omega
  refine ⟨⟨⟨?_, fun c hc => ?_⟩, (num_int n2).2.2.sz, (num_int n3).2.2.sz, fun x hx => ?_⟩, ?_⟩
  · show (S p1).length ≤ 60
    rw [S_len]
    have := h.ln p1 m1
    omega
  · have hc : c ∈ p1 := by simpa [wallV, S] using hc
    have := h.cd p1 m1 c hc
    omega
  · obtain ⟨y, hy, rfl⟩ := List.mem_map.mp (show x ∈ r.map valI from hx)
    exact (num_int (nr y hy)).2.2.sz
  · show (r.map valI).length + 1 ≤ 11
    rw [List.length_map]
    omega
theorem link_fit {q : List (List Nat)} (hw : linkB q = true) : LFit (linkV q) := by
  obtain ⟨p0, p1, p2, p3, p4, rfl, nr⟩ := words5 hw
  exact ⟨(num_int (nr p1 (by simp))).2.2.sz, (num_int (nr p2 (by simp))).2.2.sz⟩
theorem read_fit {j : Nat} (hj : j ≤ 5) : ∀ {k : Nat} {ws0 : List Wal} {ls0 : List Lnk} {pss : List (List (List Nat))} {ws : List Wal} {ls : List Lnk}, readS k ws0 ls0 pss = .inr (ws, ls) → (∀ q ∈ pss, LnOk j q) → (∀ w ∈ ws0, WFit w ∧ w.many ≤ 11) → (∀ l ∈ ls0, LFit l) →
    (∀ w ∈ ws, WFit w ∧ w.many ≤ 11) ∧ (∀ l ∈ ls, LFit l) ∧ ws.length + ls.length ≤ ws0.length + ls0.length + pss.length
  | _, ws0, ls0, [], ws, ls, h, _, h1, h2 => by
    unfold readS at h
    cases h
    exact ⟨h1, h2, Nat.le_refl _⟩
  | k, ws0, ls0, q :: r, ws, ls, h, ok, h1, h2 => by
    unfold readS at h
    split at h
    · rename_i c
      rw [Bool.and_eq_true] at c
      obtain ⟨a, b, d⟩ := read_fit hj h (fun x hx => ok x (List.mem_cons_of_mem _ hx)) (fun w hw => by
        rcases List.mem_append.mp hw with hw | hw
        · exact h1 w hw
        · rw [List.mem_singleton.mp hw]
          exact wall_fit (ok q List.mem_cons_self) hj c.1) h2
      have e1 : (ws0 ++ [wallV q]).length = ws0.length + 1 := by simp
      have e2 : (q :: r).length = r.length + 1 := rfl
      exact ⟨a, b, by omega⟩
    · split at h
      · rename_i c
        obtain ⟨a, b, d⟩ := read_fit hj h (fun x hx => ok x (List.mem_cons_of_mem _ hx)) h1 (fun w hw => by
          rcases List.mem_append.mp hw with hw | hw
          · exact h2 w hw
          · rw [List.mem_singleton.mp hw]
            exact link_fit c)
        have e1 : (ls0 ++ [linkV q]).length = ls0.length + 1 := by simp
        have e2 : (q :: r).length = r.length + 1 := rfl
        exact ⟨a, b, by omega⟩
      · cases h
def spOut : Sp := fun vs H Q _ => ∃ (pss : List (List (List Nat))) (sd : Bool), vs = [.str (S (textT pss)), .bl sd] ∧ (pss = [] ∨ textT pss ≠ []) ∧ (∀ q ∈ pss, LnOk 5 q) ∧ pss.length ≤ 50 ∧ ∀ H', Same H H' → Q (.int (outN sd pss : Nat)) H'
structure OuTxt (mg : Str → Option Value) (fRd fRt LE : Addr) : Prop where
  rd : mg "read_site" = some (.ref fRd)
  rt : mg "read_trials" = some (.ref fRt)
  le : mg "LadderError" = some (.ref LE)
/-- no other error is a BadLine, all are LadderErrors -/
structure ApartQ (K : PySem.W.Frag) (C : Errs) (CL LE : Addr) : Prop where
  n : PySem.W.exmOne K (.ref C.N) (.ref CL) = some false
  t : PySem.W.exmOne K (.ref C.T) (.ref CL) = some false
  b : PySem.W.exmOne K (.ref C.B) (.ref CL) = some false
  m : PySem.W.exmOne K (.ref C.M) (.ref CL) = some false
  p : PySem.W.exmOne K (.ref C.P) (.ref CL) = some false
  s : PySem.W.exmOne K (.ref C.S) (.ref CL) = some false
  n' : PySem.W.exmOne K (.ref C.N) (.ref LE) = some true
  t' : PySem.W.exmOne K (.ref C.T) (.ref LE) = some true
  b' : PySem.W.exmOne K (.ref C.B) (.ref LE) = some true
  m' : PySem.W.exmOne K (.ref C.M) (.ref LE) = some true
  p' : PySem.W.exmOne K (.ref C.P) (.ref LE) = some true
  s' : PySem.W.exmOne K (.ref C.S) (.ref LE) = some true
section
variable {P : Program} {w : World} {K : PySem.W.Frag} {mg : Str → Option Value} {base : Heap} {C : Errs} {CL CS LE : Addr}
theorem scOut : FnScope ["_law_text", "_law_sited", "e"] ["_law_text", "_law_sited"] (defScope sOut) := ⟨rfl, rfl, rfl, by decide +kernel, rfl, by decide +kernel, by decide +kernel⟩
set_option maxHeartbeats 0 in
theorem ok_out {f fRd fRt : Addr} {fd fdRd fdRt : FuncData} (F : Fun K "_law_outcome" "_law_outcome" sOut f fd) (RL : ErrOk P w K mg base "BadLine" CL "line" okInt)
    (GRd : FnOk P w K mg base (L2.CX P w) 9 fRd fdRd ["text"] (spRd K C CL CS)) (FRd : Fun K "read_site" "read_site" sRd fRd fdRd) (bRd : Binds K fdRd ["text"] [])
    (GRt : FnOk P w K mg base (L2.CX P w) 4 fRt fdRt ["text"] (spRt CL)) (FRt : Fun K "read_trials" "read_trials" sRt fRt fdRt) (bRt : Binds K fdRt ["text"] [])
    (AP : ApartQ K C CL LE) (T : OuTxt mg fRd fRt LE) : FnOk P w K mg base CX0 10 f fd ["_law_text", "_law_sited"] spOut := by
  refine F.ok scOut (fun vs H Q E h => ?_) (fun cdv A outer s H vs Q E hr h => ?_)
  · obtain ⟨pss, sd, rfl, _⟩ := h
    rfl
  · obtain ⟨pss, sd, rfl, nt, ok, r50, k⟩ := h
    have hr9 : Room 9 _ := hr
    have hr4 : Room 4 _ := hr.mono (by decide)
    refine ⟨_, (pss_cons (TryM.ps_try_asM (l := [((Value.ref CL : Value), some 2, (fun a cls d => tRet (tXf a cls d CL "line" (tVar 2)) : TryM.Su)), ((Value.ref LE : Value), none, (fun a cls d => tRet (tC (.int 0)) : TryM.Su))]) (tb := fun W => tIfS (tB (tVar 1)) (tDrop (tCallS (spRd K C CL CS) (WE W) (tCons (tVar 0) tNil))) (tDrop (tCallS (spRt CL) (WE W) (tCons (tVar 0) tNil)))) (Wout := fun _ _ _ _ => False) rfl rfl scOut.nd takes0
        (fun W pn xe tk _ => (pss_one (ps_if (pt_val (pv 1)) (pss_one (ps_expr (by exact (pe_callS GRd hr9 rfl T.rd FRd.kp bRd (fun σ => passAt tk σ) (by exact (pa_cons (pv 0) pa_nil)))))) (pss_one (ps_expr (by exact (pe_callS GRt hr4 rfl T.rt FRt.kp bRt (fun σ => passAt tk σ) (by exact (pa_cons (pv 0) pa_nil)))))))))
        (.cons (i := 2) rfl rfl ⟨rfl, by decide, Or.inl RL.g⟩ (fun a oe cls d pn hz hf => pss_one (ps_ret (by exact (pe_xf RL.xf RL.no hz hf (pv 2))))) (.bare ⟨rfl, by decide, Or.inl T.le⟩ (fun a oe cls d pn hz hf => pss_one (ps_ret pe_int)) .nil)))
      (pss_one (ps_ret pe_int))), ?_⟩
    have okw : ∀ q ∈ pss, WOk q := fun q hq => (ok q hq).w (by decide)
    have bad : ∀ {cls : Value} {σ : L2.St} {H1 : Hp} {d : Option Addr} {D : Ends}, Same H H1 → outN sd pss = 0 → D.rt = Q → PySem.W.exmOne K cls (.ref CL) = some false → PySem.W.exmOne K cls (.ref LE) = some true →
        TryM.wAsM K (fun _ _ _ _ => False) D [((Value.ref CL : Value), some 2, (fun a cls d => tRet (tXf a cls d CL "line" (tVar 2)) : TryM.Su)), ((Value.ref LE : Value), none, (fun a cls d => tRet (tC (.int 0)) : TryM.Su))] cls d σ H1 := fun {cls σ H1 d D} S1 e0 eD e1 e2 =>
      ⟨false, e1, fun z => Bool.noConfusion z, fun _ => ⟨true, e2, fun _ q ha => by
        have z := k H1 S1
        rw [e0, ← eD] at z
        exact z, fun z => Bool.noConfusion z⟩⟩
    refine ⟨_, rfl, sd, rfl, ?_⟩
    cases sd with
    | false =>
      refine if_f rfl ⟨_, rfl, pss, rfl, nt, okw, by omega, fun n en H1 d' S1 hd => ?_, fun en p H1 S1 => ?_⟩
      · refine ⟨true, RL.te, fun _ a ha => ?_, fun z => Bool.noConfusion z⟩
        refine ⟨_, rfl, rfl, rfl, d', _, _, rfl, upd_same, rfl, ?_⟩
        have e0 : outN false pss = n := by unfold outN; rw [if_neg (by decide), en]; rfl
        have z := k _ (same_tr S1 (same_new (o := .xd [("line", .int (n : Nat))]) hd))
        rw [e0] at z
        exact z
      · have e0 : outN false pss = 0 := by unfold outN; rw [if_neg (by decide), en]; rfl
        have z := k _ S1
        rw [e0] at z
        exact z
    | true =>
      refine if_t rfl ⟨_, rfl, pss, rfl, nt, okw, by omega, fun n en H1 d' S1 hd => ?_, fun ws ls er => ?_⟩
      · refine ⟨true, RL.te, fun _ a ha => ?_, fun z => Bool.noConfusion z⟩
        refine ⟨_, rfl, rfl, rfl, d', _, _, rfl, upd_same, rfl, ?_⟩
        have e0 : outN true pss = n := by unfold outN; rw [if_pos rfl, en]
        have z := k _ (same_tr S1 (same_new (o := .xd [("line", .int (n : Nat))]) hd))
        rw [e0] at z
        exact z
      · have e0 : outN true pss = 0 := by unfold outN; rw [if_pos rfl, er]
        obtain ⟨fW, fL, fn⟩ := read_fit (by decide) er ok (fun _ h => nomatch h) (fun _ h => nomatch h)
        have fn : ws.length + ls.length ≤ 50 := by
          have : ([] : List Wal).length + ([] : List Lnk).length + pss.length = pss.length := by simp
          omega
        have pl := places_le 11 ws fun w hw => (fW w hw).2
        refine { l1 := by omega, l2 := by omega, l3 := by omega, fW := fun w hw => (fW w hw).1, fL := fL, e1 := fun b hb => ?_, e2 := fun hn c H1 d' S1 hd => ?_, e3 := fun hn c z hz H1 d' S1 hd => ?_, e4 := fun hn c hl hx H1 c2 d' ring S1 hc2 ro hd => ?_, ok := fun hn c hl hx r H1 nr S1 hS => ?_ }
        · cases b with
          | name y => exact fun H1 d' S1 hd => bad (same_tr S1 (same_new hd)) e0 rfl AP.n AP.n'
          | taken y => exact fun H1 d' S1 hd => bad (same_tr S1 (same_new hd)) e0 rfl AP.t AP.t'
          | num x => exact fun H1 d' S1 hd => bad (same_tr S1 (same_new hd)) e0 rfl AP.b AP.b'
          | many x => exact fun H1 d' S1 hd => bad (same_tr S1 (same_new hd)) e0 rfl AP.m AP.m'
          | place x => exact fun H1 d' S1 hd => bad (same_tr S1 (same_new hd)) e0 rfl AP.p AP.p'
        · exact bad (same_tr S1 (same_new hd)) e0 rfl AP.m AP.m'
        · exact bad (same_tr S1 (same_new hd)) e0 rfl AP.p AP.p'
        · exact bad (same_tr S1 (same_new hd)) e0 rfl AP.s AP.s'
        · have z := k _ S1
          rw [e0] at z
          exact z
end
end Law

/-! The law. -/
namespace Law
open PySem PySem.Spec PyProof.Rows L2 SX NumText ItSeq Sup
abbrev sLaw : Stmt := top 57
def spLaw (K : PySem.W.Frag) : Sp := fun vs H Q _ => ∃ (a : Addr) (ns : List Int), vs = [.ref a] ∧ SqL K H a (ns.map V.int) ∧ ns.length ≤ 63 ∧ ∀ H', Q (.bl true) H'
theorem lnV_put (q : List (List Nat)) (n : Nat) (rs : List (List (List Nat))) : (lnV rs).take n ++ [V.str (S (lineT q))] ++ (lnV rs).drop n = lnV (rs.take n ++ [q] ++ rs.drop n) := by
  unfold lnV
  simp only [List.map_append, List.map_take, List.map_drop, List.map_cons, List.map_nil]
theorem lnV_set (q : List (List Nat)) (n : Nat) (rs : List (List (List Nat))) : (lnV rs).set n (V.str (S (lineT q))) = lnV (rs.set n q) := by
  unfold lnV
  rw [List.map_set, List.map_set, List.map_set]
theorem lnV_snoc (rs : List (List (List Nat))) : lnV rs ++ [V.str (S [])] = lnV (rs ++ [[[]]]) := by
  unfold lnV
  simp only [List.map_append, List.map_cons, List.map_nil]
  rfl
theorem lines_sum {j : Nat} (hj : j ≤ 5) : ∀ {pss : List (List (List Nat))}, (∀ q ∈ pss, LnOk j q) → (((pss.map lineT).map S).map (·.length)).sum ≤ 12120 * pss.length
  | [], _ => Nat.zero_le _
  | p :: ps, h => by
    have a := lineT_len (h p List.mem_cons_self) (by omega)
    have b := lines_sum hj (pss := ps) fun x hx => h x (List.mem_cons_of_mem _ hx)
    rw [List.map_cons, List.map_cons, List.map_cons, List.sum_cons, S_len, List.length_cons]
    omega
structure LwTxt (mg : Str → Option Value) (fB fT fGl fBe fFb fOu : Addr) : Prop where
  box : mg "_law_box" = some (.ref fB)
  take : mg "_law_take" = some (.ref fT)
  gl : mg "_law_good_lines" = some (.ref fGl)
  be : mg "_law_bent" = some (.ref fBe)
  fb : mg "_law_first_bad" = some (.ref fFb)
  ou : mg "_law_outcome" = some (.ref fOu)
  b_len : mg "len" = none
  b_list : mg "list" = none
  b_range : mg "range" = none
section
variable {P : Program} {w : World} {K : PySem.W.Frag} {mg : Str → Option Value} {base : Heap}
theorem scLaw : FnScope ["_law_script", "_law_box_here", "_law_sited", "_law_lines", "_law_turn", "_law_bent_here", "_law_k", "_law_at", "_law_text", "_law_due", "_law_again"] ["_law_script"] (defScope sLaw) := ⟨rfl, rfl, rfl, by decide +kernel, rfl, by decide +kernel, by decide +kernel⟩
set_option maxHeartbeats 0 in
theorem ok_law {f fB fT fGl fBe fFb fOu : Addr} {fd fdB fdT fdGl fdBe fdFb fdOu : FuncData} (F : Fun K "law" "law" sLaw f fd) (T : LwTxt mg fB fT fGl fBe fFb fOu)
    (GB : FnOk P w K mg base CX0 1 fB fdB ["_law_script"] (spBox K)) (FB : Fun K "_law_box" "_law_box" sBox fB fdB) (bB : Binds K fdB ["_law_script"] [])
    (GT : FnOk P w K mg base CX0 1 fT fdT ["_law_box_here", "_law_size"] spTake) (FT : Fun K "_law_take" "_law_take" sTake fT fdT) (bT : Binds K fdT ["_law_box_here", "_law_size"] [])
    (GGl : FnOk P w K mg base CX0 3 fGl fdGl ["_law_box_here", "_law_sited"] spGl) (FGl : Fun K "_law_good_lines" "_law_good_lines" sGl fGl fdGl) (bGl : Binds K fdGl ["_law_box_here", "_law_sited"] [])
    (GBe : FnOk P w K mg base CX0 2 fBe fdBe ["_law_box_here", "_law_line", "_law_sited"] spBe) (FBe : Fun K "_law_bent" "_law_bent" sBe fBe fdBe) (bBe : Binds K fdBe ["_law_box_here", "_law_line", "_law_sited"] [])
    (GFb : FnOk P w K mg base CX0 3 fFb fdFb ["_law_lines", "_law_sited"] spFb) (FFb : Fun K "_law_first_bad" "_law_first_bad" sFb fFb fdFb) (bFb : Binds K fdFb ["_law_lines", "_law_sited"] [])
    (GOu : FnOk P w K mg base CX0 10 fOu fdOu ["_law_text", "_law_sited"] spOut) (FOu : Fun K "_law_outcome" "_law_outcome" sOut fOu fdOu) (bOu : Binds K fdOu ["_law_text", "_law_sited"] []) : FnOk P w K mg base CX0 11 f fd ["_law_script"] (spLaw K) := by
  refine F.ok scLaw (fun vs H Q E h => ?_) (fun cdv A outer s H vs Q E hr h => ?_)
  · obtain ⟨a, ns, rfl, _⟩ := h
    rfl
  · obtain ⟨a, ns, rfl, ha, hn, k⟩ := h
    have hr1 : Room 1 _ := hr.mono (by decide)
    have hr2 : Room 2 _ := hr.mono (by decide)
    have hr3 : Room 3 _ := hr.mono (by decide)
    refine ⟨_, (pss_cons (ps_set (i := 1) scLaw.nd rfl (Or.inl rfl) (pe_call GB hr1 rfl T.box FB.kp bB .nil pass0 (pa_cons (pv 0) pa_nil)))
      (C8.pss_cut (ps_set (i := 2) scLaw.nd rfl (Or.inl rfl) (pe_cmpR op_eq (pe_call GT hr1 rfl T.take FT.kp bT .nil pass0 (pa_cons (pv 1) (pa_cons pe_int pa_nil))) pe_int (nomark _)))
      (C8.pss_cut (ps_set (i := 3) scLaw.nd rfl (Or.inl rfl) (pe_call GGl hr3 rfl T.gl FGl.kp bGl .nil pass0 (pa_cons (pv 1) (pa_cons (pv 2) pa_nil))))
      (C8.pss_cut (ps_for PassesOwn.never rfl (pi_range1 (by rfl) T.b_range (pa_cons pe_int pa_nil)) (pg_name (i := 4) scLaw.nd rfl (Or.inl rfl)) (C8.pss_cut (ps_set (i := 5) scLaw.nd rfl (Or.inl rfl) (pe_callTy call_list_of (by rfl) T.b_list (by decide +kernel) (pa_cons (pv 3) pa_nil)))
      (C8.pss_cut (ps_for PassesOwn.never rfl (pi_range1 (by rfl) T.b_range (pa_cons (pe_call GT hr1 rfl T.take FT.kp bT .nil pass0 (pa_cons (pv 1) (pa_cons pe_int pa_nil))) pa_nil)) (pg_name (i := 6) scLaw.nd rfl (Or.inl rfl)) (pss_one (ps_if (pt_cmpR op_gt (pe_callB call_len_seq (by rfl) T.b_len PySem.boot_len (pa_cons (pv 5) pa_nil)) pe_int (nomark _)) (C8.pss_cut (ps_set (i := 7) scLaw.nd rfl (Or.inl rfl) (pe_call GT hr1 rfl T.take FT.kp bT .nil pass0 (pa_cons (pv 1) (pa_cons (pe_callB call_len_seq (by rfl) T.b_len PySem.boot_len (pa_cons (pv 5) pa_nil)) pa_nil))))
      (pss_one (ps_if (pt_cmpR op_eq (pe_call GT hr1 rfl T.take FT.kp bT .nil pass0 (pa_cons (pv 1) (pa_cons pe_int pa_nil))) pe_int (nomark _)) (pss_one (ps_expr (pe_bm PySem.F.plainAttrs_list PySem.F.slot_list_insert PySem.F.type_list_insert mt_insert (pv 5) (pa_cons (pv 7) (pa_cons (pe_call GBe hr2 rfl T.be FBe.kp bBe .nil pass0 (pa_cons (pv 1) (pa_cons (pe_ix ix_list (pv 5) (pv 7) (fun _ _ => rfl)) (pa_cons (pv 2) pa_nil)))) pa_nil))))) (pss_one (ps_asg (pe_call GBe hr2 rfl T.be FBe.kp bBe .nil pass0 (pa_cons (pv 1) (pa_cons (pe_ix ix_list (pv 5) (pv 7) (fun _ _ => rfl)) (pa_cons (pv 2) pa_nil)))) (pg_sub (pv 5) (pv 7) set_list)))))) pss_nil)))
      (C8.pss_cut (ps_if (pt_cmpR op_eq (pe_call GT hr1 rfl T.take FT.kp bT .nil pass0 (pa_cons (pv 1) (pa_cons pe_int pa_nil))) pe_int (nomark _)) (pss_one (ps_expr (pe_bm PySem.F.plainAttrs_list PySem.F.slot_list_append PySem.F.type_list_append mt_append (pv 5) (pa_cons pe_str pa_nil)))) pss_nil)
      (C8.pss_cut (ps_set (i := 8) scLaw.nd rfl (Or.inl rfl) (pe_join pe_str (pv 5)))
      (C8.pss_cut (ps_set (i := 9) scLaw.nd rfl (Or.inl rfl) (pe_call GFb hr3 rfl T.fb FFb.kp bFb .nil pass0 (pa_cons (pv 5) (pa_cons (pv 2) pa_nil))))
      (C8.pss_cut (ps_if (pt_cmpR op_eq (pv 8) pe_str (nomark _)) (pss_one (ps_set (i := 9) scLaw.nd rfl (Or.inl rfl) pe_int)) pss_nil)
      (pss_one (ps_for PassesOwn.never rfl (pi_range1 (by rfl) T.b_range (pa_cons pe_int pa_nil)) (pg_name (i := 10) scLaw.nd rfl (Or.inl rfl)) (pss_one (ps_if (pt_cmpR op_ne (pe_call GOu hr rfl T.ou FOu.kp bOu .nil pass0 (pa_cons (pv 8) (pa_cons (pv 2) pa_nil))) (pv 9) (nomark _)) (pss_one (ps_ret pe_bl)) pss_nil)))))))))))
      (pss_one (ps_ret (pe_and (pe_cmpR op_eq (pe_call GOu hr rfl T.ou FOu.kp bOu .nil pass0 (pa_cons pe_str (pa_cons (pv 2) pa_nil))) pe_int (nomark _)) (pe_one (pe_cmpR op_eq (pe_call GOu hr rfl T.ou FOu.kp bOu .nil pass0 (pa_cons pe_str (pa_cons (pv 2) pa_nil))) pe_int (nomark _)))))))))), ?_⟩
    have e10 : (Str.ofString "\n" : Str) = S [10] := by decide +kernel
    rw [e10]
    have fit : ∀ z : Int, z.natAbs ≤ 100 → z.natAbs < 2 ^ 8000 := fun z h => Nat.lt_of_le_of_lt h (by decide +kernel)
    have lv : ∀ rs, (lnV rs).length = rs.length := fun rs => by unfold lnV; rw [List.length_map, List.length_map, List.length_map]
    refine ⟨_, rfl, a, ns, rfl, ha, hn, fun b l H1 B1 nb nl S1 => ?_⟩
    clear ha S1 nb nl
    refine ⟨fun σ' H' => ∃ sd : Bool, σ' = [some (.ref a), some (.ref b), some (.bl sd), none, none, none, none, none, none, none, none] ∧ Box H' b l, ?_, ?_⟩
    · exact ⟨_, rfl, b, l, _, rfl, B1, by decide, by decide, fun r H2 r0 r1 B2 k2 => ⟨rfl, decide (V.int r = V.int 1), rfl, B2⟩⟩
    rintro σ' H2 ⟨sd, rfl, B2⟩
    refine ⟨fun σ' H' => ∃ (p : Addr) (qs : List (List (List Nat))), σ' = [some (.ref a), some (.ref b), some (.bl sd), some (.ref p), none, none, none, none, none, none, none] ∧ LnsS H' p qs ∧ (∀ q ∈ qs, LnOk 0 q) ∧ qs.length ≤ 5 ∧ Box H' b l, ?_, ?_⟩
    · exact ⟨_, rfl, _, rfl, b, l, sd, rfl, B2, fun p qs H3 _ e3 o3 n3 B3 _ => ⟨p, qs, rfl, e3, o3, n3, B3⟩⟩
    rintro σ' H3 ⟨p, qs, rfl, e3, o3, n3, B3⟩
    refine ⟨fun σ' H' => ∃ v4 v5 v6 v7 v8 v9 v10 : Option V, σ' = [some (.ref a), some (.ref b), some (.bl sd), some (.ref p), v4, v5, v6, v7, v8, v9, v10], ?_, ?_⟩
    · refine ⟨_, rfl, by decide, by decide, ?_⟩
      refine for_it (walk_range (lo := 0) (n := (4 : Int).toNat)) (fun i σ' H' => ∃ v4 v5 v6 v7 v8 v9 v10 : Option V, σ' = [some (.ref a), some (.ref b), some (.bl sd), some (.ref p), v4, v5, v6, v7, v8, v9, v10] ∧ LnsS H' p qs ∧ Box H' b l) ⟨_, _, _, _, _, _, _, rfl, e3, B3⟩ (fun _ _ _ _ _ => trivial) ?_ ?_
      rotate_left
      · rintro σ' H4 ⟨v4, v5, v6, v7, v8, v9, v10, rfl, _⟩
        exact ⟨_, _, _, _, _, _, _, rfl⟩
      rintro i x σ' H4 H5 hi ⟨v4, v5, v6, v7, v8, v9, v10, rfl, e5, B5⟩ ⟨rfl, rfl⟩
      refine ⟨fun σ' H' => ∃ B : Addr, σ' = [some (.ref a), some (.ref b), some (.bl sd), some (.ref p), some (.int (0 + (i : Int))), some (.ref B), v6, v7, v8, v9, v10] ∧ LnsS H' p qs ∧ LnsS H' B qs ∧ B ≠ p ∧ (b ≠ B ∧ l ≠ B) ∧ Box H' b l, ?_, ?_⟩
      · exact ⟨_, rfl, p, _, rfl, .inl (SqL.of e5), fun D hD => ⟨D, rfl, same_new hD _ _ e5, upd_same, Ne.symm (ne_of_none e5 hD), B5.free hD, B5.at (B5.free hD)⟩⟩
      rintro σ' H6 ⟨B, rfl, e6, d6, nBp, nB, B6⟩
      refine ⟨fun σ' H' => ∃ (v6 v7 : Option V) (rs : List (List (List Nat))), σ' = [some (.ref a), some (.ref b), some (.bl sd), some (.ref p), some (.int (0 + (i : Int))), some (.ref B), v6, v7, v8, v9, v10] ∧ LnsS H' p qs ∧ LnsS H' B rs ∧ (∀ q ∈ rs, LnOk 2 q) ∧ rs.length ≤ 7 ∧ Box H' b l, ?_, ?_⟩
      · refine ⟨_, rfl, b, l, _, rfl, B6, by decide, by decide, fun n H7 n0 n1 B7 k7 => ⟨_, rfl, by omega, by omega, ?_⟩⟩
        have e7 : LnsS H7 p qs := (k7 p (B6.neS e6)).trans e6
        have d7 : LnsS H7 B qs := (k7 B nB.1.symm).trans d6
        refine for_it (walk_range (lo := 0) (n := n.toNat)) (fun j σ' H' => ∃ (v6 v7 : Option V) (rs : List (List (List Nat))), σ' = [some (.ref a), some (.ref b), some (.bl sd), some (.ref p), some (.int (0 + (i : Int))), some (.ref B), v6, v7, v8, v9, v10] ∧ LnsS H' p qs ∧ LnsS H' B rs ∧ (∀ q ∈ rs, LnOk j q) ∧ rs.length ≤ 5 + j ∧ Box H' b l) ⟨_, _, qs, rfl, e7, d7, o3, n3, B7⟩ (fun _ _ _ _ _ => trivial) ?_ ?_
        rotate_left
        · rintro σ' H8 ⟨v6, v7, rs, rfl, e8, d8, o8, n8, B8⟩
          exact ⟨_, _, rs, rfl, e8, d8, fun q hq => (o8 q hq).mono (by omega), by omega, B8⟩
        rintro j x σ' H8 H9 hj ⟨v6, v7, rs, rfl, e9, d9, o9, n9, B9⟩ ⟨rfl, rfl⟩
        refine ⟨_, rfl, B, _, rfl, .inl (SqL.of d9), _, _, rfl, rfl, _, rfl, ?_⟩
        by_cases c0 : rs.length = 0
        · exact if_f (decide_eq_false (by rw [lv]; omega)) ⟨_, _, rs, rfl, e9, d9, fun q hq => (o9 q hq).mono (by omega), by omega, B9⟩
        refine if_t (decide_eq_true (by rw [lv]; omega)) ⟨fun σ' H' => ∃ t : Nat, σ' = [some (.ref a), some (.ref b), some (.bl sd), some (.ref p), some (.int (0 + (i : Int))), some (.ref B), some (.int (0 + (j : Int))), some (.int (t : Nat)), v8, v9, v10] ∧ t < rs.length ∧ LnsS H' p qs ∧ LnsS H' B rs ∧ Box H' b l, ?_, ?_⟩
        · refine ⟨_, rfl, _, rfl, B, _, rfl, .inl (SqL.of d9), b, l, _, rfl, B9, by rw [lv]; omega, fit _ (by rw [lv]; omega), fun r H10 r0 r1 B10 k10 => ?_⟩
          rw [lv] at r1
          obtain ⟨t, rfl⟩ : ∃ t : Nat, r = (t : Nat) := ⟨r.toNat, by omega⟩
          exact ⟨t, rfl, by omega, (k10 p (B9.neS e9)).trans e9, (k10 B nB.1.symm).trans d9, B10⟩
        rintro σ' H10 ⟨t, rfl, ht, e10', d10, B10⟩
        obtain ⟨q, hq⟩ : ∃ q, rs[t]? = some q := ⟨_, List.getElem?_eq_getElem ht⟩
        have oq := o9 q (List.mem_of_getElem? hq)
        have hqv : (lnV rs)[t]? = some (.str (S (lineT q))) := by unfold lnV; rw [List.getElem?_map, List.getElem?_map, List.getElem?_map, hq]; rfl
        have fin : ∀ (rs' : List (List (List Nat))) (q' : List (List Nat)) (H12 : Hp), LnsS H12 p qs → Box H12 b l → LnOk (j + 1) q' → (∀ x ∈ rs', x = q' ∨ x ∈ rs) → rs'.length ≤ 5 + (j + 1) → ∃ (v6' v7' : Option V) (rs2 : List (List (List Nat))), ([some (.ref a), some (.ref b), some (.bl sd), some (.ref p), some (.int (0 + (i : Int))), some (.ref B), some (.int (0 + (j : Int))), some (.int (t : Nat)), v8, v9, v10] : L2.St) = [some (.ref a), some (.ref b), some (.bl sd), some (.ref p), some (.int (0 + (i : Int))), some (.ref B), v6', v7', v8, v9, v10] ∧ LnsS (upd H12 B (.lst (lnV rs'))) p qs ∧ LnsS (upd H12 B (.lst (lnV rs'))) B rs2 ∧ (∀ x ∈ rs2, LnOk (j + 1) x) ∧ rs2.length ≤ 5 + (j + 1) ∧ Box (upd H12 B (.lst (lnV rs'))) b l :=
          fun rs' q' H12 e12 B12 o12 m12 n12 => ⟨_, _, rs', rfl, by unfold LnsS; rw [upd_ne nBp.symm]; exact e12, upd_same, fun x hx => by
            rcases m12 x hx with rfl | hx
            · exact o12
            · exact (o9 x hx).mono (by omega), n12, B12.at nB⟩
        refine ⟨_, rfl, b, l, _, rfl, B10, by decide, by decide, fun r H11 r0 r1 B11 k11 => ⟨rfl, _, rfl, ?_⟩⟩
        have e11 : LnsS H11 p qs := (k11 p (B10.neS e10')).trans e10'
        have d11 : LnsS H11 B rs := (k11 B nB.1.symm).trans d10
        by_cases c1 : r = 1
        · refine if_t (by rw [c1]; rfl) ⟨_, rfl, .inl ⟨rfl, _, SqL.of d11⟩, _, rfl, _, rfl, _, rfl, _, rfl, B, _, (t : Nat), _, rfl, rfl, SqL.of d11, atI_nat hqv, _, rfl, b, l, j, q, sd, rfl, B11, oq, by omega, fun q' H12 o12 B12 S12 => ⟨B, _, (t : Nat), _, rfl, rfl, S12 _ _ nB.1.symm d11, small1000 (by rw [lv]; omega), by omega, by omega, ?_⟩⟩
          rw [lnV_put]
          refine fin _ q' H12 (S12 _ _ (B11.neS e11) e11) B12 o12 (fun x hx => ?_) (by simp only [List.length_append, List.length_take, List.length_drop, List.length_singleton]; omega)
          rcases List.mem_append.mp hx with hx | hx
          · rcases List.mem_append.mp hx with hx | hx
            · exact .inr (List.mem_of_mem_take hx)
            · exact .inl (List.mem_singleton.mp hx)
          · exact .inr (List.mem_of_mem_drop hx)
        · refine if_f (decide_eq_false fun z => c1 (V.int.inj z)) ⟨_, rfl, _, rfl, _, rfl, B, _, (t : Nat), _, rfl, rfl, SqL.of d11, atI_nat hqv, _, rfl, b, l, j, q, sd, rfl, B11, oq, by omega, fun q' H12 o12 B12 S12 => ⟨_, rfl, _, rfl, B, _, (t : Nat), t, rfl, rfl, S12 _ _ nB.1.symm d11, ixN_nat (by rw [lv]; omega), ?_⟩⟩
          rw [lnV_set]
          refine fin _ q' H12 (S12 _ _ (B11.neS e11) e11) B12 o12 (fun x hx => ?_) (by rw [List.length_set]; omega)
          rcases List.mem_or_eq_of_mem_set hx with hx | hx
          · exact .inr hx
          · exact .inl hx
      rintro σ' H7 ⟨w6, w7, rs0, rfl, e7, d7, o7, n7, B7⟩
      refine ⟨fun σ' H' => ∃ rs : List (List (List Nat)), σ' = [some (.ref a), some (.ref b), some (.bl sd), some (.ref p), some (.int (0 + (i : Int))), some (.ref B), w6, w7, v8, v9, v10] ∧ LnsS H' p qs ∧ LnsS H' B rs ∧ (∀ q ∈ rs, LnOk 3 q) ∧ rs.length ≤ 8 ∧ Box H' b l, ?_, ?_⟩
      · refine ⟨_, rfl, b, l, _, rfl, B7, by decide, by decide, fun r H8 r0 r1 B8 k8 => ⟨rfl, _, rfl, ?_⟩⟩
        have e8 : LnsS H8 p qs := (k8 p (B7.neS e7)).trans e7
        have d8 : LnsS H8 B rs0 := (k8 B nB.1.symm).trans d7
        by_cases c1 : r = 1
        · refine if_t (by rw [c1]; rfl) ⟨_, rfl, .inl ⟨rfl, _, SqL.of d8⟩, B, _, _, rfl, rfl, d8, small1000 (by rw [lv]; omega), ?_⟩
          rw [show (Str.ofString "" : Str) = S [] from by decide +kernel, lnV_snoc]
          refine ⟨rs0 ++ [[[]]], rfl, by unfold LnsS; rw [upd_ne nBp.symm]; exact e8, upd_same, fun q hq => ?_, by simp; omega, B8.at nB⟩
          rcases List.mem_append.mp hq with hq | hq
          · exact (o7 q hq).mono (by decide)
          · rw [List.mem_singleton.mp hq]
            exact ⟨by decide, by decide, by decide, by decide, by decide⟩
        · exact if_f (decide_eq_false fun z => c1 (V.int.inj z)) ⟨rs0, rfl, e8, d8, fun q hq => (o7 q hq).mono (by decide), by omega, B8⟩
      rintro σ' H8 ⟨rs, rfl, e8, d8, o8, n8, B8⟩
      clear e7 d7 o7 n7 B7 e6 d6 B6 e5 B5
      refine ⟨fun σ' H' => σ' = [some (.ref a), some (.ref b), some (.bl sd), some (.ref p), some (.int (0 + (i : Int))), some (.ref B), w6, w7, some (.str (S (textT rs))), v9, v10] ∧ LnsS H' p qs ∧ LnsS H' B rs ∧ Box H' b l, ?_, ?_⟩
      · refine ⟨⟨_, rfl⟩, _, rfl, _, B, (rs.map lineT).map S, rfl, rfl, .inl (SqL.of d8), ?_, ?_⟩
        · have w := lines_sum (by decide) o8
          rw [List.length_map, List.length_map, S_len]
          show _ + rs.length * 1 ≤ 16777216
          omega
        · rw [join_S]
          exact ⟨rfl, e8, d8, B8⟩
      rintro σ' H9 ⟨rfl, e9, d9, B9⟩
      have ok : ∀ q ∈ rs, LnOk 5 q := fun q hq => (o8 q hq).mono (by decide)
      refine ⟨fun σ' H' => σ' = [some (.ref a), some (.ref b), some (.bl sd), some (.ref p), some (.int (0 + (i : Int))), some (.ref B), w6, w7, some (.str (S (textT rs))), some (.int (outN sd rs : Nat)), v10] ∧ LnsS H' p qs ∧ Box H' b l, ?_, ?_⟩
      · refine ⟨_, rfl, _, rfl, B, sd, rs, rfl, d9, fun q hq => (ok q hq).w (by decide), by omega, fun H10 S10 => ?_⟩
        rw [← out_first]
        exact ⟨rfl, S10 _ _ e9, B9.same S10⟩
      rintro σ' H10 ⟨rfl, e10', B10⟩
      obtain ⟨r2, r2t, r2n, r2ok, r2l, r2e⟩ : ∃ r2 : List (List (List Nat)), textT r2 = textT rs ∧ (r2 = [] ∨ textT r2 ≠ []) ∧ (∀ q ∈ r2, LnOk 5 q) ∧ r2.length ≤ 50 ∧ outN sd r2 = if textT rs = [] then 0 else outN sd rs := by
        by_cases c : textT rs = []
        · refine ⟨[], by rw [c]; rfl, .inl rfl, (fun _ h => nomatch h), Nat.zero_le _, ?_⟩
          rw [if_pos c]
          cases sd <;> rfl
        · exact ⟨rs, rfl, .inr c, ok, by omega, by rw [if_neg c]⟩
      refine ⟨fun σ' H' => σ' = [some (.ref a), some (.ref b), some (.bl sd), some (.ref p), some (.int (0 + (i : Int))), some (.ref B), w6, w7, some (.str (S (textT rs))), some (.int (outN sd r2 : Nat)), v10] ∧ LnsS H' p qs ∧ Box H' b l, ?_, ?_⟩
      · refine ⟨_, rfl, rfl, _, rfl, ?_⟩
        have e0 : (Str.ofString "" : Str) = S [] := by decide +kernel
        by_cases c : textT rs = []
        · rw [if_pos c] at r2e
          rw [r2e]
          exact if_t (by rw [c, e0]; exact decide_eq_true rfl) ⟨rfl, e10', B10⟩
        · rw [if_neg c] at r2e
          rw [r2e]
          exact if_f (by rw [e0]; exact decide_eq_false fun z => c (S_inj (V.str.inj z))) ⟨rfl, e10', B10⟩
      rintro σ' H11 ⟨rfl, e11, B11⟩
      refine ⟨_, rfl, by decide, by decide, ?_⟩
      refine for_it (walk_range (lo := 0) (n := (2 : Int).toNat)) (fun j σ' H' => ∃ v10 : Option V, σ' = [some (.ref a), some (.ref b), some (.bl sd), some (.ref p), some (.int (0 + (i : Int))), some (.ref B), w6, w7, some (.str (S (textT rs))), some (.int (outN sd r2 : Nat)), v10] ∧ LnsS H' p qs ∧ Box H' b l) ⟨_, rfl, e11, B11⟩ (fun _ _ _ _ _ => trivial) ?_ ?_
      rotate_left
      · rintro σ' H12 ⟨v10', rfl, e12, B12⟩
        exact ⟨_, _, _, _, _, _, _, rfl, e12, B12⟩
      rintro j x σ' H12 H13 hj ⟨v10', rfl, e13, B13⟩ ⟨rfl, rfl⟩
      refine ⟨_, rfl, _, rfl, r2, sd, by rw [r2t]; rfl, r2n, r2ok, r2l, fun H14 S14 => ?_⟩
      exact ⟨_, rfl, rfl, _, rfl, if_f (by simp) ⟨_, rfl, S14 _ _ e13, B13.same S14⟩⟩
    rintro σ' H4 ⟨v4, v5, v6, v7, v8, v9, v10, rfl⟩
    have t1 : textT [[[]], [[]]] = [10] := by decide
    have t2 : textT [[[], []]] = [32] := by decide
    have o1 : outN sd [[[]], [[]]] = 1 := by cases sd <;> decide +kernel
    have o2 : outN sd [[[], []]] = 1 := by cases sd <;> decide +kernel
    refine ⟨_, rfl, [[[]], [[]]], sd, by rw [t1]; rfl, .inr (by rw [t1]; decide), fun q hq => ?_, by decide, fun H5 S5 => ?_⟩
    · have : q = [[]] := by simpa using hq
      rw [this]
      exact ⟨by decide, by decide, by decide, by decide, by decide⟩
    rw [o1]
    refine ⟨rfl, _, rfl, if_t rfl ⟨_, rfl, [[[], []]], sd, by rw [t2]; exact congrArg (fun x => [V.str x, V.bl sd]) (by decide +kernel), .inr (by rw [t2]; decide), fun q hq => ?_, by decide, fun H6 S6 => ?_⟩⟩
    · have : q = [[], []] := by simpa using hq
      rw [this]
      exact ⟨by decide, by decide, by decide, by decide, by decide⟩
    rw [o2]
    exact ⟨rfl, k _⟩
end
end Law

namespace Law
open PySem PySem.Spec PyProof.Rows L2 Sup NdefX
abbrev sEN : Stmt := inClass (top 4) 0
abbrev sET : Stmt := inClass (top 5) 0
abbrev sEP : Stmt := inClass (top 6) 0
abbrev sEM : Stmt := inClass (top 7) 0
abbrev sES : Stmt := inClass (top 8) 0
abbrev sEL : Stmt := inClass (top 9) 0
theorem all_mk {P : Program} {w : World} {K : PySem.W.Frag} {h : Heap} {mg : Str → Option Value} {fa : Addr} (X : K.In h) (G : h.Ns mainGlobals mg) (hfa : mg "law" = some (.ref fa)) (htop : (P.main.scope.names.lookup ("super" : Str)).isSome = false)
    {fN : Addr} {odN anN : Option Addr} {slN : Array (Option Value)} {ocN kVN dcN pmN cdN ctN : Value}
    {fK : Addr} {odK anK : Option Addr} {slK : Array (Option Value)} {ocK kVK dcK pmK cdK ctK : Value}
    {fCr : Addr} {odCr anCr : Option Addr} {slCr : Array (Option Value)} {ocCr kVCr dcCr pmCr cdCr ctCr : Value}
    {fCu : Addr} {odCu anCu : Option Addr} {slCu : Array (Option Value)} {ocCu kVCu dcCu pmCu cdCu ctCu : Value}
    {fCl : Addr} {odCl anCl : Option Addr} {slCl : Array (Option Value)} {ocCl kVCl dcCl pmCl cdCl ctCl : Value}
    {fSo : Addr} {odSo anSo : Option Addr} {slSo : Array (Option Value)} {ocSo kVSo dcSo pmSo cdSo ctSo : Value}
    {fTo : Addr} {odTo anTo : Option Addr} {slTo : Array (Option Value)} {ocTo kVTo dcTo pmTo cdTo ctTo : Value}
    {fTd : Addr} {odTd anTd : Option Addr} {slTd : Array (Option Value)} {ocTd kVTd dcTd pmTd cdTd ctTd : Value}
    {fGr : Addr} {odGr anGr : Option Addr} {slGr : Array (Option Value)} {ocGr kVGr dcGr pmGr cdGr ctGr : Value}
    {fSl : Addr} {odSl anSl : Option Addr} {slSl : Array (Option Value)} {ocSl kVSl dcSl pmSl cdSl ctSl : Value}
    {fLk : Addr} {odLk anLk : Option Addr} {slLk : Array (Option Value)} {ocLk kVLk dcLk pmLk cdLk ctLk : Value}
    {fFi : Addr} {odFi anFi : Option Addr} {slFi : Array (Option Value)} {ocFi kVFi dcFi pmFi cdFi ctFi : Value}
    {fRb : Addr} {odRb anRb : Option Addr} {slRb : Array (Option Value)} {ocRb kVRb dcRb pmRb cdRb ctRb : Value}
    {fLs : Addr} {odLs anLs : Option Addr} {slLs : Array (Option Value)} {ocLs kVLs dcLs pmLs cdLs ctLs : Value}
    {fFs : Addr} {odFs anFs : Option Addr} {slFs : Array (Option Value)} {ocFs kVFs dcFs pmFs cdFs ctFs : Value}
    {fSb : Addr} {odSb anSb : Option Addr} {slSb : Array (Option Value)} {ocSb kVSb dcSb pmSb cdSb ctSb : Value}
    {fMi : Addr} {odMi anMi : Option Addr} {slMi : Array (Option Value)} {ocMi kVMi dcMi pmMi cdMi ctMi : Value}
    {DTMi : Addr} {xoMi : Value} {xdMi : Option Addr} {xsMi : Array (Option Value)} {xnMi : Nat} {aDf : Addr}
    {fTi : Addr} {odTi anTi : Option Addr} {slTi : Array (Option Value)} {ocTi kVTi dcTi pmTi cdTi ctTi : Value}
    {fRd : Addr} {odRd anRd : Option Addr} {slRd : Array (Option Value)} {ocRd kVRd dcRd pmRd cdRd ctRd : Value}
    {fNl : Addr} {odNl anNl : Option Addr} {slNl : Array (Option Value)} {ocNl kVNl dcNl pmNl cdNl ctNl : Value}
    {fIw : Addr} {odIw anIw : Option Addr} {slIw : Array (Option Value)} {ocIw kVIw dcIw pmIw cdIw ctIw : Value}
    {fIl : Addr} {odIl anIl : Option Addr} {slIl : Array (Option Value)} {ocIl kVIl dcIl pmIl cdIl ctIl : Value}
    {fIn : Addr} {odIn anIn : Option Addr} {slIn : Array (Option Value)} {ocIn kVIn dcIn pmIn cdIn ctIn : Value}
    {fRt : Addr} {odRt anRt : Option Addr} {slRt : Array (Option Value)} {ocRt kVRt dcRt pmRt cdRt ctRt : Value}
    {fIt : Addr} {odIt anIt : Option Addr} {slIt : Array (Option Value)} {ocIt kVIt dcIt pmIt cdIt ctIt : Value}
    {fB : Addr} {odB anB : Option Addr} {slB : Array (Option Value)} {ocB kVB dcB pmB cdB ctB : Value}
    {fT : Addr} {odT anT : Option Addr} {slT : Array (Option Value)} {ocT kVT dcT pmT cdT ctT : Value}
    {fXi : Addr} {odXi anXi : Option Addr} {slXi : Array (Option Value)} {ocXi kVXi dcXi pmXi cdXi ctXi : Value}
    {fXs : Addr} {odXs anXs : Option Addr} {slXs : Array (Option Value)} {ocXs kVXs dcXs pmXs cdXs ctXs : Value}
    {fXt : Addr} {odXt anXt : Option Addr} {slXt : Array (Option Value)} {ocXt kVXt dcXt pmXt cdXt ctXt : Value}
    {fNw : Addr} {odNw anNw : Option Addr} {slNw : Array (Option Value)} {ocNw kVNw dcNw pmNw cdNw ctNw : Value}
    {fGl : Addr} {odGl anGl : Option Addr} {slGl : Array (Option Value)} {ocGl kVGl dcGl pmGl cdGl ctGl : Value}
    {fBe : Addr} {odBe anBe : Option Addr} {slBe : Array (Option Value)} {ocBe kVBe dcBe pmBe cdBe ctBe : Value}
    {fFb : Addr} {odFb anFb : Option Addr} {slFb : Array (Option Value)} {ocFb kVFb dcFb pmFb cdFb ctFb : Value}
    {fOu : Addr} {odOu anOu : Option Addr} {slOu : Array (Option Value)} {ocOu kVOu dcOu pmOu cdOu ctOu : Value}
    {fL : Addr} {odL anL : Option Addr} {slL : Array (Option Value)} {ocL kVL dcL pmL cdL ctL : Value}
    {CEB fiEB cdEB ccEB NEB : Addr} {nmEB qEB : Str} {bsEB bmEB : List Value} {snEB : List Str} {subEB : List Value} {abEB : Bool} {colEB : Option Bool} {ddEB : Option Addr} {m0EB m1EB m2EB m3EB m5EB : Option Value}
    {odEB anEB dkEB deEB : Option Addr} {slEB skEB seEB : Array (Option Value)} {ocEB kVEB dcEB pmEB ctEB ckEB ceEB : Value} {vkEB : Array Value} {flEB : Str} {tfEB : Tok}
    {CEN fiEN cdEN ccEN NEN : Addr} {nmEN qEN : Str} {bsEN bmEN : List Value} {snEN : List Str} {subEN : List Value} {abEN : Bool} {colEN : Option Bool} {ddEN : Option Addr} {m0EN m1EN m2EN m3EN m5EN : Option Value}
    {odEN anEN dkEN deEN : Option Addr} {slEN skEN seEN : Array (Option Value)} {ocEN kVEN dcEN pmEN ctEN ckEN ceEN : Value} {vkEN : Array Value} {flEN : Str} {tfEN : Tok}
    {CET fiET cdET ccET NET : Addr} {nmET qET : Str} {bsET bmET : List Value} {snET : List Str} {subET : List Value} {abET : Bool} {colET : Option Bool} {ddET : Option Addr} {m0ET m1ET m2ET m3ET m5ET : Option Value}
    {odET anET dkET deET : Option Addr} {slET skET seET : Array (Option Value)} {ocET kVET dcET pmET ctET ckET ceET : Value} {vkET : Array Value} {flET : Str} {tfET : Tok}
    {CEP fiEP cdEP ccEP NEP : Addr} {nmEP qEP : Str} {bsEP bmEP : List Value} {snEP : List Str} {subEP : List Value} {abEP : Bool} {colEP : Option Bool} {ddEP : Option Addr} {m0EP m1EP m2EP m3EP m5EP : Option Value}
    {odEP anEP dkEP deEP : Option Addr} {slEP skEP seEP : Array (Option Value)} {ocEP kVEP dcEP pmEP ctEP ckEP ceEP : Value} {vkEP : Array Value} {flEP : Str} {tfEP : Tok}
    {CEM fiEM cdEM ccEM NEM : Addr} {nmEM qEM : Str} {bsEM bmEM : List Value} {snEM : List Str} {subEM : List Value} {abEM : Bool} {colEM : Option Bool} {ddEM : Option Addr} {m0EM m1EM m2EM m3EM m5EM : Option Value}
    {odEM anEM dkEM deEM : Option Addr} {slEM skEM seEM : Array (Option Value)} {ocEM kVEM dcEM pmEM ctEM ckEM ceEM : Value} {vkEM : Array Value} {flEM : Str} {tfEM : Tok}
    {CES fiES cdES ccES NES : Addr} {nmES qES : Str} {bsES bmES : List Value} {snES : List Str} {subES : List Value} {abES : Bool} {colES : Option Bool} {ddES : Option Addr} {m0ES m1ES m2ES m3ES m5ES : Option Value}
    {odES anES dkES deES : Option Addr} {slES skES seES : Array (Option Value)} {ocES kVES dcES pmES ctES ckES ceES : Value} {vkES : Array Value} {flES : Str} {tfES : Tok}
    {CEL fiEL cdEL ccEL NEL : Addr} {nmEL qEL : Str} {bsEL bmEL : List Value} {snEL : List Str} {subEL : List Value} {abEL : Bool} {colEL : Option Bool} {ddEL : Option Addr} {m0EL m1EL m2EL m3EL m5EL : Option Value}
    {odEL anEL dkEL deEL : Option Addr} {slEL skEL seEL : Array (Option Value)} {ocEL kVEL dcEL pmEL ctEL ckEL ceEL : Value} {vkEL : Array Value} {flEL : Str} {tfEL : Tok}
    {CSite CTrial aR LE : Addr} {tkLT tkLG tkMP tkGR tkD tkM tk1 tk2 : Tok} {ddR : Option Addr} {nR : Nat} {slR : Array (Option Value)}
    (aCS : PySem.W.nsIn K mainGlobals "Site" = some (some (.ref CSite)))
    (aCT : PySem.W.nsIn K mainGlobals "Trial" = some (some (.ref CTrial)))
    (gR : PySem.W.nsIn K mainGlobals "RESULTS" = some (some (.ref aR)))
    (aLE : PySem.W.nsIn K mainGlobals "LadderError" = some (some (.ref LE)))
    (aN : PySem.W.nsIn K mainGlobals "check_name" = some (some (.ref fN)))
    (lN : K.lookup fN = some ⟨ocN, odN, .func (PySem.W.fnOf "check_name" "check_name" (defArgs sCkn) (defBody sCkn) (defScope sCkn) .none kVN dcN pmN anN cdN ctN), slN⟩)
    (cN : PySem.W.codeIn K cdN "check_name" = true)
    (kN : PySem.W.keepIn K (.ref fN) = true)
    (aK : PySem.W.nsIn K mainGlobals "check_not_negative" = some (some (.ref fK)))
    (lK : K.lookup fK = some ⟨ocK, odK, .func (PySem.W.fnOf "check_not_negative" "check_not_negative" (defArgs sChk) (defBody sChk) (defScope sChk) .none kVK dcK pmK anK cdK ctK), slK⟩)
    (cK : PySem.W.codeIn K cdK "check_not_negative" = true)
    (kK : PySem.W.keepIn K (.ref fK) = true)
    (aCr : PySem.W.nsIn K mainGlobals "_check_rows" = some (some (.ref fCr)))
    (lCr : K.lookup fCr = some ⟨ocCr, odCr, .func (PySem.W.fnOf "_check_rows" "_check_rows" (defArgs sCro) (defBody sCro) (defScope sCro) .none kVCr dcCr pmCr anCr cdCr ctCr), slCr⟩)
    (cCr : PySem.W.codeIn K cdCr "_check_rows" = true)
    (kCr : PySem.W.keepIn K (.ref fCr) = true)
    (aCu : PySem.W.nsIn K mainGlobals "_check_numbers" = some (some (.ref fCu)))
    (lCu : K.lookup fCu = some ⟨ocCu, odCu, .func (PySem.W.fnOf "_check_numbers" "_check_numbers" (defArgs sCnu) (defBody sCnu) (defScope sCnu) .none kVCu dcCu pmCu anCu cdCu ctCu), slCu⟩)
    (cCu : PySem.W.codeIn K cdCu "_check_numbers" = true)
    (kCu : PySem.W.keepIn K (.ref fCu) = true)
    (aCl : PySem.W.nsIn K mainGlobals "_check_links" = some (some (.ref fCl)))
    (lCl : K.lookup fCl = some ⟨ocCl, odCl, .func (PySem.W.fnOf "_check_links" "_check_links" (defArgs sCli) (defBody sCli) (defScope sCli) .none kVCl dcCl pmCl anCl cdCl ctCl), slCl⟩)
    (cCl : PySem.W.codeIn K cdCl "_check_links" = true)
    (kCl : PySem.W.keepIn K (.ref fCl) = true)
    (aSo : PySem.W.nsIn K mainGlobals "_spots_of" = some (some (.ref fSo)))
    (lSo : K.lookup fSo = some ⟨ocSo, odSo, .func (PySem.W.fnOf "_spots_of" "_spots_of" (defArgs sSpots) (defBody sSpots) (defScope sSpots) .none kVSo dcSo pmSo anSo cdSo ctSo), slSo⟩)
    (cSo : PySem.W.codeIn K cdSo "_spots_of" = true)
    (kSo : PySem.W.keepIn K (.ref fSo) = true)
    (aTo : PySem.W.nsIn K mainGlobals "_tops_of" = some (some (.ref fTo)))
    (lTo : K.lookup fTo = some ⟨ocTo, odTo, .func (PySem.W.fnOf "_tops_of" "_tops_of" (defArgs sTops) (defBody sTops) (defScope sTops) .none kVTo dcTo pmTo anTo cdTo ctTo), slTo⟩)
    (cTo : PySem.W.codeIn K cdTo "_tops_of" = true)
    (kTo : PySem.W.keepIn K (.ref fTo) = true)
    (aTd : PySem.W.nsIn K mainGlobals "_told_limits" = some (some (.ref fTd)))
    (lTd : K.lookup fTd = some ⟨ocTd, odTd, .func (PySem.W.fnOf "_told_limits" "_told_limits" (defArgs sTold) (defBody sTold) (defScope sTold) .none kVTd dcTd pmTd anTd cdTd ctTd), slTd⟩)
    (cTd : PySem.W.codeIn K cdTd "_told_limits" = true)
    (kTd : PySem.W.keepIn K (.ref fTd) = true)
    (aGr : PySem.W.nsIn K mainGlobals "_ground_limits" = some (some (.ref fGr)))
    (lGr : K.lookup fGr = some ⟨ocGr, odGr, .func (PySem.W.fnOf "_ground_limits" "_ground_limits" (defArgs sGrd) (defBody sGrd) (defScope sGrd) .none kVGr dcGr pmGr anGr cdGr ctGr), slGr⟩)
    (cGr : PySem.W.codeIn K cdGr "_ground_limits" = true)
    (kGr : PySem.W.keepIn K (.ref fGr) = true)
    (aSl : PySem.W.nsIn K mainGlobals "_slope_limits" = some (some (.ref fSl)))
    (lSl : K.lookup fSl = some ⟨ocSl, odSl, .func (PySem.W.fnOf "_slope_limits" "_slope_limits" (defArgs sSlp) (defBody sSlp) (defScope sSlp) .none kVSl dcSl pmSl anSl cdSl ctSl), slSl⟩)
    (cSl : PySem.W.codeIn K cdSl "_slope_limits" = true)
    (kSl : PySem.W.keepIn K (.ref fSl) = true)
    (aLk : PySem.W.nsIn K mainGlobals "_link_limits" = some (some (.ref fLk)))
    (lLk : K.lookup fLk = some ⟨ocLk, odLk, .func (PySem.W.fnOf "_link_limits" "_link_limits" (defArgs sLnk) (defBody sLnk) (defScope sLnk) .none kVLk dcLk pmLk anLk cdLk ctLk), slLk⟩)
    (cLk : PySem.W.codeIn K cdLk "_link_limits" = true)
    (kLk : PySem.W.keepIn K (.ref fLk) = true)
    (aFi : PySem.W.nsIn K mainGlobals "_find_ring" = some (some (.ref fFi)))
    (lFi : K.lookup fFi = some ⟨ocFi, odFi, .func (PySem.W.fnOf "_find_ring" "_find_ring" (defArgs sFnd) (defBody sFnd) (defScope sFnd) .none kVFi dcFi pmFi anFi cdFi ctFi), slFi⟩)
    (cFi : PySem.W.codeIn K cdFi "_find_ring" = true)
    (kFi : PySem.W.keepIn K (.ref fFi) = true)
    (aRb : PySem.W.nsIn K mainGlobals "_ring_behind" = some (some (.ref fRb)))
    (lRb : K.lookup fRb = some ⟨ocRb, odRb, .func (PySem.W.fnOf "_ring_behind" "_ring_behind" (defArgs sRgb) (defBody sRgb) (defScope sRgb) .none kVRb dcRb pmRb anRb cdRb ctRb), slRb⟩)
    (cRb : PySem.W.codeIn K cdRb "_ring_behind" = true)
    (kRb : PySem.W.keepIn K (.ref fRb) = true)
    (aLs : PySem.W.nsIn K mainGlobals "_least_sums" = some (some (.ref fLs)))
    (lLs : K.lookup fLs = some ⟨ocLs, odLs, .func (PySem.W.fnOf "_least_sums" "_least_sums" (defArgs sLst) (defBody sLst) (defScope sLst) .none kVLs dcLs pmLs anLs cdLs ctLs), slLs⟩)
    (cLs : PySem.W.codeIn K cdLs "_least_sums" = true)
    (kLs : PySem.W.keepIn K (.ref fLs) = true)
    (aFs : PySem.W.nsIn K mainGlobals "_first_sum" = some (some (.ref fFs)))
    (lFs : K.lookup fFs = some ⟨ocFs, odFs, .func (PySem.W.fnOf "_first_sum" "_first_sum" (defArgs sFst) (defBody sFst) (defScope sFst) .none kVFs dcFs pmFs anFs cdFs ctFs), slFs⟩)
    (cFs : PySem.W.codeIn K cdFs "_first_sum" = true)
    (kFs : PySem.W.keepIn K (.ref fFs) = true)
    (aSb : PySem.W.nsIn K mainGlobals "_sums_by" = some (some (.ref fSb)))
    (lSb : K.lookup fSb = some ⟨ocSb, odSb, .func (PySem.W.fnOf "_sums_by" "_sums_by" (defArgs sSby) (defBody sSby) (defScope sSby) .none kVSb dcSb pmSb anSb cdSb ctSb), slSb⟩)
    (cSb : PySem.W.codeIn K cdSb "_sums_by" = true)
    (kSb : PySem.W.keepIn K (.ref fSb) = true)
    (aMi : PySem.W.findIn K (.ref CSite) "__init__" = some (some (.ref fMi)))
    (lMi : K.lookup fMi = some ⟨ocMi, odMi, .func (PySem.W.fnOf "__init__" "Site.__init__" (defArgs sSini) (defBody sSini) (defScope sSini) (.ref DTMi) kVMi dcMi pmMi anMi cdMi ctMi), slMi⟩)
    (cMi : PySem.W.codeIn K cdMi "Site.__init__" = true)
    (kMi : PySem.W.keepIn K (.ref fMi) = true)
    (iMi : PySem.W.isFn K (.ref fMi) = true)
    (dMi : K.lookup DTMi = some ⟨xoMi, xdMi, .seq #[.ref aDf] xnMi, xsMi⟩)
    (aTi : PySem.W.findIn K (.ref CTrial) "__init__" = some (some (.ref fTi)))
    (lTi : K.lookup fTi = some ⟨ocTi, odTi, .func (PySem.W.fnOf "__init__" "Trial.__init__" (defArgs sTini) (defBody sTini) (defScope sTini) .none kVTi dcTi pmTi anTi cdTi ctTi), slTi⟩)
    (cTi : PySem.W.codeIn K cdTi "Trial.__init__" = true)
    (kTi : PySem.W.keepIn K (.ref fTi) = true)
    (iTi : PySem.W.isFn K (.ref fTi) = true)
    (aRd : PySem.W.nsIn K mainGlobals "read_site" = some (some (.ref fRd)))
    (lRd : K.lookup fRd = some ⟨ocRd, odRd, .func (PySem.W.fnOf "read_site" "read_site" (defArgs sRd) (defBody sRd) (defScope sRd) .none kVRd dcRd pmRd anRd cdRd ctRd), slRd⟩)
    (cRd : PySem.W.codeIn K cdRd "read_site" = true)
    (kRd : PySem.W.keepIn K (.ref fRd) = true)
    (aNl : PySem.W.nsIn K mainGlobals "_numbered_lines" = some (some (.ref fNl)))
    (lNl : K.lookup fNl = some ⟨ocNl, odNl, .func (PySem.W.fnOf "_numbered_lines" "_numbered_lines" (defArgs sNl) (defBody sNl) (defScope sNl) .none kVNl dcNl pmNl anNl cdNl ctNl), slNl⟩)
    (cNl : PySem.W.codeIn K cdNl "_numbered_lines" = true)
    (kNl : PySem.W.keepIn K (.ref fNl) = true)
    (aIw : PySem.W.nsIn K mainGlobals "_is_wall_line" = some (some (.ref fIw)))
    (lIw : K.lookup fIw = some ⟨ocIw, odIw, .func (PySem.W.fnOf "_is_wall_line" "_is_wall_line" (defArgs sIwl) (defBody sIwl) (defScope sIwl) .none kVIw dcIw pmIw anIw cdIw ctIw), slIw⟩)
    (cIw : PySem.W.codeIn K cdIw "_is_wall_line" = true)
    (kIw : PySem.W.keepIn K (.ref fIw) = true)
    (aIl : PySem.W.nsIn K mainGlobals "_is_link_line" = some (some (.ref fIl)))
    (lIl : K.lookup fIl = some ⟨ocIl, odIl, .func (PySem.W.fnOf "_is_link_line" "_is_link_line" (defArgs sIll) (defBody sIll) (defScope sIll) .none kVIl dcIl pmIl anIl cdIl ctIl), slIl⟩)
    (cIl : PySem.W.codeIn K cdIl "_is_link_line" = true)
    (kIl : PySem.W.keepIn K (.ref fIl) = true)
    (aIn : PySem.W.nsIn K mainGlobals "_is_number" = some (some (.ref fIn)))
    (lIn : K.lookup fIn = some ⟨ocIn, odIn, .func (PySem.W.fnOf "_is_number" "_is_number" (defArgs sIsn) (defBody sIsn) (defScope sIsn) .none kVIn dcIn pmIn anIn cdIn ctIn), slIn⟩)
    (cIn : PySem.W.codeIn K cdIn "_is_number" = true)
    (kIn : PySem.W.keepIn K (.ref fIn) = true)
    (aRt : PySem.W.nsIn K mainGlobals "read_trials" = some (some (.ref fRt)))
    (lRt : K.lookup fRt = some ⟨ocRt, odRt, .func (PySem.W.fnOf "read_trials" "read_trials" (defArgs sRt) (defBody sRt) (defScope sRt) .none kVRt dcRt pmRt anRt cdRt ctRt), slRt⟩)
    (cRt : PySem.W.codeIn K cdRt "read_trials" = true)
    (kRt : PySem.W.keepIn K (.ref fRt) = true)
    (aIt : PySem.W.nsIn K mainGlobals "_is_trial_line" = some (some (.ref fIt)))
    (lIt : K.lookup fIt = some ⟨ocIt, odIt, .func (PySem.W.fnOf "_is_trial_line" "_is_trial_line" (defArgs sItl) (defBody sItl) (defScope sItl) .none kVIt dcIt pmIt anIt cdIt ctIt), slIt⟩)
    (cIt : PySem.W.codeIn K cdIt "_is_trial_line" = true)
    (kIt : PySem.W.keepIn K (.ref fIt) = true)
    (aB : PySem.W.nsIn K mainGlobals "_law_box" = some (some (.ref fB)))
    (lB : K.lookup fB = some ⟨ocB, odB, .func (PySem.W.fnOf "_law_box" "_law_box" (defArgs sBox) (defBody sBox) (defScope sBox) .none kVB dcB pmB anB cdB ctB), slB⟩)
    (cB : PySem.W.codeIn K cdB "_law_box" = true)
    (kB : PySem.W.keepIn K (.ref fB) = true)
    (aT : PySem.W.nsIn K mainGlobals "_law_take" = some (some (.ref fT)))
    (lT : K.lookup fT = some ⟨ocT, odT, .func (PySem.W.fnOf "_law_take" "_law_take" (defArgs sTake) (defBody sTake) (defScope sTake) .none kVT dcT pmT anT cdT ctT), slT⟩)
    (cT : PySem.W.codeIn K cdT "_law_take" = true)
    (kT : PySem.W.keepIn K (.ref fT) = true)
    (aXi : PySem.W.nsIn K mainGlobals "_law_is_number" = some (some (.ref fXi)))
    (lXi : K.lookup fXi = some ⟨ocXi, odXi, .func (PySem.W.fnOf "_law_is_number" "_law_is_number" (defArgs sLi) (defBody sLi) (defScope sLi) .none kVXi dcXi pmXi anXi cdXi ctXi), slXi⟩)
    (cXi : PySem.W.codeIn K cdXi "_law_is_number" = true)
    (kXi : PySem.W.keepIn K (.ref fXi) = true)
    (aXs : PySem.W.nsIn K mainGlobals "_law_site_line" = some (some (.ref fXs)))
    (lXs : K.lookup fXs = some ⟨ocXs, odXs, .func (PySem.W.fnOf "_law_site_line" "_law_site_line" (defArgs sSl) (defBody sSl) (defScope sSl) .none kVXs dcXs pmXs anXs cdXs ctXs), slXs⟩)
    (cXs : PySem.W.codeIn K cdXs "_law_site_line" = true)
    (kXs : PySem.W.keepIn K (.ref fXs) = true)
    (aXt : PySem.W.nsIn K mainGlobals "_law_trial_line" = some (some (.ref fXt)))
    (lXt : K.lookup fXt = some ⟨ocXt, odXt, .func (PySem.W.fnOf "_law_trial_line" "_law_trial_line" (defArgs sTl) (defBody sTl) (defScope sTl) .none kVXt dcXt pmXt anXt cdXt ctXt), slXt⟩)
    (cXt : PySem.W.codeIn K cdXt "_law_trial_line" = true)
    (kXt : PySem.W.keepIn K (.ref fXt) = true)
    (aNw : PySem.W.nsIn K mainGlobals "_law_number_word" = some (some (.ref fNw)))
    (lNw : K.lookup fNw = some ⟨ocNw, odNw, .func (PySem.W.fnOf "_law_number_word" "_law_number_word" (defArgs sNw) (defBody sNw) (defScope sNw) .none kVNw dcNw pmNw anNw cdNw ctNw), slNw⟩)
    (cNw : PySem.W.codeIn K cdNw "_law_number_word" = true)
    (kNw : PySem.W.keepIn K (.ref fNw) = true)
    (aGl : PySem.W.nsIn K mainGlobals "_law_good_lines" = some (some (.ref fGl)))
    (lGl : K.lookup fGl = some ⟨ocGl, odGl, .func (PySem.W.fnOf "_law_good_lines" "_law_good_lines" (defArgs sGl) (defBody sGl) (defScope sGl) .none kVGl dcGl pmGl anGl cdGl ctGl), slGl⟩)
    (cGl : PySem.W.codeIn K cdGl "_law_good_lines" = true)
    (kGl : PySem.W.keepIn K (.ref fGl) = true)
    (aBe : PySem.W.nsIn K mainGlobals "_law_bent" = some (some (.ref fBe)))
    (lBe : K.lookup fBe = some ⟨ocBe, odBe, .func (PySem.W.fnOf "_law_bent" "_law_bent" (defArgs sBe) (defBody sBe) (defScope sBe) .none kVBe dcBe pmBe anBe cdBe ctBe), slBe⟩)
    (cBe : PySem.W.codeIn K cdBe "_law_bent" = true)
    (kBe : PySem.W.keepIn K (.ref fBe) = true)
    (aFb : PySem.W.nsIn K mainGlobals "_law_first_bad" = some (some (.ref fFb)))
    (lFb : K.lookup fFb = some ⟨ocFb, odFb, .func (PySem.W.fnOf "_law_first_bad" "_law_first_bad" (defArgs sFb) (defBody sFb) (defScope sFb) .none kVFb dcFb pmFb anFb cdFb ctFb), slFb⟩)
    (cFb : PySem.W.codeIn K cdFb "_law_first_bad" = true)
    (kFb : PySem.W.keepIn K (.ref fFb) = true)
    (aOu : PySem.W.nsIn K mainGlobals "_law_outcome" = some (some (.ref fOu)))
    (lOu : K.lookup fOu = some ⟨ocOu, odOu, .func (PySem.W.fnOf "_law_outcome" "_law_outcome" (defArgs sOut) (defBody sOut) (defScope sOut) .none kVOu dcOu pmOu anOu cdOu ctOu), slOu⟩)
    (cOu : PySem.W.codeIn K cdOu "_law_outcome" = true)
    (kOu : PySem.W.keepIn K (.ref fOu) = true)
    (aL : PySem.W.nsIn K mainGlobals "law" = some (some (.ref fL)))
    (lL : K.lookup fL = some ⟨ocL, odL, .func (PySem.W.fnOf "law" "law" (defArgs sLaw) (defBody sLaw) (defScope sLaw) .none kVL dcL pmL anL cdL ctL), slL⟩)
    (cL : PySem.W.codeIn K cdL "law" = true)
    (kL : PySem.W.keepIn K (.ref fL) = true)
    (opq : PySem.W.nsIn K cStatics "thirdparty.any" = some none)
    (nsup : PySem.W.nsIn K mainGlobals "super" = some none)
    (aEB : PySem.W.nsIn K mainGlobals "BadNumber" = some (some (.ref CEB)))
    (xEB : K.lookup CEB = some (excClassObj nmEB qEB CEB NEB bsEB bmEB true snEB subEB abEB colEB ddEB m0EB m1EB m2EB m3EB m5EB "ValueError.__new__"))
    (bvEB : PySem.HandSPX.refsVE bmEB = true)
    (saEB : PySem.W.findIn K (.ref CEB) "__setattr__" = some (some (.builtin "object.__setattr__")))
    (gaEB : PySem.W.findIn K (.ref CEB) "__getattribute__" = some (some (.builtin "BaseException.__getattribute__")))
    (ggEB : PySem.W.findIn K (.ref CEB) "__getattr__" = some none)
    (nbEB : PySem.W.findIn K (.ref CEB) "value" = some none)
    (iEB : PySem.W.findIn K (.ref CEB) "__init__" = some (some (.ref fiEB)))
    (tEB : PySem.W.typeIn K (.ref fiEB) = some (.type "function"))
    (lEB : K.lookup fiEB = some ⟨ocEB, odEB, .func (PySem.W.fnX "__init__" "BadNumber.__init__" (defArgs sErr) (defBody sErr) (defScope sErr) [("__class__", ccEB)] .none kVEB dcEB pmEB anEB (.ref cdEB) ctEB), slEB⟩)
    (coEB : PySem.W.codeIn K (.ref cdEB) "BadNumber.__init__" = true)
    (lkEB : K.lookup cdEB = some ⟨ckEB, dkEB, .fields vkEB, skEB⟩)
    (vkEBx : vkEB[2]? = some (.str flEB tfEB))
    (feEB : ((P.main.file : Str) == flEB) = true)
    (leEB : K.lookup ccEB = some ⟨ceEB, deEB, .cell (some (.ref CEB)), seEB⟩)
    (mrEB : PySem.W.mroIn K CEB (.ref CEB) = some true)
    (upEB : PySem.W.ks_superIn K CEB CEB "__init__" = some (some (.builtin "ValueError.__init__")))
    (svEB : PySem.W.subIn K (.ref CEB) (.type "ValueError") = some true)
    (kcEB : PySem.W.keepIn K (.ref CEB) = true)
    (ebEB : PySem.W.subIn K (.ref CEB) (.type "BaseException") = some true)
    (tyEB : PySem.W.typeIn K (.ref CEB) = some (.type "type"))
    (hdEB : PySem.W.hasDictIn K CEB = true)
    (ssEB : PySem.W.subIn K (.ref CEB) (.ref CEB) = some true)
    (aEN : PySem.W.nsIn K mainGlobals "BadName" = some (some (.ref CEN)))
    (xEN : K.lookup CEN = some (excClassObj nmEN qEN CEN NEN bsEN bmEN true snEN subEN abEN colEN ddEN m0EN m1EN m2EN m3EN m5EN "ValueError.__new__"))
    (bvEN : PySem.HandSPX.refsVE bmEN = true)
    (saEN : PySem.W.findIn K (.ref CEN) "__setattr__" = some (some (.builtin "object.__setattr__")))
    (gaEN : PySem.W.findIn K (.ref CEN) "__getattribute__" = some (some (.builtin "BaseException.__getattribute__")))
    (ggEN : PySem.W.findIn K (.ref CEN) "__getattr__" = some none)
    (nbEN : PySem.W.findIn K (.ref CEN) "name" = some none)
    (iEN : PySem.W.findIn K (.ref CEN) "__init__" = some (some (.ref fiEN)))
    (tEN : PySem.W.typeIn K (.ref fiEN) = some (.type "function"))
    (lEN : K.lookup fiEN = some ⟨ocEN, odEN, .func (PySem.W.fnX "__init__" "BadName.__init__" (defArgs sEN) (defBody sEN) (defScope sEN) [("__class__", ccEN)] .none kVEN dcEN pmEN anEN (.ref cdEN) ctEN), slEN⟩)
    (coEN : PySem.W.codeIn K (.ref cdEN) "BadName.__init__" = true)
    (lkEN : K.lookup cdEN = some ⟨ckEN, dkEN, .fields vkEN, skEN⟩)
    (vkENx : vkEN[2]? = some (.str flEN tfEN))
    (feEN : ((P.main.file : Str) == flEN) = true)
    (leEN : K.lookup ccEN = some ⟨ceEN, deEN, .cell (some (.ref CEN)), seEN⟩)
    (mrEN : PySem.W.mroIn K CEN (.ref CEN) = some true)
    (upEN : PySem.W.ks_superIn K CEN CEN "__init__" = some (some (.builtin "ValueError.__init__")))
    (svEN : PySem.W.subIn K (.ref CEN) (.type "ValueError") = some true)
    (kcEN : PySem.W.keepIn K (.ref CEN) = true)
    (ebEN : PySem.W.subIn K (.ref CEN) (.type "BaseException") = some true)
    (tyEN : PySem.W.typeIn K (.ref CEN) = some (.type "type"))
    (hdEN : PySem.W.hasDictIn K CEN = true)
    (ssEN : PySem.W.subIn K (.ref CEN) (.ref CEN) = some true)
    (aET : PySem.W.nsIn K mainGlobals "TakenName" = some (some (.ref CET)))
    (xET : K.lookup CET = some (excClassObj nmET qET CET NET bsET bmET true snET subET abET colET ddET m0ET m1ET m2ET m3ET m5ET "ValueError.__new__"))
    (bvET : PySem.HandSPX.refsVE bmET = true)
    (saET : PySem.W.findIn K (.ref CET) "__setattr__" = some (some (.builtin "object.__setattr__")))
    (gaET : PySem.W.findIn K (.ref CET) "__getattribute__" = some (some (.builtin "BaseException.__getattribute__")))
    (ggET : PySem.W.findIn K (.ref CET) "__getattr__" = some none)
    (nbET : PySem.W.findIn K (.ref CET) "name" = some none)
    (iET : PySem.W.findIn K (.ref CET) "__init__" = some (some (.ref fiET)))
    (tET : PySem.W.typeIn K (.ref fiET) = some (.type "function"))
    (lET : K.lookup fiET = some ⟨ocET, odET, .func (PySem.W.fnX "__init__" "TakenName.__init__" (defArgs sET) (defBody sET) (defScope sET) [("__class__", ccET)] .none kVET dcET pmET anET (.ref cdET) ctET), slET⟩)
    (coET : PySem.W.codeIn K (.ref cdET) "TakenName.__init__" = true)
    (lkET : K.lookup cdET = some ⟨ckET, dkET, .fields vkET, skET⟩)
    (vkETx : vkET[2]? = some (.str flET tfET))
    (feET : ((P.main.file : Str) == flET) = true)
    (leET : K.lookup ccET = some ⟨ceET, deET, .cell (some (.ref CET)), seET⟩)
    (mrET : PySem.W.mroIn K CET (.ref CET) = some true)
    (upET : PySem.W.ks_superIn K CET CET "__init__" = some (some (.builtin "ValueError.__init__")))
    (svET : PySem.W.subIn K (.ref CET) (.type "ValueError") = some true)
    (kcET : PySem.W.keepIn K (.ref CET) = true)
    (ebET : PySem.W.subIn K (.ref CET) (.type "BaseException") = some true)
    (tyET : PySem.W.typeIn K (.ref CET) = some (.type "type"))
    (hdET : PySem.W.hasDictIn K CET = true)
    (ssET : PySem.W.subIn K (.ref CET) (.ref CET) = some true)
    (aEP : PySem.W.nsIn K mainGlobals "NoPlace" = some (some (.ref CEP)))
    (xEP : K.lookup CEP = some (excClassObj nmEP qEP CEP NEP bsEP bmEP true snEP subEP abEP colEP ddEP m0EP m1EP m2EP m3EP m5EP "ValueError.__new__"))
    (bvEP : PySem.HandSPX.refsVE bmEP = true)
    (saEP : PySem.W.findIn K (.ref CEP) "__setattr__" = some (some (.builtin "object.__setattr__")))
    (gaEP : PySem.W.findIn K (.ref CEP) "__getattribute__" = some (some (.builtin "BaseException.__getattribute__")))
    (ggEP : PySem.W.findIn K (.ref CEP) "__getattr__" = some none)
    (nbEP : PySem.W.findIn K (.ref CEP) "place" = some none)
    (iEP : PySem.W.findIn K (.ref CEP) "__init__" = some (some (.ref fiEP)))
    (tEP : PySem.W.typeIn K (.ref fiEP) = some (.type "function"))
    (lEP : K.lookup fiEP = some ⟨ocEP, odEP, .func (PySem.W.fnX "__init__" "NoPlace.__init__" (defArgs sEP) (defBody sEP) (defScope sEP) [("__class__", ccEP)] .none kVEP dcEP pmEP anEP (.ref cdEP) ctEP), slEP⟩)
    (coEP : PySem.W.codeIn K (.ref cdEP) "NoPlace.__init__" = true)
    (lkEP : K.lookup cdEP = some ⟨ckEP, dkEP, .fields vkEP, skEP⟩)
    (vkEPx : vkEP[2]? = some (.str flEP tfEP))
    (feEP : ((P.main.file : Str) == flEP) = true)
    (leEP : K.lookup ccEP = some ⟨ceEP, deEP, .cell (some (.ref CEP)), seEP⟩)
    (mrEP : PySem.W.mroIn K CEP (.ref CEP) = some true)
    (upEP : PySem.W.ks_superIn K CEP CEP "__init__" = some (some (.builtin "ValueError.__init__")))
    (svEP : PySem.W.subIn K (.ref CEP) (.type "ValueError") = some true)
    (kcEP : PySem.W.keepIn K (.ref CEP) = true)
    (ebEP : PySem.W.subIn K (.ref CEP) (.type "BaseException") = some true)
    (tyEP : PySem.W.typeIn K (.ref CEP) = some (.type "type"))
    (hdEP : PySem.W.hasDictIn K CEP = true)
    (ssEP : PySem.W.subIn K (.ref CEP) (.ref CEP) = some true)
    (aEM : PySem.W.nsIn K mainGlobals "TooMany" = some (some (.ref CEM)))
    (xEM : K.lookup CEM = some (excClassObj nmEM qEM CEM NEM bsEM bmEM true snEM subEM abEM colEM ddEM m0EM m1EM m2EM m3EM m5EM "ValueError.__new__"))
    (bvEM : PySem.HandSPX.refsVE bmEM = true)
    (saEM : PySem.W.findIn K (.ref CEM) "__setattr__" = some (some (.builtin "object.__setattr__")))
    (gaEM : PySem.W.findIn K (.ref CEM) "__getattribute__" = some (some (.builtin "BaseException.__getattribute__")))
    (ggEM : PySem.W.findIn K (.ref CEM) "__getattr__" = some none)
    (nbEM : PySem.W.findIn K (.ref CEM) "count" = some none)
    (iEM : PySem.W.findIn K (.ref CEM) "__init__" = some (some (.ref fiEM)))
    (tEM : PySem.W.typeIn K (.ref fiEM) = some (.type "function"))
    (lEM : K.lookup fiEM = some ⟨ocEM, odEM, .func (PySem.W.fnX "__init__" "TooMany.__init__" (defArgs sEM) (defBody sEM) (defScope sEM) [("__class__", ccEM)] .none kVEM dcEM pmEM anEM (.ref cdEM) ctEM), slEM⟩)
    (coEM : PySem.W.codeIn K (.ref cdEM) "TooMany.__init__" = true)
    (lkEM : K.lookup cdEM = some ⟨ckEM, dkEM, .fields vkEM, skEM⟩)
    (vkEMx : vkEM[2]? = some (.str flEM tfEM))
    (feEM : ((P.main.file : Str) == flEM) = true)
    (leEM : K.lookup ccEM = some ⟨ceEM, deEM, .cell (some (.ref CEM)), seEM⟩)
    (mrEM : PySem.W.mroIn K CEM (.ref CEM) = some true)
    (upEM : PySem.W.ks_superIn K CEM CEM "__init__" = some (some (.builtin "ValueError.__init__")))
    (svEM : PySem.W.subIn K (.ref CEM) (.type "ValueError") = some true)
    (kcEM : PySem.W.keepIn K (.ref CEM) = true)
    (ebEM : PySem.W.subIn K (.ref CEM) (.type "BaseException") = some true)
    (tyEM : PySem.W.typeIn K (.ref CEM) = some (.type "type"))
    (hdEM : PySem.W.hasDictIn K CEM = true)
    (ssEM : PySem.W.subIn K (.ref CEM) (.ref CEM) = some true)
    (aES : PySem.W.nsIn K mainGlobals "NoSite" = some (some (.ref CES)))
    (xES : K.lookup CES = some (excClassObj nmES qES CES NES bsES bmES true snES subES abES colES ddES m0ES m1ES m2ES m3ES m5ES "ValueError.__new__"))
    (bvES : PySem.HandSPX.refsVE bmES = true)
    (saES : PySem.W.findIn K (.ref CES) "__setattr__" = some (some (.builtin "object.__setattr__")))
    (gaES : PySem.W.findIn K (.ref CES) "__getattribute__" = some (some (.builtin "BaseException.__getattribute__")))
    (ggES : PySem.W.findIn K (.ref CES) "__getattr__" = some none)
    (nbES : PySem.W.findIn K (.ref CES) "ring" = some none)
    (iES : PySem.W.findIn K (.ref CES) "__init__" = some (some (.ref fiES)))
    (tES : PySem.W.typeIn K (.ref fiES) = some (.type "function"))
    (lES : K.lookup fiES = some ⟨ocES, odES, .func (PySem.W.fnX "__init__" "NoSite.__init__" (defArgs sES) (defBody sES) (defScope sES) [("__class__", ccES)] .none kVES dcES pmES anES (.ref cdES) ctES), slES⟩)
    (coES : PySem.W.codeIn K (.ref cdES) "NoSite.__init__" = true)
    (lkES : K.lookup cdES = some ⟨ckES, dkES, .fields vkES, skES⟩)
    (vkESx : vkES[2]? = some (.str flES tfES))
    (feES : ((P.main.file : Str) == flES) = true)
    (leES : K.lookup ccES = some ⟨ceES, deES, .cell (some (.ref CES)), seES⟩)
    (mrES : PySem.W.mroIn K CES (.ref CES) = some true)
    (upES : PySem.W.ks_superIn K CES CES "__init__" = some (some (.builtin "ValueError.__init__")))
    (svES : PySem.W.subIn K (.ref CES) (.type "ValueError") = some true)
    (kcES : PySem.W.keepIn K (.ref CES) = true)
    (ebES : PySem.W.subIn K (.ref CES) (.type "BaseException") = some true)
    (tyES : PySem.W.typeIn K (.ref CES) = some (.type "type"))
    (hdES : PySem.W.hasDictIn K CES = true)
    (ssES : PySem.W.subIn K (.ref CES) (.ref CES) = some true)
    (aEL : PySem.W.nsIn K mainGlobals "BadLine" = some (some (.ref CEL)))
    (xEL : K.lookup CEL = some (excClassObj nmEL qEL CEL NEL bsEL bmEL true snEL subEL abEL colEL ddEL m0EL m1EL m2EL m3EL m5EL "ValueError.__new__"))
    (bvEL : PySem.HandSPX.refsVE bmEL = true)
    (saEL : PySem.W.findIn K (.ref CEL) "__setattr__" = some (some (.builtin "object.__setattr__")))
    (gaEL : PySem.W.findIn K (.ref CEL) "__getattribute__" = some (some (.builtin "BaseException.__getattribute__")))
    (ggEL : PySem.W.findIn K (.ref CEL) "__getattr__" = some none)
    (nbEL : PySem.W.findIn K (.ref CEL) "line" = some none)
    (iEL : PySem.W.findIn K (.ref CEL) "__init__" = some (some (.ref fiEL)))
    (tEL : PySem.W.typeIn K (.ref fiEL) = some (.type "function"))
    (lEL : K.lookup fiEL = some ⟨ocEL, odEL, .func (PySem.W.fnX "__init__" "BadLine.__init__" (defArgs sEL) (defBody sEL) (defScope sEL) [("__class__", ccEL)] .none kVEL dcEL pmEL anEL (.ref cdEL) ctEL), slEL⟩)
    (coEL : PySem.W.codeIn K (.ref cdEL) "BadLine.__init__" = true)
    (lkEL : K.lookup cdEL = some ⟨ckEL, dkEL, .fields vkEL, skEL⟩)
    (vkELx : vkEL[2]? = some (.str flEL tfEL))
    (feEL : ((P.main.file : Str) == flEL) = true)
    (leEL : K.lookup ccEL = some ⟨ceEL, deEL, .cell (some (.ref CEL)), seEL⟩)
    (mrEL : PySem.W.mroIn K CEL (.ref CEL) = some true)
    (upEL : PySem.W.ks_superIn K CEL CEL "__init__" = some (some (.builtin "ValueError.__init__")))
    (svEL : PySem.W.subIn K (.ref CEL) (.type "ValueError") = some true)
    (kcEL : PySem.W.keepIn K (.ref CEL) = true)
    (ebEL : PySem.W.subIn K (.ref CEL) (.type "BaseException") = some true)
    (tyEL : PySem.W.typeIn K (.ref CEL) = some (.type "type"))
    (hdEL : PySem.W.hasDictIn K CEL = true)
    (ssEL : PySem.W.subIn K (.ref CEL) (.ref CEL) = some true)
    (n_len : PySem.W.nsIn K mainGlobals "len" = some none)
    (n_int : PySem.W.nsIn K mainGlobals "int" = some none)
    (n_range : PySem.W.nsIn K mainGlobals "range" = some none)
    (n_list : PySem.W.nsIn K mainGlobals "list" = some none)
    (n_tuple : PySem.W.nsIn K mainGlobals "tuple" = some none)
    (n_enumerate : PySem.W.nsIn K mainGlobals "enumerate" = some none)
    (n_zip : PySem.W.nsIn K mainGlobals "zip" = some none)
    (n_sum : PySem.W.nsIn K mainGlobals "sum" = some none)
    (n_str : PySem.W.nsIn K mainGlobals "str" = some none)
    (n_all : PySem.W.nsIn K mainGlobals "all" = some none)
    (cPG : PySem.W.plainGet K CSite Str.empty = true)
    (cHD : PySem.W.hasDictIn K CSite = true)
    (cPO : PySem.W.plainOver K CSite = true)
    (cSA : PySem.W.findIn K (.ref CSite) "__setattr__" = some (some (.builtin "object.__setattr__")))
    (cN0 : PySem.W.findIn K (.ref CSite) "_rows" = some none)
    (cN1 : PySem.W.findIn K (.ref CSite) "_links" = some none)
    (cN2 : PySem.W.findIn K (.ref CSite) "_spots" = some none)
    (cN3 : PySem.W.findIn K (.ref CSite) "_places" = some none)
    (cN4 : PySem.W.findIn K (.ref CSite) "_tops" = some none)
    (cN5 : PySem.W.findIn K (.ref CSite) "size" = some none)
    (cN6 : PySem.W.findIn K (.ref CSite) "_told" = some none)
    (cN7 : PySem.W.findIn K (.ref CSite) "_limits" = some none)
    (cMK : PySem.W.makesIn K CSite = true)
    (cKP : PySem.W.keepIn K (.ref CSite) = true)
    (tLT : PySem.W.nsIn K mainGlobals "LETTERS" = some (some (.str letters tkLT)))
    (tLG : PySem.W.nsIn K mainGlobals "LONGEST_NAME" = some (some (.int 12 tkLG)))
    (tMP : PySem.W.nsIn K mainGlobals "MOST_PLACES" = some (some (.int 24 tkMP)))
    (tGR : PySem.W.nsIn K mainGlobals "GROUND" = some (some (.int (-1) tkGR)))
    (sNL : PySem.W.subIn K (.ref CEN) (.ref CEL) = some false)
    (sTL : PySem.W.subIn K (.ref CET) (.ref CEL) = some false)
    (sBL : PySem.W.subIn K (.ref CEB) (.ref CEL) = some false)
    (sML : PySem.W.subIn K (.ref CEM) (.ref CEL) = some false)
    (sPL : PySem.W.subIn K (.ref CEP) (.ref CEL) = some false)
    (sSL : PySem.W.subIn K (.ref CES) (.ref CEL) = some false)
    (sNE : PySem.W.subIn K (.ref CEN) (.ref LE) = some true)
    (sTE : PySem.W.subIn K (.ref CET) (.ref LE) = some true)
    (sBE : PySem.W.subIn K (.ref CEB) (.ref LE) = some true)
    (sME : PySem.W.subIn K (.ref CEM) (.ref LE) = some true)
    (sPE : PySem.W.subIn K (.ref CEP) (.ref LE) = some true)
    (sSE : PySem.W.subIn K (.ref CES) (.ref LE) = some true)
    (ebLE : PySem.W.subIn K (.ref LE) (.type "BaseException") = some true)
    (tyLE : PySem.W.typeIn K (.ref LE) = some (.type "type"))
    (hdLE : PySem.W.hasDictIn K LE = true)
    (tPG : PySem.W.plainGet K CTrial Str.empty = true)
    (tHD : PySem.W.hasDictIn K CTrial = true)
    (tPO : PySem.W.plainOver K CTrial = true)
    (tSA : PySem.W.findIn K (.ref CTrial) "__setattr__" = some (some (.builtin "object.__setattr__")))
    (tMK : PySem.W.makesIn K CTrial = true)
    (tKP : PySem.W.keepIn K (.ref CTrial) = true)
    (tF0 : PySem.W.findIn K (.ref CTrial) "place" = some none)
    (tF1 : PySem.W.findIn K (.ref CTrial) "height" = some none)
    (tF2 : PySem.W.findIn K (.ref CTrial) "reached" = some none)
    (oR : K.lookup aR = some ⟨.type "tuple", ddR, .seq #[.str "reached" tk1, .str "missed" tk2] nR, slR⟩)
    (gD : PySem.W.nsIn K mainGlobals "DIGITS" = some (some (.str "0123456789" tkD)))
    (gM : PySem.W.nsIn K mainGlobals "MOST_DIGITS" = some (some (.int 40 tkM))) :
    ∃ fd : FuncData, (∀ (s : Shared) (v : Value), BindsTo s fd ⟨[v], []⟩ [("_law_script", v)]) ∧ ∀ base : Heap, K.In base → base.Ns mainGlobals mg → FnOk P w K mg base CX0 11 fa fd ["_law_script"] (spLaw K) := by
  have e := hfa.symm.trans (PySem.W.mg_of X G aL)
  cases e
  have FN := fun_mk (st := sCkn) lN cN kN
  have bN := FN.binds (ps := ["name"]) fun _ _ _ _ _ _ us hl => match us, hl with | [_], _ => rfl
  have FK := fun_mk (st := sChk) lK cK kK
  have bK := FK.binds (ps := ["number"]) fun _ _ _ _ _ _ us hl => match us, hl with | [_], _ => rfl
  have FCr := fun_mk (st := sCro) lCr cCr kCr
  have bCr := FCr.binds (ps := ["rows"]) fun _ _ _ _ _ _ us hl => match us, hl with | [_], _ => rfl
  have FCu := fun_mk (st := sCnu) lCu cCu kCu
  have bCu := FCu.binds (ps := ["top", "slope", "spans"]) fun _ _ _ _ _ _ us hl => match us, hl with | [_, _, _], _ => rfl
  have FCl := fun_mk (st := sCli) lCl cCl kCl
  have bCl := FCl.binds (ps := ["links", "size"]) fun _ _ _ _ _ _ us hl => match us, hl with | [_, _], _ => rfl
  have FSo := fun_mk (st := sSpots) lSo cSo kSo
  have bSo := FSo.binds (ps := ["rows"]) fun _ _ _ _ _ _ us hl => match us, hl with | [_], _ => rfl
  have FTo := fun_mk (st := sTops) lTo cTo kTo
  have bTo := FTo.binds (ps := ["rows"]) fun _ _ _ _ _ _ us hl => match us, hl with | [_], _ => rfl
  have FTd := fun_mk (st := sTold) lTd cTd kTd
  have bTd := FTd.binds (ps := ["rows", "tops", "links"]) fun _ _ _ _ _ _ us hl => match us, hl with | [_, _, _], _ => rfl
  have FGr := fun_mk (st := sGrd) lGr cGr kGr
  have bGr := FGr.binds (ps := ["tops"]) fun _ _ _ _ _ _ us hl => match us, hl with | [_], _ => rfl
  have FSl := fun_mk (st := sSlp) lSl cSl kSl
  have bSl := FSl.binds (ps := ["rows"]) fun _ _ _ _ _ _ us hl => match us, hl with | [_], _ => rfl
  have FLk := fun_mk (st := sLnk) lLk cLk kLk
  have bLk := FLk.binds (ps := ["links"]) fun _ _ _ _ _ _ us hl => match us, hl with | [_], _ => rfl
  have FFi := fun_mk (st := sFnd) lFi cFi kFi
  have bFi := FFi.binds (ps := ["size", "told"]) fun _ _ _ _ _ _ us hl => match us, hl with | [_, _], _ => rfl
  have FRb := fun_mk (st := sRgb) lRb cRb kRb
  have bRb := FRb.binds (ps := ["node", "before"]) fun _ _ _ _ _ _ us hl => match us, hl with | [_, _], _ => rfl
  have FLs := fun_mk (st := sLst) lLs cLs kLs
  have bLs := FLs.binds (ps := ["size", "told"]) fun _ _ _ _ _ _ us hl => match us, hl with | [_, _], _ => rfl
  have FFs := fun_mk (st := sFst) lFs cFs kFs
  have bFs := FFs.binds (ps := ["told", "first", "second"]) fun _ _ _ _ _ _ us hl => match us, hl with | [_, _, _], _ => rfl
  have FSb := fun_mk (st := sSby) lSb cSb kSb
  have bSb := FSb.binds (ps := ["row", "step", "onward"]) fun _ _ _ _ _ _ us hl => match us, hl with | [_, _, _], _ => rfl
  have FMi : FunD K "__init__" "Site.__init__" (defArgs sSini) (defBody sSini) (defScope sSini) [.ref aDf] [] fMi _ := ⟨⟨ocMi, odMi, .ref DTMi, kVMi, dcMi, pmMi, anMi, cdMi, ctMi, slMi, rfl, lMi, cMi, .inr ⟨by simp, DTMi, _, [.ref aDf], xnMi, rfl, dMi, rfl, .cons (rfl) (.nil)⟩, .inl rfl⟩, kMi⟩
  obtain ⟨dsMi0, vdMi0, bMi0⟩ := FMi.binds1 (ps := ["self", "walls", "links"]) 2 0 (by simp) rfl fun T kV doc pm an cdv ct us its hu hi => match us, hu, its, hi with | [_, _], _, [_], _ => ⟨_, rfl, rfl⟩
  obtain ⟨dsMi1, vdMi1, bMi1⟩ := FMi.binds1 (ps := ["self", "walls", "links"]) 3 1 (by simp) rfl fun T kV doc pm an cdv ct us its hu hi => match us, hu, its, hi with | [_, _, _], _, [_], _ => ⟨_, rfl, rfl⟩
  cases vdMi1
  have FTi := fun_mk (st := sTini) lTi cTi kTi
  have bTi := FTi.binds (ps := ["self", "place", "height", "reached"]) fun _ _ _ _ _ _ us hl => match us, hl with | [_, _, _, _], _ => rfl
  have FRd := fun_mk (st := sRd) lRd cRd kRd
  have bRd := FRd.binds (ps := ["text"]) fun _ _ _ _ _ _ us hl => match us, hl with | [_], _ => rfl
  have FNl := fun_mk (st := sNl) lNl cNl kNl
  have bNl := FNl.binds (ps := ["text"]) fun _ _ _ _ _ _ us hl => match us, hl with | [_], _ => rfl
  have FIw := fun_mk (st := sIwl) lIw cIw kIw
  have bIw := FIw.binds (ps := ["words"]) fun _ _ _ _ _ _ us hl => match us, hl with | [_], _ => rfl
  have FIl := fun_mk (st := sIll) lIl cIl kIl
  have bIl := FIl.binds (ps := ["words"]) fun _ _ _ _ _ _ us hl => match us, hl with | [_], _ => rfl
  have FIn := fun_mk (st := sIsn) lIn cIn kIn
  have bIn := FIn.binds (ps := ["word"]) fun _ _ _ _ _ _ us hl => match us, hl with | [_], _ => rfl
  have FRt := fun_mk (st := sRt) lRt cRt kRt
  have bRt := FRt.binds (ps := ["text"]) fun _ _ _ _ _ _ us hl => match us, hl with | [_], _ => rfl
  have FIt := fun_mk (st := sItl) lIt cIt kIt
  have bIt := FIt.binds (ps := ["words"]) fun _ _ _ _ _ _ us hl => match us, hl with | [_], _ => rfl
  have FB := fun_mk (st := sBox) lB cB kB
  have bB := FB.binds (ps := ["_law_script"]) fun _ _ _ _ _ _ us hl => match us, hl with | [_], _ => rfl
  have FT := fun_mk (st := sTake) lT cT kT
  have bT := FT.binds (ps := ["_law_box_here", "_law_size"]) fun _ _ _ _ _ _ us hl => match us, hl with | [_, _], _ => rfl
  have FXi := fun_mk (st := sLi) lXi cXi kXi
  have bXi := FXi.binds (ps := ["_law_word"]) fun _ _ _ _ _ _ us hl => match us, hl with | [_], _ => rfl
  have FXs := fun_mk (st := sSl) lXs cXs kXs
  have bXs := FXs.binds (ps := ["_law_words", "_law_linked"]) fun _ _ _ _ _ _ us hl => match us, hl with | [_, _], _ => rfl
  have FXt := fun_mk (st := sTl) lXt cXt kXt
  have bXt := FXt.binds (ps := ["_law_words"]) fun _ _ _ _ _ _ us hl => match us, hl with | [_], _ => rfl
  have FNw := fun_mk (st := sNw) lNw cNw kNw
  have bNw := FNw.binds (ps := ["_law_box_here"]) fun _ _ _ _ _ _ us hl => match us, hl with | [_], _ => rfl
  have FGl := fun_mk (st := sGl) lGl cGl kGl
  have bGl := FGl.binds (ps := ["_law_box_here", "_law_sited"]) fun _ _ _ _ _ _ us hl => match us, hl with | [_, _], _ => rfl
  have FBe := fun_mk (st := sBe) lBe cBe kBe
  have bBe := FBe.binds (ps := ["_law_box_here", "_law_line", "_law_sited"]) fun _ _ _ _ _ _ us hl => match us, hl with | [_, _, _], _ => rfl
  have FFb := fun_mk (st := sFb) lFb cFb kFb
  have bFb := FFb.binds (ps := ["_law_lines", "_law_sited"]) fun _ _ _ _ _ _ us hl => match us, hl with | [_, _], _ => rfl
  have FOu := fun_mk (st := sOut) lOu cOu kOu
  have bOu := FOu.binds (ps := ["_law_text", "_law_sited"]) fun _ _ _ _ _ _ us hl => match us, hl with | [_, _], _ => rfl
  have FL := fun_mk (st := sLaw) lL cL kL
  have bL := FL.binds (ps := ["_law_script"]) fun _ _ _ _ _ _ us hl => match us, hl with | [_], _ => rfl
  have OEB : OexC K CEB := ⟨⟨nmEB, qEB, NEB, bsEB, _, snEB, subEB, abEB, colEB, ddEB, m0EB, m1EB, m2EB, m3EB, m5EB, xEB, bvEB⟩, saEB, ebEB, tyEB, kcEB⟩
  have TEB : ErrTxt P K mg CEB fiEB cdEB ccEB "BadNumber.__init__" sErr := {
    oex := OEB
    iC := iEB
    tI := tEB
    fn := ⟨_, _, _, _, _, _, _, _, lEB⟩
    code := coEB
    file := ⟨_, vkEB, flEB, tfEB, lkEB, rfl, vkEBx, feEB⟩
    cell := ⟨_, leEB, rfl⟩
    self := mrEB
    opaque_ := opq
    up := upEB
    isVE := svEB
    top := htop
    noSup := PySem.W.mg_none_of X G nsup }
  have REB : ∀ base, ErrOk P w K mg base "BadNumber" CEB "value" okInt := fun base => by
    obtain ⟨fd, hfd, hb⟩ := err_int (w := w) (base := base) TEB rfl rfl (nscope_by (by decide +kernel)) (fun _ _ _ _ _ _ _ us hl => match us, hl with | [_, _], _ => rfl) rfl rfl rfl (by decide) (by decide) (by decide) nbEB
    exact ⟨OEB, ⟨gaEB, ggEB, ebEB, hdEB⟩, PySem.W.mg_of X G aEB, nbEB, PySem.W.exm_ref ebEB hdEB tyEB ssEB, ⟨_, fd, iEB, tEB, hfd, hb⟩⟩
  have OEN : OexC K CEN := ⟨⟨nmEN, qEN, NEN, bsEN, _, snEN, subEN, abEN, colEN, ddEN, m0EN, m1EN, m2EN, m3EN, m5EN, xEN, bvEN⟩, saEN, ebEN, tyEN, kcEN⟩
  have TEN : ErrTxt P K mg CEN fiEN cdEN ccEN "BadName.__init__" sEN := {
    oex := OEN
    iC := iEN
    tI := tEN
    fn := ⟨_, _, _, _, _, _, _, _, lEN⟩
    code := coEN
    file := ⟨_, vkEN, flEN, tfEN, lkEN, rfl, vkENx, feEN⟩
    cell := ⟨_, leEN, rfl⟩
    self := mrEN
    opaque_ := opq
    up := upEN
    isVE := svEN
    top := htop
    noSup := PySem.W.mg_none_of X G nsup }
  have REN : ∀ base, ErrOk P w K mg base "BadName" CEN "name" okTxt := fun base => by
    obtain ⟨fd, hfd, hb⟩ := err_txt (w := w) (base := base) TEN rfl rfl (nscope_by (by decide +kernel)) (fun _ _ _ _ _ _ _ us hl => match us, hl with | [_, _], _ => rfl) rfl rfl rfl (by decide) (by decide) (by decide) nbEN
    exact ⟨OEN, ⟨gaEN, ggEN, ebEN, hdEN⟩, PySem.W.mg_of X G aEN, nbEN, PySem.W.exm_ref ebEN hdEN tyEN ssEN, ⟨_, fd, iEN, tEN, hfd, hb⟩⟩
  have OET : OexC K CET := ⟨⟨nmET, qET, NET, bsET, _, snET, subET, abET, colET, ddET, m0ET, m1ET, m2ET, m3ET, m5ET, xET, bvET⟩, saET, ebET, tyET, kcET⟩
  have TET : ErrTxt P K mg CET fiET cdET ccET "TakenName.__init__" sET := {
    oex := OET
    iC := iET
    tI := tET
    fn := ⟨_, _, _, _, _, _, _, _, lET⟩
    code := coET
    file := ⟨_, vkET, flET, tfET, lkET, rfl, vkETx, feET⟩
    cell := ⟨_, leET, rfl⟩
    self := mrET
    opaque_ := opq
    up := upET
    isVE := svET
    top := htop
    noSup := PySem.W.mg_none_of X G nsup }
  have RET : ∀ base, ErrOk P w K mg base "TakenName" CET "name" okTxt := fun base => by
    obtain ⟨fd, hfd, hb⟩ := err_txt (w := w) (base := base) TET rfl rfl (nscope_by (by decide +kernel)) (fun _ _ _ _ _ _ _ us hl => match us, hl with | [_, _], _ => rfl) rfl rfl rfl (by decide) (by decide) (by decide) nbET
    exact ⟨OET, ⟨gaET, ggET, ebET, hdET⟩, PySem.W.mg_of X G aET, nbET, PySem.W.exm_ref ebET hdET tyET ssET, ⟨_, fd, iET, tET, hfd, hb⟩⟩
  have OEP : OexC K CEP := ⟨⟨nmEP, qEP, NEP, bsEP, _, snEP, subEP, abEP, colEP, ddEP, m0EP, m1EP, m2EP, m3EP, m5EP, xEP, bvEP⟩, saEP, ebEP, tyEP, kcEP⟩
  have TEP : ErrTxt P K mg CEP fiEP cdEP ccEP "NoPlace.__init__" sEP := {
    oex := OEP
    iC := iEP
    tI := tEP
    fn := ⟨_, _, _, _, _, _, _, _, lEP⟩
    code := coEP
    file := ⟨_, vkEP, flEP, tfEP, lkEP, rfl, vkEPx, feEP⟩
    cell := ⟨_, leEP, rfl⟩
    self := mrEP
    opaque_ := opq
    up := upEP
    isVE := svEP
    top := htop
    noSup := PySem.W.mg_none_of X G nsup }
  have REP : ∀ base, ErrOk P w K mg base "NoPlace" CEP "place" okInt := fun base => by
    obtain ⟨fd, hfd, hb⟩ := err_int (w := w) (base := base) TEP rfl rfl (nscope_by (by decide +kernel)) (fun _ _ _ _ _ _ _ us hl => match us, hl with | [_, _], _ => rfl) rfl rfl rfl (by decide) (by decide) (by decide) nbEP
    exact ⟨OEP, ⟨gaEP, ggEP, ebEP, hdEP⟩, PySem.W.mg_of X G aEP, nbEP, PySem.W.exm_ref ebEP hdEP tyEP ssEP, ⟨_, fd, iEP, tEP, hfd, hb⟩⟩
  have OEM : OexC K CEM := ⟨⟨nmEM, qEM, NEM, bsEM, _, snEM, subEM, abEM, colEM, ddEM, m0EM, m1EM, m2EM, m3EM, m5EM, xEM, bvEM⟩, saEM, ebEM, tyEM, kcEM⟩
  have TEM : ErrTxt P K mg CEM fiEM cdEM ccEM "TooMany.__init__" sEM := {
    oex := OEM
    iC := iEM
    tI := tEM
    fn := ⟨_, _, _, _, _, _, _, _, lEM⟩
    code := coEM
    file := ⟨_, vkEM, flEM, tfEM, lkEM, rfl, vkEMx, feEM⟩
    cell := ⟨_, leEM, rfl⟩
    self := mrEM
    opaque_ := opq
    up := upEM
    isVE := svEM
    top := htop
    noSup := PySem.W.mg_none_of X G nsup }
  have REM : ∀ base, ErrOk P w K mg base "TooMany" CEM "count" okInt := fun base => by
    obtain ⟨fd, hfd, hb⟩ := err_int (w := w) (base := base) TEM rfl rfl (nscope_by (by decide +kernel)) (fun _ _ _ _ _ _ _ us hl => match us, hl with | [_, _], _ => rfl) rfl rfl rfl (by decide) (by decide) (by decide) nbEM
    exact ⟨OEM, ⟨gaEM, ggEM, ebEM, hdEM⟩, PySem.W.mg_of X G aEM, nbEM, PySem.W.exm_ref ebEM hdEM tyEM ssEM, ⟨_, fd, iEM, tEM, hfd, hb⟩⟩
  have OES : OexC K CES := ⟨⟨nmES, qES, NES, bsES, _, snES, subES, abES, colES, ddES, m0ES, m1ES, m2ES, m3ES, m5ES, xES, bvES⟩, saES, ebES, tyES, kcES⟩
  have TES : ErrTxt P K mg CES fiES cdES ccES "NoSite.__init__" sES := {
    oex := OES
    iC := iES
    tI := tES
    fn := ⟨_, _, _, _, _, _, _, _, lES⟩
    code := coES
    file := ⟨_, vkES, flES, tfES, lkES, rfl, vkESx, feES⟩
    cell := ⟨_, leES, rfl⟩
    self := mrES
    opaque_ := opq
    up := upES
    isVE := svES
    top := htop
    noSup := PySem.W.mg_none_of X G nsup }
  have RES : ∀ base, ErrOkL P w K mg base "NoSite" CES "ring" := fun base => by
    obtain ⟨fd, hfd, hb⟩ := err_lst (w := w) (base := base) TES rfl rfl (nscope_by (by decide +kernel)) (fun _ _ _ _ _ _ _ us hl => match us, hl with | [_, _], _ => rfl) rfl rfl rfl (by decide) (by decide) (by decide) nbES rfl (PySem.W.mg_none_of X G n_list)
    exact ⟨OES, ⟨gaES, ggES, ebES, hdES⟩, PySem.W.mg_of X G aES, nbES, PySem.W.exm_ref ebES hdES tyES ssES, ⟨_, fd, iES, tES, hfd, hb⟩⟩
  have OEL : OexC K CEL := ⟨⟨nmEL, qEL, NEL, bsEL, _, snEL, subEL, abEL, colEL, ddEL, m0EL, m1EL, m2EL, m3EL, m5EL, xEL, bvEL⟩, saEL, ebEL, tyEL, kcEL⟩
  have TEL : ErrTxt P K mg CEL fiEL cdEL ccEL "BadLine.__init__" sEL := {
    oex := OEL
    iC := iEL
    tI := tEL
    fn := ⟨_, _, _, _, _, _, _, _, lEL⟩
    code := coEL
    file := ⟨_, vkEL, flEL, tfEL, lkEL, rfl, vkELx, feEL⟩
    cell := ⟨_, leEL, rfl⟩
    self := mrEL
    opaque_ := opq
    up := upEL
    isVE := svEL
    top := htop
    noSup := PySem.W.mg_none_of X G nsup }
  have REL : ∀ base, ErrOk P w K mg base "BadLine" CEL "line" okInt := fun base => by
    obtain ⟨fd, hfd, hb⟩ := err_int (w := w) (base := base) TEL rfl rfl (nscope_by (by decide +kernel)) (fun _ _ _ _ _ _ _ us hl => match us, hl with | [_, _], _ => rfl) rfl rfl rfl (by decide) (by decide) (by decide) nbEL
    exact ⟨OEL, ⟨gaEL, ggEL, ebEL, hdEL⟩, PySem.W.mg_of X G aEL, nbEL, PySem.W.exm_ref ebEL hdEL tyEL ssEL, ⟨_, fd, iEL, tEL, hfd, hb⟩⟩
  exact ⟨PySem.W.fnOf "law" "law" (defArgs sLaw) (defBody sLaw) (defScope sLaw) .none kVL dcL pmL anL cdL ctL, fun s v => .of_eq rfl, fun base _ _ => by
    have cl : Cls K CSite := ⟨cPG, cHD, cPO, cSA⟩
    have na : ∀ m ∈ (["_rows", "_links", "_spots", "_places", "_tops", "size", "_told", "_limits"] : List Str), NoAttr K CSite m := fun m hm => by
      simp only [List.mem_cons, List.not_mem_nil, or_false] at hm
      rcases hm with rfl | rfl | rfl | rfl | rfl | rfl | rfl | rfl
      · exact cN0
      · exact cN1
      · exact cN2
      · exact cN3
      · exact cN4
      · exact cN5
      · exact cN6
      · exact cN7
    have bt : BoxTxt K mg := ⟨PySem.W.mg_none_of X G n_len, PySem.W.mg_none_of X G n_int⟩
    have TN : NameTxt K mg := { letters := ⟨_, PySem.W.mg_of X G tLT⟩, longest := ⟨_, PySem.W.mg_of X G tLG⟩, len := PySem.W.mg_none_of X G n_len }
    have CT : CkTxt mg fK fN fCu := { chk := PySem.W.mg_of X G aK, ckn := PySem.W.mg_of X G aN, cnu := PySem.W.mg_of X G aCu }
    have ET : EdTxt mg := { ground := ⟨_, PySem.W.mg_of X G tGR⟩, enumerate := PySem.W.mg_none_of X G n_enumerate }
    have TT : ToTxt mg fGr fSl fLk := { grd := PySem.W.mg_of X G aGr, slp := PySem.W.mg_of X G aSl, lnk := PySem.W.mg_of X G aLk }
    have FT2 : FiTxt mg fRb := { ground := ⟨_, PySem.W.mg_of X G tGR⟩, range := PySem.W.mg_none_of X G n_range, rgb := PySem.W.mg_of X G aRb }
    have LS : LsTxt mg fFs fSb := { ground := ⟨_, PySem.W.mg_of X G tGR⟩, range := PySem.W.mg_none_of X G n_range, list := PySem.W.mg_none_of X G n_list, zip := PySem.W.mg_none_of X G n_zip, fst := PySem.W.mg_of X G aFs, sby := PySem.W.mg_of X G aSb }
    have ST : STxt mg := { len := PySem.W.mg_none_of X G n_len, range := PySem.W.mg_none_of X G n_range }
    have SI : SiTxt K mg CSite fCr fSo fTo fCl fTd fFi fLs := { cl := cl, na := na, most := ⟨_, PySem.W.mg_of X G tMP⟩, tuple := PySem.W.mg_none_of X G n_tuple, enumerate := PySem.W.mg_none_of X G n_enumerate, len := PySem.W.mg_none_of X G n_len, cro := PySem.W.mg_of X G aCr, spots := PySem.W.mg_of X G aSo, tops := PySem.W.mg_of X G aTo, cli := PySem.W.mg_of X G aCl, told := PySem.W.mg_of X G aTd, ring := PySem.W.mg_of X G aFi, least := PySem.W.mg_of X G aLs }
    have GCu : FnOk P w K mg base (L2.CX P w) 5 fCu _ ["top", "slope", "spans"] (spCnu K (⟨CEN, CET, CEB, CEM, CEN, CEP, CES⟩ : Errs)) := ok_cnu (w := w) (base := base) (C := (⟨CEN, CET, CEB, CEM, CEN, CEP, CES⟩ : Errs)) FCu (REB base) FK bK CT
    have GCr : FnOk P w K mg base (L2.CX P w) 6 fCr _ ["rows"] (spCro K (⟨CEN, CET, CEB, CEM, CEN, CEP, CES⟩ : Errs)) := ok_cro (w := w) (base := base) (C := (⟨CEN, CET, CEB, CEM, CEN, CEP, CES⟩ : Errs)) FCr (REN base) (RET base) (REB base) FK bK FN bN FCu bCu CT TN
    have GCl : FnOk P w K mg base (L2.CX P w) 4 fCl _ ["links", "size"] (spCli K (⟨CEN, CET, CEB, CEM, CEN, CEP, CES⟩ : Errs)) := ok_cli (w := w) (base := base) (C := (⟨CEN, CET, CEB, CEM, CEN, CEP, CES⟩ : Errs)) FCl (REP base)
    have GSo : FnOk P w K mg base CX0 1 fSo _ ["rows"] (spSpots K) := ok_spots FSo ST
    have GTo : FnOk P w K mg base CX0 1 fTo _ ["rows"] (spTops K) := ok_tops FTo ST
    have GGr : FnOk P w K mg base CX0 1 fGr _ ["tops"] spGrd := ok_grd FGr ET
    have GSl : FnOk P w K mg base CX0 1 fSl _ ["rows"] (spSlp K) := ok_slp FSl
    have GLk : FnOk P w K mg base CX0 1 fLk _ ["links"] (spLnk K) := ok_lnk FLk
    have GTd : FnOk P w K mg base CX0 2 fTd _ ["rows", "tops", "links"] (spTold K) := ok_told FTd TT GGr FGr bGr GSl FSl bSl GLk FLk bLk
    have GRb : FnOk P w K mg base CX0 1 fRb _ ["node", "before"] spRgb := ok_rgb2 FRb { b_len := PySem.W.mg_none_of X G n_len, b_range := PySem.W.mg_none_of X G n_range }
    have GFi : FnOk P w K mg base CX0 2 fFi _ ["size", "told"] spFnd2 := ok_fnd2 FFi FT2 GRb FRb bRb
    have GLs : FnOk P w K mg base CX0 2 fLs _ ["size", "told"] spLst := ok_lst FLs LS FFs bFs FSb bSb
    have GI0 : FnOk P w K mg base (L2.CX P w) 7 fMi _ ["self", "walls", "links"] (spSini2 K (⟨CEN, CET, CEB, CEM, CEN, CEP, CES⟩ : Errs) CSite) := ok_sini2 (w := w) (base := base) (C := (⟨CEN, CET, CEB, CEM, CEN, CEP, CES⟩ : Errs)) FMi (REM base) (RES base) GCr FCr bCr GSo FSo bSo GTo FTo bTo GCl FCl bCl GTd FTd bTd GFi FFi bFi GLs FLs bLs SI
    have GI2 : FnR P w K mg base (L2.CX P w) 7 fMi (spSini2 K (⟨CEN, CET, CEB, CEM, CEN, CEP, CES⟩ : Errs) CSite) := Own.fnr0 GI0 bMi1
    have MK : Mk K CSite fMi := ⟨cMK, aMi, iMi, cKP⟩
    have GB : FnOk P w K mg base CX0 1 fB _ ["_law_script"] (spBox K) := ok_box FB bt
    have GT : FnOk P w K mg base CX0 1 fT _ ["_law_box_here", "_law_size"] spTake := ok_take FT bt
    have GIn : FnOk P w K mg base CX0 1 fIn _ ["word"] spIsn := ok_isn FIn { digits := ⟨_, PySem.W.mg_of X G gD⟩, most := ⟨_, PySem.W.mg_of X G gM⟩, b_len := PySem.W.mg_none_of X G n_len, b_all := PySem.W.mg_none_of X G n_all }
    have GIw : FnOk P w K mg base CX0 2 fIw _ ["words"] spIwl := ok_iwl FIw GIn FIn bIn { num := PySem.W.mg_of X G aIn, b_len := PySem.W.mg_none_of X G n_len, b_all := PySem.W.mg_none_of X G n_all }
    have GIl : FnOk P w K mg base CX0 2 fIl _ ["words"] spIll := ok_ill FIl GIn FIn bIn { num := PySem.W.mg_of X G aIn, b_len := PySem.W.mg_none_of X G n_len, b_all := PySem.W.mg_none_of X G n_all }
    have GNl : FnOk P w K mg base CX0 1 fNl _ ["text"] spNl := ok_nl FNl { b_enum := PySem.W.mg_none_of X G n_enumerate }
    have GRd : FnOk P w K mg base (L2.CX P w) 9 fRd _ ["text"] (spRd K (⟨CEN, CET, CEB, CEM, CEN, CEP, CES⟩ : Errs) CEL CSite) := ok_rd (C := (⟨CEN, CET, CEB, CEM, CEN, CEP, CES⟩ : Errs)) FRd (REL base) GNl FNl bNl GIw FIw bIw GIl FIl bIl MK GI2 { nl := PySem.W.mg_of X G aNl, iwl := PySem.W.mg_of X G aIw, ill := PySem.W.mg_of X G aIl, site := PySem.W.mg_of X G aCS, b_int := PySem.W.mg_none_of X G n_int, b_tuple := PySem.W.mg_none_of X G n_tuple }
    have clT : Cls K CTrial := ⟨tPG, tHD, tPO, tSA⟩
    have TTr : TriTxt K mg CTrial := { cl := clT, nP := tF0, nH := tF1, nR := tF2 }
    have MKT : Mk K CTrial fTi := ⟨tMK, aTi, iTi, tKP⟩
    have GTi := Own.fnr0 (ok_tini (P := P) (w := w) (base := base) FTi TTr) bTi
    have hR : ∀ H : Hp, SqT K H aR [.str "reached", .str "missed"] := fun H => .inr ⟨_, #[.str "reached" tk1, .str "missed" tk2], nR, oR, rfl, rfl, by show 2 ≤ sizeLine; decide, .cons ⟨_, rfl⟩ (.cons ⟨_, rfl⟩ .nil)⟩
    have GIt : FnOk P w K mg base CX0 2 fIt _ ["words"] spItl := ok_itl FIt GIn FIn bIn { num := PySem.W.mg_of X G aIn, res := PySem.W.mg_of X G gR, b_len := PySem.W.mg_none_of X G n_len } hR
    have GRt : FnOk P w K mg base (L2.CX P w) 4 fRt _ ["text"] (spRt CEL) := ok_rt FRt (REL base) GNl FNl bNl GIt FIt bIt MKT GTi { nl := PySem.W.mg_of X G aNl, itl := PySem.W.mg_of X G aIt, tri := PySem.W.mg_of X G aCT, b_int := PySem.W.mg_none_of X G n_int }
    have AP : ApartQ K (⟨CEN, CET, CEB, CEM, CEN, CEP, CES⟩ : Errs) CEL LE := { n := PySem.W.exm_ref ebEL hdEL tyEL sNL, t := PySem.W.exm_ref ebEL hdEL tyEL sTL, b := PySem.W.exm_ref ebEL hdEL tyEL sBL, m := PySem.W.exm_ref ebEL hdEL tyEL sML, p := PySem.W.exm_ref ebEL hdEL tyEL sPL, s := PySem.W.exm_ref ebEL hdEL tyEL sSL, n' := PySem.W.exm_ref ebLE hdLE tyLE sNE, t' := PySem.W.exm_ref ebLE hdLE tyLE sTE, b' := PySem.W.exm_ref ebLE hdLE tyLE sBE, m' := PySem.W.exm_ref ebLE hdLE tyLE sME, p' := PySem.W.exm_ref ebLE hdLE tyLE sPE, s' := PySem.W.exm_ref ebLE hdLE tyLE sSE }
    have GXi : FnOk P w K mg base CX0 1 fXi _ ["_law_word"] spLi := ok_li FXi { b_len := PySem.W.mg_none_of X G n_len }
    have GXs : FnOk P w K mg base CX0 2 fXs _ ["_law_words", "_law_linked"] spSl := ok_sl FXs GXi FXi bXi { isn := PySem.W.mg_of X G aXi, b_len := PySem.W.mg_none_of X G n_len }
    have GXt : FnOk P w K mg base CX0 2 fXt _ ["_law_words"] spTl := ok_tl FXt GXi FXi bXi { isn := PySem.W.mg_of X G aXi, b_len := PySem.W.mg_none_of X G n_len }
    have GNw : FnOk P w K mg base CX0 2 fNw _ ["_law_box_here"] spNw := ok_nw FNw GT FT bT { take := PySem.W.mg_of X G aT, b_str := PySem.W.mg_none_of X G n_str }
    have GGl : FnOk P w K mg base CX0 3 fGl _ ["_law_box_here", "_law_sited"] spGl := ok_gl FGl GT FT bT GNw FNw bNw { take := PySem.W.mg_of X G aT, nw := PySem.W.mg_of X G aNw, b_str := PySem.W.mg_none_of X G n_str, b_len := PySem.W.mg_none_of X G n_len, b_range := PySem.W.mg_none_of X G n_range }
    have GBe : FnOk P w K mg base CX0 2 fBe _ ["_law_box_here", "_law_line", "_law_sited"] spBe := ok_be FBe GT FT bT { take := PySem.W.mg_of X G aT, b_len := PySem.W.mg_none_of X G n_len }
    have GFb : FnOk P w K mg base CX0 3 fFb _ ["_law_lines", "_law_sited"] spFb := ok_fb FFb GXt FXt bXt GXs FXs bXs { tl := PySem.W.mg_of X G aXt, sl := PySem.W.mg_of X G aXs, b_len := PySem.W.mg_none_of X G n_len, b_range := PySem.W.mg_none_of X G n_range }
    have GOu : FnOk P w K mg base CX0 10 fOu _ ["_law_text", "_law_sited"] spOut := ok_out (C := (⟨CEN, CET, CEB, CEM, CEN, CEP, CES⟩ : Errs)) FOu (REL base) GRd FRd bRd GRt FRt bRt AP { rd := PySem.W.mg_of X G aRd, rt := PySem.W.mg_of X G aRt, le := PySem.W.mg_of X G aLE }
    exact ok_law FL { box := PySem.W.mg_of X G aB, take := PySem.W.mg_of X G aT, gl := PySem.W.mg_of X G aGl, be := PySem.W.mg_of X G aBe, fb := PySem.W.mg_of X G aFb, ou := PySem.W.mg_of X G aOu, b_len := PySem.W.mg_none_of X G n_len, b_list := PySem.W.mg_none_of X G n_list, b_range := PySem.W.mg_none_of X G n_range }
      GB FB bB GT FT bT GGl FGl bGl GBe FBe bBe GFb FFb bFb GOu FOu bOu⟩
end Law

/-! The end: the facts, the run of the top, the last theorem. -/
namespace Law
open PySem PySem.Spec PyProof.Rows L2 Sup NdefX
open HkE
theorem all_ok {P : Program} {w : World} {K : PySem.W.Frag} {h : Heap} {mg : Str → Option Value} {fa : Addr} (X : K.In h) (G : h.Ns mainGlobals mg) (hfa : mg "law" = some (.ref fa)) (htop : (P.main.scope.names.lookup ("super" : Str)).isSome = false) (hP : (P.main.file : Str) = fileH)
    (c : Hk.Says fx fn K) :
    ∃ fd : FuncData, (∀ (s : Shared) (v : Value), BindsTo s fd ⟨[v], []⟩ [("_law_script", v)]) ∧ ∀ base : Heap, K.In base → base.Ns mainGlobals mg → FnOk P w K mg base CX0 11 fa fd ["_law_script"] (spLaw K) := by
  obtain ⟨ocN, odN, slN, kVN, dcN, pmN, anN, cdN, ctN, lN, cN⟩ := Hk.def_ok (show Hk.fnE K 188 = Hk.sig "check_name" "check_name" sCkn [] from c.fn_ 0 rfl) (c.fact (f := fk0) 0 rfl)
  obtain ⟨ocK, odK, slK, kVK, dcK, pmK, anK, cdK, ctK, lK, cK⟩ := Hk.def_ok (show Hk.fnE K 195 = Hk.sig "check_not_negative" "check_not_negative" sChk [] from c.fn_ 1 rfl) (c.fact (f := fk1) 1 rfl)
  obtain ⟨ocCr, odCr, slCr, kVCr, dcCr, pmCr, anCr, cdCr, ctCr, lCr, cCr⟩ := Hk.def_ok (show Hk.fnE K 320 = Hk.sig "_check_rows" "_check_rows" sCro [] from c.fn_ 2 rfl) (c.fact (f := fk2) 2 rfl)
  obtain ⟨ocCu, odCu, slCu, kVCu, dcCu, pmCu, anCu, cdCu, ctCu, lCu, cCu⟩ := Hk.def_ok (show Hk.fnE K 327 = Hk.sig "_check_numbers" "_check_numbers" sCnu [] from c.fn_ 3 rfl) (c.fact (f := fk3) 3 rfl)
  obtain ⟨ocCl, odCl, slCl, kVCl, dcCl, pmCl, anCl, cdCl, ctCl, lCl, cCl⟩ := Hk.def_ok (show Hk.fnE K 334 = Hk.sig "_check_links" "_check_links" sCli [] from c.fn_ 4 rfl) (c.fact (f := fk4) 4 rfl)
  obtain ⟨ocSo, odSo, slSo, kVSo, dcSo, pmSo, anSo, cdSo, ctSo, lSo, cSo⟩ := Hk.def_ok (show Hk.fnE K 339 = Hk.sig "_spots_of" "_spots_of" sSpots [] from c.fn_ 5 rfl) (c.fact (f := fk5) 5 rfl)
  obtain ⟨ocTo, odTo, slTo, kVTo, dcTo, pmTo, anTo, cdTo, ctTo, lTo, cTo⟩ := Hk.def_ok (show Hk.fnE K 344 = Hk.sig "_tops_of" "_tops_of" sTops [] from c.fn_ 6 rfl) (c.fact (f := fk6) 6 rfl)
  obtain ⟨ocTd, odTd, slTd, kVTd, dcTd, pmTd, anTd, cdTd, ctTd, lTd, cTd⟩ := Hk.def_ok (show Hk.fnE K 351 = Hk.sig "_told_limits" "_told_limits" sTold [] from c.fn_ 7 rfl) (c.fact (f := fk7) 7 rfl)
  obtain ⟨ocGr, odGr, slGr, kVGr, dcGr, pmGr, anGr, cdGr, ctGr, lGr, cGr⟩ := Hk.def_ok (show Hk.fnE K 358 = Hk.sig "_ground_limits" "_ground_limits" sGrd [] from c.fn_ 8 rfl) (c.fact (f := fk8) 8 rfl)
  obtain ⟨ocSl, odSl, slSl, kVSl, dcSl, pmSl, anSl, cdSl, ctSl, lSl, cSl⟩ := Hk.def_ok (show Hk.fnE K 365 = Hk.sig "_slope_limits" "_slope_limits" sSlp [] from c.fn_ 9 rfl) (c.fact (f := fk9) 9 rfl)
  obtain ⟨ocLk, odLk, slLk, kVLk, dcLk, pmLk, anLk, cdLk, ctLk, lLk, cLk⟩ := Hk.def_ok (show Hk.fnE K 372 = Hk.sig "_link_limits" "_link_limits" sLnk [] from c.fn_ 10 rfl) (c.fact (f := fk10) 10 rfl)
  obtain ⟨ocFi, odFi, slFi, kVFi, dcFi, pmFi, anFi, cdFi, ctFi, lFi, cFi⟩ := Hk.def_ok (show Hk.fnE K 377 = Hk.sig "_find_ring" "_find_ring" sFnd [] from c.fn_ 11 rfl) (c.fact (f := fk11) 11 rfl)
  obtain ⟨ocRb, odRb, slRb, kVRb, dcRb, pmRb, anRb, cdRb, ctRb, lRb, cRb⟩ := Hk.def_ok (show Hk.fnE K 384 = Hk.sig "_ring_behind" "_ring_behind" sRgb [] from c.fn_ 12 rfl) (c.fact (f := fk12) 12 rfl)
  obtain ⟨ocLs, odLs, slLs, kVLs, dcLs, pmLs, anLs, cdLs, ctLs, lLs, cLs⟩ := Hk.def_ok (show Hk.fnE K 389 = Hk.sig "_least_sums" "_least_sums" sLst [] from c.fn_ 13 rfl) (c.fact (f := fk13) 13 rfl)
  obtain ⟨ocFs, odFs, slFs, kVFs, dcFs, pmFs, anFs, cdFs, ctFs, lFs, cFs⟩ := Hk.def_ok (show Hk.fnE K 396 = Hk.sig "_first_sum" "_first_sum" sFst [] from c.fn_ 14 rfl) (c.fact (f := fk14) 14 rfl)
  obtain ⟨ocSb, odSb, slSb, kVSb, dcSb, pmSb, anSb, cdSb, ctSb, lSb, cSb⟩ := Hk.def_ok (show Hk.fnE K 401 = Hk.sig "_sums_by" "_sums_by" sSby [] from c.fn_ 15 rfl) (c.fact (f := fk15) 15 rfl)
  obtain ⟨ocMi, odMi, slMi, kVMi, dcMi, pmMi, anMi, cdMi, ctMi, DTMi, xoMi, xdMi, xsMi, xnMi, aDf, lMi, cMi, dMi⟩ := Hk.dfl1_ok (show Hk.fnE K 209 = Hk.sig "__init__" "Site.__init__" sSini [] from c.fn_ 16 rfl) (c.fact (f := fk16) 16 rfl)
  obtain ⟨ocTi, odTi, slTi, kVTi, dcTi, pmTi, anTi, cdTi, ctTi, lTi, cTi⟩ := Hk.def_ok (show Hk.fnE K 415 = Hk.sig "__init__" "Trial.__init__" sTini [] from c.fn_ 17 rfl) (c.fact (f := fk17) 17 rfl)
  obtain ⟨ocRd, odRd, slRd, kVRd, dcRd, pmRd, anRd, cdRd, ctRd, lRd, cRd⟩ := Hk.def_ok (show Hk.fnE K 466 = Hk.sig "read_site" "read_site" sRd [] from c.fn_ 18 rfl) (c.fact (f := fk18) 18 rfl)
  obtain ⟨ocNl, odNl, slNl, kVNl, dcNl, pmNl, anNl, cdNl, ctNl, lNl, cNl⟩ := Hk.def_ok (show Hk.fnE K 478 = Hk.sig "_numbered_lines" "_numbered_lines" sNl [] from c.fn_ 19 rfl) (c.fact (f := fk19) 19 rfl)
  obtain ⟨ocIw, odIw, slIw, kVIw, dcIw, pmIw, anIw, cdIw, ctIw, lIw, cIw⟩ := Hk.def_ok (show Hk.fnE K 483 = Hk.sig "_is_wall_line" "_is_wall_line" sIwl [] from c.fn_ 20 rfl) (c.fact (f := fk20) 20 rfl)
  obtain ⟨ocIl, odIl, slIl, kVIl, dcIl, pmIl, anIl, cdIl, ctIl, lIl, cIl⟩ := Hk.def_ok (show Hk.fnE K 488 = Hk.sig "_is_link_line" "_is_link_line" sIll [] from c.fn_ 21 rfl) (c.fact (f := fk21) 21 rfl)
  obtain ⟨ocIn, odIn, slIn, kVIn, dcIn, pmIn, anIn, cdIn, ctIn, lIn, cIn⟩ := Hk.def_ok (show Hk.fnE K 500 = Hk.sig "_is_number" "_is_number" sIsn [] from c.fn_ 22 rfl) (c.fact (f := fk22) 22 rfl)
  obtain ⟨ocRt, odRt, slRt, kVRt, dcRt, pmRt, anRt, cdRt, ctRt, lRt, cRt⟩ := Hk.def_ok (show Hk.fnE K 473 = Hk.sig "read_trials" "read_trials" sRt [] from c.fn_ 23 rfl) (c.fact (f := fk23) 23 rfl)
  obtain ⟨ocIt, odIt, slIt, kVIt, dcIt, pmIt, anIt, cdIt, ctIt, lIt, cIt⟩ := Hk.def_ok (show Hk.fnE K 495 = Hk.sig "_is_trial_line" "_is_trial_line" sItl [] from c.fn_ 24 rfl) (c.fact (f := fk24) 24 rfl)
  obtain ⟨ocB, odB, slB, kVB, dcB, pmB, anB, cdB, ctB, lB, cB⟩ := Hk.def_ok (show Hk.fnE K 505 = Hk.sig "_law_box" "_law_box" sBox [] from c.fn_ 25 rfl) (c.fact (f := fk25) 25 rfl)
  obtain ⟨ocT, odT, slT, kVT, dcT, pmT, anT, cdT, ctT, lT, cT⟩ := Hk.def_ok (show Hk.fnE K 512 = Hk.sig "_law_take" "_law_take" sTake [] from c.fn_ 26 rfl) (c.fact (f := fk26) 26 rfl)
  obtain ⟨ocXi, odXi, slXi, kVXi, dcXi, pmXi, anXi, cdXi, ctXi, lXi, cXi⟩ := Hk.def_ok (show Hk.fnE K 517 = Hk.sig "_law_is_number" "_law_is_number" sLi [] from c.fn_ 27 rfl) (c.fact (f := fk27) 27 rfl)
  obtain ⟨ocXs, odXs, slXs, kVXs, dcXs, pmXs, anXs, cdXs, ctXs, lXs, cXs⟩ := Hk.def_ok (show Hk.fnE K 522 = Hk.sig "_law_site_line" "_law_site_line" sSl [] from c.fn_ 28 rfl) (c.fact (f := fk28) 28 rfl)
  obtain ⟨ocXt, odXt, slXt, kVXt, dcXt, pmXt, anXt, cdXt, ctXt, lXt, cXt⟩ := Hk.def_ok (show Hk.fnE K 529 = Hk.sig "_law_trial_line" "_law_trial_line" sTl [] from c.fn_ 29 rfl) (c.fact (f := fk29) 29 rfl)
  obtain ⟨ocNw, odNw, slNw, kVNw, dcNw, pmNw, anNw, cdNw, ctNw, lNw, cNw⟩ := Hk.def_ok (show Hk.fnE K 536 = Hk.sig "_law_number_word" "_law_number_word" sNw [] from c.fn_ 30 rfl) (c.fact (f := fk30) 30 rfl)
  obtain ⟨ocGl, odGl, slGl, kVGl, dcGl, pmGl, anGl, cdGl, ctGl, lGl, cGl⟩ := Hk.def_ok (show Hk.fnE K 543 = Hk.sig "_law_good_lines" "_law_good_lines" sGl [] from c.fn_ 31 rfl) (c.fact (f := fk31) 31 rfl)
  obtain ⟨ocBe, odBe, slBe, kVBe, dcBe, pmBe, anBe, cdBe, ctBe, lBe, cBe⟩ := Hk.def_ok (show Hk.fnE K 550 = Hk.sig "_law_bent" "_law_bent" sBe [] from c.fn_ 32 rfl) (c.fact (f := fk32) 32 rfl)
  obtain ⟨ocFb, odFb, slFb, kVFb, dcFb, pmFb, anFb, cdFb, ctFb, lFb, cFb⟩ := Hk.def_ok (show Hk.fnE K 557 = Hk.sig "_law_first_bad" "_law_first_bad" sFb [] from c.fn_ 33 rfl) (c.fact (f := fk33) 33 rfl)
  obtain ⟨ocOu, odOu, slOu, kVOu, dcOu, pmOu, anOu, cdOu, ctOu, lOu, cOu⟩ := Hk.def_ok (show Hk.fnE K 564 = Hk.sig "_law_outcome" "_law_outcome" sOut [] from c.fn_ 34 rfl) (c.fact (f := fk34) 34 rfl)
  obtain ⟨ocL, odL, slL, kVL, dcL, pmL, anL, cdL, ctL, lL, cL⟩ := Hk.def_ok (show Hk.fnE K 571 = Hk.sig "law" "law" sLaw [] from c.fn_ 35 rfl) (c.fact (f := fk35) 35 rfl)
  obtain ⟨nmEB, qEB, NEB, bsEB, bmEB, snEB, subEB, abEB, colEB, ddEB, m0EB, m1EB, m2EB, m3EB, m5EB, xEB, bvEB⟩ := Hk.exc_ok (c.fact (f := fk36) 36 rfl)
  obtain ⟨ocEB, odEB, slEB, kVEB, dcEB, pmEB, anEB, cdEB, ctEB, ccEB, ckEB, dkEB, vkEB, skEB, tfEB, ceEB, deEB, seEB, lEB, coEB, lkEB, vkEBx, leEB⟩ := Hk.err_ok (show Hk.fnE K 50 = Hk.sig "__init__" "BadNumber.__init__" sErr ["__class__"] from c.fn_ 36 rfl) (c.fact (f := fk37) 37 rfl)
  obtain ⟨nmEN, qEN, NEN, bsEN, bmEN, snEN, subEN, abEN, colEN, ddEN, m0EN, m1EN, m2EN, m3EN, m5EN, xEN, bvEN⟩ := Hk.exc_ok (c.fact (f := fk38) 38 rfl)
  obtain ⟨ocEN, odEN, slEN, kVEN, dcEN, pmEN, anEN, cdEN, ctEN, ccEN, ckEN, dkEN, vkEN, skEN, tfEN, ceEN, deEN, seEN, lEN, coEN, lkEN, vkENx, leEN⟩ := Hk.err_ok (show Hk.fnE K 71 = Hk.sig "__init__" "BadName.__init__" sEN ["__class__"] from c.fn_ 37 rfl) (c.fact (f := fk39) 39 rfl)
  obtain ⟨nmET, qET, NET, bsET, bmET, snET, subET, abET, colET, ddET, m0ET, m1ET, m2ET, m3ET, m5ET, xET, bvET⟩ := Hk.exc_ok (c.fact (f := fk40) 40 rfl)
  obtain ⟨ocET, odET, slET, kVET, dcET, pmET, anET, cdET, ctET, ccET, ckET, dkET, vkET, skET, tfET, ceET, deET, seET, lET, coET, lkET, vkETx, leET⟩ := Hk.err_ok (show Hk.fnE K 92 = Hk.sig "__init__" "TakenName.__init__" sET ["__class__"] from c.fn_ 38 rfl) (c.fact (f := fk41) 41 rfl)
  obtain ⟨nmEP, qEP, NEP, bsEP, bmEP, snEP, subEP, abEP, colEP, ddEP, m0EP, m1EP, m2EP, m3EP, m5EP, xEP, bvEP⟩ := Hk.exc_ok (c.fact (f := fk42) 42 rfl)
  obtain ⟨ocEP, odEP, slEP, kVEP, dcEP, pmEP, anEP, cdEP, ctEP, ccEP, ckEP, dkEP, vkEP, skEP, tfEP, ceEP, deEP, seEP, lEP, coEP, lkEP, vkEPx, leEP⟩ := Hk.err_ok (show Hk.fnE K 113 = Hk.sig "__init__" "NoPlace.__init__" sEP ["__class__"] from c.fn_ 39 rfl) (c.fact (f := fk43) 43 rfl)
  obtain ⟨nmEM, qEM, NEM, bsEM, bmEM, snEM, subEM, abEM, colEM, ddEM, m0EM, m1EM, m2EM, m3EM, m5EM, xEM, bvEM⟩ := Hk.exc_ok (c.fact (f := fk44) 44 rfl)
  obtain ⟨ocEM, odEM, slEM, kVEM, dcEM, pmEM, anEM, cdEM, ctEM, ccEM, ckEM, dkEM, vkEM, skEM, tfEM, ceEM, deEM, seEM, lEM, coEM, lkEM, vkEMx, leEM⟩ := Hk.err_ok (show Hk.fnE K 134 = Hk.sig "__init__" "TooMany.__init__" sEM ["__class__"] from c.fn_ 40 rfl) (c.fact (f := fk45) 45 rfl)
  obtain ⟨nmES, qES, NES, bsES, bmES, snES, subES, abES, colES, ddES, m0ES, m1ES, m2ES, m3ES, m5ES, xES, bvES⟩ := Hk.exc_ok (c.fact (f := fk46) 46 rfl)
  obtain ⟨ocES, odES, slES, kVES, dcES, pmES, anES, cdES, ctES, ccES, ckES, dkES, vkES, skES, tfES, ceES, deES, seES, lES, coES, lkES, vkESx, leES⟩ := Hk.err_ok (show Hk.fnE K 155 = Hk.sig "__init__" "NoSite.__init__" sES ["__class__"] from c.fn_ 41 rfl) (c.fact (f := fk47) 47 rfl)
  obtain ⟨nmEL, qEL, NEL, bsEL, bmEL, snEL, subEL, abEL, colEL, ddEL, m0EL, m1EL, m2EL, m3EL, m5EL, xEL, bvEL⟩ := Hk.exc_ok (c.fact (f := fk48) 48 rfl)
  obtain ⟨ocEL, odEL, slEL, kVEL, dcEL, pmEL, anEL, cdEL, ctEL, ccEL, ckEL, dkEL, vkEL, skEL, tfEL, ceEL, deEL, seEL, lEL, coEL, lkEL, vkELx, leEL⟩ := Hk.err_ok (show Hk.fnE K 176 = Hk.sig "__init__" "BadLine.__init__" sEL ["__class__"] from c.fn_ 42 rfl) (c.fact (f := fk49) 49 rfl)
  obtain ⟨tkLT, tLT⟩ := Hk.str_ok (c.fact (f := fk259) 259 rfl)
  obtain ⟨tkLG, tLG⟩ := Hk.int_ok (c.fact (f := fk260) 260 rfl)
  obtain ⟨tkMP, tMP⟩ := Hk.int_ok (c.fact (f := fk261) 261 rfl)
  obtain ⟨tkGR, tGR⟩ := Hk.int_ok (c.fact (f := fk262) 262 rfl)
  obtain ⟨ddR, tk1, tk2, nR, slR, oR⟩ := Hk.tup2S_ok (c.fact (f := fk287) 287 rfl)
  obtain ⟨tkD, gD⟩ := Hk.str_ok (c.fact (f := fk288) 288 rfl)
  obtain ⟨tkM, gM⟩ := Hk.int_ok (c.fact (f := fk289) 289 rfl)
  exact all_mk (CSite := 309) (CTrial := 456) (aR := 461) (LE := 31) (fN := 188) (fK := 195) (fCr := 320) (fCu := 327) (fCl := 334) (fSo := 339) (fTo := 344) (fTd := 351) (fGr := 358) (fSl := 365) (fLk := 372) (fFi := 377) (fRb := 384) (fLs := 389) (fFs := 396) (fSb := 401) (fRd := 466) (fNl := 478) (fIw := 483) (fIl := 488) (fIn := 500) (fRt := 473) (fIt := 495) (fB := 505) (fT := 512) (fXi := 517) (fXs := 522) (fXt := 529) (fNw := 536) (fGl := 543) (fBe := 550) (fFb := 557) (fOu := 564) (fL := 571) (CEB := 53) (CEN := 74) (CET := 95) (CEP := 116) (CEM := 137) (CES := 158) (CEL := 179) (fMi := 209) (fTi := 415) (fiEB := 50) (fiEN := 71) (fiET := 92) (fiEP := 113) (fiEM := 134) (fiES := 155) (fiEL := 176) X G hfa htop (Hk.of_ (c.fact (f := fk50) 50 rfl)) (Hk.of_ (c.fact (f := fk51) 51 rfl)) (Hk.of_ (c.fact (f := fk52) 52 rfl)) (Hk.of_ (c.fact (f := fk53) 53 rfl)) (Hk.of_ (c.fact (f := fk54) 54 rfl)) lN cN (c.fact (f := fk55) 55 rfl) (Hk.of_ (c.fact (f := fk56) 56 rfl)) lK cK (c.fact (f := fk57) 57 rfl) (Hk.of_ (c.fact (f := fk58) 58 rfl)) lCr cCr (c.fact (f := fk59) 59 rfl) (Hk.of_ (c.fact (f := fk60) 60 rfl)) lCu cCu (c.fact (f := fk61) 61 rfl) (Hk.of_ (c.fact (f := fk62) 62 rfl)) lCl cCl (c.fact (f := fk63) 63 rfl) (Hk.of_ (c.fact (f := fk64) 64 rfl)) lSo cSo (c.fact (f := fk65) 65 rfl) (Hk.of_ (c.fact (f := fk66) 66 rfl)) lTo cTo (c.fact (f := fk67) 67 rfl) (Hk.of_ (c.fact (f := fk68) 68 rfl)) lTd cTd (c.fact (f := fk69) 69 rfl) (Hk.of_ (c.fact (f := fk70) 70 rfl)) lGr cGr (c.fact (f := fk71) 71 rfl) (Hk.of_ (c.fact (f := fk72) 72 rfl)) lSl cSl (c.fact (f := fk73) 73 rfl) (Hk.of_ (c.fact (f := fk74) 74 rfl)) lLk cLk (c.fact (f := fk75) 75 rfl) (Hk.of_ (c.fact (f := fk76) 76 rfl)) lFi cFi (c.fact (f := fk77) 77 rfl) (Hk.of_ (c.fact (f := fk78) 78 rfl)) lRb cRb (c.fact (f := fk79) 79 rfl) (Hk.of_ (c.fact (f := fk80) 80 rfl)) lLs cLs (c.fact (f := fk81) 81 rfl) (Hk.of_ (c.fact (f := fk82) 82 rfl)) lFs cFs (c.fact (f := fk83) 83 rfl) (Hk.of_ (c.fact (f := fk84) 84 rfl)) lSb cSb (c.fact (f := fk85) 85 rfl) (Hk.of_ (c.fact (f := fk86) 86 rfl)) lMi cMi (c.fact (f := fk87) 87 rfl) (c.fact (f := fk88) 88 rfl) dMi (Hk.of_ (c.fact (f := fk89) 89 rfl)) lTi cTi (c.fact (f := fk90) 90 rfl) (c.fact (f := fk91) 91 rfl) (Hk.of_ (c.fact (f := fk92) 92 rfl)) lRd cRd (c.fact (f := fk93) 93 rfl) (Hk.of_ (c.fact (f := fk94) 94 rfl)) lNl cNl (c.fact (f := fk95) 95 rfl) (Hk.of_ (c.fact (f := fk96) 96 rfl)) lIw cIw (c.fact (f := fk97) 97 rfl) (Hk.of_ (c.fact (f := fk98) 98 rfl)) lIl cIl (c.fact (f := fk99) 99 rfl) (Hk.of_ (c.fact (f := fk100) 100 rfl)) lIn cIn (c.fact (f := fk101) 101 rfl) (Hk.of_ (c.fact (f := fk102) 102 rfl)) lRt cRt (c.fact (f := fk103) 103 rfl) (Hk.of_ (c.fact (f := fk104) 104 rfl)) lIt cIt (c.fact (f := fk105) 105 rfl) (Hk.of_ (c.fact (f := fk106) 106 rfl)) lB cB (c.fact (f := fk107) 107 rfl) (Hk.of_ (c.fact (f := fk108) 108 rfl)) lT cT (c.fact (f := fk109) 109 rfl) (Hk.of_ (c.fact (f := fk110) 110 rfl)) lXi cXi (c.fact (f := fk111) 111 rfl) (Hk.of_ (c.fact (f := fk112) 112 rfl)) lXs cXs (c.fact (f := fk113) 113 rfl) (Hk.of_ (c.fact (f := fk114) 114 rfl)) lXt cXt (c.fact (f := fk115) 115 rfl) (Hk.of_ (c.fact (f := fk116) 116 rfl)) lNw cNw (c.fact (f := fk117) 117 rfl) (Hk.of_ (c.fact (f := fk118) 118 rfl)) lGl cGl (c.fact (f := fk119) 119 rfl) (Hk.of_ (c.fact (f := fk120) 120 rfl)) lBe cBe (c.fact (f := fk121) 121 rfl) (Hk.of_ (c.fact (f := fk122) 122 rfl)) lFb cFb (c.fact (f := fk123) 123 rfl) (Hk.of_ (c.fact (f := fk124) 124 rfl)) lOu cOu (c.fact (f := fk125) 125 rfl) (Hk.of_ (c.fact (f := fk126) 126 rfl)) lL cL (c.fact (f := fk127) 127 rfl) (Hk.of_ (c.fact (f := fk128) 128 rfl)) (Hk.of_ (c.fact (f := fk129) 129 rfl)) (Hk.of_ (c.fact (f := fk130) 130 rfl)) xEB bvEB (Hk.of_ (c.fact (f := fk131) 131 rfl)) (Hk.of_ (c.fact (f := fk132) 132 rfl)) (Hk.of_ (c.fact (f := fk133) 133 rfl)) (Hk.of_ (c.fact (f := fk134) 134 rfl)) (Hk.of_ (c.fact (f := fk135) 135 rfl)) (Hk.of_ (c.fact (f := fk136) 136 rfl)) lEB coEB lkEB vkEBx (by rw [hP]; exact beq_self_eq_true _) leEB (Hk.of_ (c.fact (f := fk137) 137 rfl)) (Hk.of_ (c.fact (f := fk138) 138 rfl)) (Hk.of_ (c.fact (f := fk139) 139 rfl)) (c.fact (f := fk140) 140 rfl) (Hk.of_ (c.fact (f := fk141) 141 rfl)) (Hk.of_ (c.fact (f := fk142) 142 rfl)) (c.fact (f := fk143) 143 rfl) (Hk.of_ (c.fact (f := fk144) 144 rfl)) (Hk.of_ (c.fact (f := fk145) 145 rfl)) xEN bvEN (Hk.of_ (c.fact (f := fk146) 146 rfl)) (Hk.of_ (c.fact (f := fk147) 147 rfl)) (Hk.of_ (c.fact (f := fk148) 148 rfl)) (Hk.of_ (c.fact (f := fk149) 149 rfl)) (Hk.of_ (c.fact (f := fk150) 150 rfl)) (Hk.of_ (c.fact (f := fk151) 151 rfl)) lEN coEN lkEN vkENx (by rw [hP]; exact beq_self_eq_true _) leEN (Hk.of_ (c.fact (f := fk152) 152 rfl)) (Hk.of_ (c.fact (f := fk153) 153 rfl)) (Hk.of_ (c.fact (f := fk154) 154 rfl)) (c.fact (f := fk155) 155 rfl) (Hk.of_ (c.fact (f := fk156) 156 rfl)) (Hk.of_ (c.fact (f := fk157) 157 rfl)) (c.fact (f := fk158) 158 rfl) (Hk.of_ (c.fact (f := fk159) 159 rfl)) (Hk.of_ (c.fact (f := fk160) 160 rfl)) xET bvET (Hk.of_ (c.fact (f := fk161) 161 rfl)) (Hk.of_ (c.fact (f := fk162) 162 rfl)) (Hk.of_ (c.fact (f := fk163) 163 rfl)) (Hk.of_ (c.fact (f := fk164) 164 rfl)) (Hk.of_ (c.fact (f := fk165) 165 rfl)) (Hk.of_ (c.fact (f := fk166) 166 rfl)) lET coET lkET vkETx (by rw [hP]; exact beq_self_eq_true _) leET (Hk.of_ (c.fact (f := fk167) 167 rfl)) (Hk.of_ (c.fact (f := fk168) 168 rfl)) (Hk.of_ (c.fact (f := fk169) 169 rfl)) (c.fact (f := fk170) 170 rfl) (Hk.of_ (c.fact (f := fk171) 171 rfl)) (Hk.of_ (c.fact (f := fk172) 172 rfl)) (c.fact (f := fk173) 173 rfl) (Hk.of_ (c.fact (f := fk174) 174 rfl)) (Hk.of_ (c.fact (f := fk175) 175 rfl)) xEP bvEP (Hk.of_ (c.fact (f := fk176) 176 rfl)) (Hk.of_ (c.fact (f := fk177) 177 rfl)) (Hk.of_ (c.fact (f := fk178) 178 rfl)) (Hk.of_ (c.fact (f := fk179) 179 rfl)) (Hk.of_ (c.fact (f := fk180) 180 rfl)) (Hk.of_ (c.fact (f := fk181) 181 rfl)) lEP coEP lkEP vkEPx (by rw [hP]; exact beq_self_eq_true _) leEP (Hk.of_ (c.fact (f := fk182) 182 rfl)) (Hk.of_ (c.fact (f := fk183) 183 rfl)) (Hk.of_ (c.fact (f := fk184) 184 rfl)) (c.fact (f := fk185) 185 rfl) (Hk.of_ (c.fact (f := fk186) 186 rfl)) (Hk.of_ (c.fact (f := fk187) 187 rfl)) (c.fact (f := fk188) 188 rfl) (Hk.of_ (c.fact (f := fk189) 189 rfl)) (Hk.of_ (c.fact (f := fk190) 190 rfl)) xEM bvEM (Hk.of_ (c.fact (f := fk191) 191 rfl)) (Hk.of_ (c.fact (f := fk192) 192 rfl)) (Hk.of_ (c.fact (f := fk193) 193 rfl)) (Hk.of_ (c.fact (f := fk194) 194 rfl)) (Hk.of_ (c.fact (f := fk195) 195 rfl)) (Hk.of_ (c.fact (f := fk196) 196 rfl)) lEM coEM lkEM vkEMx (by rw [hP]; exact beq_self_eq_true _) leEM (Hk.of_ (c.fact (f := fk197) 197 rfl)) (Hk.of_ (c.fact (f := fk198) 198 rfl)) (Hk.of_ (c.fact (f := fk199) 199 rfl)) (c.fact (f := fk200) 200 rfl) (Hk.of_ (c.fact (f := fk201) 201 rfl)) (Hk.of_ (c.fact (f := fk202) 202 rfl)) (c.fact (f := fk203) 203 rfl) (Hk.of_ (c.fact (f := fk204) 204 rfl)) (Hk.of_ (c.fact (f := fk205) 205 rfl)) xES bvES (Hk.of_ (c.fact (f := fk206) 206 rfl)) (Hk.of_ (c.fact (f := fk207) 207 rfl)) (Hk.of_ (c.fact (f := fk208) 208 rfl)) (Hk.of_ (c.fact (f := fk209) 209 rfl)) (Hk.of_ (c.fact (f := fk210) 210 rfl)) (Hk.of_ (c.fact (f := fk211) 211 rfl)) lES coES lkES vkESx (by rw [hP]; exact beq_self_eq_true _) leES (Hk.of_ (c.fact (f := fk212) 212 rfl)) (Hk.of_ (c.fact (f := fk213) 213 rfl)) (Hk.of_ (c.fact (f := fk214) 214 rfl)) (c.fact (f := fk215) 215 rfl) (Hk.of_ (c.fact (f := fk216) 216 rfl)) (Hk.of_ (c.fact (f := fk217) 217 rfl)) (c.fact (f := fk218) 218 rfl) (Hk.of_ (c.fact (f := fk219) 219 rfl)) (Hk.of_ (c.fact (f := fk220) 220 rfl)) xEL bvEL (Hk.of_ (c.fact (f := fk221) 221 rfl)) (Hk.of_ (c.fact (f := fk222) 222 rfl)) (Hk.of_ (c.fact (f := fk223) 223 rfl)) (Hk.of_ (c.fact (f := fk224) 224 rfl)) (Hk.of_ (c.fact (f := fk225) 225 rfl)) (Hk.of_ (c.fact (f := fk226) 226 rfl)) lEL coEL lkEL vkELx (by rw [hP]; exact beq_self_eq_true _) leEL (Hk.of_ (c.fact (f := fk227) 227 rfl)) (Hk.of_ (c.fact (f := fk228) 228 rfl)) (Hk.of_ (c.fact (f := fk229) 229 rfl)) (c.fact (f := fk230) 230 rfl) (Hk.of_ (c.fact (f := fk231) 231 rfl)) (Hk.of_ (c.fact (f := fk232) 232 rfl)) (c.fact (f := fk233) 233 rfl) (Hk.of_ (c.fact (f := fk234) 234 rfl)) (Hk.of_ (c.fact (f := fk235) 235 rfl)) (Hk.of_ (c.fact (f := fk236) 236 rfl)) (Hk.of_ (c.fact (f := fk237) 237 rfl)) (Hk.of_ (c.fact (f := fk238) 238 rfl)) (Hk.of_ (c.fact (f := fk239) 239 rfl)) (Hk.of_ (c.fact (f := fk240) 240 rfl)) (Hk.of_ (c.fact (f := fk241) 241 rfl)) (Hk.of_ (c.fact (f := fk242) 242 rfl)) (Hk.of_ (c.fact (f := fk243) 243 rfl)) (Hk.of_ (c.fact (f := fk244) 244 rfl)) (c.fact (f := fk245) 245 rfl) (c.fact (f := fk246) 246 rfl) (c.fact (f := fk247) 247 rfl) (Hk.of_ (c.fact (f := fk248) 248 rfl)) (Hk.of_ (c.fact (f := fk249) 249 rfl)) (Hk.of_ (c.fact (f := fk250) 250 rfl)) (Hk.of_ (c.fact (f := fk251) 251 rfl)) (Hk.of_ (c.fact (f := fk252) 252 rfl)) (Hk.of_ (c.fact (f := fk253) 253 rfl)) (Hk.of_ (c.fact (f := fk254) 254 rfl)) (Hk.of_ (c.fact (f := fk255) 255 rfl)) (Hk.of_ (c.fact (f := fk256) 256 rfl)) (c.fact (f := fk257) 257 rfl) (c.fact (f := fk258) 258 rfl) tLT tLG tMP tGR (Hk.of_ (c.fact (f := fk263) 263 rfl)) (Hk.of_ (c.fact (f := fk264) 264 rfl)) (Hk.of_ (c.fact (f := fk265) 265 rfl)) (Hk.of_ (c.fact (f := fk266) 266 rfl)) (Hk.of_ (c.fact (f := fk267) 267 rfl)) (Hk.of_ (c.fact (f := fk268) 268 rfl)) (Hk.of_ (c.fact (f := fk269) 269 rfl)) (Hk.of_ (c.fact (f := fk270) 270 rfl)) (Hk.of_ (c.fact (f := fk271) 271 rfl)) (Hk.of_ (c.fact (f := fk272) 272 rfl)) (Hk.of_ (c.fact (f := fk273) 273 rfl)) (Hk.of_ (c.fact (f := fk274) 274 rfl)) (Hk.of_ (c.fact (f := fk275) 275 rfl)) (Hk.of_ (c.fact (f := fk276) 276 rfl)) (c.fact (f := fk277) 277 rfl) (c.fact (f := fk278) 278 rfl) (c.fact (f := fk279) 279 rfl) (c.fact (f := fk280) 280 rfl) (Hk.of_ (c.fact (f := fk281) 281 rfl)) (c.fact (f := fk282) 282 rfl) (c.fact (f := fk283) 283 rfl) (Hk.of_ (c.fact (f := fk284) 284 rfl)) (Hk.of_ (c.fact (f := fk285) 285 rfl)) (Hk.of_ (c.fact (f := fk286) 286 rfl)) oR gD gM
end Law
open PySem PySem.W PySem.Calls PyProof.Rows
set_option maxRecDepth 100000 in
set_option maxHeartbeats 0 in
theorem PySem.Challenge.cw_rungbounds_k60_whole_lines_refused_holds : PySem.Challenge.rw_rungbounds_k60_whole_lines_refused.Holds := by
  w_on; o_law
  refine HandSHeadRun.head_any (r := OpenLaw.row PySem.Challenge.rw_rungbounds_k60_whole_lines_refused) (q := HkRun.qv) (H := HkRun.hk) (ob := HkRun.ob) (M := 9000) (loose := HkE.nmsH) (d := HandSHeadRun.topDef (OpenLaw.row PySem.Challenge.rw_rungbounds_k60_whole_lines_refused).prog 57) (kwd := []) HkRun.ob_eq
    (by kernel_rfl) (fun s => by kernel_rfl) HkRun.run (by kernel_rfl) (by kernel_rfl) (by kernel_rfl) (by rfl) (by first | assumption | decide +kernel) (by decide +kernel) ⟨rfl, rfl, rfl, rfl, rfl, by decide +kernel⟩ ?hw ?hc
  case hw => w_witness2
  case hc =>
    refine L2.walk_ofE (l := PySem.Challenge.rw_rungbounds_k60_whole_lines_refused) (n := 63) (k := 11) (x := "_law_script") (CX := L2.CX0) rfl (by decide) (by kernel_rfl) ⟨rfl, by decide, by decide⟩ ?F (fun _ _ _ _ z => z)
    intro w mg fa h Y G hmg0
    obtain ⟨K, KX, c⟩ := Y
    have hmg : mg ("law" : PySem.Str) = some (.ref fa) := by
      have e : (HandSHeadRun.topDef (OpenLaw.row PySem.Challenge.rw_rungbounds_k60_whole_lines_refused).prog 57).name = ("law" : PySem.Str) := by kernel_rfl
      rw [← e]
      exact hmg0
    obtain ⟨fd, hb, hF⟩ := Law.all_ok (P := (PySem.Challenge.rw_rungbounds_k60_whole_lines_refused).prog) (w := w) KX G hmg (by rfl) rfl c
    exact ⟨K, fd, Law.spLaw K, KX, hb, fun H a ns hl _ hS => ⟨a, ns, rfl, hS, hl, fun _ => rfl⟩, hF⟩
